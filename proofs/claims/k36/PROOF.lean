import PyProof.Rows.All
import Wide.All
import OpenK.AllK
import Wide.FinOn
import Lean
import PyProof.EqAt
import PyProof.EqKinds
import PyProof.TupleCall
import PyProof.NeKinds
import PyProof.TupleKey
import PyProof.DictFindH
import PyProof.NsDelKeeps
import PyProof.ExcBaseAll.ValueError
import KE.KIsAll
import PyProof.ExcArgsOwn
import PyProof.ExcAttrAll.ValueError
import KE.KSortTup
import KE.KDictList
import PyProof.Rows.SortWalk
import KE.KEqDict
import KE.KLam
import KE.KRevIter
import PyProof.InstStoreFacts
import PyProof.ExcClass3
import PyProof.Rows.SumAny
import PyProof.Rows.StrStep
import PyProof.SetScanFacts
import PyProof.SetKind
import PyProof.DictKinds
import PyProof.DictStraight
import PyProof.DictIter
import PyProof.WalksS
import PyProof.FactsAll.set
import PyProof.FactsAll.dict_keyiterator
import PyProof.MakeMany
import PyProof.CollectWalk
import PyProof.ListNew
import PyProof.SetNew
import PyProof.ListRange
import PyProof.Rows.SetFrom
import PySem.Challenge.RW_twigmap_k36_way_checked
set_option Elab.async false
set_option linter.all false
set_option maxRecDepth 100000
set_option maxHeartbeats 8000000
open PySem.W renaming Frag->zAA, findIn->zAX, kitOne->zAZ, nsIn->zAc, mg_none_of->zAp, keepIn->zAu, mroIn->zAw, mg_of->zAx, Looks->zAz, typeIn->zBA, kia_one->zBB, fnOf->zBF, emptyDict->zBK, instObj->zBV, hasDictIn->zBW, codeIn->zBa, plainGet->zBm, isFn->zBp, callWith_K->zBv, looks_findIn->zB1, looks_mroIn->zB6, hideAll->zB7, lookIn->zB9, plainOver->zCB, any_some->zCI, makesIn->zCP, KdlSrc->zCS, plainGet_of->zCX, looks_clsIn->zCY, callWith_K0->zCZ, excIn->zCd, methodObj->zCg, takerIn->zCs, OpenLaw->zCt, InstAt->zC3, cellsFrom_some->zDE, methodCall_KW->zDJ, looks_typeIn->zDL, hideAll_none->zDM, hideAll_get->zDP, tail_of_in->zDU, of_hideAll->zDV
open Nat renaming le_of_ble_eq_true->zAB, le_refl->zAH, zero_le->zAd, lt_or_ge->zAe, ne_of_lt->zAg, lt_of_lt_of_le->zAl, le_trans->zBC, le_of_lt->zBH, not_lt_zero->zBI, lt_irrefl->zBc, lt_succ_self->zBe, lt_succ_of_lt->zB0, le_succ->zCA, ne_of_gt->zCG, le_of_eq->zCa, lt_or_eq_of_le->zCn, lt_trans->zCx, le_of_not_lt->zC5
open List renaming getD_eq_getElem?_getD->zAC, length_map->zAD, getElem?_eq_getElem->zAE, length_append->zAI, mem_of_getElem?->zAJ, getElem?_eq_some_iff->zAK, size_toArray->zAL, getElem?_map->zAM, mem_cons_of_mem->zAN, all_eq_true->zAO, mem_singleton->zAS, mem_cons_self->zAT, take_of_length_le->zAU, map_append->zAV, length_cons->zAW, mem_map->zAb, mem_cons->zAf, range->zAi, mem_append_right->zAk, mem_append->zAm, map_cons->zAn, take_add_one->zAo, getElem?_append_right->zAv, append_nil->zA0, getElem?_append_left->zA2, mem_range->zA7, length_take->zA8, mem_append_left->zA9, lookup_cons->zBD, getElem_mem->zBE, toArray->zBG, mem_iff_getElem?->zBL, length_singleton->zBM, pairwise_cons->zBN, eq_nil_of_length_eq_zero->zBO, range'->zBP, nodup_cons->zBQ, filterMap_cons->zBR, length_drop->zBS, filter_append->zBT, pairwise_iff_getElem->zBU, length_nil->zBY, flatten_cons->zBZ, lookup->zBb, not_mem_nil->zBd, replicate->zBf, length->zBh, find?_cons->zBi, cons_lt_cons_iff->zBj, nodup_append->zBk, flatMap_cons->zBl, getElem?_of_mem->zBn, filter_cons->zBu, range_succ->zBx, take_append_drop->zB2, map_map->zB3, flatMap_def->zB4, any_eq_true->zB5, not_lt_nil->zB8, zip_cons_cons->zCC, mem_filterMap->zCD, map_nil->zCE, getElem?_take->zCF, drop_eq_getElem_cons->zCH, append_assoc->zCJ, any_cons->zCM, all_cons->zCN, cons_append->zCQ, getElem?_set_self->zCR, mem_filter->zCT, getElem?_eq_none->zCU, eq_nil_or_concat->zCV, concat_eq_append->zCW, pairwise_append->zCb, getElem?_set_ne->zCc, map_congr_left->zCe, filter_eq_self->zCf, sum_cons->zCi, map_take->zCj, map_drop->zCk, Pairwise->zCl, length_range->zCq, getElem?_inj->zCr, all_map->zCu, nil_lt_cons->zCy, mem_flatten->zCz, mem_flatMap->zC0, getElem_map->zC1, ext_getElem->zC2, dropLast_concat_getLast->zC6, sum_append->zC8, sublist_flatten_of_mem->zC9, of_mem_zip->zDA, forIn_cons->zDB, foldl_cons->zDC, take_zero->zDH, getLast_eq_getElem->zDN, range_succ_eq_map->zDQ, pairwise_lt_range->zDR, drop_of_length_le->zDS, pairwise_flatMap->zDW, length_filter_le->zDX
open Bool renaming false_ne_true->zAF, and_eq_true->zAR, false_eq_true->zA3, false_and->zBr, eq_iff_iff->zBy, true_and->zCO, not_true->zCm
open PySem.Heap renaming get?_push_of_some->zAG, lt_size->zAP, get?_push_size->zAQ, get?_update_other->zAq, get?_update_self->zA5, SameBut->zA6, get?_none_of_le->zBo, size_push->zBq
open Array renaming getElem?_eq_getElem->zAY, getElem?_toList->zAj, getElem?_eq_some_iff->zA1, length_toList->zA4, forIn_toList->zCh, toList_push->zCo, getElem?_eq_none->zDO, toList->zDT, mem_toList_iff->zDY
open Option renaming map_eq_some_iff->zAa, some->zAh, map_some->zBX, isSome_iff_exists->zBt, getD_none->zCp, none->zCw, bind_eq_some_iff->zDG
open PySem.F renaming plainAttrs_list->zAr, type_list_append->zAs, slot_list_append->zAt, plain_max_loop->zBJ, slot_dict_keyiterator_next->zBs, slot_tuple_hash->zBw, entry_max_loop->zCK, excBase_ValueError->zCv, slot_dict_getitem->zC4, store_ValueError->zC7, plain_list_iadd->zDD, slot_dict_iter->zDF, slot_dict_pop->zDK
open PySem.Str renaming ofString->zAy
open Int renaming emod_lt_of_pos->zBg, emod_nonneg->zBz, toNat_natCast->zCL, fdiv_eq_ediv_of_nonneg->zDI
abbrev ja:=PySem.Value->PySem.Shared->Prop
abbrev jb:=PySem.Str->Option PySem.Value
abbrev jc:=Option PySem.Value
abbrev jd:=List PySem.Value
namespace L2
open PySem PySem.Spec PyProof.Rows
abbrev ZZ:=Sum Int Str
def Qy:ZZ->Value->Bool
 | .inl k,v=>Value.isInt k v
 | .inr x,v=>Value.isStrOf x v
def HA(w:World):ZZ->Int
 | .inl k=>hashInt k
 | .inr x=>hashStr w x
theorem Us:∀{k:ZZ}{v:Value},Qy k v=true->(∃ i t,k=Sum.inl i/\v=Value.int i t)\/(∃ x t,k=Sum.inr x/\v=Value.str x t)
 | .inl i,v,h=>by
  obtain ⟨t,e⟩:=Value.isInt_shape (k:=i) (v:=v) h;exact .inl ⟨i,t,rfl,e⟩
 | .inr x,v,h=>by
  obtain ⟨t,e⟩:=Value.isStrOf_shape (x:=x) (v:=v) h;exact .inr ⟨x,t,rfl,e⟩
theorem Er(i:Int)(t:Tok):Qy (.inl i) (.int i t)=true:=by simp [Qy,Value.isInt]
theorem GD(x:Str)(t:Tok):Qy (.inr x) (.str x t)=true:=by simp [Qy,Value.isStrOf]
theorem AJ(a b:Int):decide ((Sum.inl a:ZZ)=Sum.inl b)=(a==b):=by
 by_cases e:a=b
 ·subst e;simp
 ·have h:¬ (Sum.inl a:ZZ)=Sum.inl b:=fun q=>e (Sum.inl.inj q);rw [decide_eq_false h];exact (beq_eq_false_iff_ne.mpr e).symm
theorem Cg(a b:Str):decide ((Sum.inr a:ZZ)=Sum.inr b)=decide (a=b):=by
 by_cases e:a=b
 ·subst e;simp
 ·have h:¬ (Sum.inr a:ZZ)=Sum.inr b:=fun q=>e (Sum.inr.inj q);rw [decide_eq_false h,decide_eq_false e]
theorem Df(a:Int)(b:Str):decide ((Sum.inl a:ZZ)=Sum.inr b)=false:=decide_eq_false (fun q=>nomatch q)
theorem ZNM(a:Str)(b:Int):decide ((Sum.inr a:ZZ)=Sum.inl b)=false:=decide_eq_false (fun q=>nomatch q)
def VQ(prog:Program)(w:World):PySem.KeyKind prog w ZZ where
 is:=Qy
 hash:=HA w
 inj:=fun v a b ha hb=>by
  rcases Us ha with ⟨i,t,rfl,rfl⟩ | ⟨x,t,rfl,rfl⟩
  ·rcases Us hb with ⟨j,u,rfl,e⟩ | ⟨y,u,rfl,e⟩
   ·injection e with e1 _;rw [e1]
   ·exact nomatch e
  ·rcases Us hb with ⟨j,u,rfl,e⟩ | ⟨y,u,rfl,e⟩
   ·exact nomatch e
   ·injection e with e1 _;rw [e1]
 byValue:=fun k v h=>by
  rcases Us h with ⟨i,t,rfl,rfl⟩ | ⟨x,t,rfl,rfl⟩ <;> rfl
 pyHash:=fun hv h=>by
  rcases Us hv with ⟨i,t,rfl,rfl⟩ | ⟨x,t,rfl,rfl⟩
  ·exact wpAny_pyHash_int h
  ·exact wpAny_pyHash_str h
 eqBool:=fun hu hv h=>by
  rcases Us hu with ⟨i,t,rfl,rfl⟩ | ⟨x,t,rfl,rfl⟩
  ·rcases Us hv with ⟨j,u,rfl,rfl⟩ | ⟨y,u,rfl,rfl⟩
   ·rw [AJ] at h;exact wpAny_eqBool_int h
   ·rw [Df] at h;exact SeqAt.EqAt.int_str i t y u _ _ _ _ h
  ·rcases Us hv with ⟨j,u,rfl,rfl⟩ | ⟨y,u,rfl,rfl⟩
   ·rw [ZNM] at h;exact SeqAt.EqAt.str_int x t j u _ _ _ _ h
   ·rw [Cg] at h;exact wpAny_eqBool_str h
 «strs» :=fun k x t v h=>by
  rcases Us h with ⟨i,u,rfl,e⟩ | ⟨y,u,rfl,e⟩
  ·exact nomatch e
  ·injection e with e1 _;subst e1;cases v <;> rfl
theorem Be(prog:Program)(w:World)(i:Int)(t:Tok):(VQ prog w).is (.inl i) (.int i t)=true:=Er i t
theorem CV(prog:Program)(w:World)(x:Str)(t:Tok):(VQ prog w).is (.inr x) (.str x t)=true:=GD x t
inductive V where
 | non | bl (b:Bool) | int (i:Int) | str (x:Str) | byt (b:Array UInt8) | flt (b:UInt64) | ref (a:Addr) | ty (n:String)
 deriving DecidableEq
abbrev je:=List V
abbrev jf:=Option V
def ZR:V->Value->Prop
 | .non,u=>u=Value.none
 | .bl b,u=>u=Value.bool b
 | .int i,u=>∃ t,u=Value.int i t
 | .str x,u=>∃ t,u=Value.str x t
 | .byt b,u=>∃ t,u=Value.bytes b t
 | .flt b,u=>∃ t,u=Value.float b t
 | .ref a,u=>u=Value.ref a
 | .ty n,u=>u=Value.type n
abbrev ZP:je->jd->Prop:=Paired ZR
theorem ZP.length{xs:je}{us:jd}(r:ZP xs us):xs.length=us.length:=Paired.length r
theorem ZP.get:∀{xs:je}{us:jd}{i:Nat}{x:V},ZP xs us->xs[i]? = some x->∃ u,us[i]? = some u/\ZR x u
 | _,_,_,_,.nil,e=>by simp at e
 | _,_,0,_,.cons r _,e=>by simp at e;subst e;exact ⟨_,rfl,r⟩
 | _,_,i+1,x,.cons _ t,e=>by
  obtain ⟨u,h1,h2⟩:=ZP.get (i:=i) (x:=x) t (by simpa using e)
  exact ⟨u,by simpa using h1,h2⟩
theorem ZP.set{x:V}{u:Value}(r:ZR x u):∀{xs:je}{us:jd}(i:Nat),ZP xs us->ZP (xs.set i x) (us.set i u)
 | _,_,_,.nil=>.nil
 | _,_,0,.cons _ t=>.cons r t
 | _,_,i+1,.cons q t=>.cons q (ZP.set r i t)
theorem ZP.append:∀{xs ys:je}{us ws:jd},ZP xs us->ZP ys ws->ZP (xs++ys) (us++ws)
 | _,_,_,_,.nil,s=>s
 | _,_,_,_,.cons r t,s=>.cons r (ZP.append t s)
theorem ZP.take:∀{xs:je}{us:jd}(n:Nat),ZP xs us->ZP (xs.take n) (us.take n)
 | _,_,0,_=>.nil
 | _,_,_+1,.nil=>.nil
 | _,_,n+1,.cons r t=>.cons r (ZP.take n t)
theorem ZP.drop:∀{xs:je}{us:jd}(n:Nat),ZP xs us->ZP (xs.drop n) (us.drop n)
 | _,_,0,r=>r
 | _,_,_+1,.nil=>.nil
 | _,_,n+1,.cons _ t=>ZP.drop n t
def Yc:jf->jc->Prop
 | some v,some u=>ZR v u
 | none,none=>True
 | _,_=>False
def KV{κ:Type}:List (κ×V)->List (κ×Value)->Prop:=Paired fun(p:κ×V)(q:κ×Value)=>p.1=q.1/\ZR p.2 q.2
def kV:ZZ->V
 | .inl i=>.int i
 | .inr x=>.str x
inductive HO where
 | lst (xs:je)
 | tup (xs:je)
 | dK (kvs:List (ZZ×V)) | dT (kvs:List (List ZZ×V))
 | set (S:Int->Bool) (n:Nat)
 | ins (C dx:Addr) (fs:List (Str×V))
 | own (x:Addr)
 | xd (fs:List (Str×V))
 | met (f x:Addr)
 | rng (lo hi:Int)
 | frz (o:Obj) (u:HO)
 | tbl (ps:Array Value)
 | ext (φ:Heap->Prop)
abbrev Hp:=Addr->Option HO
def upd(H:Hp)(a:Addr)(o:HO):Hp:=fun b=>if b=a then some o else H b
theorem ZN{H:Hp}{a:Addr}{o:HO}:upd H a o a=some o:=by unfold upd;rw [if_pos rfl]
theorem ZX{H:Hp}{a b:Addr}{o:HO}(h:b≠a):upd H a o b=H b:=by unfold upd;rw [if_neg h]
theorem Oh{H:Hp}{a:Addr}{o u:HO}:upd (upd H a o) a u=upd H a u:=by
 funext b;unfold upd;split <;> rfl
theorem ZV{H:Hp}{a b:Addr}{o u:HO}(h:H a=some o)(h':H b=some u)(d:o≠u:=by intro z;cases z):a≠b:=by
 intro e;subst e;rw [h] at h';exact d (zAh.inj h')
theorem Zb{H:Hp}{a b:Addr}{o:HO}(h:H a=some o)(h':H b=none):a≠b:=by
 intro e;subst e;rw [h] at h';cases h'
section
variable(P:Program)(w:World)
def Ze(H:Hp)(h:Heap)(a:Addr):HO->Prop
 | .lst xs=>xs.length<=sizeLine/\∃(ji:jd)(n:Nat),ZP xs ji/\h.get? a=some { cls:=.type "list",data:=.seq ji.toArray n }
 | .tup xs=>xs.length<=sizeLine/\∃ ji:jd,ZP xs ji/\IsTup h a ji.toArray
 | .dK kvs=>kvs.length<=sizeLine/\(a==sysModules)=false/\∃ vs,KV kvs vs/\h.DictOf (VQ P w) a vs
 | .dT kvs=>kvs.length<=sizeLine/\(a==sysModules)=false/\∃ xs:List (List ZZ×Addr×Value),
   Paired (fun(p:List ZZ×V)(q:List ZZ×Addr×Value)=>p.1=q.1/\H q.2.1=some (.tup (p.1.map kV))/\ZR p.2 q.2.2) kvs xs /\
   ∃ o es ep,h.get? a=some o/\o.ExactDict/\o.data=.dict es ep/\es.toList=xs.map (entryOfKey (tupleKind (VQ P w)))/\(xs.map (·.1)).Nodup
 | .set S n=>h.SetOf (intKind P w) a S n
 | .ins C dx fs=>H dx=some (.own a)/\fs.length<=1000/\dx≠a/\h.get? a=some (zBV C dx) /\
   ∃ mA,h.Ns1 dx mA/\(∀ f,Yc (fs.lookup f) (mA f))/\PySem.Within mA (fs.map (·.1))
 | .own _=>∃ o,h.get? a=some o
 | .xd fs=>∃ mA,h.Ns1 a mA/\∀ f,Yc (fs.lookup f) (mA f)
 | .rng lo hi=>∃ t u v,h.get? a=some { cls:=.type "range",data:=.fields #[.int lo t,.int hi u,.int 1 v] }
 | .frz o u=>h.get? a=some o/\Ze H h a u
 | .tbl ps=>h.get? a=some { cls:=.none,data:=.fields ps }
 | .met f x=>h.get? a=some (zCg (.ref f) (.ref x))
 | .ext φ=>φ h/\(∃ o,h.get? a=some o)/\∀ h1 h2:Heap,φ h1->(∀ o,h1.get? a=some o->h2.get? a=some o)->φ h2
def Yi(H:Hp)(h:Heap):Prop:=∀ a o,H a=some o->Ze P w H h a o
end
section
variable{P:Program}{w:World}{H H':Hp}{h h':Heap}{a:Addr}{o:HO}
theorem Ze.lt(x:Ze P w H h a o):a<h.objs.size:=by
 cases o with
 | lst xs=>obtain ⟨_,_,_,_,e⟩:=x;exact zAP e
 | tup xs=>obtain ⟨_,_,_,p⟩:=x;exact p.lt
 | dK kvs=>obtain ⟨_,_,_,_,o,_,_,e,_⟩:=x;exact zAP e
 | dT kvs=>obtain ⟨_,_,_,_,o,_,_,e,_⟩:=x;exact zAP e
 | set S n=>obtain ⟨o,_,_,_,e,_⟩:=x;exact zAP e
 | ins C dx fs=>obtain ⟨_,_,_,e,_⟩:=x;exact zAP e
 | own y=>obtain ⟨_,e⟩:=x;exact zAP e
 | xd fs=>obtain ⟨_,⟨_,_,_,e,_⟩,_⟩:=x;exact zAP e
 | rng lo hi=>obtain ⟨_,_,_,e⟩:=x;exact zAP e
 | frz ob u=>obtain ⟨e,_⟩:=x;exact zAP e
 | tbl ps=>exact zAP (show h.get? a=some _ from x)
 | met f y=>exact zAP (show h.get? a=some _ from x)
 | ext φ=>obtain ⟨_,⟨_,e⟩,_⟩:=x;exact zAP e
theorem Paired.mapP{α β:Type}{F G:α->β->Prop}:∀{l₁:List α}{l₂:List β},Paired F l₁ l₂->(∀ a b,F a b->G a b)->Paired G l₁ l₂
 | _,_,.nil,_=>.nil
 | _,_,.cons r t,f=>.cons (f _ _ r) (Paired.mapP t f)
theorem Ze.stay(x:Ze P w H h a o)(k:∀ b u,(b=a\/H b=some (.own a))->h.get? b=some u->h'.get? b=some u)(ho:∀ b,H b=some (.own a)->H' b=some (.own a))(ht:∀ b xs,H b=some (.tup xs)->H' b=some (.tup xs)):Ze P w H' h' a o:=by
 induction o with
 | lst xs=>obtain ⟨z,ji,n,r,e⟩:=x;exact ⟨z,ji,n,r,k _ _ (.inl rfl) e⟩
 | tup xs=>obtain ⟨z,ji,r,ob,e,c⟩:=x;exact ⟨z,ji,r,ob,k _ _ (.inl rfl) e,c⟩
 | dK kvs=>obtain ⟨z,y,vs,r,ob,es,ep,e,c⟩:=x;exact ⟨z,y,vs,r,ob,es,ep,k _ _ (.inl rfl) e,c⟩
 | dT kvs=>
  obtain ⟨z,y,xs,r,ob,es,ep,e,c⟩:=x;exact ⟨z,y,xs,Paired.mapP r fun p q z=>⟨z.1,ht _ _ z.2.1,z.2.2⟩,ob,es,ep,k _ _ (.inl rfl) e,c⟩
 | set S n=>obtain ⟨ob,es,ep,t,e,c⟩:=x;exact ⟨ob,es,ep,t,k _ _ (.inl rfl) e,c⟩
 | ins C dx fs=>
  obtain ⟨d,z,ne,e,mA,⟨od,es,ep,e2,c⟩,r⟩:=x;exact ⟨ho _ d,z,ne,k _ _ (.inl rfl) e,mA,⟨od,es,ep,k _ _ (.inr d) e2,c⟩,r⟩
 | own y=>obtain ⟨ob,e⟩:=x;exact ⟨ob,k _ _ (.inl rfl) e⟩
 | xd fs=>obtain ⟨mA,⟨od,es,ep,e,c⟩,r⟩:=x;exact ⟨mA,⟨od,es,ep,k _ _ (.inl rfl) e,c⟩,r⟩
 | rng lo hi=>obtain ⟨t,u,v,e⟩:=x;exact ⟨t,u,v,k _ _ (.inl rfl) e⟩
 | frz ob u ih=>obtain ⟨e,q⟩:=x;exact ⟨k _ _ (.inl rfl) e,ih q⟩
 | tbl ps=>
  have e:h.get? a=some { cls:=.none,data:=.fields ps }:=x;show h'.get? a=some { cls:=.none,data:=.fields ps };exact k a _ (.inl rfl) e
 | met f y=>
  have e:h.get? a=some (zCg (.ref f) (.ref y)):=x;show h'.get? a=some (zCg (.ref f) (.ref y));exact k a _ (.inl rfl) e
 | ext φ=>obtain ⟨p,⟨o,e⟩,st⟩:=x;exact ⟨st _ _ p fun o q=>k _ _ (.inl rfl) q,⟨o,k _ _ (.inl rfl) e⟩,st⟩
theorem Yi.lt(x:Yi P w H h)(e:H a=some o):a<h.objs.size:=(x a o e).lt
theorem Yi.fresh(x:Yi P w H h)(e:h.objs.size<=a):H a=none:=by
 cases q:H a with
 | none=>rfl
 | some u=>exact absurd (zAl (x.lt q) e) (zBc _)
theorem Yi.kept(x:Yi P w H h)(k:∀ b u,h.get? b=some u->h'.get? b=some u):Yi P w H h':=fun a o e=>
 (x a o e).stay (fun b u _ q=>k b u q) (fun _ q=>q) fun _ _ q=>q
theorem Yi.laid(x:Yi P w H h)(k:∀ b u,h.get? b=some u->h'.get? b=some u)(hp:h.objs.size<=a)(new:Ze P w (upd H a o) h' a o):Yi P w (upd H a o) h':=fun b u e=>by
 have hn:=x.fresh hp;by_cases hb:b=a
 ·subst hb;rw [ZN] at e;cases e;exact new
 ·rw [ZX hb] at e;exact (x b u e).stay (fun c v _ q=>k c v q) (fun c q=>by rw [ZX (Zb q hn)];exact q) fun c xs q=>by rw [ZX (Zb q hn)];exact q
end
def Rd(H:Hp)(a:Addr)(u:HO):Prop:=H a=some u\/∃ o,H a=some (.frz o u)
theorem Rd.of{H:Hp}{a:Addr}{u:HO}(h:H a=some u):Rd H a u:=.inl h
theorem Rd.ok{P:Program}{w:World}{H:Hp}{h:Heap}{a:Addr}{u:HO}(r:Rd H a u)(x:Yi P w H h):Ze P w H h a u:=by
 rcases r with r | ⟨o,r⟩
 ·exact x a u r
 ·obtain ⟨_,q⟩:=x a _ r;exact q
def PH:Option HO->Prop
 | some (.lst _)=>True
 | some (.dK _)=>True
 | some (.dT _)=>True
 | some (.set _ _)=>True
 | some (.ins _ _ _)=>True
 | some (.ext _)=>True
 | _=>False
section
variable{P:Program}{w:World}{H:Hp}{h h':Heap}{x e:Addr}{o':HO}
theorem Yi.write(ok:Yi P w H h)(mu:PH (H x))(he:e=x\/H e=some (.own x))(k:∀ b u,b≠e->h.get? b=some u->h'.get? b=some u)(heo:∃ u,h'.get? e=some u)(new:Ze P w (upd H x o') h' x o'):Yi P w (upd H x o') h':=fun b u q=>by
 have nown:∀ c y,H c=some (.own y)->c≠x:=fun c y r z=>by subst z;rw [r] at mu;exact mu
 have ntup:∀ c xs,H c=some (.tup xs)->c≠x:=fun c xs r z=>by subst z;rw [r] at mu;exact mu
 by_cases hb:b=x
 ·subst hb;rw [ZN] at q;cases q;exact new
 ·rw [ZX hb] at q;by_cases hbe:b=e
  ·have q':H b=some (.own x):=by
    rcases he with z | z
    ·exact absurd (hbe.trans z) hb
    ·rw [hbe];exact z
   rw [q] at q';cases q';obtain ⟨v,hv⟩:=heo;exact ⟨v,by rw [hbe];exact hv⟩
  ·refine (ok b u q).stay (fun c v hc r=>k c v ?_ r) (fun c r=>by rw [ZX (nown c b r)];exact r) fun c xs r=>by rw [ZX (ntup c xs r)];exact r
   rcases hc with rfl | hc
   ·exact hbe
   ·rintro rfl;rcases he with z | z
    ·exact nown c b hc z
    ·rw [hc] at z;cases z;exact hb rfl
end
structure Un(fs ex:List Addr)(H H':Hp)(h h':Heap):Prop where
 keep:∀ b o,h.get? b=some o->H b=none->b∉fs->b∉ex->h'.get? b=some o
 slot:∀ b o,h.get? b=some o->H b=none->b∈fs->b∉ex->∃ sl,h'.get? b=some { o with slots:=sl }
 free:∀ b o,h.get? b=some o->H b=none->b∉ex->H' b=none
 there:∀ b o,h.get? b=some o->b∉ex->∃ o',h'.get? b=some o'
 tups:∀ b xs,H b=some (.tup xs)->H' b=some (.tup xs)
 frzs:∀ b o u,H b=some (.frz o u)->H' b=some (.frz o u)
 tbls:∀ b ps,H b=some (.tbl ps)->∃ more,H' b=some (.tbl (ps++more))
section
variable{fs fs' ex ex':List Addr}{H H1 H2:Hp}{h h1 h2 h':Heap}{a x e:Addr}{o:HO}
theorem Un.any(u:Un fs ex H H1 h h1){b:Addr}{ob:Obj}(q:h.get? b=some ob)(n:H b=none)(hx:b∉ex):∃ sl,h1.get? b=some { ob with slots:=sl }:=by
 by_cases hb:b∈fs
 ·exact u.slot b ob q n hb hx
 ·exact ⟨ob.slots,u.keep b ob q n hb hx⟩
theorem Un.kept(k:∀ b u,h.get? b=some u->h'.get? b=some u):Un fs ex H H h h':=
 ⟨fun b ob q _ _ _=>k b ob q,fun b ob q _ _ _=>⟨ob.slots,k b ob q⟩,fun _ _ _ n _=>n,fun b ob q _=>⟨ob,k b ob q⟩,fun _ _ q=>q,fun _ _ _ q=>q,fun _ ps q=>⟨#[],by rw [q];simp⟩⟩
theorem Un.refl:Un fs ex H H h h:=Un.kept fun _ _ q=>q
theorem Un.laid(k:∀ b u,h.get? b=some u->h'.get? b=some u)(hp:h.objs.size<=a)(hn:H a=none):Un fs ex H (upd H a o) h h' where
 keep:=fun b u q _ _ _=>k b u q
 slot:=fun b u q _ _ _=>⟨u.slots,k b u q⟩
 free:=fun b u q n _=>by rw [ZX (zAg (zAl (zAP q) hp))];exact n
 there:=fun b u q _=>⟨u,k b u q⟩
 tups:=fun b xs q=>by rw [ZX (Zb q hn)];exact q
 frzs:=fun b u xs q=>by rw [ZX (Zb q hn)];exact q
 tbls:=fun b ps q=>⟨#[],by rw [ZX (Zb q hn),q];simp⟩
theorem Un.write(mu:PH (H x))(he:e=x\/H e=some (.own x))(k:∀ b u,b≠e->h.get? b=some u->h'.get? b=some u)(heo:∃ u,h'.get? e=some u):Un fs ex H (upd H x o) h h':=by
 have hx:∀ b,H b=none->b≠x:=fun b n z=>by subst z;rw [n] at mu;exact mu
 have hb:∀ b,H b=none->b≠e:=fun b n z=>by
  subst z;rcases he with r | r
  ·exact hx b n r
  ·rw [n] at r;cases r
 have hm:∀ b u,H b=some u->¬ PH (some u)->b≠x:=fun b u q nm z=>by subst z;rw [q] at mu;exact nm mu
 refine ⟨fun b u q n _ _=>k b u (hb b n) q,fun b u q n _ _=>⟨u.slots,k b u (hb b n) q⟩,fun b u q n _=>by rw [ZX (hx b n)];exact n,fun b u q _=>?_,
  fun b xs q=>by rw [ZX (hm b _ q fun z=>z)];exact q,fun b u xs q=>by rw [ZX (hm b _ q fun z=>z)];exact q,fun b ps q=>⟨#[],by rw [ZX (hm b _ q fun z=>z),q];simp⟩⟩
 by_cases hbe:b=e
 ·subst hbe;exact heo
 ·exact ⟨u,k b u hbe q⟩
end
def Of(h:Heap)(H:Hp):List Addr:=(zAi h.objs.size).filter fun a=>(H a).isSome
def U6(h:Heap)(H:Hp):Heap:=zB7 h (Of h H)
theorem GL(h:Heap)(H:Hp):(U6 h H).objs.size=h.objs.size:=PySem.W.hideAll_size _ _
theorem B7{h:Heap}{H:Hp}{b:Addr}{o:Obj}(e:h.get? b=some o)(n:H b=none):(U6 h H).get? b=some o:=
 zDP _ e fun hm=>by
  have q:(H b).isSome=true:=(zCT.mp hm).2;rw [n] at q;simp at q
theorem ZMf{h:Heap}{H:Hp}{b:Addr}{o:Obj}(e:(U6 h H).get? b=some o):h.get? b=some o/\H b=none:=by
 have e':h.get? b=some o:=zDV (Of h H) e;refine ⟨e',?_⟩
 cases q:H b with
 | none=>rfl
 | some x=>
  have hm:b∈Of h H:=zCT.mpr ⟨zA7.mpr (zAP e'),by simp [q]⟩
  have z:(U6 h H).get? b=none:=zDM (Of h H) hm;rw [z] at e;cases e
def Bw(g h:Heap)(L:Addr):List (Addr×Obj):=(zAi h.objs.size).filterMap fun a=>if a=L\/(g.get? a).isSome=true then none else (h.get? a).map fun o=>(a,o)
def rest(g h:Heap)(L d:Addr):List (Addr×Obj):=(Bw g h L).filter fun p=>decide (p.1≠d)
structure Mod(K:zAA)(mg:jb)(base:Heap):Prop where
 kin:K.In base
 glob:base.Ns mainGlobals mg
 blt:∃ mb,base.Ns builtinsNs mb/\∀ x:Str,x ≠ "__name__"->mb x=bootBuiltins x
 nolimit:base.NoLimit
structure Cx where
 prog:Program
 w:World
 K:zAA
 mg:jb
 base:Heap
 A:Around
 N:List Str
 s₀:Shared
 H₀:Hp
 env:Env
 outer:List Env
 stack:List Env
 ex:List Addr
 fn:Str->Bool
 calm:Bool
 pn:List (Addr×Obj)
 xe:ja
def frs(l:List Env):List Addr:=l.filterMap (·.frame)
abbrev Cx.fs(X:Cx):List Addr:=frs X.outer
def Mx(sc:Scope)(x:Str):Prop:=sc.names.lookup x=some .local\/sc.names.lookup x=some .cell\/sc.names.lookup x=some .free
def PJ(sc:Scope)(x:Str):Prop:=sc.names.lookup x=some .local\/sc.names.lookup x=some .cell
def ZQL(env:Env)(h:Heap)(m:jb)(x:Str)(u:Value):Prop:=
 (env.kindOf x=some .local/\m x=some u)\/((env.kindOf x=some .cell\/env.kindOf x=some .free)/\∃ c,env.cells.lookup x=some c/\h.IsCell c (some u))
structure Cx.Ok(X:Cx):Prop where
 mod:Mod X.K X.mg X.base
 kind:X.env.scope.kind=.function
 glob:X.env.globals=mainGlobals
 blt:X.env.builtins=builtinsNs
 above:X.s₀.heap.objs.size<=X.env.locals
 inj:∀ x y c,X.env.cells.lookup x=some c->X.env.cells.lookup y=some c->x=y
 has:∀ x,(X.env.kindOf x=some .cell\/X.env.kindOf x=some .free)->∃ c,X.env.cells.lookup x=some c
 cab:∀ x c,X.fn x=true->X.env.cells.lookup x=some c->X.s₀.heap.objs.size<=c
 hd:X.calm=true->X.A.handled=none
 frames:X.A.frames=some X.stack
 stk:X.stack=X.outer\/(X.stack=X.env :: X.outer/\X.env.frame=some X.env.locals)
 exf:∀ b∈X.ex,b≠X.env.locals/\∀ x c,X.env.cells.lookup x=some c->c≠b
 bs:∀ b o,X.base.get? b=some o->X.s₀.heap.get? b=some o/\X.H₀ b=none
 bsz:X.base.objs.size<=X.s₀.heap.objs.size
 noex:∀ b o,X.base.get? b=some o->b∉X.ex
 exfs:∀ b∈X.ex,b∉X.fs
 funs:X.s₀.heap.FunFrames X.base X.outer
 frf:∀ b∈X.fs,X.H₀ b=none
structure ZI(X:Cx)(pins:List (Addr×Obj))(σ:List (jf))(H:Hp)(s:Shared):Prop where
 ok:X.Ok
 os:s.os=X.s₀.os
 bare:AllBare s.gens
 base:Un X.fs X.ex X.H₀ H X.s₀.heap s.heap
 loc:∃ m,s.heap.Ns X.env.locals m/\∀(i:Nat)(x:Str)(v:V),X.N[i]? = some x->σ[i]? = some (some v)->Mx X.env.scope x->∃ u,ZR v u/\ZQL X.env s.heap m x u
 cell:∀ x c,X.env.cells.lookup x=some c->∃ v,s.heap.IsCell c v
 free:H X.env.locals=none
 freeC:∀ x c,X.env.cells.lookup x=some c->H c=none
 pin:∀ p∈X.pn++pins,s.heap.get? p.1=some p.2/\H p.1=none/\p.1≠X.env.locals/\p.1∉X.fs/\∀ v,p.2.data≠.cell v
 hok:Yi X.prog X.w H s.heap
 len:σ.length=X.N.length
section
variable{X:Cx}{pins:List (Addr×Obj)}{σ:List (jf)}{H H':Hp}{s:Shared}{h':Heap}
theorem Cx.Ok.nofr(ok:X.Ok){b:Addr}{o:Obj}(e:X.base.get? b=some o):b∉X.fs:=fun hb=>by
 have:=(ok.funs.mem hb).1;rw [e] at this;cases this
theorem ZI.bs(I:ZI X pins σ H s):∀ b o,X.base.get? b=some o->s.heap.get? b=some o/\H b=none:=fun b o e=>
 ⟨I.base.keep b o (I.ok.bs b o e).1 (I.ok.bs b o e).2 (I.ok.nofr e) (I.ok.noex b o e),I.base.free b o (I.ok.bs b o e).1 (I.ok.bs b o e).2 (I.ok.noex b o e)⟩
theorem ZI.bk(I:ZI X pins σ H s):∀ b o,X.base.get? b=some o->s.heap.get? b=some o:=fun b o e=>(I.bs b o e).1
theorem ZI.mod(I:ZI X pins σ H s):Mod X.K X.mg X.base:=I.ok.mod
theorem ZI.kIn(I:ZI X pins σ H s):X.K.In s.heap:=I.ok.mod.kin.keeps I.bk
theorem ZI.lt(I:ZI X pins σ H s):X.env.locals<s.heap.objs.size:=let ⟨_,hn,_⟩:=I.loc;hn.lt
theorem ZI.sz(I:ZI X pins σ H s):X.s₀.heap.objs.size<=s.heap.objs.size:=zBC I.ok.above (zBH I.lt)
theorem ZI.nofs(I:ZI X pins σ H s){a:Addr}(h:s.heap.objs.size<=a):a∉X.fs:=fun hb=>by
 obtain ⟨_,o,ho,_⟩:=I.ok.funs.mem hb;exact absurd (zAl (zAP ho) (zBC I.sz h)) (zBc _)
theorem ZI.cne(I:ZI X pins σ H s):∀ x c,X.env.cells.lookup x=some c->c≠X.env.locals:=fun x c e z=>by
 obtain ⟨v,o,ho,hd⟩:=I.cell x c e;obtain ⟨m,⟨o',es,ep,ho',hd',_⟩,_⟩:=I.loc;rw [z,ho'] at ho;cases ho;rw [hd'] at hd;cases hd
theorem ZI.funs(I:ZI X pins σ H s):s.heap.FunFrames X.base X.outer:=by
 have all:∀(l:List Env),(∀ b∈frs l,b∈X.fs)->X.s₀.heap.FunFrames X.base l->s.heap.FunFrames X.base l:=by
  intro l
  induction l with
  | nil=>intro _ _;trivial
  | cons env r ih=>
   intro hs hl;obtain ⟨hk,⟨L,o,hf,hn,ho,hd⟩,hr⟩:=hl;have hL:L∈X.fs:=hs L (by unfold frs;rw [zBR,hf];exact zAT)
   obtain ⟨sl,e⟩:=I.base.slot L o ho (I.ok.frf L hL) hL fun z=>I.ok.exfs L z hL;exact ⟨hk,⟨L,_,hf,hn,e,hd⟩,ih (fun b hb=>hs b (by unfold frs;rw [zBR,hf];exact zAN _ hb)) hr⟩
 exact all X.outer (fun _ hb=>hb) I.ok.funs
theorem ZI.stack(I:ZI X pins σ H s):s.heap.FunFrames X.base X.stack:=by
 rcases I.ok.stk with e | ⟨e,hf⟩
 ·rw [e];exact I.funs
 ·rw [e];obtain ⟨m,hn,_⟩:=I.loc;refine .cons (by rw [I.ok.kind];decide) hf hn ?_ I.funs
  exact zBo (zBC I.ok.bsz I.ok.above)
theorem ZI.stkSub(I:ZI X pins σ H s):∀ b∈frs X.stack,b∈X.env.locals :: X.fs:=fun b hb=>by
 rcases I.ok.stk with e | ⟨e,hf⟩
 ·rw [e] at hb;exact zAN _ hb
 ·rw [e] at hb;unfold frs at hb;rw [zBR,hf] at hb;exact hb
theorem ZI.stkFree(I:ZI X pins σ H s):∀ b∈frs X.stack,H b=none:=fun b hb=>by
 rcases zAf.mp (I.stkSub b hb) with e | hb
 ·rw [e];exact I.free
 ·obtain ⟨_,o,ho,_⟩:=I.ok.funs.mem hb;exact I.base.free b o ho (I.ok.frf b hb) fun z=>I.ok.exfs b z hb
theorem ZI.step{g':Array GenState}{t':Nat}{d':Drawn}{ch:List Addr}(I:ZI X pins σ H s)(hch:∀ b∈ch,(b∈X.ex\/X.s₀.heap.objs.size<=b)/\b≠X.env.locals/\(∀ x c,X.env.cells.lookup x=some c->c≠b)/\∀ p∈X.pn++pins,p.1≠b)(keep:∀ b o,b≠X.env.locals->b∉X.fs->b∉ch->s.heap.get? b=some o->H b=none->h'.get? b=some o)(slot:∀ b o,b≠X.env.locals->b∈X.fs->b∉ch->s.heap.get? b=some o->H b=none->∃ sl,h'.get? b=some { o with slots:=sl })(free:∀ b o,b∉ch->s.heap.get? b=some o->H b=none->H' b=none)(there:∀ b o,b∉ch->s.heap.get? b=some o->∃ o',h'.get? b=some o')(tups:∀ b xs,H b=some (.tup xs)->H' b=some (.tup xs))(frzs:∀ b o u,H b=some (.frz o u)->H' b=some (.frz o u))(tbls:∀ b ps,H b=some (.tbl ps)->∃ more,H' b=some (.tbl (ps++more)))(ns:∀ m,s.heap.Ns X.env.locals m->h'.Ns X.env.locals m)(hok:Yi X.prog X.w H' h')(hg:AllBare g'):
  ZI X pins σ H' { s with heap:=h',gens:=g',drawn:=d',toks:=t' }:=by
 have neL:∀ b o,X.s₀.heap.get? b=some o->b≠X.env.locals:=fun b o e=>zAg (zAl (zAP e) I.ok.above);have neC:∀ b o,X.s₀.heap.get? b=some o->b∉X.ex->b∉ch:=fun b o e hx hb=>by
  rcases (hch b hb).1 with z | z
  ·exact hx z
  ·exact absurd (zAl (zAP e) z) (zBc _)
 have cellK:∀ x c,X.env.cells.lookup x=some c->∀ v,s.heap.IsCell c v->h'.IsCell c v:=fun x c e v ⟨o,ho,hd⟩=>by
  have nch:c∉ch:=fun z=>(hch c z).2.2.1 x c e rfl;by_cases hc:c∈X.fs
  ·obtain ⟨sl,q⟩:=slot c o (I.cne x c e) hc nch ho (I.freeC x c e);exact ⟨_,q,hd⟩
  ·exact ⟨o,keep c o (I.cne x c e) hc nch ho (I.freeC x c e),hd⟩
 refine ⟨I.ok,I.os,hg,⟨fun b o e n hb hx=>?_,fun b o e n hb hx=>?_,fun b o e n hx=>?_,fun b o e hx=>?_,fun b xs e=>tups b xs (I.base.tups b xs e),fun b o xs e=>frzs b o xs (I.base.frzs b o xs e),fun b ps e=>?_⟩,?_,fun x c e=>?_,?_,fun x c e=>?_,fun p hp=>?_,hok,I.len⟩
 ·exact keep b o (neL b o e) hb (neC b o e hx) (I.base.keep b o e n hb hx) (I.base.free b o e n hx)
 ·obtain ⟨sl,e1⟩:=I.base.slot b o e n hb hx;obtain ⟨sl',e2⟩:=slot b _ (neL b o e) hb (neC b o e hx) e1 (I.base.free b o e n hx);exact ⟨sl',e2⟩
 ·obtain ⟨o',e1⟩:=I.base.there b o e hx;exact free b o' (neC b o e hx) e1 (I.base.free b o e n hx)
 ·obtain ⟨o',e1⟩:=I.base.there b o e hx;exact there b o' (neC b o e hx) e1
 ·obtain ⟨m1,e1⟩:=I.base.tbls b ps e;obtain ⟨m2,e2⟩:=tbls b _ e1;exact ⟨m1++m2,by rw [e2,Array.append_assoc]⟩
 ·obtain ⟨m,hn,hl⟩:=I.loc;refine ⟨m,ns m hn,fun i x v e1 e2 e3=>?_⟩;obtain ⟨u,r,l⟩:=hl i x v e1 e2 e3;refine ⟨u,r,?_⟩;rcases l with l | ⟨k,c,e,z⟩
  ·exact .inl l
  ·exact .inr ⟨k,c,e,cellK x c e _ z⟩
 ·obtain ⟨v,z⟩:=I.cell x c e;exact ⟨v,cellK x c e v z⟩
 ·obtain ⟨m,⟨o,_,_,ho,_⟩,_⟩:=I.loc;exact free _ o (fun z=>(hch _ z).2.1 rfl) ho I.free
 ·obtain ⟨v,o,ho,hd⟩:=I.cell x c e;exact free c o (fun z=>(hch c z).2.2.1 x c e rfl) ho (I.freeC x c e)
 ·obtain ⟨e,n,ne,nf,d⟩:=I.pin p hp;have nch:p.1∉ch:=fun z=>(hch p.1 z).2.2.2 p hp rfl;exact ⟨keep p.1 p.2 ne nf nch e n,free p.1 p.2 nch e n,ne,nf,d⟩
theorem ZI.un{t':Nat}(I:ZI X pins σ H s)(u:Un X.fs [] H H' s.heap h')(hok:Yi X.prog X.w H' h'):ZI X pins σ H' { s with heap:=h',toks:=t' }:=by
 obtain ⟨m,⟨o,es,ep,ho,r⟩,_⟩:=id I.loc;obtain ⟨sl,hL⟩:=u.any ho I.free (by simp)
 exact I.step (g':=s.gens) (d':=s.drawn) (ch:=[]) (fun _ z=>nomatch z) (fun b o _ hb _ e n=>u.keep b o e n hb (by simp)) (fun b o _ hb _ e n=>u.slot b o e n hb (by simp)) (fun b o _ e n=>u.free b o e n (by simp)) (fun b o _ e=>u.there b o e (by simp)) u.tups u.frzs u.tbls (fun m' hm=>by
  obtain ⟨o',es',ep',ho',r'⟩:=hm;rw [ho] at ho';cases ho';exact ⟨_,es',ep',hL,r'⟩) hok I.bare
theorem ZI.call{g':Array GenState}{t':Nat}{d':Drawn}{ch:List Addr}(I:ZI X pins σ H s)(u:Un (frs X.stack) ch H H' s.heap h')(hok:Yi X.prog X.w H' h')(hg:AllBare g')(hch:∀ b∈ch,(b∈X.ex\/X.s₀.heap.objs.size<=b)/\b≠X.env.locals/\(∀ x c,X.env.cells.lookup x=some c->c≠b)/\∀ p∈X.pn++pins,p.1≠b):
  ZI X pins σ H' { s with heap:=h',gens:=g',drawn:=d',toks:=t' }:=by
 obtain ⟨m,⟨o,es,ep,ho,r⟩,_⟩:=id I.loc;obtain ⟨sl,hL⟩:=u.any ho I.free fun z=>(hch _ z).2.1 rfl;exact I.step (ch:=ch) hch (fun b o hL hb hc e n=>u.keep b o e n (fun z=>(zAf.mp (I.stkSub b z)).elim hL hb) hc) (fun b o _ _ hc e n=>u.any e n hc) (fun b o hc e n=>u.free b o e n hc) (fun b o hc e=>u.there b o e hc) u.tups u.frzs u.tbls (fun m' hm=>by
  obtain ⟨o',es',ep',ho',r'⟩:=hm;rw [ho] at ho';cases ho';exact ⟨_,es',ep',hL,r'⟩) hok hg
theorem ZI.turned{t':Nat}{it:Addr}(I:ZI X pins σ H s)(k:∀ b o,b≠it->s.heap.get? b=some o->h'.get? b=some o)(hn:H it=none)(hL:it≠X.env.locals)(h1:it∈X.ex\/X.s₀.heap.objs.size<=it)(h2:∀ x c,X.env.cells.lookup x=some c->c≠it)(h3:∀ p∈X.pn++pins,p.1≠it):ZI X pins σ H { s with heap:=h',toks:=t' }:=by
 have nit:∀ b u,H b=some u->b≠it:=fun b u e z=>by rw [z,hn] at e;cases e
 refine I.step (g':=s.gens) (d':=s.drawn) (ch:=[it]) (fun b hb=>?_) (fun b o _ _ hc e _=>k b o (fun z=>hc (by simp [z])) e) (fun b o _ _ hc e _=>⟨o.slots,k b o (fun z=>hc (by simp [z])) e⟩) (fun _ _ _ _ n=>n)
  (fun b o hc e=>⟨o,k b o (fun z=>hc (by simp [z])) e⟩) (fun _ _ e=>e) (fun _ _ _ e=>e) (fun b ps e=>⟨#[],by rw [e];simp⟩) (fun m hm=>?_) (fun b u e=>?_) I.bare
 ·have e:b=it:=by simpa using hb
  subst e;exact ⟨h1,hL,h2,h3⟩
 ·obtain ⟨o,es,ep,ho,r⟩:=hm;exact ⟨o,es,ep,k _ o (Ne.symm hL) ho,r⟩
 ·refine (I.hok b u e).stay (fun c v hc q=>k c v ?_ q) (fun _ q=>q) fun _ _ q=>q;rcases hc with z | z
  ·rw [z];exact nit b u e
  ·exact nit c _ z
theorem ZI.tok(I:ZI X pins σ H s)(t:Nat):ZI X pins σ H { s with toks:=t }:=I.un (h':=s.heap) (t':=t) Un.refl I.hok
theorem ZI.kept{t':Nat}(I:ZI X pins σ H s)(k:∀ b u,s.heap.get? b=some u->h'.get? b=some u):ZI X pins σ H { s with heap:=h',toks:=t' }:=I.un (Un.kept k) (I.hok.kept k)
theorem ZI.laid{a:Addr}{o:HO}{t':Nat}(I:ZI X pins σ H s)(k:∀ b u,s.heap.get? b=some u->h'.get? b=some u)(hp:s.heap.objs.size<=a)(new:Ze X.prog X.w (upd H a o) h' a o):
  ZI X pins σ (upd H a o) { s with heap:=h',toks:=t' }:=I.un (Un.laid k hp (I.hok.fresh hp)) (I.hok.laid k hp new)
theorem ZI.write{x e:Addr}{o:HO}{t':Nat}(I:ZI X pins σ H s)(mu:PH (H x))(he:e=x\/H e=some (.own x))(k:∀ b u,b≠e->s.heap.get? b=some u->h'.get? b=some u)(heo:∃ u,h'.get? e=some u)(new:Ze X.prog X.w (upd H x o) h' x o):ZI X pins σ (upd H x o) { s with heap:=h',toks:=t' }:=I.un (Un.write mu he k heo) (I.hok.write mu he k heo new)
theorem ZI.pins_of{pins':List (Addr×Obj)}(I:ZI X pins σ H s)(h:∀ p∈pins',s.heap.get? p.1=some p.2/\H p.1=none/\p.1≠X.env.locals/\p.1∉X.fs/\∀ v,p.2.data≠.cell v):ZI X pins' σ H s:=
 ⟨I.ok,I.os,I.bare,I.base,I.loc,I.cell,I.free,I.freeC,fun p hp=>(zAm.mp hp).elim (fun z=>I.pin p (zA9 _ z)) (h p),I.hok,I.len⟩
theorem MV{N:List Str}(hN:N.Nodup){i j:Nat}{x:Str}(a:N[i]? = some x)(b:N[j]? = some x):i=j:=by
 obtain ⟨h1,e1⟩:=zAK.mp a;obtain ⟨h2,e2⟩:=zAK.mp b;exact (List.getElem_inj hN).mp (e1.trans e2.symm)
theorem Hj{M:Model}{A:Around}{E:ja}{i:Nat}{x:Str}{v:V}{u:Value}{Q:Unit->Shared->Prop}(I:ZI X pins σ H s)(hN:X.N.Nodup)(hi:X.N[i]? = some x)(hx:PJ X.env.scope x)(r:ZR v u)(h:∀ s',ZI X pins (σ.set i (some v)) H s'->(∃ a,zA6 a s.heap s'.heap/\(a=X.env.locals\/X.env.cells.lookup x=some a))->Q () s')(hf:X.fn x=true\/X.env.scope.names.lookup x=some .local:=by first | exact .inl rfl | exact .inr rfl | assumption):wpAny M A (storeName X.env x u) Q E s:=by
 obtain ⟨m,hn,hl⟩:=id I.loc;have hcls:(X.env.scope.kind==.class || (X.env.scope.kind==.module&&X.env.locals != X.env.globals))=false:=by rw [I.ok.kind];rfl
 have hiσ:i<σ.length:=by rw [I.len];exact (zAK.mp hi).1
 have cne:=I.cne;have tracked:∀{a:Addr}{h':Heap},(∃ o,s.heap.get? a=some o/\H a=none)->zA6 a s.heap h'->Yi X.prog X.w H h':=fun{a h'} ha hs b ob e=>by
  obtain ⟨_,_,hfree⟩:=ha;refine (I.hok b ob e).stay (fun c w' hc q=>(hs.2 c ?_).trans q) (fun _ q=>q) fun _ _ q=>q;rintro rfl;rcases hc with rfl | hc
  ·rw [hfree] at e;cases e
  ·rw [hfree] at hc;cases hc
 rcases hx with hk | hk
 ·refine wpAny_storeName_local hk hn (fun h' hn' hs=>?_) hcls;obtain ⟨oL,_,_,hoL,_⟩:=id hn;refine h _ ⟨I.ok,I.os,I.bare,⟨fun b o e n hb hx=>?_,fun b o e n hb hx=>?_,I.base.free,fun b o e hx=>?_,I.base.tups,I.base.frzs,I.base.tbls⟩,⟨_,hn',fun j y v' e1 e2 e3=>?_⟩,fun y c e=>?_,I.free,I.freeC,fun p hp=>?_,tracked ⟨oL,hoL,I.free⟩ hs,by simpa using I.len⟩ ⟨_,hs,.inl rfl⟩
  ·exact (hs.2 b (zAg (zAl (zAP e) I.ok.above))).trans (I.base.keep b o e n hb hx)
  ·obtain ⟨sl,e1⟩:=I.base.slot b o e n hb hx;exact ⟨sl,(hs.2 b (zAg (zAl (zAP e) I.ok.above))).trans e1⟩
  ·obtain ⟨o',e1⟩:=I.base.there b o e hx;exact ⟨o',(hs.2 b (zAg (zAl (zAP e) I.ok.above))).trans e1⟩
  ·by_cases hj:j=i
   ·subst hj;rw [hi] at e1;cases e1;rw [zCR hiσ] at e2;cases e2;exact ⟨u,r,.inl ⟨hk,by simp⟩⟩
   ·rw [zCc (Ne.symm hj)] at e2;obtain ⟨u',r',q⟩:=hl j y v' e1 e2 e3;refine ⟨u',r',?_⟩;rcases q with ⟨k,e⟩ | ⟨k,c,e,z⟩
    ·refine .inl ⟨k,?_⟩;have:y≠x:=fun e=>hj (MV hN e1 (e ▸ hi));simp [this,e]
    ·exact .inr ⟨k,c,e,z.sameBut hs (cne y c e)⟩
  ·obtain ⟨w',z⟩:=I.cell y c e;exact ⟨w',z.sameBut hs (cne y c e)⟩
  ·obtain ⟨e,n,ne,nf,d⟩:=I.pin p hp;exact ⟨(hs.2 p.1 ne).trans e,n,ne,nf,d⟩
 ·have hfn:X.fn x=true:=by
   rcases hf with z | z
   ·exact z
   ·rw [z] at hk;cases hk
  obtain ⟨c,hc⟩:=I.ok.has x (.inl hk);obtain ⟨w',z⟩:=I.cell x c hc;refine wpAny_storeName_cell I.ok.kind hk hc z (fun h' hc' hs=>?_);obtain ⟨oc,hoc,hocd⟩:=id z;refine h { s with heap:=h' } ⟨I.ok,I.os,I.bare,⟨fun b o e n hb hx=>?_,fun b o e n hb hx=>?_,I.base.free,fun b o e hx=>?_,I.base.tups,I.base.frzs,I.base.tbls⟩,⟨m,hn.sameBut hs (Ne.symm (cne x c hc)),fun j y v' e1 e2 e3=>?_⟩,fun y c' e=>?_,I.free,I.freeC,fun p hp=>?_,tracked ⟨oc,hoc,I.freeC x c hc⟩ hs,by simpa using I.len⟩ ⟨c,hs,.inr hc⟩
  ·exact (hs.2 b (zAg (zAl (zAP e) (I.ok.cab x c hfn hc)))).trans (I.base.keep b o e n hb hx)
  ·obtain ⟨sl,e1⟩:=I.base.slot b o e n hb hx;exact ⟨sl,(hs.2 b (zAg (zAl (zAP e) (I.ok.cab x c hfn hc)))).trans e1⟩
  ·obtain ⟨o',e1⟩:=I.base.there b o e hx;exact ⟨o',(hs.2 b (zAg (zAl (zAP e) (I.ok.cab x c hfn hc)))).trans e1⟩
  ·by_cases hj:j=i
   ·subst hj;rw [hi] at e1;cases e1;rw [zCR hiσ] at e2;cases e2;exact ⟨u,r,.inr ⟨.inl hk,c,hc,hc'⟩⟩
   ·rw [zCc (Ne.symm hj)] at e2;obtain ⟨u',r',q⟩:=hl j y v' e1 e2 e3;refine ⟨u',r',?_⟩;rcases q with q | ⟨k,c',e,z'⟩
    ·exact .inl q
    ·refine .inr ⟨k,c',e,z'.sameBut hs ?_⟩;rintro rfl;exact hj (MV hN e1 (I.ok.inj _ _ _ e hc ▸ hi))
  ·by_cases hcc:c'=c
   ·subst hcc;exact ⟨_,hc'⟩
   ·obtain ⟨w2,z2⟩:=I.cell y c' e;exact ⟨w2,z2.sameBut hs hcc⟩
  ·obtain ⟨e,n,ne,nf,d⟩:=I.pin p hp;refine ⟨(hs.2 p.1 ?_).trans e,n,ne,nf,d⟩;intro q;rw [q,hoc] at e;have q':oc=p.2:=zAh.inj e;exact d w' (by rw [<-q'];exact hocd)
theorem LL{M:Model}{A:Around}{E:ja}{i:Nat}{x:Str}{v:V}{u:Value}{Q:Unit->Shared->Prop}(I:ZI X pins σ H s)(hN:X.N.Nodup)(hi:X.N[i]? = some x)(hx:PJ X.env.scope x)(r:ZR v u)(h:∀ s',ZI X pins (σ.set i (some v)) H s'->Q () s')(hf:X.fn x=true\/X.env.scope.names.lookup x=some .local:=by first | exact .inl rfl | exact .inr rfl | assumption):wpAny M A (storeName X.env x u) Q E s:=
 Hj I hN hi hx r (fun s' I' _=>h s' I') hf
theorem ZI.call'{s':Shared}{ch:List Addr}(I:ZI X pins σ H s)(ho:s'.os=s.os)(u:Un (frs X.stack) ch H H' s.heap s'.heap)(hok:Yi X.prog X.w H' s'.heap)(hg:AllBare s'.gens)(hch:∀ b∈ch,(b∈X.ex\/X.s₀.heap.objs.size<=b)/\b≠X.env.locals/\(∀ x c,X.env.cells.lookup x=some c->c≠b)/\∀ p∈X.pn++pins,p.1≠b):ZI X pins σ H' s':=by
 obtain ⟨h',g',d',t',o'⟩:=s';have e:o'=s.os:=ho;subst e;exact I.call (g':=g') (t':=t') (d':=d') u hok hg hch
end
abbrev XK:=Value->Option Addr->Hp->Prop
abbrev St:=List (jf)
abbrev VK:=V->Hp->Prop
abbrev TE:=St->Hp->VK->Prop
abbrev TT:=St->Hp->(Bool->Hp->Prop)->Prop
abbrev TA:=St->Hp->(je->Hp->Prop)->Prop
structure YG where
 nx:St->Hp->Prop
 rt:VK
 bk:St->Hp->Prop:=fun _ _=>False
 ct:St->Hp->Prop:=fun _ _=>False
abbrev TS:=YG->St->Hp->Prop
def EP(X:Cx)(pins:List (Addr×Obj))(σ:St)(Q:VK)(u:Value)(s':Shared):Prop:=∃ v H',ZI X pins σ H' s'/\ZR v u/\Q v H'
def TP(X:Cx)(pins:List (Addr×Obj))(σ:St)(Q:Bool->Hp->Prop)(b:Bool)(s':Shared):Prop:=∃ H',ZI X pins σ H' s'/\Q b H'
def AP(X:Cx)(pins:List (Addr×Obj))(σ:St)(Q:je->Hp->Prop)(us:jd)(s':Shared):Prop:=∃ vs H',ZI X pins σ H' s'/\ZP vs us/\Q vs H'
def SP(X:Cx)(pins:List (Addr×Obj))(D:YG)(f:Flow)(s':Shared):Prop:=
 match f with
 | .next=>∃ σ' H',ZI X pins σ' H' s'/\D.nx σ' H'
 | .brk=>∃ σ' H',ZI X pins σ' H' s'/\D.bk σ' H'
 | .cont=>∃ σ' H',ZI X pins σ' H' s'/\D.ct σ' H'
 | .ret u=>∃ v σ' H',ZI X pins σ' H' s'/\ZR v u/\D.rt v H'
def PE(X:Cx)(e:Expr)(t:TE):Prop:=
 ∀(pins:List (Addr×Obj))(s:Shared)(σ:St)(H:Hp)(Q:VK),ZI X pins σ H s->t σ H Q->wpAny (model X.prog X.w) X.A (eval e X.env) (EP X pins σ Q) X.xe s
def PT(X:Cx)(e:Expr)(t:TT):Prop:=
 ∀(pins:List (Addr×Obj))(s:Shared)(σ:St)(H:Hp)(Q:Bool->Hp->Prop),ZI X pins σ H s->t σ H Q->wpAny (model X.prog X.w) X.A (isTrue e X.env (eval e X.env)) (TP X pins σ Q) X.xe s
def PW(X:Cx)(e:Expr)(t:TT):Prop:=
 ∀(whole:Sem Value)(pins:List (Addr×Obj))(s:Shared)(σ:St)(H:Hp)(Q:Bool->Hp->Prop),ZI X pins σ H s->t σ H Q->wpAny (model X.prog X.w) X.A (isTrue e X.env whole) (TP X pins σ Q) X.xe s
theorem PW.pt{X:Cx}{e:Expr}{t:TT}(h:PW X e t):PT X e t:=h _
def PA(X:Cx)(es:List Expr)(t:TA):Prop:=
 ∀(pos:Pos)(pins:List (Addr×Obj))(s:Shared)(σ:St)(H:Hp)(Q:je->Hp->Prop),ZI X pins σ H s->t σ H Q->wpAny (model X.prog X.w) X.A (spliced (backTo pos (starEach es X.env))) (AP X pins σ Q) X.xe s
def PS(X:Cx)(st:Stmt)(t:TS):Prop:=
 ∀(pins:List (Addr×Obj))(s:Shared)(σ:St)(H:Hp)(D:YG),ZI X pins σ H s->t D σ H->wpAny (model X.prog X.w) X.A (exec st X.env) (SP X pins D) X.xe s
def Xg(X:Cx)(st:List Stmt)(t:TS):Prop:=
 ∀(pins:List (Addr×Obj))(s:Shared)(σ:St)(H:Hp)(D:YG),ZI X pins σ H s->t D σ H->wpAny (model X.prog X.w) X.A (execs st X.env) (SP X pins D) X.xe s
theorem Za{α:Type}{t:Sem α}{Q Q':α->Shared->Prop}{M:Model}{A:Around}{E:ja}{s:Shared}(h:wpAny M A t Q E s)(hQ:∀ a s,Q a s->Q' a s):wpAny M A t Q' E s:=wpAny_mono h hQ fun _ _ x=>x
section
variable{X:Cx}
def LA(i:Nat):TE:=fun σ H Q=>∃ v,σ[i]? = some (some v)/\Q v H
def tC(v:V):TE:=fun _ H Q=>Q v H
theorem ZOK{i:Nat}{x:Str}{pos:Pos}(hN:X.N[i]? = some x)(hv:Mx X.env.scope x)(hd:(x==("__debug__" : Str))=false:=by decide)(jK:(x==("__classdict__" : Str))=false:=by decide):PE X (.Name x pos) (LA i):=by
 intro pins s σ H Q I h;obtain ⟨v,e,h⟩:=h;obtain ⟨m,hn,hl⟩:=I.loc;obtain ⟨u,r,l⟩:=hl i x v hN e hv;have fin:EP X pins σ Q u s:=⟨v,H,I,r,h⟩;rcases l with ⟨hk,hm⟩ | ⟨hk,c,hc,jy⟩
 ·exact wpAny_Name (wpAny_loadName_local I.ok.kind hk hn hm fin) hd
 ·rcases hk with hk | hk
  ·exact wpAny_Name (wpAny_loadName_cell I.ok.kind hk hc jy fin) hd
  ·exact wpAny_Name (wpAny_loadName_free I.ok.kind hk hc jy fin jK) hd
theorem ZL{i j pos}:PE X (.Constant (.int i) j pos) (tC (.int i)):=fun _ _ _ H _ I h=>wpAny_Constant_int ⟨.int i,H,I.tok _,⟨_,rfl⟩,h⟩
theorem Xq{b j pos}:PE X (.Constant (.bool b) j pos) (tC (.bl b)):=fun _ _ _ H _ I h=>Constant_bool ⟨.bl b,H,I,rfl,h⟩
theorem Pc{j pos}:PE X (.Constant .none j pos) (tC .non):=fun _ _ _ H _ I h=>Constant_none ⟨.non,H,I,rfl,h⟩
theorem X3{x j pos}:PE X (.Constant (.str x) j pos) (tC (.str x)):=fun _ _ _ H _ I h=>Calls.Constant_str ⟨.str x,H,I.tok _,⟨_,rfl⟩,h⟩
def Gl(X:Cx)(x:Str):Prop:=X.env.kindOf x=some .globalImplicit
theorem Qd{E:ja}{pins:List (Addr×Obj)}{s:Shared}{σ:St}{H:Hp}{x:Str}{u:Value}{pos:Pos}{Q:ja}(I:ZI X pins σ H s)(hg:Gl X x)(hm:X.mg x=some u)(h:Q u s)(hd:(x==("__debug__" : Str))=false:=by decide):wpAny (model X.prog X.w) X.A (eval (.Name x pos) X.env) Q E s:=
 Calls.Name_function_global I.ok.kind hg (Calls.loadGlobal_global (by rw [I.ok.glob];exact I.mod.glob.keeps I.bk) hm h) hd
theorem Qo{E:ja}{pins:List (Addr×Obj)}{s:Shared}{σ:St}{H:Hp}{x:Str}{u:Value}{pos:Pos}{Q:ja}(I:ZI X pins σ H s)(hg:Gl X x)(hm:X.mg x=none)(hv:bootBuiltins x=some u)(h:Q u s)(hn:x ≠ "__name__" :=by decide)(hd:(x==("__debug__" : Str))=false:=by decide):wpAny (model X.prog X.w) X.A (eval (.Name x pos) X.env) Q E s:=by
 obtain ⟨mb,h1,h2⟩:=I.mod.blt;exact Calls.Name_function_global I.ok.kind hg (Calls.loadGlobal_builtin (by rw [I.ok.glob];exact I.mod.glob.keeps I.bk) hm (by rw [I.ok.blt];exact h1.keeps I.bk) ((h2 x hn).trans hv) h) hd
theorem WL{x:Str}{v:V}{u:Value}{pos:Pos}(hg:Gl X x)(hm:X.mg x=some u)(r:ZR v u)(hd:(x==("__debug__" : Str))=false:=by decide):PE X (.Name x pos) (tC v):=
 fun _ _ _ H _ I h=>Qd I hg hm ⟨v,H,I,r,h⟩ hd
theorem Ur{x:Str}{v:V}{u:Value}{pos:Pos}(hg:Gl X x)(hm:X.mg x=none)(hv:bootBuiltins x=some u)(r:ZR v u)(hn:x ≠ "__name__" :=by decide)(hd:(x==("__debug__" : Str))=false:=by decide):PE X (.Name x pos) (tC v):=
 fun _ _ _ H _ I h=>Qo I hg hm hv ⟨v,H,I,r,h⟩ hn hd
variable{a b:Expr}{ta tb:TE}{pos:Pos}
def PC(X:Cx)(op:CmpOp)(a b:Expr)(t:TE):Prop:=
 ∀(pins:List (Addr×Obj))(s:Shared)(σ:St)(H:Hp)(Q:VK),ZI X pins σ H s->t σ H Q ->
  wpAny (model X.prog X.w) X.A (eval a X.env) (fun v s₁=>wpAny (model X.prog X.w) X.A (eval b X.env) (fun u s₂=>wpAny (model X.prog X.w) X.A (compareOp op v u) (EP X pins σ Q) X.xe s₂) X.xe s₁) X.xe s
theorem J4(b:Expr){op:CmpOp}(h:op≠.In)(h2:op≠.NotIn):behindInMarks op b=false:=by
 have e1:(op==CmpOp.In)=false:=by cases op <;> first | rfl | exact absurd rfl h
 have e2:(op==CmpOp.NotIn)=false:=by cases op <;> first | rfl | exact absurd rfl h2
 cases b <;> simp [behindInMarks,e1,e2]
def Bj(ta:TE):TE:=fun σ H Q=>ta σ H fun x H1=>Q (.bl (decide (x=.non))) H1
def G9(ta:TE):TE:=fun σ H Q=>ta σ H fun x H1=>Q (.bl (!decide (x=.non))) H1
theorem ZR.none_iff{x:V}{v:Value}(r:ZR x v):(v==Value.none)=decide (x=.non):=by
 cases x with
 | non=>cases r;rfl
 | bl _=>cases r;rfl
 | int _=>obtain ⟨t,rfl⟩:=r;rfl
 | str _=>obtain ⟨t,rfl⟩:=r;rfl
 | byt _=>obtain ⟨t,rfl⟩:=r;rfl
 | flt _=>obtain ⟨t,rfl⟩:=r;rfl
 | ref _=>cases r;rfl
 | ty _=>cases r;rfl
theorem Gh{j pos'}(ha:PE X a ta):PC X .Is a (.Constant .none j pos') (Bj ta):=by
 intro pins s σ H Q I h;refine Za (ha pins s σ H _ I h) fun v s1 ⟨x,H1,I1,r1,q1⟩=>?_;exact Constant_none (is_none_gen ⟨.bl _,H1,I1,by rw [r1.none_iff];rfl,q1⟩)
theorem Oq{j pos'}(ha:PE X a ta):PC X .IsNot a (.Constant .none j pos') (G9 ta):=by
 intro pins s σ H Q I h;refine Za (ha pins s σ H _ I h) fun v s1 ⟨x,H1,I1,r1,q1⟩=>?_;exact Constant_none (isnot_none_gen ⟨.bl _,H1,I1,by rw [r1.none_iff];rfl,q1⟩)
def tB(t:TE):TT:=fun σ H Q=>t σ H fun x H1=>∃ c,x=.bl c/\Q c H1
theorem Ct{op:CmpOp}{t:TE}(h:PC X op a b t)(h1:behindInMarks op b=false:=by first | exact J4 _ (by decide) (by decide) | rfl):PE X (.Compare a [op] [b] pos) t:=fun pins s σ H Q I hw=>wpAny_Compare1 (h pins s σ H Q I hw) h1
theorem Qr{op:CmpOp}{t:TE}(h:PC X op a b t)(h1:behindInMarks op b=false:=by first | exact J4 _ (by decide) (by decide) | rfl):PT X (.Compare a [op] [b] pos) (tB t):=by
 intro pins s σ H Q I hw;refine wpAny_isTrue_Compare1 (Za (h pins s σ H _ I hw) fun v s1 h1=>Za h1 fun u s2 h2=>Za h2 fun c s3 ⟨x,H1,I1,r1,q1⟩=>?_) h1;obtain ⟨d,rfl,q⟩:=q1;cases r1;exact wpAny_truthy_bool ⟨H1,I1,q⟩
theorem Xo{e:Expr}{t:TE}(h:PE X e t)(he:∀ whole,isTrue e X.env whole=(do let v<-whole;standAt e.pos;holding [v] (truthy v)):=by intro _;rfl):PT X e (tB t):=by
 intro pins s σ H Q I hw;refine isTrue_plain (Za (h pins s σ H _ I hw) fun v s1 ⟨x,H1,I1,r1,q1⟩=>?_) (he _);obtain ⟨d,rfl,q⟩:=q1;cases r1;exact wpAny_truthy_bool ⟨H1,I1,q⟩
variable{tA tB':TT}{rest:List Expr}
def ZPz(t u:TT):TT:=fun σ H Q=>t σ H fun c H1=>if c=true then u σ H1 Q else Q false H1
def G6(t u:TT):TT:=fun σ H Q=>t σ H fun c H1=>if c=true then Q true H1 else u σ H1 Q
def FX(t:TT):TT:=fun σ H Q=>t σ H fun c H1=>Q (!c) H1
theorem Mn(ha:PT X a tA):PW X (.BoolOp .And [a] pos) tA:=by
 intro wh pins s σ H Q I h;refine isTrue_and (Za (ha pins s σ H Q I h) fun c s1 e=>?_)
 cases c with
 | true=>exact isTrue_and_nil e
 | false=>exact e
theorem Pd(ha:PT X a tA):PW X (.BoolOp .Or [a] pos) tA:=by
 intro wh pins s σ H Q I h;refine isTrue_or (Za (ha pins s σ H Q I h) fun c s1 e=>?_)
 cases c with
 | false=>exact isTrue_or_nil e
 | true=>exact e
theorem LN(ha:PT X a tA)(hb:PW X (.BoolOp .And (b :: rest) pos) tB'):PW X (.BoolOp .And (a :: b :: rest) pos) (ZPz tA tB'):=by
 intro wh pins s σ H Q I h;refine isTrue_and (Za (ha pins s σ H _ I h) fun c s1 ⟨H1,I1,q1⟩=>?_)
 cases c with
 | true=>exact hb wh pins s1 σ H1 Q I1 q1
 | false=>exact ⟨H1,I1,q1⟩
theorem Qh(ha:PT X a tA)(hb:PW X (.BoolOp .Or (b :: rest) pos) tB'):PW X (.BoolOp .Or (a :: b :: rest) pos) (G6 tA tB'):=by
 intro wh pins s σ H Q I h;refine isTrue_or (Za (ha pins s σ H _ I h) fun c s1 ⟨H1,I1,q1⟩=>?_)
 cases c with
 | true=>exact ⟨H1,I1,q1⟩
 | false=>exact hb wh pins s1 σ H1 Q I1 q1
theorem Uj(ha:PT X a tA):PT X (.UnaryOp .Not a pos) (FX tA):=by
 intro pins s σ H Q I h;exact isTrue_not (ha pins s σ H (fun c H1=>Q (!c) H1) I h)
def Cn(ta tb:TE):TE:=fun σ H Q=>ta σ H fun x H1=>∃ c,x=.bl c/\if c=true then tb σ H1 Q else Q (.bl false) H1
def ZO2(ta:TE):TE:=fun σ H Q=>ta σ H fun x H1=>∃ c,x=.bl c/\Q (.bl (!c)) H1
theorem Os{op}{t:TE}(h:PE X a t):PE X (.BoolOp op [a] pos) t:=fun pins s σ H Q I hw=>BoolOp_one (h pins s σ H Q I hw)
theorem Pk(ha:PE X a ta)(hb:PE X (.BoolOp .And (b :: rest) pos) tb):PE X (.BoolOp .And (a :: b :: rest) pos) (Cn ta tb):=by
 intro pins s σ H Q I h;refine BoolOp_and (Za (ha pins s σ H _ I h) fun v s1 ⟨x,H1,I1,r1,q1⟩=>?_);obtain ⟨c,rfl,q1⟩:=q1;cases r1;refine wpAny_truthy_bool ?_
 cases c with
 | true=>exact hb pins s1 σ H1 Q I1 q1
 | false=>exact ⟨.bl false,H1,I1,rfl,q1⟩
theorem Gq(ha:PE X a ta):PE X (.UnaryOp .Not a pos) (ZO2 ta):=by
 intro pins s σ H Q I h;refine UnaryOp_ (Za (ha pins s σ H _ I h) fun v s1 ⟨x,H1,I1,r1,q1⟩=>?_);obtain ⟨c,rfl,q1⟩:=q1;cases r1;exact not_of (wpAny_truthy_bool ⟨.bl (!c),H1,I1,rfl,q1⟩)
end
def ZK(K:zAA)(H:Hp)(a:Addr)(xs:je):Prop:=
 Rd H a (.lst xs) \/
  ∃(o:Obj)(ji:Array Value)(n:Nat),K.lookup a=some o/\o.cls=.type "list" /\ o.dict=none/\o.data=.seq ji n/\ji.size<=sizeLine/\ZP xs ji.toList
def Zn(K:zAA)(H:Hp)(a:Addr)(xs:je):Prop:=
 Rd H a (.tup xs) \/
  ∃(o:Obj)(ji:Array Value)(n:Nat),K.lookup a=some o/\o.cls=.type "tuple" /\ o.data=.seq ji n/\ji.size<=sizeLine/\ZP xs ji.toList
def ZQD:Value->jf
 | .none=>some .non
 | .bool b=>some (.bl b)
 | .int i _=>some (.int i)
 | .str x _=>some (.str x)
 | .bytes b _=>some (.byt b)
 | .float b _=>some (.flt b)
 | .ref a=>some (.ref a)
 | .type n=>some (.ty n)
 | _=>none
theorem ZR.abs{x:V}{u:Value}(r:ZR x u):ZQD u=some x:=by
 cases x with
 | non=>cases r;rfl
 | bl _=>cases r;rfl
 | int _=>obtain ⟨t,rfl⟩:=r;rfl
 | str _=>obtain ⟨t,rfl⟩:=r;rfl
 | byt _=>obtain ⟨t,rfl⟩:=r;rfl
 | flt _=>obtain ⟨t,rfl⟩:=r;rfl
 | ref _=>cases r;rfl
 | ty _=>cases r;rfl
theorem ZR.inj{x y:V}{u:Value}(r:ZR x u)(q:ZR y u):x=y:=zAh.inj (r.abs.symm.trans q.abs)
theorem ZP.inj:∀{xs ys:je}{us:jd},ZP xs us->ZP ys us->xs=ys
 | _,_,_,.nil,.nil=>rfl
 | _,_,_,.cons r t,.cons r' t'=>by rw [r.inj r',ZP.inj t t']
section
variable{X:Cx}{pins:List (Addr×Obj)}{σ:St}{H:Hp}{s:Shared}{a:Addr}{xs ys:je}
theorem ZK.of{K:zAA}(h:H a=some (.lst xs)):ZK K H a xs:=.inl (.inl h)
theorem Zn.of{K:zAA}(h:H a=some (.tup xs)):Zn K H a xs:=.inl (.inl h)
theorem ZI.list(I:ZI X pins σ H s)(h:ZK X.K H a xs):∃ ji:jd,ZP xs ji/\PlainL s.heap a ji.toArray/\xs.length<=sizeLine:=by
 rcases h with h | ⟨o,ji,n,hk,hc,hd,hs,hz,r⟩
 ·obtain ⟨z,ji,n,r,e⟩:=h.ok I.hok;exact ⟨ji,r,⟨_,n,e,rfl,rfl,rfl⟩,z⟩
 ·refine ⟨ji.toList,r,⟨o,n,I.kIn a o hk,hc,hd,by simpa using hs⟩,?_⟩
  have e:=r.length;simp only [zA4] at e
  lia
theorem ZI.tuple(I:ZI X pins σ H s)(h:Zn X.K H a xs):∃ ji:jd,ZP xs ji/\IsTup s.heap a ji.toArray/\xs.length<=sizeLine:=by
 rcases h with h | ⟨o,ji,n,hk,hc,hs,hz,r⟩
 ·obtain ⟨z,ji,r,p⟩:=h.ok I.hok;exact ⟨ji,r,p,z⟩
 ·refine ⟨ji.toList,r,⟨o,I.kIn a o hk,hc,n,by simpa using hs⟩,?_⟩
  have e:=r.length;simp only [zA4] at e
  lia
theorem ZI.list_inj(I:ZI X pins σ H s)(h:ZK X.K H a xs)(h':ZK X.K H a ys):xs=ys:=by
 obtain ⟨ji,r,⟨o,n,e,_,_,d⟩,_⟩:=I.list h;obtain ⟨its',r',⟨o',n',e',_,_,d'⟩,_⟩:=I.list h';rw [e] at e';cases e';rw [d] at d';injection d' with d1 _;have:ji=its':=by simpa using congrArg zDT d1
 subst this;exact r.inj r'
theorem ZI.tuple_inj(I:ZI X pins σ H s)(h:Zn X.K H a xs)(h':Zn X.K H a ys):xs=ys:=by
 obtain ⟨ji,r,⟨o,e,_,n,d⟩,_⟩:=I.tuple h;obtain ⟨its',r',⟨o',e',_,n',d'⟩,_⟩:=I.tuple h';rw [e] at e';cases e';rw [d] at d';injection d' with d1 _;have:ji=its':=by simpa using congrArg zDT d1
 subst this;exact r.inj r'
end
abbrev Cx.wish(X:Cx)(E:ja):Cx:={ X with xe:=E }
abbrev Cx.nox(X:Cx):Cx:=X.wish fun _ _=>False
theorem Cx.Ok.wish{X:Cx}(ok:X.Ok)(E:ja):(X.wish E).Ok:=
 ⟨ok.mod,ok.kind,ok.glob,ok.blt,ok.above,ok.inj,ok.has,ok.cab,ok.hd,ok.frames,ok.stk,ok.exf,ok.bs,ok.bsz,ok.noex,ok.exfs,ok.funs,ok.frf⟩
theorem Cx.Ok.unwish{X:Cx}{E:ja}(ok:(X.wish E).Ok):X.Ok:=
 ⟨ok.mod,ok.kind,ok.glob,ok.blt,ok.above,ok.inj,ok.has,ok.cab,ok.hd,ok.frames,ok.stk,ok.exf,ok.bs,ok.bsz,ok.noex,ok.exfs,ok.funs,ok.frf⟩
section
variable{X:Cx}{pins:List (Addr×Obj)}{σ:St}{H:Hp}{s:Shared}{E:ja}
theorem ZI.wish(I:ZI X pins σ H s)(E:ja):ZI (X.wish E) pins σ H s:=⟨I.ok.wish E,I.os,I.bare,I.base,I.loc,I.cell,I.free,I.freeC,I.pin,I.hok,I.len⟩
theorem ZI.unwish(I:ZI (X.wish E) pins σ H s):ZI X pins σ H s:=⟨I.ok.unwish,I.os,I.bare,I.base,I.loc,I.cell,I.free,I.freeC,I.pin,I.hok,I.len⟩
theorem SP.unwish{D:YG}{f:Flow}{s':Shared}(h:SP (X.wish E) pins D f s'):SP X pins D f s':=by
 cases f with
 | next=>obtain ⟨σ',H',I,q⟩:=h;exact ⟨σ',H',I.unwish,q⟩
 | brk=>obtain ⟨σ',H',I,q⟩:=h;exact ⟨σ',H',I.unwish,q⟩
 | cont=>obtain ⟨σ',H',I,q⟩:=h;exact ⟨σ',H',I.unwish,q⟩
 | ret u=>obtain ⟨v,σ',H',I,r,q⟩:=h;exact ⟨v,σ',H',I.unwish,r,q⟩
theorem Xg.nox{st:List Stmt}{t:TS}(h:Xg X.nox st t):Xg X st t:=fun pins s σ H D I hw=>
 wpAny_mono (h pins s σ H D (I.wish _) hw) (fun _ _ q=>q.unwish) fun _ _ z=>False.elim z
end
section
variable{X:Cx}{st:Stmt}{rest:List Stmt}{t u:TS}{e:Expr}{te:TE}{pos:Pos}
def AC:TS:=fun D σ H=>D.nx σ H
def E9(t u:TS):TS:=fun D σ H=>t { D with nx:=u D } σ H
theorem Z8:Xg X [] AC:=fun _ _ σ H _ I h=>wpAny_execs_nil ⟨σ,H,I,h⟩
theorem ZQ(h1:PS X st t)(h2:Xg X rest u):Xg X (st :: rest) (E9 t u):=by
 intro pins s σ H D I h;refine wpAny_execs_cons (Za (h1 pins s σ H { D with nx:=u D } I h) fun f s1 q=>?_)
 cases f with
 | next=>
  obtain ⟨σ',H',I',q⟩:=q;exact h2 pins s1 σ' H' D I' q
 | ret v=>exact q
 | brk=>exact q
 | cont=>exact q
theorem ZW(h1:PS X st t):Xg X [st] t:=by
 intro pins s σ H D I h;refine wpAny_execs_cons (Za (h1 pins s σ H D I h) fun f s1 q=>?_)
 cases f with
 | next=>exact wpAny_execs_nil q
 | ret v=>exact q
 | brk=>exact q
 | cont=>exact q
theorem ZI.quiet{pins:List (Addr×Obj)}{σ:St}{H:Hp}{s:Shared}(I:ZI X pins σ H s):interactive X.env=false:=by simp [interactive,I.ok.kind]
def FS(te:TE):TS:=fun D σ H=>te σ H fun _ H1=>D.nx σ H1
theorem WP(he:PE X e te)(hs:swapsWith e none pos.line X.env=pure false:=by rfl):PS X (.Expr e pos) (FS te):=by
 intro pins s σ H D I h;exact wpAny_Expr_any (Za (he pins s σ H _ I h) fun v s1 ⟨x,H1,I1,r1,q1⟩=>⟨σ,H1,I1,q1⟩) I.quiet hs
def Ji(te:TE):TS:=fun D σ H=>te σ H D.rt
theorem Zk(he:PE X e te):PS X (.Return (some e) pos) (Ji te):=by
 intro pins s σ H D I h;exact wpAny_Return_some (Za (he pins s σ H _ I h) fun v s1 ⟨x,H1,I1,r1,q1⟩=>⟨x,σ,H1,I1,r1,q1⟩)
def Gf(c:TT)(t u:TS):TS:=fun D σ H=>c σ H fun b H1=>if b=true then t D σ H1 else u D σ H1
theorem Z1{c:Expr}{a b:List Stmt}{tc:TT}(hc:PT X c tc)(ha:Xg X a t)(hb:Xg X b u):PS X (.If c a b pos) (Gf tc t u):=by
 intro pins s σ H D I h;refine wpAny_If (Za (hc pins s σ H _ I h) fun d s1 ⟨H1,I1,q1⟩=>?_)
 cases d with
 | true=>exact ha pins s1 σ H1 D I1 q1
 | false=>exact hb pins s1 σ H1 D I1 q1
def Fs:TS:=fun _ _ _=>False
theorem Qc{sts:List Stmt}:Xg X sts Fs:=fun _ _ _ _ _ _ h=>h.elim
end
abbrev TG:=V->St->Hp->(St->Hp->Prop)->Prop
abbrev Qw:=je->St->Hp->(St->Hp->Prop)->Prop
def PG(X:Cx)(target:Expr)(t:TG):Prop:=
 ∀(pins:List (Addr×Obj))(s:Shared)(σ:St)(H:Hp)(v:V)(u:Value)(Q:St->Hp->Prop),ZI X pins σ H s->ZR v u->t v σ H Q ->
  wpAny (model X.prog X.w) X.A (assign target X.env u) (fun _ s'=>∃ σ' H',ZI X pins σ' H' s'/\Q σ' H') X.xe s
def OO(X:Cx)(ts:List Expr)(t:Qw):Prop:=
 ∀(pins:List (Addr×Obj))(s:Shared)(σ:St)(H:Hp)(vs:je)(us:jd)(Q:St->Hp->Prop),ZI X pins σ H s->ZP vs us->t vs σ H Q ->
  wpAny (model X.prog X.w) X.A (assignInOrder ((assignEach ts X.env).map (·.2)) us) (fun _ s'=>∃ σ' H',ZI X pins σ' H' s'/\Q σ' H') X.xe s
abbrev LQ:=V->V->V->Hp->(Hp->Prop)->Prop
def JO(X:Cx)(t:LQ):Prop:=
 ∀(pins:List (Addr×Obj))(s:Shared)(σ:St)(H:Hp)(o i v:V)(ov iv u:Value)(Q:Hp->Prop),ZI X pins σ H s->ZR o ov->ZR i iv->ZR v u->t o i v H Q ->
  wpAny (model X.prog X.w) X.A (setItem ov iv u) (fun _ s'=>∃ H',ZI X pins σ H' s'/\Q H') X.xe s
section
variable{X:Cx}{pos:Pos}
def QM(i:Nat):TG:=fun v σ H Q=>Q (σ.set i (some v)) H
theorem O1{i:Nat}{x:Str}(hN:X.N.Nodup)(hi:X.N[i]? = some x)(hx:PJ X.env.scope x)(hf:X.fn x=true\/X.env.scope.names.lookup x=some .local:=by first | exact .inl rfl | exact .inr rfl | assumption):PG X (.Name x pos) (QM i):=by
 intro pins s σ H v u Q I r h;exact wpAny_assign_Name (LL I hN hi hx r (fun s' I'=>⟨_,H,I',h⟩) hf)
theorem Xd(i:Nat){x:Str}(hN:X.N.Nodup)(hi:X.N[i]? = some x:=by rfl)(hx:PJ X.env.scope x:=by exact Or.inl rfl)(hf:X.fn x=true\/X.env.scope.names.lookup x=some .local:=by first | exact .inl rfl | exact .inr rfl | assumption):PG X (.Name x pos) (QM i):=O1 hN hi hx hf
def E8:Qw:=fun vs σ H Q=>vs=[]/\Q σ H
def DJ(t:TG)(u:Qw):Qw:=fun vs σ H Q=>∃ v r,vs=v :: r/\t v σ H fun σ' H'=>u r σ' H' Q
theorem PX:OO X [] E8:=by
 intro pins s σ H vs us Q I r h;obtain ⟨e,h⟩:=h;subst e;cases r;exact assignInOrder_nil ⟨σ,H,I,h⟩
theorem V8{e:Expr}{es:List Expr}{t:TG}{u:Qw}(h1:PG X e t)(h2:OO X es u)(hs:(assignEach (e :: es) X.env).map (·.2)=assign e X.env :: (assignEach es X.env).map (·.2):=by rfl):OO X (e :: es) (DJ t u):=by
 intro pins s σ H vs us Q I r h;obtain ⟨v,vr,e1,h⟩:=h;subst e1
 cases r with
 | cons r rr=>
  rw [hs];refine assignInOrder_cons (Za (h1 pins s σ H _ _ _ I r h) fun _ s1 ⟨σ1,H1,I1,q1⟩=>?_);exact h2 pins s1 σ1 H1 _ _ Q I1 rr q1
def BV(K:zAA)(n:Nat)(t:Qw):TG:=fun v σ H Q=>∃ a xs,v=.ref a/\Zn K H a xs/\xs.length=n/\t xs σ H Q
theorem Q5{es:List Expr}{k:Nat}{t:Qw}{n:Nat}(hc:X.calm=true)(h:OO X es t)(hn:(assignEach es X.env).length=n:=by rfl)(hst:(assignEach es X.env).findIdx? (·.1)=none:=by rfl):PG X (.Tuple es k pos) (BV X.K n t):=by
 intro pins s σ H v u Q I r hw;obtain ⟨a,xs,e1,hq,hl,hw⟩:=hw;subst e1;cases r;obtain ⟨ji,rv,ht,hz⟩:=I.tuple hq;refine assign_Tuple_tuple (I.ok.hd hc) ht (by simp [hn,<-hl,rv.length]) hst fun h' hx=>?_
 have I1:ZI X pins σ H { s with heap:=h' }:=I.kept (t':=s.toks) fun b o e=>hx b o (zAg (zAP e)) e;exact h pins _ σ H xs _ Q I1 (by simpa using rv) hw
def FV(to ti:TE)(t:LQ):TG:=fun v σ H Q=>to σ H fun o H1=>ti σ H1 fun i H2=>t o i v H2 fun H3=>Q σ H3
theorem Na{o i:Expr}{to ti:TE}{t:LQ}(ho:PE X o to)(hi:PE X i ti)(hs:JO X t)(ha:∀ v,assign (.Subscript o i pos) X.env v=(do
   let ov<-holding [v] (eval o X.env)
   let iv<-holding [v,ov] (eval i X.env)
   standAt pos
   holding [v,ov,iv] (setItem ov iv v)
   release [v,ov,iv] []):=by intro _;rfl):PG X (.Subscript o i pos) (FV to ti t):=by
 intro pins s σ H v u Q I r h;rw [ha];refine wpAny_bind (wpAny_holding (Za (ho pins s σ H _ I h) fun ov s1 ⟨x,H1,I1,r1,q1⟩=>?_));refine wpAny_bind (wpAny_holding (Za (hi pins s1 σ H1 _ I1 q1) fun iv s2 ⟨y,H2,I2,r2,q2⟩=>?_));refine wpAny_bind (wpAny_standAt (wpAny_bind (wpAny_holding (Za (hs pins s2 σ H2 x y v ov iv u _ I2 r1 r2 r q2) fun _ s3 ⟨H3,I3,q3⟩=>?_))));exact wpAny_release ⟨σ,H3,I3,q3⟩
def MK(te:TE)(g:TG):TS:=fun D σ H=>te σ H fun x H1=>g x σ H1 D.nx
theorem QE{tg e:Expr}{te:TE}{g:TG}(he:PE X e te)(hg:PG X tg g)(hs:swapsWithSole [tg] e pos.line X.env=pure false:=by rfl)(hw:swappedStores [tg] e X.env=pure none:=by rfl)(h1:(assignEach [tg] X.env).map (·.2)=[assign tg X.env]:=by rfl):PS X (.Assign [tg] e pos) (MK te g):=by
 intro pins s σ H D I h;refine wpAny_Assign_stores (Za (he pins s σ H _ I h) fun v s1 ⟨x,H1,I1,r1,q1⟩=>?_) hs hw;rw [h1];exact Za (hg pins s1 σ H1 x v _ I1 r1 q1) fun _ s2 q=>q
theorem Ee{i:Nat}{x:Str}{e:Expr}{te:TE}{pos':Pos}(hN:X.N.Nodup)(hi:X.N[i]? = some x)(hx:PJ X.env.scope x)(he:PE X e te)(hs:swapsWith e (some (.Name x pos')) pos.line X.env=pure false:=by rfl)(hf:X.fn x=true\/X.env.scope.names.lookup x=some .local:=by first | exact .inl rfl | exact .inr rfl | assumption):
  PS X (.Assign [.Name x pos'] e pos) (MK te (QM i)):=by
 intro pins s σ H D I h;refine wpAny_Assign_Name (Za (he pins s σ H _ I h) fun v s1 ⟨y,H1,I1,r1,q1⟩=>?_) hs;exact LL I1 hN hi hx r1 (fun s2 I2=>⟨_,H1,I2,q1⟩) hf
theorem Zj(i:Nat){x:Str}{e:Expr}{te:TE}{pos':Pos}(hN:X.N.Nodup)(he:PE X e te)(hi:X.N[i]? = some x:=by rfl)(hx:PJ X.env.scope x:=by exact Or.inl rfl)(hs:swapsWith e (some (.Name x pos')) pos.line X.env=pure false:=by rfl)(hf:X.fn x=true\/X.env.scope.names.lookup x=some .local:=by first | exact .inl rfl | exact .inr rfl | assumption):
  PS X (.Assign [.Name x pos'] e pos) (MK te (QM i)):=Ee hN hi hx he hs hf
def B9(c:TT)(tb:TS):TS:=fun D σ H=>∃ W:Nat->St->Hp->Prop,(∃ m,W m σ H)/\∀ m σ H,W m σ H ->
 c σ H fun b H1=>if b=true then ∃ N:St->Hp->Prop,(∀ σ' H',N σ' H'->∃ m',m'<m/\W m' σ' H')/\tb { D with nx:=N,ct:=N,bk:=D.nx } σ H1 else D.nx σ H1
theorem Q2{c:Expr}{body:List Stmt}{tc:TT}{tb:TS}(hp:PassesOwn (model X.prog X.w) X.A X.env X.xe)(hc:PT X c tc)(hb:Xg X body tb):PS X (.While c body [] pos) (B9 tc tb):=by
 intro pins s σ H D I h;obtain ⟨W,⟨m0,w0⟩,turn⟩:=h;refine wpAny_While (codeAny_whileLoop (fun n s'=>∃ σ' H',ZI X pins σ' H' s'/\W n σ' H') ?_ m0 ⟨σ,H,I,w0⟩);rintro n s1 ⟨σ1,H1,I1,w1⟩;refine wpAny_passesOwn hp (Za (hc pins s1 σ1 H1 _ I1 (turn n σ1 H1 w1)) fun b s2 ⟨H2,I2,q2⟩=>?_)
 cases b with
 | true=>
  obtain ⟨N,hN,q2⟩:=q2;rw [if_pos rfl];refine wpAny_passesOwn hp (Za (hb pins s2 σ1 H2 _ I2 q2) fun f s3 q3=>?_)
  cases f with
  | next=>
   obtain ⟨σ3,H3,I3,n3⟩:=q3;obtain ⟨m',hm,w3⟩:=hN σ3 H3 n3;exact ⟨m',hm,σ3,H3,I3,w3⟩
  | cont=>
   obtain ⟨σ3,H3,I3,n3⟩:=q3;obtain ⟨m',hm,w3⟩:=hN σ3 H3 n3;exact ⟨m',hm,σ3,H3,I3,w3⟩
  | brk=>exact q3
  | ret v=>exact q3
 | false=>
  rw [if_neg zAF];exact wpAny_execs_nil ⟨σ1,H2,I2,q2⟩
end
structure It where
 go:Nat->Hp->Prop
 yld:Nat->Hp->V->Hp->Prop
 stop:Nat->Hp->Prop
def Wp(X:Cx)(pins:List (Addr×Obj))(H:Hp)(b:Addr):Prop:=
 H b=none/\b≠X.env.locals/\b∉X.fs/\(b∈X.ex\/X.s₀.heap.objs.size<=b)/\(∀ x c,X.env.cells.lookup x=some c->c≠b)/\∀ p∈X.pn++pins,p.1≠b
theorem ZI.fpOk{X:Cx}{pins:List (Addr×Obj)}{σ:St}{H H':Hp}{s:Shared}{b:Addr}(I:ZI X pins σ H s)(hb:s.heap.objs.size<=b)(hn:H' b=none):Wp X pins H' b:=by
 refine ⟨hn,zCG (zAl I.lt hb),I.nofs hb,.inr (zBC I.sz hb),fun x c e z=>?_,fun p hp z=>?_⟩
 ·obtain ⟨v,q⟩:=I.cell x c e;exact absurd (zAl q.lt (by rw [z];exact hb)) (zBc _)
 ·exact absurd (zAl (zAP (I.pin p hp).1) (by rw [z];exact hb)) (zBc _)
structure V3(P:Program)(w:World)(K:zAA)(tg:Expr)(J:It)(fp:List Addr)(it:Addr)(tn:Nat->Heap->Prop):Prop where
 mem:it∈fp
 obj:∀ i h,tn i h->∀ b∈fp,∃ o,h.get? b=some o/\∀ v,o.data≠.cell v
 keep:∀ i h h',tn i h->(∀ b∈fp,∀ o,h.get? b=some o->h'.get? b=some o)->tn i h'
 item:∀(X:Cx),X.prog=P->X.w=w->X.K=K->X.calm=true->∀(i:Nat)(pins:List (Addr×Obj))(s:Shared)(σ:St)(H:Hp)(E:ja),ZI X pins σ H s->(∀ b∈fp,Wp X pins H b)->tn i s.heap->J.go i H ->
  wpAny (model P w) X.A (pyNext (.ref it)) (fun r s1=>∃ u,r=some u /\
   wpAny (model P w) X.A (letOwnedTupleGo tg (.ref it) u) (fun _ s2=>∃ x H',ZI X pins σ H' s2/\ZR x u/\J.yld i H x H'/\tn (i+1) s2.heap/\∀ b∈fp,H' b=none) E s1) E s
 done:∀(X:Cx),X.prog=P->X.w=w->X.K=K->X.calm=true->∀(i:Nat)(pins:List (Addr×Obj))(s:Shared)(σ:St)(H:Hp)(E:ja),ZI X pins σ H s->(∀ b∈fp,Wp X pins H b)->tn i s.heap->J.stop i H ->
  wpAny (model P w) X.A (pyNext (.ref it)) (fun r s1=>r=none/\ZI X pins σ H s1) E s
 self:∀(A:Around)(i:Nat)(s:Shared)(Q:ja)(E:ja),tn i s.heap->Q (.ref it) s->wpAny (model P w) A (pyIter (.ref it)) Q E s
abbrev TI:=St->Hp->(It->Hp->Prop)->Prop
def Il(X:Cx)(pins:List (Addr×Obj))(σ:St)(tg:Expr)(R:It->Hp->Prop)(itv:Value)(s2:Shared):Prop:=
 ∃(it:Addr)(fp:List Addr)(tn:Nat->Heap->Prop)(J:It)(H':Hp),itv=.ref it/\ZI X pins σ H' s2/\V3 X.prog X.w X.K tg J fp it tn/\tn 0 s2.heap/\(∀ b∈fp,Wp X pins H' b)/\R J H'
def PI(X:Cx)(tg iter:Expr)(wi:TI):Prop:=
 ∀(pins:List (Addr×Obj))(s:Shared)(σ:St)(H:Hp)(R:It->Hp->Prop),ZI X pins σ H s->wi σ H R ->
  wpAny (model X.prog X.w) X.A (eval iter X.env) (fun v s1=>wpAny (model X.prog X.w) X.A (pyIter v) (Il X pins σ tg R) X.xe s1) X.xe s
theorem Ot{M:Model}{A:Around}{E:ja}{s:Shared}{tg:Expr}{it:Addr}{u:Value}{o:Obj}{n:String}{vs:Array Value}{Q:Unit->Shared->Prop}(ho:s.heap.get? it=some o)(hc:o.cls=.type n)(hd:o.data=.fields vs)(hn:["enumerate","zip","dict_itemiterator","dict_reverseitemiterator","odict_iterator","itertools.zip_longest","itertools.pairwise"].contains n=false)(hQ:Q () s):wpAny M A (letOwnedTupleGo tg (.ref it) u) Q E s:=by
 unfold letOwnedTupleGo;cases tg <;> first
  | exact wpAny_pure hQ
  | (cases u <;> first
    | exact wpAny_pure hQ
    | (refine wpAny_bind (wpAny_load ho ?_);rw [hc,hd];show wpAny M A (if (["enumerate","zip","dict_itemiterator","dict_reverseitemiterator","odict_iterator","itertools.zip_longest","itertools.pairwise"].contains n&&vs[0]? == some (rawInt _))=true then _ else _) Q E s;rw [if_neg (by intro h;rw [hn,zBr] at h;cases h)];exact wpAny_pure hQ))
def OH(K:zAA)(a:Addr):It:=
 ⟨fun i H=>∃ xs x,ZK K H a xs/\xs[i]? = some x,fun i H x H'=>H'=H/\∀ xs,ZK K H a xs->xs[i]? = some x,fun i H=>∃ xs,ZK K H a xs/\xs.length<=i⟩
def Ks(K:zAA)(a:Addr):It:=
 ⟨fun i H=>∃ xs x,Zn K H a xs/\xs[i]? = some x,fun i H x H'=>H'=H/\∀ xs,Zn K H a xs->xs[i]? = some x,fun i H=>∃ xs,Zn K H a xs/\xs.length<=i⟩
def Qn(lo:Int)(n:Nat):It:=⟨fun i _=>i<n,fun i H x H'=>H'=H/\x=.int (lo+i),fun i _=>n<=i⟩
theorem Ey{P:Program}{w:World}{K:zAA}{tg:Expr}(a it:Addr):V3 P w K tg (OH K a) [it] it (fun i h=>h.IsListIter it a i) where
 mem:=by simp
 obj:=fun i h st b hb=>by
  have e:b=it:=by simpa using hb
  subst e;obtain ⟨o,e,c,d⟩:=st;exact ⟨o,e,fun v z=>by rw [d] at z;cases z⟩
 keep:=fun i h h' st k=>st.at fun o e=>k it (by simp) o e
 item:=by
  intro X hP hw hK hc i pins s σ H E I hf st hg;subst hP hw hK;obtain ⟨xs,x,hq,hx⟩:=hg;obtain ⟨ji,rv,p,hz⟩:=I.list hq;obtain ⟨u,hu,ru⟩:=rv.get hx;obtain ⟨f0,f1,f2,f3,f4,f5⟩:=hf it (by simp)
  refine wpAny_pyNext_list_item st p.isList (x:=u) (by simpa using hu) fun h' st' sb=>?_
  have I1:ZI X pins σ H { s with heap:=h' }:=I.turned (t':=s.toks) (fun b o hb e=>(sb.2 b hb).trans e) f0 f1 f3 f4 f5;obtain ⟨o,e,c,d⟩:=id st';exact ⟨u,rfl,Ot (s:={ s with heap:=h' }) e c d (by decide) ⟨x,H,I1,ru,⟨rfl,fun ys hy=>by rw [I.list_inj hy hq];exact hx⟩,st',fun b hb=>(hf b hb).1⟩⟩
 done:=by
  intro X hP hw hK hc i pins s σ H E I hf st hg;subst hP hw hK;obtain ⟨xs,hq,hx⟩:=hg;obtain ⟨ji,rv,p,hz⟩:=I.list hq;obtain ⟨f0,f1,f2,f3,f4,f5⟩:=hf it (by simp)
  have hl:=rv.length;exact wpAny_pyNext_list_end (I.ok.hd hc) st p.isList (by simp;lia) fun h' eb=>⟨rfl,I.turned (t':=s.toks) (fun b o hb e=>eb b o hb e) f0 f1 f3 f4 f5⟩
 self:=fun _ _ _ _ _ st h=>wpAny_pyIter_listiter st h
theorem ZHB{P:Program}{w:World}{K:zAA}{tg:Expr}(a it:Addr):V3 P w K tg (Ks K a) [it] it (fun i h=>h.IsTupleIter it a i) where
 mem:=by simp
 obj:=fun i h st b hb=>by
  have e:b=it:=by simpa using hb
  subst e;obtain ⟨o,e,c,d⟩:=st;exact ⟨o,e,fun v z=>by rw [d] at z;cases z⟩
 keep:=fun i h h' st k=>st.at fun o e=>k it (by simp) o e
 item:=by
  intro X hP hw hK hc i pins s σ H E I hf st hg;subst hP hw hK;obtain ⟨xs,x,hq,hx⟩:=hg;obtain ⟨ji,rv,p,hz⟩:=I.tuple hq;obtain ⟨u,hu,ru⟩:=rv.get hx;obtain ⟨f0,f1,f2,f3,f4,f5⟩:=hf it (by simp)
  refine wpAny_pyNext_tuple_item st (show s.heap.IsTuple a ji.toArray from p) (x:=u) (by simpa using hu) fun h' st' sb=>?_
  have I1:ZI X pins σ H { s with heap:=h' }:=I.turned (t':=s.toks) (fun b o hb e=>(sb.2 b hb).trans e) f0 f1 f3 f4 f5;obtain ⟨o,e,c,d⟩:=id st';exact ⟨u,rfl,Ot (s:={ s with heap:=h' }) e c d (by decide) ⟨x,H,I1,ru,⟨rfl,fun ys hy=>by rw [I.tuple_inj hy hq];exact hx⟩,st',fun b hb=>(hf b hb).1⟩⟩
 done:=by
  intro X hP hw hK hc i pins s σ H E I hf st hg;subst hP hw hK;obtain ⟨xs,hq,hx⟩:=hg;obtain ⟨ji,rv,p,hz⟩:=I.tuple hq;obtain ⟨f0,f1,f2,f3,f4,f5⟩:=hf it (by simp)
  have hl:=rv.length;exact wpAny_pyNext_tuple_end (I.ok.hd hc) st (show s.heap.IsTuple a ji.toArray from p) (by simp;lia) fun h' eb=>⟨rfl,I.turned (t':=s.toks) (fun b o hb e=>eb b o hb e) f0 f1 f3 f4 f5⟩
 self:=fun _ _ _ _ _ st h=>wpAny_pyIter_tupleiter st h
theorem Ep{P:Program}{w:World}{K:zAA}{tg:Expr}(it:Addr)(lo:Int)(n:Nat):V3 P w K tg (Qn lo n) [it] it (fun i h=>IsRangeIter h it (lo+(i:Nat) * 1) ((n:Int) - (i:Nat)) 1) where
 mem:=by simp
 obj:=fun i h st b hb=>by
  have e:b=it:=by simpa using hb
  subst e;exact ⟨_,st,fun v z=>by
   have z':Data.fields _=Data.cell v:=z;cases z'⟩
 keep:=fun i h h' st k=>k it (by simp) _ st
 item:=by
  intro X hP hw hK hc i pins s σ H E I hf st hg;subst hP hw hK;obtain ⟨f0,f1,f2,f3,f4,f5⟩:=hf it (by simp)
  have W:=Walks.range (prog:=X.prog) (w:=X.w) (I.ok.hd hc) it lo 1 n;refine W.item i s _ _ hg st fun v h' tk hv st' kk=>?_;obtain ⟨t,rfl⟩:=hv;have I1:ZI X pins σ H { s with heap:=h',toks:=tk }:=I.turned (fun b o hb e=>kk b o (by simpa using hb) e) f0 f1 f3 f4 f5
  refine ⟨_,rfl,Ot (s:={ s with heap:=h',toks:=tk }) (n:= "range_iterator") st' rfl rfl (by decide) ⟨.int (lo+i),H,I1,⟨t,?_⟩,⟨rfl,rfl⟩,st',fun b hb=>(hf b hb).1⟩⟩
  rw [Int.mul_one]
 done:=by
  intro X hP hw hK hc i pins s σ H E I hf st hg;subst hP hw hK;obtain ⟨f0,f1,f2,f3,f4,f5⟩:=hf it (by simp)
  exact wpAny_pyNext_range_end (I.ok.hd hc) st (by have:n<=i:=hg;lia) fun h' eb=>⟨rfl,I.turned (t':=s.toks) (fun b o hb e=>eb b o hb e) f0 f1 f3 f4 f5⟩
 self:=fun _ _ _ _ _ st h=>wpAny_pyIter_rangeiter st h
section
variable{X:Cx}{tg:Expr}
def Ht(K:zAA)(tl:TE):TI:=fun σ H R=>tl σ H fun x H1=>∃ a,x=.ref a/\(∃ xs,ZK K H1 a xs)/\R (OH K a) H1
def EM(K:zAA)(tl:TE):TI:=fun σ H R=>tl σ H fun x H1=>∃ a,x=.ref a/\(∃ xs,Zn K H1 a xs)/\R (Ks K a) H1
theorem VL{l:Expr}{tl:TE}(hl:PE X l tl):PI X tg l (Ht X.K tl):=by
 intro pins s σ H R I h;refine Za (hl pins s σ H _ I h) fun v s1 ⟨x,H1,I1,r1,q1⟩=>?_;obtain ⟨a,e,⟨xs,hq⟩,q⟩:=q1;subst e;cases r1;obtain ⟨ji,rv,p,hz⟩:=I1.list hq;refine wpAny_pyIter_list p.isList ?_;refine ⟨s1.heap.objs.size,[s1.heap.objs.size],_,_,H1,rfl,I1.kept (t':=s1.toks) fun b o e=>zAG _ e,Ey a _,⟨_,zAQ _ rfl,rfl,rfl⟩,fun b hb=>?_,q⟩;have e:b=s1.heap.objs.size:=by simpa using hb
 subst e;exact I1.fpOk (zAH _) (I1.hok.fresh (zAH _))
theorem OC{l:Expr}{tl:TE}(hl:PE X l tl):PI X tg l (EM X.K tl):=by
 intro pins s σ H R I h;refine Za (hl pins s σ H _ I h) fun v s1 ⟨x,H1,I1,r1,q1⟩=>?_;obtain ⟨a,e,⟨xs,hq⟩,q⟩:=q1;subst e;cases r1;obtain ⟨ji,rv,p,hz⟩:=I1.tuple hq;refine wpAny_pyIter_tuple (show s1.heap.IsTuple a ji.toArray from p) ?_;refine ⟨s1.heap.objs.size,[s1.heap.objs.size],_,_,H1,rfl,I1.kept (t':=s1.toks) fun b o e=>zAG _ e,ZHB a _,⟨_,zAQ _ rfl,rfl,rfl⟩,fun b hb=>?_,q⟩;have e:b=s1.heap.objs.size:=by simpa using hb
 subst e;exact I1.fpOk (zAH _) (I1.hok.fresh (zAH _))
theorem Hi{pins:List (Addr×Obj)}{σ:St}{H:Hp}{s:Shared}{R:It->Hp->Prop}{E:ja}{lo hi:Int}{t u v:Tok}{tk:Nat}(I:ZI X pins σ H s)(h1 : -(2 ^ 62)<=lo)(h2:lo<2 ^ 62)(h3 : -(2 ^ 62)<=hi)(h4:hi<2 ^ 62)(q:R (Qn lo (hi - lo).toNat) H):wpAny (model X.prog X.w) X.A (pyIter (.ref s.heap.objs.size)) (Il X pins σ tg R) E { s with heap:=s.heap.push { cls:=.type "range",data:=.fields #[.int lo t,.int hi u,.int 1 v] },toks:=tk }:=by
 refine wpAny_pyIter_range (IsRange.new ..) (small_one h1 h2 h3 h4) ?_;have I1:ZI X pins σ H { s with heap:=s.heap.push { cls:=.type "range",data:=.fields #[.int lo t,.int hi u,.int 1 v] },toks:=tk }:=I.kept fun b o e=>zAG _ e;refine ⟨(s.heap.push { cls:=.type "range",data:=.fields #[.int lo t,.int hi u,.int 1 v] }).objs.size,[(s.heap.push { cls:=.type "range",data:=.fields #[.int lo t,.int hi u,.int 1 v] }).objs.size],_,_,H,rfl,
  I1.kept (t':=tk) fun b o e=>zAG _ e,Ep _ lo (hi - lo).toNat,?_,fun b hb=>?_,q⟩
 ·have e1:lo+((0:Nat):Int) * 1=lo:=by simp
  have e2:(((hi - lo).toNat:Nat):Int) - ((0:Nat):Int)=Builtin.Range.rangeSize lo hi 1:=by rw [rangeSize_one];split <;> lia
  show IsRangeIter _ _ (lo+((0:Nat):Int) * 1) ((((hi - lo).toNat:Nat):Int) - ((0:Nat):Int)) 1;rw [e1,e2];exact zAQ _ rfl
 ·have e:b=(s.heap.push { cls:=.type "range",data:=.fields #[.int lo t,.int hi u,.int 1 v] }).objs.size:=by simpa using hb
  subst e;exact I1.fpOk (zAH _) (I1.hok.fresh (zAH _))
def CQ(ta:TA):TI:=fun σ H R=>ta σ H fun vs H1=>∃ j:Int,vs=[.int j] /\ -(2 ^ 62)<=j/\j<2 ^ 62/\R (Qn 0 j.toNat) H1
def ET(ta:TA):TI:=fun σ H R=>ta σ H fun vs H1=>∃ i j:Int,vs=[.int i,.int j]/\(-(2 ^ 62)<=i/\i<2 ^ 62 /\ -(2 ^ 62)<=j/\j<2 ^ 62)/\R (Qn i (j - i).toNat) H1
theorem Qj{a:Expr}{ta:TA}{p pos:Pos}(hg:Gl X "range")(hm:X.mg "range" = none)(ha:PA X [a] ta)(hs:starEach [a] X.env=[(false,eval a X.env)]:=by rfl):PI X tg (.Call (.Name "range" p) [a] [] pos) (CQ ta):=by
 intro pins s σ H R I h;refine Call_ (Qo I hg hm boot_range (PyProof.Rows.callWith_type1 (Za (ha pos pins s σ H _ I h) fun us s1 ⟨vs,H1,I1,r1,q1⟩=>?_) hs rfl));obtain ⟨j,e,q1,q2,q⟩:=q1;subst e
 cases r1 with
 | cons r rr=>
  cases rr;obtain ⟨t,rfl⟩:=r;exact call_range_1 (Hi I1 (by lia) (by lia) q1 q2 (by simpa using q))
theorem N3{a b:Expr}{ta:TA}{p pos:Pos}(hg:Gl X "range")(hm:X.mg "range" = none)(ha:PA X [a,b] ta)(hs:starEach [a,b] X.env=[(false,eval a X.env),(false,eval b X.env)]:=by rfl)(hs2:starEach [b] X.env=[(false,eval b X.env)]:=by rfl):
  PI X tg (.Call (.Name "range" p) [a,b] [] pos) (ET ta):=by
 intro pins s σ H R I h;refine Call_ (Qo I hg hm boot_range (PyProof.Rows.callWith_type1 (Za (ha pos pins s σ H _ I h) fun us s1 ⟨vs,H1,I1,r1,q1⟩=>?_) (by rw [hs,hs2]) (by rw [hs2];rfl)))
 obtain ⟨i,j,e,⟨q1,q2,q3,q4⟩,q⟩:=q1;subst e
 cases r1 with
 | cons r rr=>
  cases rr with
  | cons r' rr=>
   cases rr;obtain ⟨t,rfl⟩:=r;obtain ⟨t',rfl⟩:=r';exact call_range_2 (Hi I1 q1 q2 q3 q4 q)
def Af(wi:TI)(g:TG)(tb:TS):TS:=fun D σ H=>wi σ H fun J H1=>∃ W:Nat->Nat->St->Hp->Prop,(∃ m,W 0 m σ H1)/\∀ i m σ H,W i m σ H ->
 (J.stop i H/\D.nx σ H)\/(J.go i H/\∃ N:St->Hp->Prop,(∀ σ' H',N σ' H'->∃ m',m'<m/\W (i+1) m' σ' H')/\∀ x H',J.yld i H x H'->g x σ H' fun σ2 H2=>tb { D with nx:=N,ct:=N,bk:=D.nx } σ2 H2)
def P9(fp:List Addr)(h:Heap):List (Addr×Obj):=fp.filterMap fun b=>(h.get? b).map fun o=>(b,o)
theorem NJ{fp:List Addr}{h:Heap}{b:Addr}{o:Obj}(hb:b∈fp)(e:h.get? b=some o):(b,o)∈P9 fp h:=zCD.mpr ⟨b,hb,by rw [e];rfl⟩
theorem EU{fp:List Addr}{h:Heap}{p:Addr×Obj}(hp:p∈P9 fp h):p.1∈fp/\h.get? p.1=some p.2:=by
 obtain ⟨b,hb,e⟩:=zCD.mp hp
 cases q:h.get? b with
 | none=>rw [q] at e;cases e
 | some o=>
  rw [q] at e;have e':(b,o)=p:=zAh.inj e;subst e';exact ⟨hb,q⟩
theorem ZI.pinned{pins:List (Addr×Obj)}{σ:St}{H:Hp}{s:Shared}{fp:List Addr}(I:ZI X pins σ H s)(hf:∀ b∈fp,Wp X pins H b)(ho:∀ b∈fp,∃ o,s.heap.get? b=some o/\∀ v,o.data≠.cell v):ZI X (pins++P9 fp s.heap) σ H s:=
 I.pins_of fun p hp=>(zAm.mp hp).elim (fun z=>I.pin p (zAk _ z)) fun z=>by
  obtain ⟨hb,e⟩:=EU z;obtain ⟨f0,f1,f2,_⟩:=hf p.1 hb;obtain ⟨o,e',d⟩:=ho p.1 hb;rw [e] at e';cases e';exact ⟨e,f0,f1,f2,d⟩
theorem ZI.unpinned{pins pl:List (Addr×Obj)}{σ:St}{H:Hp}{s:Shared}(I:ZI X (pins++pl) σ H s):ZI X pins σ H s:=I.pins_of fun p hp=>I.pin p (zAk _ (zA9 _ hp))
theorem V7{iter:Expr}{body:List Stmt}{wi:TI}{g:TG}{tb:TS}{pos:Pos}(hp:PassesOwn (model X.prog X.w) X.A X.env X.xe)(hc:X.calm=true)(hi:PI X tg iter wi)(hg:PG X tg g)(hb:Xg X body tb)(hs:∀ x,foldedSetIterable iter X.env x=pure x:=by intro _;rfl):PS X (.For tg iter body [] pos) (Af wi g tb):=by
 intro pins s σ H D I h;refine wpAny_For (Za (hi pins s σ H _ I h) fun v s1 h1=>Za h1 fun itv s2 h2=>?_) hs;obtain ⟨it,fp,tn,J,H2,e,I2,T,st2,f2,W,⟨m0,w0⟩,turn⟩:=h2;subst e;have stat:∀{H':Hp},(∀ b∈fp,H' b=none)->∀ b∈fp,Wp X pins H' b:=fun hn b hb=>⟨hn b hb,(f2 b hb).2⟩;refine codeAny_forLoop_any (fun n s'=>∃ i σ' H',ZI X pins σ' H' s'/\tn i s'.heap/\(∀ b∈fp,H' b=none)/\W i n σ' H') ?_ m0 ⟨0,σ,H2,I2,st2,fun b hb=>(f2 b hb).1,w0⟩;rintro n s3 ⟨i,σ3,H3,I3,st3,fr3,w3⟩;rcases turn i n σ3 H3 w3 with ⟨stop,qn⟩ | ⟨go,N,hN,step⟩
 ·refine wpAny_passesOwn hp (Za (T.done X rfl rfl rfl hc i pins s3 σ3 H3 X.xe I3 (stat fr3) st3 stop) fun r s4 ⟨hr,I4⟩=>?_);subst hr;exact wpAny_execs_nil ⟨σ3,H3,I4,qn⟩
 ·refine wpAny_passesOwn hp (Za (T.item X rfl rfl rfl hc i pins s3 σ3 H3 X.xe I3 (stat fr3) st3 go) fun r s4 ⟨u,hr,h4⟩=>?_);subst hr;refine wpAny_passesOwn hp (Za h4 fun _ s5 ⟨x,H5,I5,r5,y5,st5,fr5⟩=>?_);have I5':=I5.pinned (stat fr5) (T.obj _ _ st5);refine wpAny_passesOwn hp (Za (hg _ s5 σ3 H5 x u _ I5' r5 (step x H5 y5)) fun _ s6 ⟨σ6,H6,I6,q6⟩=>?_);refine wpAny_passesOwn hp (Za (hb _ s6 σ6 H6 _ I6 q6) fun f s7 q7=>?_);have again:∀{σ7:St}{H7:Hp},ZI X (pins++P9 fp s5.heap) σ7 H7 s7->N σ7 H7->∃ m,m<n/\∃ i σ' H',ZI X pins σ' H' s7/\tn i s7.heap/\(∀ b∈fp,H' b=none)/\W i m σ' H':=fun{σ7 H7} I7 n7=>by
   obtain ⟨m',hm,w7⟩:=hN σ7 H7 n7;refine ⟨m',hm,i+1,σ7,H7,I7.unpinned,T.keep _ _ _ st5 fun b hb o e=>(I7.pin (b,o) (zAk _ (zAk _ (NJ hb e)))).1,fun b hb=>?_,w7⟩;obtain ⟨o,e,d⟩:=T.obj _ _ st5 b hb;exact (I7.pin (b,o) (zAk _ (zAk _ (NJ hb e)))).2.1
  cases f with
  | next=>obtain ⟨σ7,H7,I7,n7⟩:=q7;exact again I7 n7
  | cont=>obtain ⟨σ7,H7,I7,n7⟩:=q7;exact again I7 n7
  | brk=>obtain ⟨σ7,H7,I7,q7⟩:=q7;exact ⟨σ7,H7,I7.unpinned,q7⟩
  | ret v=>obtain ⟨x7,σ7,H7,I7,r7,q7⟩:=q7;exact ⟨x7,σ7,H7,I7.unpinned,r7,q7⟩
end
theorem Pf{K:zAA}{a:Addr}{xs:je}{g:TG}{tb:TS}{D:YG}{σ:St}{H:Hp}(Pv:Nat->St->Hp->Prop)(h0:Pv 0 σ H)(hl:∀ i σ H,i<=xs.length->Pv i σ H->ZK K H a xs)(hs:∀ i x σ H,xs[i]? = some x->Pv i σ H->g x σ H fun σ2 H2=>tb { D with nx:=Pv (i+1),ct:=Pv (i+1),bk:=D.nx } σ2 H2)(hd:∀ σ H,Pv xs.length σ H->D.nx σ H):
  ∃ W:Nat->Nat->St->Hp->Prop,(∃ m,W 0 m σ H)/\∀ i m σ H,W i m σ H ->
   ((OH K a).stop i H/\D.nx σ H)\/((OH K a).go i H/\∃ N:St->Hp->Prop,(∀ σ' H',N σ' H'->∃ m',m'<m/\W (i+1) m' σ' H')/\∀ x H',(OH K a).yld i H x H'->g x σ H' fun σ2 H2=>tb { D with nx:=N,ct:=N,bk:=D.nx } σ2 H2):=by
 refine ⟨fun i m σ H=>m=xs.length - i/\i<=xs.length/\Pv i σ H,⟨xs.length,by simp,zAd _,h0⟩,?_⟩
 rintro i m σ H ⟨rfl,hi,p⟩;have q:=hl i σ H hi p;by_cases hlt:i<xs.length
 ·refine .inr ⟨⟨xs,xs[i],q,by simp [hlt]⟩,Pv (i+1),fun σ' H' p'=>⟨xs.length - (i+1),by lia,rfl,hlt,p'⟩,fun x H' y=>?_⟩
  obtain ⟨e,y⟩:=y;subst e;exact hs i x σ _ (y xs q) p
 ·have e:i=xs.length:=by lia
  subst e;exact .inl ⟨⟨xs,q,zAH _⟩,hd σ H p⟩
theorem Qp{lo:Int}{n:Nat}{g:TG}{tb:TS}{D:YG}{σ:St}{H:Hp}(Pv:Nat->St->Hp->Prop)(h0:Pv 0 σ H)(hs:∀ i σ H,i<n->Pv i σ H->g (.int (lo+i)) σ H fun σ2 H2=>tb { D with nx:=Pv (i+1),ct:=Pv (i+1),bk:=D.nx } σ2 H2)(hd:∀ σ H,Pv n σ H->D.nx σ H):
  ∃ W:Nat->Nat->St->Hp->Prop,(∃ m,W 0 m σ H)/\∀ i m σ H,W i m σ H ->
   ((Qn lo n).stop i H/\D.nx σ H)\/((Qn lo n).go i H/\∃ N:St->Hp->Prop,(∀ σ' H',N σ' H'->∃ m',m'<m/\W (i+1) m' σ' H')/\∀ x H',(Qn lo n).yld i H x H'->g x σ H' fun σ2 H2=>tb { D with nx:=N,ct:=N,bk:=D.nx } σ2 H2):=by
 refine ⟨fun i m σ H=>m=n - i/\i<=n/\Pv i σ H,⟨n,by simp,zAd _,h0⟩,?_⟩
 rintro i m σ H ⟨rfl,hi,p⟩;by_cases hlt:i<n
 ·refine .inr ⟨hlt,Pv (i+1),fun σ' H' p'=>⟨n - (i+1),by lia,rfl,hlt,p'⟩,fun x H' y=>?_⟩
  obtain ⟨e,y⟩:=y;subst e y;exact hs i σ _ hlt p
 ·have e:i=n:=by lia
  subst e;exact .inl ⟨zAH _,hd σ H p⟩
abbrev R2:=V->V->Hp->VK->Prop
def YX(X:Cx)(f:Value->Value->Sem Value)(r:R2):Prop:=
 ∀(pins:List (Addr×Obj))(s:Shared)(σ:St)(H:Hp)(x y:V)(v u:Value)(Q:VK),ZI X pins σ H s->ZR x v->ZR y u->r x y H Q ->
  wpAny (model X.prog X.w) X.A (f v u) (EP X pins σ Q) X.xe s
def LS(X:Cx)(f:Value->Sem Value)(r:V->Hp->VK->Prop):Prop:=
 ∀(pins:List (Addr×Obj))(s:Shared)(σ:St)(H:Hp)(x:V)(v:Value)(Q:VK),ZI X pins σ H s->ZR x v->r x H Q ->
  wpAny (model X.prog X.w) X.A (f v) (EP X pins σ Q) X.xe s
def Wr(X:Cx)(f:Value)(r:je->Hp->VK->Prop):Prop:=
 ∀(pins:List (Addr×Obj))(s:Shared)(σ:St)(H:Hp)(xs:je)(us:jd)(Q:VK),ZI X pins σ H s->ZP xs us->r xs H Q ->
  wpAny (model X.prog X.w) X.A (call f us) (EP X pins σ Q) X.xe s
def Pi(r:R2)(ta tb:TE):TE:=fun σ H Q=>ta σ H fun x H1=>tb σ H1 fun y H2=>r x y H2 Q
def GJ(r:V->Hp->VK->Prop)(ta:TE):TE:=fun σ H Q=>ta σ H fun x H1=>r x H1 Q
def rI(C:Int->Int->Prop)(g:Int->Int->V):R2:=fun x y H Q=>∃ i j,x=.int i/\y=.int j/\C i j/\Q (g i j) H
def QQ(g:Int->Int->V):R2:=fun x y H Q=>∃ i j,x=.int i/\y=.int j/\Q (g i j) H
def rU(g:Int->V):V->Hp->VK->Prop:=fun x H Q=>∃ i,x=.int i/\Q (g i) H
section
variable{X:Cx}{a b c:Expr}{ta tb tc:TE}{pos:Pos}
theorem Mo(ha:PE X a ta)(hb:PE X b tb){pins:List (Addr×Obj)}{s:Shared}{σ:St}{H:Hp}{R:V->V->Hp->Prop}(I:ZI X pins σ H s)(h:ta σ H fun x H1=>tb σ H1 fun y H2=>R x y H2){Q:ja}{f:Value->Value->Sem Value}(hf:∀ v u s2 x y H2,ZI X pins σ H2 s2->ZR x v->ZR y u->R x y H2->wpAny (model X.prog X.w) X.A (f v u) Q X.xe s2):
  wpAny (model X.prog X.w) X.A (eval a X.env) (fun v s₁=>wpAny (model X.prog X.w) X.A (eval b X.env) (fun u s₂=>wpAny (model X.prog X.w) X.A (f v u) Q X.xe s₂) X.xe s₁) X.xe s:=by
 refine Za (ha pins s σ H _ I h) fun v s1 ⟨x,H1,I1,r1,q1⟩=>?_;refine Za (hb pins s1 σ H1 _ I1 q1) fun u s2 ⟨y,H2,I2,r2,q2⟩=>?_;exact hf v u s2 x y H2 I2 r1 r2 q2
theorem Zo{op:Operator}{r:R2}(ho:YX X (binaryOp op) r)(ha:PE X a ta)(hb:PE X b tb):PE X (.BinOp a op b pos) (Pi r ta tb):=by
 intro pins s σ H Q I h;exact wpAny_BinOp (Mo ha hb I h fun v u s2 x y H2 I2 rx ry q=>ho pins s2 σ H2 x y v u Q I2 rx ry q)
theorem QD{op:UnaryOp}{r:V->Hp->VK->Prop}(ho:LS X (unaryOp op) r)(ha:PE X a ta):PE X (.UnaryOp op a pos) (GJ r ta):=by
 intro pins s σ H Q I h;exact UnaryOp_ (Za (ha pins s σ H _ I h) fun v s1 ⟨x,H1,I1,r1,q1⟩=>ho pins s1 σ H1 x v Q I1 r1 q1)
theorem OI{f:Value->Value->Sem Value}{C:Int->Int->Prop}{g:Int->Int->Int}(rule:∀ (i j:Int) (t u:Tok) (s:Shared) (Q:ja) (E:ja),C i j->Q (.int (g i j) s.toks) { s with toks:=s.toks+1 }->wpAny (model X.prog X.w) X.A (f (.int i t) (.int j u)) Q E s):
  YX X f (rI C fun i j=>.int (g i j)):=by
 intro pins s σ H x y v u Q I rx ry h;obtain ⟨i,j,rfl,rfl,hc,q⟩:=h;obtain ⟨t,rfl⟩:=rx;obtain ⟨t',rfl⟩:=ry;exact rule i j t t' s _ _ hc ⟨.int (g i j),H,I.tok _,⟨_,rfl⟩,q⟩
theorem JI{f:Value->Value->Sem Value}{g:Int->Int->Int}(rule:∀ (i j:Int) (t u:Tok) (s:Shared) (Q:ja) (E:ja),Q (.int (g i j) s.toks) { s with toks:=s.toks+1 }->wpAny (model X.prog X.w) X.A (f (.int i t) (.int j u)) Q E s):
  YX X f (QQ fun i j=>.int (g i j)):=by
 intro pins s σ H x y v u Q I rx ry h;obtain ⟨i,j,rfl,rfl,q⟩:=h;obtain ⟨t,rfl⟩:=rx;obtain ⟨t',rfl⟩:=ry;exact rule i j t t' s _ _ ⟨.int (g i j),H,I.tok _,⟨_,rfl⟩,q⟩
theorem NK{f:Value->Value->Sem Value}{g:Int->Int->Bool}(rule:∀ (i j:Int) (t u:Tok) (s:Shared) (Q:ja) (E:ja),Q (.bool (g i j)) s->wpAny (model X.prog X.w) X.A (f (.int i t) (.int j u)) Q E s):
  YX X f (QQ fun i j=>.bl (g i j)):=by
 intro pins s σ H x y v u Q I rx ry h;obtain ⟨i,j,rfl,rfl,q⟩:=h;obtain ⟨t,rfl⟩:=rx;obtain ⟨t',rfl⟩:=ry;exact rule i j t t' s _ _ ⟨.bl (g i j),H,I,rfl,q⟩
def Ce(i j:Int):Prop:=0<j/\j<1073741824
def Ge(i j:Int):Prop:=0<=j/\j<=1000000/\i.natAbs<2 ^ 64
def QC(i j:Int):Prop:=(-(2 ^ 64)<i/\i<2 ^ 64)\/(-(2 ^ 64)<j/\j<2 ^ 64)
theorem QC.ok{i j:Int}(h:QC i j):IntMulOk i j:=by
 rcases h with ⟨h1,h2⟩ | ⟨h1,h2⟩
 ·exact .of_left (intBits_le_64 h1 h2)
 ·exact .of_right (intBits_le_64 h1 h2)
theorem Xn:YX X (binaryOp .Add) (QQ fun i j=>.int (i+j)):=JI fun _ _ _ _ _ _ _ q=>add_int q
theorem VZ:YX X (binaryOp .Sub) (QQ fun i j=>.int (i - j)):=JI fun _ _ _ _ _ _ _ q=>sub_int q
theorem Qz:YX X (binaryOp .Mult) (rI QC fun i j=>.int (i * j)):=OI fun _ _ _ _ _ _ _ hc q=>mul_int q hc.ok
theorem OX:YX X (binaryOp .FloorDiv) (rI Ce fun i j=>.int (i / j)):=OI fun i j _ _ _ _ _ hc q=>by
 have h1:(0:Int)<j:=hc.1;have h2:j<1073741824:=hc.2;exact floordiv_int (by lia) (by rw [zDI i (by lia)];exact q) (.inl (PyProof.noPylong_small (by lia)))
theorem QY:YX X (binaryOp .Mod) (rI (fun _ j=>0<j) fun i j=>.int (i % j)):=OI fun i j _ _ _ _ _ hc q=>by
 have h1:(0:Int)<j:=hc;exact mod_int' (by lia) (by rw [Int.fmod_eq_emod_of_nonneg i (by lia)];exact q)
theorem Ql:YX X (binaryOp .Pow) (rI Ge fun i j=>.int (i ^ j.toNat)):=OI fun _ _ _ _ _ _ _ hc q=>pow_int_small hc.1 hc.2.1 hc.2.2 q
theorem C3{f:Value->Sem Value}{g:Int->Int}(rule:∀ (i:Int) (t:Tok) (s:Shared) (Q:ja) (E:ja),Q (.int (g i) s.toks) { s with toks:=s.toks+1 }->wpAny (model X.prog X.w) X.A (f (.int i t)) Q E s):
  LS X f (rU fun i=>.int (g i)):=by
 intro pins s σ H x v Q I rx h;obtain ⟨i,rfl,q⟩:=h;obtain ⟨t,rfl⟩:=rx;exact rule i t s _ _ ⟨.int (g i),H,I.tok _,⟨_,rfl⟩,q⟩
theorem U9:LS X (unaryOp .USub) (rU fun i=>.int (-i)):=C3 fun _ _ _ _ _ q=>neg_int q
end
def Kv:V->V->Bool
 | .non,.non=>true | .non,.int _=>true | .int _,.non=>true | .non,.bl _=>true | .bl _,.non=>true | .non,.str _=>true | .str _,.non=>true
 | .int _,.int _=>true | .bl _,.bl _=>true | .str _,.str _=>true | .byt _,.byt _=>true
 | .int _,.str _=>true | .str _,.int _=>true | .bl _,.str _=>true | .str _,.bl _=>true
 | _,_=>false
def BU:R2:=fun x y H Q=>Kv x y=true/\Q (.bl (decide (x=y))) H
def rNe:R2:=fun x y H Q=>Kv x y=true/\Q (.bl (!decide (x=y))) H
theorem HJ{i j:Int}:decide (V.int i=V.int j)=(i==j):=by
 rw [zBy];simp
theorem K8{i j:Bool}:decide (V.bl i=V.bl j)=(i==j):=by
 rw [zBy];simp
theorem Iy{i j:Str}:decide (V.str i=V.str j)=(i==j):=by
 rw [zBy];simp
theorem IR{i j:Array UInt8}:decide (V.byt i=V.byt j)=(i.toList==j.toList):=by
 rw [zBy];cases i;cases j;simp
section
variable{X:Cx}{a b c:Expr}{ta tb tc:TE}{pos:Pos}
theorem Ye{pins:List (Addr×Obj)}{σ:St}{H:Hp}{s:Shared}{Q:VK}{k k':Bool}(I:ZI X pins σ H s)(q:Q (.bl k) H)(e:k=k'):EP X pins σ Q (.bool k') s:=by
 subst e;exact ⟨.bl k,H,I,rfl,q⟩
theorem X9:YX X (compareOp .Eq) BU:=by
 intro pins s σ H x y v u Q I rx ry h;obtain ⟨hs,q⟩:=h
 cases x with
 | non=>
  cases rx
  cases y with
  | non=>cases ry;exact PySem.EqNone.eq_none_none (Ye I q (by simp))
  | bl j=>cases ry;exact PySem.EqNone.eq_none_bool (Ye I q (by simp))
  | int j=>obtain ⟨t',rfl⟩:=ry;exact PySem.EqNone.eq_none_int (Ye I q (by simp))
  | str j=>obtain ⟨t',rfl⟩:=ry;exact PySem.EqNone.eq_none_str (Ye I q (by simp))
  | _=>exact absurd (show false=true from hs) zAF
 | bl i=>
  cases rx
  cases y with
  | non=>cases ry;exact PySem.EqNone.eq_bool_none (Ye I q (by simp))
  | bl j=>cases ry;exact eq_bool (Ye I q K8)
  | str j=>obtain ⟨t',rfl⟩:=ry;exact PySem.EqMixed.eq_bool_str (Ye I q (by simp))
  | _=>exact absurd (show false=true from hs) zAF
 | int i=>
  obtain ⟨t,rfl⟩:=rx
  cases y with
  | non=>cases ry;exact PySem.EqNone.eq_int_none (Ye I q (by simp))
  | int j=>obtain ⟨t',rfl⟩:=ry;exact eq_int (Ye I q HJ)
  | str j=>obtain ⟨t',rfl⟩:=ry;exact PySem.EqMixed.eq_int_str (Ye I q (by simp))
  | _=>exact absurd (show false=true from hs) zAF
 | str i=>
  obtain ⟨t,rfl⟩:=rx
  cases y with
  | non=>cases ry;exact PySem.EqNone.eq_str_none (Ye I q (by simp))
  | bl j=>cases ry;exact PySem.EqMixed.eq_str_bool (Ye I q (by simp))
  | int j=>obtain ⟨t',rfl⟩:=ry;exact PySem.EqMixed.eq_str_int (Ye I q (by simp))
  | str j=>obtain ⟨t',rfl⟩:=ry;exact eq_str (Ye I q Iy)
  | _=>exact absurd (show false=true from hs) zAF
 | byt i=>
  obtain ⟨t,rfl⟩:=rx
  cases y with
  | byt j=>obtain ⟨t',rfl⟩:=ry;exact PySem.W.eq_bytes (Ye I q IR)
  | _=>exact absurd (show false=true from hs) zAF
 | _=>cases y <;> exact absurd (show false=true from hs) zAF
theorem O3:YX X (compareOp .NotEq) rNe:=by
 intro pins s σ H x y v u Q I rx ry h;obtain ⟨hs,q⟩:=h
 cases x with
 | non=>
  cases rx
  cases y with
  | non=>cases ry;exact PySem.EqNone.ne_none_none (Ye I q (by simp))
  | bl j=>cases ry;exact PySem.EqNone.ne_none_bool (Ye I q (by simp))
  | int j=>obtain ⟨t',rfl⟩:=ry;exact PySem.EqNone.ne_none_int (Ye I q (by simp))
  | str j=>obtain ⟨t',rfl⟩:=ry;exact PySem.EqNone.ne_none_str (Ye I q (by simp))
  | _=>exact absurd (show false=true from hs) zAF
 | bl i=>
  cases rx
  cases y with
  | non=>cases ry;exact PySem.EqNone.ne_bool_none (Ye I q (by simp))
  | bl j=>cases ry;exact ne_bool (Ye I q (congrArg not K8))
  | str j=>obtain ⟨t',rfl⟩:=ry;exact PySem.EqMixed.ne_bool_str (Ye I q (by simp))
  | _=>exact absurd (show false=true from hs) zAF
 | int i=>
  obtain ⟨t,rfl⟩:=rx
  cases y with
  | non=>cases ry;exact PySem.EqNone.ne_int_none (Ye I q (by simp))
  | int j=>obtain ⟨t',rfl⟩:=ry;exact ne_int (Ye I q (congrArg not HJ))
  | str j=>obtain ⟨t',rfl⟩:=ry;exact PySem.EqMixed.ne_int_str (Ye I q (by simp))
  | _=>exact absurd (show false=true from hs) zAF
 | str i=>
  obtain ⟨t,rfl⟩:=rx
  cases y with
  | non=>cases ry;exact PySem.EqNone.ne_str_none (Ye I q (by simp))
  | bl j=>cases ry;exact PySem.EqMixed.ne_str_bool (Ye I q (by simp))
  | int j=>obtain ⟨t',rfl⟩:=ry;exact PySem.EqMixed.ne_str_int (Ye I q (by simp))
  | str j=>obtain ⟨t',rfl⟩:=ry;exact ne_str (Ye I q (congrArg not Iy))
  | _=>exact absurd (show false=true from hs) zAF
 | byt i=>
  obtain ⟨t,rfl⟩:=rx
  cases y with
  | byt j=>obtain ⟨t',rfl⟩:=ry;exact PySem.W.ne_bytes (Ye I q (congrArg not IR))
  | _=>exact absurd (show false=true from hs) zAF
 | _=>cases y <;> exact absurd (show false=true from hs) zAF
theorem Q4:YX X (compareOp .Lt) (QQ fun i j=>.bl (decide (i<j))):=NK fun _ _ _ _ _ _ _ q=>lt_int q
theorem PM:YX X (compareOp .LtE) (QQ fun i j=>.bl (decide (i<=j))):=NK fun _ _ _ _ _ _ _ q=>le_int q
theorem QW:YX X (compareOp .Gt) (QQ fun i j=>.bl (decide (j<i))):=NK fun _ _ _ _ _ _ _ q=>gt_int q
theorem ZOo:YX X (compareOp .GtE) (QQ fun i j=>.bl (decide (j<=i))):=NK fun _ _ _ _ _ _ _ q=>ge_int q
theorem Zy(b:Expr){op:CmpOp}(h:op≠.In:=by decide)(h2:op≠.NotIn:=by decide):behindInMarks op b=false:=by
 have e1:(op==CmpOp.In)=false:=by cases op <;> first | rfl | exact absurd rfl h
 have e2:(op==CmpOp.NotIn)=false:=by cases op <;> first | rfl | exact absurd rfl h2
 cases b <;> simp [behindInMarks,e1,e2]
theorem VG{op:CmpOp}{r:R2}(ho:YX X (compareOp op) r)(ha:PE X a ta)(hb:PE X b tb)(hm:behindInMarks op b=false):PE X (.Compare a [op] [b] pos) (Pi r ta tb):=by
 intro pins s σ H Q I h;exact wpAny_Compare1 (Mo ha hb I h fun v u s2 x y H2 I2 rx ry q=>ho pins s2 σ H2 x y v u Q I2 rx ry q) hm
def J9(t:TE):TT:=fun σ H Q=>t σ H fun x H'=>∃ k,x=.bl k/\Q k H'
theorem YN{op:CmpOp}{r:R2}(ho:YX X (compareOp op) r)(ha:PE X a ta)(hb:PE X b tb)(hm:behindInMarks op b=false):PT X (.Compare a [op] [b] pos) (J9 (Pi r ta tb)):=by
 intro pins s σ H Q I h;refine wpAny_isTrue_Compare1 (Za (ha pins s σ H _ I h) fun v s1 ⟨x,H1,I1,r1,q1⟩=>Za (hb pins s1 σ H1 _ I1 q1) fun u s2 ⟨y,H2,I2,r2,q2⟩=>
  Za (ho pins s2 σ H2 x y v u _ I2 r1 r2 q2) fun c s3 ⟨z,H3,I3,r3,k,e,q3⟩=>?_) hm
 subst e;cases r3;exact wpAny_truthy_bool ⟨H3,I3,q3⟩
def Kd(r r':R2)(ta tb tc:TE):TE:=fun σ H Q=>ta σ H fun x H1=>tb σ H1 fun y H2=>r x y H2 fun z H3=>∃ k,z=.bl k /\
 (if k=true then tc σ H3 fun w' H4=>r' y w' H4 Q else Q (.bl false) H3)
theorem B1{op op':CmpOp}{r r':R2}(ho:YX X (compareOp op) r)(ho':YX X (compareOp op') r')(ha:PE X a ta)(hb:PE X b tb)(hc:PE X c tc)(hm:lastMarks [op,op'] [b,c]=false:=by with_unfolding_all rfl):PE X (.Compare a [op,op'] [b,c] pos) (Kd r r' ta tb tc):=by
 intro pins s σ H Q I h;refine Compare_chain (Za (ha pins s σ H _ I h) fun v s1 ⟨x,H1,I1,r1,q1⟩=>chain_link (Za (hb pins s1 σ H1 _ I1 q1) fun u s2 ⟨y,H2,I2,r2,q2⟩=>
  Za (ho pins s2 σ H2 x y v u _ I2 r1 r2 q2) fun d s3 ⟨z,H3,I3,r3,k,e,q3⟩=>?_)) hm
 subst e;cases r3;refine wpAny_truthy_bool ?_
 cases k with
 | false=>exact ite_ff ⟨.bl false,H3,I3,rfl,q3⟩
 | true=>exact ite_tt (chain_last (Za (hc pins s3 σ H3 _ I3 q3) fun w' s4 ⟨z',H4,I4,r4,q4⟩=>ho' pins s4 σ H4 y z' u w' Q I4 r2 r4 q4))
theorem KQ{op op':CmpOp}{r r':R2}(ho:YX X (compareOp op) r)(ho':YX X (compareOp op') r')(ha:PE X a ta)(hb:PE X b tb)(hc:PE X c tc)(hm:lastMarks [op,op'] [b,c]=false:=by with_unfolding_all rfl):PT X (.Compare a [op,op'] [b,c] pos) (J9 (Kd r r' ta tb tc)):=by
 intro pins s σ H Q I h;refine isTrue_chain (Za (ha pins s σ H _ I h) fun v s1 ⟨x,H1,I1,r1,q1⟩=>test_link (Za (hb pins s1 σ H1 _ I1 q1) fun u s2 ⟨y,H2,I2,r2,q2⟩=>
  Za (ho pins s2 σ H2 x y v u _ I2 r1 r2 q2) fun d s3 ⟨z,H3,I3,r3,k,e,q3⟩=>?_)) hm
 subst e;cases r3;refine wpAny_truthy_bool ?_
 cases k with
 | false=>
  obtain ⟨k',e',q'⟩:=q3;cases e';exact ite_ff ⟨H3,I3,q'⟩
 | true=>
  refine ite_tt (test_last (Za (hc pins s3 σ H3 _ I3 q3) fun w' s4 ⟨z',H4,I4,r4,q4⟩=>Za (ho' pins s4 σ H4 y z' u w' _ I4 r2 r4 q4) fun d' s5 ⟨z2,H5,I5,r5,k2,e2,q5⟩=>?_));subst e2;cases r5;exact wpAny_truthy_bool ⟨H5,I5,q5⟩
theorem Pe:(sizeLine:Nat)<2 ^ 63:=by rw [sizeLine_eq];decide
theorem Fu:YX X (binaryOp .Add) (fun x y H Q=>∃ i j,x=.str i/\y=.str j/\i.length+j.length<=sizeLine/\Q (.str (i++j)) H):=by
 intro pins s σ H x y v u Q I rx ry h;obtain ⟨i,j,rfl,rfl,hz,q⟩:=h;obtain ⟨t,rfl⟩:=rx;obtain ⟨t',rfl⟩:=ry;exact add_str (fun t' tk=>⟨.str (i++j),H,I.tok _,⟨_,rfl⟩,q⟩) hz
theorem VI{x:V}{us:jd}(r:ZP [x] us):∃ u,us=[u]/\ZR x u:=by
 cases r with
 | cons r1 r2=>cases r2;exact ⟨_,rfl,r1⟩
theorem OM{x y:V}{us:jd}(r:ZP [x,y] us):∃ u w',us=[u,w']/\ZR x u/\ZR y w':=by
 cases r with
 | cons r1 r2=>
  cases r2 with
  | cons r3 r4=>cases r4;exact ⟨_,_,rfl,r1,r3⟩
theorem M2:Wr X (.builtin "abs") (fun xs H Q=>∃ i,xs=[.int i]/\Q (.int (if i<0 then -i else i)) H):=by
 intro pins s σ H xs us Q I r h;obtain ⟨i,rfl,q⟩:=h;obtain ⟨u,rfl,t,rfl⟩:=VI r;exact call_abs_int fun u tk=>⟨.int (if i<0 then -i else i),H,I.tok _,⟨_,rfl⟩,q⟩
theorem NA(hc:X.calm=true):Wr X (.builtin "max") (fun xs H Q=>∃ i j,xs=[.int i,.int j]/\Q (.int (if j > i then j else i)) H):=by
 intro pins s σ H xs us Q I r h;obtain ⟨i,j,rfl,q⟩:=h;obtain ⟨u,w',rfl,⟨t,rfl⟩,⟨t',rfl⟩⟩:=OM r;refine max_two_ints (I.ok.hd hc) fun h' tk k=>⟨_,H,I.kept k,?_,q⟩;by_cases hj:j > i
 ·rw [if_pos hj,if_pos hj];exact ⟨_,rfl⟩
 ·rw [if_neg hj,if_neg hj];exact ⟨_,rfl⟩
theorem K1(hc:X.calm=true):Wr X (.builtin "min") (fun xs H Q=>∃ i j,xs=[.int i,.int j]/\Q (.int (if j<i then j else i)) H):=by
 intro pins s σ H xs us Q I r h;obtain ⟨i,j,rfl,q⟩:=h;obtain ⟨u,w',rfl,⟨t,rfl⟩,⟨t',rfl⟩⟩:=OM r;refine min_two_ints (I.ok.hd hc) fun h' tk k=>⟨_,H,I.kept k,?_,q⟩;by_cases hj:j<i
 ·rw [if_pos hj,if_pos hj];exact ⟨_,rfl⟩
 ·rw [if_neg hj,if_neg hj];exact ⟨_,rfl⟩
theorem Pu:Wr X (.type "int") (fun xs H Q=>(∃ i,xs=[.int i]/\Q (.int i) H)\/∃ k,xs=[.bl k]/\Q (.int (if k then 1 else 0)) H):=by
 intro pins s σ H xs us Q I r h;rcases h with ⟨i,rfl,q⟩ | ⟨k,rfl,q⟩
 ·obtain ⟨u,rfl,t,rfl⟩:=VI r;exact call_int_int ⟨.int i,H,I,⟨_,rfl⟩,q⟩
 ·obtain ⟨u,rfl,r1⟩:=VI r;cases r1;exact call_int_bool ⟨.int (if k then 1 else 0),H,I.tok _,⟨_,rfl⟩,q⟩
end
structure VS(h:Heap)(x dx C:Addr)(mA:jb):Prop where
 obj:h.get? x=some (zBV C dx)
 ns:h.Ns1 dx mA
 ne:dx≠x
theorem Ie{h:Heap}{dx:Addr}{mA:jb}(n:h.Ns1 dx mA):∃ od,h.get? dx=some od/\∀ name,zB9 name od=some (mA name):=by
 obtain ⟨o,es,ep,ho,hd,hk,_,hm⟩:=n;refine ⟨o,ho,fun name=>?_⟩;have e:=hm name;unfold nsFind findBy at e;rw [<-Array.find?_toList] at e;unfold zB9;rw [hd];dsimp only;split
 ·rename_i y q
  rw [q] at e;exact congrArg some e
 ·rename_i q
  rw [q] at e;have a:es.toList.any (·.refKey)=false:=by
   rw [List.any_eq_false];intro y hy;obtain ⟨z,t,hkey⟩:=hk y (zDY.mp hy);simp [DictEntry.refKey,hkey]
  have a':¬ es.toList.any (·.refKey)=true:=by rw [a];exact zAF
  rw [if_neg a'];exact congrArg some e
theorem VS.look{h:Heap}{x dx C:Addr}{mA:jb}(I:VS h x dx C mA):∃ od,zC3 h x (zBV C dx) C (some od)/\∀ name,zB9 name od=some (mA name):=
 let ⟨od,ho,hl⟩:=Ie I.ns
 ⟨od,⟨I.obj,rfl,rfl,ho⟩,hl⟩
section
variable{prog:Program}{w:World}{A:Around}{E:ja}{s:Shared}{K:zAA}{x dx C f:Addr}{mA:jb}{name:Str}{v:Value}
theorem Bq{expr:Bool}{Q:ja}(X:K.In s.heap)(I:VS s.heap x dx C mA)(hg:zBm K C name=true)(hh:zBW K C=true)(ha:zAX K (.ref C) name=some none)(hv:mA name=some v)(hv':PySem.W.handedIn v=true)(h:Q v { s with toks:=s.toks+1 }):
  wpAny (model prog w) A (getAttr (.ref x) name expr) Q E s:=by
 obtain ⟨od,J,hl⟩:=I.look;exact PySem.W.get_value X J (zCX hg).1 (PySem.W.findObj_own hh ha rfl (by rw [hl,hv])) hv' h
theorem BI{pl:Sem Bool}{Q:Value×jd->Shared->Prop}(X:K.In s.heap)(I:VS s.heap x dx C mA)(hg:zBm K C name=true)(hf:zAX K (.ref C) name=some (some (.ref f)))(ht:zBp K (.ref f)=true)(hv:mA name=none)(h:Q (.ref f,[.ref x]) s):
  wpAny (model prog w) A (getMethod (.ref x) name pl) Q E s:=by
 obtain ⟨od,J,hl⟩:=I.look;exact PySem.W.method_fn X J (zCX hg).1 (zCX hg).2 hf (beq_iff_eq.mp ht) (by show (zB9 name od).map (·.isSome)=some false;rw [hl,hv];rfl) h
theorem B4{ns:List Str}{Q:Unit->Shared->Prop}(X:K.In s.heap)(I:VS s.heap x dx C mA)(hs:zAX K (.ref C) "__setattr__" = some (some (.builtin "object.__setattr__")))(hp:zCB K C=true)(ht:zCs K C name=some none)(hh:zBW K C=true)(hw:PySem.Within mA ns)(hsz:ns.length<=sizeLine)(h:∀ h',VS h' x dx C (fun y=>if y=name then some v else mA y)->zA6 dx s.heap h'->Q () { s with heap:=h',toks:=s.toks+2 }):
  wpAny (model prog w) A (setAttr (.ref x) name v) Q E s:=by
 obtain ⟨od,J,hl⟩:=I.look;refine PySem.W.set_plain X J hs (PySem.W.osa_open (s:={ s with toks:=s.toks+1 }) (r:=none) X J hp ht fun b=>?_);obtain ⟨cd,hc,hd'⟩:=zCI hh;have hx:s.heap.get? x=some ⟨.ref C,some dx,.plain,#[]⟩:=I.obj;refine wpAny_bind (wpAny_pure (wpAny_bind (wpAny_bind (wpAny_loadPart hx (wpAny_bind (zAz.here (s:={ s with toks:=s.toks+1 }) (zCY X hc) ?_))))));rw [hd'];refine wpAny_pure (a:=some dx) (wpAny_bind (wpAny_pure (wpAny_bind ?_)));refine wpAny_nsSet1 (s:={ s with toks:=s.toks+1 }) I.ns fun h' hn2 hs2=>?_;obtain ⟨oD,esD,epD,hoD,hdD,hcD⟩:=hn2.count (PySem.Within.cons name v hw);refine wpAny_bind (wpAny_lookBehind hoD (by rw [hdD];exact pastItsLine_dict (zBC hcD (by rw [zAW];lia))) ?_)
 exact wpAny_pure (h _ ⟨(hs2.2 _ (Ne.symm I.ne)).trans I.obj,hn2,I.ne⟩ hs2)
theorem Bm{R:Result->Shared->Prop}{vs:jd}{kw:List (Str×Value)}(X:K.In s.heap)(hm:zCP K C=true)(hi:zAX K (.ref C) "__init__" = some (some (.ref f)))(hf:zBA K (.ref f)=some (.type "function"))(h:codeAny (model prog w) (A.under (.builtin "type.__call__" ⟨.ref C :: vs,kw⟩)) (.call (.ref f) ⟨.ref (s.heap.objs.size+1) :: vs,kw⟩) (PySem.W.InitBack (s.heap.objs.size+1) R)
   { s with heap:=(s.heap.push zBK).push (zBV C s.heap.objs.size) }):
  codeAny (model prog w) A (.call (.ref C) ⟨vs,kw⟩) R s:=by
 obtain ⟨hh,g,d,t,os⟩:=s;exact PySem.W.make_core (PySem.W.makes_of X hm) (zB1 X hi) (fun self=>PySem.W.bind_fn X self hf) (.inl rfl) h
end
def Y4(f:Str)(v:V):List (Str×V)->List (Str×V)
 | []=>[(f,v)]
 | (g,x) :: r=>if g=f then (g,v) :: r else (g,x) :: Y4 f v r
theorem Hk(f g:Str)(v:V):∀ fs:List (Str×V),(Y4 f v fs).lookup g=if g=f then some v else fs.lookup g
 | []=>by
  show zBb g [(f,v)]=_;by_cases h:g=f
  ·have hb:(g==f)=true:=beq_iff_eq.mpr h;simp only [zBb,hb,if_pos h]
  ·have hb:(g==f)=false:=beq_eq_false_iff_ne.mpr h;simp only [zBb,hb,if_neg h]
 | (k,x) :: r=>by
  have ih:=Hk f g v r;rw [show Y4 f v ((k,x) :: r)=(if k=f then (k,v) :: r else (k,x) :: Y4 f v r) from rfl]
  by_cases hk:k=f
  ·rw [if_pos hk];by_cases h:g=k
   ·have hb:(g==k)=true:=beq_iff_eq.mpr h;simp only [zBb,hb,if_pos (h.trans hk)]
   ·have hb:(g==k)=false:=beq_eq_false_iff_ne.mpr h;simp only [zBb,hb,if_neg (fun e:g=f=>h (e.trans hk.symm))]
  ·rw [if_neg hk];by_cases h:g=k
   ·have hb:(g==k)=true:=beq_iff_eq.mpr h;simp only [zBb,hb,if_neg (fun e:g=f=>hk (h.symm.trans e))]
   ·have hb:(g==k)=false:=beq_eq_false_iff_ne.mpr h;simp only [zBb,hb];exact ih
theorem Mi(f:Str)(v:V):∀ fs:List (Str×V),f∈(Y4 f v fs).map (·.1)/\∀ g,g∈fs.map (·.1)->g∈(Y4 f v fs).map (·.1)
 | []=>⟨by simp [Y4],fun g h=>by simp at h⟩
 | (k,x) :: r=>by
  obtain ⟨i1,i2⟩:=Mi f v r;rw [show Y4 f v ((k,x) :: r)=(if k=f then (k,v) :: r else (k,x) :: Y4 f v r) from rfl]
  by_cases hk:k=f
  ·rw [if_pos hk];subst hk;exact ⟨by simp,fun g h=>by simpa using h⟩
  ·rw [if_neg hk];refine ⟨?_,fun g h=>?_⟩
   ·rw [zAn];exact zAN _ i1
   ·rw [zAn] at h ⊢;rcases zAf.mp h with e | e
    ·exact zAf.mpr (.inl e)
    ·exact zAN _ (i2 g e)
theorem JD(f:Str)(v:V):∀ fs:List (Str×V),(Y4 f v fs).length<=fs.length+1
 | []=>by simp [Y4]
 | (k,x) :: r=>by
  have ih:=JD f v r;rw [show Y4 f v ((k,x) :: r)=(if k=f then (k,v) :: r else (k,x) :: Y4 f v r) from rfl]
  by_cases hk:k=f
  ·rw [if_pos hk,zAW,zAW];lia
  ·rw [if_neg hk,zAW,zAW];lia
theorem Yc.some_of{v:V}{o:jc}(r:Yc (some v) o):∃ u,o=some u/\ZR v u:=by
 cases o with
 | none=>exact (show False from r).elim
 | some u=>exact ⟨u,rfl,r⟩
theorem Yc.none_of{o:jc}(r:Yc none o):o=none:=by
 cases o with
 | none=>rfl
 | some u=>exact (show False from r).elim
theorem Ly{v:V}{u:Value}(r:ZR v u):PySem.W.handedIn u=true:=by
 cases v with
 | non=>cases (show u=Value.none from r);rfl
 | bl b=>cases (show u=Value.bool b from r);rfl
 | int i=>obtain ⟨t,e⟩:=(show ∃ t,u=Value.int i t from r);cases e;rfl
 | str x=>obtain ⟨t,e⟩:=(show ∃ t,u=Value.str x t from r);cases e;rfl
 | byt b=>obtain ⟨t,e⟩:=(show ∃ t,u=Value.bytes b t from r);cases e;rfl
 | flt b=>obtain ⟨t,e⟩:=(show ∃ t,u=Value.float b t from r);cases e;rfl
 | ref a=>cases (show u=Value.ref a from r);rfl
 | ty n=>cases (show u=Value.type n from r);rfl
section
variable{P:Program}{w:World}{H H':Hp}{h h':Heap}{a C dx:Addr}{fs fs':List (Str×V)}
theorem OY(hok:Yi P w H h)(e:H a=some (.ins C dx fs)):∃ mA,VS h a dx C mA/\(∀ f,Yc (fs.lookup f) (mA f))/\PySem.Within mA (fs.map (·.1))/\fs.length<=1000/\H dx=some (.own a):=by
 obtain ⟨d,z,ne,ob,mA,n,r,q⟩:=(show Ze P w H h a (.ins C dx fs) from hok a _ e);exact ⟨mA,⟨ob,n,ne⟩,r,q,z,d⟩
end
structure VR(K:zAA)(C:Addr):Prop where
 pg:zBm K C Str.empty=true
 hd:zBW K C=true
 po:zCB K C=true
 sa:zAX K (.ref C) "__setattr__" = some (some (.builtin "object.__setattr__"))
theorem VR.get{K:zAA}{C:Addr}(c:VR K C)(f:Str):zBm K C f=true:=c.pg
def Zx(K:zAA)(C:Addr)(f:Str):Prop:=zAX K (.ref C) f=some none
theorem Zx.taker{K:zAA}{C:Addr}{f:Str}(n:Zx K C f):zCs K C f=some none:=by
 unfold zCs;rw [show zAX K (.ref C) f=some none from n];rfl
structure US(K:zAA)(C:Addr)(m:Str)(f:Addr):Prop where
 at_:zAX K (.ref C) m=some (some (.ref f))
 fn:zBp K (.ref f)=true
 kp:zAu K (.ref f)=true
section
variable{X:Cx}{pins:List (Addr×Obj)}{σ:St}{H:Hp}{s:Shared}{a C dx:Addr}{fs:List (Str×V)}{f:Str}{v:V}{A:Around}{E:ja}
theorem IK{b:Bool}{Q:ja}(I:ZI X pins σ H s)(e:H a=some (.ins C dx fs))(c:VR X.K C)(n:Zx X.K C f)(l:fs.lookup f=some v)(h:∀ u s',ZI X pins σ H s'->ZR v u->Q u s'):wpAny (model X.prog X.w) A (getAttr (.ref a) f b) Q E s:=by
 obtain ⟨mA,O,r,_,_,_⟩:=OY I.hok e;obtain ⟨u,hu,ru⟩:=Yc.some_of (v:=v) (o:=mA f) (by rw [<-l];exact r f)
 exact Bq I.kIn O (c.get f) c.hd n hu (Ly ru) (h u _ (I.tok _) ru)
theorem JA{m:Str}{g:Addr}{pl:Sem Bool}{Q:Value×jd->Shared->Prop}(I:ZI X pins σ H s)(e:H a=some (.ins C dx fs))(c:VR X.K C)(k:US X.K C m g)(l:fs.lookup m=none)(h:Q (.ref g,[.ref a]) s):wpAny (model X.prog X.w) A (getMethod (.ref a) m pl) Q E s:=by
 obtain ⟨mA,O,r,_,_,_⟩:=OY I.hok e;have hn:mA m=none:=Yc.none_of (by rw [<-l];exact r m)
 exact BI I.kIn O (c.get m) k.at_ k.fn hn h
theorem Hq{y:V}{u:Value}{Q:Unit->Shared->Prop}(I:ZI X pins σ H s)(e:H a=some (.ins C dx fs))(c:VR X.K C)(n:Zx X.K C f)(hl:fs.length<1000)(ry:ZR y u)(h:∀ s',ZI X pins σ (upd H a (.ins C dx (Y4 f y fs))) s'->Q () s'):wpAny (model X.prog X.w) A (setAttr (.ref a) f u) Q E s:=by
 obtain ⟨mA,O,r,wi,_,ho⟩:=OY I.hok e;have hz:(fs.map (·.1)).length<=sizeLine:=by rw [zAD,sizeLine_eq];lia
 refine B4 I.kIn O c.sa c.po n.taker c.hd wi hz fun h' O' sb=>h _ ?_;have hd:∃ o,h'.get? dx=some o:=let ⟨o,_,_,e',_⟩:=O'.ns;⟨o,e'⟩;refine I.write (x:=a) (e:=dx) (by rw [e];exact True.intro) (.inr ho) (fun b q hb z=>(sb.2 b hb).trans z) hd ?_
 refine ⟨by rw [ZX O.ne];exact ho,?_,O.ne,O'.obj,_,O'.ns,fun g=>?_,fun g hg=>?_⟩
 ·have:=JD f y fs;lia
 ·show Yc ((Y4 f y fs).lookup g) (if g=f then some u else mA g)
  rw [Hk];by_cases q:g=f
  ·rw [if_pos q,if_pos q];exact ry
  ·rw [if_neg q,if_neg q];exact r g
 ·by_cases q:g=f
  ·rw [q];exact (Mi f y fs).1
  ·refine (Mi f y fs).2 g (wi g fun z=>hg ?_);show (if g=f then some u else mA g)=none
   rw [if_neg q];exact z
theorem ZI.made(I:ZI X pins σ H s):ZI X pins σ (upd (upd H s.heap.objs.size (.own (s.heap.objs.size+1))) (s.heap.objs.size+1) (.ins C s.heap.objs.size []))
  { s with heap:=(s.heap.push zBK).push (zBV C s.heap.objs.size) }:=by
 have e1:(s.heap.push zBK).get? s.heap.objs.size=some zBK:=zAQ s.heap rfl;have e2:((s.heap.push zBK).push (zBV C s.heap.objs.size)).get? (s.heap.objs.size+1)=some (zBV C s.heap.objs.size):=by
  have:=zAQ (s.heap.push zBK) (o:=zBV C s.heap.objs.size) rfl
  rwa [zBq] at this
 have e3:(s.heap.push zBK).Ns s.heap.objs.size (fun _=>none):=⟨zBK,#[],_,e1,rfl,(fun e he=>absurd he (by simp)),fun _=>rfl⟩
 have I1:=I.laid (a:=s.heap.objs.size) (o:=.own (s.heap.objs.size+1)) (h':=s.heap.push zBK) (t':=s.toks) (fun b u q=>zAG _ q) (zAH _) ⟨_,e1⟩;refine I1.laid (a:=s.heap.objs.size+1) (o:=.ins C s.heap.objs.size []) (t':=s.toks) (fun b u q=>zAG _ q) (zCa (zBq _ _)) ?_;have ne:s.heap.objs.size≠s.heap.objs.size+1:=zAg (zBe _);refine ⟨by rw [ZX ne,ZN],zAd _,ne,e2,fun _=>none,(Heap.Ns1.of_empty e3).at fun o q=>zAG _ q,fun _=>True.intro,fun y hy=>absurd rfl hy⟩
theorem HK{prog:Program}{w:World}{env:Env}{e:Expr}{f:Str}{pos:Pos}{s:Shared}{Q:ja}(hb:attributeBase e f env (eval e env)=eval e env)(h:wpAny (model prog w) A (eval e env) (fun o s₁=>wpAny (model prog w) A (getAttr o f true) Q E s₁) E s):wpAny (model prog w) A (eval (.Attribute e f pos) env) Q E s:=
 Attribute_any_ h (by rw [arm_eval_Attribute,hb])
end
def BM(K:zAA)(ta:TE)(f:Str):TE:=fun σ H Q=>ta σ H fun x H1=>∃ a C dx fs v,x=.ref a/\H1 a=some (.ins C dx fs)/\VR K C/\Zx K C f/\fs.lookup f=some v/\Q v H1
def Ew(K:zAA)(ta tv:TE)(f:Str):TS:=fun D σ H=>tv σ H fun y H1=>ta σ H1 fun x H2=>∃ a C dx fs,x=.ref a/\H2 a=some (.ins C dx fs)/\VR K C/\Zx K C f/\fs.length<1000 /\
 D.nx σ (upd H2 a (.ins C dx (Y4 f y fs)))
def Jj(X:Cx)(op:Operator)(rd:V->V->Hp->VK->Prop):Prop:=
 ∀(pins:List (Addr×Obj))(s:Shared)(σ:St)(H:Hp)(x y:V)(u v:Value)(Q:VK),ZI X pins σ H s->ZR x u->ZR y v->rd x y H Q->wpAny (model X.prog X.w) X.A (inplaceOp op u v) (EP X pins σ Q) X.xe s
def Gm(K:zAA)(ta tv:TE)(rd:V->V->Hp->VK->Prop)(f:Str):TS:=fun D σ H=>ta σ H fun x H1=>∃ a C dx fs v,x=.ref a/\H1 a=some (.ins C dx fs)/\VR K C/\Zx K C f/\fs.lookup f=some v /\
 tv σ H1 fun y H2=>rd v y H2 fun z H3=>∃ dx' fs',H3 a=some (.ins C dx' fs')/\fs'.length<1000/\D.nx σ (upd H3 a (.ins C dx' (Y4 f z fs')))
section
variable{X:Cx}{o e value:Expr}{f:Str}{pos pos' tpos:Pos}{ta tv:TE}
theorem WU(he:PE X e ta)(hb:attributeBase e f X.env (eval e X.env)=eval e X.env):PE X (.Attribute e f pos) (BM X.K ta f):=by
 intro pins s σ H Q I h;refine HK hb (Za (he pins s σ H _ I h) fun u s1 ⟨x,H1,I1,rx,a,C,dx,fs,v,ex,ea,c,n,l,q⟩=>?_);subst ex;obtain rfl:u=Value.ref a:=rx;exact IK I1 ea c n l fun u' s2 I2 ru=>⟨v,H1,I2,ru,q⟩
theorem U7(ha:PE X o ta)(hv:PE X value tv)(hs:swapsWith value (some (.Attribute o f pos')) pos.line X.env=pure false):PS X (.Assign [.Attribute o f pos'] value pos) (Ew X.K ta tv f):=by
 intro pins s σ H D I h;refine plainObj_wpAny_Assign_Attribute (Za (hv pins s σ H _ I h) fun u s1 ⟨y,H1,I1,ry,q⟩=>Za (ha pins s1 σ H1 _ I1 q) fun ov s2 ⟨x,H2,I2,rx,a,C,dx,fs,ex,ea,c,n,l,q2⟩=>?_) hs;subst ex;obtain rfl:ov=Value.ref a:=rx;exact Hq I2 ea c n l ry fun s3 I3=>⟨σ,_,I3,q2⟩
theorem Hr{op:Operator}{rd:V->V->Hp->VK->Prop}(ha:PE X o ta)(hv:PE X value tv)(hop:Jj X op rd):PS X (.AugAssign (.Attribute o f tpos) op value pos) (Gm X.K ta tv rd f):=by
 intro pins s σ H D I h;refine wpAny_AugAssign_AttributeAny (Za (ha pins s σ H _ I h) fun ov s1 ⟨x,H1,I1,rx,a,C,dx,fs,v,ex,ea,c,n,l,q⟩=>?_);subst ex;obtain rfl:ov=Value.ref a:=rx;refine IK I1 ea c n l fun u s2 I2 ru=>Za (hv pins s2 σ H1 _ I2 q) fun w3 s3 ⟨y,H2,I3,ry,q3⟩=>Za (hop pins s3 σ H2 v y u w3 _ I3 ru ry q3) fun w4 s4 ⟨z,H3,I4,rz,dx',fs',ea',l',q4⟩=>?_;exact Hq I4 ea' c n l' rz fun s5 I5=>⟨σ,_,I5,q4⟩
def Dj:V->V->Hp->VK->Prop:=fun x y H Q=>∃ i j,x=.int i/\y=.int j/\Q (.int (i - j)) H
theorem Ju:Jj X .Sub Dj:=by
 rintro pins s σ H x y u v Q I rx ry ⟨i,j,rfl,rfl,q⟩;obtain ⟨t,rfl⟩:=(show ∃ t,u=Value.int i t from rx);obtain ⟨t',rfl⟩:=(show ∃ t',v=Value.int j t' from ry);exact PyProof.Rows.isub_int ⟨.int (i - j),H,I.tok _,⟨_,rfl⟩,q⟩
end
section
variable{X:Cx}{pins:List (Addr×Obj)}{σ:St}{H:Hp}{s:Shared}{A:Around}{E:ja}{Q:ja}{c:Value}{b:Bool}
inductive Ym(K:zAA)(H:Hp):V->Value->Prop where
 | non:Ym K H .non (.type "NoneType")
 | bl (x:Bool):Ym K H (.bl x) (.type "bool")
 | int (i:Int):Ym K H (.int i) (.type "int")
 | str (x:Str):Ym K H (.str x) (.type "str")
 | flt (x:UInt64):Ym K H (.flt x) (.type "float")
 | lst {a:Addr} {xs:je} (e:H a=some (.lst xs)):Ym K H (.ref a) (.type "list")
 | frz {a:Addr} {o:Obj} {xs:je} (e:H a=some (.frz o (.lst xs))):Ym K H (.ref a) (.type "list")
 | tup {a:Addr} {xs:je} (e:H a=some (.tup xs)):Ym K H (.ref a) (.type "tuple")
 | dK {a:Addr} {kvs:List (ZZ×V)} (e:H a=some (.dK kvs)):Ym K H (.ref a) (.type "dict")
 | dT {a:Addr} {kvs:List (List ZZ×V)} (e:H a=some (.dT kvs)):Ym K H (.ref a) (.type "dict")
 | ins {a C dx:Addr} {fs:List (Str×V)} (e:H a=some (.ins C dx fs)) (cl:VR K C) (ha:zAX K (.ref C) "__class__" = some (some (.builtin "object.__class__")))
   (hn:PySem.W.specialIn K (.builtin "object.__class__") "__get__" = some (some (.builtin "getset_descriptor.__get__"))) (htk:PySem.W.takesIn K (.builtin "object.__class__")=some true)
   (hm:zAw K C (.type "object")=some true):Ym K H (.ref a) (.ref C)
theorem Cw{x:V}{u t:Value}(I:ZI X pins σ H s)(rx:ZR x u)(ty:Ym X.K H x t)(e:zAZ X.K t c=some b)(h:∀ tk,Q (.bool b) { s with toks:=tk }):
  wpAny (model X.prog X.w) A (call (.builtin "isinstance") [u,c]) Q E s:=by
 cases ty with
 | non=>cases (show u=Value.none from rx);exact zBB PySem.W.kitx_none I.kIn True.intro e (fun z=>nomatch z) h
 | bl y=>cases (show u=Value.bool y from rx);exact zBB PySem.W.kitx_bool I.kIn True.intro e (fun z=>nomatch z) h
 | int i=>obtain ⟨t,q⟩:=(show ∃ t,u=Value.int i t from rx);cases q;exact zBB PySem.W.kitx_int I.kIn True.intro e (fun z=>nomatch z) h
 | str y=>obtain ⟨t,q⟩:=(show ∃ t,u=Value.str y t from rx);cases q;exact zBB PySem.W.kitx_str I.kIn True.intro e (fun z=>nomatch z) h
 | flt y=>obtain ⟨t,q⟩:=(show ∃ t,u=Value.float y t from rx);cases q;exact zBB PySem.W.kitx_float I.kIn True.intro e (fun z=>nomatch z) h
 | @lst a xs ea=>
  cases (show u=Value.ref a from rx);obtain ⟨_,_,n,_,h1⟩:=(show Ze X.prog X.w H s.heap a (.lst xs) from I.hok a _ ea);exact zBB PySem.W.kitx_list I.kIn ⟨_,h1,rfl⟩ e (fun z=>nomatch z) h
 | @frz a ob xs ea=>
  cases (show u=Value.ref a from rx);obtain ⟨_,_,_,n,_,h1⟩:=(show Ze X.prog X.w H s.heap a (.frz ob (.lst xs)) from I.hok a _ ea);exact zBB PySem.W.kitx_list I.kIn ⟨_,h1,rfl⟩ e (fun z=>nomatch z) h
 | @tup a xs ea=>
  cases (show u=Value.ref a from rx);obtain ⟨_,_,_,p⟩:=(show Ze X.prog X.w H s.heap a (.tup xs) from I.hok a _ ea);obtain ⟨o,h1,h2,_⟩:=p;exact zBB PySem.W.kitx_tuple I.kIn ⟨o,h1,h2⟩ e (fun z=>nomatch z) h
 | @dK a kvs ea=>
  cases (show u=Value.ref a from rx);obtain ⟨_,_,vs,_,p⟩:=(show Ze X.prog X.w H s.heap a (.dK kvs) from I.hok a _ ea);obtain ⟨o,es,ep,h1,h2,_⟩:=p;exact zBB PySem.W.kitx_dict I.kIn ⟨o,h1,h2.1⟩ e (fun z=>nomatch z) h
 | @dT a kvs ea=>
  cases (show u=Value.ref a from rx);obtain ⟨_,_,xs,_,o,es,ep,h1,h2,_⟩:=(show Ze X.prog X.w H s.heap a (.dT kvs) from I.hok a _ ea);exact zBB PySem.W.kitx_dict I.kIn ⟨o,h1,h2.1⟩ e (fun z=>nomatch z) h
 | @ins a C dx fs ea cl ha hn htk hm=>
  cases (show u=Value.ref a from rx);obtain ⟨mA,O,_⟩:=OY I.hok ea;obtain ⟨od,J,_⟩:=O.look;exact zBB (PySem.W.kitx_own (cl.get _) cl.hd ha hn htk hm) I.kIn J e (fun z=>nomatch z) h
end
structure ZY(k:Nat)(A:Around):Prop where
 hd:A.handled=none
 dp:A.depth+3 * k+5<recursionLimit
 un:A.units+16 * k+200<cLine
theorem ZY.mono{j k:Nat}{A:Around}(r:ZY k A)(h:j<=k):ZY j A:=⟨r.hd,by have:=r.dp;lia,by have:=r.un;lia⟩
theorem ZY.deeper{k:Nat}{A:Around}(r:ZY (k+1) A)(env:Env):ZY k (A.deeper env):=
 ⟨r.hd,by have:=r.dp;show A.depth+1+3 * k+5<_;lia,by have:=r.un;show A.units+3+16 * k+200<_;lia⟩
theorem ZY.in1{k:Nat}{A:Around}(r:ZY (k+1) A):ZY k A.in1:=
 ⟨r.hd,by have:=r.dp;show A.depth+3 * k+5<_;lia,by have:=r.un;show A.units+1+16 * k+200<_;lia⟩
theorem Au{A:Around}{C:Addr}{us:jd}{kw:List (Str×Value)}:(A.under (.builtin "type.__call__" ⟨.ref C :: us,kw⟩)).depth=A.depth+1:=by
 first | rfl | simp [Around.under,Code.weight,Code.isCreation,Code.isGuard,Code.isCaller,Code.frames,Code.isFrame,guardIds]
theorem EF{A:Around}{C:Addr}{us:jd}{kw:List (Str×Value)}:(A.under (.builtin "type.__call__" ⟨.ref C :: us,kw⟩)).units=A.units+1:=by
 first | rfl | simp [Around.under,Code.cUnits,Code.frames,Code.isFrame]
theorem ZY.make{k:Nat}{A:Around}(r:ZY (k+1) A)(C:Addr)(us:jd)(kw:List (Str×Value)):ZY k (A.under (.builtin "type.__call__" ⟨.ref C :: us,kw⟩)):=
 ⟨r.hd,by have:=r.dp;rw [Au];lia,by have:=r.un;rw [EF];lia⟩
theorem ZY.depth{k:Nat}{A:Around}(r:ZY k A):A.depth<recursionLimit:=by have:=r.dp;lia
theorem ZY.units{k:Nat}{A:Around}(r:ZY k A):A.units+64<cLine:=by have:=r.un;lia
theorem ZY.units0{k:Nat}{A:Around}(r:ZY k A):A.units<cLine:=by have:=r.un;lia
def V0:TA:=fun _ H Q=>Q [] H
def XA(ta:TE)(tr:TA):TA:=fun σ H Q=>ta σ H fun x H1=>tr σ H1 fun xs H2=>Q (x :: xs) H2
section
variable{X:Cx}{e:Expr}{es:List Expr}{te:TE}{t:TA}{pos:Pos}
theorem ZH:PA X [] V0:=fun _ _ _ _ H Q I h=>Calls.spliced_nil ⟨[],H,I,.nil,h⟩
theorem Zc(ha:PE X e te)(hr:PA X es t)(hs:starEach (e :: es) X.env=(false,eval e X.env) :: starEach es X.env:=by rfl):PA X (e :: es) (XA te t):=by
 intro pos pins s σ H Q I h;rw [hs];show wpAny _ _ (spliced ((false,eval e X.env) :: backTo pos (starEach es X.env))) _ _ s;refine Calls.spliced_cons (Za (ha pins s σ H _ I h) fun u s1 ⟨x,H1,I1,r1,q1⟩=>?_);exact Za (hr pos pins s1 σ H1 _ I1 q1) fun us s2 ⟨xs,H2,I2,r2,q2⟩=>⟨x :: xs,H2,I2,.cons r1 r2,q2⟩
def B6(t:TA):TE:=fun σ H Q=>t σ H fun xs H1=>xs.length<=sizeLine/\∀ p,H1 p=none->Q (.ref p) (upd H1 p (.tup xs))
def HE(t:TA):TE:=fun σ H Q=>t σ H fun xs H1=>xs.length<=sizeLine/\∀ p,H1 p=none->Q (.ref p) (upd H1 p (.lst xs))
theorem Yh{x1}(h:PA X es t):PE X (.Tuple es x1 pos) (B6 t):=by
 intro pins s σ H Q I hq;refine wpAny_Tuple_spliced (Za (h pos pins s σ H _ I hq) fun us s1 ⟨xs,H1,I1,r,z,q⟩=>⟨by rw [<-r.length];exact z,?_⟩)
 have hf:H1 s1.heap.objs.size=none:=I1.hok.fresh (zAH _);refine ⟨.ref s1.heap.objs.size,upd H1 s1.heap.objs.size (.tup xs),I1.laid (t':=s1.toks) (fun b u e=>zAG _ e) (zAH _) ?_,rfl,q _ hf⟩;exact ⟨z,us,r,⟨_,zAQ _ rfl,rfl,_,rfl⟩⟩
theorem YM(h:PA X es t):PE X (.List es pos) (HE t):=by
 intro pins s σ H Q I hq;refine wpAny_List_spliced (Za (h pos pins s σ H _ I hq) fun us s1 ⟨xs,H1,I1,r,z,q⟩=>⟨by rw [<-r.length];exact z,?_⟩)
 have hf:H1 s1.heap.objs.size=none:=I1.hok.fresh (zAH _);refine ⟨.ref s1.heap.objs.size,upd H1 s1.heap.objs.size (.lst xs),I1.laid (t':=s1.toks) (fun b u e=>zAG _ e) (zAH _) ?_,rfl,q _ hf⟩;exact ⟨z,us,0,r,zAQ _ rfl⟩
end
abbrev Sp:=je->Hp->VK->XK->Prop
abbrev Ws:=List Env->Hp->Shared->XK->ja
structure VA(P:Program)(w:World)(K:zAA)(mg:jb)(base:Heap)(A:Around)(outer:List Env)(s:Shared)(H:Hp):Prop where
 frames:A.frames=some outer
 mod:Mod K mg base
 bs:∀ b o,base.get? b=some o->s.heap.get? b=some o/\H b=none
 bsz:base.objs.size<=s.heap.objs.size
 funs:s.heap.FunFrames base outer
 frf:∀ b∈frs outer,H b=none
 hok:Yi P w H s.heap
 bare:AllBare s.gens
def CE(outer:List Env)(P:Program)(w:World)(H:Hp)(s:Shared)(Q:VK)(u:Value)(s':Shared):Prop:=
 ∃ v H',s'.os=s.os/\AllBare s'.gens/\Un (frs outer) [] H H' s.heap s'.heap/\Yi P w H' s'.heap/\ZR v u/\Q v H'
def CR(CX:Ws)(outer:List Env)(P:Program)(w:World)(H:Hp)(s:Shared)(Q:VK)(E:XK)(r:Result)(s':Shared):Prop:=
 match r with
 | .ok (.ret u)=>CE outer P w H s Q u s'
 | .ok _=>False
 | .error e=>CX outer H s E e s'
structure ZM(P:Program)(w:World)(K:zAA)(mg:jb)(base:Heap)(CX:Ws)(k:Nat)(f:Addr)(fd:FuncData)(ps:List Str)(sp:Sp):Prop where
 len:∀ vs H Q E,sp vs H Q E->vs.length=ps.length
 run:∀(A:Around)(outer:List Env)(s:Shared)(H:Hp)(args:Args)(us:jd)(vs:je)(Q:VK)(E:XK),ZY k A->VA P w K mg base A outer s H->BindsTo s fd args (ps.zip us)->ZP vs us->sp vs H Q E ->
  codeAny (model P w) A (.call (.ref f) args) (CR CX outer P w H s Q E) s
theorem ZM.imp{P:Program}{w:World}{K:zAA}{mg:jb}{base:Heap}{CX:Ws}{k:Nat}{f:Addr}{fd:FuncData}{ps:List Str}{sp sp':Sp}(F:ZM P w K mg base CX k f fd ps sp)(h:∀ vs H Q E,sp' vs H Q E->sp vs H Q E):ZM P w K mg base CX k f fd ps sp':=
 ⟨fun vs H Q E q=>F.len vs H Q E (h _ _ _ _ q),fun A outer s H args us vs Q E hr he hb hv hs=>F.run A outer s H args us vs Q E hr he hb hv (h _ _ _ _ hs)⟩
theorem VA.make{P:Program}{w:World}{K:zAA}{mg:jb}{base:Heap}{A:Around}{outer:List Env}{s:Shared}{H:Hp}(e:VA P w K mg base A outer s H)(C:Addr)(us:jd)(kw:List (Str×Value)):
  VA P w K mg base (A.under (.builtin "type.__call__" ⟨.ref C :: us,kw⟩)) outer s H:=⟨by first | exact e.frames | (simpa [Around.under,Code.envs,Code.isFrame,pushEnvs] using e.frames),e.mod,e.bs,e.bsz,e.funs,e.frf,e.hok,e.bare⟩
section
variable{X:Cx}{pins:List (Addr×Obj)}{σ:St}{H:Hp}{s s':Shared}
theorem ZI.env0(I:ZI X pins σ H s):VA X.prog X.w X.K X.mg X.base X.A X.stack s H:=
 ⟨I.ok.frames,I.ok.mod,I.bs,zBC I.ok.bsz I.sz,I.stack,I.stkFree,I.hok,I.bare⟩
theorem ZI.after{Q:VK}{u:Value}(I:ZI X pins σ H s)(h:CE X.stack X.prog X.w H s Q u s'):EP X pins σ Q u s':=by
 obtain ⟨v,H',os,bare,un,hok,r,q⟩:=h;obtain ⟨hh,g,d,t,os'⟩:=s';obtain rfl:os'=s.os:=os;exact ⟨v,H',I.call (h':=hh) (g':=g) (d':=d) (t':=t) (ch:=[]) un hok bare (fun b z=>absurd z (by simp)),r,q⟩
end
def O9(sp:Sp)(jD:je)(E:XK)(t:TA):TE:=fun σ H Q=>t σ H fun vs H1=>sp (vs++jD) H1 Q E
def OL(C:Addr)(m:Str)(sp:Sp)(jD:je)(E:XK)(ta:TE)(t:TA):TE:=fun σ H Q=>ta σ H fun x H1=>∃ a dx fs,x=.ref a/\H1 a=some (.ins C dx fs)/\fs.lookup m=none /\
 t σ H1 fun vs H2=>sp (x :: (vs++jD)) H2 Q E
def Ol(C:Addr)(sp:Sp)(jD:je)(E:XK)(t:TA):TE:=fun σ H Q=>t σ H fun vs H1=>∀ x dx,H1 x=none->H1 dx=none->dx≠x ->
 sp (.ref x :: (vs++jD)) (upd (upd H1 dx (.own x)) x (.ins C dx [])) (fun v H2=>v=.non/\Q (.ref x) H2) E
def Zs(K:zAA)(fd:FuncData)(ps:List Str)(ds:jd):Prop:=
 ∀(s:Shared)(us:jd),K.In s.heap->(us++ds).length=ps.length->BindsTo s fd ⟨us,[]⟩ (ps.zip (us++ds))
theorem Zs.all{K:zAA}{fd:FuncData}{ps:List Str}(h:∀ us:jd,us.length=ps.length->bindArgs fd ⟨us,[]⟩=pure (ps.zip us)):Zs K fd ps []:=fun s us _ hl=>by
 rw [zA0] at hl ⊢;exact .of_eq (h us hl)
def UA(CX:Ws)(X:Cx)(E:XK):Prop:=∀(pins:List (Addr×Obj))(σ:St)(H:Hp)(s:Shared)(e:Value)(s':Shared),ZI X pins σ H s->CX X.stack H s E e s'->X.xe e s'
section
variable{X:Cx}{CX:Ws}{k:Nat}{f C:Addr}{fd:FuncData}{ps:List Str}{sp:Sp}{jD:je}{ds:jd}{E:XK}{x m:Str}{p pos jm:Pos}{e o:Expr}{es:List Expr}{ta:TE}{t:TA}
theorem NM{pins:List (Addr×Obj)}{σ:St}{H:Hp}{s:Shared}{Q:VK}{us:jd}{vs:je}(F:ZM X.prog X.w X.K X.mg X.base CX k f fd ps sp)(hr:ZY k X.A)(hb:Zs X.K fd ps ds)(hd:ZP jD ds)(hx:UA CX X E)(I:ZI X pins σ H s)(r:ZP vs us)(h:sp (vs++jD) H Q E):wpAny (model X.prog X.w) X.A (call (.ref f) us) (EP X pins σ Q) X.xe s:=by
 have r2:ZP (vs++jD) (us++ds):=r.append hd;have hl:(us++ds).length=ps.length:=by rw [<-r2.length];exact F.len _ _ _ _ h
 refine wpAny_call (codeAny_mono (F.run X.A X.stack s H ⟨us,[]⟩ (us++ds) (vs++jD) Q E hr I.env0 (hb s us I.kIn hl) r2 h) fun r s' hq=>?_)
 cases r with
 | error e=>exact hx pins σ H s e s' I hq
 | ok fl=>
  cases fl with
  | ret u=>exact I.after hq
  | next=>exact False.elim hq
  | brk=>exact False.elim hq
  | cont=>exact False.elim hq
theorem Lj(F:ZM X.prog X.w X.K X.mg X.base CX k f fd ps sp)(hr:ZY k X.A)(hg:Gl X x)(hm:X.mg x=some (.ref f))(hk:zAu X.K (.ref f)=true)(hb:Zs X.K fd ps ds)(hd:ZP jD ds)(hx:UA CX X E)(ha:PA X (e :: es) t)(jx:(x==("__debug__" : Str))=false:=by decide)(he:starEach (e :: es) X.env=(false,eval e X.env) :: starEach es X.env:=by rfl)(jr:(backTo pos (starEach es X.env)).any (·.1)=false:=by rfl):
  PE X (.Call (.Name x p) (e :: es) [] pos) (O9 sp jD E t):=by
 intro pins s σ H Q I h;refine wpAny_Call_Name_kw (Qd I hg hm ?_ jx);refine zBv (h₀:=X.base) I.ok.mod.kin hk (Za (ha pos pins s σ H _ I h) fun us s1 ⟨vs,H1,I1,r,q⟩=>⟨I1.kIn,?_⟩) he jr;exact NM F hr hb hd hx I1 r q
theorem FQ{pl:Sem Bool}(he:PE X o ta)(c:VR X.K C)(hm:US X.K C m f)(F:ZM X.prog X.w X.K X.mg X.base CX k f fd ps sp)(hr:ZY k X.A)(hb:Zs X.K fd ps ds)(hd:ZP jD ds)(hx:UA CX X E)(ha:PA X (e :: es) t)(hst:starEach (e :: es) X.env=(false,eval e X.env) :: starEach es X.env:=by rfl)(jr:(backTo pos (starEach es X.env)).any (·.1)=false:=by rfl)(ht:eval (.Call (.Attribute o m jm) (e :: es) [] pos) X.env=(do
   let ov<-eval o X.env
   standAt jm.atName
   let (f,first)<-holding [ov] (getMethod ov m pl)
   callWith pos f first (backTo pos (starEach (e :: es) X.env)) (backToKw pos (keywordEach [] X.env))):=by rfl):
  PE X (.Call (.Attribute o m jm) (e :: es) [] pos) (OL C m sp jD E ta t):=by
 intro pins s σ H Q I h;refine zDJ (pl:=pl) (Za (he pins s σ H _ I h) fun u s1 ⟨x,H1,I1,rx,a,dx,fs,ex,ea,l,q⟩=>?_) ht;subst ex;obtain rfl:u=Value.ref a:=rx;refine JA I1 ea c hm l ?_;refine zBv (first:=[.ref a]) (h₀:=X.base) I.ok.mod.kin hm.kp (Za (ha pos pins s1 σ H1 _ I1 q) fun us s2 ⟨vs,H2,I2,r,q2⟩=>⟨I2.kIn,?_⟩) hst jr
 exact NM (us:=.ref a :: us) (vs:=.ref a :: vs) F hr hb hd hx I2 (.cons rfl r) q2
theorem ZKj{pl:Sem Bool}(he:PE X o ta)(c:VR X.K C)(hm:US X.K C m f)(F:ZM X.prog X.w X.K X.mg X.base CX k f fd ps sp)(hr:ZY k X.A)(hb:Zs X.K fd ps ds)(hd:ZP jD ds)(hx:UA CX X E)(ht:eval (.Call (.Attribute o m jm) [] [] pos) X.env=(do
   let ov<-eval o X.env
   standAt jm.atName
   let (f,first)<-holding [ov] (getMethod ov m pl)
   callWith pos f first (backTo pos (starEach [] X.env)) (backToKw pos (keywordEach [] X.env))):=by rfl):
  PE X (.Call (.Attribute o m jm) [] [] pos) (OL C m sp jD E ta V0):=by
 intro pins s σ H Q I h;refine zDJ (pl:=pl) (Za (he pins s σ H _ I h) fun u s1 ⟨x,H1,I1,rx,a,dx,fs,ex,ea,l,q⟩=>?_) ht;subst ex;obtain rfl:u=Value.ref a:=rx;refine JA I1 ea c hm l ?_;exact zCZ (first:=[.ref a]) I1.kIn hm.kp (NM (us:=[.ref a]) (vs:=[.ref a]) F hr hb hd hx I1 (.cons rfl .nil) q)
structure Mk(K:zAA)(C f:Addr):Prop where
 makes:zCP K C=true
 init:zAX K (.ref C) "__init__" = some (some (.ref f))
 fn:zBp K (.ref f)=true
 kp:zAu K (.ref C)=true
theorem Ic{pins:List (Addr×Obj)}{σ:St}{H:Hp}{s:Shared}{Q:VK}{us:jd}{vs:je}(M:Mk X.K C f)(F:ZM X.prog X.w X.K X.mg X.base CX k f fd ps sp)(hr:ZY (k+1) X.A)(hb:Zs X.K fd ps ds)(hd:ZP jD ds)(hx:UA CX X E)(I:ZI X pins σ H s)(r:ZP vs us)(h:∀ x dx,H x=none->H dx=none->dx≠x->sp (.ref x :: (vs++jD)) (upd (upd H dx (.own x)) x (.ins C dx [])) (fun v H2=>v=.non/\Q (.ref x) H2) E):
  wpAny (model X.prog X.w) X.A (call (.ref C) us) (EP X pins σ Q) X.xe s:=by
 have hq:=h (s.heap.objs.size+1) s.heap.objs.size (I.hok.fresh (zCA _)) (I.hok.fresh (zAH _)) (zAg (zBe _));have I2:=ZI.made (C:=C) I;have r2:ZP (V.ref (s.heap.objs.size+1) :: (vs++jD)) (Value.ref (s.heap.objs.size+1) :: (us++ds)):=.cons rfl (r.append hd);have hl:(Value.ref (s.heap.objs.size+1) :: us++ds).length=ps.length:=by
  have e:=r2.length;rw [F.len _ _ _ _ hq] at e;exact e.symm
 refine wpAny_call (Bm (f:=f) I.kIn M.makes M.init (beq_iff_eq.mp M.fn) (codeAny_mono (F.run _ X.stack _ _ ⟨Value.ref (s.heap.objs.size+1) :: us,[]⟩ (Value.ref (s.heap.objs.size+1) :: (us++ds)) _ _ E (hr.make C us [])
  (I2.env0.make C us []) (hb _ (Value.ref (s.heap.objs.size+1) :: us) I2.kIn hl) r2 hq) fun r s' hq'=>?_))
 cases r with
 | error e=>exact hx pins σ _ _ e s' I2 hq'
 | ok fl=>
  cases fl with
  | ret u=>
   obtain ⟨v,H',I3,rv,ev,q3⟩:=I2.after hq';subst ev;exact ⟨rv,⟨V.ref (s.heap.objs.size+1),H',I3,rfl,q3⟩⟩
  | next=>exact False.elim hq'
  | brk=>exact False.elim hq'
  | cont=>exact False.elim hq'
theorem Gb(M:Mk X.K C f)(F:ZM X.prog X.w X.K X.mg X.base CX k f fd ps sp)(hr:ZY (k+1) X.A)(hg:Gl X x)(hm:X.mg x=some (.ref C))(hb:Zs X.K fd ps ds)(hd:ZP jD ds)(hx:UA CX X E)(ha:PA X (e :: es) t)(jx:(x==("__debug__" : Str))=false:=by decide)(he:starEach (e :: es) X.env=(false,eval e X.env) :: starEach es X.env:=by rfl)(jr:(backTo pos (starEach es X.env)).any (·.1)=false:=by rfl):
  PE X (.Call (.Name x p) (e :: es) [] pos) (Ol C sp jD E t):=by
 intro pins s σ H Q I h;refine wpAny_Call_Name_kw (Qd I hg hm ?_ jx);refine zBv (h₀:=X.base) I.ok.mod.kin M.kp (Za (ha pos pins s σ H _ I h) fun us s1 ⟨vs,H1,I1,r,q⟩=>⟨I1.kIn,?_⟩) he jr;exact Ic M F hr hb hd hx I1 r q
theorem A4(M:Mk X.K C f)(F:ZM X.prog X.w X.K X.mg X.base CX k f fd ps sp)(hr:ZY (k+1) X.A)(hg:Gl X x)(hm:X.mg x=some (.ref C))(hb:Zs X.K fd ps ds)(hd:ZP jD ds)(hx:UA CX X E)(jx:(x==("__debug__" : Str))=false:=by decide):PE X (.Call (.Name x p) [] [] pos) (Ol C sp jD E V0):=by
 intro pins s σ H Q I h;refine wpAny_Call_Name_kw (Qd I hg hm ?_ jx);exact zCZ I.kIn M.kp (Ic (us:=[]) M F hr hb hd hx I .nil h)
end
def PK(X:Cx)(kws:List Keyword)(t:TA):Prop:=
 ∀(pos:Pos)(pins:List (Addr×Obj))(s:Shared)(σ:St)(H:Hp)(Q:je->Hp->Prop),ZI X pins σ H s->t σ H Q->wpAny (model X.prog X.w) X.A (evalAll ((backToKw pos (keywordEach kws X.env)).map (·.2))) (AP X pins σ Q) X.xe s
section
variable{X:Cx}{CX:Ws}{k:Nat}{f C:Addr}{fd:FuncData}{ps ks:List Str}{sp:Sp}{E:XK}{x m:Str}{p pos jm kpos:Pos}{e o:Expr}{es:List Expr}{kws:List Keyword}{te ta:TE}{t tk:TA}{nm:Option Str}
theorem Kn:PK X [] V0:=fun _ _ _ _ H Q I h=>wpAny_evalAll_nil ⟨[],H,I,.nil,h⟩
theorem Kc(ha:PE X e te)(hr:PK X kws t):PK X (⟨nm,e,kpos⟩ :: kws) (XA te t):=by
 intro pos pins s σ H Q I h;show wpAny _ _ (evalAll ((do let v<-eval e X.env;standAt pos;pure v) :: (backToKw pos (keywordEach kws X.env)).map (·.2))) _ _ s
 refine wpAny_evalAll_cons (wpAny_bind (Za (ha pins s σ H _ I h) fun u s1 ⟨x,H1,I1,r1,q1⟩=>wpAny_bind (wpAny_standAt (wpAny_pure ?_))));exact Za (hr pos pins s1 σ H1 _ I1 q1) fun us s2 ⟨xs,H2,I2,r2,q2⟩=>⟨x :: xs,H2,I2,.cons r1 r2,q2⟩
variable{g:jd->jd->jd}{gV:je->je->je}
end
structure ZD(N P:List Str)(sc:Scope):Prop where
 kind:sc.kind=.function
 co:sc.isCoroutine=false
 gen:sc.isGenerator=false
 nd:N.Nodup
 pre:N.take P.length=P
 par:∀ x∈P,sc.names.lookup x=some .local\/sc.names.lookup x=some .cell
 nofree:∀ y∈sc.names,y.2≠.free
theorem Zu{N P:List Str}{sc:Scope}(h1:sc.kind=.function:=by rfl)(h2:sc.isCoroutine=false:=by rfl)(h3:sc.isGenerator=false:=by rfl)(h4:N.Nodup:=by decide +kernel)(h5:N.take P.length=P:=by rfl)(h6:∀ x∈P,sc.names.lookup x=some .local\/sc.names.lookup x=some .cell:=by decide +kernel)(h7:∀ y∈sc.names,y.2≠.free:=by decide +kernel):ZD N P sc:=⟨h1,h2,h3,h4,h5,h6,h7⟩
theorem Hu{kindOf:Str->Option NameKind}{x:Str}:∀{binds:List (Str×Value)}{m:jb},(∀ v,(x,v)∉binds)->bindL kindOf binds m x=m x
 | [],_,_=>rfl
 | (n,v) :: r,m,h=>by
  unfold bindL;rw [Hu fun w hw=>h w (zAN _ hw)];split
  ·have:x≠n:=by rintro rfl;exact h v zAT
   simp [this]
  ·rfl
theorem Ih{kindOf:Str->Option NameKind}{x:Str}:∀{binds:List (Str×Value)}{m:jb},(∀ v,(x,v)∉binds)->bindC kindOf binds m x=m x
 | [],_,_=>rfl
 | (n,v) :: r,m,h=>by
  unfold bindC;rw [Ih fun w hw=>h w (zAN _ hw)];split
  ·rfl
  ·have:x≠n:=by rintro rfl;exact h v zAT
   simp [this]
theorem IN{kindOf:Str->Option NameKind}{x:Str}{v:Value}:∀{P:List Str}{vs:jd}{i:Nat}{m:jb},P.Nodup->P[i]? = some x->vs[i]? = some v->kindOf x=some .local ->
  bindL kindOf (P.zip vs) m x=some v
 | [],_,_,_,_,h,_,_=>by simp at h
 | _ :: _,[],_,_,_,_,h,_=>by simp at h
 | p :: P,w :: vs,0,m,nd,h1,h2,hk=>by
  simp at h1 h2;subst h1;subst h2;show bindL kindOf ((p,w) :: P.zip vs) m p=_;unfold bindL;rw [Hu fun v hv=>(zBQ.mp nd).1 (zDA hv).1,if_pos hk];simp
 | p :: P,w :: vs,i+1,m,nd,h1,h2,hk=>by
  show bindL kindOf ((p,w) :: P.zip vs) m x=_;unfold bindL;exact IN (i:=i) (zBQ.mp nd).2 (by simpa using h1) (by simpa using h2) hk
theorem Ig{kindOf:Str->Option NameKind}{x:Str}{v:Value}:∀{P:List Str}{vs:jd}{i:Nat}{m:jb},P.Nodup->P[i]? = some x->vs[i]? = some v->kindOf x≠some .local ->
  bindC kindOf (P.zip vs) m x=some v
 | [],_,_,_,_,h,_,_=>by simp at h
 | _ :: _,[],_,_,_,_,h,_=>by simp at h
 | p :: P,w :: vs,0,m,nd,h1,h2,hk=>by
  simp at h1 h2;subst h1;subst h2;show bindC kindOf ((p,w) :: P.zip vs) m p=_;unfold bindC;rw [Ih fun v hv=>(zBQ.mp nd).1 (zDA hv).1,if_neg hk];simp
 | p :: P,w :: vs,i+1,m,nd,h1,h2,hk=>by
  show bindC kindOf ((p,w) :: P.zip vs) m x=_;unfold bindC;exact Ig (i:=i) (zBQ.mp nd).2 (by simpa using h1) (by simpa using h2) hk
def U1(N:List Str)(vs:je):St:=vs.map some++zBf (N.length - vs.length) none
def X7(CX:Ws)(P:Program)(w:World)(K:zAA)(mg:jb)(base:Heap)(N:List Str)(qual:Str)(scope:Scope)(f:Addr)(cd:Value)(A:Around)(outer:List Env)(s:Shared)(H:Hp)(E:XK):Cx where
 prog:=P
 w:=w
 K:=K
 mg:=mg
 base:=base
 A:=A.deeper (envOfC qual scope s.heap.objs.size f cd)
 N:=N
 s₀:=s
 H₀:=H
 env:=envOfC qual scope s.heap.objs.size f cd
 outer:=outer
 stack:=envOfC qual scope s.heap.objs.size f cd :: outer
 ex:=[]
 calm:=true
 fn:=fun _=>true
 pn:=[]
 xe:=fun e s'=>wpAny (model P w) (A.deeper (envOfC qual scope s.heap.objs.size f cd)) (leaving (envOfC qual scope s.heap.objs.size f cd) e) (fun _ s''=>CX outer H s E e s'') (fun e' s''=>CX outer H s E e' s'') s'
theorem HB{sc:Scope}{n:Nat}{x:Str}(h:sc.names.lookup x=some .cell):∃ c,(cellsFrom n sc.names []).lookup x=some c:=by
 have q:=zDE sc.names n [] (.inl h);exact zBt.mp q
theorem GS{CX:Ws}{P:Program}{w:World}{K:zAA}{mg:jb}{base:Heap}{N ps:List Str}{qual:Str}{scope:Scope}{f:Addr}{cd:Value}{A:Around}{outer:List Env}{s s1:Shared}{H:Hp}{E:XK}{us:jd}{vs:je}(S:ZD N ps scope)(hd:A.handled=none)(e0:VA P w K mg base A outer s H)(hl:vs.length=ps.length)(r:ZP vs us)(x:InCallC s s.heap.objs.size (bindL (envOfC qual scope s.heap.objs.size f cd).kindOf (ps.zip us) fun _=>none) (cellsFrom (s.heap.objs.size+1) scope.names []) (bindC (envOfC qual scope s.heap.objs.size f cd).kindOf (ps.zip us) fun _=>none) s1):
  ZI (X7 CX P w K mg base N qual scope f cd A outer s H E) [] (U1 N vs) H s1:=by
 have jr:ps.length<=N.length:=by have:=congrArg zBh S.pre;rw [zA8] at this;lia
 obtain ⟨h1,tk,rfl,hk⟩:=x.done;have noA:∀ b:Addr,b∉(X7 CX P w K mg base N qual scope f cd A outer s H E).ex:=fun b z=>absurd (show b∈([]:List Addr) from z) (by simp)
 refine ⟨⟨e0.mod,S.kind,rfl,rfl,zAH _,fun y z c h1 h2=>?_,fun y hy=>?_,fun y c _ h=>?_,fun _=>hd,Around.frames_deeper e0.frames,.inr ⟨rfl,rfl⟩,fun b z=>absurd z (noA b),e0.bs,e0.bsz,fun b _ _=>noA b,fun b z=>absurd z (noA b),e0.funs,e0.frf⟩,
  rfl,e0.bare,Un.kept hk,⟨_,x.toInCall.ns,fun i y v h1 h2 h3=>?_⟩,fun y c h=>⟨_,x.cell y c h⟩,e0.hok.fresh (zAH _),fun y c h=>?_,fun p hp=>absurd (show p∈([]:List (Addr×Obj)) from hp) (by simp),e0.hok.kept hk,?_⟩
 ·exact name_of_addr x.apart (PySem.mem_of_lookup h1) (PySem.mem_of_lookup h2)
 ·have hy:scope.names.lookup y=some .cell\/scope.names.lookup y=some .free:=hy;rcases hy with hy | hy
  ·exact HB hy
  ·exact absurd rfl (S.nofree _ (PySem.mem_of_lookup hy))
 ·exact zBH (x.above y c (PySem.mem_of_lookup h))
 ·have hi:i<vs.length:=by
   unfold U1 at h2;by_cases hi:i<vs.length
   ·exact hi
   ·rw [zAv (by simpa using hi)] at h2
    rw [List.getElem?_replicate] at h2;split at h2 <;> cases h2
  have ha:vs[i]? = some v:=by
   unfold U1 at h2;rw [zA2 (by simpa using hi),zAM] at h2
   cases e:vs[i]? with
   | none=>rw [e] at h2;cases h2
   | some a=>rw [e] at h2;cases h2;rfl
  obtain ⟨u,hu,rv⟩:=r.get ha;have hp:ps[i]? = some y:=by
   rw [<-S.pre,List.getElem?_take_of_lt (by lia)];exact h1
  have ndP:ps.Nodup:=by rw [<-S.pre];exact S.nd.sublist (List.take_sublist _ _)
  refine ⟨u,rv,?_⟩;rcases S.par y (zAJ hp) with k | k
  ·exact .inl ⟨k,IN ndP hp hu k⟩
  ·obtain ⟨c,e⟩:=HB (n:=s.heap.objs.size+1) k;refine .inr ⟨.inl k,c,e,?_⟩;have q:=x.cell y c e;rw [Ig ndP hp hu (by show scope.names.lookup y≠_;rw [k];decide)] at q
   exact q
 ·exact e0.hok.fresh (zBH (x.above y c (PySem.mem_of_lookup h)))
 ·unfold U1;show _=N.length;rw [zAI,zAD,List.length_replicate]
  lia
theorem Km{CX:Ws}{P:Program}{w:World}{K:zAA}{mg:jb}{base:Heap}{k:Nat}{f:Addr}{name qual:Str}{params:Arguments}{body:List Stmt}{scope:Scope}{dV kV doc pm cdv ct oc:Value}{an od:Option Addr}{jO:Array (jc)}{N ps:List Str}{sp:Sp}(lk:K.lookup f=some ⟨oc,od,.func (zBF name qual params body scope dV kV doc pm an cdv ct),jO⟩)(jK:zBa K cdv qual=true)(S:ZD N ps scope)(len:∀ vs H Q E,sp vs H Q E->vs.length=ps.length)(jz:∀ (A:Around) (outer:List Env) (s:Shared) (H:Hp) (vs:je) (Q:VK) (E:XK),ZY k (A.deeper (envOfC qual scope s.heap.objs.size f cdv))->sp vs H Q E ->
   ∃ t,Xg (X7 CX P w K mg base N qual scope f cdv A outer s H E) body t/\t { nx:=fun _ H'=>Q .non H',rt:=Q } (U1 N vs) H):
  ZM P w K mg base CX (k+1) f (zBF name qual params body scope dV kV doc pm an cdv ct) ps sp:=by
 refine ⟨len,fun A outer s H args us vs Q E hr e0 hb r jP=>?_⟩;have hl:=len _ _ _ _ jP;have KX:K.In s.heap:=e0.mod.kin.keeps fun b o e=>(e0.bs b o e).1;have lim:s.heap.NoLimit:=e0.mod.nolimit.keeps fun b o e=>(e0.bs b o e).1;have jE:∀ y∈ps.zip us,scope.names.lookup y.1=some .local\/(scope.names.lookup y.1=some .cell/\((cellsFrom (s.heap.objs.size+1) scope.names []).lookup y.1).isSome=true):=fun ⟨n,v⟩ hy=>by
  rcases S.par n (zDA hy).1 with q | q
  ·exact .inl q
  ·exact .inr ⟨q,zDE _ _ _ (.inl q)⟩
 refine codeAny_call_function hr.depth (KX _ _ lk) rfl S.co S.gen rfl (PySem.W.codeRec_of KX jK) (hb _ _ _ _ ?_);refine wpAny_newFunctionEnv_cells S.kind jE fun env he s1 x=>?_;subst he;refine ⟨lim.keeps x.toInCall.keep,codeAny_func ?_⟩;obtain ⟨t,ht,hq⟩:=jz A outer s H vs Q E (hr.deeper _) jP;have I:ZI (X7 CX P w K mg base N qual scope f cdv A outer s H E) [] (U1 N vs) H s1:=GS S hr.hd e0 hl r x;refine wpAny_mono (ht [] s1 (U1 N vs) H _ I hq) (fun fl s' hs=>?_) fun e s' hs=>hs;have fin:∀{σ':St}{H':Hp}{v:V}{u:Value},ZI (X7 CX P w K mg base N qual scope f cdv A outer s H E) [] σ' H' s'->ZR v u->Q v H'->CE outer P w H s Q u s':=
  fun{σ' H' v u} J rv q=>⟨v,H',J.os,J.bare,J.base,J.hok,rv,q⟩
 cases fl with
 | ret u=>
  obtain ⟨v,σ',H',J,rv,q⟩:=hs;exact fin J rv q
 | next=>
  obtain ⟨σ',H',J,q⟩:=hs;exact fin (v:=V.non) (u:=Value.none) J rfl q
 | brk=>
  obtain ⟨_,_,_,q⟩:=hs;exact False.elim q
 | cont=>
  obtain ⟨_,_,_,q⟩:=hs;exact False.elim q
section
variable{X:Cx}{x:Str}{p pos:Pos}{e:Expr}{es:List Expr}{t:TA}{id T:String}{r:je->Hp->VK->Prop}
def Hh(r:je->Hp->VK->Prop)(t:TA):TE:=fun σ H Q=>t σ H fun vs H1=>r vs H1 Q
theorem Z0(hc:Wr X (.builtin id) r)(hg:Gl X x)(hm:X.mg x=none)(hv:bootBuiltins x=some (.builtin id))(ha:PA X (e :: es) t)(hn:x ≠ "__name__" :=by decide)(jx:(x==("__debug__" : Str))=false:=by decide)(he:starEach (e :: es) X.env=(false,eval e X.env) :: starEach es X.env:=by rfl)(jr:(backTo pos (starEach es X.env)).any (·.1)=false:=by rfl):PE X (.Call (.Name x p) (e :: es) [] pos) (Hh r t):=by
 intro pins s σ H Q I h;refine wpAny_Call_Name_kw (Qo I hg hm hv ?_ hn jx);exact PyProof.Rows.callWith_builtin1 (Za (ha pos pins s σ H _ I h) fun us s1 ⟨vs,H1,I1,r1,q1⟩=>hc pins s1 σ H1 vs us Q I1 r1 q1) he jr
theorem WA(hc:Wr X (.type T) r)(hg:Gl X x)(hm:X.mg x=none)(hv:bootBuiltins x=some (.type T))(ha:PA X (e :: es) t)(hn:x ≠ "__name__" :=by decide)(jx:(x==("__debug__" : Str))=false:=by decide)(he:starEach (e :: es) X.env=(false,eval e X.env) :: starEach es X.env:=by rfl)(jr:(backTo pos (starEach es X.env)).any (·.1)=false:=by rfl):PE X (.Call (.Name x p) (e :: es) [] pos) (Hh r t):=by
 intro pins s σ H Q I h;refine wpAny_Call_Name_kw (Qo I hg hm hv ?_ hn jx);exact PyProof.Rows.callWith_type1 (Za (ha pos pins s σ H _ I h) fun us s1 ⟨vs,H1,I1,r1,q1⟩=>hc pins s1 σ H1 vs us Q I1 r1 q1) he jr
end
end L2
namespace HT
open PySem PyProof.Rows
theorem rcLt_int(A:Around)(s:Shared)(a:Int)(t:Tok)(c:Int)(u:Tok)(prog:Program)(w:World)(E:ja)(Q:ja)(h:Q (.bool (decide (a<c))) s):
  wpAny (model prog w) A (richCompare .Lt (.int a t) (.int c u)) Q E s:=
 (PyProof.Rows.lt_int h:wpAny (model prog w) A (compareOp .Lt (.int a t) (.int c u)) Q E s)
section
open PySem.SeqAt
open PySem.AutoSeq1 (wpAny_loadPart')
open PySem.MeetsSeq PySem.MeetsSeq2 PySem.MeetsSeq3
end
section
variable{prog:Program}{w:World}{A:Around}{E:ja}{s:Shared}
def sIx(n d:Nat):Option Int->Nat
 | none=>d
 | some v=>if v<0 then (v+(n:Int)).toNat else min v.toNat n
theorem sIx_nat(n d k:Nat):sIx n d (some (k:Int))=min k n:=by
 show (if (k:Int)<0 then ((k:Int)+(n:Int)).toNat else min (k:Int).toNat n)=min k n
 rw [if_neg (by lia),zCL]
end
end HT
namespace L2
open PySem PySem.Spec PyProof.Rows
abbrev TO:=St->Hp->(Option Int->Hp->Prop)->Prop
def PO(X:Cx)(e:Option Expr)(t:TO):Prop:=
 ∀(pins:List (Addr×Obj))(s:Shared)(σ:St)(H:Hp)(Q:Option Int->Hp->Prop),ZI X pins σ H s->t σ H Q ->
  wpAny (model X.prog X.w) X.A (evalPart e X.env) (fun u s'=>∃ o H',ZI X pins σ H' s'/\IsPart u o/\Q o H') X.xe s
def FP:TO:=fun _ H Q=>Q none H
def DZ(t:TE):TO:=fun σ H Q=>t σ H fun x H1=>∃ i,x=.int i/\Q (some i) H1
theorem Ir{ns:List Int}:∀{us:jd},ZP (ns.map V.int) us->IntsAre us ns:=by
 induction ns with
 | nil=>intro us r;rw [zCE] at r;cases r;exact .nil
 | cons n ns ih=>
  intro us r;rw [zAn] at r
  cases r with
  | cons r1 r2=>
   obtain ⟨t,e⟩:=r1;subst e;exact .cons n t (ih r2)
section
variable{X:Cx}{e:Expr}{te:TE}{lo hi:Option Expr}{tl th:TO}{pos p2:Pos}
theorem UG:PO X none FP:=by
 intro pins s σ H Q I h;rw [evalPart_none];exact wpAny_pure ⟨none,H,I,.none,h⟩
theorem Vl(h:PE X e te):PO X (some e) (DZ te):=by
 intro pins s σ H Q I hw;rw [evalPart_some];refine Za (h pins s σ H _ I hw) fun u s1 ⟨x,H1,I1,r1,q1⟩=>?_;obtain ⟨i,rfl,q⟩:=q1;obtain ⟨t,rfl⟩:=r1;exact ⟨some i,H1,I1,.int i t,q⟩
def KA(X:Cx)(r:V->Option Int->Option Int->Hp->VK->Prop):Prop:=
 ∀(pins:List (Addr×Obj))(s:Shared)(σ:St)(H:Hp)(x:V)(v vl vu:Value)(lo hi:Option Int)(sl:Addr)(Q:VK),ZI X pins σ H s->ZR x v->s.heap.IsSliceOf sl vl vu .none->IsPart vl lo->IsPart vu hi->r x lo hi H Q ->
  ∃ T id,typeLookup (.type T) "__getitem__" = pure (some (.builtin id))/\s.TypeIs v T/\wpAny (model X.prog X.w) X.A (getItem v (.ref sl)) (EP X pins σ Q) X.xe s
def tSl(r:V->Option Int->Option Int->Hp->VK->Prop)(te:TE)(tl th:TO):TE:=fun σ H Q=>te σ H fun x H1=>tl σ H1 fun l H2=>th σ H2 fun u H3=>r x l u H3 Q
theorem V4{r:V->Option Int->Option Int->Hp->VK->Prop}(hr:KA X r)(he:PE X e te)(hl:PO X lo tl)(hu:PO X hi th):PE X (.Subscript e (.Slice lo hi none p2) pos) (tSl r te tl th):=by
 intro pins s σ H Q I h;refine Subscript_ (Za (he pins s σ H _ I h) fun v s1 ⟨x,H1,I1,r1,q1⟩=>?_);refine wpAny_Slice (Za (hl pins s1 σ H1 _ I1 q1) fun vl s2 ⟨l,H2,I2,pl,q2⟩=>Za (hu pins s2 σ H2 _ I2 q2) fun vu s3 ⟨u,H3,I3,pu,q3⟩=>?_);rw [evalPart_none];refine wpAny_pure ?_;have I4:ZI X pins σ H3 { s3 with heap:=s3.heap.push { cls:=.type "slice",data:=.fields #[vl,vu,.none] } }:=I3.kept (t':=s3.toks) fun b ob q=>zAG _ q;obtain ⟨T,id,hT,ht,hg⟩:=hr pins { s3 with heap:=s3.heap.push { cls:=.type "slice",data:=.fields #[vl,vu,.none] } } σ H3 x v vl vu l u s3.heap.objs.size Q I4 r1 (Heap.IsSliceOf.new ..) pl pu q3;show wpAny (model X.prog X.w) X.A (subscriptTail e (.Slice lo hi none p2) v (.ref s3.heap.objs.size)) (EP X pins σ Q) X.xe { s3 with heap:=s3.heap.push { cls:=.type "slice",data:=.fields #[vl,vu,.none] } };exact tail_any (ops:=[.ref s3.heap.objs.size,v]) ht hT hg (by with_unfolding_all rfl)
def VM(xs:je)(lo hi:Option Int):je:=(xs.drop (HT.sIx xs.length 0 lo)).take (HT.sIx xs.length xs.length hi - HT.sIx xs.length 0 lo)
theorem Fi(xs:je)(lo hi:Option Int):(VM xs lo hi).length<=xs.length:=by
 unfold VM;rw [zA8,zBS]
 lia
end
def QB(n:Nat)(i:Int):Option Nat:=if 0<=i then (if i<n then some i.toNat else none) else if -(n:Int)<=i then some (i+n).toNat else none
def X8{α:Type}(xs:List α)(i:Int):Option α:=(QB xs.length i).bind fun j=>xs[j]?
theorem HW{n:Nat}{i:Int}{j:Nat}(h:QB n i=some j):seqIndex? i n=some j/\j<n /\ -(n:Int)<=i/\i<n:=by
 unfold QB at h;by_cases h0:0<=i
 ·rw [if_pos h0] at h;by_cases h1:i<n
  ·rw [if_pos h1] at h;have e:i.toNat=j:=zAh.inj h;exact ⟨by rw [seqIndex_of h0 h1,e],by lia,by lia,h1⟩
  ·rw [if_neg h1] at h;cases h
 ·rw [if_neg h0] at h;by_cases h1 : -(n:Int)<=i
  ·rw [if_pos h1] at h;have e:(i+n).toNat=j:=zAh.inj h;exact ⟨by rw [seqIndex_neg (by lia) h1,e],by lia,h1,by lia⟩
  ·rw [if_neg h1] at h;cases h
theorem MD{α:Type}{xs:List α}{i:Int}{v:α}(h:X8 xs i=some v):∃ j,seqIndex? i xs.length=some j/\xs[j]? = some v/\j<xs.length /\ -(xs.length:Int)<=i/\i<xs.length:=by
 unfold X8 at h
 cases e:QB xs.length i with
 | none=>rw [e] at h;cases h
 | some j=>
  rw [e] at h;obtain ⟨h1,h2,h3,h4⟩:=HW e;exact ⟨j,h1,h,h2,h3,h4⟩
theorem Xb{α:Type}{xs:List α}{j:Nat}{v:α}(h:xs[j]? = some v):X8 xs (j:Int)=some v:=by
 have hj:j<xs.length:=(zAK.mp h).1;have e:QB xs.length (j:Int)=some j:=by
  unfold QB;rw [if_pos (by lia),if_pos (by lia)];simp
 unfold X8;rw [e];exact h
theorem Hn{α:Type}(xs:List α)(v:α):X8 (xs++[v]) (-1)=some v:=by
 have hl:(xs++[v]).length=xs.length+1:=by simp
 have e:QB (xs++[v]).length (-1)=some xs.length:=by
  unfold QB;rw [hl,if_neg (by decide),if_pos (by lia)]
  congr 1
  lia
 unfold X8;rw [e];show (xs++[v])[xs.length]? = some v;simp
def Fn(b:Expr):Prop:=∀ o i,subscripted b false o i=operate [o,i] (getItem o i)
def QF(X:Cx)(r:R2):Prop:=
 ∀(value slice:Expr)(pins:List (Addr×Obj))(s:Shared)(σ:St)(H:Hp)(x y:V)(v u:Value)(Q:VK),ZI X pins σ H s->ZR x v->ZR y u->r x y H Q ->
  subscripted slice false v u=operate [v,u] (getItem v u)->wpAny (model X.prog X.w) X.A (subscriptTail value slice v u) (EP X pins σ Q) X.xe s
def Jf(X:Cx)(id:String)(r:V->je->Hp->VK->Prop):Prop:=
 ∀(pins:List (Addr×Obj))(s:Shared)(σ:St)(H:Hp)(x:V)(xs:je)(v:Value)(us:jd)(Q:VK),ZI X pins σ H s->ZR x v->ZP xs us->r x xs H Q ->
  wpAny (model X.prog X.w) X.A (call (.builtin id) (v :: us)) (EP X pins σ Q) X.xe s
section
variable{X:Cx}{a b:Expr}{ta tb:TE}{pos:Pos}
theorem QF.or{r r':R2}(h:QF X r)(h':QF X r'):QF X (fun x y H Q=>r x y H Q\/r' x y H Q):=by
 intro value slice pins s σ H x y v u Q I rx ry q hs;rcases q with q | q
 ·exact h value slice pins s σ H x y v u Q I rx ry q hs
 ·exact h' value slice pins s σ H x y v u Q I rx ry q hs
theorem Zp{r:R2}(hr:QF X r)(ha:PE X a ta)(hb:PE X b tb)(hs:Fn b):PE X (.Subscript a b pos) (Pi r ta tb):=by
 intro pins s σ H Q I h;exact Subscript_ (Mo ha hb I h fun v u s2 x y H2 I2 rx ry q=>hr a b pins s2 σ H2 x y v u Q I2 rx ry q (hs _ _))
def Qb(K:zAA):R2:=fun x y H Q=>∃ p xs i v,x=.ref p/\y=.int i/\ZK K H p xs/\X8 xs i=some v/\Q v H
def Xl(K:zAA):R2:=fun x y H Q=>∃ p xs i v,x=.ref p/\y=.int i/\Zn K H p xs/\X8 xs i=some v/\Q v H
def IJ:R2:=fun x y H Q=>∃ z i c,x=.str z/\y=.int i/\z.length<=sizeLine/\X8 z.cps.toList i=some c/\Q (.str ⟨#[c]⟩) H
theorem Zf:QF X (Qb X.K):=by
 intro value slice pins s σ H x y v u Q I rx ry h hs;obtain ⟨p,xs,i,z,rfl,rfl,hq,he,q⟩:=h;cases rx;obtain ⟨t,rfl⟩:=ry;obtain ⟨ji,r,pl,hz⟩:=I.list hq;obtain ⟨j,h1,h2,h3,h4,h5⟩:=MD he;obtain ⟨w,ew,rw'⟩:=r.get h2;have hl:=r.length;have hn:=Pe;have fin:EP X pins σ Q w s:=⟨z,H,I,rw',q⟩;by_cases h0:0<=i
 ·have hj:i.toNat=j:=by
   rw [seqIndex_of h0 h5] at h1;exact zAh.inj h1
  exact item_listR pl.isList h0 (by lia) (by rw [hj];simpa using ew) fin hs
 ·have hj:(i+(ji.toArray.size:Int)).toNat=j:=by
   rw [seqIndex_neg (by lia) h4] at h1
   rw [zAL,<-hl];exact zAh.inj h1
  exact subscriptTail_builtinR (x:=w) pl.isList.typeIs slot_list_getitem.lookup
   (wpAny_getItem_list_neg (Q:=fun r s'=>r=w/\EP X pins σ Q r s') pl.isList (by lia) (by rw [zAL] <;> lia) (by lia) (by rw [hj];simpa using ew) ⟨rfl,fin⟩) hs
theorem Zi:QF X (Xl X.K):=by
 intro value slice pins s σ H x y v u Q I rx ry h hs;obtain ⟨p,xs,i,z,rfl,rfl,hq,he,q⟩:=h;cases rx;obtain ⟨t,rfl⟩:=ry;obtain ⟨ji,r,pl,hz⟩:=I.tuple hq;obtain ⟨j,h1,h2,h3,h4,h5⟩:=MD he;obtain ⟨w,ew,rw'⟩:=r.get h2;have hl:=r.length;have hn:=Pe;have fin:EP X pins σ Q w s:=⟨z,H,I,rw',q⟩;exact subscriptTail_builtinR (x:=w) pl.typeIs slot_tuple_getitem.lookup
  (getItem_tuple (j:=j) (Q:=fun r s'=>r=w/\EP X pins σ Q r s') pl (by lia) (by lia) (by rw [zAL,<-hl];exact h1) (by simpa using ew) ⟨rfl,fin⟩) hs
theorem HN:QF X IJ:=by
 intro value slice pins s σ H x y v u Q I rx ry h hs;obtain ⟨z,i,c,rfl,rfl,hz,he,q⟩:=h;obtain ⟨t,rfl⟩:=rx;obtain ⟨t',rfl⟩:=ry;obtain ⟨j,h1,h2,h3,h4,h5⟩:=MD he;have hl:z.cps.toList.length=z.length:=by simp [Str.length]
 rw [hl] at h1 h4 h5;have hn:=Pe;exact tail_any (typeIs_str s z t) slot_str_getitem.lookup (getItem_str (c:=c) (by
  have e1:decide (i < -(2 ^ 63:Int))=false:=decide_eq_false (by lia)
  have e2:decide (i ≥ 2 ^ 63)=false:=decide_eq_false (by lia)
  rw [e1,e2,Bool.or_false]) (by rw [h1];simpa using h2) ⟨.str ⟨#[c]⟩,H,I.tok _,⟨_,rfl⟩,q⟩) hs
def YR(K:zAA):R2:=fun x y H Q=>Qb K x y H Q\/Xl K x y H Q\/IJ x y H Q
theorem Ya:QF X (YR X.K):=Zf.or (Zi.or HN)
theorem Ar(ji:jd)(n j:Nat)(u:Value):Obj.mapSeq (·.setIfInBounds j u) { cls:=.type "list",data:=.seq ji.toArray n }={ cls:=.type "list",data:=.seq (ji.set j u).toArray n }:=by
 simp [Obj.mapSeq]
theorem ZI.lst{pins:List (Addr×Obj)}{σ:St}{H:Hp}{s:Shared}{p:Addr}{xs:je}(I:ZI X pins σ H s)(h:H p=some (.lst xs)):
  ∃(ji:jd)(n:Nat),ZP xs ji/\s.heap.get? p=some { cls:=.type "list",data:=.seq ji.toArray n }/\xs.length<=sizeLine:=by
 obtain ⟨z,ji,n,r,e⟩:=I.hok p _ h;exact ⟨ji,n,r,e,z⟩
theorem ZI.lstUpd{pins:List (Addr×Obj)}{σ:St}{H:Hp}{s:Shared}{p:Addr}{xs ys:je}{ji its':jd}{n n':Nat}{f:Obj->Obj}(I:ZI X pins σ H s)(h:H p=some (.lst xs))(ho:s.heap.get? p=some { cls:=.type "list",data:=.seq ji.toArray n })(hf:f { cls:=.type "list",data:=.seq ji.toArray n }={ cls:=.type "list",data:=.seq its'.toArray n' })(r:ZP ys its')(hz:ys.length<=sizeLine)(t:Nat):
  ZI X pins σ (upd H p (.lst ys)) { s with heap:=s.heap.update p f,toks:=t }:=by
 have e:(s.heap.update p f).get? p=some { cls:=.type "list",data:=.seq its'.toArray n' }:=by
  rw [zA5 f ho (by rw [hf] <;> rfl),hf]
 refine I.write (x:=p) (e:=p) (by rw [h];trivial) (.inl rfl) (fun b u hb q=>(zAq _ _ (Ne.symm hb)).trans q) ⟨_,e⟩ ?_
 exact ⟨hz,its',n',r,e⟩
def An:V->V->V->Hp->(Hp->Prop)->Prop:=fun o i v H Q=>∃ p xs k j,o=.ref p/\i=.int k/\H p=some (.lst xs)/\QB xs.length k=some j/\Q (upd H p (.lst (xs.set j v)))
theorem Nk:JO X An:=by
 intro pins s σ H o i v ov iv u Q I ro ri rv h;obtain ⟨p,xs,k,j,rfl,rfl,hp,hj,q⟩:=h;cases ro;obtain ⟨t,rfl⟩:=ri;obtain ⟨ji,n,r,ho,hz⟩:=I.lst hp;obtain ⟨h1,h2,h3,h4⟩:=HW hj;have hl:=r.length;have hn:=Pe;have I':ZI X pins σ (upd H p (.lst (xs.set j v))) { s with heap:=s.heap.update p (Obj.mapSeq (·.setIfInBounds j u)) }:=
  I.lstUpd hp ho (Ar ji n j u) (r.set rv j) (by rw [List.length_set];exact hz) s.toks
 by_cases h0:0<=k
 ·have hk:k.toNat=j:=by
   rw [seqIndex_of h0 h4] at h1;exact zAh.inj h1
  exact PySem.W.ki_setAt ho h0 (by lia) (by rw [zAL,<-hl];exact h4) (by rw [hk];exact ⟨_,I',q⟩)
 ·have hk:(k+(ji.toArray.size:Int)).toNat=j:=by
   rw [seqIndex_neg (by lia) h3] at h1
   rw [zAL,<-hl];exact zAh.inj h1
  exact PySem.W.ki_setBack ho (by lia) (by rw [zAL,<-hl];exact h3) (by lia) (by rw [hk];exact ⟨_,I',q⟩)
theorem FR(lo hi:Option Int)(n:Nat):(sliceBounds lo hi none n).1=((HT.sIx n 0 lo:Nat):Int)/\(sliceBounds lo hi none n).2.1=((HT.sIx n n hi:Nat):Int)/\(sliceBounds lo hi none n).2.2=1:=by
 refine ⟨?_,?_,rfl⟩
 ·cases lo with
  | none=>simp [sliceBounds,HT.sIx]
  | some i=>
   simp only [sliceBounds,HT.sIx,zCp,show (1:Int) > 0 by decide,if_true]
   by_cases h:i<0
   ·simp only [h,if_true] <;> lia
   ·simp only [h,if_false] <;> lia
 ·cases hi with
  | none=>simp [sliceBounds,HT.sIx]
  | some i=>
   simp only [sliceBounds,HT.sIx,zCp,show (1:Int) > 0 by decide,if_true]
   by_cases h:i<0
   ·simp only [h,if_true] <;> lia
   ·simp only [h,if_false] <;> lia
theorem Ck(ji:jd)(lo hi:Option Int):slicePick ji.toArray lo hi none=((ji.drop (HT.sIx ji.length 0 lo)).take (HT.sIx ji.length ji.length hi - HT.sIx ji.length 0 lo)).toArray:=by
 obtain ⟨h1,h2,h3⟩:=FR lo hi ji.toArray.size;unfold slicePick;rw [h1,h2,h3];simp only [sliceRange_one,pick_run,zAL] <;> rfl
def AY(K:zAA):V->Option Int->Option Int->Hp->VK->Prop:=fun x lo hi H Q=>∃ a xs,x=.ref a/\ZK K H a xs/\∀ p,H p=none->Q (.ref p) (upd H p (.lst (VM xs lo hi)))
theorem V5:KA X (AY X.K):=by
 intro pins s σ H x v vl vu lo hi sl Q I rx hs pl pu h;obtain ⟨a,xs,rfl,hx,q⟩:=h;cases rx;obtain ⟨ji,r,ht,hz⟩:=I.list hx;have hlen:=r.length;refine ⟨"list",_,slot_list_getitem.lookup,ht.isList.typeIs,?_⟩;refine wpAny_getItem_list_slice ht.isList hs pl pu .none (by simp) ?_ (by rw [zAL] <;> lia)
 rw [Ck,<-hlen];refine ⟨.ref s.heap.objs.size,_,I.laid (t':=s.toks) (o:=.lst (VM xs lo hi)) (fun b ob q=>zAG _ q) (zAH _) ?_,rfl,q _ (I.hok.fresh (zAH _))⟩;exact ⟨zBC (Fi xs lo hi) hz,_,0,(r.drop (HT.sIx xs.length 0 lo)).take (HT.sIx xs.length xs.length hi - HT.sIx xs.length 0 lo),zAQ _ rfl⟩
def QL:V->Bool
 | .non=>true
 | .bl _=>true
 | .int _=>true
 | .str _=>true
 | _=>false
def U2:V->V->Bool
 | .non,.non=>true
 | .bl a,.bl b=>a==b
 | .bl a,.int b=>(if a then 1 else 0)==b
 | .int a,.bl b=>a==(if b then 1 else 0)
 | .int a,.int b=>a==b
 | .str a,.str b=>a==b
 | _,_=>false
theorem Go{A:Around}{s:Shared}{y x:V}{u v:Value}(ry:ZR y u)(rx:ZR x v)(fy:QL y=true)(fx:QL x=true):SeqAt.EqAt A s u v (U2 y x):=by
 cases y with
 | non=>
  cases ry
  cases x with
  | non=>cases rx;exact SeqAt.EqAt.same _
  | bl b=>cases rx;exact SeqAt.EqAt.none_bool b
  | int b=>obtain ⟨t,rfl⟩:=rx;exact SeqAt.EqAt.none_int b t
  | str b=>obtain ⟨t,rfl⟩:=rx;exact SeqAt.EqAt.none_str b t
  | _=>exact absurd (show false=true from fx) zAF
 | bl a=>
  cases ry
  cases x with
  | non=>cases rx;exact SeqAt.EqAt.bool_none a
  | bl b=>cases rx;exact SeqAt.EqAt.bool_bool a b
  | int b=>obtain ⟨t,rfl⟩:=rx;exact SeqAt.EqAt.bool_int a b t
  | str b=>obtain ⟨t,rfl⟩:=rx;exact SeqAt.EqAt.bool_str a b t
  | _=>exact absurd (show false=true from fx) zAF
 | int a=>
  obtain ⟨t',rfl⟩:=ry
  cases x with
  | non=>cases rx;exact SeqAt.EqAt.int_none a t'
  | bl b=>cases rx;exact SeqAt.EqAt.int_bool a t' b
  | int b=>obtain ⟨t,rfl⟩:=rx;exact SeqAt.EqAt.int_int a t' b t
  | str b=>obtain ⟨t,rfl⟩:=rx;exact SeqAt.EqAt.int_str a t' b t
  | _=>exact absurd (show false=true from fx) zAF
 | str a=>
  obtain ⟨t',rfl⟩:=ry
  cases x with
  | non=>cases rx;exact SeqAt.EqAt.str_none a t'
  | bl b=>cases rx;exact SeqAt.EqAt.str_bool a t' b
  | int b=>obtain ⟨t,rfl⟩:=rx;exact SeqAt.EqAt.str_int a t' b t
  | str b=>obtain ⟨t,rfl⟩:=rx;exact SeqAt.EqAt.str_str a t' b t
  | _=>exact absurd (show false=true from fx) zAF
 | _=>exact absurd (show false=true from fy) zAF
def U8(x:V)(u:Value):Bool:=match u with
 | .none=>U2 .non x
 | .bool b=>U2 (.bl b) x
 | .int i _=>U2 (.int i) x
 | .str z _=>U2 (.str z) x
 | _=>false
theorem JB{x y:V}{u:Value}(r:ZR y u)(f:QL y=true):U8 x u=U2 y x:=by
 cases y with
 | non=>cases r;rfl
 | bl b=>cases r;rfl
 | int i=>obtain ⟨t,rfl⟩:=r;rfl
 | str z=>obtain ⟨t,rfl⟩:=r;rfl
 | _=>exact absurd (show false=true from f) zAF
theorem Nu{x:V}:∀{xs:je}{us:jd},ZP xs us->xs.all QL=true->us.any (U8 x)=xs.any fun y=>U2 y x
 | _,_,.nil,_=>rfl
 | y :: xs,u :: us,.cons r t,f=>by
  rw [zCN,zAR] at f;rw [zCM,zCM,JB r f.1,Nu t f.2]
theorem Mv{A:Around}{s:Shared}{x:V}{v:Value}(rx:ZR x v)(fx:QL x=true):∀{xs:je}{us:jd},ZP xs us->xs.all QL=true->∀ u∈us,SeqAt.EqAt A s u v (U8 x u)
 | _,_,.nil,_=>fun u hu=>by cases hu
 | y :: xs,u :: us,.cons r t,f=>fun u' hu=>by
  rw [zCN,zAR] at f;rcases zAf.mp hu with rfl | hu
  ·rw [JB r f.1];exact Go r rx f.1 fx
  ·exact Mv rx fx t f.2 u' hu
def OU(x:V)(xs:je):Bool:=xs.any fun y=>U2 y x
def LG(K:zAA)(neg:Bool):R2:=fun x y H Q=>∃ p xs,y=.ref p/\(ZK K H p xs\/Zn K H p xs)/\QL x=true/\xs.all QL=true/\Q (.bl (if neg then !OU x xs else OU x xs)) H
theorem Hz:YX X (compareOp .NotIn) (LG X.K true):=by
 intro pins s σ H x y v u Q I rx ry h;obtain ⟨p,xs,rfl,hq,fx,fs,q⟩:=h;cases ry;rcases hq with hq | hq
 ·obtain ⟨ji,r,pl,hz⟩:=I.list hq;refine SeqAt.notIn_listAt (U8 x) pl.isList (fun w hw=>Mv rx fx r fs w (by simpa using hw)) ⟨.bl _,H,I,rfl,?_⟩
  rw [show ji.toArray.any (U8 x)=ji.any (U8 x) by simp,Nu r fs]
  exact q
 ·obtain ⟨ji,r,pl,hz⟩:=I.tuple hq;refine SeqAt.notIn_tupleAt (U8 x) pl (fun w hw=>Mv rx fx r fs w (by simpa using hw)) ⟨.bl _,H,I,rfl,?_⟩
  rw [show ji.toArray.any (U8 x)=ji.any (U8 x) by simp,Nu r fs]
  exact q
theorem Xh:Wr X (.builtin "len") (fun xs H Q=>∃ p ys,xs=[.ref p]/\(ZK X.K H p ys\/Zn X.K H p ys)/\Q (.int ys.length) H):=by
 intro pins s σ H xs us Q I r h;obtain ⟨p,ys,rfl,hq,q⟩:=h;obtain ⟨u,rfl,rx⟩:=VI r;cases rx;have hn:=Pe;rcases hq with hq | hq
 ·obtain ⟨ji,r',pl,hz⟩:=I.list hq;have hlen:=r'.length;exact Calls.call_len_list pl.isList (by simp only [zAL] <;> lia) ⟨.int ys.length,H,I.tok _,⟨s.toks+1,by rw [zAL,hlen]⟩,q⟩
 ·obtain ⟨ji,r',pl,hz⟩:=I.tuple hq;have hlen:=r'.length;exact len_tuple pl (by simp only [zAL] <;> lia) ⟨.int ys.length,H,I.tok _,⟨s.toks+1,by rw [zAL,hlen]⟩,q⟩
theorem El:Wr X (.builtin "len") (fun xs H Q=>∃ z,xs=[.str z]/\z.length<=sizeLine/\Q (.int z.length) H):=by
 intro pins s σ H xs us Q I r h;obtain ⟨z,rfl,hz,q⟩:=h;obtain ⟨u,rfl,t,rfl⟩:=VI r;have hn:=Pe;exact len_str (by lia) ⟨.int z.length,H,I.tok _,⟨_,rfl⟩,q⟩
theorem UJ:Wr X (.type "list") (fun xs H Q=>∃ p ys,xs=[.ref p]/\(ZK X.K H p ys\/Zn X.K H p ys)/\∀ l,H l=none->Q (.ref l) (upd H l (.lst ys))):=by
 intro pins s σ H xs us Q I r h;obtain ⟨p,ys,rfl,hq,q⟩:=h;obtain ⟨u,rfl,rx⟩:=VI r;cases rx;have fin:∀(ji:jd),ZP ys ji->ys.length<=sizeLine->∀(h':Heap)(c':Nat),(∀ b o',s.heap.get? b=some o'->h'.get? b=some o') ->
   h'.get? s.heap.objs.size=some { cls:=.type "list",dict:=none,data:=.seq ji.toArray c',slots:=#[] }->EP X pins σ Q (.ref s.heap.objs.size) { s with heap:=h' }:=fun ji r' hz h' c' kp e=>
  ⟨.ref s.heap.objs.size,_,I.laid (t':=s.toks) kp (zAH _) (show Ze X.prog X.w _ h' _ (.lst ys) from ⟨hz,ji,c',r',e⟩),rfl,q _ (I.hok.fresh (zAH _))⟩
 rcases hq with hq | hq
 ·obtain ⟨ji,r',pl,hz⟩:=I.list hq;have hlen:=r'.length;obtain ⟨o,ho,hc,n,hd⟩:=pl.isList;exact call_list_seq p (.inl rfl) ho hc hd (fun h' c' kp e=>fin ji r' hz h' c' kp e) (by simp only [zAL] <;> lia)
 ·obtain ⟨ji,r',pl,hz⟩:=I.tuple hq;have hlen:=r'.length;obtain ⟨o,ho,hc,n,hd⟩:=pl;exact call_list_seq p (.inr rfl) ho hc hd (fun h' c' kp e=>fin ji r' hz h' c' kp e) (by simp only [zAL] <;> lia)
theorem NE:Wr X (.type "tuple") (fun xs H Q=>∃ p ys,xs=[.ref p]/\((ZK X.K H p ys/\∀ l,H l=none->Q (.ref l) (upd H l (.tup ys)))\/(Zn X.K H p ys/\Q (.ref p) H))):=by
 intro pins s σ H xs us Q I r h;obtain ⟨p,ys,rfl,h⟩:=h;obtain ⟨u,rfl,rx⟩:=VI r;cases rx;rcases h with ⟨hq,q⟩ | ⟨hq,q⟩
 ·obtain ⟨ji,r',pl,hz⟩:=I.list hq;have hlen:=r'.length;refine call_tuple_list pl.isList (fun h' kp=>?_) (by simp only [zAL] <;> lia)
  have I1:ZI X pins σ H { s with heap:=h' }:=I.kept (t':=s.toks) kp;have I2:ZI X pins σ (upd H h'.objs.size (.tup ys)) { s with heap:=h'.push { cls:=.type "tuple",data:=.seq ji.toArray } }:=
   I1.laid (t':=s.toks) (fun b o e=>zAG _ e) (zAH _) (show Ze X.prog X.w _ _ _ (.tup ys) from ⟨hz,ji,r',IsTup.new _ _⟩)
  exact ⟨.ref h'.objs.size,_,I2,rfl,q _ (I1.hok.fresh (zAH _))⟩
 ·obtain ⟨ji,r',pl,hz⟩:=I.tuple hq;exact call_tuple_same pl ⟨.ref p,H,I,rfl,q⟩
def MC(K:zAA)(T:String)(x:V)(H:Hp):Prop:=match x with
 | .str _=>T = "str"
 | .int _=>T = "int"
 | .ref p=>(T = "list" /\ ∃ xs,ZK K H p xs)\/(T = "tuple" /\ ∃ o,K.lookup p=some o/\o.cls=.type "tuple" /\ o.dict=none) \/
   (T = "dict" /\ ((∃ kvs,H p=some (.dK kvs))\/∃ kvs,H p=some (.dT kvs)))\/(T = "set" /\ ∃ S n,H p=some (.set S n))
 | _=>False
theorem Iw{pins:List (Addr×Obj)}{σ:St}{H:Hp}{s:Shared}{T:String}{x:V}{v:Value}(I:ZI X pins σ H s)(r:ZR x v)(ty:MC X.K T x H):
  s.TypeIs v T/\∀ a,v=.ref a->∃ ob,s.heap.get? a=some ob/\ob.dict=none:=by
 cases x with
 | str z=>
  obtain ⟨t,rfl⟩:=r;cases (show T = "str" from ty);exact ⟨typeIs_str s z t,fun _ e=>nomatch e⟩
 | int i=>
  obtain ⟨t,rfl⟩:=r;cases (show T = "int" from ty);exact ⟨typeIs_int s i t,fun _ e=>nomatch e⟩
 | ref p=>
  cases r;rcases ty with ⟨rfl,xs,hq⟩ | ⟨rfl,o,hk,hc,hd⟩ | ⟨rfl,hk⟩ | ⟨rfl,S,n,hk⟩
  ·obtain ⟨ji,_,pl,_⟩:=I.list hq;refine ⟨pl.isList.typeIs,fun a e=>?_⟩;cases e;obtain ⟨o,n,e,c,hd,_⟩:=pl;exact ⟨o,e,hd⟩
  ·refine ⟨⟨o,I.kIn p o hk,hc⟩,fun a e=>?_⟩;cases e;exact ⟨o,I.kIn _ o hk,hd⟩
  ·have z:∃ o,s.heap.get? p=some o/\o.ExactDict:=by
    rcases hk with ⟨kvs,hk⟩ | ⟨kvs,hk⟩
    ·obtain ⟨_,_,_,_,o,_,_,e,ex,_⟩:=I.hok p _ hk;exact ⟨o,e,ex⟩
    ·obtain ⟨_,_,_,_,o,_,_,e,ex,_⟩:=I.hok p _ hk;exact ⟨o,e,ex⟩
   obtain ⟨o,e,ex⟩:=z;refine ⟨⟨o,e,ex.1⟩,fun a e2=>?_⟩;cases e2;exact ⟨o,e,ex.2.1⟩
  ·obtain ⟨o,_,_,_,e,ex,_⟩:=I.hok p _ hk;refine ⟨⟨o,e,ex.1⟩,fun a e2=>?_⟩;cases e2;exact ⟨o,e,ex.2.1⟩
 | _=>exact False.elim ty
def CA(K:zAA)(T:String)(r:V->je->Hp->VK->Prop)(to:TE):TE:=fun σ H Q=>to σ H fun x H1=>MC K T x H1/\r x [] H1 Q
def Dy(K:zAA)(T:String)(r:V->je->Hp->VK->Prop)(to:TE)(t:TA):TE:=fun σ H Q=>to σ H fun x H1=>MC K T x H1/\t σ H1 fun xs H2=>r x xs H2 Q
variable{o e:Expr}{es:List Expr}{to:TE}{t:TA}{name:Str}{jm jk:Pos}{T id:String}{r:V->je->Hp->VK->Prop}
theorem Eg(pa:PlainAttrs T)(slot:Slot T name id)(hty:typeOf (.builtin id)=pure (.type "method_descriptor"))(hm:Jf X id r)(ho:PE X o to)(jZ:attributeBase o name X.env (eval o X.env)=eval o X.env:=by rfl)(jW:(jm.endLine==jk.line)=true:=by rfl):PE X (.Call (.Attribute o name jm) [] [] jk) (CA X.K T r to):=by
 intro pins s σ H Q I h;refine wpAny_Call_method0_late jZ jW (Za (ho pins s σ H _ I h) fun v s1 ⟨x,H1,I1,r1,ty,q1⟩=>?_);obtain ⟨h1,h2⟩:=Iw I1 r1 ty;exact ⟨T,id,pa,slot,hty,h1,h2,Calls.callWith_builtin rfl (PySem.evalArgs_none (hm pins s1 σ H1 x [] v [] Q I1 r1 .nil q1))⟩
theorem UX(pa:PlainAttrs T)(slot:Slot T name id)(hty:typeOf (.builtin id)=pure (.type "method_descriptor"))(hm:Jf X id r)(ho:PE X o to)(ha:PA X (e :: es) t)(jZ:attributeBase o name X.env (eval o X.env)=eval o X.env:=by rfl)(hfew:((backTo jk (starEach (e :: es) X.env)).all (fun x=>!x.1)&&(backToKw jk (keywordEach [] X.env)).all (fun x=>x.1.isSome)
   && decide ((e :: es).length+([]:List Keyword).length+(if ([]:List Keyword).isEmpty then 0 else 1)<30))=true:=by rfl)(jW:(jm.endLine==jk.line)=true:=by rfl)(hs:starEach (e :: es) X.env=(false,eval e X.env) :: starEach es X.env:=by rfl)(jC:(backTo jk (starEach es X.env)).any (·.1)=false:=by rfl):
  PE X (.Call (.Attribute o name jm) (e :: es) [] jk) (Dy X.K T r to t):=by
 intro pins s σ H Q I h;refine wpAny_Call_method_late jZ hfew jW rfl (Za (ho pins s σ H _ I h) fun v s1 ⟨x,H1,I1,r1,ty,q1⟩=>?_);obtain ⟨h1,h2⟩:=Iw I1 r1 ty;refine ⟨T,id,pa,slot,hty,h1,h2,?_⟩;have hA:=ha jk pins s1 σ H1 _ I1 q1;rw [hs] at hA ⊢;refine Calls.callWith_builtin (by show (false || (backTo jk (starEach es X.env)).any (·.1))=false;rw [jC] <;> rfl) (Calls.evalArgs_plain ?_)
 exact Za hA fun us s2 ⟨vs,H2,I2,r2,q2⟩=>hm pins s2 σ H2 x vs v us Q I2 r1 r2 q2
end
def K2(X:Cx)(id:String)(r:V->je->Hp->VK->Prop):Prop:=
 ∀(pins:List (Addr×Obj))(s:Shared)(σ:St)(H:Hp)(x:V)(xs:je)(v:Value)(us:jd)(Q:VK),ZI X pins σ H s->ZR x v->ZP xs us->r x xs H Q ->
  wpAny (model X.prog X.w) X.A (call (.builtin id) (v :: us)) (EP X pins σ Q) X.xe s
theorem ZP.one:∀{x:V}{us:jd},ZP [x] us->∃ u,us=[u]/\ZR x u
 | _,_,.cons r .nil=>⟨_,rfl,r⟩
theorem ZP.zero:∀{us:jd},ZP [] us->us=[]
 | _,.nil=>rfl
theorem ZP.dropLast{xs:je}{us:jd}(h:ZP xs us):ZP xs.dropLast us.dropLast:=by
 induction h with
 | nil=>exact .nil
 | cons r t ih=>
  cases t with
  | nil=>exact .nil
  | cons q t'=>exact .cons r ih
theorem Eh{α:Type}(l:List α):l.eraseIdx (l.length - 1)=l.dropLast:=by
 induction l with
 | nil=>rfl
 | cons a r ih=>
  cases r with
  | nil=>rfl
  | cons b r=>
   have e:(a :: b :: r).length - 1=((b :: r).length - 1)+1:=by
    have h1:(a :: b :: r).length=r.length+2:=rfl;have h2:(b :: r).length=r.length+1:=rfl
    lia
   rw [e,List.eraseIdx_cons_succ,ih]
   all_goals rfl
section
variable{X:Cx}{pins:List (Addr×Obj)}{σ:St}{H:Hp}{s:Shared}{l b:Addr}{xs ys zs:je}
theorem ZI.lset{ji its':jd}{n:Nat}{f:Array Value->Array Value}{t':Nat}(I:ZI X pins σ H s)(hH:H l=some (.lst xs))(e:s.heap.get? l=some { cls:=.type "list",data:=.seq ji.toArray n })(hf:f ji.toArray=its'.toArray)(hv:ZP ys its')(hz:ys.length<=sizeLine):
  ZI X pins σ (upd H l (.lst ys)) { s with heap:=s.heap.update l (Obj.mapSeq f),toks:=t' }:=by
 have q:=PySem.IsL.update e f;rw [hf] at q;refine I.write (x:=l) (e:=l) (by rw [hH];exact trivial) (.inl rfl) (fun b' u hb hu=>(zAq s.heap (Obj.mapSeq f) (Ne.symm hb)).trans hu) ⟨_,q⟩ ?_
 exact ⟨hz,its',_,hv,q⟩
theorem ZI.lnew{ji:jd}{t':Nat}(I:ZI X pins σ H s)(hv:ZP ys ji)(hz:ys.length<=sizeLine):
  ZI X pins σ (upd H s.heap.objs.size (.lst ys)) { s with heap:=s.heap.push { cls:=.type "list",data:=.seq ji.toArray },toks:=t' }:=
 I.laid (fun _ _ q=>zAG _ q) (zAH _) ⟨hz,ji,0,hv,zAQ _ rfl⟩
theorem ZI.fresh(I:ZI X pins σ H s):H s.heap.objs.size=none:=I.hok.fresh (zAH _)
theorem ZI.lstM(I:ZI X pins σ H s)(hH:H l=some (.lst xs)):xs.length<=sizeLine/\∃(ji:jd)(n:Nat),ZP xs ji/\xs.length=ji.length/\s.heap.get? l=some { cls:=.type "list",data:=.seq ji.toArray n }:=by
 obtain ⟨z,ji,n,r,e⟩:=I.hok l _ hH;exact ⟨z,ji,n,r,r.length,e⟩
end
section
variable{X:Cx}
def Gc:V->je->Hp->VK->Prop:=fun x vs H Q=>∃ l xs y,x=.ref l/\vs=[y]/\H l=some (.lst xs)/\xs.length<sizeLine/\Q .non (upd H l (.lst (xs++[y])))
theorem UH:K2 X "list.append" Gc:=by
 intro pins s σ H x vs v us Q I rx rv h;obtain ⟨l,xs,y,rfl,rfl,hH,hz,q⟩:=h;cases rx;obtain ⟨u,rfl,ru⟩:=rv.one;obtain ⟨z,ji,n,r,hl,e⟩:=I.lstM hH;refine call_meets F.slot_list_append ⟨_,e,rfl⟩ F.entry_list_append (F.args_list_append_2 _ _) (PySem.list_append l ji.toArray n u (by rw [zAL];lia)) ⟨e,?_⟩
 refine ⟨.non,_,I.lset (its':=ji++[u]) hH e (by simp) (r.append (.cons ru .nil)) ?_,rfl,q⟩
 rw [zAI,zBM]
 lia
def AG:V->je->Hp->VK->Prop:=fun x vs H Q=>∃ l xs y,x=.ref l/\vs=[]/\H l=some (.lst xs)/\xs[xs.length - 1]? = some y/\Q y (upd H l (.lst xs.dropLast))
theorem Fc:K2 X "list.pop" AG:=by
 intro pins s σ H x vs v us Q I rx rv h;obtain ⟨l,xs,y,rfl,rfl,hH,hy,q⟩:=h;cases rx;have hus:=rv.zero;subst hus;obtain ⟨z,ji,n,r,hl,e⟩:=I.lstM hH;obtain ⟨u,hu,ru⟩:=r.get hy;have hy':ji.toArray[ji.toArray.size - 1]? = some u:=by
  show ji.toArray[ji.length - 1]? = some u;rw [<-zAj,<-hl];exact hu
 refine call_meets F.slot_list_pop ⟨_,e,rfl⟩ F.entry_list_pop (F.args_list_pop_1 _) (MeetsSeq.list_pop_last l ji.toArray n u hy' (by rw [zAL];lia)) ⟨e,?_⟩
 refine ⟨y,_,I.lset (its':=ji.dropLast) hH e ?_ r.dropLast ?_,ru,q⟩
 ·show ji.toArray.eraseIdxIfInBounds (ji.toArray.size - 1)=ji.dropLast.toArray;rw [zAL,List.eraseIdxIfInBounds_toArray,Eh]
 ·rw [List.length_dropLast]
  lia
def JL:R2:=fun x y H Q=>∃ l b xs zs,x=.ref l/\y=.ref b/\H l=some (.lst xs)/\H b=some (.lst zs)/\xs.length+zs.length<=sizeLine/\∀ p,H p=none->Q (.ref p) (upd H p (.lst (xs++zs)))
theorem Vi:YX X (binaryOp .Add) JL:=by
 intro pins s σ H x y v u Q I rx ry h;obtain ⟨l,b,xs,zs,rfl,rfl,hH,hB,hz,q⟩:=h;cases rx;cases ry;obtain ⟨z,ji,n,r,hl,e⟩:=I.lstM hH;obtain ⟨z2,jp,n2,r2,hl2,e2⟩:=I.lstM hB;refine PySem.P.add_list e e2 ?_ (by rw [zAL,zAL];lia)
 have ea:ji.toArray++jp.toArray=(ji++jp).toArray:=by simp
 rw [ea];exact ⟨.ref _,_,I.lnew (t':=s.toks) (r.append r2) (by rw [zAI];lia),rfl,q _ I.fresh⟩
end
section
variable{prog:Program}{w:World}{A:Around}{E:ja}{s:Shared}
set_option maxRecDepth 100000 in
end
section
variable{X:Cx}
end
end L2
namespace Att
open PySem PySem.W PySem.Calls PyProof.Rows
theorem Co{P:Params}{h:Heap}:∀(ns:List Int)(vs:jd),WellAll P h vs (ns.map WData.int)->IntsAre vs ns:=by
 intro ns
 induction ns with
 | nil=>
  intro vs w;rw [zCE] at w;cases w;exact .nil
 | cons n ns ih=>
  intro vs w;rw [zAn] at w
  cases w with
  | cons a b=>
   cases a;exact .cons _ _ (ih _ b)
theorem BX{l:OpenLaw}{n:Nat}(hn:l.most=some n){P:Params}{h:Heap}{args:List WData}{vals:jd}(hpre:l.row.toRowW.claim.pre args=true)(hwl:WellAll P h vals args):
  ∃ a vs ns,vals=[Value.ref a]/\args=[WData.list (ns.map WData.int)]/\h.get? a=some { cls:=.type "list",data:=.seq vs.toArray }/\IntsAre vs ns/\ns.length<=n:=by
 have hsh:WShape.hasAll [] args [.list .int]=true:=(pre_splitW hpre).1;have hc:l.pre.holds [] { args:=args }=true:=(pre_splitW hpre).2;obtain ⟨d,r,rfl,h1,h2⟩:=hasAllW_cons hsh;obtain rfl:=hasAllW_nil h2;obtain ⟨xs,rfl,h3⟩:=hasW_list h1;obtain ⟨ns,rfl⟩:=items_int h3;have hlen:ns.length<=n:=by
  unfold OpenLaw.pre at hc;have h4:(WTm.not (.lt (.lit (.int (n:Int))) (.len (.arg 0)))).holds [] { args:=[.list (ns.map .int)] }=true:=by
   have h4:=(holds_andW hc).1;rw [hn] at h4;exact h4
  have h5:=condW_of h4 (w_not (w_lt w_lit (w_len_list (w_arg rfl))));rw [zAD] at h5;refine zC5 fun q=>?_;have q':(n:Int)<((ns.length:Nat):Int):=by lia
  first
   | (rw [decide_eq_true q'] at h5;exact absurd h5 (by decide))
   | (simp at h5;lia)
 cases hwl with
 | cons w1 w2=>
  cases w2
  cases w1 with
  | list ho hall=>exact ⟨_,_,ns,rfl,rfl,ho,Co ns _ hall,hlen⟩
theorem CL(l:OpenLaw)(args:List WData):l.row.toRowW.claim.post args (.bool true) args=true:=
 postW_of (r:=l.row.toRowW) (X:=(true==true))
  (show WShape.has [] (.bool true) .bool=true by first | rfl | decide | simp [WShape.has,WShape.arms,WShape.armsAll])
  (show (WTm.eq .res (.lit (.bool true))).value [] { args:=args,res:=some (.bool true),after:=args }=some (.bool (true==true)) from w_eq_bool (w_res rfl) w_lit) rfl
theorem attach_call{l:OpenLaw}{n:Nat}{q:Program}{loose:List Str}{XP:(jb)->Heap->Prop}{YP:World->Heap->Prop}{d:DefRec}(hn:l.most=some n)(hdf:d.params.defaults=[])(call:∀ (w:World) (s₀ s₁:Shared) (mg mb:jb) (fa:Addr) (o:Obj) (pm cd doc:Value) (a:Addr) (vs:jd) (ns:List Int),
   Ground q loose [] XP w s₀ mg mb s₁.heap->YP w s₁.heap ->
   s₁.heap.get? fa=some o->o.data=.func (docDef d.name d.params d.body d.scope pm cd doc)->s₁.heap.CodeRec cd d.name->mg d.name=some (.ref fa) ->
   s₁.heap.get? a=some { cls:=.type "list",data:=.seq vs.toArray }->IntsAre vs ns->ns.length<=n->s₁.gens=#[] ->
   codeAny (model l.prog w) callerA (.call (.ref fa) ⟨[.ref a],[]⟩) (fun r s'=>r=.ok (.ret (.bool true))/\OldK s₁.heap s'.heap/\s'.os=s₁.os/\AllBare s'.gens) s₁):
  WalkO q loose XP YP l.row.toRowW d [] (fun f vs=>PySem.call f vs):=by
 intro w s₀ s₁ mg mb G Y fa o pm cd doc dV kV ho hd jK hD hmg hg args vals as hpre hlay hrd hwl hlo;obtain rfl:dV=.none:=Dflts.none hD hdf;obtain rfl:kV=.none:=Dflts.noKw hD;obtain ⟨a,vs,ns,rfl,rfl,hobj,hints,hlen⟩:=BX hn hpre hwl;refine enter_call (codeAny_mono (call w s₀ s₁ mg mb fa o pm cd doc a vs ns G Y ho (fd_plain hd) jK hmg hobj hints hlen hg) fun r s' hq=>?_);obtain ⟨rfl,h2,h3,h4⟩:=hq;exact ⟨.inl ⟨.bool true,.bool true,[],rfl,fun _=>rfl,.bool true,CL l _,fun _=>⟨zCl.nil,fun _ hm=>(nomatch hm)⟩⟩,h2,h3,h4⟩
section
variable{prog:Program}{w:World}{A:Around}{E:ja}{s:Shared}{K:Frag}
def ZPi(h:Heap)(L d:Addr):List (Addr×Obj):=(zAi h.objs.size).filterMap fun a=>if a=L\/a=d then none else (h.get? a).map fun o=>(a,o)
end
end Att
namespace L2
open PySem PySem.Spec PyProof.Rows
theorem Oo:∀{vs:jd}{ns:List Int},IntsAre vs ns->ZP (ns.map V.int) vs
 | _,_,.nil=>.nil
 | _,_,.cons n t h=>.cons ⟨t,rfl⟩ (Oo h)
def MZ(H:Hp):Prop:=∀ b,H b=none\/∃ o xs,H b=some (.frz o (.lst xs))
theorem ZKp{P:Program}{w:World}{K:zAA}{mg mb:jb}{CX:Ws}{k:Nat}{fa a:Addr}{fd:FuncData}{x:Str}{sp:Sp}{s₁:Shared}{vs:jd}{ns:List Int}(KX:K.In s₁.heap)(hns:s₁.heap.Ns mainGlobals mg)(hb:s₁.heap.Ns builtinsNs mb)(hbb:∀ x:Str,x ≠ "__name__"->mb x=bootBuiltins x)(hlim:s₁.heap.NoLimit)(hg:s₁.gens=#[])(ha:s₁.heap.get? a=some { cls:=.type "list",data:=.seq vs.toArray })(hi:IntsAre vs ns)(hl:ns.length<=sizeLine)(hr:ZY k callerA)(F:∀ base:Heap,K.In base->base.Ns mainGlobals mg->ZM P w K mg base CX k fa fd [x] sp)(hbind:∀ (s:Shared) (u:Value),BindsTo s fd ⟨[u],[]⟩ [(x,u)])(jP:∀ H:Hp,MZ H->ZK K H a (ns.map V.int)->sp [.ref a] H (fun v _=>v=.bl true) fun _ _ _=>False)(hCX:∀ H e s',CX [] H s₁ (fun _ _ _=>False) e s'->False):
  codeAny (model P w) callerA (.call (.ref fa) ⟨[.ref a],[]⟩) (fun r s'=>r=.ok (.ret (.bool true))/\OldK s₁.heap s'.heap/\s'.os=s₁.os/\AllBare s'.gens) s₁:=by
 have rv:=Oo hi;have lenV:=hi.length;have core:∀ H:Hp,MZ H->ZK K H a (ns.map V.int)->Yi P w H s₁.heap->(∀ b,H b≠none->b=a)->(H a≠none->K.lookup a=none) ->
   codeAny (model P w) callerA (.call (.ref fa) ⟨[.ref a],[]⟩) (fun r s'=>r=.ok (.ret (.bool true))/\OldK s₁.heap s'.heap/\s'.os=s₁.os/\AllBare s'.gens) s₁:=by
  intro H hO hS hok hA hK;have base_of:∀{b:Addr}{o:Obj},s₁.heap.get? b=some o->H b=none->(U6 s₁.heap H).get? b=some o:=fun e n=>B7 e n;have noA:∀{b:Addr}{o:Obj}{es:Array DictEntry}{ep:Nat},s₁.heap.get? b=some o->o.data=.dict es ep->H b=none:=fun{b o es ep} e d=>by
   cases q:H b with
   | none=>rfl
   | some u=>
    have e':b=a:=hA b (by rw [q];simp)
    subst e';rw [ha] at e;cases e;have d':Data.seq vs.toArray _=Data.dict es ep:=d;cases d'
  have nsK:∀{b:Addr}{m:jb},s₁.heap.Ns b m->(U6 s₁.heap H).Ns b m:=fun{b m} ⟨o,es,ep,e,d,r⟩=>⟨o,es,ep,base_of e (noA e d),d,r⟩;have hKb:K.In (U6 s₁.heap H):=fun b o e=>base_of (KX b o e) (by
   cases q:H b with
   | none=>rfl
   | some u=>
    have e':b=a:=hA b (by rw [q];simp)
    subst e';rw [hK (by rw [q];simp)] at e;cases e)
  have hM:Mod K mg (U6 s₁.heap H):=⟨hKb,nsK hns,⟨mb,nsK hb,hbb⟩,let ⟨mc,h1,h2⟩:=hlim;⟨mc,nsK h1,h2⟩⟩;have e0:VA P w K mg (U6 s₁.heap H) callerA [] s₁ H:=⟨rfl,hM,fun b o e=>ZMf e,zCa (GL _ _),trivial,fun b hb=>absurd (show b∈([]:List Addr) from hb) (by simp),hok,.of_eq hg⟩
  refine codeAny_mono ((F _ hKb (nsK hns)).run callerA [] s₁ H ⟨[.ref a],[]⟩ [.ref a] [.ref a] _ _ hr e0 (hbind s₁ (.ref a)) (.cons rfl .nil) (jP H hO hS)) fun r s' h=>?_
  cases r with
  | error e=>exact (hCX H e s' h).elim
  | ok fl=>
   cases fl with
   | next=>exact False.elim h
   | brk=>exact False.elim h
   | cont=>exact False.elim h
   | ret u=>
    obtain ⟨v,H',os,bare,un,hok',r',q⟩:=h;have q':v=.bl true:=q;subst q';obtain rfl:u=Value.bool true:=r';refine ⟨rfl,OldK.of_keep fun b o e=>?_,os,bare⟩
    cases q:H b with
    | none=>exact un.keep b o e q (by intro z;exact absurd (show b∈([]:List Addr) from z) (by simp)) (by simp)
    | some u=>
     rcases hO b with z | ⟨ob,xs,z⟩
     ·rw [q] at z;cases z
     ·have z2:=un.frzs b ob _ z;obtain ⟨e1,_⟩:=hok b _ z;obtain ⟨e2,_⟩:=hok' b _ z2;rw [e] at e1;cases e1;exact e2
 cases hk:K.lookup a with
 | some o=>
  have e:=KX a o hk;rw [ha] at e;cases e;refine core (fun _=>none) (fun _=>.inl rfl) (.inr ⟨_,vs.toArray,_,hk,rfl,rfl,rfl,by rw [zAL,lenV];exact hl,by simpa using rv⟩) (fun b u z=>by have z':(none:Option HO)=some u:=z;cases z') (fun b z=>absurd rfl z) fun z=>absurd rfl z
 | none=>
  refine core (fun b=>if b=a then some (.frz { cls:=.type "list",data:=.seq vs.toArray } (.lst (ns.map V.int))) else none) (fun b=>?_) (.inl (.inr ⟨{ cls:=.type "list",data:=.seq vs.toArray },if_pos rfl⟩)) (fun b u z=>?_) (fun b z=>?_) fun _=>hk
  ·by_cases hb:b=a
   ·exact .inr ⟨_,_,if_pos hb⟩
   ·exact .inl (if_neg hb)
  ·by_cases hb:b=a
   ·have z':=(if_pos hb).symm.trans z;cases z';subst hb;exact ⟨ha,by rw [zAD];exact hl,vs,_,rv,ha⟩
   ·have z':=(if_neg hb).symm.trans z;cases z'
  ·by_cases hb:b=a
   ·exact hb
   ·exact absurd (if_neg hb) z
abbrev KOf{K:zAA}{h:Heap}(_:K.In h):zAA:=K
theorem OT{l:zCt}{n k:Nat}{q:Program}{loose:List Str}{XP:(jb)->Heap->Prop}{YP:World->Heap->Prop}{d:DefRec}{K:Params->zAA}{CX:World->Ws}{sp:World->Sp}{x:Str}(hn:l.most=some n)(hn2:n<=sizeLine)(hdf:d.params.defaults=[])(hr:ZY k callerA)(hY:∀ (w:World) (h:Heap),YP w h->(K w.params).In h)(F:∀ (w:World) (mg:jb) (fa:Addr) (h:Heap),(K w.params).In h->h.Ns mainGlobals mg->mg d.name=some (.ref fa) ->
   ∃ fd:FuncData,(∀ (s:Shared) (u:Value),BindsTo s fd ⟨[u],[]⟩ [(x,u)]) /\
    ∀ base:Heap,(K w.params).In base->base.Ns mainGlobals mg->ZM l.prog w (K w.params) mg base (CX w) k fa fd [x] (sp w))(jP:∀ (w:World) (H:Hp) (a:Addr) (ns:List Int),ns.length<=n->MZ H->ZK (K w.params) H a (ns.map V.int)->sp w [.ref a] H (fun v _=>v=.bl true) fun _ _ _=>False)(hCX:∀ (w:World) (H:Hp) (s:Shared) (e:Value) (s':Shared),CX w [] H s (fun _ _ _=>False) e s'->False):
  PySem.W.WalkO q loose XP YP l.row.toRowW d [] (fun f vs=>PySem.call f vs):=by
 refine Att.attach_call hn hdf fun w s₀ s₁ mg mb fa o pm cd doc a vs ns G Y ho hd jK hmg hobj hints hlen hg=>?_;have KX:=hY w _ Y;obtain ⟨fd,hb,hF⟩:=F w mg fa _ KX G.T.g hmg;exact ZKp KX G.T.g G.T.b G.T.builtins G.T.nolimit hg hobj hints (zBC hlen hn2) hr hF hb (fun H hO hS=>jP w H a ns hlen hO hS) fun H e s'=>hCX w H s₁ e s'
def We(s:Stmt)(j:Nat):Stmt:=match s with
 | .ClassDef _ _ _ body _ _ _ _ _ _ _=>body.getD j (.Pass ⟨0,0,0,0⟩)
 | _=>.Pass ⟨0,0,0,0⟩
def Vx(s:Stmt):Arguments:=match s with
 | .FunctionDef _ a _ _ _ _ _ _ _ _=>a
 | _=>{ posonlyargs:=[],args:=[],vararg:=none,kwonlyargs:=[],kw_defaults:=[],kwarg:=none,defaults:=[] }
def WQ(s:Stmt):List Stmt:=match s with
 | .FunctionDef _ _ b _ _ _ _ _ _ _=>b
 | _=>[]
def Zg(s:Stmt):Scope:=match s with
 | .FunctionDef _ _ _ _ _ _ sc _ _ _=>sc
 | _=>{ kind:=.function,names:=[],isGenerator:=false,isCoroutine:=false }
abbrev ZU:Ws:=fun _ _ _ _ _ _=>False
abbrev E0:XK:=fun _ _ _=>False
theorem XE{X:Cx}:UA ZU X E0:=fun _ _ _ _ _ _ _ h=>h.elim
structure Zq(K:zAA)(x qual:Str)(st:Stmt)(f:Addr)(fd:FuncData):Prop where
 ex:∃(oc:Value)(od:Option Addr)(kV doc pm:Value)(an:Option Addr)(cdv ct:Value)(jO:Array (jc)),
  fd=zBF x qual (Vx st) (WQ st) (Zg st) .none kV doc pm an cdv ct/\K.lookup f=some ⟨oc,od,.func fd,jO⟩/\zBa K cdv qual=true
 kp:zAu K (.ref f)=true
section
variable{P:Program}{w:World}{K:zAA}{mg:jb}{base:Heap}
theorem Zq.ok{x qual:Str}{st:Stmt}{f:Addr}{fd:FuncData}{N ps:List Str}{k:Nat}{sp:Sp}(F:Zq K x qual st f fd)(S:ZD N ps (Zg st))(len:∀ vs H Q E,sp vs H Q E->vs.length=ps.length)(jz:∀ (cdv:Value) (A:Around) (outer:List Env) (s:Shared) (H:Hp) (vs:je) (Q:VK) (E:XK),ZY k (A.deeper (envOfC qual (Zg st) s.heap.objs.size f cdv))->sp vs H Q E ->
   ∃ t,Xg (X7 ZU P w K mg base N qual (Zg st) f cdv A outer s H E).nox (WQ st) t/\t { nx:=fun _ H'=>Q .non H',rt:=Q } (U1 N vs) H):ZM P w K mg base ZU (k+1) f fd ps sp:=by
 obtain ⟨oc,od,kV,doc,pm,an,cdv,ct,jO,rfl,lk,jK⟩:=F.ex;refine Km lk jK S len fun A outer s H vs Q E hr jP=>?_;obtain ⟨t,h,q⟩:=jz cdv A outer s H vs Q E hr jP;exact ⟨t,h.nox,q⟩
theorem Zq.binds{x qual:Str}{st:Stmt}{f:Addr}{fd:FuncData}{ps:List Str}(F:Zq K x qual st f fd)(h:∀ (kV doc pm:Value) (an:Option Addr) (cdv ct:Value) (us:jd),us.length=ps.length->bindArgs (zBF x qual (Vx st) (WQ st) (Zg st) .none kV doc pm an cdv ct) ⟨us,[]⟩=pure (ps.zip us)):Zs K fd ps []:=by
 obtain ⟨oc,od,kV,doc,pm,an,cdv,ct,jO,rfl,lk,jK⟩:=F.ex;exact .all (h kV doc pm an cdv ct)
theorem U5{x qual:Str}{st:Stmt}{f:Addr}{oc:Value}{od an:Option Addr}{jO:Array (jc)}{kV doc pm cdv ct:Value}(l:K.lookup f=some ⟨oc,od,.func (zBF x qual (Vx st) (WQ st) (Zg st) .none kV doc pm an cdv ct),jO⟩)(c:zBa K cdv qual=true)(k:zAu K (.ref f)=true):Zq K x qual st f (zBF x qual (Vx st) (WQ st) (Zg st) .none kV doc pm an cdv ct):=⟨⟨oc,od,kV,doc,pm,an,cdv,ct,jO,rfl,l,c⟩,k⟩
end
theorem Qt{A:Around}{k:Nat}(hr:ZY k A):A.units+1<cLine:=Nat.lt_of_le_of_lt (Nat.add_le_add_left (by decide:1<=64) _) hr.units
theorem Yp{n:Nat}(h:n<=1000):n<sizeLine:=Nat.lt_of_le_of_lt h (by decide)
section
variable{X:Cx}
theorem pv(i:Nat){x:Str}{pos:Pos}(hN:X.N[i]? = some x:=by rfl)(hv:Mx X.env.scope x:=by first | exact Or.inl rfl | exact Or.inr (Or.inl rfl) | exact Or.inr (Or.inr rfl))(hd:(x==("__debug__" : Str))=false:=by decide)(jK:(x==("__classdict__" : Str))=false:=by decide):PE X (.Name x pos) (LA i):=ZOK hN hv hd jK
end
theorem Zr{A B:Prop}(h:B):if false=true then A else B:=by
 rw [if_neg zAF];exact h
theorem Z9{A B:Prop}(h:A):if true=true then A else B:=by
 rw [if_pos rfl];exact h
theorem Ww{c A B:Prop}[Decidable c](h1:c->A)(h2:¬ c->B):if c then A else B:=by
 by_cases h:c
 ·rw [if_pos h];exact h1 h
 ·rw [if_neg h];exact h2 h
def ZA(H H':Hp):Prop:=∀ b o,H b=some o->H' b=some o
theorem ZA.refl(H:Hp):ZA H H:=fun _ _ h=>h
theorem ZA.trans{H H1 H2:Hp}(a:ZA H H1)(b:ZA H1 H2):ZA H H2:=fun c o h=>b c o (a c o h)
theorem ZA.free{H H':Hp}(e:ZA H H'){l:Addr}(h:H' l=zCw):H l=zCw:=by
 cases q:H l with
 | none=>rfl
 | some o=>
  rw [e l o q] at h;cases h
theorem ZA.seq{K:zAA}{H H':Hp}{a:Addr}{xs:je}(e:ZA H H')(h:ZK K H a xs):ZK K H' a xs:=by
 rcases h with (h | ⟨o,h⟩) | h
 ·exact .inl (.inl (e _ _ h))
 ·exact .inl (.inr ⟨o,e _ _ h⟩)
 ·exact .inr h
section
variable{prog:Program}{w:World}{A:Around}{R:Result->Shared->Prop}{s:Shared}
theorem F9{elt target iter:Expr}{ifs:List Expr}{scope:Scope}{pos:Pos}{it acc:Value}{env:Env}(I:Nat->Shared->Prop)(turn:∀ n s,I n s->wpAny (model prog w) A (pyNext it) (fun r s₁=>match r with
   | none=>R (.ok .next) s₁
   | some v=>wpAny (model prog w) A (letOwnedTupleGo target it v) (fun _ s₀=>wpAny (model prog w) A (assign target env v) (fun _ s₂=>
     wpAny (model prog w) A (forIn ifs true fun c r=>if r=true then do let ok<-isTrue c env (eval c env);pure (ForInStep.yield ok) else pure (ForInStep.yield r)) (fun ok s₃=>
      if ok=true then wpAny (model prog w) A (eval elt env) (fun x s₄=>
       wpAny (model prog w) A (call (.builtin "list.append") [acc,x]) (fun _ s₅=>∃ m,m<n/\I m s₅) (notedBy (model prog w) A env fun e s'=>R (.error e) s') s₄) (notedBy (model prog w) A env fun e s'=>R (.error e) s') s₃
      else ∃ m,m<n/\I m s₃) (notedBy (model prog w) A env fun e s'=>R (.error e) s') s₂) (notedBy (model prog w) A env fun e s'=>R (.error e) s') s₀) (notedBy (model prog w) A env fun e s'=>R (.error e) s') s₁) (notedBy (model prog w) A env fun e s'=>R (.error e) s') s)(n:Nat)(h:I n s):
  codeAny (model prog w) A (.compLoop (.ListComp elt [⟨target,iter,ifs,0⟩] scope pos) 0 it acc env) R s:=by
 refine codeAny_loop rfl I (fun n s hI=>?_) n h;show wpAny _ A ((compTurn (.ListComp elt [⟨target,iter,ifs,0⟩] scope pos) 0 it acc env).onRaise (fun x=>do noteFrame x env;theTreesLotGoes x)) _ _ s
 refine wpAny_noted ?_;rw [compTurn_list];refine wpAny_bind (wpAny_standAt (wpAny_bind (wpAny_mono (turn n s hI) (fun r s₁ h₁=>?_) fun _ _ h'=>h')))
 cases r with
 | none=>exact wpAny_pure h₁
 | some v=>
  refine wpAny_bind (wpAny_mono h₁ (fun _ s₀ h₀=>?_) fun _ _ h'=>h');refine wpAny_bind (wpAny_mono h₀ (fun _ s₂ h₂=>wpAny_bind (wpAny_mono h₂ (fun ok s₃ h₃=>?_) fun _ _ h'=>h')) fun _ _ h'=>h')
  cases ok with
  | false=>exact wpAny_pure ⟨rfl,h₃⟩
  | true=>
   exact wpAny_bind (wpAny_bind (wpAny_mono h₃ (fun x s₄ h₄=>wpAny_bind (wpAny_mono h₄ (fun _ s₅ h₅=>wpAny_pure (wpAny_pure ⟨rfl,h₅⟩)) fun _ _ h'=>h')) fun _ _ h'=>h'))
end
def WB(env:Env)(l:List (Str×NameKind)):List (Str×Addr)->List (Str×Addr):=fun cs=>l.foldl (fun cs p=>if p.2==.free then (p.1,(env.cells.lookup p.1).getD 0) :: cs else cs) cs
def Pz(env:Env)(l:List (Str×NameKind)):Prop:=∀ p∈l,p.2=.free->∃ c,env.cells.lookup p.1=some c
theorem KB{env:Env}{scope:Scope}(h:Pz env scope.names):closureFor scope env=pure (WB env scope.names []):=by
 have all:∀(l:List (Str×NameKind))(cs:List (Str×Addr)),Pz env l->(forIn l cs fun x r=>if (x.2==.free)=true then do let a<-cellOf env x.1;pure (ForInStep.yield ((x.1,a) :: r)) else pure (ForInStep.yield r):Sem (List (Str×Addr)))=pure (WB env l cs):=by
  intro l
  induction l with
  | nil=>intro cs _;rfl
  | cons p r ih=>
   intro cs hf;have e:WB env (p :: r) cs=WB env r (if p.2==.free then (p.1,(env.cells.lookup p.1).getD 0) :: cs else cs):=rfl
   rw [zDB,e]
   cases hk:(p.2==NameKind.free) with
   | true=>
    obtain ⟨c,hc⟩:=hf p zAT (eq_of_beq hk);have jy:cellOf env p.1=pure c:=by unfold cellOf;rw [hc]
    simp only [if_true,jy,pure_bind];rw [ih _ fun q hq=>hf q (zAN _ hq),hc];rfl
   | false=>
    simp only [zA3,if_false,pure_bind];exact ih _ fun q hq=>hf q (zAN _ hq)
 have:=all scope.names [] h;simpa [closureFor] using this
theorem Ik{env:Env}:∀{l:List (Str×NameKind)}{cs:List (Str×Addr)}{x:Str}{c:Addr},Pz env l->(WB env l cs).lookup x=some c->cs.lookup x=some c\/env.cells.lookup x=some c
 | [],_,_,_,_,h=>.inl h
 | p :: r,cs,x,c,hf,h=>by
  have h':(WB env r (if p.2==.free then (p.1,(env.cells.lookup p.1).getD 0) :: cs else cs)).lookup x=some c:=h
  rcases Ik (fun q hq=>hf q (zAN _ hq)) h' with q | q
  ·cases hk:(p.2==NameKind.free) with
   | true=>
    rw [hk,if_pos rfl,zBD] at q
    cases e:x==p.1 with
    | true=>
     rw [e] at q;obtain ⟨d,hd⟩:=hf p zAT (eq_of_beq hk);refine .inr ?_;rw [eq_of_beq e,hd];rw [hd] at q;exact q
    | false=>
     rw [e] at q;exact .inl q
   | false=>
    rw [hk,if_neg zAF] at q;exact .inl q
  ·exact .inr q
theorem Ij{env:Env}{x:Str}:∀{l:List (Str×NameKind)}{cs:List (Str×Addr)},(cs.lookup x).isSome=true->((WB env l cs).lookup x).isSome=true
 | [],_,h=>h
 | p :: r,cs,h=>by
  show ((WB env r (if p.2==.free then (p.1,(env.cells.lookup p.1).getD 0) :: cs else cs)).lookup x).isSome=true
  refine Ij ?_
  cases hk:(p.2==NameKind.free) with
  | true=>
   rw [if_pos rfl,zBD]
   cases e:x==p.1 with
   | true=>rfl
   | false=>exact h
  | false=>rw [if_neg zAF];exact h
theorem HG{env:Env}{x:Str}:∀{l:List (Str×NameKind)}{cs:List (Str×Addr)},(x,NameKind.free)∈l->((WB env l cs).lookup x).isSome=true
 | [],_,h=>by cases h
 | p :: r,cs,h=>by
  show ((WB env r (if p.2==.free then (p.1,(env.cells.lookup p.1).getD 0) :: cs else cs)).lookup x).isSome=true
  rcases zAf.mp h with e | h
  ·subst e;refine Ij ?_;show (zBb x ((x,(env.cells.lookup x).getD 0) :: cs)).isSome=true;rw [zBD,beq_self_eq_true];rfl
  ·exact HG h
def Yl(env:Env)(cl:List (Str×Addr)):Prop:=∀ x c,cl.lookup x=some c->env.cells.lookup x=some c
theorem Yl.get{env:Env}{cl:List (Str×Addr)}{x:Str}{c:Addr}(h:Yl env cl)(e:cl.lookup x=some c):env.cells.lookup x=some c:=h x c e
theorem JE{env:Env}{l:List (Str×NameKind)}(h:Pz env l):Yl env (WB env l []):=fun x c e=>by
 rcases Ik h e with q | q
 ·cases q
 ·exact q
theorem Ke{env:Env}:∀{names:List (Str×NameKind)}{x:Str},names.lookup x=some .free ->
  (names.map fun(n,k)=>if (k==NameKind.free&&env.scope.kind==.function&&env.kindOf n==some .cell) then (n,NameKind.cell) else (n,k)).lookup x=some .cell \/
  (names.map fun(n,k)=>if (k==NameKind.free&&env.scope.kind==.function&&env.kindOf n==some .cell) then (n,NameKind.cell) else (n,k)).lookup x=some .free
 | [],_,h=>by simp at h
 | (n,k) :: r,x,h=>by
  rw [zBD] at h;simp only [zAn]
  cases hx:x==n with
  | true=>
   rw [hx] at h;cases h;split
   ·exact .inl (by rw [zBD,hx])
   ·exact .inr (by rw [zBD,hx])
  | false=>
   rw [hx] at h;have ih:=Ke (env:=env) h;split
   ·rw [zBD,hx];exact ih
   ·rw [zBD,hx];exact ih
theorem JV{env:Env}:∀{names:List (Str×NameKind)}{x:Str},(∀ y∈names,y.2≠.cell) ->
  ((names.map fun(n,k)=>if (k==NameKind.free&&env.scope.kind==.function&&env.kindOf n==some .cell) then (n,NameKind.cell) else (n,k)).lookup x=some .cell \/
  (names.map fun(n,k)=>if (k==NameKind.free&&env.scope.kind==.function&&env.kindOf n==some .cell) then (n,NameKind.cell) else (n,k)).lookup x=some .free)->(x,NameKind.free)∈names
 | [],_,_,h=>by simp at h
 | (n,k) :: r,x,hc,h=>by
  have hr:∀ y∈r,y.2≠.cell:=fun y hy=>hc y (zAN _ hy);simp only [zAn] at h
  cases hx:x==n with
  | true=>
   have en:=eq_of_beq hx;subst en;by_cases hk:k=.free
   ·subst hk;exact zAT
   ·have hb:(k==NameKind.free)=false:=by simpa using hk
    simp only [hb,zBr,zA3,if_false,zBD,beq_self_eq_true] at h;rcases h with h | h
    ·exact absurd (zAh.inj h) (hc _ zAT)
    ·exact absurd (zAh.inj h) hk
  | false=>
   refine zAN _ (JV (env:=env) hr ?_);split at h
   ·simpa only [zBD,hx] using h
   ·simpa only [zBD,hx] using h
def Z7(X:Cx)(scope:Scope):List Nat->List Str->Prop
 | [],[]=>True
 | i :: is,y :: ys=>X.N[i]? = some y/\(X.env.kindOf y=some .cell\/X.env.kindOf y=some .free)/\scope.names.lookup y=some .free/\Z7 X scope is ys
 | _,_=>False
theorem Z7.len{X:Cx}{scope:Scope}:∀{is:List Nat}{ys:List Str},Z7 X scope is ys->is.length=ys.length
 | [],[],_=>rfl
 | _ :: _,_ :: _,h=>congrArg (· + 1) h.2.2.2.len
theorem Z7.get{X:Cx}{scope:Scope}:∀{is:List Nat}{ys:List Str}{j:Nat}{y:Str},Z7 X scope is ys->ys[j]? = some y ->
  ∃ i,is[j]? = some i/\X.N[i]? = some y/\(X.env.kindOf y=some .cell\/X.env.kindOf y=some .free)/\scope.names.lookup y=some .free
 | [],[],_,_,_,h=>by simp at h
 | i :: _,z :: _,0,y,f,h=>by
  simp at h;subst h;exact ⟨i,rfl,f.1,f.2.1,f.2.2.1⟩
 | _ :: is,_ :: ys,j+1,y,f,h=>by
  obtain ⟨i,e,r⟩:=Z7.get (j:=j) f.2.2.2 (by simpa using h)
  exact ⟨i,by simpa using e,r⟩
def WC(X:Cx)(N:List Str)(scope:Scope)(cl:List (Str×Addr))(C:Addr)(s:Shared)(H:Hp)(fp:List Addr)(E:ja):Cx where
 prog:=X.prog
 w:=X.w
 K:=X.K
 mg:=X.mg
 base:=X.base
 A:=X.A
 N:=N
 s₀:=s
 H₀:=H
 env:=compEnvC scope cl C X.env
 outer:=X.stack
 stack:=X.stack
 ex:=fp
 fn:=fun _=>false
 calm:=X.calm
 pn:=[]
 xe:=E
def Pn(σ:St)(ix:List Nat)(x:V):St:=some x :: ix.map fun i=>(σ[i]?).join
def Qi(X:Cx)(ifs:List Expr)(tt:TT):Prop:=
 ∀(pins:List (Addr×Obj))(s:Shared)(σ:St)(H:Hp)(Q:Bool->Hp->Prop),ZI X pins σ H s->tt σ H Q ->
  wpAny (model X.prog X.w) X.A (forIn ifs true fun c r=>if r=true then do let ok<-isTrue c X.env (eval c X.env);pure (ForInStep.yield ok) else pure (ForInStep.yield r)) (TP X pins σ Q) X.xe s
def NU:TT:=fun _ H Q=>Q true H
theorem Vk{X:Cx}:Qi X [] NU:=fun _ _ _ H _ I h=>wpAny_tests_nil ⟨H,I,h⟩
theorem OB{X:Cx}{c:Expr}{t:TT}(h:PT X c t):Qi X [c] t:=fun pins s σ H Q I hw=>wpAny_tests_one (h pins s σ H Q I hw)
def VT(J:It)(σ:St)(ix:List Nat)(tt:TT)(te:TE)(H1:Hp)(Q:VK):Prop:=
 ∀ D,H1 D=none->∃ W:Nat->Nat->Hp->Prop,(∃ m,W 0 m (upd H1 D (.lst [])))/\∀ i m H,W i m H ->
  (J.stop i H/\Q (.ref D) H)\/(J.go i H/\∀ x H',J.yld i H x H'->tt (Pn σ ix x) H' fun c H2=>
   if c=true then te (Pn σ ix x) H2 fun y H3=>∃ ys m',H3 D=some (.lst ys)/\ys.length<sizeLine/\m'<m/\W (i+1) m' (upd H3 D (.lst (ys++[y])))
   else ∃ m',m'<m/\W (i+1) m' H2)
def Hf(wi:TI)(ix:List Nat)(tt:TT)(te:TE):TE:=fun σ H Q=>wi σ H fun J H1=>VT J σ ix tt te H1 Q
section
variable{X:Cx}{pins:List (Addr×Obj)}{σ:St}{H:Hp}{s:Shared}
theorem Ci{ix:List Nat}{j:Nat}{v:V}(h:(ix.map fun i=>(σ[i]?).join)[j]? = some (some v)):∃ i,ix[j]? = some i/\σ[i]? = some (some v):=by
 rw [zAM] at h
 cases e:ix[j]? with
 | none=>rw [e] at h;cases h
 | some i=>
  rw [e] at h;have h':(σ[i]?).join=some v:=zAh.inj h;refine ⟨i,rfl,?_⟩
  cases q:σ[i]? with
  | none=>rw [q] at h';cases h'
  | some o=>
   rw [q] at h'
   cases o with
   | none=>cases h'
   | some z=>cases h';rfl
def Pm(env:Env)(l:List (Str×NameKind)):Bool:=l.all fun p=>!(p.2==.free) || env.kindOf p.1==some .cell || env.kindOf p.1==some .free
theorem KS{X:Cx}{l:List (Str×NameKind)}(ok:X.Ok)(h:Pm X.env l=true):Pz X.env l:=fun p hp hk=>by
 have q:=zAO.mp h p hp;rw [hk] at q;have q':(X.env.kindOf p.1==some .cell || X.env.kindOf p.1==some .free)=true:=by simpa using q
 rcases Bool.or_eq_true_iff.mp q' with q | q
 ·exact ok.has p.1 (.inl (eq_of_beq q))
 ·exact ok.has p.1 (.inr (eq_of_beq q))
def Q6(scope:Scope)(x:Str):Bool:=scope.kind==.function&&scope.names.lookup x==some .local&&scope.names.all (fun p=>!(p.2==.cell))&&scope.names.all (fun p=>!(p.2==.local) || scope.names.lookup p.1==some .local)
structure U0(scope:Scope)(x:Str):Prop where
 kind:scope.kind=.function
 own:scope.names.lookup x=some .local
 cell:∀ y∈scope.names,y.2≠.cell
 names:∀ y∈scope.names,y.2=.local->scope.names.lookup y.1=some .local
theorem ON{scope:Scope}{x:Str}(h:Q6 scope x=true):U0 scope x:=by
 unfold Q6 at h;rw [zAR,zAR,zAR] at h;obtain ⟨⟨⟨h1,h2⟩,h3⟩,h4⟩:=h;refine ⟨eq_of_beq h1,eq_of_beq h2,fun y hy z=>?_,fun y hy z=>?_⟩
 ·have:=zAO.mp h3 y hy;rw [z] at this;cases this
 ·have:=zAO.mp h4 y hy;rw [z] at this;have q:(scope.names.lookup y.1==some NameKind.local)=true:=by simpa using this
  exact eq_of_beq q
theorem JG{scope:Scope}{env:Env}(jy:∀ y∈scope.names,y.2≠.cell)(y:Str)(h:(relabel scope env).names.lookup y=some .cell\/(relabel scope env).names.lookup y=some .free):∃ c,(WB env scope.names []).lookup y=some c:=
 zBt.mp (HG (JV jy h))
def JW(i:Nat)(t:TE):TS:=fun D σ H=>t σ H fun v H1=>D.nx (σ.set i (some v)) H1
end
def Oy(xs:List Str)(σ:St)(ix:List Nat):St:=xs.map (fun _=>(none:jf))++ix.map fun i=>(σ[i]?).join
def NS(J:It)(k:Nat)(g:TG)(σ:St)(ix:List Nat)(tt:TT)(te:TE)(H1:Hp)(Q:VK):Prop:=
 ∀ D,H1 D=none->∃ W:Nat->Nat->Hp->Prop,(∃ m,W 0 m (upd H1 D (.lst [])))/\∀ i m H,W i m H ->
  (J.stop i H/\Q (.ref D) H)\/(J.go i H/\∀ x H',J.yld i H x H'->∀ os:St,os.length=k->g x (os++ix.map fun i=>(σ[i]?).join) H' fun σ6 H6=>(∃ os':St,os'.length=k/\σ6=os'++ix.map fun i=>(σ[i]?).join)/\tt σ6 H6 fun c H2=>
   if c=true then te σ6 H2 fun y H3=>∃ ys m',H3 D=some (.lst ys)/\ys.length<sizeLine/\m'<m/\W (i+1) m' (upd H3 D (.lst (ys++[y])))
   else ∃ m',m'<m/\W (i+1) m' H2)
def Im(k:Nat)(g:TG)(wi:TI)(ix:List Nat)(tt:TT)(te:TE):TE:=fun σ H Q=>wi σ H fun J H1=>NS J k g σ ix tt te H1 Q
section
variable{X:Cx}{pins:List (Addr×Obj)}{σ:St}{H:Hp}{s:Shared}
theorem EV{xs:List Str}{ys:List Str}{ix:List Nat}{scope:Scope}{cl:List (Str×Addr)}{fp:List Addr}{E:ja}{h₁:Heap}{D C n:Nat}{tk:Nat}{m:jb}(I:ZI X pins σ H s)(hf:∀ b∈fp,Wp X pins H b/\b<s.heap.objs.size)(sub:Yl X.env cl)(jE:scope.kind=.function)(hhas:∀ y,((relabel scope X.env).names.lookup y=some .cell\/(relabel scope X.env).names.lookup y=some .free)->∃ c,cl.lookup y=some c)(fo:Z7 X scope ix ys)(hD:s.heap.objs.size<=D)(hC:s.heap.objs.size<=C)(hDC:D≠C)(hns:h₁.Ns C m)(k:∀ b o,s.heap.get? b=some o->h₁.get? b=some o)(hd:h₁.get? D=some { cls:=.type "list",data:=.seq ([]:jd).toArray n }):
  ZI (WC X (xs++ys) scope cl C s H fp E) [] (Oy xs σ ix) (upd H D (.lst [])) { s with heap:=h₁,toks:=tk }:=by
 have lt_of_cell:∀ y c,cl.lookup y=some c->c<s.heap.objs.size:=fun y c e=>by
  obtain ⟨v,q⟩:=I.cell y c (sub.get e);exact q.lt
 refine ⟨⟨I.ok.mod,jE,I.ok.glob,I.ok.blt,hC,fun y z c h1 h2=>I.ok.inj y z c (sub.get h1) (sub.get h2),hhas,fun y c h _=>absurd h (by simp [WC]),I.ok.hd,I.ok.frames,.inl rfl,fun b hb=>⟨?_,fun y c e=>?_⟩,I.bs,zBC I.ok.bsz I.sz,fun b o e hb=>?_,fun b hb z=>?_,I.stack,I.stkFree⟩,
  rfl,I.bare,Un.laid k hD (I.hok.fresh hD),⟨m,hns,fun j y v e1 e2 e3=>?_⟩,fun y c e=>?_,?_,fun y c e=>?_,fun p hp=>absurd (show p∈([]:List (Addr×Obj)) from hp) (by simp),I.hok.laid k hD ?_,?_⟩
 ·exact zAg (zAl (hf b hb).2 hC)
 ·exact (hf b hb).1.2.2.2.2.1 y c (sub.get e)
 ·obtain ⟨_,_,_,z,_⟩:=(hf b hb).1;rcases z with z | z
  ·exact I.ok.noex b o e z
  ·exact absurd (zAl (zAP (I.ok.bs b o e).1) z) (zBc _)
 ·obtain ⟨_,z1,z2,_⟩:=(hf b hb).1;rcases zAf.mp (I.stkSub b z) with q | q
  ·exact z1 q
  ·exact z2 q
 ·by_cases hj:j<xs.length
  ·exfalso
   have e3:(xs.map (fun _=>(none:jf))++ix.map fun i=>(σ[i]?).join)[j]? = some (some v):=e2;rw [zA2 (by rw [zAD];exact hj),zAM,zAE hj] at e3
   cases e3
  ·have e0:(xs++ys)[j]? = some y:=e1;have e1':ys[j - xs.length]? = some y:=by rw [zAv (zC5 hj)] at e0;exact e0
   have e3:(xs.map (fun _=>(none:jf))++ix.map fun i=>(σ[i]?).join)[j]? = some (some v):=e2;have e2':(ix.map fun i=>(σ[i]?).join)[j - xs.length]? = some (some v):=by
    rw [zAv (by rw [zAD];exact zC5 hj),zAD] at e3
    exact e3
   obtain ⟨i,q1,q2⟩:=Ci e2';obtain ⟨i',p1,p2,p3,p4'⟩:=fo.get e1';rw [q1] at p1;cases p1;have p4:(relabel scope X.env).names.lookup y=some .cell\/(relabel scope X.env).names.lookup y=some .free:=Ke p4';obtain ⟨c,p5⟩:=hhas y p4;obtain ⟨m0,hn0,hl⟩:=I.loc;obtain ⟨u,r,l⟩:=hl i y v p2 q2 (.inr p3);refine ⟨u,r,.inr ⟨p4,c,p5,?_⟩⟩;rcases l with ⟨l1,_⟩ | ⟨_,c',l2,l3⟩
   ·rcases p3 with p3 | p3
    ·rw [l1] at p3;cases p3
    ·rw [l1] at p3;cases p3
   ·rw [sub.get p5] at l2;cases l2;obtain ⟨o,ho,hd'⟩:=l3;exact ⟨o,k _ _ ho,hd'⟩
 ·obtain ⟨v,o,ho,hd'⟩:=I.cell y c (sub.get e);exact ⟨v,o,k _ _ ho,hd'⟩
 ·show upd H D (.lst []) C=none;rw [ZX (Ne.symm hDC)];exact I.hok.fresh hC
 ·show upd H D (.lst []) c=none;rw [ZX (zAg (zAl (lt_of_cell y c e) hD))];exact I.freeC y c (sub.get e)
 ·exact ⟨zAd _,[],n,.nil,hd⟩
 ·show (Oy xs σ ix).length=(xs++ys).length;unfold Oy;rw [zAI,zAD,zAD,fo.len,zAI]
theorem JN{elt iter tg:Expr}{xs:List Str}{g:TG}{ifs:List Expr}{scope:Scope}{cl:List (Str×Addr)}{pos:Pos}{ix:List Nat}{ys:List Str}{tt:TT}{te:TE}{it:Addr}{fp:List Addr}{tn:Nat->Heap->Prop}{J:It}{Q:VK}{E:ja}{RR:Value->Addr->Result->Shared->Prop}(hc:X.calm=true)(hg:∀ C s H fp E,PG (WC X (xs++ys) scope cl C s H fp E) tg g)(ht:∀ C s H fp E,Qi (WC X (xs++ys) scope cl C s H fp E) ifs tt)(he:∀ C s H fp E,PE (WC X (xs++ys) scope cl C s H fp E) elt te)(sub:Yl X.env cl)(jE:scope.kind=.function)(jy:∀ y∈scope.names,y.2≠.cell)(hhas:∀ y,((relabel scope X.env).names.lookup y=some .cell\/(relabel scope X.env).names.lookup y=some .free)->∃ c,cl.lookup y=some c)(fo:Z7 X scope ix ys)(I:ZI X pins σ H s)(T:V3 X.prog X.w X.K tg J fp it tn)(st:tn 0 s.heap)(hf:∀ b∈fp,Wp X pins H b)(q:NS J xs.length g σ ix tt te H Q)(jY:∀ D C s' H' m,s.heap.objs.size<=C->ZI X pins σ H' s'->Wp X pins H' C->s'.heap.Ns C m->Q (.ref D) H'->RR (.ref D) C (.ok .next) s'):
  wpAny (model X.prog X.w) X.A (newList []) (fun acc s₃=>wpAny (model X.prog X.w) X.A (newFunctionEnv scope X.env.globals cl [] X.env.qual none .none (some X.env)) (fun cenv s₄=>
   codeAny (model X.prog X.w) X.A (.compStart (.ListComp elt [⟨tg,iter,ifs,0⟩] scope pos) 0 (.ref it) acc { cenv with scope:=relabel scope X.env }) (RR acc cenv.locals) s₄) E s₃) E s:=by
 refine wpAny_newObj_type (wpAny_newFunctionEnv jy (by intro y hy;simp at hy) (fun h₁ hns₁ hsb₁=>?_) jE)
 dsimp only at hns₁ hsb₁ ⊢;generalize hH2:s.heap.push { cls:=.type "list",dict:=none,data:=.seq ([]:jd).toArray }=H2 at hns₁ hsb₁ ⊢;have hC:H2.objs.size=s.heap.objs.size+1:=by rw [<-hH2,zBq]
 have hDC:s.heap.objs.size≠H2.objs.size:=by rw [hC];exact zAg (zBe _)
 have hCle:s.heap.objs.size<=H2.objs.size:=by rw [hC];exact zCA _
 have below:∀ b,b<s.heap.objs.size->b≠H2.objs.size/\b≠s.heap.objs.size:=fun b hb=>⟨by rw [hC];exact zAg (zB0 hb),zAg hb⟩
 have old:∀ b o,s.heap.get? b=some o->h₁.get? b=some o:=fun b o e=>hsb₁.extBut b o (below b (zAP e)).1 (zAG _ (hH2 ▸ zAG _ e));have hacc:∃ n,h₁.get? s.heap.objs.size=some { cls:=.type "list",data:=.seq ([]:jd).toArray n }:=⟨_,hsb₁.extBut _ _ hDC (zAG _ (hH2 ▸ zAQ _ rfl))⟩;obtain ⟨nD,hacc⟩:=hacc;have hf':∀ b∈fp,Wp X pins H b/\b<s.heap.objs.size:=fun b hb=>⟨hf b hb,by obtain ⟨o,e,_⟩:=T.obj 0 _ st b hb;exact zAP e⟩
 have hDn:H s.heap.objs.size=none:=I.hok.fresh (zAH _);obtain ⟨W,⟨m0,w0⟩,turn⟩:=q _ hDn;generalize hE:notedBy (model X.prog X.w) X.A (compEnvC scope cl H2.objs.size X.env) (fun e s'=>RR (.ref s.heap.objs.size) H2.objs.size (.error e) s')=EE;have I0:ZI (WC X (xs++ys) scope cl H2.objs.size s H fp EE) [] (Oy xs σ ix) (upd H s.heap.objs.size (.lst [])) { s with heap:=h₁,toks:=s.toks+([]:List (Str×Value)).length }:=
  EV I hf' sub jE hhas fo (zAH _) hCle hDC hns₁ old hacc
 have st1:tn 0 h₁:=T.keep _ _ _ st fun b _ o e=>old b o e;have fr1:∀ b∈fp,upd H s.heap.objs.size (.lst []) b=none:=fun b hb=>by rw [ZX (below b (hf' b hb).2).2];exact (hf b hb).1
 have stat:∀{H':Hp},(∀ b∈fp,H' b=none)->∀ b∈fp,Wp (WC X (xs++ys) scope cl H2.objs.size s H fp EE) [] H' b:=fun hn b hb=>
  ⟨hn b hb,(I0.ok.exf b hb).1,I0.ok.exfs b hb,.inl hb,(I0.ok.exf b hb).2,fun p hp=>absurd (show p∈([]:List (Addr×Obj)) from hp) (by simp)⟩
 have loop:∀ s₃:Shared,s₃={ s with heap:=h₁,toks:=s.toks+([]:List (Str×Value)).length } ->
   codeAny (model X.prog X.w) X.A (.compLoop (.ListComp elt [⟨tg,iter,ifs,0⟩] scope pos) 0 (.ref it) (.ref s.heap.objs.size) (compEnvC scope cl H2.objs.size X.env)) (RR (.ref s.heap.objs.size) H2.objs.size) s₃:=by
  rintro s₃ rfl;refine F9 (fun n s'=>∃ i σ' H',ZI (WC X (xs++ys) scope cl H2.objs.size s H fp EE) [] σ' H' s'/\(∃ os:St,os.length=xs.length/\σ'=os++ix.map fun i=>(σ[i]?).join)/\tn i s'.heap/\(∀ b∈fp,H' b=none)/\W i n H') ?_ m0 ⟨0,_,_,I0,⟨_,zAD _,rfl⟩,st1,fr1,w0⟩;rintro n s3 ⟨i,σ3,H3,I3,⟨o3,ho3,hσ3⟩,st3,fr3,w3⟩;rw [hE];rcases turn i n H3 w3 with ⟨stop,qn⟩ | ⟨go,step⟩
  ·refine Za (T.done (WC X (xs++ys) scope cl H2.objs.size s H fp EE) rfl rfl rfl hc i [] s3 σ3 H3 EE I3 (stat fr3) st3 stop) fun r s4 ⟨hr,I4⟩=>?_;subst hr;obtain ⟨m4,hn4,_⟩:=I4.loc;have Ix:ZI X pins σ H3 s4:=I.call' (s':=s4) (ch:=fp) I4.os I4.base I4.hok I4.bare fun b hb=>by
    obtain ⟨_,z1,_,z3,z4,z5⟩:=hf b hb;exact ⟨z3,z1,z4,z5⟩
   exact jY _ _ s4 H3 m4 hCle Ix (I.fpOk hCle I4.free) hn4 qn
  ·refine Za (T.item (WC X (xs++ys) scope cl H2.objs.size s H fp EE) rfl rfl rfl hc i [] s3 σ3 H3 EE I3 (stat fr3) st3 go) fun r s4 ⟨u,hr,h4⟩=>?_;subst hr;refine Za h4 fun _ s5 ⟨xv,H5,I5,r5,y5,st5,fr5⟩=>?_;have I5':=I5.pinned (stat fr5) (T.obj _ _ st5);have again:∀{σ7:St}{H7:Hp}{s7:Shared}{m':Nat},ZI (WC X (xs++ys) scope cl H2.objs.size s H fp EE) ([]++P9 fp s5.heap) σ7 H7 s7->(∃ os:St,os.length=xs.length/\σ7=os++ix.map fun i=>(σ[i]?).join)->m'<n->W (i+1) m' H7 ->
     ∃ m,m<n/\∃ i σ' H',ZI (WC X (xs++ys) scope cl H2.objs.size s H fp EE) [] σ' H' s7/\(∃ os:St,os.length=xs.length/\σ'=os++ix.map fun i=>(σ[i]?).join)/\tn i s7.heap/\(∀ b∈fp,H' b=none)/\W i m H':=fun{σ7 H7 s7 m'} I7 e7 hm w7=>by
    refine ⟨m',hm,i+1,σ7,H7,I7.unpinned,e7,T.keep _ _ _ st5 fun b hb o e=>(I7.pin (b,o) (zAk _ (zAk _ (NJ hb e)))).1,fun b hb=>?_,w7⟩;obtain ⟨o,e,d⟩:=T.obj _ _ st5 b hb;exact (I7.pin (b,o) (zAk _ (zAk _ (NJ hb e)))).2.1
   have stp:=step xv _ y5 o3 ho3;rw [<-hσ3] at stp;refine Za (hg _ _ _ _ _ _ s5 σ3 H5 xv u _ I5' r5 stp) fun _ s6 ⟨σ6,H6,I6,e6,q6⟩=>?_;refine Za (ht _ _ _ _ _ _ s6 _ _ _ I6 q6) fun ok s7 ⟨H7,I7,q7⟩=>?_
   cases ok with
   | false=>
    rw [if_neg zAF] at q7 ⊢;obtain ⟨m',hm,w7⟩:=q7;exact again I7 e6 hm w7
   | true=>
    rw [if_pos rfl] at q7 ⊢;refine Za (he _ _ _ _ _ _ s7 _ _ _ I7 q7) fun y s8 ⟨yv,H8,I8,r8,ys8,m',e8,z8,hm,w8⟩=>?_;refine Za (UH _ s8 _ H8 (.ref s.heap.objs.size) [yv] (.ref s.heap.objs.size) [y] (fun _ H9=>W (i+1) m' H9) I8 rfl (.cons r8 .nil) ⟨_,ys8,yv,rfl,rfl,e8,z8,w8⟩) fun _ s9 ⟨_,H9,I9,_,w9⟩=>?_;exact again I9 e6 hm w9
 exact codeAny_compStart_list (loop _ rfl) (T.self _ 0 _ _ _ st1 (loop _ rfl))
theorem ZKo{elt iter tg:Expr}(xs:List Str)(x:Str){g:TG}{ifs:List Expr}{scope:Scope}{pos:Pos}{wi:TI}{tt:TT}{te:TE}(ix:List Nat)(ys:List Str)(hc:X.calm=true)(hg:∀ C s H fp E,PG (WC X (xs++ys) scope (WB X.env scope.names []) C s H fp E) tg g)(hi:PI X tg iter wi)(ht:∀ C s H fp E,Qi (WC X (xs++ys) scope (WB X.env scope.names []) C s H fp E) ifs tt)(he:∀ C s H fp E,PE (WC X (xs++ys) scope (WB X.env scope.names []) C s H fp E) elt te)(fo:Z7 X scope ix ys)(hk:Pm X.env scope.names=true:=by rfl)(hb:Q6 scope x=true:=by rfl)(hs:∀ x,foldedSetIterable iter X.env x=pure x:=by intro _;rfl):
  PE X (.ListComp elt [⟨tg,iter,ifs,0⟩] scope pos) (Im xs.length g wi ix tt te):=by
 intro pins s σ H Q I h;have B:=ON hb;have F:=KS I.ok hk;rw [eval_ListComp];refine wpAny_comprehension_free (use:=none) rfl hs (KB F) B.kind B.names (Za (hi pins s σ H _ I h) fun v s1 h1=>Za h1 fun itv s2 h2=>?_);obtain ⟨it,fp,tn,J,H2,e,I2,T,st2,f2,q2⟩:=h2;subst e;refine JN (RR:=fun acc C=>compPost (model X.prog X.w) X.A X.xe none (EP X pins σ Q) acc C) hc hg ht he (JE F) B.kind B.cell (JG B.cell) fo I2 T st2 f2 q2 ?_;intro D C s' H' m hC Ix fC hn q;refine ⟨m,hn,fun h' sb=>⟨.ref D,H',?_,rfl,q⟩⟩;obtain ⟨f0,f1,_,f3,f4,f5⟩:=fC;exact Ix.turned (t':=s'.toks) (fun b o hb e=>(sb.2 b hb).trans e) f0 f1 f3 f4 f5
theorem EB{elt iter tg:Expr}(xs:List Str)(x:Str){g:TG}{y:Str}{py:Pos}{ifs:List Expr}{scope:Scope}{pos jV:Pos}{wi:TI}{tt:TT}{te:TE}{i:Nat}(ix:List Nat)(ys:List Str)(hN:X.N.Nodup)(hiN:X.N[i]? = some y)(hy:X.env.scope.names.lookup y=some .local)(hc:X.calm=true)(hg:∀ C s H fp E,PG (WC X (xs++ys) scope (WB X.env scope.names []) C s H fp E) tg g)(hi:PI X tg iter wi)(ht:∀ C s H fp E,Qi (WC X (xs++ys) scope (WB X.env scope.names []) C s H fp E) ifs tt)(he:∀ C s H fp E,PE (WC X (xs++ys) scope (WB X.env scope.names []) C s H fp E) elt te)(fo:Z7 X scope ix ys)(hsw:swapsWith (.ListComp elt [⟨tg,iter,ifs,0⟩] scope pos) (some (.Name y py)) jV.line X.env=pure true:=by rfl)(hk:Pm X.env scope.names=true:=by rfl)(hb:Q6 scope x=true:=by rfl)(hs:∀ x,foldedSetIterable iter X.env x=pure x:=by intro _;rfl):
  PS X (.Assign [.Name y py] (.ListComp elt [⟨tg,iter,ifs,0⟩] scope pos) jV) (JW i (Im xs.length g wi ix tt te)):=by
 intro pins s σ H D I h;have B:=ON hb;have F:=KS I.ok hk;rw [exec_Assign_Name_used _ _ _ _ hsw];refine wpAny_bind (wpAny_standAt (wpAny_bind ?_));show wpAny _ X.A (do let _<-comprehension (.ListComp elt [⟨tg,iter,ifs,0⟩] scope pos) scope X.env _ (newList []) false (eval iter X.env) (some (assign (.Name y py) X.env))) _ _ s
 refine wpAny_bind (wpAny_mono (wpAny_comprehension_free (use:=some (assign (.Name y py) X.env)) (Q:=fun _ s'=>SP X pins D .next s') rfl hs (KB F) B.kind B.names
  (Za (hi pins s σ H _ I h) fun v s1 h1=>Za h1 fun itv s2 h2=>?_)) (fun _ s' hq=>wpAny_pure (wpAny_pure hq)) fun _ _ e=>e)
 obtain ⟨it,fp,tn,J,H2,e,I2,T,st2,f2,q2⟩:=h2;subst e;refine JN (RR:=fun acc C=>compPost (model X.prog X.w) X.A X.xe (some (assign (.Name y py) X.env)) (fun _ s'=>SP X pins D .next s') acc C) hc hg ht he (JE F) B.kind B.cell (JG B.cell) fo I2 T st2 f2 q2 ?_;intro Dd C s' H' m hC Ix fC hn q;obtain ⟨f0,f1,_,f3,f4,f5⟩:=fC;show wpAny _ X.A (assign (.Name y py) X.env (.ref Dd)) _ _ _;refine wpAny_assign_Name (Hj Ix hN hiN (.inl hy) (v:=.ref Dd) rfl (fun s3 I3 ⟨a,sb,ha⟩=>?_) (.inr hy));have ne:C≠a:=by
  rcases ha with ha | ha
  ·rw [ha];exact f1
  ·exact fun z=>f4 y a ha z.symm
 refine ⟨m,hn.sameBut sb ne,fun h' sb'=>⟨_,H',?_,q⟩⟩;exact I3.turned (t':=s3.toks) (fun b o hb e=>(sb'.2 b hb).trans e) f0 f1 f3 f4 f5
theorem VT.toT{J:It}{ix:List Nat}{tt:TT}{te:TE}{Q:VK}(h:VT J σ ix tt te H Q):NS J 1 (QM 0) σ ix tt te H Q:=fun D hD=>by
 obtain ⟨W,h0,hs⟩:=h D hD;refine ⟨W,h0,fun i m H hw=>(hs i m H hw).imp id fun q=>⟨q.1,fun x H' y os ho=>?_⟩⟩
 match os,ho with
 | [_],_=>exact ⟨⟨[some x],rfl,rfl⟩,q.2 x H' y⟩
def F5(wi:TI):TI:=fun σ H K=>∃ K0:It->Hp->Prop,wi σ H K0/\∀ J H1,K0 J H1->K J H1
theorem PI.more{tg iter:Expr}{wi:TI}(h:PI X tg iter wi):PI X tg iter (F5 wi):=fun pins s σ H R I ⟨K0,hw,f⟩=>
 wpAny_mono (h pins s σ H K0 I hw) (fun _ _ z=>wpAny_mono z (fun _ _ ⟨it,fp,tn,J,H',a,b,c,d,e,r⟩=>⟨it,fp,tn,J,H',a,b,c,d,e,f _ _ r⟩) fun _ _ z=>z) fun _ _ z=>z
theorem Wx{elt iter:Expr}{x:Str}{px:Pos}{ifs:List Expr}{scope:Scope}{pos:Pos}{wi:TI}{tt:TT}{te:TE}(ix:List Nat)(ys:List Str)(hc:X.calm=true)(hi:PI X (.Name x px) iter wi)(ht:∀ C s H fp E,Qi (WC X (x :: ys) scope (WB X.env scope.names []) C s H fp E) ifs tt)(he:∀ C s H fp E,PE (WC X (x :: ys) scope (WB X.env scope.names []) C s H fp E) elt te)(fo:Z7 X scope ix ys)(hk:Pm X.env scope.names=true:=by rfl)(hb:Q6 scope x=true:=by rfl)(jL:(x :: ys).Nodup:=by decide +kernel)(hs:∀ x,foldedSetIterable iter X.env x=pure x:=by intro _;rfl):
  PE X (.ListComp elt [⟨.Name x px,iter,ifs,0⟩] scope pos) (Hf wi ix tt te):=by
 intro pins s σ H Q I h;have hl:(relabel scope X.env).names.lookup x=some .local:=lookup_relabel_local (ON hb).own;exact ZKo [x] x (g:=QM 0) ix ys hc (fun _ _ _ _ _=>O1 (i:=0) jL rfl (Or.inl hl) (Or.inr hl)) (PI.more hi) ht he fo hk hb hs pins s σ H Q I ⟨_,h,fun _ _ z=>VT.toT z⟩
theorem IH{elt iter:Expr}{x y:Str}{px py:Pos}{ifs:List Expr}{scope:Scope}{pos jV:Pos}{wi:TI}{tt:TT}{te:TE}{i:Nat}(ix:List Nat)(ys:List Str)(hN:X.N.Nodup)(hiN:X.N[i]? = some y)(hy:X.env.scope.names.lookup y=some .local)(hc:X.calm=true)(hi:PI X (.Name x px) iter wi)(ht:∀ C s H fp E,Qi (WC X (x :: ys) scope (WB X.env scope.names []) C s H fp E) ifs tt)(he:∀ C s H fp E,PE (WC X (x :: ys) scope (WB X.env scope.names []) C s H fp E) elt te)(fo:Z7 X scope ix ys)(hsw:swapsWith (.ListComp elt [⟨.Name x px,iter,ifs,0⟩] scope pos) (some (.Name y py)) jV.line X.env=pure true:=by rfl)(hk:Pm X.env scope.names=true:=by rfl)(hb:Q6 scope x=true:=by rfl)(jL:(x :: ys).Nodup:=by decide +kernel)(hs:∀ x,foldedSetIterable iter X.env x=pure x:=by intro _;rfl):
  PS X (.Assign [.Name y py] (.ListComp elt [⟨.Name x px,iter,ifs,0⟩] scope pos) jV) (JW i (Hf wi ix tt te)):=by
 intro pins s σ H D I h;have hl:(relabel scope X.env).names.lookup x=some .local:=lookup_relabel_local (ON hb).own;exact EB [x] x (g:=QM 0) ix ys hN hiN hy hc (fun _ _ _ _ _=>O1 (i:=0) jL rfl (Or.inl hl) (Or.inr hl)) (PI.more hi) ht he fo hsw hk hb hs pins s σ H D I ⟨_,h,fun _ _ z=>VT.toT z⟩
end
section
variable{X:Cx}
def Dq(K:zAA):je->Hp->VK->Prop:=fun xs H Q=>∃ x n t b,xs=[x,.ty n]/\Ym K H x t/\zAZ K t (.type n)=some b/\Q (.bl b) H
theorem U4:Wr X (.builtin "isinstance") (Dq X.K):=by
 intro pins s σ H xs us Q I r h;obtain ⟨x,n,t,b,rfl,ty,e,q⟩:=h;obtain ⟨u,w',rfl,rx,rn⟩:=OM r;cases (show w'=Value.type n from rn);exact Cw I rx ty e fun tk=>⟨.bl b,H,I.tok tk,rfl,q⟩
theorem KJ{K:zAA}:zAZ K (.type "bool") (.type "bool")=some true:=by kernel_rfl
theorem FY{K:zAA}:zAZ K (.type "int") (.type "bool")=some false:=by kernel_rfl
theorem C5{K:zAA}:zAZ K (.type "str") (.type "bool")=some false:=by kernel_rfl
theorem Fw{K:zAA}:zAZ K (.type "tuple") (.type "bool")=some false:=by kernel_rfl
theorem Nd{K:zAA}:zAZ K (.type "int") (.type "int")=some true:=by kernel_rfl
theorem Nz{K:zAA}:zAZ K (.type "str") (.type "int")=some false:=by kernel_rfl
theorem Nl{K:zAA}:zAZ K (.type "tuple") (.type "int")=some false:=by kernel_rfl
theorem N8{K:zAA}:zAZ K (.type "str") (.type "str")=some true:=by kernel_rfl
theorem Mh{K:zAA}:zAZ K (.type "tuple") (.type "str")=some false:=by kernel_rfl
theorem BO{K:zAA}:zAZ K (.type "tuple") (.type "tuple")=some true:=by kernel_rfl
theorem Vy:bootBuiltins "isinstance" = some (.builtin "isinstance"):=by decide +kernel
theorem NX:bootBuiltins "all" = some (.builtin "all"):=by decide +kernel
theorem P8:bootBuiltins "max" = some (.builtin "max"):=by decide +kernel
theorem IO:bootBuiltins "min" = some (.builtin "min"):=by decide +kernel
theorem MR:bootBuiltins "abs" = some (.builtin "abs"):=by decide +kernel
theorem XT:bootBuiltins "len" = some (.builtin "len"):=by decide +kernel
theorem K7:bootBuiltins "bool" = some (.type "bool"):=by decide +kernel
theorem QZ:bootBuiltins "int" = some (.type "int"):=by decide +kernel
theorem Lf:bootBuiltins "str" = some (.type "str"):=by decide +kernel
theorem P3:bootBuiltins "tuple" = some (.type "tuple"):=by decide +kernel
theorem UK:bootBuiltins "list" = some (.type "list"):=by decide +kernel
theorem HU:YX X (compareOp .LtE) (fun x y H Q=>∃ i j,x=.str i/\y=.str j/\Q (.bl (!decide (j.cps.toList<i.cps.toList))) H):=by
 intro pins s σ H x y v u Q I rx ry h;obtain ⟨i,j,rfl,rfl,q⟩:=h;obtain ⟨t,rfl⟩:=rx;obtain ⟨t',rfl⟩:=ry;exact PySem.P.le_str (Ye I q (by simp))
theorem Gx(hu:X.A.units<cLine):YX X (compareOp .Eq) (fun x y H Q=>∃ p b xs,x=.ref p/\y=.ref b/\ZK X.K H p xs/\ZK X.K H b []/\Q (.bl xs.isEmpty) H):=by
 intro pins s σ H x y v u Q I rx ry h;obtain ⟨p,b,xs,rfl,rfl,h1,h2,q⟩:=h;cases rx;cases ry;obtain ⟨ji,r1,p1,z1⟩:=I.list h1;obtain ⟨jp,r2,p2,z2⟩:=I.list h2;have l1:=r1.length;have l2:=r2.length;have e2:jp=[]:=zBO (by rw [<-l2];rfl)
 subst e2
 cases xs with
 | nil=>
  have e1:ji=[]:=zBO (by rw [<-l1];rfl)
  subst e1;exact PySem.SeqAt.eq_listAt (e:=fun _=>true) p1.isList p2.isList rfl hu (fun j h1 _=>absurd h1 (by simp)) (Ye I q (by simp))
 | cons x r=>exact PySem.SeqAt.eq_list_lengthsAt p1.isList p2.isList (by simp;intro e;subst e;simp at l1) hu (Ye I q rfl)
def ZPV(i j:Int):Prop:=0<j/\j.natAbs.log2<9000
theorem Fo:YX X (binaryOp .FloorDiv) (rI ZPV fun i j=>.int (i / j)):=OI fun i j _ _ _ _ _ hc q=>by
 have h1:(0:Int)<j:=hc.1;exact floordiv_int (by lia) (by rw [zDI i (by lia)];exact q) (.inl (PyProof.noPylong_of_log2 hc.2))
theorem Mt(hc:X.calm=true):Wr X (.builtin "all") (fun xs H Q=>∃(p:Addr)(bs:List Bool),xs=[.ref p]/\ZK X.K H p (bs.map V.bl)/\Q (.bl (bs.all id)) H):=by
 intro pins s σ H xs us Q I r h;obtain ⟨p,bs,rfl,hq,q⟩:=h;obtain ⟨u,rfl,rx⟩:=VI r;cases rx;obtain ⟨ji,rv,pl,hz⟩:=I.list hq;have hl:=rv.length;have hlt:p<s.heap.objs.size:=by obtain ⟨_,e,_⟩:=pl.isList;exact zAP e
 have jA:p≠s.heap.objs.size:=zAg hlt;have hh:=I.ok.hd hc;have tr:∀(i:Nat)(v:Value),ji.toArray[i]? = some v->v=.bool (bs.getD i true):=fun i v hv=>by
  have hv':ji[i]? = some v:=by simpa using hv
  have hi:i<ji.length:=(zAK.mp hv').1;have hb:i<bs.length:=by rw [zAD] at hl;lia
  obtain ⟨u,e1,e2⟩:=rv.get (i:=i) (x:=.bl bs[i]) (by rw [zAM,zAE hb];rfl)
  rw [hv'] at e1;cases e1;rw [show v=Value.bool bs[i] from e2,zAC,zAE hb];rfl
 refine call_all_walk (wpAny_pyIter_list pl.isList ?_);refine ⟨_,_,_,_,_,_,(fun i=>bs.getD i true),rfl,Walks.list (A:=X.A.in1) hh s.heap.objs.size p jA ji.toArray,⟨⟨_,zAQ _ rfl,rfl,rfl⟩,pl.isList.push _⟩,fun i v s' Q' E' hP hQ=>?_,fun h' tk hk=>?_⟩
 ·rw [tr i v hP];exact wpAny_truthy_bool hQ
 ·have e:(zAi ji.toArray.size).all (fun i=>bs.getD i true)=bs.all id:=by
   rw [zAL,<-hl,zAD];have e2:bs.all id=((zAi bs.length).map fun i=>bs.getD i true).all id:=by rw [range_getD]
   rw [e2,zCu];rfl
  rw [e];refine ⟨.bl (bs.all id),H,I.kept (t':=tk) fun b o eb=>hk b o ?_ (zAG _ eb),rfl,q⟩;intro hm;exact absurd (zAP eb) (by rw [zAS.mp hm];exact zBc _)
end
def Ve(b:Int)(l:List Int):Int:=l.foldl (fun a c=>if c > a then c else a) b
def QH(d:Int):List Int->Int
 | []=>d
 | x :: r=>Ve x r
section
variable{prog:Program}{w:World}{A:Around}{R:Result->Shared->Prop}
theorem D3(hh:A.handled=none){I l S:Addr}{ji:jd}{ns:List Int}{kw:List (Str×Value)}(hSI:S≠I)(hSl:S≠l)(hlI:l≠I)(hi:IntsAre ji ns):
  ∀(k j:Nat)(s:Shared)(b:Int)(tb:Tok)(c:Nat),ji.length - j=k->j<=ji.length->s.heap.IsListIter I l j->s.heap.IsList l ji.toArray->s.heap.get? S=some { cls:=.type "list",dict:=none,data:=.seq #[.int b tb,.int b tb] c,slots:=#[] } ->
   (∀ t h' tk,(∀ a o,a≠I->a≠S->s.heap.get? a=some o->h'.get? a=some o)->R (.ok (.ret (.int (Ve b (ns.drop j)) t))) { s with heap:=h',toks:=tk }) ->
   codeAny (model prog w) A (.builtin "max.loop" ⟨[.ref I,.none,.ref S],kw⟩) R s:=by
 have nm:(toString "max" ++ toString ".loop" : String) = "max.loop" :=by decide
 have W:=Walks.list (prog:=prog) (w:=w) (A:=A.in1) hh I l hlI ji.toArray;have hlen:=IntsAre.length hi;intro k
 induction k with
 | zero=>
  intro j s b tb c hk hj st hl hS hR;have hn:j=ji.toArray.size:=by rw [zAL];lia
  refine codeAny_builtin zCK ?_;rw [Around.under_plainId zBJ _];show wpAny _ A.in1 (seqItems? (.ref S) >>= _) _ _ s;refine wpAny_bind (wpAny_seqItems hS rfl ?_);show wpAny _ A.in1 (tryCatch (pyNext (.ref I)) _ >>= _) _ _ s;refine wpAny_bind (wpAny_tryCatch (W.done s _ _ (by rw [<-hn];exact ⟨st,hl⟩) fun h' tk hk'=>?_))
  have hS':=hk' S _ (by simpa using hSI) hS
  show wpAny _ A.in1 (updateSeq S (fun _=>#[]) >>= _) _ _ _;refine wpAny_bind (wpAny_updateSeq hS' rfl (wpAny_bind (wpAny_letGo (wpAny_pure ?_))));have q:=hR tb (h'.update S (Obj.mapSeq fun _=>#[])) tk fun a o ha hb e=>(zAq _ _ (Ne.symm hb)).trans (hk' a o (by simpa using ha) e)
  rw [List.drop_eq_nil_of_le (by rw [<-hlen];rw [zAL] at hn;lia)] at q
  exact q
 | succ k ih=>
  intro j s b tb c hk hj st hl hS hR;have hn:j<ji.toArray.size:=by rw [zAL];lia
  refine codeAny_builtin zCK ?_;rw [Around.under_plainId zBJ _];show wpAny _ A.in1 (seqItems? (.ref S) >>= _) _ _ s;refine wpAny_bind (wpAny_seqItems hS rfl ?_);show wpAny _ A.in1 (tryCatch (pyNext (.ref I)) _ >>= _) _ _ s;refine wpAny_bind (wpAny_tryCatch (W.item j s _ _ hn ⟨st,hl⟩ fun v h' tk hP st' hk'=>?_));have hS':=hk' S _ (by simpa using hSI) hS
  have hjl:j<ns.length:=by rw [<-hlen];rw [zAL] at hn;exact hn
  obtain ⟨tv,hv⟩:∃ t,v=.int ns[j] t:=by
   have r:ZP (ns.map V.int) ji:=Oo hi;obtain ⟨u,e1,t,e2⟩:=r.get (i:=j) (x:=.int ns[j]) (by rw [zAM,zAE hjl];rfl)
   have hP':ji[j]? = some v:=by simpa using hP
   rw [hP'] at e1;cases e1;exact ⟨t,e2⟩
  subst hv;have hd:ns.drop j=ns[j] :: ns.drop (j+1):=zCH hjl;show wpAny _ A.in1 (tryCatch (holding [_,_] (richCompare .Gt (.int ns[j] tv) (.int b tb) >>= _)) _ >>= _) _ _ _;refine wpAny_bind (wpAny_tryCatch (wpAny_holding (wpAny_bind (CmpOf.ints_gt (P:=fun i v=>(i=0/\v=.int ns[j] tv)\/(i=1/\v=.int b tb)) (fun i=>if i=0 then ns[j] else b) (fun i v hv=>?_) 0 1 _ _ _ _ _ (.inl ⟨rfl,rfl⟩) (.inr ⟨rfl,rfl⟩) ?_))))
  ·rcases hv with ⟨rfl,rfl⟩ | ⟨rfl,rfl⟩
   ·exact ⟨tv,rfl⟩
   ·exact ⟨tb,rfl⟩
  refine wpAny_bind (wpAny_holding (wpAny_truthy_bool (wpAny_bind (wpAny_letGo (wpAny_pure ?_)))));by_cases hb:ns[j] > b
  ·simp only [if_pos,hb,decide_true,Nat.one_ne_zero,if_false,↓reduceIte];refine wpAny_bind (wpAny_updateSeq hS' rfl (wpAny_bind (wpAny_letGo ?_)));rw [nm];refine wpAny_pure ⟨plainId_quiet zBJ _,ih (j+1) _ ns[j] tv _ (by lia) (by lia) ?_ ?_ (zA5 _ hS' rfl) fun t h2 tk2 hk2=>?_⟩
   ·obtain ⟨o,e,r⟩:=st'.1;exact ⟨o,(zAq _ _ hSI).trans e,r⟩
   ·obtain ⟨o,e,r⟩:=st'.2;exact ⟨o,(zAq _ _ hSl).trans e,r⟩
   ·have q:=hR t h2 tk2 fun a o ha hs e=>hk2 a o ha hs ((zAq _ _ (Ne.symm hs)).trans (hk' a o (by simpa using ha) e))
    rw [hd] at q;have e2:Ve b (ns[j] :: ns.drop (j+1))=Ve ns[j] (ns.drop (j+1)):=by unfold Ve;rw [zDC,if_pos hb]
    rw [e2] at q;exact q
  ·simp only [hb,decide_false,Nat.one_ne_zero,if_false,zA3,↓reduceIte];refine wpAny_bind (wpAny_letGo ?_);rw [nm];refine wpAny_pure ⟨plainId_quiet zBJ _,ih (j+1) _ b tb c (by lia) (by lia) st'.1 st'.2 hS' fun t h2 tk2 hk2=>?_⟩
   have q:=hR t h2 tk2 fun a o ha hs e=>hk2 a o ha hs (hk' a o (by simpa using ha) e)
   rw [hd] at q;have e2:Ve b (ns[j] :: ns.drop (j+1))=Ve b (ns.drop (j+1)):=by unfold Ve;rw [zDC,if_neg hb]
   rw [e2] at q;exact q
end
theorem FU(a v:Value):argsOk "max" ⟨[a],[(zAy "default",v)]⟩:=by unfold argsOk;kernel_rfl
section
variable{X:Cx}
theorem A6(hc:X.calm=true){pins:List (Addr×Obj)}{σ:St}{H:Hp}{s:Shared}{Q:VK}{l:Addr}{ns:List Int}{d:Int}{td:Tok}(I:ZI X pins σ H s)(hq:ZK X.K H l (ns.map V.int))(q:Q (.int (QH d ns)) H):
  wpAny (model X.prog X.w) X.A (call (.builtin "max") [.ref l] [(zAy "default",.int d td)]) (EP X pins σ Q) X.xe s:=by
 have nm:(toString "max" ++ toString ".loop" : String) = "max.loop" :=by decide
 obtain ⟨ji,rv,pl,hz⟩:=I.list hq;have hi:IntsAre ji ns:=Ir rv;have hlen:=IntsAre.length hi;have hh:=I.ok.hd hc;have hlt:l<s.heap.objs.size:=by obtain ⟨_,e,_⟩:=pl.isList;exact zAP e
 refine PyProof.Rows.kmk_tree PySem.F.kind_max PySem.F.plain_max PySem.F.entry_max (FU _ _) ?_;show wpAny _ X.A.in1 (Builtin.Builtins.bindParams "max" ["key","default"] 0 ⟨[],[(zAy "default",.int d td)]⟩ >>= _) _ _ s;refine wpAny_bind (wpAny_of_eq (show Builtin.Builtins.bindParams "max" ["key","default"] 0 ⟨[],[(zAy "default",.int d td)]⟩=pure [none,some (.int d td)] from rfl) ?_);refine wpAny_bind (wpAny_pure (wpAny_bind (wpAny_pyIter_list pl.isList (wpAny_bind (wpAny_newList ?_ (zAd _))))));rw [nm];have szI:(s.heap.push { cls:=.type "list_iterator",data:=.fields #[.ref l,.int 0 0] }).objs.size=s.heap.objs.size+1:=zBq ..;have hlI:l≠s.heap.objs.size:=zAg hlt;have hSI:(s.heap.push { cls:=.type "list_iterator",data:=.fields #[.ref l,.int 0 0] }).objs.size≠s.heap.objs.size:=by rw [szI];exact zCG (zBe _)
 have hSl:(s.heap.push { cls:=.type "list_iterator",data:=.fields #[.ref l,.int 0 0] }).objs.size≠l:=by rw [szI];exact zCG (zB0 hlt)
 generalize hS:(s.heap.push { cls:=.type "list_iterator",data:=.fields #[.ref l,.int 0 0] }).objs.size=S at *;have old:∀ a o,s.heap.get? a=some o->((s.heap.push { cls:=.type "list_iterator",data:=.fields #[.ref l,.int 0 0] }).push { cls:=.type "list",data:=.seq ([]:jd).toArray }).get? a=some o:=fun a o e=>zAG _ (zAG _ e);have gI:((s.heap.push { cls:=.type "list_iterator",data:=.fields #[.ref l,.int 0 0] }).push { cls:=.type "list",data:=.seq ([]:jd).toArray }).IsListIter s.heap.objs.size l 0:=⟨_,zAG _ (zAQ _ rfl),rfl,rfl⟩;have gL:((s.heap.push { cls:=.type "list_iterator",data:=.fields #[.ref l,.int 0 0] }).push { cls:=.type "list",data:=.seq ([]:jd).toArray }).IsList l ji.toArray:=(pl.isList.push _).push _;have gS:((s.heap.push { cls:=.type "list_iterator",data:=.fields #[.ref l,.int 0 0] }).push { cls:=.type "list",data:=.seq ([]:jd).toArray }).get? S=some { cls:=.type "list",dict:=none,data:=.seq #[] 0,slots:=#[] }:=by
  rw [<-hS];exact zAQ _ rfl
 generalize ((s.heap.push { cls:=.type "list_iterator",data:=.fields #[.ref l,.int 0 0] }).push { cls:=.type "list",data:=.seq ([]:jd).toArray })=h2 at *;refine wpAny_pure ⟨plainId_quiet zBJ _,?_⟩;have W:=Walks.list (prog:=X.prog) (w:=X.w) (A:=X.A.in1) hh s.heap.objs.size l hlI ji.toArray;refine codeAny_builtin zCK ?_;rw [Around.under_plainId zBJ _];show wpAny _ X.A.in1 (seqItems? (.ref S) >>= _) _ _ _;refine wpAny_bind (wpAny_seqItems gS rfl ?_);show wpAny _ X.A.in1 (tryCatch (pyNext (.ref s.heap.objs.size)) _ >>= _) _ _ _;have nS:∀ a o,s.heap.get? a=some o->a≠S:=fun a o e z=>by
  have h:=zAP e;rw [z,szI] at h;exact absurd h (Nat.not_lt.mpr (zCA _))
 have keepI:∀{h':Heap}{tk:Nat}{v:Int}{t:Tok},(∀ a o,a≠s.heap.objs.size->a≠S->h2.get? a=some o->h'.get? a=some o)->v=QH d ns->EP X pins σ Q (.int v t) { s with heap:=h',toks:=tk }:=fun{h' tk v t} k e=>by
  subst e;exact ⟨.int (QH d ns),H,I.kept (t':=tk) fun a o e=>k a o (zAg (zAP e)) (nS a o e) (old a o e),⟨t,rfl⟩,q⟩
 cases ns with
 | nil=>
  have z:ji=[]:=zBO hlen;subst z;refine wpAny_bind (wpAny_tryCatch (W.done _ _ _ ⟨gI,gL⟩ fun h' tk hk'=>?_));show wpAny _ X.A.in1 (rule _ >>= _) _ _ _;refine wpAny_bind (wpAny_rule (wpAny_pure ?_));exact keepI (fun a o ha hs e=>hk' a o (by simpa using ha) e) rfl
 | cons x r=>
  have zl:0<ji.toArray.size:=by rw [zAL,hlen];exact Nat.succ_pos _
  refine wpAny_bind (wpAny_tryCatch (W.item 0 _ _ _ zl ⟨gI,gL⟩ fun v h' tk hP st' hk'=>?_));have hS':=hk' S _ (by simpa using hSI) gS
  obtain ⟨tv,hv⟩:∃ t,v=.int x t:=by
   obtain ⟨u,e1,t,e2⟩:=rv.get (i:=0) (x:=.int x) rfl;have hP':ji[0]? = some v:=by simpa using hP
   rw [hP'] at e1;cases e1;exact ⟨t,e2⟩
  subst hv;show wpAny _ X.A.in1 (updateSeq S (fun _=>#[.int x tv,.int x tv]) >>= _) _ _ _;refine wpAny_bind (wpAny_updateSeq hS' rfl ?_);rw [nm];refine wpAny_pure ⟨plainId_quiet zBJ _,D3 hh hSI hSl hlI hi _ 1 _ x tv _ rfl (by rw [hlen];exact Nat.succ_le_succ (zAd _)) ?_ ?_ (zA5 _ hS' rfl) fun t h3 tk3 hk3=>?_⟩
  ·obtain ⟨o,e,r⟩:=st'.1;exact ⟨o,(zAq _ _ hSI).trans e,r⟩
  ·obtain ⟨o,e,r⟩:=st'.2;exact ⟨o,(zAq _ _ hSl).trans e,r⟩
  ·exact keepI (fun a o ha hs e=>hk3 a o ha hs ((zAq _ _ (Ne.symm hs)).trans (hk' a o (by simpa using ha) e))) rfl
def AN(t tk:TA)(K:zAA):TE:=fun σ H Q=>t σ H fun vs H1=>tk σ H1 fun zs H2=>∃(l:Addr)(ns:List Int)(d:Int),vs=[.ref l]/\zs=[.int d]/\ZK K H2 l (ns.map V.int)/\Q (.int (QH d ns)) H2
theorem D7{p pos kp:Pos}{e dv:Expr}{t tk:TA}(hc:X.calm=true)(hg:Gl X "max")(hm:X.mg "max" = none)(ha:PA X [e] t)(hk:PK X [⟨some (zAy "default"),dv,kp⟩] tk)(he:backTo pos (starEach [e] X.env)=(false,eval e X.env) :: backTo pos (starEach [] X.env):=by rfl)(jC:(backTo pos (starEach [e] X.env)).any (·.1)=false:=by rfl):
  PE X (.Call (.Name "max" p) [e] [⟨some (zAy "default"),dv,kp⟩] pos) (AN t tk X.K):=by
 intro pins s σ H Q I h;refine wpAny_Call_Name_kw (Qo I hg hm P8 (callWith_kw (Za (ha pos pins s σ H _ I h) fun us s1 ⟨vs,H1,I1,r,q⟩=>?_) he jC));refine Za (hk pos pins s1 σ H1 _ I1 q) fun ws s2 ⟨zs,H2,I2,rz,l,ns,d,e1,e2,hq,q2⟩=>?_;subst e1 e2;obtain ⟨u,rfl,ru⟩:=VI r;obtain ⟨u2,rfl,t2,rfl⟩:=VI rz;cases ru;exact A6 hc I2 hq q2
end
def JK(x:Str):It:=⟨fun i _=>i<x.cps.size,fun i H v H'=>H'=H/\∃ c,x.cps[i]? = some c/\v=.str ⟨#[c]⟩,fun i _=>i=x.cps.size⟩
theorem JY{P:Program}{w:World}{K:zAA}{tg:Expr}(ty:String)(hty:["enumerate","zip","dict_itemiterator","dict_reverseitemiterator","odict_iterator","itertools.zip_longest","itertools.pairwise"].contains ty=false)(x:Str)(t:Tok)(it:Addr)(W:∀ A:Around,A.handled=none->Walks P w A it [it] [it] x.cps.size (SignAt x) (fun i h=>h.IsStrIter it ty x t i))(self:∀ (A:Around) (i:Nat) (s:Shared) (Q:ja) (E:ja),s.heap.IsStrIter it ty x t i->Q (.ref it) s->wpAny (model P w) A (pyIter (.ref it)) Q E s):
  V3 P w K tg (JK x) [it] it (fun i h=>h.IsStrIter it ty x t i) where
 mem:=by simp
 obj:=fun i h st b hb=>by
  have e:b=it:=by simpa using hb
  subst e;obtain ⟨o,e,c,d⟩:=st;exact ⟨o,e,fun v z=>by rw [d] at z;cases z⟩
 keep:=fun i h h' ⟨o,e,r⟩ k=>⟨o,k it (by simp) o e,r⟩
 item:=by
  intro X hP hw hK hc i pins s σ H E I hf st hg;subst hP hw hK;obtain ⟨f0,f1,f2,f3,f4,f5⟩:=hf it (by simp)
  refine (W X.A (I.ok.hd hc)).item i s _ _ hg st fun v h' tk hv st' kk=>?_;obtain ⟨c,u,hx,rfl⟩:=hv;have I1:ZI X pins σ H { s with heap:=h',toks:=tk }:=I.turned (fun b o hb e=>kk b o (by simpa using hb) e) f0 f1 f3 f4 f5
  obtain ⟨o,e,cl,d⟩:=id st';exact ⟨_,rfl,Ot (s:={ s with heap:=h',toks:=tk }) e cl d hty ⟨.str ⟨#[c]⟩,H,I1,⟨u,rfl⟩,⟨rfl,c,hx,rfl⟩,st',fun b hb=>(hf b hb).1⟩⟩
 done:=by
  intro X hP hw hK hc i pins s σ H E I hf st hg;subst hP hw hK;obtain ⟨f0,f1,f2,f3,f4,f5⟩:=hf it (by simp)
  have hi:i=x.cps.size:=hg;subst hi;exact (W X.A (I.ok.hd hc)).done s _ _ st fun h' tk kk=>⟨rfl,I.turned (fun b o hb e=>kk b o (by simpa using hb) e) f0 f1 f3 f4 f5⟩
 self:=self
section
variable{X:Cx}{tg:Expr}
def GN(tl:TE):TI:=fun σ H R=>tl σ H fun v H1=>∃ x,v=.str x/\R (JK x) H1
theorem Db{l:Expr}{tl:TE}(hl:PE X l tl):PI X tg l (GN tl):=by
 intro pins s σ H R I h;refine Za (hl pins s σ H _ I h) fun v s1 ⟨z,H1,I1,r1,x,e,q⟩=>?_;subst e;obtain ⟨t,rfl⟩:=r1;have fp:∀ b∈[s1.heap.objs.size],Wp X pins H1 b:=fun b hb=>by
  rw [zAS.mp hb];exact I1.fpOk (zAH _) (I1.hok.fresh (zAH _))
 cases ha:x.cps.all (· < 128)
 ·exact wpAny_pyIter_wide ha ⟨s1.heap.objs.size,[s1.heap.objs.size],_,_,H1,rfl,I1.kept (t':=s1.toks) fun b o e=>zAG _ e,
   JY "str_iterator" (by decide) x t _ (fun A hA=>Walks.strWide hA _ x t) (fun A i s Q E st h=>wpAny_pyIter_striter_wide st h),⟨_,zAQ _ rfl,rfl,rfl⟩,fp,q⟩
 ·exact wpAny_pyIter_ascii ha ⟨s1.heap.objs.size,[s1.heap.objs.size],_,_,H1,rfl,I1.kept (t':=s1.toks) fun b o e=>zAG _ e,
   JY "str_ascii_iterator" (by decide) x t _ (fun A hA=>Walks.strAscii hA _ x t) (fun A i s Q E st h=>wpAny_pyIter_striter_ascii st h),⟨_,zAQ _ rfl,rfl,rfl⟩,fp,q⟩
end
section
variable{σ:St}{H:Hp}{ix:List Nat}{te:TE}{Q:VK}{K:zAA}
theorem Vb{J:It}{n:Nat}(item:Nat->V->Prop)(Pv:Addr->Nat->je->Hp->Prop)(hn:n<sizeLine)(hgo:∀ D i ys H,i<n->Pv D i ys H->J.go i H)(hy:∀ D i ys H x H',i<n->Pv D i ys H->J.yld i H x H'->H'=H/\item i x)(jX:∀ D ys H,Pv D n ys H->J.stop n H)(h0:∀ D,H D=none->Pv D 0 [] (upd H D (.lst [])))(step:∀ D i ys H x,H D=some (.lst ys)->ys.length<=i->i<n->item i x->Pv D i ys H->∀ R:VK,(∀ y H3,H3 D=some (.lst ys)->Pv D (i+1) (ys++[y]) (upd H3 D (.lst (ys++[y])))->R y H3)->te (Pn σ ix x) H R)(fin:∀ D ys H,H D=some (.lst ys)->Pv D n ys H->Q (.ref D) H):VT J σ ix NU te H Q:=by
 intro D hD;refine ⟨fun i m H=>m=n - i/\i<=n/\∃ ys,H D=some (.lst ys)/\ys.length<=i/\Pv D i ys H,⟨n,rfl,zAd _,[],ZN,zAH _,h0 D hD⟩,?_⟩;rintro i m H ⟨rfl,hi,ys,e,hl,p⟩;by_cases hlt:i<n
 ·refine .inr ⟨hgo D i ys H hlt p,fun x H' y=>?_⟩;obtain ⟨rfl,it⟩:=hy D i ys H x H' hlt p y;unfold NU;dsimp only;rw [if_pos rfl];refine step D i ys _ x e hl hlt it p _ fun y H3 e3 p3=>?_;exact ⟨ys,n - (i+1),e3,by lia,by lia,rfl,hlt,ys++[y],ZN,by rw [zAI,zBM];lia,p3⟩
 ·have e':i=n:=by lia
  subst e';exact .inl ⟨jX D ys H p,fin D ys H e p⟩
end
end L2
namespace Tw
open PySem
inductive KT where
 | int (i:Int)
 | str (x:Str)
 | tup (l:List KT)
mutual
def KT.depth:KT->Nat
 | .int _=>0
 | .str _=>0
 | .tup l=>1+depthL l
def depthL:List KT->Nat
 | []=>0
 | t :: r=>max t.depth (depthL r)
end
mutual
def KT.size:KT->Nat
 | .int _=>1
 | .str _=>1
 | .tup l=>1+sizeL l
def sizeL:List KT->Nat
 | []=>0
 | t :: r=>t.size+sizeL r
end
def V9(c:Nat):Bool:=decide (32<=c)&&decide (c<=126)
def UN(x:Str):Bool:=decide (x.length<=40)&&x.cps.toList.all V9
mutual
def KT.fits:KT->Nat->Bool
 | .int i,_=>decide (i.natAbs<10 ^ 60)
 | .str x,_=>UN x
 | .tup l,r=>decide (0<r)&&(decide (l.length<=4)&&fitsL l (r - 1))
def fitsL:List KT->Nat->Bool
 | [],_=>true
 | t :: l,r=>t.fits r&&fitsL l r
end
theorem NC(r:Nat):∀ l:List KT,fitsL l r=l.all fun t=>t.fits r
 | []=>by simp [fitsL]
 | t :: l=>by rw [fitsL,zCN,NC r l]
mutual
theorem VU:∀(t:KT)(r:Nat),t.fits r=true->t.depth<=r
 | .int _,r,_=>by rw [KT.depth];exact zAd _
 | .str _,r,_=>by rw [KT.depth];exact zAd _
 | .tup l,r,h=>by
  rw [KT.fits,zAR,zAR] at h;obtain ⟨h1,_,h3⟩:=h;have h1':0<r:=of_decide_eq_true h1;have:=fitsL_depth l (r - 1) h3;rw [KT.depth]
  lia
theorem fitsL_depth:∀(l:List KT)(r:Nat),fitsL l r=true->depthL l<=r
 | [],r,_=>by rw [depthL];exact zAd _
 | t :: l,r,h=>by
  rw [fitsL,zAR] at h;have a:=VU t r h.1;have b:=fitsL_depth l r h.2;rw [depthL]
  lia
end
def KT.things:KT->List KT
 | .tup l=>l
 | _=>[]
def below(l:List KT):List KT:=l.flatMap KT.things
end Tw
namespace Tw
open PySem PySem.Spec L2
structure ZB(P:Program)(w:World)(K:zAA)(mg:jb)(base:Heap)(k:Nat)(x:Str)(ps:List Str)(sp:Sp):Prop where
 ex:∃ f fd,ZM P w K mg base ZU k f fd ps sp/\Zs K fd ps []/\zAu K (.ref f)=true/\mg x=some (.ref f)
theorem Zh{X:Cx}{k:Nat}{x:Str}{ps:List Str}{sp:Sp}{e:Expr}{es:List Expr}{t:TA}{p pos:Pos}(D:ZB X.prog X.w X.K X.mg X.base k x ps sp)(hr:ZY k X.A)(ha:PA X (e :: es) t)(hg:Gl X x:=by rfl)(jx:(x==("__debug__" : Str))=false:=by decide)(he:starEach (e :: es) X.env=(false,eval e X.env) :: starEach es X.env:=by rfl)(jr:(backTo pos (starEach es X.env)).any (·.1)=false:=by rfl):
  PE X (.Call (.Name x p) (e :: es) [] pos) (O9 sp [] E0 t):=by
 obtain ⟨f,fd,F,b,kp,m⟩:=D.ex;exact Lj F hr hg m kp b .nil XE ha jx he jr
mutual
def ZE(H:Hp):KT->V->Prop
 | .int i,v=>v=.int i
 | .str x,v=>v=.str x
 | .tup l,v=>∃ a vs,v=.ref a/\H a=some (.tup vs)/\KeysAt H l vs
def KeysAt(H:Hp):List KT->je->Prop
 | [],vs=>vs=[]
 | t :: l,vs=>∃ v r,vs=v :: r/\ZE H t v/\KeysAt H l r
end
def Z6(H H':Hp):Prop:=∀ b xs,H b=some (.tup xs)->H' b=some (.tup xs)
mutual
theorem ZE.mono{H H':Hp}(m:Z6 H H'):∀(t:KT)(v:V),ZE H t v->ZE H' t v
 | .int _,_,h=>by rw [ZE] at h ⊢;exact h
 | .str _,_,h=>by rw [ZE] at h ⊢;exact h
 | .tup l,_,h=>by
  rw [ZE] at h ⊢;obtain ⟨a,vs,e,h1,h2⟩:=h;exact ⟨a,vs,e,m a vs h1,KeysAt.mono m l vs h2⟩
theorem KeysAt.mono{H H':Hp}(m:Z6 H H'):∀(l:List KT)(vs:je),KeysAt H l vs->KeysAt H' l vs
 | [],_,h=>by rw [KeysAt] at h ⊢;exact h
 | t :: l,_,h=>by
  rw [KeysAt] at h ⊢;obtain ⟨v,r,e,h1,h2⟩:=h;exact ⟨v,r,e,ZE.mono m t v h1,KeysAt.mono m l r h2⟩
end
theorem KeysAt.nil{H:Hp}:KeysAt H [] []:=by rw [KeysAt]
theorem KeysAt.cons{H:Hp}{t:KT}{l:List KT}{v:V}{r:je}(h:ZE H t v)(hr:KeysAt H l r):KeysAt H (t :: l) (v :: r):=by
 rw [KeysAt];exact ⟨v,r,rfl,h,hr⟩
theorem ZE.tup{H:Hp}{a:Addr}{vs:je}{l:List KT}(e:H a=some (.tup vs))(h:KeysAt H l vs):ZE H (.tup l) (.ref a):=by
 rw [ZE];exact ⟨a,vs,rfl,e,h⟩
theorem ZE.int{H:Hp}(i:Int):ZE H (.int i) (.int i):=by rw [ZE]
theorem ZE.str{H:Hp}(x:Str):ZE H (.str x) (.str x):=by rw [ZE]
theorem KeysAt.append{H:Hp}:∀{l m:List KT}{vs ws:je},KeysAt H l vs->KeysAt H m ws->KeysAt H (l++m) (vs++ws)
 | [],m,vs,ws,h,g=>by rw [KeysAt] at h;subst h;exact g
 | t :: l,m,vs,ws,h,g=>by
  rw [KeysAt] at h;obtain ⟨v,r,rfl,h1,h2⟩:=h;exact .cons h1 (h2.append g)
theorem KeysAt.length{H:Hp}:∀{l:List KT}{vs:je},KeysAt H l vs->l.length=vs.length
 | [],vs,h=>by rw [KeysAt] at h;subst h;rfl
 | t :: l,vs,h=>by
  rw [KeysAt] at h;obtain ⟨v,r,rfl,_,h2⟩:=h;rw [zAW,zAW,h2.length]
theorem KeysAt.get{H:Hp}:∀{l:List KT}{vs:je}{i:Nat}{v:V},KeysAt H l vs->vs[i]? = some v->∃ t,l[i]? = some t/\ZE H t v
 | [],vs,i,v,h,e=>by rw [KeysAt] at h;subst h;simp at e
 | t :: l,vs,0,v,h,e=>by
  rw [KeysAt] at h;obtain ⟨v',r,rfl,h1,_⟩:=h;simp at e;subst e;exact ⟨t,rfl,h1⟩
 | t :: l,vs,i+1,v,h,e=>by
  rw [KeysAt] at h;obtain ⟨v',r,rfl,_,h2⟩:=h;obtain ⟨t',e1,e2⟩:=h2.get (i:=i) (by simpa using e)
  exact ⟨t',by simpa using e1,e2⟩
theorem KeysAt.take{H:Hp}:∀{l:List KT}{vs:je}(n:Nat),KeysAt H l vs->KeysAt H (l.take n) (vs.take n)
 | l,vs,0,_=>by simp only [zDH];exact .nil
 | [],vs,n+1,h=>by rw [KeysAt] at h;subst h;exact .nil
 | t :: l,vs,n+1,h=>by
  rw [KeysAt] at h;obtain ⟨v',r,rfl,h1,h2⟩:=h;exact .cons h1 (h2.take n)
theorem KeysAt.drop{H:Hp}:∀{l:List KT}{vs:je}(n:Nat),KeysAt H l vs->KeysAt H (l.drop n) (vs.drop n)
 | l,vs,0,h=>h
 | [],vs,n+1,h=>by rw [KeysAt] at h;subst h;exact .nil
 | t :: l,vs,n+1,h=>by
  rw [KeysAt] at h;obtain ⟨v',r,rfl,h1,h2⟩:=h;exact h2.drop n
def KT.ty:KT->Value
 | .int _=>.type "int"
 | .str _=>.type "str"
 | .tup _=>.type "tuple"
theorem ZE.ty{H:Hp}{K:zAA}{t:KT}{v:V}(h:ZE H t v):Ym K H v t.ty:=by
 cases t with
 | int i=>rw [ZE] at h;subst h;exact .int i
 | str x=>rw [ZE] at h;subst h;exact .str x
 | tup l=>rw [ZE] at h;obtain ⟨a,vs,rfl,e,_⟩:=h;exact .tup e
def ZC(p:Addr)(H H':Hp):Prop:=∀ b o,H b=some o->b≠p->H' b=some o
theorem ZC.refl(p:Addr)(H:Hp):ZC p H H:=fun _ _ h _=>h
theorem ZC.trans{p:Addr}{H H1 H2:Hp}(a:ZC p H H1)(b:ZC p H1 H2):ZC p H H2:=fun c o h n=>b c o (a c o h n) n
theorem ZC.upd{p:Addr}{H H':Hp}{o:HO}(a:ZC p H H'):ZC p H (L2.upd H' p o):=fun c u h n=>by rw [ZX n];exact a c u h n
theorem ZC.of{p:Addr}{H H':Hp}(a:ZA H H'):ZC p H H':=fun c o h _=>a c o h
theorem ZC.tups{p:Addr}{H H':Hp}{xs:je}(a:ZC p H H')(h:H p=some (.lst xs)):Z6 H H':=fun b ys e=>a b _ e (ZV e h)
theorem ZA.tups{H H':Hp}(a:ZA H H'):Z6 H H':=fun b ys e=>a b _ e
theorem ZS{H:Hp}{p:Addr}(h:H p=none)(o:HO):ZA H (L2.upd H p o):=fun b u q=>by rw [ZX (Zb q h)];exact q
structure ZF(H:Hp)(p:Addr):Prop where
 ex:∃ a b c d:Int,H p=some (.lst [.int a,.int b,.int c,.int d])/\0<=a/\a<2147483647/\0<=c/\0<=d
theorem ZF.stay{H H':Hp}{p q:Addr}(w:ZF H p)(s:ZC q H H')(n:p≠q):ZF H' p:=by
 obtain ⟨a,b,c,d,e,r⟩:=w.ex;exact ⟨a,b,c,d,s p _ e n,r⟩
theorem ZF.same{H H':Hp}{p:Addr}(w:ZF H p)(s:ZA H H'):ZF H' p:=by
 obtain ⟨a,b,c,d,e,r⟩:=w.ex;exact ⟨a,b,c,d,s p _ e,r⟩
theorem ZF.some{H:Hp}{p:Addr}(w:ZF H p):∃ xs,H p=zAh (.lst xs):=by
 obtain ⟨a,b,c,d,e,r⟩:=w.ex;exact ⟨_,e⟩
theorem ZC.tupsW{p:Addr}{H H':Hp}(a:ZC p H H')(w:ZF H p):Z6 H H':=by
 obtain ⟨xs,e⟩:=w.some;exact a.tups e
def Lu(m:Int):Prop:=0<m/\m.natAbs.log2<9000
inductive Wc(K:zAA)(vs:je)(H:Hp)(Q:VK)(_:XK):Prop
 | mk (a:Addr) (ns:List Int) (k:Int) (_:vs=[.ref a,.int k]) (_:ZK K H a (ns.map V.int)) (_:ns.length<=63) (_:0<=k) (_:k<=1000) (_:∀(p:Addr)(H':Hp),H p=none->ZA H H'->ZF H' p->Q (.ref p) H')
inductive Zl(vs:je)(H:Hp)(Q:VK)(_:XK):Prop
 | mk (p:Addr) (m:Int) (_:vs=[.ref p,.int m]) (_:ZF H p) (_:Lu m) (_:∀(r:Int)(H':Hp),0<=r->r<m->ZF H' p->ZC p H H'->Q (.int r) H')
inductive Xr(vs:je)(H:Hp)(Q:VK)(_:XK):Prop
 | mk (p:Addr) (_:vs=[.ref p]) (_:ZF H p) (_:∀(x:Str)(H':Hp),UN x=true->ZF H' p->ZC p H H'->Q (.str x) H')
inductive Y6(n:Nat)(vs:je)(H:Hp)(Q:VK)(_:XK):Prop
 | mk (p:Addr) (r:Nat) (_:vs=[.ref p,.int (r:Int)]) (_:ZF H p) (_:r<n) (_:∀(v:V)(t:KT)(H':Hp),ZE H' t v->t.fits r=true->ZF H' p->ZC p H H'->Q v H')
inductive Vc(vs:je)(H:Hp)(Q:VK)(_:XK):Prop
 | mk (i:Int) (_:vs=[.int i]) (_:Q (.bl (decide (i.natAbs<10 ^ 60))) H)
inductive Wg(vs:je)(H:Hp)(Q:VK)(_:XK):Prop
 | mk (c:Nat) (_:vs=[.str ⟨#[c]⟩]) (_:Q (.bl (V9 c)) H)
inductive Vd(vs:je)(H:Hp)(Q:VK)(_:XK):Prop
 | mk (v:V) (t:KT) (q:Nat) (_:vs=[v]) (_:ZE H t v) (_:t.fits q=true) (_:∀ H',ZA H H'->Q (.bl (t.fits 3)) H')
inductive Vg(K:zAA)(vs:je)(H:Hp)(Q:VK)(_:XK):Prop
 | mk (a:Addr) (ns:List Int) (_:vs=[.ref a]) (_:ZK K H a (ns.map V.int)) (_:ns.length<=63) (_:∀ H',Q (.bl true) H')
theorem nn{n:Nat}(h:n<=1000):n<=sizeLine:=zBH (Yp h)
theorem Oe{x y:V}{i:Int}(h0:0<=i)(h1:i<2):∃ v,X8 [x,y] i=some v/\(v=x\/v=y):=by
 rcases (show i=0\/i=1 by lia) with e | e
 ·subst e;exact ⟨x,rfl,.inl rfl⟩
 ·subst e;exact ⟨y,rfl,.inr rfl⟩
theorem QR{α:Type}{xs:List α}{i:Int}(h0:0<=i)(h1:i<(xs.length:Int)):∃ v,X8 xs i=some v/\v∈xs:=by
 have hk:i.toNat<xs.length:=by lia
 have e:i=((i.toNat:Nat):Int):=by lia
 rw [e];exact ⟨xs[i.toNat],Xb (zAE hk),zBE hk⟩
theorem Yz{m:Int}(h0:0<m)(h1:m.natAbs<2 ^ 250):Lu m:=by
 refine ⟨h0,?_⟩;have:m.natAbs.log2<250:=(Nat.log2_lt (by lia)).mpr h1
 lia
theorem UC{i j:Int}(h:V.int i=V.int j):i=j:=by injection h
theorem EX(c:Nat):((!decide ([c]<[32])) && !decide ([126]<[c]))=V9 c:=by
 unfold V9;have a:([c]<[32]) ↔ c<32:=by simp [zBj]
 have b:([126]<[c]) ↔ 126<c:=by simp [zBj]
 rw [zBy];simp only [zAR,Bool.not_eq_true',decide_eq_false_iff_not,decide_eq_true_eq,a,b]
 lia
theorem ZNp(i:Int):decide ((if i<0 then -i else i)<10 ^ (60:Int).toNat)=decide (i.natAbs<10 ^ 60):=by
 have e:((10:Int) ^ (60:Int).toNat)=((10 ^ 60:Nat):Int):=by decide +kernel
 rw [e];generalize (10 ^ 60:Nat)=N;apply decide_eq_decide.mpr;split <;> lia
end Tw
namespace Tw
open PySem
mutual
def KT.eqb:KT->KT->Bool
 | .int i,.int j=>i==j
 | .str x,.str y=>x==y
 | .tup l,.tup m=>eqbL l m
 | _,_=>false
def eqbL:List KT->List KT->Bool
 | [],[]=>true
 | a :: l,b :: m=>a.eqb b&&eqbL l m
 | _,_=>false
end
mutual
def KT.plt:KT->KT->Bool
 | .int i,.int j=>decide (i<j)
 | .str x,.str y=>decide (x.cps.toList<y.cps.toList)
 | .tup l,.tup m=>pltL l m
 | _,_=>false
def pltL:List KT->List KT->Bool
 | [],[]=>false
 | [],_ :: _=>true
 | _ :: _,[]=>false
 | a :: l,b :: m=>if a.eqb b=true then pltL l m else a.plt b
end
mutual
def KT.cmp:KT->KT->Bool
 | .int _,.int _=>true
 | .str _,.str _=>true
 | .tup l,.tup m=>cmpL l m
 | _,_=>false
def cmpL:List KT->List KT->Bool
 | [],_=>true
 | _ :: _,[]=>true
 | a :: l,b :: m=>if a.eqb b=true then cmpL l m else a.cmp b
end
def KT.kind:KT->Nat
 | .int _=>0
 | .str _=>1
 | .tup _=>2
mutual
def KT.lt:KT->KT->Bool
 | .int i,.int j=>decide (i<j)
 | .int _,.str _=>true
 | .int _,.tup _=>true
 | .str _,.int _=>false
 | .str x,.str y=>decide (x.cps.toList<y.cps.toList)
 | .str _,.tup _=>true
 | .tup _,.int _=>false
 | .tup _,.str _=>false
 | .tup l,.tup m=>ltL l m
def ltL:List KT->List KT->Bool
 | [],[]=>false
 | [],_ :: _=>true
 | _ :: _,[]=>false
 | a :: l,b :: m=>if a.eqb b=true then ltL l m else a.lt b
end
mutual
def KT.st:KT->KT
 | .int i=>.tup [.int 0,.int i]
 | .str x=>.tup [.int 1,.str x]
 | .tup l=>.tup [.int 2,.tup (stL l)]
def stL:List KT->List KT
 | []=>[]
 | t :: l=>t.st :: stL l
end
theorem IG:∀ l:List KT,stL l=l.map KT.st
 | []=>by rw [stL];rfl
 | t :: l=>by rw [stL,IG l];rfl
mutual
theorem Uw:∀(a b:KT),a.eqb b=true->a=b
 | .int i,.int j,h=>by rw [KT.eqb] at h;rw [eq_of_beq h]
 | .str x,.str y,h=>by rw [KT.eqb] at h;rw [eq_of_beq h]
 | .tup l,.tup m,h=>by rw [KT.eqb] at h;rw [eqbL_eq l m h]
 | .int _,.str _,h=>by simp [KT.eqb] at h
 | .int _,.tup _,h=>by simp [KT.eqb] at h
 | .str _,.int _,h=>by simp [KT.eqb] at h
 | .str _,.tup _,h=>by simp [KT.eqb] at h
 | .tup _,.int _,h=>by simp [KT.eqb] at h
 | .tup _,.str _,h=>by simp [KT.eqb] at h
theorem eqbL_eq:∀(l m:List KT),eqbL l m=true->l=m
 | [],[],_=>rfl
 | a :: l,b :: m,h=>by
  rw [eqbL,zAR] at h;rw [Uw a b h.1,eqbL_eq l m h.2]
 | [],_ :: _,h=>by simp [eqbL] at h
 | _ :: _,[],h=>by simp [eqbL] at h
end
mutual
theorem Uv:∀ a:KT,a.eqb a=true
 | .int i=>by rw [KT.eqb];exact beq_self_eq_true i
 | .str x=>by rw [KT.eqb];exact beq_self_eq_true x
 | .tup l=>by rw [KT.eqb];exact eqbL_self l
theorem eqbL_self:∀ l:List KT,eqbL l l=true
 | []=>by rw [eqbL]
 | a :: l=>by rw [eqbL,Uv a,eqbL_self l];rfl
end
theorem Yr{a b:KT}:a.eqb b=true ↔ a=b:=⟨Uw a b,fun e=>by rw [e];exact Uv b⟩
mutual
theorem KU:∀ a b:KT,a.st.eqb b.st=a.eqb b
 | .int i,.int j=>by simp [KT.st,KT.eqb,eqbL]
 | .str x,.str y=>by simp [KT.st,KT.eqb,eqbL]
 | .tup l,.tup m=>by simp [KT.st,KT.eqb,eqbL,eqbL_st l m]
 | .int _,.str _=>by simp [KT.st,KT.eqb,eqbL]
 | .int _,.tup _=>by simp [KT.st,KT.eqb,eqbL]
 | .str _,.int _=>by simp [KT.st,KT.eqb,eqbL]
 | .str _,.tup _=>by simp [KT.st,KT.eqb,eqbL]
 | .tup _,.int _=>by simp [KT.st,KT.eqb,eqbL]
 | .tup _,.str _=>by simp [KT.st,KT.eqb,eqbL]
theorem eqbL_st:∀ l m:List KT,eqbL (stL l) (stL m)=eqbL l m
 | [],[]=>by simp [stL,eqbL]
 | a :: l,b :: m=>by simp [stL,eqbL,KU a b,eqbL_st l m]
 | [],_ :: _=>by simp [stL,eqbL]
 | _ :: _,[]=>by simp [stL,eqbL]
end
theorem IP:∀ l:List KT,ltL l l=false
 | []=>by rw [ltL]
 | a :: l=>by rw [ltL,Uv a,if_pos rfl,IP l]
theorem Iu{l m:List KT}(h:eqbL l m=true):ltL l m=false:=by
 rw [eqbL_eq l m h];exact IP m
mutual
theorem Hv:∀ a b:KT,a.st.cmp b.st=true
 | .int i,.int j=>by simp [KT.st,KT.eqb,KT.cmp,cmpL]
 | .str x,.str y=>by simp [KT.st,KT.eqb,KT.cmp,cmpL]
 | .tup l,.tup m=>by simp [KT.st,KT.eqb,KT.cmp,cmpL,cmpL_st l m]
 | .int _,.str _=>by simp [KT.st,KT.eqb,KT.cmp,cmpL]
 | .int _,.tup _=>by simp [KT.st,KT.eqb,KT.cmp,cmpL]
 | .str _,.int _=>by simp [KT.st,KT.eqb,KT.cmp,cmpL]
 | .str _,.tup _=>by simp [KT.st,KT.eqb,KT.cmp,cmpL]
 | .tup _,.int _=>by simp [KT.st,KT.eqb,KT.cmp,cmpL]
 | .tup _,.str _=>by simp [KT.st,KT.eqb,KT.cmp,cmpL]
theorem cmpL_st:∀ l m:List KT,cmpL (stL l) (stL m)=true
 | [],_=>by simp [stL,cmpL]
 | _ :: _,[]=>by simp [stL,cmpL]
 | a :: l,b :: m=>by
  rw [stL,stL,cmpL,cmpL_st l m,Hv a b];split <;> rfl
end
mutual
theorem JJ:∀ a b:KT,a.st.plt b.st=a.lt b
 | .int i,.int j=>by
  simp only [KT.st,KT.eqb,KT.plt,pltL,KT.lt,beq_self_eq_true,if_true];by_cases h:i=j
  ·subst h;simp
  ·simp [h]
 | .str x,.str y=>by
  simp only [KT.st,KT.eqb,KT.plt,pltL,KT.lt,beq_self_eq_true,if_true];by_cases h:x=y
  ·subst h;simp
  ·simp [h]
 | .tup l,.tup m=>by
  simp only [KT.st,KT.eqb,KT.plt,pltL,KT.lt,beq_self_eq_true,if_true,eqbL_st,pltL_st l m]
  cases h:eqbL l m with
  | true=>rw [if_pos rfl,Iu h]
  | false=>rw [if_neg zAF]
 | .int _,.str _=>by simp [KT.st,KT.eqb,KT.plt,pltL,KT.lt]
 | .int _,.tup _=>by simp [KT.st,KT.eqb,KT.plt,pltL,KT.lt]
 | .str _,.int _=>by simp [KT.st,KT.eqb,KT.plt,pltL,KT.lt]
 | .str _,.tup _=>by simp [KT.st,KT.eqb,KT.plt,pltL,KT.lt]
 | .tup _,.int _=>by simp [KT.st,KT.eqb,KT.plt,pltL,KT.lt]
 | .tup _,.str _=>by simp [KT.st,KT.eqb,KT.plt,pltL,KT.lt]
theorem pltL_st:∀ l m:List KT,pltL (stL l) (stL m)=ltL l m
 | [],[]=>by simp [stL,pltL,ltL]
 | [],_ :: _=>by simp [stL,pltL,ltL]
 | _ :: _,[]=>by simp [stL,pltL,ltL]
 | a :: l,b :: m=>by rw [stL,stL,pltL,ltL,KU a b,pltL_st l m,JJ a b]
end
mutual
theorem Ia:∀ t:KT,t.st.depth<=2 * t.depth+1
 | .int i=>by simp [KT.st,KT.depth,depthL]
 | .str x=>by simp [KT.st,KT.depth,depthL]
 | .tup l=>by
  have:=depthL_st l;simp only [KT.st,KT.depth,depthL]
  lia
theorem depthL_st:∀ l:List KT,depthL (stL l)<=2 * depthL l+1
 | []=>by simp [stL,depthL]
 | t :: l=>by
  have a:=Ia t;have b:=depthL_st l;rw [stL,depthL,depthL]
  lia
end
theorem ZLx{x:Str}(h:UN x=true):x.cps.size<=40/\x.cps.toList.all V9=true:=by
 unfold UN at h;rw [zAR] at h;exact ⟨of_decide_eq_true h.1,h.2⟩
end Tw
namespace Tw
open PySem PySem.Spec L2 PyProof.Rows
mutual
def ZO(h:Heap):KT->Value->Prop
 | .int i,v=>∃ t,v=.int i t
 | .str x,v=>∃ t,v=.str x t
 | .tup l,v=>∃(a:Addr)(ji:jd),v=.ref a/\IsTup h a ji.toArray/\KVals h l ji
def KVals(h:Heap):List KT->jd->Prop
 | [],vs=>vs=[]
 | t :: l,vs=>∃ v r,vs=v :: r/\ZO h t v/\KVals h l r
end
section
variable{X:Cx}{pins:List (Addr×Obj)}{σ:L2.St}{H:Hp}{s:Shared}
mutual
theorem Vj(I:ZI X pins σ H s):∀(t:KT)(x:V)(v:Value),ZE H t x->ZR x v->ZO s.heap t v
 | .int i,x,v,h,r=>by
  rw [ZE] at h;subst h;rw [ZO];exact r
 | .str y,x,v,h,r=>by
  rw [ZE] at h;subst h;rw [ZO];exact r
 | .tup l,x,v,h,r=>by
  rw [ZE] at h;obtain ⟨a,vs,rfl,e,hk⟩:=h;obtain ⟨ji,rv,pl,_⟩:=I.tuple (Zn.of e);rw [ZO];exact ⟨a,ji,r,pl,kvals_of I l vs ji hk rv⟩
theorem kvals_of(I:ZI X pins σ H s):∀(l:List KT)(vs:je)(us:jd),KeysAt H l vs->ZP vs us->KVals s.heap l us
 | [],vs,us,h,r=>by
  rw [KeysAt] at h;subst h;rw [KVals];cases r;rfl
 | t :: l,vs,us,h,r=>by
  rw [KeysAt] at h;obtain ⟨v,q,rfl,h1,h2⟩:=h
  cases r with
  | cons r1 r2=>
   rw [KVals];exact ⟨_,_,rfl,Vj I t v _ h1 r1,kvals_of I l q _ h2 r2⟩
end
end
theorem Cj{h:Heap}{a:Addr}{ji its':jd}(x:IsTup h a ji.toArray)(y:IsTup h a its'.toArray):ji=its':=by
 obtain ⟨o,e,_,n,d⟩:=x;obtain ⟨o',e',_,n',d'⟩:=y;rw [e] at e';cases e';rw [d] at d';injection d' with d1 _;simpa using congrArg zDT d1
mutual
theorem ZO.inj{h:Heap}:∀(a b:KT)(v:Value),ZO h a v->ZO h b v->a.eqb b=true
 | .int i,b,v,x,y=>by
  rw [ZO] at x;obtain ⟨t,rfl⟩:=x
  cases b with
  | int j=>rw [ZO] at y;obtain ⟨u,e⟩:=y;injection e with e _;rw [KT.eqb,e];exact beq_self_eq_true j
  | str z=>rw [ZO] at y;obtain ⟨u,e⟩:=y;cases e
  | tup m=>rw [ZO] at y;obtain ⟨_,_,e,_⟩:=y;cases e
 | .str w,b,v,x,y=>by
  rw [ZO] at x;obtain ⟨t,rfl⟩:=x
  cases b with
  | int j=>rw [ZO] at y;obtain ⟨u,e⟩:=y;cases e
  | str z=>rw [ZO] at y;obtain ⟨u,e⟩:=y;injection e with e _;rw [KT.eqb,e];exact beq_self_eq_true z
  | tup m=>rw [ZO] at y;obtain ⟨_,_,e,_⟩:=y;cases e
 | .tup l,b,v,x,y=>by
  rw [ZO] at x;obtain ⟨p,ji,rfl,px,kx⟩:=x
  cases b with
  | int j=>rw [ZO] at y;obtain ⟨u,e⟩:=y;cases e
  | str z=>rw [ZO] at y;obtain ⟨u,e⟩:=y;cases e
  | tup m=>
   rw [ZO] at y;obtain ⟨q,its',e,py,ky⟩:=y;cases e;cases Cj px py;rw [KT.eqb];exact KVals.inj l m ji kx ky
theorem KVals.inj{h:Heap}:∀(l m:List KT)(us:jd),KVals h l us->KVals h m us->eqbL l m=true
 | [],m,us,x,y=>by
  rw [KVals] at x;subst x
  cases m with
  | nil=>rw [eqbL]
  | cons b m=>rw [KVals] at y;obtain ⟨_,_,e,_⟩:=y;cases e
 | a :: l,m,us,x,y=>by
  rw [KVals] at x;obtain ⟨v,r,rfl,x1,x2⟩:=x
  cases m with
  | nil=>rw [KVals] at y;cases y
  | cons b m=>
   rw [KVals] at y;obtain ⟨v',r',e,y1,y2⟩:=y;injection e with e1 e2;subst e1 e2;rw [eqbL,ZO.inj a b v x1 y1,KVals.inj l m r x2 y2];rfl
end
theorem KVals.length{h:Heap}:∀{l:List KT}{us:jd},KVals h l us->l.length=us.length
 | [],us,x=>by rw [KVals] at x;subst x;rfl
 | a :: l,us,x=>by
  rw [KVals] at x;obtain ⟨v,r,rfl,_,x2⟩:=x;rw [zAW,zAW,x2.length]
theorem KVals.get{h:Heap}:∀{l:List KT}{us:jd}{j:Nat}{u:Value},KVals h l us->us[j]? = some u->∃ t,l[j]? = some t/\ZO h t u
 | [],us,j,u,x,e=>by rw [KVals] at x;subst x;simp at e
 | a :: l,us,0,u,x,e=>by
  rw [KVals] at x;obtain ⟨v,r,rfl,x1,_⟩:=x;simp at e;subst e;exact ⟨a,rfl,x1⟩
 | a :: l,us,j+1,u,x,e=>by
  rw [KVals] at x;obtain ⟨v,r,rfl,_,x2⟩:=x;obtain ⟨t,e1,e2⟩:=x2.get (j:=j) (by simpa using e)
  exact ⟨t,by simpa using e1,e2⟩
theorem Uz:∀{l:List KT}{t:KT},t∈l->t.depth<=depthL l
 | [],_,h=>by cases h
 | u :: l,t,h=>by
  rw [depthL];rcases zAf.mp h with e | h
  ·subst e;lia
  ·have:=Uz h;lia
theorem Ov:∀(l m:List KT),((zAi (min l.length m.length)).all (fun j=>(l.getD j (.int 0)).eqb (m.getD j (.int 0)))&&l.length==m.length)=eqbL l m
 | [],[]=>by simp [eqbL]
 | [],_ :: _=>by simp [eqbL]
 | _ :: _,[]=>by simp [eqbL]
 | a :: l,b :: m=>by
  have ih:=Ov l m;have e:min (a :: l).length (b :: m).length=min l.length m.length+1:=by simp only [zAW];lia
  rw [e,zDQ,zCN,zCu,eqbL,<-ih,Bool.and_assoc];simp [Function.comp_def]
theorem Qv{s:Shared}:∀(n:Nat)(a b:KT)(A:Around)(v u:Value),a.depth<=n->ZO s.heap a v->ZO s.heap b u->A.units+a.depth<cLine->SeqAt.EqAt A s v u (a.eqb b)
 | n,.int i,b,A,v,u,_,x,y,hu=>by
  rw [ZO] at x;obtain ⟨t,rfl⟩:=x;have hu':A.units<cLine:=by lia
  cases b with
  | int j=>rw [ZO] at y;obtain ⟨t',rfl⟩:=y;rw [KT.eqb];exact SeqAt.EqAt.int_int i t j t'
  | str z=>rw [ZO] at y;obtain ⟨t',rfl⟩:=y;rw [show (KT.int i).eqb (.str z)=false by simp [KT.eqb]];exact SeqAt.EqAt.int_str i t z t'
  | tup m=>rw [ZO] at y;obtain ⟨p,ji,rfl,py,_⟩:=y;rw [show (KT.int i).eqb (.tup m)=false by simp [KT.eqb]];exact SeqAt.EqAt.int_tuple i t py hu'
 | n,.str w,b,A,v,u,_,x,y,hu=>by
  rw [ZO] at x;obtain ⟨t,rfl⟩:=x;have hu':A.units<cLine:=by lia
  cases b with
  | int j=>rw [ZO] at y;obtain ⟨t',rfl⟩:=y;rw [show (KT.str w).eqb (.int j)=false by simp [KT.eqb]];exact SeqAt.EqAt.str_int w t j t'
  | str z=>rw [ZO] at y;obtain ⟨t',rfl⟩:=y;rw [KT.eqb];exact SeqAt.EqAt.str_str w t z t'
  | tup m=>rw [ZO] at y;obtain ⟨p,ji,rfl,py,_⟩:=y;rw [show (KT.str w).eqb (.tup m)=false by simp [KT.eqb]];exact SeqAt.EqAt.str_tuple w t py hu'
 | 0,.tup l,b,A,v,u,hn,x,y,hu=>by
  rw [KT.depth] at hn
  lia
 | n+1,.tup l,b,A,v,u,hn,x,y,hu=>by
  have x':=x;rw [ZO] at x;obtain ⟨p,ji,rfl,px,kx⟩:=x;rw [KT.depth] at hn hu;have hu':A.units<cLine:=by lia
  cases b with
  | int j=>rw [ZO] at y;obtain ⟨t',rfl⟩:=y;rw [show (KT.tup l).eqb (.int j)=false by simp [KT.eqb]];exact SeqAt.EqAt.tuple_int j t' px hu'
  | str z=>rw [ZO] at y;obtain ⟨t',rfl⟩:=y;rw [show (KT.tup l).eqb (.str z)=false by simp [KT.eqb]];exact SeqAt.EqAt.tuple_str z t' px hu'
  | tup m=>
   have y':=y;rw [ZO] at y;obtain ⟨q,its',rfl,py,ky⟩:=y;by_cases hpq:p=q
   ·subst hpq;rw [ZO.inj _ _ _ x' y'];exact SeqAt.EqAt.same _
   ·have lx:=kx.length;have ly:=ky.length;have rc:=SeqAt.RcAt.tuples (A:=A) (s:=s) (e:=fun j=>(l.getD j (.int 0)).eqb (m.getD j (.int 0))) px py hu' (fun j h1 h2=>by
     have h1':j<ji.length:=by simpa using h1
     have h2':j<its'.length:=by simpa using h2
     obtain ⟨t1,e1,k1⟩:=kx.get (j:=j) (u:=ji[j]) (by simp [h1'])
     obtain ⟨t2,e2,k2⟩:=ky.get (j:=j) (u:=its'[j]) (by simp [h2'])
     have d1:=Uz (zAJ e1);have g1:l.getD j (.int 0)=t1:=by rw [zAC,e1];rfl
     have g2:m.getD j (.int 0)=t2:=by rw [zAC,e2];rfl
     have:=Qv n t1 t2 A.in1 ji[j] its'[j] (by lia) k1 k2 (by show A.units+1+t1.depth<cLine;lia)
     show SeqAt.EqAt A.in1 s _ _ ((l.getD j (.int 0)).eqb (m.getD j (.int 0)));rw [g1,g2];simpa using this)
    have er:((zAi (min ji.toArray.size its'.toArray.size)).all (fun j=>(l.getD j (.int 0)).eqb (m.getD j (.int 0)))&&ji.toArray.size==its'.toArray.size)=(KT.tup l).eqb (.tup m):=by
     rw [zAL,zAL,<-lx,<-ly,KT.eqb];exact Ov l m
    rw [er] at rc;exact .of_refs hpq rc
def Jn(A:Around)(s:Shared)(v u:Value)(b:Bool):Prop:=
 ∀(prog:Program)(w:World)(E:ja)(Q:ja),Q (.bool b) s->wpAny (model prog w) A (richCompare .Lt v u) Q E s
section
open PySem.SeqAt
open PySem.AutoSeq1 (wpAny_loadPart')
open PySem.MeetsSeq PySem.MeetsSeq2 PySem.MeetsSeq3
theorem BL(l b:Addr)(items jj:Array Value)(n n2:Nat)(dd dd2:Option Addr)(sl jF:Array (jc))(ts us:List KT):
  Meets (Builtin.«tuple.__lt__» ⟨[.ref l,.ref b],[]⟩)
   (fun A R s=>s.heap.get? l=some { cls:=.type "tuple",dict:=dd,data:=.seq items n,slots:=sl }/\s.heap.get? b=some { cls:=.type "tuple",dict:=dd2,data:=.seq jj n2,slots:=jF } /\
    KVals s.heap ts items.toList/\KVals s.heap us jj.toList/\cmpL ts us=true /\
    (∀ x y v u,x∈ts->ZO s.heap x v->ZO s.heap y u->EqAt A.in1 s v u (x.eqb y))/\(∀ x y v u,x∈ts->ZO s.heap x v->ZO s.heap y u->x.cmp y=true->Jn A.in1 s v u (x.plt y)) /\
    R (.ok (.ret (.bool (pltL ts us)))) s):=
 .of_wp fun prog w A R s h=>by
  obtain ⟨hp,g,d,tk,os⟩:=s;obtain ⟨hl,hb,hi,hj,hc,hE,hL,h⟩:=h;have f2:=AutoSeq1.sub_tuple_tuple;have z1:items.size=ts.length:=by rw [hi.length];simp
  have z2:jj.size=us.length:=by rw [hj.length];simp
  wp_walk using wpAny_loadPart' hl,wpAny_loadPart' hb,wpAny_forIn_list _ (fun rest b s'=>b.1=none/\s'=⟨hp,g,d,tk,os⟩/\∃(vs ws:jd)(ts' us':List KT),rest=vs.zip ws /\
   KVals hp ts' vs/\KVals hp us' ws/\(∀ x∈ts',x∈ts)/\cmpL ts' us'=true/\ts'.length+jj.size=us'.length+items.size/\R (.ok (.ret (.bool (pltL ts' us')))) ⟨hp,g,d,tk,os⟩) _
  case turn=>
   rintro ⟨y,x⟩ rest b s' ⟨hb',rfl,vs,ws,ts',us',hz,hvi,hwi,hin,hcm,hlen,hR⟩
   cases ts' with
   | nil=>rw [KVals] at hvi;subst hvi;rw [List.zip_nil_left] at hz;cases hz
   | cons a ts'=>
    cases us' with
    | nil=>rw [KVals] at hwi;subst hwi;rw [List.zip_nil_right] at hz;cases hz
    | cons c us'=>
     rw [KVals] at hvi hwi;obtain ⟨v,vr,rfl,ka,hvi'⟩:=hvi;obtain ⟨u,ur,rfl,kc,hwi'⟩:=hwi;rw [zCC] at hz;injection hz with hyx hrest;injection hyx with hy hx;subst hy hx;rw [pltL] at hR;rw [cmpL] at hcm;simp only [zAW] at hlen;have he:=hE a c y x (hin a zAT) ka kc;refine wpAny_bind (he prog w _ _ ?_)
     cases hq:a.eqb c with
     | true=>
      rw [hq,if_pos rfl] at hR hcm
      wp_walk
      exact ⟨rfl,rfl,_,_,_,_,hrest,hvi',hwi',fun z hz=>hin z (zAN _ hz),hcm,by lia,hR⟩
     | false=>
      rw [hq,if_neg zAF] at hR hcm;have hri:=hL a c y x (hin a zAT) ka kc hcm prog w
      wp_walk using hri
      exact ⟨_,rfl,by simpa using hR⟩
  case fin=>
   rintro ⟨b1,b2⟩ s' ⟨hb',rfl,vs,ws,ts',us',hz,hvi,hwi,hin,hcm,hlen,hR⟩;simp only at hb';subst hb';have hv:pltL ts' us'=decide (items.size<jj.size):=by
    cases ts' with
    | nil=>
     cases us' with
     | nil=>
      simp only [zBY] at hlen;rw [pltL];exact (decide_eq_false (by lia)).symm
     | cons c us'=>
      simp only [zBY,zAW] at hlen;rw [pltL];exact (decide_eq_true (by lia)).symm
    | cons a ts'=>
     cases us' with
     | nil=>
      simp only [zBY,zAW] at hlen;rw [pltL];exact (decide_eq_false (by lia)).symm
     | cons c us'=>
      rw [KVals] at hvi hwi;obtain ⟨v,vr,rfl,_,_⟩:=hvi;obtain ⟨u,ur,rfl,_,_⟩:=hwi;rw [zCC] at hz;cases hz
   rw [hv] at hR
   wp_walk
   exact ⟨_,rfl,by simpa [Builtin.Tuple.tupleCompareSizes] using hR⟩
  case h=>
   exact ⟨rfl,rfl,items.toList,jj.toList,ts,us,rfl,hi,hj,fun _ hx=>hx,hc,by lia,h⟩
end
theorem Md{s:Shared}:∀(n:Nat)(a b:KT)(A:Around)(v u:Value),a.depth<=n->ZO s.heap a v->ZO s.heap b u->a.cmp b=true->A.units+a.depth<cLine->Jn A s v u (a.plt b)
 | n,.int i,b,A,v,u,_,x,y,hc,hu=>by
  rw [ZO] at x;obtain ⟨t,rfl⟩:=x
  cases b with
  | int j=>rw [ZO] at y;obtain ⟨t',rfl⟩:=y;rw [KT.plt];exact fun prog w E Q h=>HT.rcLt_int A s i t j t' prog w E Q h
  | str z=>simp [KT.cmp] at hc
  | tup m=>simp [KT.cmp] at hc
 | n,.str w,b,A,v,u,_,x,y,hc,hu=>by
  rw [ZO] at x;obtain ⟨t,rfl⟩:=x
  cases b with
  | int j=>simp [KT.cmp] at hc
  | str z=>rw [ZO] at y;obtain ⟨t',rfl⟩:=y;rw [KT.plt];exact fun prog w' E Q h=>(lt_str h:wpAny (model prog w') A (compareOp .Lt (.str w t) (.str z t')) Q E s)
  | tup m=>simp [KT.cmp] at hc
 | 0,.tup l,b,A,v,u,hn,x,y,hc,hu=>by
  rw [KT.depth] at hn
  lia
 | n+1,.tup l,b,A,v,u,hn,x,y,hc,hu=>by
  rw [ZO] at x;obtain ⟨p,ji,rfl,px,kx⟩:=x;rw [KT.depth] at hn hu;have hu':A.units<cLine:=by lia
  cases b with
  | int j=>simp [KT.cmp] at hc
  | str z=>simp [KT.cmp] at hc
  | tup m=>
   rw [ZO] at y;obtain ⟨q,its',rfl,py,ky⟩:=y;rw [KT.cmp] at hc;rw [KT.plt];intro prog w E Q h;obtain ⟨⟨cls,dd,data,sl⟩,ho,hcl,nn1,hd⟩:=id px;obtain ⟨⟨cls2,dd2,data2,jF⟩,ho2,hcl2,nn2,hd2⟩:=id py;simp only at hcl hd hcl2 hd2;subst hcl hd hcl2 hd2;refine richCompare_meets_room (op:=.Lt) ⟨_,ho,rfl⟩ ⟨_,ho2,rfl⟩ PySem.F.slot_tuple_lt PySem.F.entry_tuple_lt (PySem.F.args_tuple_lt_2 _ _) (BL p q ji.toArray its'.toArray nn1 nn2 dd dd2 sl jF l m)
    ⟨ho,ho2,kx,ky,hc,fun x y v u hx k1 k2=>?_,fun x y v u hx k1 k2 k3=>?_,show Value.bool (pltL l m)≠Value.notImplemented/\Q (.bool (pltL l m)) s from ⟨(fun x=>nomatch x),h⟩⟩ hu'
   ·have d1:=Uz hx;exact Qv x.depth x y A.in1 v u (zAH _) k1 k2 (by show A.units+1+x.depth<cLine;lia)
   ·have d1:=Uz hx;exact Md n x y A.in1 v u (by lia) k1 k2 k3 (by show A.units+1+x.depth<cLine;lia)
section
variable{X:Cx}
theorem ZY.key{k:Nat}{A:Around}(r:ZY k A){n:Nat}(h:n<=200):A.units+n<cLine:=by have:=r.un;lia
def AF:R2:=fun x y H Q=>∃ a b,ZE H a x/\ZE H b y/\a.cmp b=true/\a.depth<=200/\Q (.bl (a.plt b)) H
theorem MN{k:Nat}(hr:ZY k X.A):YX X (compareOp .Lt) AF:=by
 intro pins s σ H x y v u Q I rx ry h;obtain ⟨a,b,ha,hb,hc,hd,q⟩:=h;exact Md a.depth a b X.A v u (zAH _) (Vj I a x v ha rx) (Vj I b y u hb ry) hc (ZY.key hr hd) X.prog X.w X.xe _ ⟨.bl _,H,I,rfl,q⟩
end
mutual
def X0(w:World):KT->Int
 | .int i=>hashInt i
 | .str x=>HA w (.inr x)
 | .tup l=>reduceHash (Builtin.Tuple.tupleHashOf (hashL w l))
def hashL(w:World):List KT->List Int
 | []=>[]
 | t :: l=>X0 w t :: hashL w l
end
theorem K9(w:World):∀(l m:List KT),hashL w (l++m)=hashL w l++hashL w m
 | [],m=>by rw [hashL];rfl
 | t :: l,m=>by rw [zCQ,hashL,hashL,K9 w l m];rfl
section
variable{prog:Program}{w:World}
theorem Li:∀(n:Nat)(t:KT){A:Around}{E:ja}{s:Shared}{v:Value}{Q:Int->Shared->Prop},t.depth<=n->ZO s.heap t v->A.units+t.depth<cLine->(∀ tk,s.toks<=tk->Q (X0 w t) { s with toks:=tk })->wpAny (model prog w) A (pyHash v) Q E s
 | n,.int i,A,E,s,v,Q,_,x,hu,q=>by
  rw [ZO] at x;obtain ⟨t,rfl⟩:=x;rw [X0] at q;exact wpAny_pyHash_int (q _ (zCA _))
 | n,.str i,A,E,s,v,Q,_,x,hu,q=>by
  rw [ZO] at x;obtain ⟨t,rfl⟩:=x;rw [X0] at q;exact wpAny_pyHash_str (q _ (zCA _))
 | 0,.tup l,A,E,s,v,Q,hn,x,hu,q=>by rw [KT.depth] at hn;lia
 | n+1,.tup l,A,E,s,v,Q,hn,x,hu,q=>by
  rw [KT.depth] at hn hu;rw [ZO] at x;obtain ⟨a,ji,rfl,pt,ks⟩:=x;have hT:=pt.typeIs;obtain ⟨o,ho,hc,nn,hd⟩:=pt;unfold pyHash
  first | unfold pyHashByItsType | skip
  first | refine wpAny_bind (wpAny_cRoomFor_or (.inr (by lia)) ?_) | skip
  refine wpAny_bind (wpAny_specialOf hT zBw.lookup ?_);show wpAny _ _ (if (some (Value.builtin "tuple.__hash__")==some Value.none)=true then _ else _) Q E s
  rw [if_neg (by rw [beq_builtin_none];exact zAF)]
  refine wpAny_bind (wpAny_specialOf hT zBw.lookup ?_);show wpAny _ _ (callSpecialIfBoundUnlessNone? (.ref a) "__hash__" _ >>= _) Q E s;refine wpAny_bind (wpAny_callSpecialIfBoundUnlessNone?_slot hT zBw (wpAny_call_entry zBw hT PySem.F.entry_tuple_hash ?_ (PySem.F.args_tuple_hash_1 _)));show wpAny _ _ (Builtin.Tuple.tupleItemsOf (.ref a) >>= _) _ _ s;refine wpAny_bind (wpAny_tupleItemsOf ho hd (wpAny_bind ?_));rw [<-zCh];refine wpAny_forIn_list _ (fun rest (b:Array Int) s'=>∃ dn lf tk,l=dn++lf/\KVals s.heap lf rest/\b.toList=hashL w dn/\s'={ s with toks:=tk }/\s.toks<=tk) _ ?_ ?_ _ _ ⟨[],l,s.toks,rfl,ks,by rw [hashL],rfl,zAH _⟩
  ·rintro x rest b s' ⟨dn,lf,tk,e0,hl,hb,rfl,htk⟩
   cases lf with
   | nil=>rw [KVals] at hl;cases hl
   | cons t lf=>
    rw [KVals] at hl;obtain ⟨v',r',e,k1,k2⟩:=hl;injection e with e1 e2;subst e1 e2;have hd':t.depth<=depthL l:=by rw [e0];exact Uz (by simp)
    refine wpAny_bind (Li n t (s:={ s with toks:=tk }) (by lia) k1 (by show A.units+1+_<_;lia) fun tk2 h2=>?_)
    have fin:∃ dn' lf' tk',l=dn'++lf'/\KVals s.heap lf' rest/\(b.push (X0 w t)).toList=hashL w dn'/\({ s with toks:=tk2 }:Shared)={ s with toks:=tk' }/\s.toks<=tk':=
     ⟨dn++[t],lf,tk2,by rw [e0];simp,k2,by rw [zCo,hb,K9,hashL,hashL],rfl,zBC htk h2⟩
    first | exact wpAny_pure fin | exact wpAny_bind (wpAny_pure (wpAny_pure fin))
  ·rintro b s' ⟨dn,lf,tk,e0,hl,hb,rfl,htk⟩
   cases lf with
   | cons t lf=>rw [KVals] at hl;obtain ⟨_,_,e,_⟩:=hl;cases e
   | nil=>
    rw [zA0] at e0;subst e0;show wpAny _ _ (retInt (Builtin.Tuple.tupleHashOf b.toList)) _ _ _;rw [hb];refine wpAny_ret_mkInt ?_;show wpAny _ _ (if (decide (-(2:Int) ^ 63<=Builtin.Tuple.tupleHashOf (hashL w l))&&decide (Builtin.Tuple.tupleHashOf (hashL w l)<2 ^ 63))=true then _ else _) Q E _
    have q':=q (tk+1) (by lia)
    rw [X0] at q';unfold reduceHash at q';split
    ·rename_i hr
     rw [if_pos hr] at q';exact wpAny_pure q'
    ·rename_i hr
     rw [if_neg hr] at q';exact wpAny_bind (wpAny_rule (wpAny_pure q'))
theorem Nm:∀(n:Nat)(t:KT){A:Around}{E:ja}{s:Shared}{v:Value}{Q:Bool->Shared->Prop},t.depth<=n->ZO s.heap t v->Q true s->wpAny (model prog w) A (eqIsQuiet n v) Q E s
 | n,.int i,A,E,s,v,Q,_,x,q=>by
  rw [ZO] at x;obtain ⟨t,rfl⟩:=x;rw [eqIsQuiet_byValue n rfl];exact wpAny_pure q
 | n,.str i,A,E,s,v,Q,_,x,q=>by
  rw [ZO] at x;obtain ⟨t,rfl⟩:=x;rw [eqIsQuiet_byValue n rfl];exact wpAny_pure q
 | 0,.tup l,A,E,s,v,Q,hn,x,q=>by rw [KT.depth] at hn;lia
 | n+1,.tup l,A,E,s,v,Q,hn,x,q=>by
  rw [KT.depth] at hn;rw [ZO] at x;obtain ⟨a,ji,rfl,pt,ks⟩:=x;have hT:=pt.typeIs;obtain ⟨o,ho,hc,nn,hd⟩:=pt;unfold eqIsQuiet;refine wpAny_bind (wpAny_specialOf hT PySem.F.slot_tuple_eq.lookup ?_);show wpAny _ _ (isInstance (.ref a) (.type "tuple") >>= _) _ _ s;refine wpAny_bind (wpAny_isInstance hT isSubtype_tuple_tuple ?_);simp only [zCm,zA3,if_false];refine wpAny_bind (wpAny_seqItems ho hd (wpAny_bind ?_));show wpAny _ _ (forIn ji.toArray _ _) _ _ s;rw [<-zCh];refine wpAny_forIn_list _ (fun rest r s'=>r.1=none/\s'=s/\∃ lf,KVals s.heap lf rest/\depthL lf<=n) _ ?_ ?_ _ _ ⟨rfl,rfl,l,ks,by lia⟩
  ·rintro x rest r s' ⟨hr,rfl,lf,hl,hdp⟩
   cases lf with
   | nil=>rw [KVals] at hl;cases hl
   | cons t lf=>
    rw [KVals] at hl;obtain ⟨v',r',e,k1,k2⟩:=hl;injection e with e1 e2;subst e1 e2;rw [depthL] at hdp;refine wpAny_bind (Nm n t (by lia) k1 ?_)
    simp only [zCm,zA3,if_false];exact wpAny_pure ⟨rfl,rfl,lf,k2,by lia⟩
  ·rintro ⟨r1,r2⟩ s' ⟨hr,rfl,_⟩;dsimp only at hr;subst hr;exact wpAny_pure q
end
structure PD(w:World)(h:Heap)(ks:List KT)(es:Array DictEntry):Prop where
 len:es.size=ks.length
 ent:∀(i:Nat)(e:DictEntry),es[i]? = some e->∃ t,ks[i]? = some t/\e.hash=X0 w t/\ZO h t e.key/\t.depth<=3
 nd:ks.Nodup
section
variable{prog:Program}{w:World}{A:Around}{E:ja}{s:Shared}
theorem PD.uniq{h:Heap}{ks:List KT}{es:Array DictEntry}(x:PD w h ks es){i j:Nat}{t:KT}(hi:ks[i]? = some t)(hj:ks[j]? = some t):i=j:=by
 obtain ⟨a,ea⟩:=zAK.mp hi;exact (zCr a x.nd).mp (hi.trans hj.symm)
theorem PD.get{h:Heap}{ks:List KT}{es:Array DictEntry}(x:PD w h ks es){j:Nat}{t:KT}(hj:ks[j]? = some t):∃ e,es[j]? = some e/\e.hash=X0 w t/\ZO h t e.key/\t.depth<=3:=by
 obtain ⟨a,_⟩:=zAK.mp hj;have lt:j<es.size:=by have:=x.len;lia
 have e:es[j]? = some es[j]:=zAY lt;obtain ⟨t',e1,e2,e3,e4⟩:=x.ent j _ e;rw [hj] at e1;cases e1;exact ⟨_,e,e2,e3,e4⟩
theorem M0{v:Value}{stored:jd}{Q:Bool->Shared->Prop}(hv:∃ t,ZO s.heap t v/\t.depth<=8)(hs:∀ u∈stored,∃ t,ZO s.heap t u/\t.depth<=8)(h:Q false s):wpAny (model prog w) A (tableMayTell v stored) Q E s:=by
 unfold tableMayTell;refine wpAny_ite_split (fun _=>wpAny_pure h) (fun _=>?_);obtain ⟨t,kv,dt⟩:=hv;refine wpAny_bind (Nm 8 t dt kv ?_);simp only [zCm,zA3,if_false];refine wpAny_bind ?_;refine wpAny_forIn_list _ (fun rest r s'=>s'=s/\r=(none,())/\∀ u∈rest,u∈stored) _ ?_ ?_ _ _ ⟨rfl,rfl,fun _ z=>z⟩
 ·rintro u rest r s' ⟨rfl,rfl,hr⟩;obtain ⟨t2,kv2,dt2⟩:=hs u (hr u (zAT ..));refine wpAny_bind (Nm 8 t2 dt2 kv2 ?_);simp only [zCm,zA3,if_false];exact wpAny_pure ⟨rfl,rfl,fun u hu=>hr u (zAN _ hu)⟩
 ·rintro r s' ⟨rfl,rfl,_⟩;exact wpAny_pure h
theorem GH{d:Addr}{o:Obj}{es:Array DictEntry}{ep:Nat}{ks:List KT}{t:KT}{v:Value}{Q:Option Nat->Shared->Prop}(hv:ZO s.heap t v)(dt:t.depth<=3)(hu:A.units+3<cLine)(ho:s.heap.get? d=some o)(hd:o.data=.dict es ep)(x:PD w s.heap ks es)(hno:t∉ks->Q none s)(jS:∀ j,ks[j]? = some t->Q (some j) s):wpAny (model prog w) A (dictFind d v (X0 w t)) Q E s:=by
 have inPl:∀ j,ks[j]? = some t->j∈placesWithHash es.size (fun i=>es[i]?.map (·.hash)) (X0 w t):=fun j hj=>by
  obtain ⟨e,e1,e2,_⟩:=x.get hj;obtain ⟨lt,_⟩:=zA1.mp e1;unfold placesWithHash;rw [zCT,zA7];exact ⟨lt,by show (Option.map _ es[j]? == _)=true;rw [e1,zBX,e2];simp⟩
 have ofPl:∀ i,i∈placesWithHash es.size (fun i=>es[i]?.map (·.hash)) (X0 w t)->∃ e u,es[i]? = some e/\e.hash=X0 w t/\ks[i]? = some u/\ZO s.heap u e.key/\u.depth<=3:=fun i hi=>by
  unfold placesWithHash at hi;rw [zCT,zA7] at hi;have e1:es[i]? = some es[i]:=zAY hi.1;obtain ⟨u,e2,_,e4,e5⟩:=x.ent i _ e1;have:(Option.map (·.hash) es[i]? == some (X0 w t))=true:=hi.2;rw [e1,zBX] at this;exact ⟨_,u,e1,by simpa using this,e2,e4,e5⟩
 have pnd:(placesWithHash es.size (fun i=>es[i]?.map (·.hash)) (X0 w t)).Nodup:=by
  unfold placesWithHash;exact List.nodup_range.filter _
 have eq_at:∀(u:KT)(e:DictEntry),ZO s.heap u e.key->u.depth<=3->SeqAt.EqAt A s e.key v (u.eqb t):=fun u e k1 d1=>Qv u.depth u t A e.key v (zAH _) k1 hv (by lia)
 have stored:∀ u∈(placesWithHash es.size (fun i=>es[i]?.map (·.hash)) (X0 w t)).filterMap (fun i=>es[i]?.map (·.key)),∃ t,ZO s.heap t u/\t.depth<=8:=fun u hu=>by
  obtain ⟨i,hi,e⟩:=zCD.mp hu;obtain ⟨en,z,e1,_,_,e4,e5⟩:=ofPl i hi;rw [e1,zBX] at e;cases e;exact ⟨z,e4,by lia⟩
 unfold dictFind
 try with_reducible refine wpAny_holding ?_
 refine wpAny_bind (wpAny_dictEntries ho hd ?_);generalize hP:placesWithHash es.size (fun i=>es[i]?.map (·.hash)) (X0 w t)=pl at inPl ofPl pnd stored;have plain:wpAny (model prog w) A (dictWalkPlain d v (X0 w t) es pl) Q E s:=by
  unfold dictWalkPlain;refine wpAny_bind ?_;refine wpAny_forIn_list _ (fun rest b s'=>s'=s/\b=(none,())/\(∀ i∈rest,i∈pl)/\∀ i∈pl,i∈rest\/ks[i]? ≠ some t) _ ?_ ?_ _ _ ⟨rfl,rfl,fun _ z=>z,fun _ z=>.inl z⟩
  ·rintro i rest b s' ⟨rfl,rfl,h1,h2⟩;obtain ⟨e,u,e1,e2,e3,e4,e5⟩:=ofPl i (h1 i (zAT ..));rw [e1];dsimp only;rw [e2,if_pos (by simp)]
   refine wpAny_bind (wpAny_dictEpoch ho hd (wpAny_bind (eq_at u e e4 e5 prog w _ _ (wpAny_bind (wpAny_dictEpoch ho hd ?_)))));rw [if_neg (by simp)]
   cases hq:u.eqb t with
   | true=>
    have:u=t:=Uw u t hq;subst this;rw [if_pos rfl];exact wpAny_bind (wpAny_rule (wpAny_pure (wpAny_pure (jS i e3))))
   | false=>
    rw [if_neg zAF];refine wpAny_bind (wpAny_rule (wpAny_pure ⟨rfl,rfl,fun j hj=>h1 j (zAN _ hj),fun j hj=>?_⟩));rcases h2 j hj with z | z
    ·rcases zAf.mp z with z | z
     ·subst z;refine .inr fun z=>?_;rw [e3] at z;cases z;rw [Uv] at hq;cases hq
     ·exact .inl z
    ·exact .inr z
  ·rintro b s' ⟨rfl,rfl,_,h2⟩;refine wpAny_pure (hno fun z=>?_);obtain ⟨j,hj⟩:=zBL.mp z;rcases h2 j (inPl j hj) with q | q
   ·cases q
   ·exact q hj
 have hitLoop:∀(f:Nat->Option (Option Nat)×Option Nat->Sem (ForInStep (Option (Option Nat)×Option Nat)))(g:Option (Option Nat)×Option Nat->Sem (Option Nat)),(∀ r,g (some r,none)=pure r)->(∀ h,g (none,h)=pure h) ->
   (∀ i u e (R:ForInStep (Option (Option Nat)×Option Nat)->Shared->Prop),es[i]? = some e->e.hash=X0 w t->ZO s.heap u e.key->u.depth<=3->u=t->R (.done (some (some i),none)) s->R (.yield (none,some i)) s->wpAny (model prog w) A (f i (none,none)) R E s) ->
   (∀ i u e hit (R:ForInStep (Option (Option Nat)×Option Nat)->Shared->Prop),es[i]? = some e->e.hash=X0 w t->ZO s.heap u e.key->u.depth<=3->u≠t->R (.yield (none,hit)) s->wpAny (model prog w) A (f i (none,hit)) R E s) ->
   wpAny (model prog w) A (forIn pl (none,none) f >>= g) Q E s:=fun f g g1 g2 f1 f2=>by
  refine wpAny_bind ?_;refine wpAny_forIn_list _ (fun rest b s'=>s'=s/\rest.Nodup/\(∀ i∈rest,i∈pl)/\((b=(none,none)/\∀ i∈pl,i∈rest\/ks[i]? ≠ some t)\/∃ j,b=(none,some j)/\ks[j]? = some t/\j∉rest)) _ ?_ ?_ _ _ ⟨rfl,pnd,fun _ z=>z,.inl ⟨rfl,fun _ z=>.inl z⟩⟩
  ·rintro i rest b s' ⟨rfl,nd,h1,h2⟩;obtain ⟨e,u,e1,e2,e3,e4,e5⟩:=ofPl i (h1 i (zAT ..));have nd':=zBQ.mp nd;have h1':∀ j∈rest,j∈pl:=fun j hj=>h1 j (zAN _ hj);by_cases hq:u=t
   ·have e3':=e3;rw [hq] at e3';rcases h2 with ⟨rfl,h2⟩ | ⟨j,rfl,hj,hn⟩
    ·refine f1 i u e _ e1 e2 e4 e5 hq ?_ ?_
     ·show wpAny _ _ (g (some (some i),none)) _ _ _;rw [g1];exact wpAny_pure (jS i e3')
     ·exact ⟨rfl,nd'.2,h1',.inr ⟨i,rfl,e3',nd'.1⟩⟩
    ·have:i=j:=x.uniq e3' hj;exact absurd (this ▸ zAT ..) hn
   ·rcases h2 with ⟨rfl,h2⟩ | ⟨j,rfl,hj,hn⟩
    ·refine f2 i u e none _ e1 e2 e4 e5 hq ⟨rfl,nd'.2,h1',.inl ⟨rfl,fun j hj=>?_⟩⟩;rcases h2 j hj with z | z
     ·rcases zAf.mp z with z | z
      ·subst z;exact .inr fun z=>hq (by rw [e3] at z;exact zAh.inj z)
      ·exact .inl z
     ·exact .inr z
    ·exact f2 i u e (some j) _ e1 e2 e4 e5 hq ⟨rfl,nd'.2,h1',.inr ⟨j,rfl,hj,fun z=>hn (zAN _ z)⟩⟩
  ·rintro b s' ⟨rfl,_,_,h2⟩;rcases h2 with ⟨rfl,h2⟩ | ⟨j,rfl,hj,hn⟩
   ·rw [g2];refine wpAny_pure (hno fun z=>?_);obtain ⟨j,hj⟩:=zBL.mp z;rcases h2 j (inPl j hj) with q | q
    ·cases q
    ·exact q hj
   ·rw [g2];exact wpAny_pure (jS j hj)
 have vs:(∃ a,v=.ref a)\/(∃ i tk,v=.int i tk)\/∃ y tk,v=.str y tk/\t=.str y:=by
  cases t with
  | int i=>rw [ZO] at hv;obtain ⟨tk,e⟩:=hv;exact .inr (.inl ⟨i,tk,e⟩)
  | str y=>rw [ZO] at hv;obtain ⟨tk,e⟩:=hv;exact .inr (.inr ⟨y,tk,e,rfl⟩)
  | tup l=>rw [ZO] at hv;obtain ⟨a,_,e,_⟩:=hv;exact .inl ⟨a,e⟩
 rcases vs with ⟨a,rfl⟩ | ⟨i,tk,rfl⟩ | ⟨y,tk,rfl,ht⟩
 case' inl=>
  dsimp only;rw [if_neg (by simp [carriedByValue])]
  have hany:¬ (es.any fun e=>e.key==Value.ref a&&e.hash != X0 w t)=true:=by
   rw [<-Array.any_toList,zB5];rintro ⟨e,hin,hc⟩;obtain ⟨j,hj⟩:=zBL.mp hin;rw [zAj] at hj;obtain ⟨u,_,e2,e3,_⟩:=x.ent j e hj;rw [zAR] at hc;rw [eq_of_beq hc.1] at e3;have:u=t:=Uw _ _ (ZO.inj _ _ _ e3 hv);rw [e2,this] at hc;simp at hc
  rw [if_neg hany];refine wpAny_ite_split (fun _=>wpAny_bind (wpAny_pure ?_)) (fun _=>wpAny_bind (M0 ⟨t,hv,by lia⟩ stored ?_))
 case' inr.inl=>
  dsimp only;refine wpAny_ite_split (fun _=>plain) (fun _=>?_);refine wpAny_ite_split (fun _=>wpAny_bind (wpAny_pure ?_)) (fun _=>wpAny_bind (M0 ⟨t,hv,by lia⟩ stored ?_))
 case' inr.inr=>
  have byStr:wpAny (model prog w) A (foundByValue d (.str y tk) es y) Q E s:=by
   unfold foundByValue
   cases hf:es.findIdx? (fun e=>e.key.isStr y) with
   | none=>
    refine wpAny_pure (hno fun z=>?_);obtain ⟨j,hj⟩:=zBL.mp z;obtain ⟨e,e1,e2,e3,_⟩:=x.get hj;have:=Array.findIdx?_eq_none_iff.mp hf e (Array.mem_of_getElem? e1);rw [ht,ZO] at e3;obtain ⟨tk',ek⟩:=e3;rw [ek] at this;simp [Value.isStr] at this
   | some i=>
    obtain ⟨hlt,hi,_⟩:=Array.findIdx?_eq_some_iff_getElem.mp hf;have e1:es[i]? = some es[i]:=zAY hlt;obtain ⟨u,e2,e3,e4,e5⟩:=x.ent i _ e1;have hut:u=t:=by
     have hs:∃ tk',es[i].key=.str y tk':=by
      cases q:es[i].key with
      | str z tz=>rw [q] at hi;simp [Value.isStr] at hi;exact ⟨tz,by rw [hi]⟩
      | _=>rw [q] at hi;simp [Value.isStr] at hi
     obtain ⟨tk',ek⟩:=hs;have hk:ZO s.heap (.str y) es[i].key:=by rw [ZO];exact ⟨tk',ek⟩
     rw [ht];exact Uw _ _ (ZO.inj _ _ _ e4 hk)
    dsimp only;rw [e1];dsimp only;refine wpAny_bind (wpAny_dictEpoch ho hd (wpAny_bind (eq_at u _ e4 e5 prog w _ _ (wpAny_bind (wpAny_dictEpoch ho hd ?_)))));rw [if_neg (by simp),hut,Uv,if_pos rfl]
    exact wpAny_bind (wpAny_rule (wpAny_pure (jS i (by rw [e2,hut]))))
  dsimp only;refine wpAny_ite_split (fun _=>byStr) (fun _=>?_);refine wpAny_ite_split (fun _=>plain) (fun _=>?_);refine wpAny_ite_split (fun _=>wpAny_bind (wpAny_pure ?_)) (fun _=>wpAny_bind (M0 ⟨t,hv,by lia⟩ stored ?_))
 all_goals
  rw [if_neg (by simp)]
  refine hitLoop _ _ (fun r=>rfl) (fun h=>rfl) (fun i u e R e1 e2 e4 e5 hq r1 r2=>?_) (fun i u e hit R e1 e2 e4 e5 hq r1=>?_)
  ·rw [e1];dsimp only;rw [e2,if_pos (by simp)]
   refine wpAny_bind (wpAny_dictEpoch ho hd (wpAny_bind (eq_at u e e4 e5 prog w _ _ (wpAny_bind (wpAny_dictEpoch ho hd ?_)))));rw [if_neg (by simp),hq,Uv,if_pos rfl]
   simp only [Option.isSome_none,zA3,if_false];refine wpAny_bind (wpAny_rule (wpAny_ite_split (fun _=>wpAny_pure r1) (fun _=>wpAny_pure r2)))
  ·rw [e1];dsimp only;rw [e2,if_pos (by simp)]
   refine wpAny_bind (wpAny_dictEpoch ho hd (wpAny_bind (eq_at u e e4 e5 prog w _ _ (wpAny_bind (wpAny_dictEpoch ho hd ?_)))));have hf:u.eqb t=false:=by
    cases q:u.eqb t with
    | false=>rfl
    | true=>exact absurd (Uw _ _ q) hq
   rw [if_neg (by simp),hf,if_neg zAF]
   refine wpAny_bind (wpAny_rule ?_);rw [if_neg (by simp)]
   exact wpAny_pure r1
end
end Tw
namespace L2
open PySem PySem.Spec PyProof.Rows
theorem Ze.there{P:Program}{w:World}{H:Hp}{h:Heap}{a:Addr}:∀{o:HO},Ze P w H h a o->∃ ob,h.get? a=some ob:=by
 intro o x
 induction o with
 | lst xs=>obtain ⟨z,ji,n,r,e⟩:=x;exact ⟨_,e⟩
 | tup xs=>obtain ⟨z,ji,r,ob,e,c⟩:=x;exact ⟨_,e⟩
 | dK kvs=>obtain ⟨z,y,vs,r,ob,es,ep,e,c⟩:=x;exact ⟨_,e⟩
 | dT kvs=>obtain ⟨z,y,xs,r,ob,es,ep,e,c⟩:=x;exact ⟨_,e⟩
 | set S n=>obtain ⟨ob,es,ep,t,e,c⟩:=x;exact ⟨_,e⟩
 | ins C dx fs=>obtain ⟨d,z,ne,e,_⟩:=x;exact ⟨_,e⟩
 | own y=>exact x
 | xd fs=>obtain ⟨mA,⟨od,es,ep,e,c⟩,r⟩:=x;exact ⟨_,e⟩
 | rng lo hi=>obtain ⟨t,u,v,e⟩:=x;exact ⟨_,e⟩
 | frz ob u ih=>exact ⟨_,x.1⟩
 | tbl ps=>exact ⟨_,x⟩
 | met f y=>exact ⟨_,x⟩
 | ext φ=>exact x.2.1
theorem Yi.there{P:Program}{w:World}{H:Hp}{h:Heap}{a:Addr}(x:Yi P w H h)(n:H a≠none):∃ ob,h.get? a=some ob:=by
 cases e:H a with
 | none=>exact absurd e n
 | some o=>exact Ze.there (x a o e)
theorem Yi.keptT{P:Program}{w:World}{H:Hp}{h h':Heap}(x:Yi P w H h)(k:∀ b u,h.get? b=some u->H b≠none->h'.get? b=some u):Yi P w H h':=fun a o e=>
 (x a o e).stay (fun b u hb q=>k b u q (by
  rcases hb with rfl | hb
  ·rw [e];exact fun z=>nomatch z
  ·rw [hb];exact fun z=>nomatch z)) (fun _ q=>q) fun _ _ q=>q
section
variable{X:Cx}{pins:List (Addr×Obj)}{σ:St}{H H':Hp}{s s':Shared}{E:XK}
theorem ZI.noloc(I:ZI X pins σ H s):X.s₀.heap.get? X.env.locals=none:=zBo I.ok.above
theorem Np(I:ZI X pins σ H s):∀ b∈frs X.stack,∀ o,s.heap.get? b=some o->∀ vs,o.data≠.fields vs:=fun b hb o q vs z=>by
 obtain ⟨_,o',e,d⟩:=I.stack.mem hb;rw [q] at e;cases e;exact d vs z
end
end L2
namespace L2
open PySem PySem.Spec PySem.W PyProof.Rows
def X5(x C:Addr)(h:Heap):Prop:=∃ o,h.get? x=some o/\o.cls=.ref C
theorem X5.ty{x C:Addr}{h:Heap}(I:X5 x C h)(M:Model):Looks M h (typeOf (.ref x)) (.ref C):=by
 obtain ⟨o,e,c⟩:=I;rw [<-c];exact Looks.andThen (Looks.ld e) Looks.now
structure Xt(K:Frag)(C:Addr):Prop where
 ga:findIn K (.ref C) "__getattribute__" = some (some (.builtin "BaseException.__getattribute__"))
 hk:findIn K (.ref C) "__getattr__" = some none
 mB:mroIn K C (.type "BaseException")=some true
 mO:mroIn K C (.type "object")=some true
 ca:findIn K (.ref C) "__class__" = some (some (.builtin "object.__class__"))
 hn:specialIn K (.builtin "object.__class__") "__get__" = some (some (.builtin "getset_descriptor.__get__"))
 tk:takesIn K (.builtin "object.__class__")=some true
section
variable{prog:Program}{w:World}{A:Around}{E:ja}{s:Shared}{K:Frag}{x C:Addr}
theorem BG{nv:Value}{Q:Unit->Shared->Prop}(X:K.In s.heap)(I:X5 x C s.heap)(hm:mroIn K C (.type "BaseException")=some true)(hq:Q () s):
  wpAny (model prog w) A (checkBuiltinCall "BaseException.__getattribute__" ⟨[.ref x,nv],[]⟩) Q E s:=by
 obtain ⟨hh,g,d,t,os⟩:=s;have k1:builtinKind "BaseException.__getattribute__" = some .slot:=by decide +kernel
 have k2:splitId "BaseException.__getattribute__" = some ("BaseException","__getattribute__"):=by decide +kernel
 have la:=I.ty (model prog w);have lb:=looks_mroIn (M:=model prog w) X hm;have lc:=F.args_bexc_ga (.ref x) nv;simp only [checkBuiltinCall,k1,k2];refine wpAny_bind ?_;unfold isInstance
 repeat lk
 exact hq
theorem GZ{name:Str}{tk:Tok}{r:Builtin.ObjectAttr.Found}{Q:Fin->Shared->Prop}(X:K.In s.heap)(I:X5 x C s.heap)(fd:Looks (model prog w) s.heap (Builtin.ObjectAttr.find (.ref x) (.ref C) name) r)(h:match r with
   | .value v=>Q (.done (.ret v)) s
   | .bind g a=>wpAny (model prog w) A (call g [a,.ref x,.ref C]) (fun v s'=>Q (.done (.ret v)) s') E s
   | .missing=>False):wpAny (model prog w) A (Builtin.«object.__getattribute__» ⟨[.ref x,.str name tk],[]⟩) Q E s:=by
 obtain ⟨hh,g,d,t,os⟩:=s;have la:=I.ty (model prog w);unfold Builtin.«object.__getattribute__»;refine wpAny_bind (wpAny_pure ?_);refine wpAny_bind (wpAny_pure ?_);refine wpAny_bind (la.at ?_);refine wpAny_bind (fd.at ?_)
 cases r with
 | value v=>exact wpAny_pure h
 | bind g a=>
  show wpAny _ _ (holding [a] (call g [a,.ref x,.ref C]) >>= ret) _ _ _;exact wpAny_bind (wpAny_holding (wpAny_mono h (fun v s' z=>wpAny_pure z) fun _ _ z=>z))
 | missing=>exact h.elim
theorem Io{name:Str}{r:Builtin.ObjectAttr.Found}{expr fill:Bool}{tk:Tok}{Q:ja}(X:K.In s.heap)(I:X5 x C s.heap)(e:Xt K C)(fd:Looks (model prog w) s.heap (Builtin.ObjectAttr.find (.ref x) (.ref C) name) r)(h:match r with
   | .value v=>handedIn v=true/\Q v s
   | .bind g a=>wpAny (model prog w) A.in1 (call g [a,.ref x,.ref C]) (fun v s'=>handedIn v=true/\Q v s') (fun _ _=>False) s
   | .missing=>False):wpAny (model prog w) A (getAttrBy (.ref x) (.str name tk) fill expr) Q E s:=by
 have FA:=F.excAttr_ValueError;have la:=I.ty (model prog w);have lb:=looks_findIn (M:=model prog w) X e.ga;have lc:=looks_findIn (M:=model prog w) X e.hk;have ne:(Value.builtin "BaseException.__getattribute__" == Value.builtin "object.__getattribute__")=false:=by decide +kernel
 obtain ⟨hh,g,d,t,os⟩:=s;unfold getAttrBy;refine wpAny_holding (wpAny_bind (la.at (wpAny_bind (lb.at ?_))));show wpAny _ _ (if (true&&(Value.builtin "BaseException.__getattribute__" == Value.builtin "object.__getattribute__"))=true then _ else getAttrByItsOwn (.ref x) (.str name tk) (.ref C) (.builtin "BaseException.__getattribute__") fill expr) _ _ _
 rw [ne,if_neg (by decide)]
 unfold getAttrByItsOwn hookBefore;refine wpAny_bind (lc.at ?_);refine wpAny_bind (wpAny_attempt (wpAny_holding ?_));unfold callGetattribute;rw [if_neg (by cases expr <;> decide)]
 unfold boundAndCalled;rw [FA.ga.bind (.ref x)];refine wpAny_bind (wpAny_pure ?_);refine wpAny_call (codeAny_call_builtin FA.ga.plain F.entry_bexc_ga (BG X I e.mB (GZ X I fd ?_)))
 cases r with
 | value v=>exact handed_on h.1 h.2
 | bind g a=>exact wpAny_mono h (fun v s' z=>handed_on z.1 z.2) fun _ _ z=>z.elim
 | missing=>exact h.elim
theorem EA{R:Result->Shared->Prop}{tp:Value}(X:K.In s.heap)(I:X5 x C s.heap)(e:Xt K C)(h:R (.ok (.ret (.ref C))) s):
  codeAny (model prog w) A (.call (.builtin "getset_descriptor.__get__") ⟨[.builtin "object.__class__",.ref x,tp],[]⟩) R s:=by
 obtain ⟨hh,gs,dr,tt,oss⟩:=s;have la:=I.ty (model prog w);have lb:=looks_mroIn (M:=model prog w) X e.mO;refine codeAny_call_builtin KF.slot_gs.plain KF.entry_gs ?_;refine KF.slot_gs.check _ _ _ _ _ _ _ _ KF.type_class (KF.args_gs _ _ _) ?_;unfold Builtin.«getset_descriptor.__get__»;unfold Builtin.Getset_descriptor.descrGet;rw [dga_obj];refine wpAny_bind (wpAny_pure ?_);unfold Builtin.Getset_descriptor.descrGetter;unfold Builtin.Getset_descriptor.descrCheckInstance;unfold Builtin.Getset_descriptor.descrNameAndClass;unfold isInstance;simp only [KF.owner_class]
 repeat lk
 refine ⟨Code.quiet_builtin _ (by decide +kernel),?_⟩
 refine codeAny_builtin KF.entry_class ?_;unfold Builtin.«object.__class__»;unfold shownTypeOf
 repeat lk
 exact h
theorem Cp(X:K.In s.heap)(e:Xt K C)(M:Model):Looks M s.heap (Builtin.ObjectAttr.find (.ref x) (.ref C) "__class__") (.bind (.builtin "getset_descriptor.__get__") (.builtin "object.__class__")):=by
 have la:=looks_findIn (M:=M) X e.ca;have lb:=looks_specialIn (M:=M) X e.hn;have lc:=looks_takesIn (M:=M) X e.tk;refine Looks.andThen la (Looks.andThen lb ?_);exact Looks.andThen (show Looks M s.heap (Builtin.ObjectAttr.dataDescriptor? (some (.builtin "object.__class__")) (some (.builtin "getset_descriptor.__get__"))) (some (_,_)) from Looks.andThen lc Looks.now) (Looks.tag Looks.now)
end
theorem Xt.cls{K:Frag}{C:Addr}(e:Xt K C):∃ cl d cd sl,K.lookup C=some ⟨cl,d,.cls cd,sl⟩:=by
 obtain ⟨cd,h,_⟩:=zDG.mp e.mB;unfold clsIn at h;split at h
 ·rename_i c' d' cd' sl' ho
  exact ⟨c',d',cd',sl',ho⟩
 ·cases h
theorem F2{K:Frag}{x C:Addr}(e:Xt K C):KitX K (.ref x) (.ref C) (X5 x C) where
 ty:=fun M _ _ I=>I.ty M
 it:=fun _ _ X _=>by
  obtain ⟨cl,d,cd,sl,ho⟩:=e.cls;intro A' Q' E' s' k q;unfold isType loadHead;have z:=k _ _ (X _ _ ho);exact wpAny_bind (wpAny_loadPart z (wpAny_pure q))
 ne:=fun h tp dd ji n sl X htp=>by
  obtain ⟨cl,d,cd,sl',ho⟩:=e.cls
  cases q:(Value.ref C==Value.ref tp) with
  | false=>rfl
  | true=>
   have e2:C=tp:=Value.ref.inj (eq_of_beq q);rw [<-e2,X _ _ ho] at htp;cases htp
 ca:=fun{prog w A E Q s} X I k=>by
  unfold getAttr? getAttrBy?;refine wpAny_bind (wpAny_mkText (wpAny_bind (wpAny_attempt ?_)));refine Io (s:={ s with toks:=s.toks+1 }) X I e (Cp (s:={ s with toks:=s.toks+1 }) X e _) ?_;exact wpAny_call (EA (s:={ s with toks:=s.toks+1 }) X I e ⟨rfl,wpAny_pure k⟩)
end L2
namespace L2
open PySem PySem.Spec PyProof.Rows
def Cx.held(X:Cx)(ea:Addr)(E:ja):Cx:={ X with A:=X.A.mark (some (.ref ea)),calm:=false,xe:=E }
section
variable{X:Cx}{pins:List (Addr×Obj)}{σ:St}{H H':Hp}{s s':Shared}{ea:Addr}{E:ja}
theorem ZI.held(I:ZI X pins σ H s)(ea:Addr)(E:ja):ZI (X.held ea E) pins σ H s:=
 ⟨⟨I.ok.mod,I.ok.kind,I.ok.glob,I.ok.blt,I.ok.above,I.ok.inj,I.ok.has,I.ok.cab,fun z=>absurd z zAF,I.ok.frames,I.ok.stk,I.ok.exf,I.ok.bs,I.ok.bsz,I.ok.noex,I.ok.exfs,I.ok.funs,I.ok.frf⟩,
  I.os,I.bare,I.base,I.loc,I.cell,I.free,I.freeC,I.pin,I.hok,I.len⟩
theorem ZI.unheld(ok:X.Ok)(I:ZI (X.held ea E) pins σ H s):ZI X pins σ H s:=⟨ok,I.os,I.bare,I.base,I.loc,I.cell,I.free,I.freeC,I.pin,I.hok,I.len⟩
theorem ZI.track{a:Addr}{o:HO}(I:ZI X pins σ H s)(h0:X.s₀.heap.get? a=none)(hl:a≠X.env.locals)(hc:∀ x c,X.env.cells.lookup x=some c->c≠a)(hp:∀ p∈X.pn++pins,p.1≠a)(hn:H a=none)(new:Ze X.prog X.w (upd H a o) s.heap a o):ZI X pins σ (upd H a o) s:=by
 have nt:∀{b:Addr}{u:HO},H b=some u->b≠a:=fun{b u} e z=>by rw [z,hn] at e;cases e
 refine ⟨I.ok,I.os,I.bare,⟨I.base.keep,I.base.slot,fun b ob q n hx=>?_,I.base.there,fun b xs q=>?_,fun b ob u q=>?_,fun b ps q=>?_⟩,I.loc,I.cell,?_,fun x c e=>?_,fun p hp'=>?_,fun b u e=>?_,I.len⟩
 ·rw [ZX (fun z=>by rw [z,h0] at q;cases q)]
  exact I.base.free b ob q n hx
 ·have e:=I.base.tups b xs q;rw [ZX (nt e)];exact e
 ·have e:=I.base.frzs b ob u q;rw [ZX (nt e)];exact e
 ·obtain ⟨more,e⟩:=I.base.tbls b ps q;exact ⟨more,by rw [ZX (nt e)];exact e⟩
 ·rw [ZX (Ne.symm hl)];exact I.free
 ·rw [ZX (hc x c e)];exact I.freeC x c e
 ·obtain ⟨e,n,r⟩:=I.pin p hp';exact ⟨e,by rw [ZX (hp p hp')];exact n,r⟩
 ·by_cases hb:b=a
  ·subst hb;rw [ZN] at e;cases e;exact new
  ·rw [ZX hb] at e;exact (I.hok b u e).stay (fun _ _ _ q=>q) (fun c q=>by rw [ZX (nt q)];exact q) fun c xs q=>by rw [ZX (nt q)];exact q
theorem ZI.goes{i:Nat}{n:Str}{M:Model}{A:Around}{Q:Unit->Shared->Prop}{pos:Pos}(I:ZI X pins σ H s)(hN:X.N.Nodup)(hi:X.N[i]? = some n)(hx:X.env.scope.names.lookup n=some .local)(h:∀ s',ZI X pins (σ.set i none) H s'->Q () s'):wpAny M A (do bindName X.env n .none;unbindBehindTheSuite X.env n pos) Q E s:=by
 obtain ⟨m,hn,hl⟩:=id I.loc;have hcls:(X.env.scope.kind==.class || (X.env.scope.kind==.module&&X.env.locals != X.env.globals))=false:=by rw [I.ok.kind];rfl
 have hiσ:i<σ.length:=by rw [I.len];exact (zAK.mp hi).1
 refine wpAny_nameGoes_keeps hx hn hcls fun h' v hn' hs=>h _ ?_;obtain ⟨oL,_,_,hoL,_⟩:=id hn;have neL:∀ b o,X.s₀.heap.get? b=some o->b≠X.env.locals:=fun b o e=>zAg (zAl (zAP e) I.ok.above);refine ⟨I.ok,I.os,I.bare,⟨fun b o e n hb hx=>?_,fun b o e n hb hx=>?_,I.base.free,fun b o e hx=>?_,I.base.tups,I.base.frzs,I.base.tbls⟩,⟨_,hn',fun j y v' e1 e2 e3=>?_⟩,fun y c e=>?_,I.free,I.freeC,fun p hp=>?_,fun b ob e=>?_,by simpa using I.len⟩
 ·exact (hs.2 b (neL b o e)).trans (I.base.keep b o e n hb hx)
 ·obtain ⟨sl,e1⟩:=I.base.slot b o e n hb hx;exact ⟨sl,(hs.2 b (neL b o e)).trans e1⟩
 ·obtain ⟨o',e1⟩:=I.base.there b o e hx;exact ⟨o',(hs.2 b (neL b o e)).trans e1⟩
 ·by_cases hj:j=i
  ·subst hj;rw [zCR hiσ] at e2;cases e2
  ·rw [zCc (Ne.symm hj)] at e2;obtain ⟨u',r',q⟩:=hl j y v' e1 e2 e3;refine ⟨u',r',?_⟩;rcases q with ⟨k,e⟩ | ⟨k,c,e,z⟩
   ·refine .inl ⟨k,?_⟩;have:y≠n:=fun e=>hj (MV hN e1 (e ▸ hi));simp [this,e]
   ·exact .inr ⟨k,c,e,z.sameBut hs (I.cne y c e)⟩
 ·obtain ⟨w',z⟩:=I.cell y c e;exact ⟨w',z.sameBut hs (I.cne y c e)⟩
 ·obtain ⟨e,n,ne,nf,d⟩:=I.pin p hp;exact ⟨(hs.2 p.1 ne).trans e,n,ne,nf,d⟩
 ·refine (I.hok b ob e).stay (fun c w' hc q=>(hs.2 c ?_).trans q) (fun _ q=>q) fun _ _ q=>q;rintro rfl;rcases hc with rfl | hc
  ·rw [I.free] at e;cases e
  ·rw [I.free] at hc;cases hc
end
section
variable{prog:Program}{w:World}{A:Around}{E:ja}{s:Shared}{K:zAA}{x C CB:Addr}
theorem EL{b:Bool}{Q:Bool->Shared->Prop}(X:K.In s.heap)(I:X5 x C s.heap)(ht:zBA K (.ref CB)=some (.type "type"))(hB:zAw K CB (.type "BaseException")=some true)(hC:zAw K C (.ref CB)=some b)(h:Q b s):wpAny (model prog w) A (excMatches (.ref x) (.ref CB)) Q E s:=by
 obtain ⟨hh,g,d,t,os⟩:=s;have L0:=I.ty (model prog w);have L1:=zB6 (M:=model prog w) X hB;have L2:=zB6 (M:=model prog w) X hC;have L3:=zDL (M:=model prog w) X ht;have f:=tc_notTuple;have L4:zAz (model prog w) hh (isType (.ref CB)) true:=by
  obtain ⟨cdD,hcD,_⟩:=zDG.mp hB;unfold PySem.W.clsIn at hcD;split at hcD
  ·rename_i c' d' cd' sl' ho
   intro A' Q' E' s' k q;unfold isType loadHead;exact wpAny_bind (wpAny_loadPart (k _ _ (X _ _ ho)) (wpAny_pure q))
  ·cases hcD
 unfold excMatches isInstance isExcClass;refine wpAny_bind (wpAny_bind (L3.at ?_));rw [f];refine wpAny_pure ?_;rw [if_neg zAF];refine wpAny_bind (wpAny_pure ?_);simp only [zDB,List.forIn_nil]
 cases b with
 | true=>
  repeat (first | lk | wp_step)
  all_goals first | exact h | trace_state
 | false=>
  repeat (first | lk | wp_step)
  all_goals first | exact h | trace_state
end
end L2
namespace Tw
open PySem
inductive TG where
 | int (i:Int)
 | str (x:Str)
 | tup (l:List TG)
 | odd (n:String)
mutual
def TG.fits:TG->Nat->Bool
 | .int i,_=>decide (i.natAbs<10 ^ 60)
 | .str x,_=>UN x
 | .tup l,r=>decide (0<r)&&(decide (l.length<=4)&&gfitsL l (r - 1))
 | .odd _,_=>false
def gfitsL:List TG->Nat->Bool
 | [],_=>true
 | t :: l,r=>t.fits r&&gfitsL l r
end
theorem Jz(r:Nat):∀ l:List TG,gfitsL l r=l.all fun t=>t.fits r
 | []=>by simp [gfitsL]
 | t :: l=>by rw [gfitsL,zCN,Jz r l]
mutual
def KT.emb:KT->TG
 | .int i=>.int i
 | .str x=>.str x
 | .tup l=>.tup (embL l)
def embL:List KT->List TG
 | []=>[]
 | t :: l=>t.emb :: embL l
end
theorem OZ:∀ l:List KT,embL l=l.map KT.emb
 | []=>by rw [embL];rfl
 | t :: l=>by rw [embL,OZ l];rfl
mutual
theorem Mz:∀(t:KT)(r:Nat),t.emb.fits r=t.fits r
 | .int i,r=>by rw [KT.emb,TG.fits,KT.fits]
 | .str x,r=>by rw [KT.emb,TG.fits,KT.fits]
 | .tup l,r=>by rw [KT.emb,TG.fits,KT.fits,embL_fits l (r - 1),OZ,zAD]
theorem embL_fits:∀(l:List KT)(r:Nat),gfitsL (embL l) r=fitsL l r
 | [],r=>by rw [embL,gfitsL,fitsL]
 | t :: l,r=>by rw [embL,gfitsL,fitsL,Mz t r,embL_fits l r]
end
mutual
def TG.neat:TG->Prop
 | .int _=>True
 | .str x=>x.length<=1000
 | .tup l=>l.length<=5/\neatL l
 | .odd _=>True
def neatL:List TG->Prop
 | []=>True
 | t :: l=>t.neat/\neatL l
end
theorem IU:∀{l:List TG}{t:TG},neatL l->t∈l->t.neat
 | [],_,_,h=>by cases h
 | u :: l,t,h,hm=>by
  rw [neatL] at h;rcases zAf.mp hm with e | e
  ·subst e;exact h.1
  ·exact IU h.2 e
mutual
theorem M5:∀(t:KT)(r:Nat),t.fits r=true->t.emb.neat
 | .int i,r,h=>by rw [KT.emb,TG.neat];trivial
 | .str x,r,h=>by
  rw [KT.fits] at h;rw [KT.emb,TG.neat];have:=(ZLx h).1;exact zBC this (by decide)
 | .tup l,r,h=>by
  rw [KT.fits,zAR,zAR] at h;rw [KT.emb,TG.neat,OZ,zAD,<-OZ];have:=of_decide_eq_true h.2.1;exact ⟨by lia,embL_neat l (r - 1) h.2.2⟩
theorem embL_neat:∀(l:List KT)(r:Nat),fitsL l r=true->neatL (embL l)
 | [],r,h=>by rw [embL,neatL];trivial
 | t :: l,r,h=>by
  rw [fitsL,zAR] at h;rw [embL,neatL];exact ⟨M5 t r h.1,embL_neat l r h.2⟩
end
end Tw
namespace L2
open PySem PySem.Spec PyProof.Rows
section
variable{X:Cx}
theorem ZI.big{pins:List (Addr×Obj)}{σ:St}{H:Hp}{s:Shared}(I:ZI X pins σ H s):sysModules<s.heap.objs.size:=by
 have h:mainGlobals<s.heap.objs.size:=(I.mod.glob.keeps I.bk).lt;exact zCx (by decide) h
theorem G5{P:Program}{w:World}{H:Hp}(h:Heap)(hb:sysModules<h.objs.size):Ze P w H (h.push { cls:=.type "dict",data:=.dict #[] }) h.objs.size (.dK []):=
 ⟨zAd _,beq_eq_false_iff_ne.mpr (Ne.symm (zAg hb)),[],.nil,Heap.DictOf.new h⟩
def ZOA:TE:=fun _ H Q=>∀ p,H p=none->Q (.ref p) (upd H p (.dK []))
theorem Jv{pos:Pos}:PE X (.Dict [] [] pos) ZOA:=fun pins s σ H Q I h=>
 wpAny_Dict_empty ⟨.ref s.heap.objs.size,_,I.laid (a:=s.heap.objs.size) (o:=.dK []) (t':=s.toks) (fun _ _ q=>zAG _ q) (zAH _) (G5 s.heap I.big),rfl,h _ (I.hok.fresh (zAH _))⟩
def QJ(x:Str)(n:Int):Str:=⟨(zBf n.toNat x.cps).foldl (· ++ ·) #[]⟩
theorem JU(a:Array Nat):∀(k:Nat)(b:Array Nat),((zBf k a).foldl (· ++ ·) b).size=b.size+k * a.size
 | 0,b=>by simp
 | k+1,b=>by
  rw [List.replicate_succ,zDC,JU a k,Array.size_append,Nat.succ_mul]
  lia
theorem GT:YX X (binaryOp .Mult) (fun x y H Q=>∃ i n,x=.str i/\y=.int n/\i.length=1/\2<=n/\n<=1000/\Q (.str (QJ i n)) H):=by
 intro pins s σ H x y v u Q I rx ry h;obtain ⟨i,n,rfl,rfl,hi,h2,h3,q⟩:=h;obtain ⟨t,rfl⟩:=rx;obtain ⟨t',rfl⟩:=ry;have n1:¬ n<1:=by lia
 have n2:¬ ((n==1 || i.length==0)=true):=by rw [hi];simp;lia
 have sz:(QJ i n).length<=sizeLine:=by
  show ((zBf n.toNat i.cps).foldl (· ++ ·) #[]).size<=sizeLine;have e:i.cps.size=1:=hi;rw [JU,e];exact zBH (Yp (by simp;lia))
 refine PySem.P.mul_str ?_ (fun _ _=>?_) (fun _ _=>?_) ?_
 ·rw [decide_eq_false (by lia),decide_eq_false (by lia)];rfl
 ·rw [hi];have:(1:Int)<=(2 ^ 63 - 1) / n:=(Int.le_ediv_iff_mul_le (by lia)).mpr (by lia)
  lia
 ·rw [hi];unfold Builtin.Str.tooLong sizeLine;exact decide_eq_false (by lia)
 ·rw [if_neg n1,if_neg n2];exact ⟨sz,⟨.str (QJ i n),H,I.tok _,⟨_,rfl⟩,q⟩⟩
def cV:V->Value
 | .ty n=>.type n
 | .ref a=>.ref a
 | _=>.none
def KH:V->Bool
 | .ty _=>true
 | .ref _=>true
 | _=>false
theorem G4{c:V}{u:Value}(r:ZR c u)(h:KH c=true):u=cV c:=by
 cases c with
 | ty n=>exact r
 | ref a=>exact r
 | _=>cases h
theorem Gi{K:zAA}{base:Heap}{mg:jb}{x:Str}{C:Addr}{bmB:jd}{newId:String}(kin:K.In base)(hb:mg x=some (.ref C))(q:zCd K C bmB newId=true):OwnCls x C bmB newId mg base:=by
 refine ⟨hb,?_⟩;unfold zCd at q;split at q
 ·rename_i dd cd sl ho
  split at q
  ·rename_i C' bm k0 k1 k2 k3 n k5 hm hs
   rw [zAR,zAR,zAR,zAR,zAR] at q;obtain ⟨⟨⟨⟨⟨q1,q2⟩,q3⟩,q4⟩,q5⟩,q6⟩:=q;cases eq_of_beq q1;cases eq_of_beq q2;have q3':cd.hasDel=false:=by simpa using q3
   have q6':=eq_of_beq q6;obtain ⟨nm,bs,mro,ns,qn,hd,sn,sub,ab,col,del⟩:=cd;dsimp only at hm q3' q5 q6';subst hm q3';have hsl:sl=#[k0,k1,k2,k3,some (.builtin newId),k5]:=by
    obtain ⟨l⟩:=sl;simp only at hs;rw [hs]
   subst hsl;refine ⟨bm,ns,nm,qn,bs,hd,sn,sub,ab,col,dd,k0,k1,k2,k3,k5,base.nsMap ns,kin _ _ ho,?_⟩;exact ⟨.of_isNs (PySem.W.isNs_of_in kin q5),PySem.W.nsMap_none_of_in kin q5 q6',zDU kin q4⟩
  ·cases q
 ·cases q
end
section
variable{κ:Type}[DecidableEq κ]
def YJ(kvs:List (κ×V))(k:κ):jf:=(kvs.find? fun kv=>decide (kv.1=k)).map (·.2)
def XD(kvs:List (κ×V))(k:κ)(v:V):List (κ×V):=
 if (kvs.any fun kv=>decide (kv.1=k))=true then kvs.map (fun kv=>if kv.1=k then (kv.1,v) else kv) else kvs++[(k,v)]
def Uu(kvs:List (κ×V))(k:κ):List (κ×V):=kvs.filter fun kv=>decide (kv.1≠k)
theorem Ud{p:κ×V}{r:List (κ×V)}{k:κ}(e:p.1=k):YJ (p :: r) k=some p.2:=by simp [YJ,zBi,e]
theorem UR{p:κ×V}{r:List (κ×V)}{k:κ}(e:¬ p.1=k):YJ (p :: r) k=YJ r k:=by simp [YJ,zBi,e]
theorem Qx(k:κ):∀ kvs:List (κ×V),(kvs.any fun kv=>decide (kv.1=k))=(YJ kvs k).isSome
 | []=>rfl
 | p :: r=>by
  rw [zCM];by_cases e:p.1=k
  ·simp only [Ud e,decide_eq_true e,Bool.true_or,Option.isSome_some]
  ·rw [UR e,decide_eq_false e,Bool.false_or];exact Qx k r
theorem IA(k j:κ)(y:V):∀ kvs:List (κ×V),YJ (kvs.map fun kv=>if kv.1=k then (kv.1,y) else kv) j=(YJ kvs j).map fun x=>if j=k then y else x
 | []=>rfl
 | p :: r=>by
  have ih:=IA k j y r;rw [zAn];by_cases h:p.1=k
  ·rw [if_pos h];by_cases e:p.1=j
   ·rw [Ud (p:=(p.1,y)) e,Ud e,zBX,if_pos (e.symm.trans h)]
   ·rw [UR (p:=(p.1,y)) e,UR e,ih]
  ·rw [if_neg h];by_cases e:p.1=j
   ·rw [Ud (p:=p) e,Ud e,zBX,if_neg (fun z=>h (e.trans z))]
   ·rw [UR (p:=p) e,UR e,ih]
theorem Ko(k j:κ)(y:V):∀ kvs:List (κ×V),YJ kvs k=none->YJ (kvs++[(k,y)]) j=if j=k then some y else YJ kvs j
 | [],_=>by
  by_cases e:k=j
  ·rw [if_pos e.symm];exact Ud (p:=(k,y)) e
  ·rw [if_neg (fun z=>e z.symm)];exact UR (p:=(k,y)) e
 | p :: r,hn=>by
  rw [zCQ];have hk:¬ p.1=k:=fun z=>by rw [Ud z] at hn;cases hn
  rw [UR hk] at hn;have ih:=Ko k j y r hn;by_cases e:p.1=j
  ·rw [Ud e,Ud e,if_neg (fun z=>hk (e.trans z))]
  ·rw [UR e,UR e,ih]
theorem Oi(kvs:List (κ×V))(k j:κ)(y:V):YJ (XD kvs k y) j=if j=k then some y else YJ kvs j:=by
 unfold XD;by_cases a:(kvs.any fun kv=>decide (kv.1=k))=true
 ·rw [if_pos a,IA];rw [Qx] at a;by_cases e:j=k
  ·obtain ⟨x,hx⟩:=zBt.mp a;rw [if_pos e,e,hx,zBX,if_pos rfl]
  ·rw [if_neg e]
   cases YJ kvs j with
   | none=>rfl
   | some x=>rw [zBX,if_neg e]
 ·rw [if_neg a];refine Ko k j y kvs ?_;rw [Qx] at a
  cases q:YJ kvs k with
  | none=>rfl
  | some x=>rw [q] at a;exact (a rfl).elim
theorem Hx(kvs:List (κ×V))(k:κ)(v:V):(XD kvs k v).length<=kvs.length+1:=by
 unfold XD;split
 ·rw [zAD];lia
 ·rw [zAI,zAW,zBY];lia
theorem Lh{kvs:List (κ×V)}{k:κ}(v:V)(h:YJ kvs k=none):XD kvs k v=kvs++[(k,v)]:=by
 unfold XD;rw [Qx,h];exact if_neg (by decide)
theorem Yc.isSome_eq{o:jf}{u:jc}(r:Yc o u):o.isSome=u.isSome:=by
 cases o with
 | none=>cases u with
  | none=>rfl
  | some _=>exact (show False from r).elim
 | some _=>cases u with
  | none=>exact (show False from r).elim
  | some _=>rfl
theorem KV.val{kvs:List (κ×V)}{vs:List (κ×Value)}(r:KV kvs vs)(k:κ):Yc (YJ kvs k) (valueAt vs k):=by
 unfold KV at r
 induction r with
 | nil=>exact True.intro
 | @cons p q ps qs h t ih=>
  obtain ⟨h1,h2⟩:=h;by_cases e:p.1=k
  ·have e':q.1=k:=h1.symm.trans e;have b:valueAt (q :: qs) k=some q.2:=by simp [valueAt,zBi,e']
   rw [Ud e,b];exact h2
  ·have e':¬ q.1=k:=fun z=>e (h1.trans z);have b:valueAt (q :: qs) k=valueAt qs k:=by simp [valueAt,zBi,e']
   rw [UR e,b];exact ih
theorem KV.any{kvs:List (κ×V)}{vs:List (κ×Value)}(r:KV kvs vs)(k:κ):(kvs.any fun kv=>decide (kv.1=k))=vs.any fun kv=>decide (kv.1=k):=by
 unfold KV at r
 induction r with
 | nil=>rfl
 | cons h t ih=>rw [zCM,zCM,ih,h.1]
theorem KV.repl{kvs:List (κ×V)}{vs:List (κ×Value)}(r:KV kvs vs)(k:κ){y:V}{u:Value}(ry:ZR y u):
  KV (kvs.map fun kv=>if kv.1=k then (kv.1,y) else kv) (vs.map fun kv=>if kv.1=k then (kv.1,u) else kv):=by
 unfold KV at r ⊢
 induction r with
 | nil=>exact .nil
 | @cons p q ps qs h t ih=>
  rw [zAn,zAn];refine .cons ?_ ih;obtain ⟨h1,h2⟩:=h;by_cases e:p.1=k
  ·rw [if_pos e,if_pos (h1.symm.trans e)];exact ⟨h1,ry⟩
  ·rw [if_neg e,if_neg (fun z=>e (h1.trans z))];exact ⟨h1,h2⟩
theorem KV.put{kvs:List (κ×V)}{vs:List (κ×Value)}(r:KV kvs vs)(k:κ){y:V}{u:Value}(ry:ZR y u):KV (XD kvs k y) (stored vs k u):=by
 unfold XD stored;rw [r.any k];by_cases e:(vs.any fun kv=>decide (kv.1=k))=true
 ·rw [if_pos e,if_pos e];exact r.repl k ry
 ·rw [if_neg e,if_neg e];exact Paired.snoc r ⟨rfl,ry⟩
theorem KV.drop{kvs:List (κ×V)}{vs:List (κ×Value)}(r:KV kvs vs)(k:κ):KV (Uu kvs k) (without vs k):=by
 unfold KV at r ⊢;unfold Uu without
 induction r with
 | nil=>exact .nil
 | @cons p q ps qs h t ih=>
  obtain ⟨h1,h2⟩:=h;rw [zBu,zBu];by_cases e:p.1=k
  ·have a:¬ decide (p.1≠k)=true:=by simp [e]
   have b:¬ decide (q.1≠k)=true:=by simp [h1.symm.trans e]
   rw [if_neg a,if_neg b];exact ih
  ·have e':¬ q.1=k:=fun z=>e (h1.trans z);have a:decide (p.1≠k)=true:=by simp [e]
   have b:decide (q.1≠k)=true:=by simp [e']
   rw [if_pos a,if_pos b];exact .cons ⟨h1,h2⟩ ih
theorem KV.keys{kvs:List (κ×V)}{vs:List (κ×Value)}(r:KV kvs vs):kvs.map (·.1)=vs.map (·.1):=by
 unfold KV at r
 induction r with
 | nil=>rfl
 | cons h t ih=>rw [zAn,zAn,ih,h.1]
theorem KV.length{kvs:List (κ×V)}{vs:List (κ×Value)}(r:KV kvs vs):kvs.length=vs.length:=Paired.length r
theorem ZKq(kvs:List (κ×V))(k:κ):(Uu kvs k).length<=kvs.length:=zDX _ _
end
theorem Pl{P:Program}{w:World}{k:ZZ}{u:Value}(r:ZR (kV k) u):(VQ P w).is k u=true:=by
 cases k with
 | inl i=>obtain ⟨t,e⟩:=(show ∃ t,u=Value.int i t from r);subst e;exact Be P w i t
 | inr x=>obtain ⟨t,e⟩:=(show ∃ t,u=Value.str x t from r);subst e;exact CV P w x t
theorem Lx{P:Program}{w:World}:∀{ks:List ZZ}{us:jd},ZP (ks.map kV) us->ItemsAre (VQ P w) ks us
 | [],_,r=>by rw [zCE] at r;cases r;exact .nil
 | k :: ks,_,r=>by
  rw [zAn] at r
  cases r with
  | cons h t=>exact .cons (Pl h) (Lx t)
abbrev KT(H:Hp):List (List ZZ×V)->List (List ZZ×Addr×Value)->Prop:=Paired fun p q=>p.1=q.1/\H q.2.1=some (.tup (p.1.map kV))/\ZR p.2 q.2.2
theorem KT.val{H:Hp}{kvs:List (List ZZ×V)}{xs:List (List ZZ×Addr×Value)}(r:KT H kvs xs)(k:List ZZ):Yc (YJ kvs k) ((atKey xs k).map (·.2)):=by
 induction r with
 | nil=>exact True.intro
 | @cons p q ps qs h t ih=>
  obtain ⟨h1,_,h2⟩:=h;by_cases e:p.1=k
  ·have e':q.1=k:=h1.symm.trans e;have b:atKey (q :: qs) k=some q.2:=by simp [atKey,zBi,e']
   rw [Ud e,b];exact h2
  ·have e':¬ q.1=k:=fun z=>e (h1.trans z);have b:atKey (q :: qs) k=atKey qs k:=by simp [atKey,zBi,e']
   rw [UR e,b];exact ih
theorem KT.repl{H:Hp}{kvs:List (List ZZ×V)}{xs:List (List ZZ×Addr×Value)}(r:KT H kvs xs)(k:List ZZ){y:V}{u:Value}(ry:ZR y u):
  KT H (kvs.map fun kv=>if kv.1=k then (kv.1,y) else kv) (xs.map (putAt k u)):=by
 induction r with
 | nil=>exact .nil
 | @cons p q ps qs h t ih=>
  rw [zAn,zAn];refine .cons ?_ ih;obtain ⟨h1,h2,h3⟩:=h;unfold putAt;by_cases e:p.1=k
  ·rw [if_pos e,if_pos (h1.symm.trans e)];exact ⟨h1,h2,ry⟩
  ·rw [if_neg e,if_neg (fun z=>e (h1.trans z))];exact ⟨h1,h2,h3⟩
theorem KT.put{H:Hp}{kvs:List (List ZZ×V)}{xs:List (List ZZ×Addr×Value)}(r:KT H kvs xs)(k:List ZZ){b:Addr}{y:V}{u:Value}(hb:H b=some (.tup (k.map kV)))(ry:ZR y u):
  KT H (XD kvs k y) (storedH xs k b u):=by
 have e:(kvs.any fun kv=>decide (kv.1=k))=(atKey xs k).isSome:=by
  rw [Qx,(r.val k).isSome_eq,Option.isSome_map]
 unfold XD storedH;rw [e];by_cases q:(atKey xs k).isSome=true
 ·rw [if_pos q,if_pos q];exact r.repl k ry
 ·rw [if_neg q,if_neg q];exact Paired.snoc r ⟨rfl,hb,ry⟩
theorem KT.keeps{H H':Hp}{kvs:List (List ZZ×V)}{xs:List (List ZZ×Addr×Value)}(r:KT H kvs xs)(ht:∀ b ys,H b=some (.tup ys)->H' b=some (.tup ys)):KT H' kvs xs:=
 Paired.mapP r fun _ _ z=>⟨z.1,ht _ _ z.2.1,z.2.2⟩
section
variable{P:Program}{w:World}{H:Hp}{h:Heap}{a:Addr}
theorem KY{u:HO}(ok:Yi P w H h)(e:Rd H a u):Ze P w H h a u:=e.ok ok
theorem Pt{kvs:List (ZZ×V)}(ok:Yi P w H h)(e:Rd H a (.dK kvs)):kvs.length<=sizeLine/\(a==sysModules)=false/\∃ vs,KV kvs vs/\h.DictOf (VQ P w) a vs:=
 show Ze P w H h a (.dK kvs) from KY ok e
theorem Mu{kvs:List (ZZ×V)}(ok:Yi P w H h)(e:H a=some (.dK kvs)):kvs.length<=sizeLine/\(a==sysModules)=false/\∃ vs,KV kvs vs/\h.DictOf (VQ P w) a vs:=Pt ok (.inl e)
theorem O5{ks:List ZZ}(ok:Yi P w H h)(e:H a=some (.tup (ks.map kV))):(tupleKind (VQ P w)).is h ks a:=by
 obtain ⟨_,ji,r,o,h1,h2,n,h3⟩:=(show Ze P w H h a (.tup (ks.map kV)) from ok a _ e);exact ⟨o,ji.toArray,n,h1,h2,h3,by simpa using Lx r⟩
theorem OF{kvs:List (List ZZ×V)}(ok:Yi P w H h)(e:Rd H a (.dT kvs)):kvs.length<=sizeLine/\(a==sysModules)=false /\
  ∃ xs,KT H kvs xs/\h.DictOfH (tupleKind (VQ P w)) a xs:=by
 obtain ⟨z,y,xs,r,o,es,ep,h1,h2,h3,h4,h5⟩:=(show Ze P w H h a (.dT kvs) from KY ok e);refine ⟨z,y,xs,r,o,es,ep,h1,h2,h3,h4,fun x hx=>?_,h5⟩;have all:∀{l:List (List ZZ×V)}{m:List (List ZZ×Addr×Value)},KT H l m->∀ x∈m,(tupleKind (VQ P w)).is h x.1 x.2.1:=by
  intro l m q
  induction q with
  | nil=>intro x hx;exact nomatch hx
  | @cons p q ps qs hq t ih=>
   intro x hx;rcases zAf.mp hx with e | hx
   ·subst e;exact O5 ok (by rw [<-hq.1];exact hq.2.1)
   ·exact ih x hx
 exact all r x hx
theorem Am{kvs:List (List ZZ×V)}(ok:Yi P w H h)(e:H a=some (.dT kvs)):kvs.length<=sizeLine/\(a==sysModules)=false /\
  ∃ xs,KT H kvs xs/\h.DictOfH (tupleKind (VQ P w)) a xs:=OF ok (.inl e)
end
def Yd(H:Hp)(a:Addr)(y:V)(r:jf):Prop:=
 (∃ kvs k,Rd H a (.dK kvs)/\y=kV k/\r=YJ kvs k)\/∃ kvs k b,Rd H a (.dT kvs)/\y=.ref b/\H b=some (.tup (k.map kV))/\r=YJ kvs k
def V1(H:Hp)(a:Addr)(y v:V)(H':Hp):Prop:=
 (∃ kvs k,H a=some (.dK kvs)/\y=kV k/\kvs.length<sizeLine/\H'=upd H a (.dK (XD kvs k v))) \/
 ∃ kvs k b,H a=some (.dT kvs)/\y=.ref b/\H b=some (.tup (k.map kV))/\kvs.length<sizeLine/\H'=upd H a (.dT (XD kvs k v))
theorem Yd.k{H:Hp}{a:Addr}{kvs:List (ZZ×V)}{k:ZZ}(e:H a=some (.dK kvs)):Yd H a (kV k) (YJ kvs k):=.inl ⟨kvs,k,.inl e,rfl,rfl⟩
theorem V1.k{H:Hp}{a:Addr}{kvs:List (ZZ×V)}{k:ZZ}{v:V}(e:H a=some (.dK kvs))(hl:kvs.length<sizeLine):V1 H a (kV k) v (upd H a (.dK (XD kvs k v))):=.inl ⟨kvs,k,e,rfl,hl,rfl⟩
section
variable{X:Cx}{pins:List (Addr×Obj)}{σ:St}{H:Hp}{s:Shared}{a:Addr}{y v:V}{u r:Value}{o:jf}{A:Around}{E:ja}
theorem Ap{Q:ja}(hu:A.units+1<cLine)(I:ZI X pins σ H s)(g:Yd H a y (some v))(ry:ZR y u)(h:∀ w' s',ZI X pins σ H s'->ZR v w'->Q w' s'):
  wpAny (model X.prog X.w) A (getItem (.ref a) u) Q E s:=by
 rcases g with ⟨kvs,k,e,ey,l⟩ | ⟨kvs,k,b,e,ey,eb,l⟩
 ·subst ey;obtain ⟨z,hd,vs,rel,dd⟩:=Pt I.hok e;obtain ⟨w',hw,rw'⟩:=Yc.some_of (v:=v) (o:=valueAt vs k) (by rw [l];exact rel.val k)
  exact wpAny_getItem_of (Pl ry) dd.mapOf hw (h w' _ (I.tok _) rw')
 ·subst ey;cases (show u=Value.ref b from ry);obtain ⟨z,hd,xs,rel,dd⟩:=OF I.hok e;obtain ⟨w',hw,rw'⟩:=Yc.some_of (v:=v) (o:=(atKey xs k).map (·.2)) (by rw [l];exact rel.val k)
  obtain ⟨p,hp,hp2⟩:=zAa.mp hw;refine wpAny_getItem_heap (tupleKind_room_in1 hu) (O5 I.hok eb) dd hp ?_;rw [hp2];exact h w' _ (I.tok _) rw'
theorem C6{Q:ja}(hu:A.units+1<cLine)(I:ZI X pins σ H s)(g:Yd H a y o)(ry:ZR y u)(h:∀ s',ZI X pins σ H s'->Q (.bool (!o.isSome)) s'):
  wpAny (model X.prog X.w) A (compareOp .NotIn u (.ref a)) Q E s:=by
 rcases g with ⟨kvs,k,e,ey,l⟩ | ⟨kvs,k,b,e,ey,eb,l⟩
 ·subst ey;obtain ⟨z,hd,vs,rel,dd⟩:=Pt I.hok e;refine wpAny_notIn_of (Pl ry) hd dd.mapOf ?_;rw [<-(rel.val k).isSome_eq,<-l];exact h _ (I.tok _)
 ·subst ey;cases (show u=Value.ref b from ry);obtain ⟨z,hd,xs,rel,dd⟩:=OF I.hok e;refine wpAny_notIn_heap (tupleKind_room_in1 hu) (O5 I.hok eb) hd dd ?_;have q:=(rel.val k).isSome_eq;rw [Option.isSome_map] at q;rw [<-q,<-l];exact h _ (I.tok _)
theorem Oc{h':Heap}{t':Nat}{ob:HO}(I:ZI X pins σ H s)(mu:PH (H a))(hs:zA6 a s.heap h')(he:∃ q,h'.get? a=some q)(new:Ze X.prog X.w (upd H a ob) h' a ob):
  ZI X pins σ (upd H a ob) { s with heap:=h',toks:=t' }:=
 I.write (x:=a) (e:=a) mu (.inl rfl) (fun b q hb z=>(hs.2 b hb).trans z) he new
theorem Ka{P:Program}{w:World}{H':Hp}{h':Heap}{kvs:List (ZZ×V)}{vs:List (ZZ×Value)}(z:kvs.length<=sizeLine)(hd:(a==sysModules)=false)(rel:KV kvs vs)(dd:h'.DictOf (VQ P w) a vs):
  Ze P w H' h' a (.dK kvs):=⟨z,hd,vs,rel,dd⟩
theorem Ej{H':Hp}{Q:Unit->Shared->Prop}(hu:A.units+1<cLine)(I:ZI X pins σ H s)(g:V1 H a y v H')(ry:ZR y u)(rv:ZR v r)(h:∀ s',ZI X pins σ H' s'->Q () s'):
  wpAny (model X.prog X.w) A (setItem (.ref a) u r) Q E s:=by
 rcases g with ⟨kvs,k,e,ey,l,eH⟩ | ⟨kvs,k,b,e,ey,eb,l,eH⟩
 ·subst ey eH;obtain ⟨z,hd,vs,rel,dd⟩:=Mu I.hok e;have hz:vs.length<=sizeLine:=by rw [<-rel.length];exact z
  have hl:(XD kvs k v).length<=sizeLine:=by have:=Hx kvs k v;lia
  refine wpAny_setItem_pairs (hsz:=hz) (Pl ry) dd fun h' dd' hs=>h _ ?_;have he:∃ q,h'.get? a=some q:=let ⟨q,_,_,hq,_⟩:=dd';⟨q,hq⟩;exact Oc I (by rw [e];exact True.intro) hs he (Ka hl hd (rel.put k rv) dd')
 ·subst ey eH;cases (show u=Value.ref b from ry);obtain ⟨z,hd,xs,rel,dd⟩:=Am I.hok e;have hz:xs.length<=sizeLine:=by rw [<-Paired.length rel];exact z
  have hl:(XD kvs k v).length<=sizeLine:=by have:=Hx kvs k v;lia
  refine wpAny_setItem_heap (hsz:=hz) (tupleKind_room_in1 hu) (O5 I.hok eb) dd fun h' dd' hs=>h _ ?_;obtain ⟨q,es,ep,hq,h2,h3,h4,_,h5⟩:=dd';refine Oc I (by rw [e];exact True.intro) hs ⟨q,hq⟩ ⟨hl,hd,_,(rel.put k eb rv).keeps fun c ys ec=>?_,q,es,ep,hq,h2,h3,h4,h5⟩
  rw [ZX (ZV ec e (fun z=>nomatch z))];exact ec
end
section
variable{X:Cx}{pins:List (Addr×Obj)}{σ:St}{H:Hp}{s:Shared}{a:Addr}{kvs:List (ZZ×V)}{k:ZZ}{u:Value}{A:Around}{E:ja}
theorem Cv{v:V}{more:jd}{Q:ja}(I:ZI X pins σ H s)(e:H a=some (.dK kvs))(ry:ZR (kV k) u)(l:YJ kvs k=some v)(hm:more=[]\/∃ x,more=[x])(h:∀ w' s',ZI X pins σ (upd H a (.dK (Uu kvs k))) s'->ZR v w'->Q w' s'):wpAny (model X.prog X.w) A (call (.builtin "dict.pop") (.ref a :: u :: more)) Q E s:=by
 obtain ⟨z,hd,vs,rel,dd⟩:=Mu I.hok e;obtain ⟨w',hw,rw'⟩:=Yc.some_of (v:=v) (o:=valueAt vs k) (by rw [<-l];exact rel.val k)
 have hp:(keyPart u).isSome=true:=by
  cases k with
  | inl i=>obtain ⟨t,q⟩:=(show ∃ t,u=Value.int i t from ry);subst q;rfl
  | inr x=>obtain ⟨t,q⟩:=(show ∃ t,u=Value.str x t from ry);subst q;rfl
 have ha:argsOk "dict.pop" ⟨.ref a :: u :: more,[]⟩:=by
  rcases hm with q | ⟨x,q⟩
  ·subst q;exact PySem.F.args_dict_pop_2 _ _
  ·subst q;exact PySem.F.args_dict_pop_3 _ _ _
 refine call_meetsIn zDK dd.typeIs PySem.F.entry_dict_pop ha (meets_dict_pop_there (VQ X.prog X.w) a (Pl ry) more hm hp)
  ⟨vs,w',dd,by rw [<-rel.length];exact z,hw,fun h' dd' hs=>h w' _ ?_ rw'⟩
 have he:∃ q,h'.get? a=some q:=let ⟨q,_,_,hq,_⟩:=dd';⟨q,hq⟩;exact Oc I (by rw [e];exact True.intro) hs he (Ka (zBC (ZKq kvs k) z) hd (rel.drop k) dd')
end
def OS(i:Expr):Prop:=∀ ov iv,subscripted i false ov iv=operate [ov,iv] (getItem ov iv)
theorem HV{prog:Program}{w:World}{A:Around}{E:ja}{s:Shared}{env:Env}{value slice:Expr}{pos:Pos}{T id:String}{Q:ja}(hl:typeLookup (.type T) "__getitem__" = pure (some (.builtin id)))(hs:OS slice)(h:wpAny (model prog w) A (eval value env) (fun o s₁=>wpAny (model prog w) A (eval slice env) (fun i s₂=>s₂.TypeIs o T/\wpAny (model prog w) A (getItem o i) Q E s₂) E s₁) E s):
  wpAny (model prog w) A (eval (.Subscript value slice pos) env) Q E s:=by
 refine Subscript_ (wpAny_mono h (fun o s₁ h₁=>wpAny_mono h₁ (fun i s₂ h₂=>?_) fun _ _ x=>x) fun _ _ x=>x);obtain ⟨hT,h₂⟩:=h₂;unfold subscriptTail;refine wpAny_bind ?_;rw [getitemInPython_of_ne hT.not_modules];refine wpAny_bind (wpAny_specialOf hT hl ?_);have fin:wpAny (model prog w) A (subscripted slice false o i) (fun r s₃=>wpAny (model prog w) A (letTemporaryGo value o r >>= fun _=>pure r) Q E s₃) E s₂:=by
  rw [hs o i];exact wpAny_operating (wpAny_mono h₂ (fun r s₃ h₃=>wpAny_bind (wpAny_letTemporaryGo (wpAny_pure h₃))) fun _ _ x=>x)
 first
  | exact wpAny_pure (wpAny_bind fin)
  | exact wpAny_bind (wpAny_pure (wpAny_bind fin))
  | exact wpAny_bind fin
theorem B2{X:Cx}{pins:List (Addr×Obj)}{σ:St}{H:Hp}{s:Shared}{a:Addr}{y:V}{o:jf}(I:ZI X pins σ H s)(g:Yd H a y o):s.TypeIs (.ref a) "dict" :=by
 rcases g with ⟨kvs,k,e,_,_⟩ | ⟨kvs,k,b,e,_,_,_⟩
 ·obtain ⟨_,_,vs,_,dd⟩:=Pt I.hok e;exact dd.typeIs
 ·obtain ⟨_,_,xs,_,dd⟩:=OF I.hok e;exact dd.typeIs
def EI(td ty:TE):TE:=fun σ H Q=>td σ H fun x H1=>ty σ H1 fun y H2=>∃ a v,x=.ref a/\Yd H2 a y (some v)/\Q v H2
def BK(ty td:TE):TE:=fun σ H Q=>ty σ H fun y H1=>td σ H1 fun x H2=>∃ a o,x=.ref a/\Yd H2 a y o/\Q (.bl (!o.isSome)) H2
def GF(td ty tv:TE):TS:=fun D σ H=>tv σ H fun v H1=>td σ H1 fun x H2=>ty σ H2 fun y H3=>∃ a H4,x=.ref a/\V1 H3 a y v H4/\D.nx σ H4
section
variable{X:Cx}{o i e value:Expr}{pos pos' tpos:Pos}{td ty tv:TE}
theorem Ph(hu:X.A.units+1<cLine)(ho:PE X o td)(hi:PE X i ty)(hs:OS i):PE X (.Subscript o i pos) (EI td ty):=by
 intro pins s σ H Q I h;refine HV zC4.lookup hs (Za (ho pins s σ H _ I h) fun u s1 ⟨x,H1,I1,rx,q1⟩=>Za (hi pins s1 σ H1 _ I1 q1) fun iv s2 ⟨y,H2,I2,ry,a,v,ex,g,q2⟩=>?_);subst ex;obtain rfl:u=Value.ref a:=rx;exact ⟨B2 I2 g,Ap hu I2 g ry fun w' s3 I3 rw'=>⟨v,H2,I3,rw',q2⟩⟩
theorem Mw(hu:X.A.units+1<cLine)(hi:PE X i ty)(ho:PE X o td):PC X .NotIn i o (BK ty td):=by
 intro pins s σ H Q I h;refine Za (hi pins s σ H _ I h) fun iv s1 ⟨y,H1,I1,ry,q1⟩=>Za (ho pins s1 σ H1 _ I1 q1) fun u s2 ⟨x,H2,I2,rx,a,ov,ex,g,q2⟩=>?_;subst ex;obtain rfl:u=Value.ref a:=rx;exact C6 hu I2 g ry fun s3 I3=>⟨.bl (!ov.isSome),H2,I3,rfl,q2⟩
theorem Kq(hu:X.A.units+1<cLine)(ho:PE X o td)(hi:PE X i ty)(hv:PE X value tv)(hs:swapsWith value (some (.Subscript o i pos')) pos.line X.env=pure false):
  PS X (.Assign [.Subscript o i pos'] value pos) (GF td ty tv):=by
 intro pins s σ H D I h;refine wpAny_Assign_Subscript (Za (hv pins s σ H _ I h) fun r s1 ⟨v,H1,I1,rv,q1⟩=>Za (ho pins s1 σ H1 _ I1 q1) fun u s2 ⟨x,H2,I2,rx,q2⟩=>Za (hi pins s2 σ H2 _ I2 q2) fun iv s3 ⟨y,H3,I3,ry,a,H4,ex,g,q3⟩=>?_) hs;subst ex;obtain rfl:u=Value.ref a:=rx;exact Ej hu I3 g ry rv fun s4 I4=>⟨σ,H4,I4,q3⟩
end
section
variable{X:Cx}{pos:Pos}
end
structure M1(X:Cx)(o:Expr)(m:Str)(jm:Pos)(e:Expr)(jk:Pos):Prop where
 base:attributeBase o m X.env (eval o X.env)=eval o X.env
 few:((backTo jk (starEach [e] X.env)).all (fun x=>!x.1)&&(backToKw jk (keywordEach [] X.env)).all (fun x=>x.1.isSome)
  && decide (([e]:List Expr).length+([]:List Keyword).length+(if ([]:List Keyword).isEmpty then 0 else 1)<30))=true
 line:(jm.endLine==jk.line)=true
 trees:backTo jk (starEach [e] X.env)=[(false,eval e X.env)]
def Ky(H:Hp)(a:Addr):Prop:=(∃ kvs,Rd H a (.dK kvs))\/∃ kvs,Rd H a (.dT kvs)
theorem CU{X:Cx}{pins:List (Addr×Obj)}{σ:St}{H:Hp}{s:Shared}{a:Addr}(I:ZI X pins σ H s)(d:Ky H a):
  s.TypeIs (.ref a) "dict" /\ (∀ b,Value.ref a=.ref b->∃ ob,s.heap.get? b=some ob/\ob.dict=none)/\(a==sysModules)=false:=by
 rcases d with ⟨kvs,e⟩ | ⟨kvs,e⟩
 ·obtain ⟨_,hd,vs,_,dd⟩:=Pt I.hok e;refine ⟨dd.typeIs,fun b q=>?_,hd⟩;cases q;obtain ⟨ob,_,_,h1,h2,_⟩:=dd;exact ⟨ob,h1,h2.2.1⟩
 ·obtain ⟨_,hd,xs,_,dd⟩:=OF I.hok e;refine ⟨dd.typeIs,fun b q=>?_,hd⟩;cases q;obtain ⟨ob,_,_,h1,h2,_⟩:=dd;exact ⟨ob,h1,h2.2.1⟩
section
variable{X:Cx}{pins:List (Addr×Obj)}{σ:St}{H:Hp}{s:Shared}{a:Addr}{y d:V}{u r:Value}{o:jf}{A:Around}{E:ja}
end
def Eo(td ty:TE):TE:=fun σ H Q=>td σ H fun x H1=>∃ a,x=.ref a/\Ky H1 a/\ty σ H1 fun y H2=>∃ kvs k v,H2 a=some (.dK kvs)/\y=kV k/\YJ kvs k=some v/\Q v (upd H2 a (.dK (Uu kvs k)))
section
variable{X:Cx}{o e f:Expr}{jm jk:Pos}{td ty tx:TE}
theorem ES(ho:PE X o td)(he:PE X e ty)(m:M1 X o "pop" jm e jk):PE X (.Call (.Attribute o "pop" jm) [e] [] jk) (Eo td ty):=by
 intro pins s σ H Q I h;refine wpAny_Call_method m.base m.few m.line PySem.F.plainAttrs_dict zDK PySem.F.type_dict_pop (Za (ho pins s σ H _ I h) fun u s1 ⟨x,H1,I1,rx,a,ex,d,q1⟩=>?_);subst ex;obtain rfl:u=Value.ref a:=rx;obtain ⟨t1,t2,_⟩:=CU I1 d;refine ⟨t1,t2,?_⟩;rw [m.trees];refine Calls.callWith_builtin rfl (Calls.evalArgs_plain (Calls.spliced_cons (Za (he pins s1 σ H1 _ I1 q1) fun iv s2 ⟨y,H2,I2,ry,kvs,k,v,ea,ey,l,q2⟩=>Calls.spliced_nil ?_)));subst ey;exact Cv I2 ea ry l (.inl rfl) fun w' s3 I3 rw'=>⟨v,_,I3,rw',q2⟩
end
section
variable{X:Cx}{pins:List (Addr×Obj)}{σ:St}{H:Hp}{s:Shared}{a:Addr}{kvs:List (ZZ×V)}{A:Around}{E:ja}
end
section
variable{X:Cx}{pins:List (Addr×Obj)}{σ:St}{H:Hp}{s:Shared}{a:Addr}{y:V}{u:Value}{A:Around}{E:ja}
end
section
variable{X:Cx}
end
section
variable{κ:Type}[DecidableEq κ]
theorem AU{kvs:List (κ×V)}{k:κ}(h:YJ kvs k=none):¬ k∈kvs.map (·.1):=by
 intro m;obtain ⟨p,hp,e⟩:=zAb.mp m;have q:(kvs.any fun kv=>decide (kv.1=k))=true:=zB5.mpr ⟨p,hp,decide_eq_true e⟩;rw [Qx,h] at q;exact absurd q (by simp)
theorem Hw{kvs:List (κ×V)}{k:κ}{v:V}(h:YJ kvs k=some v):k∈kvs.map (·.1):=by
 have q:(kvs.any fun kv=>decide (kv.1=k))=true:=by
  rw [Qx,h]
  all_goals rfl
 obtain ⟨p,hp,e⟩:=zB5.mp q;exact zAb.mpr ⟨p,hp,of_decide_eq_true e⟩
end
end L2
namespace Tw
open PySem PySem.Spec L2 PyProof.Rows
def PR(d:Addr)(es:Array DictEntry):HO:=.ext fun h=>(d==sysModules)=false/\es.size<=sizeLine/\∃ o ep,h.get? d=some o/\o.ExactDict/\o.data=.dict es ep
abbrev PQ(w:World)(x:KT×V×V)(e:DictEntry):Prop:=e.hash=X0 w x.1/\ZR x.2.1 e.key/\ZR x.2.2 e.val
structure YC(w:World)(H:Hp)(d:Addr)(xs:List (KT×V×V)):Prop where
 ex:∃ es,H d=some (PR d es)/\Paired (PQ w) xs es.toList
 key:∀ x∈xs,ZE H x.1 x.2.1/\x.1.depth<=3
 nd:(xs.map (·.1)).Nodup
theorem Iq{P:Program}{w:World}{H:Hp}{h:Heap}{d:Addr}{es:Array DictEntry}(h1:(d==sysModules)=false)(h2:es.size<=sizeLine)(h3:∃ o ep,h.get? d=some o/\o.ExactDict/\o.data=.dict es ep):Ze P w H h d (PR d es):=by
 refine ⟨⟨h1,h2,h3⟩,?_,?_⟩
 ·obtain ⟨o,ep,g,_⟩:=h3;exact ⟨o,g⟩
 ·rintro a b ⟨q1,q2,o,ep,g,r⟩ k;exact ⟨q1,q2,o,ep,k o g,r⟩
theorem Pg{α β:Type}{F:α->β->Prop}:∀{l:List α}{m:List β}{i:Nat}{b:β},Paired F l m->m[i]? = some b->∃ a,l[i]? = some a/\F a b
 | _,_,_,_,.nil,e=>by simp at e
 | _,_,0,_,.cons r _,e=>by simp at e;subst e;exact ⟨_,rfl,r⟩
 | _,_,i+1,b,.cons _ t,e=>by
  obtain ⟨a,h1,h2⟩:=Pg (i:=i) (b:=b) t (by simpa using e)
  exact ⟨a,by simpa using h1,h2⟩
theorem MS{α β:Type}{F:α->β->Prop}:∀{l:List α}{m:List β},l.length=m.length->(∀(i:Nat) a b,l[i]? = some a->m[i]? = some b->F a b)->Paired F l m
 | [],[],_,_=>.nil
 | [],_ :: _,h,_=>by simp at h
 | _ :: _,[],h,_=>by simp at h
 | a :: l,b :: m,h,f=>.cons (f 0 a b rfl rfl) (MS (by simpa using h) fun i x y hx hy=>f (i+1) x y (by simpa using hx) (by simpa using hy))
theorem Ps{α β:Type}{F:α->β->Prop}{a:α}{b:β}(h:F a b):∀{l:List α}{m:List β},Paired F l m->Paired F (l++[a]) (m++[b])
 | _,_,.nil=>.cons h .nil
 | _,_,.cons r t=>.cons r (Ps h t)
def QS(xs:List (KT×V×V))(t:KT):jf:=(xs.find? fun x=>x.1.eqb t).map (·.2.2)
def PZ(t:KT)(v:V)(x:KT×V×V):KT×V×V:=if x.1.eqb t=true then (x.1,x.2.1,v) else x
def UF(xs:List (KT×V×V))(t:KT)(y v:V):List (KT×V×V):=if (xs.any fun x=>x.1.eqb t)=true then xs.map (PZ t v) else xs++[(t,y,v)]
theorem Xm{xs:List (KT×V×V)}{t:KT}:(xs.any fun x=>x.1.eqb t)=true ↔ t∈xs.map (·.1):=by
 rw [zB5,zAb];constructor
 ·rintro ⟨x,hx,e⟩;exact ⟨x,hx,Uw _ _ e⟩
 ·rintro ⟨x,hx,e⟩;exact ⟨x,hx,by rw [e];exact Uv _⟩
theorem LU(t:KT)(v:V)(x:KT×V×V):(PZ t v x).1=x.1/\(PZ t v x).2.1=x.2.1:=by
 unfold PZ;split <;> exact ⟨rfl,rfl⟩
theorem Nb(xs:List (KT×V×V))(t:KT)(y v:V):(UF xs t y v).map (·.1)=if (xs.any fun x=>x.1.eqb t)=true then xs.map (·.1) else xs.map (·.1)++[t]:=by
 unfold UF;split
 ·rw [zB3];exact zCe fun x _=>(LU t v x).1
 ·rw [zAV];rfl
theorem Bg(xs:List (KT×V×V))(t:KT)(y v:V):(UF xs t y v).length<=xs.length+1:=by
 have:=congrArg zBh (Nb xs t y v);rw [zAD] at this;rw [this];split
 ·rw [zAD];lia
 ·rw [zAI,zAD];simp
theorem JT{xs:List (KT×V×V)}(nd:(xs.map (·.1)).Nodup){j:Nat}{x:KT×V×V}(e:xs[j]? = some x):QS xs x.1=some x.2.2:=by
 induction xs generalizing j with
 | nil=>simp at e
 | cons z xs ih=>
  rw [zAn,zBQ] at nd
  cases j with
  | zero=>
   simp at e;subst e;simp [QS,Uv]
  | succ j=>
   have e':xs[j]? = some x:=by simpa using e
   have jA:z.1.eqb x.1=false:=by
    cases q:z.1.eqb x.1 with
    | false=>rfl
    | true=>exact absurd (zAb.mpr ⟨x,zAJ e',(Uw _ _ q).symm⟩) nd.1
   have:=ih nd.2 e';simpa [QS,zBi,jA] using this
theorem EK{xs:List (KT×V×V)}{t:KT}(h:t∉xs.map (·.1)):QS xs t=none:=by
 unfold QS;rw [Option.map_eq_none_iff,List.find?_eq_none];intro x hx z;exact h (zAb.mpr ⟨x,hx,Uw _ _ z⟩)
theorem YC.same{w:World}{H H':Hp}{d:Addr}{xs:List (KT×V×V)}(x:YC w H d xs)(s:ZA H H'):YC w H' d xs:=by
 obtain ⟨es,h1,h2⟩:=x.ex;exact ⟨⟨es,s _ _ h1,h2⟩,fun z hz=>⟨(x.key z hz).1.mono (ZA.tups s),(x.key z hz).2⟩,x.nd⟩
theorem YC.but{w:World}{H H':Hp}{d p:Addr}{xs:List (KT×V×V)}(x:YC w H d xs)(s:ZC p H H')(t:Z6 H H')(n:d≠p):YC w H' d xs:=by
 obtain ⟨es,h1,h2⟩:=x.ex;exact ⟨⟨es,s _ _ h1 n,h2⟩,fun z hz=>⟨(x.key z hz).1.mono t,(x.key z hz).2⟩,x.nd⟩
section
variable{X:Cx}{pins:List (Addr×Obj)}{σ:L2.St}{H:Hp}{s:Shared}{A:Around}{E:ja}
theorem YC.es{d:Addr}{xs:List (KT×V×V)}{es:Array DictEntry}(I:ZI X pins σ H s)(x:YC X.w H d xs)(r:Paired (PQ X.w) xs es.toList):PD X.w s.heap (xs.map (·.1)) es:=by
 refine ⟨by have:=Paired.length r;simpa using this.symm,fun i e he=>?_,x.nd⟩
 rw [<-zAj] at he;obtain ⟨z,e1,e2,e3,e4⟩:=Pg r he;have hz:=x.key z (zAJ e1);exact ⟨z.1,by rw [zAM,e1];rfl,e2,Vj I _ _ _ hz.1 e3,hz.2⟩
theorem HC{d:Addr}{xs:List (KT×V×V)}{es:Array DictEntry}{o:Obj}{ep:Nat}{t:KT}{y:V}{u:Value}{Q:Option Nat->Shared->Prop}(I:ZI X pins σ H s)(x:YC X.w H d xs)(r:Paired (PQ X.w) xs es.toList)(ho:s.heap.get? d=some o)(hd:o.data=.dict es ep)(hy:ZE H t y)(dt:t.depth<=3)(ry:ZR y u)(hu:A.units+3<cLine)(hno:t∉xs.map (·.1)->Q none s)(jS:∀ j z e,xs[j]? = some z->z.1=t->es[j]? = some e->PQ X.w z e->Q (some j) s):wpAny (model X.prog X.w) A (dictFind d u (X0 X.w t)) Q E s:=by
 refine GH (Vj I t y u hy ry) dt hu ho hd (x.es I r) hno fun j hj=>?_;rw [zAM] at hj;obtain ⟨z,e1,e2⟩:=zAa.mp hj;have lt:j<es.size:=by
  have:=Paired.length r;obtain ⟨a,_⟩:=zAK.mp e1;simp at this
  lia
 have e3:es[j]? = some es[j]:=zAY lt;obtain ⟨z',e4,e5⟩:=Pg r (by rw [zAj];exact e3)
 rw [e1] at e4;cases e4;exact jS j z _ e1 e2 e3 e5
theorem BA{d:Addr}{xs:List (KT×V×V)}{t:KT}{y v:V}{u r:Value}{Q:Unit->Shared->Prop}(hu:A.units+4<cLine)(I:ZI X pins σ H s)(x:YC X.w H d xs)(hl:xs.length<1000)(hy:ZE H t y)(dt:t.depth<=3)(ry:ZR y u)(rv:ZR v r)(h:∀ s' H',ZI X pins σ H' s'->ZC d H H'->YC X.w H' d (UF xs t y v)->Q () s'):wpAny (model X.prog X.w) A (setItem (.ref d) u r) Q E s:=by
 obtain ⟨es,hH,rel⟩:=x.ex;obtain ⟨⟨hsys,hsz,o,ep,ho,hx,hd⟩,_⟩:=I.hok d _ hH;have len:es.size=xs.length:=by have:=Paired.length rel;simpa using this.symm
 have hT:s.TypeIs (.ref d) "dict" :=⟨o,ho,hx.1⟩;unfold setItem
 try with_reducible refine wpAny_holding ?_
 refine wpAny_bind (wpAny_sequenceKey hT (by decide) ?_)
 refine wpAny_bind (wpAny_callSpecial?_slot (name:=zAy "__setitem__") hT slot_dict_setitem (wpAny_call_entry slot_dict_setitem hT entry_dict_setitem ?_ (args_dict_setitem _ _ _)));show wpAny _ _ (Builtin.Dict.notOrdered "__setitem__" ⟨[.ref d,u,r],[]⟩ >>= _) _ _ s;refine wpAny_bind (wpAny_notOrdered_dict hT ?_);show wpAny _ _ (dictSet d u r >>= _) _ _ s;refine wpAny_bind ?_;unfold dictSet
 try with_reducible refine wpAny_holding ?_
 refine wpAny_bind (Li t.depth t (zAH _) (Vj I t y u hy ry) (by show A.units+1+_<_;lia) fun tk htk=>?_)
 unfold dictSetHashed
 try with_reducible refine wpAny_holding ?_
 have I1:ZI X pins σ H { s with toks:=tk }:=I.tok tk;have mu:PH (H d):=by rw [hH];exact True.intro
 have tups:∀ es',Z6 H (upd H d (PR d es')):=fun es' b ws e=>by rw [ZX (ZV e hH)];exact e
 have fin:∀(es':Array DictEntry)(h':Heap),es'.size<=sizeLine->zA6 d s.heap h'->(∃ o ep,h'.get? d=some o/\o.ExactDict/\o.data=.dict es' ep)->Paired (PQ X.w) (UF xs t y v) es'.toList->Q () { s with heap:=h',toks:=tk }:=fun es' h' hz hs hob hp=>by
  refine h _ (upd H d (PR d es')) (Oc I mu hs (by obtain ⟨o,_,g,_⟩:=hob;exact ⟨o,g⟩) (Iq hsys hz hob)) (fun b o e n=>by rw [ZX n];exact e) ⟨⟨es',ZN,hp⟩,fun z hz=>?_,?_⟩
  ·unfold UF at hz;split at hz
   ·obtain ⟨z',hz',rfl⟩:=zAb.mp hz;rw [(LU t v z').1,(LU t v z').2];exact ⟨(x.key z' hz').1.mono (tups es'),(x.key z' hz').2⟩
   ·rcases zAm.mp hz with q | q
    ·exact ⟨(x.key z q).1.mono (tups es'),(x.key z q).2⟩
    ·rw [zAS.mp q];exact ⟨hy.mono (tups es'),dt⟩
  ·rw [Nb];split
   ·exact x.nd
   ·rename_i hn
    rw [zBk];exact ⟨x.nd,by simp,fun a ha b hb=>by rw [zAS.mp hb];exact fun z=>hn (Xm.mpr (z ▸ ha))⟩
 refine wpAny_bind (HC (A:=A.in1) I1 x rel ho hd hy dt ry (by show A.units+1+3<_;lia) (fun hn=>?_) fun j z e e1 e2 e3 e4=>?_)
 ·have hn':¬ (xs.any fun x=>x.1.eqb t)=true:=fun q=>hn (Xm.mp q);refine wpAny_bind (wpAny_rule (wpAny_updateDictKeys (s:={ s with toks:=tk }) (hz:=hsz) ho hd ?_));refine wpAny_pure ⟨.none,rfl,wpAny_pure (fin (es.push ⟨X0 X.w t,u,r⟩) _ (by rw [Array.size_push,len];exact zBH (Yp (by lia))) (zA6.update ..) ⟨_,ep+1,zA5 _ ho (Obj.isFreed_of_dict (Obj.data_mapDictKeys hd _)),hx.mapDictKeys _,Obj.data_mapDictKeys hd _⟩ ?_)⟩
  unfold UF;rw [if_neg hn',zCo];exact Ps ⟨rfl,ry,rv⟩ rel
 ·have hn':(xs.any fun x=>x.1.eqb t)=true:=Xm.mpr (zAb.mpr ⟨z,zAJ e1,e2⟩);refine wpAny_bind (wpAny_rule (wpAny_bind (wpAny_updateDict (s:={ s with toks:=tk }) ho hd (wpAny_point ?_))));refine wpAny_pure ⟨.none,rfl,wpAny_pure (fin (es.modify j fun e=>{ e with val:=r }) _ (by rw [Array.size_modify];exact hsz) (zA6.update ..) ⟨_,ep,zA5 _ ho (Obj.isFreed_of_dict (Obj.data_mapDict hd _)),hx.mapDict _,Obj.data_mapDict hd _⟩ ?_)⟩
  unfold UF;rw [if_pos hn'];have lm:(es.modify j fun e=>{ e with val:=r }).toList.length=es.size:=by rw [zA4];exact Array.size_modify
  refine MS (by rw [lm,zAD,len]) fun i a b ha hb=>?_
  rw [zAM] at ha;obtain ⟨a',ea,rfl⟩:=zAa.mp ha;rw [zAj,Array.getElem?_modify] at hb;have hes:es[i]? = some (es[i]'(by obtain ⟨l1,_⟩:=zAK.mp ea;lia)):=zAY _
  obtain ⟨a2,ea2,r1,r2,r3⟩:=Pg rel (by rw [zAj];exact hes)
  rw [ea] at ea2;cases ea2;rw [hes] at hb;by_cases jv:j=i
  ·subst jv;rw [if_pos rfl,zBX] at hb;cases hb;rw [e1] at ea;cases ea;unfold PZ;rw [e2,Uv,if_pos rfl];rw [e2] at r1;exact ⟨r1,r2,rv⟩
  ·rw [if_neg jv] at hb;cases hb;have jA:a'.1.eqb t=false:=by
    cases q:a'.1.eqb t with
    | false=>rfl
    | true=>
     have q1:(xs.map (·.1))[i]? = some t:=by rw [zAM,ea];exact congrArg some (Uw _ _ q)
     have q2:(xs.map (·.1))[j]? = some t:=by rw [zAM,e1];exact congrArg some e2
     obtain ⟨l1,_⟩:=zAK.mp q2;exact absurd ((zCr l1 x.nd).mp (q2.trans q1.symm)) jv
   unfold PZ;rw [jA,if_neg zAF];exact ⟨r1,r2,r3⟩
end
end Tw
namespace Srt
open PySem PySem.W PyProof.Rows
structure UU(lt:Nat->Nat->Bool):Prop where
 asym:∀ i j,lt i j=true->lt j i=false
 trans:∀ i j k,lt j i=false->lt k j=false->lt k i=false
def gt(p:Array Nat)(i:Nat):Nat:=p.getD i 0
theorem QV(p:Array Nat)(i:Nat):gt p i=(p[i]?).getD 0:=by unfold gt;rw [Array.getD_eq_getD_getElem?]
theorem ND{p:Array Nat}{i j:Nat}(hj:j<=p.size)(k:Nat):gt (kas_rev p i j) k=if i<=k/\k<j then gt p (i+j - 1 - k) else gt p k:=by
 rw [QV,QV,QV];unfold kas_rev;rw [getElem?_mirror_all hj];split <;> rfl
theorem BY{p:Array Nat}{k l:Nat}(hk:k<p.size)(hl:l<=k)(x:Nat):gt (bubble p k (k - l)) x=if x=l then gt p k else if l<x/\x<=k then gt p (x - 1) else gt p x:=by
 rw [QV,QV,QV,QV,getElem?_bubble hk (k - l) (by lia)]
 have e:k - (k - l)=l:=by lia
 rw [e];split
 ·rfl
 ·split <;> rfl
def PB(n:Nat)(p:Array Nat):Prop:=p.Perm (zBG (zAi n))
theorem PB.size{n:Nat}{p:Array Nat}(h:PB n p):p.size=n:=by rw [h.size_eq];simp
theorem PB.lt{n:Nat}{p:Array Nat}(h:PB n p){i:Nat}(hi:i<n):gt p i<n:=by
 have hs:=h.size;rw [QV,zAY (by lia)]
 have:p[i]'(by lia)∈(zBG (zAi n)):=h.mem_iff.mp (Array.getElem_mem _)
 simpa using this
theorem PB.rev{n:Nat}{p:Array Nat}(h:PB n p)(i j:Nat):PB n (kas_rev p i j):=(mirror_perm _ _ _ _).trans h
theorem PB.bub{n:Nat}{p:Array Nat}(h:PB n p)(i j:Nat):PB n (bubble p i j):=(bubble_perm _ _ _).trans h
section
variable{lt:Nat->Nat->Bool}{n:Nat}{cmp:Nat->Nat->(Bool->Shared->Prop)->Shared->Prop}{s:Shared}
def SortedTo(lt:Nat->Nat->Bool)(p:Array Nat)(k:Nat):Prop:=∀ i j,i<=j->j<k->lt (gt p j) (gt p i)=false
def QK(lt:Nat->Nat->Bool)(p:Array Nat)(k:Nat):Prop:=∀ i j,i<=j->j<k->lt (gt p i) (gt p j)=false
theorem UU.irr(O:UU lt)(i:Nat):lt i i=false:=by
 cases h:lt i i with
 | false=>rfl
 | true=>exact absurd (O.asym i i h) (by rw [h];decide)
def Qg(lt:Nat->Nat->Bool)(n:Nat)(cmp:Nat->Nat->(Bool->Shared->Prop)->Shared->Prop)(s:Shared):Prop:=∀ i j,i<n->j<n->∀ C:Bool->Shared->Prop,C (lt i j) s->cmp i j C s
theorem Lk(O:UU lt)(hc:Qg lt n cmp s){p:Array Nat}(hp:PB n p):∀(f m N:Nat)(Q:Nat->Shared->Prop),f+m=N->N<=n->1<=m->SortedTo lt p m ->
  (∀ m',m<=m'->m'<=N->SortedTo lt p m'->(m'=N\/lt (gt p m') (gt p (m' - 1))=true)->Q m' s)->(kas_asc p f m).kasWp cmp Q s
 | 0,m,N,Q,h1,h2,h3,hs,hq=>hq m (zAH _) (by lia) hs (.inl (by lia))
 | f+1,m,N,Q,h1,h2,h3,hs,hq=>by
  refine hc _ _ (hp.lt (i:=m) (by lia)) (hp.lt (i:=m - 1) (by lia)) _ ?_
  show (if lt (gt p m) (gt p (m - 1))=true then KasT.ret m else kas_asc p f (m+1)).kasWp cmp Q s
  cases hl:lt (gt p m) (gt p (m - 1)) with
  | true=>rw [if_pos rfl];exact hq m (zAH _) (by lia) hs (.inr hl)
  | false=>
   rw [if_neg zAF];refine Lk O hc hp f (m+1) N Q (by lia) h2 (by lia) (fun i j jv hj=>?_) fun m' g1 g2 g3 g4=>hq m' (by lia) g2 g3 g4
   rcases zAe j m with h | h
   ·exact hs i j jv h
   ·have ej:j=m:=by lia
    subst ej;rcases zAe i j with h' | h'
    ·exact O.trans _ _ _ (hs i (j - 1) (by lia) (by lia)) hl
    ·have:i=j:=by lia
     rw [this];exact O.irr _
def NT(lt:Nat->Nat->Bool)(p:Array Nat)(m q:Nat):Prop:=q+1<=m/\∀ i j,m - (q+1)<=i->i<m->m - (q+1)<=j->j<m->lt (gt p i) (gt p j)=false
theorem KG(O:UU lt){p:Array Nat}{m q:Nat}(hm:m<=p.size)(hf:NT lt p m q)(hn:QK lt p m):QK lt (kas_rev p (m - (q+1)) m) m:=by
 obtain ⟨h1,h2⟩:=hf;have g (k:Nat):=ND (p:=p) (i:=m - (q+1)) hm k;intro i j jv hj;rw [g i,g j];split
 ·rename_i c1
  rw [if_pos ⟨by lia,by lia⟩]
  exact h2 _ _ (by lia) (by lia) (by lia) (by lia)
 ·rename_i c1
  split
  ·exact hn _ _ (by lia) (by lia)
  ·exact hn _ _ jv hj
theorem NG(O:UU lt)(hc:Qg lt n cmp s):∀(f:Nat)(p:Array Nat)(m q N:Nat)(Q:Array Nat×Nat×Nat->Shared->Prop),PB n p->f+m=N->N<=n->QK lt p m->NT lt p m q ->
  (∀ p' m' q',PB n p'->m<=m'->m'<=N->QK lt p' m'->NT lt p' m' q'->Q (p',m',q') s)->(kas_desc f p m q).kasWp cmp Q s
 | 0,p,m,q,N,Q,hp,h1,h2,hn,hf,hq=>hq p m q hp (zAH _) (by lia) hn hf
 | f+1,p,m,q,N,Q,hp,h1,h2,hn,hf,hq=>by
  have hf1:=hf.1;have hs:=hp.size;refine hc _ _ (hp.lt (i:=m) (by lia)) (hp.lt (i:=m - 1) (by lia)) _ ?_
  show (if lt (gt p m) (gt p (m - 1))=true then (if q > 0 then kas_desc f (kas_rev p (m - (q+1)) m) (m+1) 0 else kas_desc f p (m+1) 0) else .ask (p.getD (m - 1) 0) (p.getD m 0) fun d=>if d=true then .ret (p,m,q) else kas_desc f p (m+1) (q+1):KasT _).kasWp cmp Q s
  have more:∀ p':Array Nat,PB n p'->QK lt p' m->gt p' m=gt p m->lt (gt p m) (gt p (m - 1))=true->(∀ i,i<m->lt (gt p' i) (gt p (m - 1))=false)->QK lt p' (m+1):=fun p' _ hn' e hl hb i j jv hj=>by
   rcases zAe j m with h | h
   ·exact hn' i j jv h
   ·have ej:j=m:=by lia
    subst ej;rcases zAe i j with h' | h'
    ·rw [e];exact O.trans _ _ _ (O.asym _ _ hl) (hb i h')
    ·have:i=j:=by lia
     rw [this];exact O.irr _
  cases hl:lt (gt p m) (gt p (m - 1)) with
  | true=>
   rw [if_pos rfl];split
   ·have hn':=KG O (by lia) hf hn
    have g (k:Nat):=ND (p:=p) (i:=m - (q+1)) (j:=m) (by lia) k
    refine NG O hc f _ (m+1) 0 N Q (hp.rev _ _) (by lia) h2 (more _ (hp.rev _ _) hn' (by rw [g m,if_neg (by lia)]) hl fun i hi=>?_) ⟨by lia,fun i j a1 a2 a3 a4=>?_⟩ fun p' m' q' b1 b2 b3 b4 b5=>hq p' m' q' b1 (by lia) b3 b4 b5
    ·rw [g i];split
     ·exact hf.2 _ _ (by lia) (by lia) (by lia) (by lia)
     ·exact hn _ _ (by lia) (by lia)
    ·have:i=j:=by lia
     rw [this];exact O.irr _
   ·refine NG O hc f _ (m+1) 0 N Q hp (by lia) h2 (more _ hp hn rfl hl fun i hi=>hn _ _ (by lia) (by lia)) ⟨by lia,fun i j a1 a2 a3 a4=>?_⟩ fun p' m' q' b1 b2 b3 b4 b5=>hq p' m' q' b1 (by lia) b3 b4 b5
    have:i=j:=by lia
    rw [this];exact O.irr _
  | false=>
   rw [if_neg zAF];refine hc _ _ (hp.lt (i:=m - 1) (by lia)) (hp.lt (i:=m) (by lia)) _ ?_
   show (if lt (gt p (m - 1)) (gt p m)=true then KasT.ret (p,m,q) else kas_desc f p (m+1) (q+1)).kasWp cmp Q s
   cases hd:lt (gt p (m - 1)) (gt p m) with
   | true=>rw [if_pos rfl];exact hq p m q hp (zAH _) (by lia) hn hf
   | false=>
    rw [if_neg zAF];refine NG O hc f _ (m+1) (q+1) N Q hp (by lia) h2 (fun i j jv hj=>?_) ⟨by lia,fun i j a1 a2 a3 a4=>?_⟩ fun p' m' q' b1 b2 b3 b4 b5=>hq p' m' q' b1 (by lia) b3 b4 b5
    ·rcases zAe j m with h | h
     ·exact hn i j jv h
     ·have ej:j=m:=by lia
      subst ej;rcases zAe i j with h' | h'
      ·exact O.trans _ _ _ hd (hn i (j - 1) (by lia) (by lia))
      ·have:i=j:=by lia
       rw [this];exact O.irr _
    ·rcases zAe i m with h | h
     ·rcases zAe j m with h' | h'
      ·exact hf.2 i j (by lia) h (by lia) h'
      ·have ej:j=m:=by lia
       subst ej;exact O.trans _ _ _ hd (hf.2 i (j - 1) (by lia) h (by lia) (by lia))
     ·have ei:i=m:=by lia
      subst ei;rcases zAe j i with h' | h'
      ·exact O.trans _ _ _ (hf.2 (i - 1) j (by lia) (by lia) (by lia) h') hl
      ·have:i=j:=by lia
       rw [this];exact O.irr _
theorem BN{p:Array Nat}{m:Nat}(hm:m<=p.size)(hn:QK lt p m):SortedTo lt (kas_rev p 0 m) m:=fun i j jv hj=>by
 have g (k:Nat):=ND (p:=p) (i:=0) hm k;rw [g i,g j,if_pos ⟨by lia,by lia⟩,if_pos ⟨by lia,by lia⟩]
 exact hn _ _ (by lia) (by lia)
theorem Kh(O:UU lt)(hc:Qg lt n cmp s){p:Array Nat}(hp:PB n p){m N:Nat}{Q:Nat×Array Nat->Shared->Prop}(h1:1<=m)(h2:m<=N)(h3:N<=n)(hn:QK lt p m)(hq:∀ m' p',PB n p'->1<=m'->m'<=N->SortedTo lt p' m'->Q (m',p') s):(kas_tail3 m N p).kasWp cmp Q s:=by
 unfold kas_tail3;rw [KasT.kasWp_bind];exact Lk O hc (hp.rev 0 m) (N - m) m N _ (by lia) h3 h1 (BN (by have:=hp.size;lia) hn) fun m' g1 g2 g3 _=>hq m' _ (hp.rev 0 m) (by lia) g2 g3
theorem Kz(O:UU lt)(hc:Qg lt n cmp s){p:Array Nat}(hp:PB n p){m N:Nat}{Q:Nat×Array Nat->Shared->Prop}(h2:m+1<=N)(h3:N<=n)(hn:QK lt p (m+1))(hq:∀ m' p',PB n p'->1<=m'->m'<=N->SortedTo lt p' m'->Q (m',p') s):(kas_descPart m N p).kasWp cmp Q s:=by
 unfold kas_descPart;rw [KasT.kasWp_bind];refine NG O hc (N - (m+1)) p (m+1) 0 N _ hp (by lia) h3 hn ⟨by lia,fun i j a1 a2 a3 a4=>?_⟩ fun p' m' q' b1 b2 b3 b4 b5=>?_
 ·have:i=j:=by lia
  rw [this];exact O.irr _
 ·have hs:=b1.size;show (if q' > 0 then kas_tail3 m' N (kas_rev p' (m' - (q'+1)) m') else kas_tail3 m' N p').kasWp cmp Q s
  split
  ·exact Kh O hc (b1.rev _ _) (by lia) b3 h3 (KG O (by lia) b5 b4) hq
  ·exact Kh O hc b1 (by lia) b3 h3 b4 hq
theorem BJ(O:UU lt)(hc:Qg lt n cmp s){p:Array Nat}(hp:PB n p){Q:Nat×Array Nat->Shared->Prop}(h1:1<=n)(hq:∀ m' p',PB n p'->1<=m'->m'<=n->SortedTo lt p' m'->Q (m',p') s):(kas_count n p).kasWp cmp Q s:=by
 unfold kas_count;rw [KasT.kasWp_bind];have hs:=hp.size;refine Lk O hc hp (n - 1) 1 n _ (by lia) (zAH _) (zAH _) (fun i j jv hj=>?_) fun m g1 g2 g3 g4=>?_
 ·have:i=j:=by lia
  rw [this];exact O.irr _
 ·split
  ·exact hq m p hp g1 g2 g3
  ·rename_i jA
   have hm:m<n:=by have:m≠n:=fun e=>jA (by rw [e];simp);lia
   have hl:lt (gt p m) (gt p (m - 1))=true:=by
    rcases g4 with g4 | g4
    ·lia
    ·exact g4
   split
   ·rename_i hgt
    refine hc _ _ (hp.lt (i:=0) (by lia)) (hp.lt (i:=m - 1) (by lia)) _ ?_
    show (if lt (gt p 0) (gt p (m - 1))=true then KasT.ret (m,p) else kas_descPart m n (kas_rev p 0 m)).kasWp cmp Q s
    cases h0:lt (gt p 0) (gt p (m - 1)) with
    | true=>rw [if_pos rfl];exact hq m p hp g1 g2 g3
    | false=>
     rw [if_neg zAF];have al:∀ i j,i<m->j<m->lt (gt p i) (gt p j)=false:=fun i j hi hj=>
      O.trans _ _ _ (g3 j (m - 1) (by lia) (by lia)) (O.trans _ _ _ h0 (g3 0 i (by lia) hi))
     have g (k:Nat):=ND (p:=p) (i:=0) (j:=m) (by lia) k
     refine Kz O hc (hp.rev 0 m) (by lia) (zAH _) (fun i j jv hj=>?_) hq
     rw [g i,g j];rcases zAe j m with h | h
     ·rw [if_pos ⟨by lia,by lia⟩,if_pos ⟨by lia,by lia⟩]
      exact al _ _ (by lia) (by lia)
     ·have ej:j=m:=by lia
      subst ej;rcases zAe i j with h' | h'
      ·rw [if_pos ⟨by lia,h'⟩,if_neg (by lia)]
       exact O.trans _ _ _ (O.asym _ _ hl) (al _ _ (by lia) (by lia))
      ·have:i=j:=by lia
       rw [this,if_neg (by lia)];exact O.irr _
   ·have em:m=1:=by lia
    subst em;refine Kz O hc hp (by lia) (zAH _) (fun i j jv hj=>?_) hq
    rcases zAe i j with h' | h'
    ·have ei:i=0:=by lia
     have ej:j=1:=by lia
     subst ei ej;exact O.asym _ _ hl
    ·have:i=j:=by lia
     rw [this];exact O.irr _
theorem Nw(O:UU lt)(hc:Qg lt n cmp s){p:Array Nat}(hp:PB n p){k:Nat}(hk:k<n)(hs:SortedTo lt p k):∀(f l r:Nat)(Q:Nat->Shared->Prop),l<=r->r<=k->r - l<=f->(∀ i,i<l->lt (gt p k) (gt p i)=false)->(∀ i,r<=i->i<k->lt (gt p k) (gt p i)=true) ->
  (∀ l',l'<=k->(∀ i,i<l'->lt (gt p k) (gt p i)=false)->(∀ i,l'<=i->i<k->lt (gt p k) (gt p i)=true)->Q l' s)->(kas_place p k f l r).kasWp cmp Q s
 | 0,l,r,Q,h1,h2,h3,a,b,hq=>hq l (by lia) a fun i hi=>b i (by lia)
 | f+1,l,r,Q,h1,h2,h3,a,b,hq=>by
  unfold kas_place;split
  ·exact hq l (by lia) a fun i hi=>b i (by lia)
  ·rename_i hlr
   refine hc _ _ (hp.lt (i:=k) hk) (hp.lt (i:=(l+r) / 2) (by lia)) _ ?_
   show (if lt (gt p k) (gt p ((l+r) / 2))=true then kas_place p k f l ((l+r) / 2) else kas_place p k f ((l+r) / 2+1) r).kasWp cmp Q s
   cases hl:lt (gt p k) (gt p ((l+r) / 2)) with
   | true=>
    rw [if_pos rfl];refine Nw O hc hp hk hs f l ((l+r) / 2) Q (by lia) (by lia) (by lia) a (fun i hi hik=>?_) hq
    cases h:lt (gt p k) (gt p i) with
    | true=>rfl
    | false=>
     have:=O.trans _ _ _ (hs ((l+r) / 2) i hi hik) h;rw [hl] at this;cases this
   | false=>
    rw [if_neg zAF];refine Nw O hc hp hk hs f ((l+r) / 2+1) r Q (by lia) h2 (by lia) (fun i hi=>?_) b hq
    exact O.trans _ _ _ (hs i ((l+r) / 2) (by lia) (by lia)) hl
theorem JC(O:UU lt)(hc:Qg lt n cmp s):∀(f:Nat)(p:Array Nat)(k:Nat)(Q:Array Nat->Shared->Prop),PB n p->f+k=n->1<=k->SortedTo lt p k->(∀ p',PB n p'->SortedTo lt p' n->Q p' s)->(kas_bin f p k).kasWp cmp Q s
 | 0,p,k,Q,hp,h1,h2,hs,hq=>hq p hp (by rw [<-h1,Nat.zero_add];exact hs)
 | f+1,p,k,Q,hp,h1,h2,hs,hq=>by
  unfold kas_bin;rw [KasT.kasWp_bind];have hz:=hp.size;refine Nw O hc hp (by lia) hs k 0 k _ (zAd _) (zAH _) (by lia) (fun i hi=>absurd hi (by lia)) (fun i hi hk=>absurd hk (by lia)) fun l hl a b=>?_
  have g (x:Nat):=BY (p:=p) (k:=k) (l:=l) (by lia) hl x
  refine JC O hc f _ (k+1) Q (hp.bub _ _) (by lia) (by lia) (fun i j jv hj=>?_) hq
  rw [g i,g j];by_cases e1:i=l
  ·rw [if_pos e1];by_cases e2:j=l
   ·rw [if_pos e2];exact O.irr _
   ·rw [if_neg e2,if_pos ⟨by lia,by lia⟩]
    exact O.asym _ _ (b (j - 1) (by lia) (by lia))
  ·rw [if_neg e1];by_cases e2:j=l
   ·rw [if_pos e2,if_neg (by lia)]
    exact a i (by lia)
   ·rw [if_neg e2];by_cases c1:l<i/\i<=k
    ·rw [if_pos c1,if_pos ⟨by lia,by lia⟩]
     exact hs _ _ (by lia) (by lia)
    ·rw [if_neg c1];by_cases c2:l<j/\j<=k
     ·rw [if_pos c2];exact hs _ _ (by lia) (by lia)
     ·rw [if_neg c2];exact hs _ _ jv (by lia)
theorem sort_ok(O:UU lt)(hc:Qg lt n cmp s)(h1:1<=n){Q:Array Nat->Shared->Prop}(hq:∀ p,PB n p->SortedTo lt p n->Q p s):(kas_sort n).kasWp cmp Q s:=by
 unfold kas_sort;rw [KasT.kasWp_bind];refine BJ O hc (p:=zBG (zAi n)) (Array.Perm.refl _) h1 fun m p hp g1 g2 g3=>?_;show (if m<n then kas_bin (n - max m 1) p (max m 1) else .ret p:KasT _).kasWp cmp Q s
 split
 ·have e:max m 1=m:=by lia
  rw [e];exact JC O hc (n - m) p m Q hp (by lia) g1 g3 hq
 ·have e:m=n:=by lia
  subst e;exact hq p hp g3
end
end Srt
namespace Tw
open PySem
theorem IM:∀(l m:List Nat),l<m->¬ m<l
 | [],[],h,_=>absurd h (zB8 _)
 | [],_ :: _,_,h=>absurd h (zB8 _)
 | _ :: _,[],h,_=>absurd h (zB8 _)
 | a :: l,b :: m,h,h'=>by
  rw [zBj] at h h';rcases h with h | ⟨rfl,h⟩
  ·rcases h' with h' | ⟨rfl,h'⟩
   ·lia
   ·lia
  ·rcases h' with h' | ⟨_,h'⟩
   ·lia
   ·exact IM l m h h'
theorem Lq:∀(l m:List Nat),¬ l<m->¬ m<l->l=m
 | [],[],_,_=>rfl
 | [],_ :: _,h,_=>absurd (zCy _ _) h
 | _ :: _,[],_,h=>absurd (zCy _ _) h
 | a :: l,b :: m,h,h'=>by
  rw [zBj] at h h';have e:a=b:=by
   rcases Nat.lt_trichotomy a b with c | c | c
   ·exact absurd (.inl c) h
   ·exact c
   ·exact absurd (.inl c) h'
  subst e;rw [Lq l m (fun z=>h (.inr ⟨rfl,z⟩)) fun z=>h' (.inr ⟨rfl,z⟩)]
theorem Jd:∀(l m k:List Nat),l<m->m<k->l<k
 | _,_,[],_,h=>absurd h (zB8 _)
 | [],_,_ :: _,_,_=>zCy _ _
 | _ :: _,[],_,h,_=>absurd h (zB8 _)
 | a :: l,b :: m,c :: k,h,h'=>by
  rw [zBj] at h h' ⊢;rcases h with h | ⟨rfl,h⟩
  ·rcases h' with h' | ⟨rfl,h'⟩
   ·exact .inl (zCx h h')
   ·exact .inl h
  ·rcases h' with h' | ⟨rfl,h'⟩
   ·exact .inl h'
   ·exact .inr ⟨rfl,Jd l m k h h'⟩
theorem eqb_comm'(a b:KT):a.eqb b=b.eqb a:=by
 rw [zBy,Yr,Yr];exact eq_comm
mutual
theorem Px:∀(a b:KT),a.lt b=true->b.lt a=false
 | .int i,.int j,h=>by rw [KT.lt] at h ⊢;have:=of_decide_eq_true h;exact decide_eq_false (by lia)
 | .int _,.str _,_=>by rw [KT.lt]
 | .int _,.tup _,_=>by rw [KT.lt]
 | .str _,.int _,h=>by rw [KT.lt] at h;cases h
 | .str x,.str y,h=>by rw [KT.lt] at h ⊢;exact decide_eq_false (IM _ _ (of_decide_eq_true h))
 | .str _,.tup _,_=>by rw [KT.lt]
 | .tup _,.int _,h=>by rw [KT.lt] at h;cases h
 | .tup _,.str _,h=>by rw [KT.lt] at h;cases h
 | .tup l,.tup m,h=>by rw [KT.lt] at h ⊢;exact ltL_asym l m h
theorem ltL_asym:∀(l m:List KT),ltL l m=true->ltL m l=false
 | [],[],h=>by rw [ltL] at h;cases h
 | [],_ :: _,_=>by rw [ltL]
 | _ :: _,[],h=>by rw [ltL] at h;cases h
 | a :: l,b :: m,h=>by
  rw [ltL] at h ⊢;rw [eqb_comm' b a]
  cases e:a.eqb b with
  | true=>rw [e,if_pos rfl] at h;rw [if_pos rfl];exact ltL_asym l m h
  | false=>rw [e,if_neg zAF] at h;rw [if_neg zAF];exact Px a b h
end
mutual
theorem Nx:∀(a b:KT),a.lt b=false->b.lt a=false->a=b
 | .int i,.int j,h,h'=>by rw [KT.lt] at h h';have:=of_decide_eq_false h;have:=of_decide_eq_false h';rw [show i=j by lia]
 | .int _,.str _,h,_=>by rw [KT.lt] at h;cases h
 | .int _,.tup _,h,_=>by rw [KT.lt] at h;cases h
 | .str _,.int _,_,h=>by rw [KT.lt] at h;cases h
 | .str x,.str y,h,h'=>by
  rw [KT.lt] at h h';have e:=Lq _ _ (of_decide_eq_false h) (of_decide_eq_false h');obtain ⟨⟨x⟩⟩:=x;obtain ⟨⟨y⟩⟩:=y;dsimp only at e;rw [e]
 | .str _,.tup _,h,_=>by rw [KT.lt] at h;cases h
 | .tup _,.int _,_,h=>by rw [KT.lt] at h;cases h
 | .tup _,.str _,_,h=>by rw [KT.lt] at h;cases h
 | .tup l,.tup m,h,h'=>by rw [KT.lt] at h h';rw [ltL_total l m h h']
theorem ltL_total:∀(l m:List KT),ltL l m=false->ltL m l=false->l=m
 | [],[],_,_=>rfl
 | [],_ :: _,h,_=>by rw [ltL] at h;cases h
 | _ :: _,[],_,h=>by rw [ltL] at h;cases h
 | a :: l,b :: m,h,h'=>by
  rw [ltL] at h h';rw [eqb_comm' b a] at h'
  cases e:a.eqb b with
  | true=>rw [e,if_pos rfl] at h h';rw [Yr.mp e,ltL_total l m h h']
  | false=>
   rw [e,if_neg zAF] at h h';have:=Nx a b h h';rw [this,Uv] at e;cases e
end
theorem Q3(a:KT):a.lt a=false:=by
 cases h:a.lt a with
 | false=>rfl
 | true=>have:=Px a a h;rw [h] at this;cases this
mutual
theorem lt_trans':∀(a b c:KT),a.lt b=true->b.lt c=true->a.lt c=true
 | .int i,.int j,.int k,h,h'=>by rw [KT.lt] at h h' ⊢;have:=of_decide_eq_true h;have:=of_decide_eq_true h';exact decide_eq_true (by lia)
 | .int _,_,.str _,_,_=>by rw [KT.lt]
 | .int _,_,.tup _,_,_=>by rw [KT.lt]
 | .str _,_,.tup _,_,_=>by rw [KT.lt]
 | .int _,.str _,.int _,_,h=>by rw [KT.lt] at h;cases h
 | .int _,.tup _,.int _,_,h=>by rw [KT.lt] at h;cases h
 | .str _,.int _,_,h,_=>by rw [KT.lt] at h;cases h
 | .str x,.str y,.str z,h,h'=>by rw [KT.lt] at h h' ⊢;exact decide_eq_true (Jd _ _ _ (of_decide_eq_true h) (of_decide_eq_true h'))
 | .str _,.str _,.int _,_,h=>by rw [KT.lt] at h;cases h
 | .str _,.tup _,.str _,_,h=>by rw [KT.lt] at h;cases h
 | .str _,.tup _,.int _,_,h=>by rw [KT.lt] at h;cases h
 | .tup _,.int _,_,h,_=>by rw [KT.lt] at h;cases h
 | .tup _,.str _,_,h,_=>by rw [KT.lt] at h;cases h
 | .tup l,.tup m,.tup k,h,h'=>by rw [KT.lt] at h h' ⊢;exact ltL_trans l m k h h'
 | .tup _,.tup _,.int _,_,h=>by rw [KT.lt] at h;cases h
 | .tup _,.tup _,.str _,_,h=>by rw [KT.lt] at h;cases h
theorem ltL_trans:∀(l m k:List KT),ltL l m=true->ltL m k=true->ltL l k=true
 | _,[],[],_,h=>by rw [ltL] at h;cases h
 | _,_ :: _,[],_,h=>by rw [ltL] at h;cases h
 | [],_,_ :: _,_,_=>by rw [ltL]
 | _ :: _,[],_ :: _,h,_=>by rw [ltL] at h;cases h
 | a :: l,b :: m,c :: k,h,h'=>by
  rw [ltL] at h h' ⊢
  cases e:a.eqb b with
  | true=>
   rw [e,if_pos rfl] at h;have ab:=Yr.mp e;subst ab
   cases e2:a.eqb c with
   | true=>rw [e2,if_pos rfl] at h';rw [if_pos rfl];exact ltL_trans l m k h h'
   | false=>rw [e2,if_neg zAF] at h';rw [if_neg zAF];exact h'
  | false=>
   rw [e,if_neg zAF] at h
   cases e2:b.eqb c with
   | true=>
    have bc:=Yr.mp e2;subst bc;rw [e,if_neg zAF];exact h
   | false=>
    rw [e2,if_neg zAF] at h';have ac:=lt_trans' a b c h h'
    cases e3:a.eqb c with
    | true=>
     have:=Yr.mp e3;subst this;rw [Q3] at ac;cases ac
    | false=>rw [if_neg zAF];exact ac
end
theorem le_trans'{a b c:KT}(h1:b.lt a=false)(h2:c.lt b=false):c.lt a=false:=by
 cases h:c.lt a with
 | false=>rfl
 | true=>
  cases h3:a.lt b with
  | true=>rw [lt_trans' c a b h h3] at h2;cases h2
  | false=>rw [Nx a b h3 h1,h2] at h;cases h
theorem D4{a b c:KT}(h1:b.lt a=false)(h2:b.lt c=true):a.lt c=true:=by
 cases h:a.lt c with
 | true=>rfl
 | false=>rw [le_trans' h h1] at h2;cases h2
end Tw
namespace Tw
open PySem PySem.Spec L2 PyProof.Rows
structure Kg(g:KT->KT):Prop where
 plt:∀ t u,(g t).plt (g u)=t.lt u
 cmp:∀ t u,(g t).cmp (g u)=true
 shape:∃ n:Nat,∀ t,∃(k:Int)(r:List KT),g t=.tup (.int k :: r)/\r.length=n
def PV(g:KT->KT)(h:Heap)(t:KT)(v:Value):Prop:=ZO h (g t) v
section
variable{prog:Program}{w:World}{A:Around}{E:ja}{s:Shared}{g:KT->KT}
theorem Ip:∀{l m:List KT}{vs us:jd}{i:Nat}{Q:Bool->Shared->Prop},l.length=m.length->KVals s.heap l vs->KVals s.heap m us->cmpL l m=true->A.units+depthL l<cLine->Q (pltL l m) s->PySem.W.KatLex prog w A true false Q (vs.zip us) (i+1) s
 | [],m,vs,us,i,Q,hl,x,y,_,_,h=>by
  rw [KVals] at x;subst x
  cases m with
  | nil=>rw [pltL] at h;exact PySem.W.kat_nil h
  | cons _ _=>simp at hl
 | a :: l,m,vs,us,i,Q,hl,x,y,hc,hu,h=>by
  cases m with
  | nil=>simp at hl
  | cons b m=>
   rw [KVals] at x y;obtain ⟨v,r,rfl,x1,x2⟩:=x;obtain ⟨v',r',rfl,y1,y2⟩:=y;rw [depthL] at hu;rw [pltL] at h;rw [cmpL] at hc;refine PySem.W.kat_cons (Qv a.depth a b A v v' (zAH _) x1 y1 (by lia) prog w _ _ ?_)
   refine PySem.W.kat_go (fun e=>PySem.W.kat_yes ?_) (fun e=>PySem.W.kat_no ?_)
   ·rw [e,if_pos rfl] at h hc;exact Ip (by simpa using hl) x2 y2 hc (by lia) h
   ·rw [e,if_neg zAF] at h hc;exact PySem.W.kat_one v v' (Md a.depth a b A v v' (zAH _) x1 y1 hc (by lia) prog w _ _ h)
theorem ZP3(hg:Kg g){t u:KT}{x y:Value}{Q:Bool->Shared->Prop}(hx:PV g s.heap t x)(hy:PV g s.heap u y)(hu:A.units+(g t).depth<cLine)(h:Q (t.lt u) s):wpAny (model prog w) A (keyLt' (tuples' true) x y) Q E s:=by
 obtain ⟨n,sh⟩:=hg.shape;obtain ⟨k,r,ea,la⟩:=sh t;obtain ⟨m,q,ec,lc⟩:=sh u;have hp:=hg.plt t u;have hc:=hg.cmp t u;unfold PV at hx hy;rw [ea] at hp hc hx hu;rw [ec] at hp hc hy;rw [ZO] at hx hy;obtain ⟨a,ji,rfl,⟨⟨cl,dd,da',sl⟩,ho,hcl,n1,hd⟩,kx⟩:=hx;obtain ⟨c,jp,rfl,⟨⟨cl2,dd2,da2,jF⟩,ho2,hcl2,n2,hd2⟩,ky⟩:=hy;have l1:=kx.length;have l2:=ky.length;rw [KVals] at kx ky;obtain ⟨v1,r1,rfl,k1,kx⟩:=kx;obtain ⟨v2,r2,rfl,k2,ky⟩:=ky;rw [ZO] at k1 k2;obtain ⟨tk,rfl⟩:=k1;obtain ⟨tm,rfl⟩:=k2;rw [KT.plt,pltL] at hp;rw [KT.cmp,cmpL] at hc;rw [KT.depth,depthL] at hu;refine PySem.W.kat_lt ho hd ho2 hd2 ?_;have hfin:decide ((Value.int k tk :: r1).toArray.size<(Value.int m tm :: r2).toArray.size)=false:=by
  simp only [zAW] at l1 l2;simp only [zAL,zAW,decide_eq_false_iff_not]
  lia
 rw [hfin];show PySem.W.KatLex prog w A true false Q ((.int k tk,.int m tm) :: r1.zip r2) 0 s;refine PySem.W.kat_cons (SeqAt.EqAt.int_int k tk m tm prog w _ _ ?_);refine PySem.W.kat_go (fun e=>PySem.W.kat_yes ?_) (fun e=>PySem.W.kat_no ?_)
 ·have e1:(KT.int k).eqb (KT.int m)=true:=by rw [KT.eqb];exact e
  rw [e1,if_pos rfl] at hp hc;refine Ip (by rw [la,lc]) kx ky hc (by lia) ?_
  rw [hp];exact h
 ·have e1:(KT.int k).eqb (KT.int m)=false:=by rw [KT.eqb];exact e
  rw [e1,if_neg zAF,KT.plt] at hp;refine oneLt_int ?_;rw [hp];exact h
end
def Yf(g:KT->KT)(h:Heap):List KT->jd->Prop
 | [],[]=>True
 | t :: ts,v :: vs=>PV g h t v/\Yf g h ts vs
 | _,_=>False
theorem Yf.len{g:KT->KT}{h:Heap}:∀{ts:List KT}{vs:jd},Yf g h ts vs->ts.length=vs.length
 | [],[],_=>rfl
 | _ :: _,_ :: _,x=>congrArg (· + 1) x.2.len
 | [],_ :: _,x=>x.elim
 | _ :: _,[],x=>x.elim
theorem Yf.get{g:KT->KT}{h:Heap}:∀{ts:List KT}{vs:jd},Yf g h ts vs->∀ i,i<vs.length->PV g h (ts.getD i (.int 0)) (vs.getD i Value.none)
 | _ :: _,_ :: _,x,0,_=>x.1
 | _ :: _,_ :: _,x,i+1,hi=>x.2.get i (by simpa using hi)
 | [],[],_,_,hi=>absurd hi (by simp)
 | [],_ :: _,x,_,_=>x.elim
 | _ :: _,[],x,_,_=>x.elim
theorem Yf.firsts{g:KT->KT}(hg:Kg g){h:Heap}:∀{ts:List KT}{vs:jd},Yf g h ts vs->∃ fs,PySem.W.KatTups h vs fs/\fs.length=vs.length/\∀ v∈fs,∃ k t,v=Value.int k t
 | [],[],_=>⟨[],.nil,rfl,fun v hv=>absurd hv (by simp)⟩
 | t :: ts,v :: vs,x=>by
  obtain ⟨fs,h1,h2,h3⟩:=Yf.firsts hg x.2;obtain ⟨_,sh⟩:=hg.shape;obtain ⟨k,r,ea,_⟩:=sh t;have x1:=x.1;unfold PV at x1;rw [ea,ZO] at x1;obtain ⟨a,ji,rfl,⟨o,ho,hc,n,hd⟩,kx⟩:=x1;rw [KVals] at kx;obtain ⟨v1,r1,rfl,k1,kx⟩:=kx;rw [ZO] at k1;obtain ⟨tk,rfl⟩:=k1;refine ⟨.int k tk :: fs,.cons ho hc hd rfl h1,by simp [h2],fun v hv=>?_⟩
  rcases zAf.mp hv with rfl | hv
  ·exact ⟨k,tk,rfl⟩
  ·exact h3 v hv
 | [],_ :: _,x=>x.elim
 | _ :: _,[],x=>x.elim
section
variable{prog:Program}{w:World}{A:Around}{E:ja}{s:Shared}{g:KT->KT}
theorem ZOB(hg:Kg g){ts:List KT}{ks:jd}{Q:PyProof.Rows.SortKind->Shared->Prop}(hl:0<ks.length)(h:Yf g s.heap ts ks)(hq:Q (tuples' true) s):wpAny (model prog w) A (keyKind' ks.toArray) Q E s:=by
 obtain ⟨fs,h1,h2,h3⟩:=h.firsts hg;refine PySem.W.kat_kind (T:=.type "int") h1 (by lia) (fun v hv=>?_) (by decide) hq
 obtain ⟨k,t,rfl⟩:=h3 v hv;exact zAz.of_pure rfl
theorem ZO1(hg:Kg g){ts:List KT}{ks vs:jd}{Q:SortSt->Shared->Prop}(hl:ks.length=vs.length)(h2:2<=vs.length)(h64:vs.length<64)(h:Yf g s.heap ts ks)(hu:∀ t∈ts,A.units+(g t).depth<cLine)(hq:∀ (p:Array Nat) (st':SortSt),Srt.PB vs.length p->(∀ i j,i<=j->j<vs.length->(ts.getD (p.getD j 0) (.int 0)).lt (ts.getD (p.getD i 0) (.int 0))=false)->arrOf st'=p.map (PySem.W.kas_item (ks.toArray.zip vs.toArray))->failedOf st'=none->Q st' s):
  wpAny (model prog w) A ((sortRuns').run (SortSt.mk' (tuples' true) (ks.toArray.zip vs.toArray) #[] 7 none)) (fun r s'=>Q r.2 s') E s:=by
 have hln:=h.len;refine PySem.W.kat_run (G:=fun p s'=>s'=s/\Srt.PB vs.length p/\∀ i j,i<=j->j<vs.length->(ts.getD (p.getD j 0) (.int 0)).lt (ts.getD (p.getD i 0) (.int 0))=false) hl h2 h64 (fun p st' s' a1 a2 a3 a4=>?_) ?_
 ·obtain ⟨rfl,b1,b2⟩:=a4;exact hq p st' b1 b2 a2 a3
 ·refine Srt.sort_ok (lt:=fun i j=>(ts.getD i (.int 0)).lt (ts.getD j (.int 0))) ⟨fun i j=>Px _ _,fun i j k=>le_trans'⟩ (fun i j hi hj C hC=>?_) (by lia) fun p b1 b2=>⟨rfl,b1,fun i j jv hj=>b2 i j jv hj⟩
  unfold PySem.W.kas_ask;refine ZP3 hg (h.get i (by lia)) (h.get j (by lia)) (hu _ ?_) hC
  have hi':i<ts.length:=by lia
  rw [zAC,zAE hi'];exact zBE _
end
inductive Ux(g:KT->KT)(vs:je)(H:Hp)(Q:VK)(_:XK):Prop
 | mk (v:V) (t:KT) (_:vs=[v]) (_:ZE H t v) (_:t.fits 3=true) (_:∀(v':V)(H':Hp),ZE H' (g t) v'->ZA H H'->Q v' H')
theorem JP{g:KT->KT}{X:Cx}{pins:List (Addr×Obj)}{σ:L2.St}{H:Hp}{s:Shared}(I:ZI X pins σ H s):∀{ts:List KT}{kvs:je}{ks:jd},KeysAt H (ts.map g) kvs->ZP kvs ks->Yf g s.heap ts ks
 | [],kvs,ks,h,r=>by
  rw [zCE,KeysAt] at h;subst h;cases r;trivial
 | t :: ts,kvs,ks,h,r=>by
  rw [zAn,KeysAt] at h;obtain ⟨v,kr,rfl,h1,h2⟩:=h
  cases r with
  | cons ra rb=>exact ⟨Vj I _ _ _ h1 ra,JP I h2 rb⟩
section
variable{X:Cx}{pins:List (Addr×Obj)}{σ:L2.St}
theorem KP{H:Hp}{s:Shared}{b:Addr}(I:ZI X pins σ H s)(h:s.heap.objs.size<=b):b∉frs X.stack:=fun z=>by
 obtain ⟨_,o,e,_⟩:=I.stack.mem z;exact absurd (zAP e) (Nat.not_lt.mpr h)
theorem KZ{g:KT->KT}{IT:Hp->KT->V->Prop}{sp:Sp}{x0:Str}{k:Nat}{f D kS:Addr}{fd:FuncData}{oD:Obj}{H0:Hp}{A:Around}{E:ja}{body:Value->PUnit->Sem (ForInStep PUnit)}{all:List KT}(hI:∀ (H H':Hp) (t:KT) (u:V),ZA H H'->IT H t u->IT H' t u)(hS:∀ (H:Hp) (u:V) (t:KT) (Q:VK),ZA H0 H->IT H t u->(∀ (v':V) (H':Hp),ZE H' (g t) v'->ZA H H'->Q v' H')->sp [u] H Q E0)(F:ZM X.prog X.w X.K X.mg X.base ZU k f fd [x0] sp)(hb:Zs X.K fd [x0] [])(hr:ZY k A)(hA:A.frames=X.A.frames)(nD:D∉frs X.stack)(nS:kS∉frs X.stack)(hDS:D≠kS)(hD0:H0 D=none)(jz:∀ x (s:Shared) (R:Shared->Prop),wpAny (model X.prog X.w) A (call (.ref f) [x]) (fun kv s'=>∃ (ks:jd) (e:Nat),ks.length<64/\s'.heap.get? kS=some (seqObj "list" ks.toArray e)/\R { s' with heap:=s'.heap.update kS (Obj.mapSeq (·.push kv)) }) (fun _ _=>False) s ->
   wpAny (model X.prog X.w) A (body x ⟨⟩) (fun r s'=>r=.yield ⟨⟩/\R s') E s):
  ∀(r:jd)(rU:je)(rT dT:List KT)(H:Hp)(s:Shared)(ks:jd)(kvs:je)(e:Nat),all=dT++rT->all.length<64->ZI X pins σ H s->ZA H0 H->Wp X pins H kS->H D=none->ZP rU r->Paired (IT H) rT rU ->
   s.heap.get? D=some oD->s.heap.get? kS=some (seqObj "list" ks.toArray e)->KeysAt H (dT.map g) kvs->ZP kvs ks ->
   wpAny (model X.prog X.w) A (forIn r PUnit.unit body) (fun _ s'=>∃(H':Hp)(ks':jd)(kvs':je)(e':Nat),ZI X pins σ H' s'/\ZA H0 H'/\Wp X pins H' kS/\H' D=none/\s'.heap.get? D=some oD/\s'.heap.get? kS=some (seqObj "list" ks'.toArray e')/\KeysAt H' (all.map g) kvs'/\ZP kvs' ks') E s
 | [],rU,rT,dT,H,s,ks,kvs,e,ha,hl,I,s0,fp,hD,r,hk,oo,os,hks,rk=>by
  cases r;cases hk;rw [zA0] at ha;subst ha;rw [List.forIn_nil];exact wpAny_pure ⟨H,ks,kvs,e,I,s0,fp,hD,oo,os,hks,rk⟩
 | x :: r,rU,rT,dT,H,s,ks,kvs,e,ha,hl,I,s0,fp,hD,rr,hk,oo,os,hks,rk=>by
  cases rr with
  | cons ra rb=>
  rename_i u ur
  cases hk with
  | cons hk1 hk2=>
  rename_i t rT
  rw [zDB];have hlen:ks.length=dT.length:=by
   have a:=hks.length;have b:=rk.length;rw [zAD] at a
   lia
  have hlall:dT.length+(rT.length+1)<64:=by rw [ha,zAI,zAW] at hl;lia
  refine wpAny_bind (Za (jz x s (fun s'=>∃(H':Hp)(ks':jd)(kvs':je)(e':Nat),ZI X pins σ H' s'/\ZA H0 H'/\ZA H H'/\Wp X pins H' kS/\H' D=none/\s'.heap.get? D=some oD/\s'.heap.get? kS=some (seqObj "list" ks'.toArray e')/\KeysAt H' ((dT++[t]).map g) kvs'/\ZP kvs' ks') ?_) fun q s' hq=>?_)
  ·have env:VA X.prog X.w X.K X.mg X.base A X.stack s H:=⟨by rw [hA];exact I.ok.frames,I.env0.mod,I.env0.bs,I.env0.bsz,I.env0.funs,I.env0.frf,I.env0.hok,I.env0.bare⟩
   have jP:sp [u] H (fun v' H'=>ZE H' (g t) v'/\ZA H H') E0:=hS H u t _ s0 hk1 fun v' H' a b=>⟨a,b⟩;have r2:ZP [u] [x]:=.cons ra .nil;refine wpAny_call (codeAny_mono (F.run A X.stack s H ⟨[x],[]⟩ [x] [u] _ E0 hr env (hb s [x] I.kIn rfl) r2 jP) fun rr s' hq=>?_)
   cases rr with
   | error ev=>exact hq.elim
   | ok fl=>
    cases fl with
    | next=>exact False.elim hq
    | brk=>exact False.elim hq
    | cont=>exact False.elim hq
    | ret kv=>
     obtain ⟨v',H',os',bare,un,hok,rv,kt,sm⟩:=hq;have J:ZI X pins σ H' s':=I.call' os' un hok bare (fun b hb=>absurd hb (by simp))
     have oo':=un.keep D oD oo hD nD (by simp)
     have oS':=un.keep kS _ os fp.1 nS (by simp)
     have hS':H' kS=none:=un.free kS _ os fp.1 (by simp)
     have hD':H' D=none:=un.free D _ oo hD (by simp)
     refine ⟨ks,e,by lia,oS',?_⟩
     have fp':Wp X pins H' kS:=⟨hS',fp.2⟩;have ea:(zBG ks).push kv=zBG (ks++[kv]):=by simp
     obtain ⟨c2,hc2⟩:∃ c2,(s'.heap.update kS (Obj.mapSeq (·.push kv))).get? kS=some (seqObj "list" (zBG (ks++[kv])) c2):=⟨_,by rw [<-ea];exact get?_update_seq oS' (·.push kv)⟩
     have sb:=zA6.update s'.heap kS (Obj.mapSeq (·.push kv));have J2:ZI X pins σ H' { s' with heap:=s'.heap.update kS (Obj.mapSeq (·.push kv)) }:=J.turned (t':=s'.toks) (it:=kS) (fun b o n q=>(sb.2 b n).trans q) fp'.1 fp'.2.1 fp'.2.2.2.1 fp'.2.2.2.2.1 fp'.2.2.2.2.2;refine ⟨H',ks++[kv],kvs++[v'],c2,J2,s0.trans sm,sm,fp',hD',(sb.2 D hDS).trans oo',hc2,?_,rk.append (.cons rv .nil)⟩;rw [zAV];exact (hks.mono (ZA.tups sm) _ _).append (.cons kt .nil)
  ·obtain ⟨rfl,H',ks',kvs',e',J,s0',sm,fp',hD',oo',os',hks',rk'⟩:=hq;show wpAny (model X.prog X.w) A (forIn r PUnit.unit body) _ E s';exact KZ hI hS F hb hr hA nD nS hDS hD0 jz r _ rT (dT++[t]) H' s' ks' kvs' e' (by rw [ha];simp) hl J s0' fp' hD' rb (Paired.mapP (G:=IT H') hk2 fun _ _ z=>hI _ _ _ _ sm z) oo' os' hks' rk'
end
section
variable{X:Cx}{pins:List (Addr×Obj)}{σ:L2.St}{H:Hp}{s:Shared}
theorem Bs{a:Addr}{o:HO}(I:ZI X pins σ H s)(h0:X.s₀.heap.get? a=none)(hl:a≠X.env.locals)(hc:∀ x c,X.env.cells.lookup x=some c->c≠a)(hp:∀ p∈X.pn++pins,p.1≠a)(hn:H a=none)(new:Ze X.prog X.w (upd H a o) s.heap a o):ZI X pins σ (upd H a o) s:=by
 have nt:∀{b:Addr}{u:HO},H b=some u->b≠a:=fun{b u} e z=>by rw [z,hn] at e;cases e
 refine ⟨I.ok,I.os,I.bare,⟨I.base.keep,I.base.slot,fun b ob q n hx=>?_,I.base.there,fun b xs q=>?_,fun b ob u q=>?_,fun b ps q=>?_⟩,I.loc,I.cell,?_,fun x c e=>?_,fun p hp'=>?_,fun b u e=>?_,I.len⟩
 ·rw [ZX (fun z=>by rw [z,h0] at q;cases q)];exact I.base.free b ob q n hx
 ·have e:=I.base.tups b xs q;rw [ZX (nt e)];exact e
 ·have e:=I.base.frzs b ob u q;rw [ZX (nt e)];exact e
 ·obtain ⟨more,e⟩:=I.base.tbls b ps q;exact ⟨more,by rw [ZX (nt e)];exact e⟩
 ·rw [ZX (Ne.symm hl)];exact I.free
 ·rw [ZX (hc x c e)];exact I.freeC x c e
 ·obtain ⟨e,n,r⟩:=I.pin p hp';exact ⟨e,by rw [ZX (hp p hp')];exact n,r⟩
 ·by_cases hb:b=a
  ·subst hb;rw [ZN] at e;cases e;exact new
  ·rw [ZX hb] at e;exact (I.hok b u e).stay (fun _ _ _ q=>q) (fun c q=>by rw [ZX (nt q)];exact q) fun c xs q=>by rw [ZX (nt q)];exact q
theorem ZP.getD{us:je}{ji:jd}(r:ZP us ji){i:Nat}(h:i<us.length):ZR (us.getD i .non) (ji.getD i Value.none):=by
 have hl:=r.length;obtain ⟨u,e1,e2⟩:=r.get (i:=i) (x:=us[i]) (by simp [h])
 rw [zAC,zAC,e1,zAE h];exact e2
theorem Id{us:je}{ji:jd}(r:ZP us ji):∀(l:List Nat),(∀ i∈l,i<us.length)->ZP (l.map fun i=>us.getD i .non) (l.map fun i=>ji.getD i Value.none)
 | [],_=>.nil
 | i :: l,h=>.cons (ZP.getD r (h i zAT)) (Id r l fun j hj=>h j (zAN _ hj))
theorem IZ{F:KT->V->Prop}{ts:List KT}{us:je}(hk:Paired F ts us):∀(l:List Nat),(∀ i∈l,i<us.length)->Paired F (l.map fun i=>ts.getD i (.int 0)) (l.map fun i=>us.getD i .non)
 | [],_=>.nil
 | i :: l,h=>by
  have hi:=h i zAT;obtain ⟨t,et,kt⟩:=Pg hk (i:=i) (b:=us[i]) (by simp [hi])
  refine .cons (show F (ts.getD i (.int 0)) (us.getD i .non) from ?_) (IZ hk l fun j hj=>h j (zAN _ hj));rw [zAC,zAC,et,zAE hi];exact kt
theorem range_getD{α:Type}(l:List α)(d:α):(zAi l.length).map (fun i=>l.getD i d)=l:=by
 apply zC2
 ·simp
 ·intro i h1 h2;simp [h2]
theorem G1{g:KT->KT}{IT:Hp->KT->V->Prop}{sp:Sp}(hg:Kg g)(dg:∀ t,(g t).depth<=2 * t.depth+2){x0:Str}{k:Nat}{f:Addr}{lv:Value}{fd:FuncData}{us:je}{ts:List KT}{Q:VK}(hr:ZY (k+2) X.A)(F:ZM X.prog X.w X.K X.mg X.base ZU k f fd [x0] sp)(hb:Zs X.K fd [x0] [])(I0:ZI X pins σ H s)(hI:∀ (H H':Hp) (t:KT) (u:V),ZA H H'->IT H t u->IT H' t u)(hS:∀ (H':Hp) (u:V) (t:KT) (Q:VK),ZA H H'->IT H' t u->(∀ (v':V) (H2:Hp),ZE H2 (g t) v'->ZA H' H2->Q v' H2)->sp [u] H' Q E0)(hk:Paired (IT H) ts us)(hf:∀ t∈ts,t.fits 3=true)(h64:us.length<64)(hcol:∀ (Q':jd->Shared->Prop),(∀ (s1:Shared) (ji:jd),ZI X pins σ H s1->ZP us ji->Q' ji s1)->wpAny (model X.prog X.w) X.A.in1 (collect lv) Q' X.xe s)(q:∀ (D:Addr) (ws:je) (rs:List KT) (H':Hp),ZA H H'->H D=none->H' D=some (.lst ws)->Paired (IT H') rs ws->rs.Perm ts->rs.Pairwise (fun a b=>b.lt a=false)->Q (.ref D) H'):
  wpAny (model X.prog X.w) X.A (call (.builtin "sorted") [lv] [(zAy "key",.ref f)]) (EP X pins σ Q) X.xe s:=by
 have hkl:=Paired.length hk;have hr6:ZY k X.A.in1.in1:=(ZY.in1 (k:=k+1) hr).in1;refine call_function_entry_kw kind_sorted plain_sorted entry_sorted (ksk_s1 _ _) ?_;unfold Builtin.«sorted»;refine wpAny_bind (m:=checkCount "sorted" 1 1 _) (wpAny_pure ?_);refine wpAny_bind (hcol _ fun s ji I rv=>?_);have hlen:=rv.length;refine wpAny_bind (wpAny_newList ?_ (by rw [sizeLine_eq];lia))
 obtain ⟨h1,eh1⟩:∃ h1,s.heap.push (seqObj "list" ji.toArray 0)=h1:=⟨_,rfl⟩;have hoL:h1.get? s.heap.objs.size=some (seqObj "list" ji.toArray 0):=by rw [<-eh1];exact zAQ _ rfl
 have keep:∀ b o,s.heap.get? b=some o->h1.get? b=some o:=fun b o z=>by rw [<-eh1];exact zAG _ z
 have hs1:h1.objs.size=s.heap.objs.size+1:=by rw [<-eh1,size_push']
 obtain ⟨D,eD⟩:∃ D,s.heap.objs.size=D:=⟨_,rfl⟩;rw [eD] at hoL;have hDs:s.heap.objs.size<=D:=by lia
 have hHD:H D=none:=I.hok.fresh hDs;have fD:Wp X pins H D:=I.fpOk hDs hHD;have nD:D∉frs X.stack:=KP I hDs;have h0D:X.s₀.heap.get? D=none:=zBo (zBC I.sz hDs);have I1:ZI X pins σ H { s with heap:=h1 }:=I.kept (t':=s.toks) keep;show wpAny _ _ _ _ _ { s with heap:=s.heap.push (seqObj "list" ji.toArray 0) };rw [eh1,eD];refine wpAny_bind (wpAny_holding (wpAny_call_entry_kw slot_list_sort ⟨_,hoL,rfl⟩ entry_list_sort ?body (ksk_l1 _ _)));rw [ksk_t1];unfold ksk_tree;refine wpAny_bind (listItems_at hoL rfl ?_);refine wpAny_bind (listUpdate_at hoL rfl ?_ (by rw [zAL,sizeLine_eq];lia) (zAd _))
 have sb1:=zA6.update h1 D (Obj.mapSeq fun _=>(#[]:Array Value));obtain ⟨e1,ho1⟩:∃ e1,(h1.update D (Obj.mapSeq fun _=>(#[]:Array Value))).get? D=some (seqObj "list" #[] e1):=⟨_,get?_update_seq hoL fun _=>#[]⟩;obtain ⟨h2,eh2⟩:∃ h2,h1.update D (Obj.mapSeq fun _=>(#[]:Array Value))=h2:=⟨_,rfl⟩;rw [eh2] at ho1 sb1;show wpAny _ _ _ _ _ { s with heap:=h1.update D (Obj.mapSeq fun _=>(#[]:Array Value)) };rw [eh2];have I2:ZI X pins σ H { s with heap:=h2 }:=ZI.turned (s:={ s with heap:=h1 }) (t':=s.toks) (it:=D) I1 (fun b o n z=>(sb1.2 b n).trans z) fD.1 fD.2.1 fD.2.2.2.1 fD.2.2.2.2.1 fD.2.2.2.2.2;refine wpAny_bind (seqEpoch_at ho1 rfl ?_);refine wpAny_bind (wpAny_newTuple ?_ (by show ji.length<=_;rw [sizeLine_eq];lia))
 refine wpAny_bind (wpAny_newList ?_ (zAd _));refine wpAny_holding ?_;have hs2:h2.objs.size=s.heap.objs.size+1:=by rw [<-eh2,Heap.size_update,hs1]
 obtain ⟨h3,eh3⟩:∃ h3,(h2.push (seqObj "tuple" ji.toArray 0)).push (seqObj "list" #[] 0)=h3:=⟨_,rfl⟩;have ekS:(h2.push (seqObj "tuple" ji.toArray 0)).objs.size=s.heap.objs.size+2:=by rw [size_push',hs2]
 have keep3:∀ b o,h2.get? b=some o->h3.get? b=some o:=fun b o z=>by rw [<-eh3];exact zAG _ (zAG _ z)
 have hoS:h3.get? (s.heap.objs.size+2)=some (seqObj "list" (zBG []) 0):=by rw [<-eh3,<-ekS];exact zAQ _ rfl
 obtain ⟨kS,ekS2⟩:∃ kS,s.heap.objs.size+2=kS:=⟨_,rfl⟩;rw [ekS2] at hoS ekS;have hSs:s.heap.objs.size<=kS:=by lia
 have hDk0:D≠kS:=by lia
 have hHS:H kS=none:=I.hok.fresh hSs;have fS:Wp X pins H kS:=I.fpOk hSs hHS;have nS:kS∉frs X.stack:=KP I hSs;have I3:ZI X pins σ H { s with heap:=h3 }:=I2.kept (t':=s.toks) keep3;show wpAny _ _ (ksk_rest D (.ref f) false ji.toArray e1 (.ref (h2.push (seqObj "tuple" ji.toArray 0)).objs.size)) _ _ { s with heap:=(h2.push (seqObj "tuple" ji.toArray 0)).push (seqObj "list" #[] 0) };rw [eh3,ekS];have fin:∀(H':Hp)(s':Shared)(ks:jd)(kvs:je)(e:Nat),ZI X pins σ H' s'->ZA H H'->Wp X pins H' kS->H' D=none->s'.heap.get? D=some (seqObj "list" #[] e1)->s'.heap.get? kS=some (seqObj "list" ks.toArray e)->KeysAt H' (ts.map g) kvs->ZP kvs ks ->
   wpAny (model X.prog X.w) X.A.in1.in1 (ksk_end D false ji.toArray e1 (.ref kS) ks.toArray) (fun fin s'=>∃ v,fin=.done (.ret v)/\wpAny (model X.prog X.w) X.A.in1 (ret (.ref D)) (fun fin s'=>∃ v,fin=.done (.ret v)/\EP X pins σ Q v s') X.xe s') X.xe s':=by
  intro H' s' ks kvs e J sm fp hD' oo os hks rk;have hkl2:ks.length=ji.length:=by
   have a:=hks.length;have b:=rk.length;rw [zAD] at a
   lia
  have sv:Yf g s'.heap ts ks:=JP J hks rk;have tail:∀(st:SortSt)(p:Array Nat),Srt.PB ji.length p->(∀ i j,i<=j->j<ji.length->(ts.getD (p.getD j 0) (.int 0)).lt (ts.getD (p.getD i 0) (.int 0))=false)->(arrOf st).map (·.2)=zBG (p.toList.map fun i=>ji.getD i Value.none)->failedOf st=none ->
    wpAny (model X.prog X.w) X.A.in1.in1 (ksk_tail D false e1 (.ref kS) st) (fun fin s'=>∃ v,fin=.done (.ret v)/\wpAny (model X.prog X.w) X.A.in1 (ret (.ref D)) (fun fin s'=>∃ v,fin=.done (.ret v)/\EP X pins σ Q v s') X.xe s') X.xe s':=by
   intro st p hp hs hout hfail;have hps:=hp.size;have hmem:∀ i∈p.toList,i<us.length:=fun i hi=>by
    have:i∈(zBG (zAi ji.length)):=hp.mem_iff.mp (zDY.mp hi);have:=(zA7.mp (by simpa using this):i<ji.length)
    lia
   have jr:p.toList.length=ji.length:=by rw [zA4,hps]
   have s1:=zA6.update s'.heap kS (Obj.mapSeq fun _=>(#[]:Array Value));have hDk:D≠kS:=by lia
   have oD1:=(s1.2 D hDk).trans oo;have s2:=zA6.update (s'.heap.update kS (Obj.mapSeq fun _=>(#[]:Array Value))) D (Obj.mapSeq fun _=>zBG (p.toList.map fun i=>ji.getD i Value.none));obtain ⟨c2,hc2⟩:∃ c2,((s'.heap.update kS (Obj.mapSeq fun _=>(#[]:Array Value))).update D (Obj.mapSeq fun _=>zBG (p.toList.map fun i=>ji.getD i Value.none))).get? D=some (seqObj "list" (zBG (p.toList.map fun i=>ji.getD i Value.none)) c2):=⟨_,get?_update_seq oD1 fun _=>zBG (p.toList.map fun i=>ji.getD i Value.none)⟩;unfold ksk_tail;dsimp only;rw [hout,if_neg zAF];refine wpAny_bind (listUpdate_at os rfl ?_ (by rw [zAL,sizeLine_eq];lia) (zAd _))
   refine wpAny_bind (wpAny_letGo ?_);refine wpAny_bind (seqEpoch_at oD1 rfl ?_);refine wpAny_bind (listUpdate_at oD1 rfl ?_ (zAd _) (by rw [zAL,zAD,jr,sizeLine_eq];lia))
   rw [hfail];simp only [bne_self_eq_false,zA3,if_false];have J1:ZI X pins σ H' { s' with heap:=s'.heap.update kS (Obj.mapSeq fun _=>(#[]:Array Value)) }:=J.turned (t':=s'.toks) (it:=kS) (fun b o n z=>(s1.2 b n).trans z) fp.1 fp.2.1 fp.2.2.2.1 fp.2.2.2.2.1 fp.2.2.2.2.2;have J2:ZI X pins σ H' { s' with heap:=(s'.heap.update kS (Obj.mapSeq fun _=>(#[]:Array Value))).update D (Obj.mapSeq fun _=>zBG (p.toList.map fun i=>ji.getD i Value.none)) }:=ZI.turned (s:={ s' with heap:=s'.heap.update kS (Obj.mapSeq fun _=>(#[]:Array Value)) }) (t':=s'.toks) (it:=D) J1 (fun b o n z=>(s2.2 b n).trans z) hD' fD.2.1 fD.2.2.2.1 fD.2.2.2.2.1 fD.2.2.2.2.2;have J3:=Bs (a:=D) (o:=.lst (p.toList.map fun i=>us.getD i .non)) J2 h0D fD.2.1 fD.2.2.2.2.1 fD.2.2.2.2.2 hD' ⟨by rw [zAD,jr,sizeLine_eq];lia,_,c2,Id rv _ hmem,hc2⟩
   have g:=ZS hD' (.lst (p.toList.map fun i=>us.getD i .non));refine wpAny_pure ⟨.none,rfl,wpAny_pure ⟨_,rfl,.ref D,_,J3,rfl,q D _ (p.toList.map fun i=>ts.getD i (.int 0)) _ (sm.trans g) hHD ZN (IZ (Paired.mapP (G:=IT _) hk fun _ _ z=>hI _ _ _ _ (sm.trans g) z) _ hmem) ?_ ?_⟩⟩
   ·have hpp:p.toList.Perm (zAi ji.length):=by simpa using Array.perm_iff_toList_perm.mp hp
    have:=hpp.map (fun i=>ts.getD i (KT.int 0));rw [show ji.length=ts.length by lia,range_getD] at this
    exact this
   ·rw [zBU];intro i j hi hj jv;rw [zAD,jr] at hi hj;simp only [zC1];have:=hs i j (zBH jv) hj;have e (x:Nat) (hx:x<ji.length):p.getD x 0=p.toList[x]'(by lia):=by simp [Array.getD,hps,hx]
    rw [e i hi,e j hj] at this;exact this
  unfold ksk_end;dsimp only;rw [if_neg zAF,if_neg zAF];by_cases h2:ji.length<2
  ·rw [if_pos (by rw [zAL];exact h2),if_pos (by rw [zAL];exact h2)]
   refine wpAny_bind (wpAny_pure (wpAny_bind (wpAny_pure ?_)));refine tail _ (zBG (zAi ji.length)) (Array.Perm.refl _) (fun i j jv hj=>?_) ?_ rfl
   ·have:i=j:=by lia
    rw [this];exact Q3 _
   ·show ((ks.toArray.zip ji.toArray).map (·.2))=_;apply Array.toList_inj.mp;rw [Array.toList_map,ksk_zip];simp only [List.toList_toArray];rw [range_getD,List.map_snd_zip (by lia)]
  ·rw [if_neg (by rw [zAL];exact h2),if_neg (by rw [zAL];exact h2)]
   refine wpAny_bind (ZOB hg (by lia) sv ?_)
   refine wpAny_bind (Za (ZO1 hg (Q:=fun st' s''=>s''=s'/\∃ p:Array Nat,Srt.PB ji.length p/\(∀ i j,i<=j->j<ji.length->(ts.getD (p.getD j 0) (.int 0)).lt (ts.getD (p.getD i 0) (.int 0))=false)/\arrOf st'=p.map (PySem.W.kas_item (ks.toArray.zip ji.toArray))/\failedOf st'=none)
    hkl2 (by lia) (by lia) sv (fun t ht=>?_) fun p st' b1 b2 b3 b4=>⟨rfl,p,b1,b2,b3,b4⟩) fun r s'' hr'=>?_)
   ·have a:=hr6.un;have d1:=dg t;have d2:=VU t 3 (hf t ht)
    lia
   ·obtain ⟨⟨⟩,st'⟩:=r;obtain ⟨rfl,p,b1,b2,b3,b4⟩:=hr';exact tail st' p b1 b2 (PySem.W.kat_snds hkl2 b3) b4
 unfold ksk_rest;refine wpAny_bind (wpAny_rule ?_)
 first
  | rw [List.forIn_toArray]
  | (rw [<-zCh];simp only [List.toList_toArray])
 refine wpAny_bind (Za (KZ (all:=ts) (H0:=H) (D:=D) (kS:=kS) hI hS F hb hr6 rfl nD nS hDk0 hHD (fun x s4 R hx=>?_) ji us ts [] H { s with heap:=h3 } [] [] 0 rfl (by lia) I3 (ZA.refl H) fS hHD rv hk (keep3 _ _ ho1) hoS .nil .nil) fun _ s4 h4=>?_)
 ·refine wpAny_bind (wpAny_attempt (wpAny_mono hx (fun kv s5 h5=>?_) fun _ _ z=>z.elim));obtain ⟨ks,e,l64,o5,R5⟩:=h5
  try dsimp only
  refine wpAny_bind (listUpdate_at o5 rfl ?_ (by rw [zAL,sizeLine_eq];lia) (zBC (zCa (Array.size_push ..)) (by rw [zAL,sizeLine_eq];lia)))
  exact wpAny_pure ⟨rfl,R5⟩
 ·obtain ⟨H',ks,kvs,e,J,sm,fp,hD',oo,os,hks,rk⟩:=h4
  try dsimp only
  exact wpAny_bind (listItems_at os rfl (fin H' s4 ks kvs e J sm fp hD' oo os hks rk))
theorem Js{H:Hp}:∀{ts:List KT}{us:je},KeysAt H ts us->(∀ t∈ts,t.fits 3=true)->Paired (fun t u=>ZE H t u/\t.fits 3=true) ts us
 | [],us,h,_=>by rw [KeysAt] at h;subst h;exact .nil
 | t :: ts,us,h,hf=>by
  rw [KeysAt] at h;obtain ⟨v,r,rfl,h1,h2⟩:=h;exact .cons ⟨h1,hf t zAT⟩ (Js h2 fun t ht=>hf t (zAN _ ht))
theorem IE{H:Hp}{G:KT->Prop}:∀{ts:List KT}{us:je},Paired (fun t u=>ZE H t u/\G t) ts us->KeysAt H ts us
 | _,_,.nil=>.nil
 | _,_,.cons h r=>.cons h.1 (IE r)
theorem BW{g:KT->KT}(hg:Kg g)(dg:∀ t,(g t).depth<=2 * t.depth+2){x0:Str}{k:Nat}{f:Addr}{lv:Value}{fd:FuncData}{us:je}{ts:List KT}{Q:VK}(hr:ZY (k+2) X.A)(F:ZM X.prog X.w X.K X.mg X.base ZU k f fd [x0] (Ux g))(hb:Zs X.K fd [x0] [])(I0:ZI X pins σ H s)(hk:KeysAt H ts us)(hf:∀ t∈ts,t.fits 3=true)(h64:us.length<64)(hcol:∀ (Q':jd->Shared->Prop),(∀ (s1:Shared) (ji:jd),ZI X pins σ H s1->ZP us ji->Q' ji s1)->wpAny (model X.prog X.w) X.A.in1 (collect lv) Q' X.xe s)(q:∀ (D:Addr) (ws:je) (rs:List KT) (H':Hp),ZA H H'->H D=none->H' D=some (.lst ws)->KeysAt H' rs ws->rs.Perm ts->rs.Pairwise (fun a b=>b.lt a=false)->Q (.ref D) H'):
  wpAny (model X.prog X.w) X.A (call (.builtin "sorted") [lv] [(zAy "key",.ref f)]) (EP X pins σ Q) X.xe s:=
 G1 (IT:=fun H t u=>ZE H t u/\t.fits 3=true) hg dg hr F hb I0 (fun _ _ _ _ sm h=>⟨h.1.mono (ZA.tups sm) _ _,h.2⟩) (fun H' u t Q _ h k=>⟨u,t,rfl,h.1,h.2,k⟩) (Js hk hf) hf h64 hcol fun D ws rs H' s' nD hD hp pm up=>q D ws rs H' s' nD hD (IE hp) pm up
end
end Tw
namespace L2
open PySem PySem.Spec PyProof.Rows
section
variable{prog:Program}{w:World}{A:Around}{E:ja}{s:Shared}{T:String}{r d:Addr}{n:Nat}{P:Nat->Value->Prop}{OK:Heap->Prop}
theorem ZKC{R:Result->Shared->Prop}(K:zCS prog w T r d n P OK)(hh:A.handled=none)(hok:OK s.heap)(S:Addr)(hSr:S≠r)(hSd:S≠d)(c₀:Nat)(hS:s.heap.get? S=some { cls:=.type "list",data:=.seq #[] c₀ })(hR:∀ h' tk acc' c',(∀ b o,b≠S->s.heap.get? b=some o->h'.get? b=some o)->h'.get? S=some { cls:=.type "list",dict:=none,data:=.seq acc' c',slots:=#[] }->ItemsOf P acc' n->R (.ok (.ret (.ref S))) { s with heap:=h',toks:=tk })(hn:n<=sizeLine):
  codeAny (model prog w) A (.builtin "list.__iadd__" ⟨[.ref S,.ref r],[]⟩) R s:=by
 refine codeAny_builtin PySem.F.entry_list_iadd ?_;rw [Around.under_plainId zDD _];exact PySem.W.kdl_extend (R:=R) K hh hok S hSr hSd (.ref S) c₀ hS hR hn
theorem Jc{Q:jd->Shared->Prop}(K:zCS prog w T r d n P OK)(hh:A.handled=none)(hok:OK s.heap)(hn:n<=sizeLine)(hQ:∀ h' tk acc,(∀ b o,s.heap.get? b=some o->h'.get? b=some o)->s.heap.objs.size<h'.objs.size->ItemsOf P acc n->Q acc.toList { s with heap:=h',toks:=tk }):wpAny (model prog w) A (collect (.ref r)) Q E s:=by
 have hlt:=K.there _ hok;unfold collect;refine wpAny_bind (wpAny_runValue (codeAny_builtin PySem.F.entry_proto_collect ?_));rw [Around.under_plainId PySem.F.plain_proto_collect _];show wpAny _ A.in1 (newList [] >>= fun l=>again (.builtin "list.__iadd__" ⟨[l,.ref r],[]⟩)) _ _ s;refine wpAny_bind (wpAny_newObj_type ?_);have hS:(s.heap.push { cls:=.type "list",data:=.seq ([]:jd).toArray }).get? s.heap.objs.size=some { cls:=.type "list",data:=.seq #[] 0 }:=zAQ _ rfl;refine wpAny_pure ⟨plainId_quiet zDD _,ZKC (s:={ s with heap:=s.heap.push { cls:=.type "list",data:=.seq ([]:jd).toArray } }) K hh (K.keep _ _ hok fun b _ o e=>zAG _ e) s.heap.objs.size (zCG hlt.1) (zCG hlt.2) _ hS (fun h' tk acc' c' hk hS' hacc=>?_) hn⟩;show wpAny _ A (load s.heap.objs.size >>= _) _ _ _;refine wpAny_bind (wpAny_load hS' ?_);exact wpAny_pure (hQ h' tk acc' (fun b o e=>hk b o (zAg (zAP e)) (zAG _ e)) (zAP hS') hacc)
end
section
variable{X:Cx}
theorem Dr:∀{kvs:List (ZZ×V)}{vs:List (ZZ×Value)}{ns:List Int},KV kvs vs->kvs.map (·.1)=ns.map Sum.inl->∀ acc:jd,acc.length=vs.length->(∀(i:Nat)(v:Value),acc[i]? = some v->∃(k:ZZ)(x:Value),vs[i]? = some (k,x)/\Qy k v=true)->IntsAre acc ns:=by
 intro kvs vs ns h e acc hl hv;have ek:=KV.keys h;rw [e] at ek;clear e h
 induction vs generalizing ns acc with
 | nil=>
  cases acc with
  | nil=>
   cases ns with
   | nil=>exact .nil
   | cons _ _=>simp at ek
  | cons _ _=>simp at hl
 | cons q r ih=>
  cases acc with
  | nil=>simp at hl
  | cons a acc=>
   cases ns with
   | nil=>simp at ek
   | cons n ns=>
    simp only [zAn,List.cons.injEq] at ek;obtain ⟨k,x,e1,e2⟩:=hv 0 a rfl;simp only [List.getElem?_cons_zero,zAh.injEq] at e1;subst e1;have ek1:Sum.inl n=k:=ek.1;subst ek1;obtain ⟨i,t,z1,z2⟩ | ⟨i,t,z1,z2⟩:=Us e2
    ·cases z1;subst z2;exact .cons _ _ (ih acc (by simpa using hl) (fun i v hi=>by simpa using hv (i+1) v (by simpa using hi)) ek.2)
    ·cases z1
theorem ZFO:∀{vs:jd}{ns:List Int},IntsAre vs ns->ZP (ns.map V.int) vs:=fun h=>Oo h
theorem AS:bootBuiltins "sorted" = some (.builtin "sorted"):=by decide +kernel
end
end L2
namespace Tw
open PySem PySem.Spec L2 PyProof.Rows
def WV(d:Addr)(es:Array DictEntry)(ep:Nat)(h:Heap):Prop:=∃ o,h.get? d=some o/\o.ExactDict/\o.data=.dict es ep
section
variable{prog:Program}{w:World}{A:Around}{E:ja}{s:Shared}{d:Addr}{es:Array DictEntry}{ep:Nat}
theorem WV.type(x:WV d es ep s.heap):s.TypeIs (.ref d) "dict" :=let ⟨o,g,hx,_⟩:=x;⟨o,g,hx.1⟩
theorem WV.at{h h':Heap}(x:WV d es ep h)(k:∀ o,h.get? d=some o->h'.get? d=some o):WV d es ep h':=let ⟨o,g,r⟩:=x;⟨o,k o g,r⟩
theorem Ak{Q:ja}(hd:(d==sysModules)=false)(x:WV d es ep s.heap)(hQ:Q (.ref s.heap.objs.size) { s with heap:=s.heap.push { cls:=.type "dict_keyiterator",data:=.fields #[.ref d,.int 0 0,.int es.size 0,.int ep 0] } }):
  wpAny (model prog w) A (pyIter (.ref d)) Q E s:=by
 have hT:=x.type;obtain ⟨o,ho,hx,hdat⟩:=x;refine wpAny_pyIter_slot hT zDF (wpAny_call_entry zDF hT PySem.F.entry_dict_iter ?_ (PySem.F.args_dict_iter_1 _));unfold Builtin.«dict.__iter__»;refine wpAny_bind ?_;unfold Builtin.Dict.dictSlotNone;refine wpAny_bind (wpAny_notOrdered_dict hT (wpAny_pure ?_));show wpAny _ _ (Builtin.Dict.showsAll d >>= _) _ _ s;unfold Builtin.Dict.showsAll;rw [if_neg (by rw [hd];exact zAF)]
 refine wpAny_bind (wpAny_pure (wpAny_bind (wpAny_dictEntries ho hdat (wpAny_bind (wpAny_dictEpoch ho hdat ?_)))));exact wpAny_bind (wpAny_newObj_type (wpAny_pure ⟨_,rfl,"dict_keyiterator",_,⟨_,zAQ _ rfl,rfl⟩,zBs.lookup,hQ⟩))
theorem Kb{it:Addr}{i:Nat}{Q:jc->Shared->Prop}(hh:A.handled=none)(hit:s.heap.IsKeyIter it d i es.size ep)(x:WV d es ep s.heap)(hQ:∀ e h',es[i]? = some e->h'.IsKeyIter it d (i+1) es.size ep->zA6 it s.heap h'->Q (some e.key) { s with heap:=h' })(hN:∀ h',es[i]? = none->Heap.ExtBut it s.heap h'->Q none { s with heap:=h' }):wpAny (model prog w) A (pyNext (.ref it)) Q E s:=by
 obtain ⟨o,ho,hc,hd⟩:=id hit;obtain ⟨od,hod,hxd,hdd⟩:=x;unfold pyNext;refine wpAny_bind (wpAny_attempt (wpAny_callSpecial?_slot (name:=zAy "__next__") hit.typeIs zBs (wpAny_call_entry zBs hit.typeIs PySem.F.entry_dict_keyiterator_next ?_ (PySem.F.args_dict_keyiterator_next_1 _))));refine wpAny_bind (wpAny_pure (wpAny_bind (wpAny_bind ?_)))
 first | refine wpAny_bind (wpAny_typeNameOfWhole_keyiter hit.typeIs (wpAny_pure ?_)) | refine wpAny_bind (wpAny_typeNameOf_keyiter hit.typeIs (wpAny_pure ?_))
 refine wpAny_bind (wpAny_fieldsOf ho hd ?_);have hown:Builtin.Dict_items.ownsTuple "dict_keyiterator" = false:=by decide
 simp only [hown,zA3,if_false];show wpAny _ _ (if (Value.ref d==Value.none)=true then _ else _) _ _ s
 rw [if_neg (show ¬ ((Value.ref d==Value.none)=true) from zAF)];refine wpAny_bind (wpAny_pure (wpAny_bind (wpAny_dictEntries hod hdd ?_)));rw [if_neg (by simp)]
 refine wpAny_bind (wpAny_pure (wpAny_bind (wpAny_dictEpoch hod hdd ?_)));rw [if_neg (by simp)]
 refine wpAny_pure ?_;simp only [show ¬ ((i:Int)<0) from by lia,if_false,zCL]
 cases he:es[i]? with
 | some e=>
  refine wpAny_bind ?_
  first | refine wpAny_bind (wpAny_typeNameOfWhole_keyiter hit.typeIs (wpAny_pure ?_)) | refine wpAny_bind (wpAny_typeNameOf_keyiter hit.typeIs (wpAny_pure ?_))
  refine wpAny_bind (wpAny_isOneOf_keyiter hit.typeIs ?_);show wpAny _ _ (setField (.ref it) 1 (rawInt ((i:Int)+1)) >>= _) _ _ s;refine wpAny_bind (wpAny_setField ho hd (by simp) ?_)
  have hit':(s.heap.update it (Obj.mapFields (·.setIfInBounds 1 (rawInt ((i:Int)+1))))).IsKeyIter it d (i+1) es.size ep:=
   ⟨_,zA5 _ ho (Obj.isFreed_of_fields (Obj.data_mapFields hd _)),(Obj.cls_mapFields ..).trans hc,by rw [Obj.data_mapFields hd];simp [rawInt]⟩
  refine wpAny_bind (wpAny_holding (wpAny_bind (wpAny_isOneOf_keyiter (s:={ s with heap:=s.heap.update it (Obj.mapFields (·.setIfInBounds 1 (rawInt ((i:Int)+1)))) }) hit'.typeIs ?_)));show wpAny _ _ (pure e.key) _ _ _;exact wpAny_pure (wpAny_pure ⟨_,rfl,wpAny_pure (hQ e _ he hit' (zA6.update ..))⟩)
 | none=>
  refine wpAny_bind ?_
  first | refine wpAny_bind (wpAny_typeNameOfWhole_keyiter hit.typeIs (wpAny_pure ?_)) | refine wpAny_bind (wpAny_typeNameOf_keyiter hit.typeIs (wpAny_pure ?_))
  show wpAny _ _ (setField (.ref it) 0 .none >>= _) _ _ s;refine wpAny_bind (wpAny_setField ho hd (by simp) ?_)
  show wpAny _ _ (newExc (.type "StopIteration") [] >>= _) _ _ _;refine wpAny_bind ?_;simp only [newExc,newTuple];refine wpAny_bind (wpAny_newObj_type ?_ (by size_fits))
  refine wpAny_bind (m:=firstArgMember _ _) (wpAny_of_eq (a:=Value.none) (by first | rfl | (simp only [firstArgMember];rfl)) (wpAny_newObj_type ?_ (by size_fits)))
  simp only [raiseNew];refine wpAny_bind (wpAny_handled ?_);rw [show A.in1.handled=none from hh];refine wpAny_bind (wpAny_pure (wpAny_throw ?_));refine wpAny_bind (wpAny_isInstance (T:= "StopIteration") (b:=true) ⟨_,zAQ _ rfl,rfl⟩ isSubtype_stop ?_);exact wpAny_pure (hN _ he (((zA6.update ..).extBut.push _).push _))
theorem Ao(hh:A.handled=none)(I:Addr)(jA:d≠I):Walks prog w A I [I,d] [I] es.size (fun i v=>(es[i]?).map (·.key)=some v) (fun i h=>h.IsKeyIter I d i es.size ep/\WV d es ep h) where
 sub:=fun b hb=>by simp at hb;simp [hb]
 frame:=fun _ _ _ st hk=>⟨st.1.at fun o e=>hk I (by simp) o e,st.2.at fun o e=>hk d (by simp) o e⟩
 item:=fun i s Q E hi st hQ=>by
  refine Kb hh st.1 st.2 (fun e h' he hit' sb=>?_) (fun h' he=>by rw [zAY hi] at he;cases he)
  exact hQ e.key h' s.toks (by rw [he];rfl) ⟨hit',st.2.at fun o z=>(sb.2 d jA).trans z⟩ fun b o hb e=>(sb.2 b (fun h=>hb (by simp [h]))).trans e
 done:=fun s Q E st hQ=>by
  refine Kb hh st.1 st.2 (fun e h' he=>by rw [zDO (zAH _)] at he;cases he) (fun h' _ ex=>?_)
  exact hQ h' s.toks fun b o hb e=>ex b o (fun h=>hb (by simp [h])) e
 self:=fun _ _ _ _ st hQ=>wpAny_pyIter_keyiter st.1 hQ
theorem Ds(lo:(d==sysModules)=false):zCS prog w "dict" d d es.size (fun i v=>(es[i]?).map (·.key)=some v) (WV d es ep) where
 type:=fun _ x=>x.type
 there:=fun _ x=>by obtain ⟨o,g,_⟩:=x;exact ⟨zAP g,zAP g⟩
 keep:=fun _ _ x hk=>x.at fun o e=>hk d (.inl rfl) o e
 notList:=by decide
 notTuple:=by decide
 hint:=fun _ _ _ _ x hq=>PySem.W.kdl_hint_dict x.type hq
 iter:=fun _ s hh x=>⟨_,_,(fun _ _ hq=>Ak lo x hq),Ao hh _ (by obtain ⟨o,g,_⟩:=x;exact zAg (zAP g)),⟨⟨_,zAQ _ rfl,rfl,rfl⟩,x.at fun o e=>zAG _ e⟩⟩
end
section
variable{X:Cx}{pins:List (Addr×Obj)}{σ:L2.St}{H:Hp}{s:Shared}{A:Around}{E:ja}
theorem BZ{w:World}{xs:List (KT×V×V)}{es:Array DictEntry}{acc:Array Value}(r:Paired (PQ w) xs es.toList)(h:ItemsOf (fun i v=>(es[i]?).map (·.key)=some v) acc es.size):ZP (xs.map (·.2.1)) acc.toList:=by
 have ln:=Paired.length r;have l2:acc.toList.length=es.size:=by have:=h.1;simpa using this
 refine MS (by rw [zAD,l2,ln];simp) fun i a b ha hb=>?_
 rw [zAM] at ha;obtain ⟨z,ez,rfl⟩:=zAa.mp ha;rw [zAj] at hb;have:=h.2 i b hb;obtain ⟨e,ee,rfl⟩:=zAa.mp this;obtain ⟨z',e1,e2⟩:=Pg r (by rw [zAj];exact ee)
 rw [ez] at e1;cases e1;exact e2.2.1
theorem GC{d:Addr}{xs:List (KT×V×V)}{Q:jd->Shared->Prop}(hh:A.handled=none)(I:ZI X pins σ H s)(x:YC X.w H d xs)(hQ:∀ (s1:Shared) (ji:jd),ZI X pins σ H s1->ZP (xs.map (·.2.1)) ji->Q ji s1):wpAny (model X.prog X.w) A (collect (.ref d)) Q E s:=by
 obtain ⟨es,hH,rel⟩:=x.ex;obtain ⟨⟨hsys,hsz,o,ep,ho,hx,hd⟩,_⟩:=I.hok d _ hH;refine Jc (Ds (ep:=ep) hsys) hh ⟨o,ho,hx,hd⟩ hsz fun h' tk acc k1 _ hacc=>?_;exact hQ _ acc.toList (I.kept (t':=tk) k1) (BZ rel hacc)
end
section
variable{X:Cx}
theorem Ac:bootBuiltins "sorted" = some (.builtin "sorted"):=by decide +kernel
def Aw:TE:=fun _ H Q=>∀(p:Addr)(H':Hp),H p=none->ZC p H H'->ZA H H'->YC X.w H' p []->Q (.ref p) H'
theorem He{pos:Pos}:PE X (.Dict [] [] pos) (Aw (X:=X)):=fun pins s σ H Q I h=>by
 have hn:=I.hok.fresh (zAH s.heap.objs.size);refine wpAny_Dict_empty ⟨.ref s.heap.objs.size,_,I.laid (a:=s.heap.objs.size) (o:=PR s.heap.objs.size #[]) (t':=s.toks) (fun _ _ q=>zAG _ q) (zAH _) (Iq (beq_eq_false_iff_ne.mpr (Ne.symm (zAg I.big))) (zAd _) ⟨_,0,zAQ _ rfl,⟨rfl,rfl,rfl⟩,rfl⟩),rfl,?_⟩;exact h _ _ hn (fun b o e n=>by rw [ZX n];exact e) (ZS hn _) ⟨⟨#[],ZN,.nil⟩,fun z hz=>by simp at hz,.nil⟩
def Fa(w:World)(td ty tv:TE):TS:=fun D σ H=>tv σ H fun v H1=>td σ H1 fun x H2=>ty σ H2 fun y H3=>∃(a:Addr)(xs:List (KT×V×V))(t:KT),x=.ref a/\YC w H3 a xs/\xs.length<1000/\ZE H3 t y/\t.depth<=3/\∀ H4,ZC a H3 H4->YC w H4 a (UF xs t y v)->D.nx σ H4
theorem Jl{o i value:Expr}{pos pos':Pos}{td ty tv:TE}(hu:X.A.units+4<cLine)(ho:PE X o td)(hi:PE X i ty)(hv:PE X value tv)(hs:swapsWith value (some (.Subscript o i pos')) pos.line X.env=pure false):
  PS X (.Assign [.Subscript o i pos'] value pos) (Fa X.w td ty tv):=by
 intro pins s σ H D I h;refine wpAny_Assign_Subscript (Za (hv pins s σ H _ I h) fun r s1 ⟨v,H1,I1,rv,q1⟩=>Za (ho pins s1 σ H1 _ I1 q1) fun u s2 ⟨x,H2,I2,rx,q2⟩=>Za (hi pins s2 σ H2 _ I2 q2) fun iv s3 ⟨y,H3,I3,ry,a,xs,t,ex,dk,lx,ky,dt,q3⟩=>?_) hs;subst ex;obtain rfl:u=Value.ref a:=rx;exact BA hu I3 dk lx ky dt ry rv fun s4 H4 I4 sx dk4=>⟨σ,H4,I4,q3 H4 sx dk4⟩
def Cu(ts:List KT)(H1:Hp)(Q:VK):Prop:=∀(D:Addr)(ws:je)(rs:List KT)(H':Hp),ZA H1 H'->H1 D=none->H' D=some (.lst ws)->KeysAt H' rs ws->rs.Perm ts->rs.Pairwise (fun a b=>b.lt a=false)->Q (.ref D) H'
def Bd(w:World)(t:TA):TE:=fun σ H Q=>t σ H fun vs H1=>∃(d:Addr)(xs:List (KT×V×V)),vs=[.ref d]/\YC w H1 d xs/\(∀ x∈xs,x.1.fits 3=true)/\xs.length<64/\Cu (xs.map (·.1)) H1 Q
theorem Hm{g:KT->KT}(hg:Kg g)(dg:∀ t,(g t).depth<=2 * t.depth+2){k:Nat}{p pos kp p2:Pos}{e:Expr}{x x0:Str}{t:TA}(DS:ZB X.prog X.w X.K X.mg X.base k x [x0] (Ux g))(hr:ZY (k+2) X.A)(hgl:Gl X "sorted")(hm:X.mg "sorted" = none)(hgx:Gl X x)(ha:PA X [e] t)(hdx:(x==("__debug__" : Str))=false:=by decide)(he:backTo pos (starEach [e] X.env)=(false,eval e X.env) :: backTo pos (starEach [] X.env):=by rfl)(jC:(backTo pos (starEach [e] X.env)).any (·.1)=false:=by rfl):
  PE X (.Call (.Name "sorted" p) [e] [⟨some (zAy "key"),.Name x p2,kp⟩] pos) (Bd X.w t):=by
 intro pins s σ H Q I h;obtain ⟨f,fd,F,b,kp',m⟩:=DS.ex;refine wpAny_Call_Name_kw (Qo I hgl hm Ac (callWith_kw (Za (ha pos pins s σ H _ I h) fun us s1 ⟨vs,H1,I1,r,d,xs,e1,dk,hf,h64,q⟩=>?_) he jC));have pk:PK X [⟨some (zAy "key"),.Name x p2,kp⟩] (XA (tC (.ref f)) V0):=Kc (WL (v:=.ref f) (pos:=p2) hgx m rfl hdx) Kn;refine Za (pk pos pins s1 σ H1 (fun zs H2=>zs=[.ref f]/\H2=H1) I1 ⟨rfl,rfl⟩) fun zs s2 ⟨zv,H2,I2,rz,ez,eH⟩=>?_;subst e1 ez eH;obtain ⟨u,rfl,ru⟩:=VI r;obtain ⟨u2,rfl,ru2⟩:=VI rz;cases ru;cases ru2;have ka:KeysAt H2 (xs.map (·.1)) (xs.map (·.2.1)):=by
  have:=dk.key;clear q h64 hf dk
  induction xs with
  | nil=>exact .nil
  | cons z xs ih=>exact .cons (this z (zAT ..)).1 (ih fun z hz=>this z (zAN _ hz))
 exact BW hg dg hr F b I2 ka (fun t ht=>by obtain ⟨z,hz,rfl⟩:=zAb.mp ht;exact hf z hz) (by rw [zAD];exact h64) (fun Q' hq=>GC hr.hd I2 dk hq) q
end
end Tw
namespace L2
open PySem PySem.Spec PyProof.Rows
section
variable{X:Cx}
theorem IB:∀{ns:List Int}{vs:jd},ZP (ns.map V.int) vs->IntsAre vs ns
 | [],_,h=>by cases h;exact .nil
 | n :: ns,_,h=>by
  cases h with
  | cons r rr=>
   obtain ⟨t,rfl⟩:=r;exact .cons _ _ (IB rr)
end
section
variable{prog:Program}{w:World}{A:Around}{E:ja}{s:Shared}
end
section
variable{X:Cx}{pins:List (Addr×Obj)}{σ:St}{H:Hp}{s:Shared}
end
end L2
namespace Tw
open PySem PySem.Spec L2 PyProof.Rows
def QO:jf->jc->Prop
 | some v,some r=>ZR v r
 | none,none=>True
 | _,_=>False
mutual
theorem ZO.keep{h h':Heap}(k:∀ b o,h.get? b=some o->h'.get? b=some o):∀(t:KT)(v:Value),ZO h t v->ZO h' t v
 | .int i,v,x=>by rw [ZO] at x ⊢;exact x
 | .str i,v,x=>by rw [ZO] at x ⊢;exact x
 | .tup l,v,x=>by
  rw [ZO] at x ⊢;obtain ⟨a,ji,e,⟨o,g,r⟩,e2⟩:=x;exact ⟨a,ji,e,⟨o,k _ _ g,r⟩,KVals.keep k l ji e2⟩
theorem KVals.keep{h h':Heap}(k:∀ b o,h.get? b=some o->h'.get? b=some o):∀(l:List KT)(vs:jd),KVals h l vs->KVals h' l vs
 | [],vs,x=>by rw [KVals] at x ⊢;exact x
 | t :: l,vs,x=>by
  rw [KVals] at x ⊢;obtain ⟨v,r,e,e1,e2⟩:=x;exact ⟨v,r,e,ZO.keep k t v e1,KVals.keep k l r e2⟩
end
section
variable{X:Cx}{pins:List (Addr×Obj)}{σ:L2.St}{H:Hp}{s:Shared}{A:Around}{E:ja}
theorem HY{d:Addr}{xs:List (KT×V×V)}(I:ZI X pins σ H s)(x:YC X.w H d xs):(d==sysModules)=false/\s.TypeIs (.ref d) "dict" /\ ∀ b,Value.ref d=.ref b->∃ ob,s.heap.get? b=some ob/\ob.dict=none:=by
 obtain ⟨es,hH,rel⟩:=x.ex;obtain ⟨⟨hsys,hsz,o,ep,ho,hx,hd⟩,_⟩:=I.hok d _ hH;refine ⟨hsys,⟨o,ho,hx.1⟩,fun b q=>?_⟩;cases q;exact ⟨o,ho,hx.2.1⟩
theorem ZI0{d:Addr}{xs:List (KT×V×V)}{t:KT}{y:V}{u:Value}{Q:jc->Shared->Prop}(hu:A.units+4<cLine)(I:ZI X pins σ H s)(x:YC X.w H d xs)(hy:ZE H t y)(dt:t.depth<=3)(ry:ZR y u)(h:∀ s' r,ZI X pins σ H s'->(∀ b ob,s.heap.get? b=some ob->s'.heap.get? b=some ob)->QO (QS xs t) r->Q r s'):wpAny (model X.prog X.w) A (dictGet d u) Q E s:=by
 obtain ⟨es,hH,rel⟩:=x.ex;obtain ⟨⟨hsys,hsz,o,ep,ho,hx,hd⟩,_⟩:=I.hok d _ hH;unfold dictGet
 try with_reducible refine wpAny_holding ?_
 refine wpAny_bind (Li t.depth t (zAH _) (Vj I t y u hy ry) (by lia) fun tk htk=>?_)
 have I1:ZI X pins σ H { s with toks:=tk }:=I.tok tk;refine wpAny_bind (HC (A:=A) I1 x rel ho hd hy dt ry (by lia) (fun hn=>?_) fun j z e e1 e2 e3 e4=>?_)
 ·refine wpAny_pure (h _ none I1 (fun _ _ e=>e) ?_);rw [EK hn];trivial
 ·refine wpAny_bind (wpAny_dictEntries (s:={ s with toks:=tk }) ho hd ?_);rw [e3];refine wpAny_pure (h _ (some e.val) I1 (fun _ _ e=>e) ?_);rw [<-e2,JT x.nd e1];exact e4.2.2
theorem GQ{d:Addr}{xs:List (KT×V×V)}{t:KT}{y v:V}{u:Value}{Q:ja}(hu:A.units+5<cLine)(I:ZI X pins σ H s)(x:YC X.w H d xs)(hy:ZE H t y)(dt:t.depth<=3)(ry:ZR y u)(hv:QS xs t=some v)(h:∀ w' s',ZI X pins σ H s'->ZR v w'->Q w' s'):wpAny (model X.prog X.w) A (getItem (.ref d) u) Q E s:=by
 obtain ⟨hsys,hT,_⟩:=HY I x;unfold getItem
 try with_reducible refine wpAny_holding ?_
 refine wpAny_bind (wpAny_sequenceKey hT (by decide) ?_)
 refine wpAny_bind (wpAny_callSpecial?_slot (name:=zAy "__getitem__") hT slot_dict_getitem (wpAny_call_entry slot_dict_getitem hT entry_dict_getitem ?_ (args_dict_getitem _ _)));show wpAny _ _ (dictGet d u >>= _) _ _ s;refine wpAny_bind (ZI0 (by show A.units+1+4<_;lia) I x hy dt ry fun s' r I' _ ro=>?_)
 rw [hv] at ro
 cases r with
 | none=>exact ro.elim
 | some r=>exact wpAny_pure ⟨r,rfl,wpAny_pure (h r s' I' ro)⟩
end
section
variable{X:Cx}{o i e f:Expr}{pos jm jk:Pos}{td ty tx:TE}
def Ho(w:World)(td ty:TE):TE:=fun σ H Q=>td σ H fun x H1=>ty σ H1 fun y H2=>∃(a:Addr)(xs:List (KT×V×V))(t:KT)(v:V),x=.ref a/\YC w H2 a xs/\ZE H2 t y/\t.depth<=3/\QS xs t=some v/\Q v H2
theorem ZMI(hu:X.A.units+5<cLine)(ho:PE X o td)(hi:PE X i ty)(hs:OS i):PE X (.Subscript o i pos) (Ho X.w td ty):=by
 intro pins s σ H Q I h;refine HV zC4.lookup hs (Za (ho pins s σ H _ I h) fun u s1 ⟨x,H1,I1,rx,q1⟩=>Za (hi pins s1 σ H1 _ I1 q1) fun iv s2 ⟨y,H2,I2,ry,a,xs,t,v,ex,dk,ky,dt,hv,q2⟩=>?_);subst ex;obtain rfl:u=Value.ref a:=rx;exact ⟨(HY I2 dk).2.1,GQ hu I2 dk ky dt ry hv fun w' s3 I3 rw'=>⟨v,H2,I3,rw',q2⟩⟩
end
section
variable{prog:Program}{w:World}{A:Around}{E:ja}{s:Shared}
end
theorem Paired.ixR{α β:Type}{F:α->β->Prop}:∀{l:List α}{m:List β}{i:Nat}{u:β},Paired F l m->m[i]? = some u->∃ r,l[i]? = some r/\F r u
 | _,_,_,_,.nil,e=>by simp at e
 | _,_,0,_,.cons r _,e=>by simp at e;subst e;exact ⟨_,rfl,r⟩
 | _,_,i+1,u,.cons _ t,e=>by
  obtain ⟨r,h1,h2⟩:=Paired.ixR (i:=i) (u:=u) t (by simpa using e)
  exact ⟨r,by simpa using h1,h2⟩
section
variable{X:Cx}{pins:List (Addr×Obj)}{σ:L2.St}{H:Hp}{s0 s:Shared}{A:Around}
end
section
variable{X:Cx}
end
end Tw
namespace Tw
open PySem PySem.Spec L2
def Vv(N:Addr->Prop)(H:Hp)(n:String)(v:V):Prop:=
 (n = "bool" /\ ∃ b,v=.bl b)\/(n = "NoneType" /\ v=.non)\/(n = "list" /\ ∃ a xs,v=.ref a/\H a=some (.lst xs)/\¬ N a)\/(n = "dict" /\ ∃ a kvs,v=.ref a/\H a=some (.dK kvs)/\¬ N a)
mutual
def Zm(N:Addr->Prop)(H:Hp):TG->V->Prop
 | .int i,v=>v=.int i
 | .str x,v=>v=.str x
 | .tup l,v=>∃ a vs,v=.ref a/\H a=some (.tup vs)/\ThsAt N H l vs
 | .odd n,v=>Vv N H n v
def ThsAt(N:Addr->Prop)(H:Hp):List TG->je->Prop
 | [],vs=>vs=[]
 | t :: l,vs=>∃ v r,vs=v :: r/\Zm N H t v/\ThsAt N H l r
end
structure XM(N:Addr->Prop)(H H':Hp):Prop where
 tup:Z6 H H'
 rest:∀ b o,H b=some o->¬ N b->H' b=some o
theorem XM.same{N:Addr->Prop}{H H':Hp}(s:ZA H H'):XM N H H':=⟨ZA.tups s,fun b o e _=>s b o e⟩
mutual
theorem Zm.mono{N:Addr->Prop}{H H':Hp}(m:XM N H H'):∀(t:TG)(v:V),Zm N H t v->Zm N H' t v
 | .int _,_,h=>by rw [Zm] at h ⊢;exact h
 | .str _,_,h=>by rw [Zm] at h ⊢;exact h
 | .tup l,_,h=>by
  rw [Zm] at h ⊢;obtain ⟨a,vs,e,h1,h2⟩:=h;exact ⟨a,vs,e,m.tup a vs h1,ThsAt.mono m l vs h2⟩
 | .odd n,_,h=>by
  rw [Zm] at h ⊢;rcases h with h | h | ⟨e,a,xs,e1,e2,e3⟩ | ⟨e,a,xs,e1,e2,e3⟩
  ·exact .inl h
  ·exact .inr (.inl h)
  ·exact .inr (.inr (.inl ⟨e,a,xs,e1,m.rest _ _ e2 e3,e3⟩))
  ·exact .inr (.inr (.inr ⟨e,a,xs,e1,m.rest _ _ e2 e3,e3⟩))
theorem ThsAt.mono{N:Addr->Prop}{H H':Hp}(m:XM N H H'):∀(l:List TG)(vs:je),ThsAt N H l vs->ThsAt N H' l vs
 | [],_,h=>by rw [ThsAt] at h ⊢;exact h
 | t :: l,_,h=>by
  rw [ThsAt] at h ⊢;obtain ⟨v,r,e,h1,h2⟩:=h;exact ⟨v,r,e,Zm.mono m t v h1,ThsAt.mono m l r h2⟩
end
mutual
theorem Zm.less{N N':Addr->Prop}{H:Hp}(m:∀ b,N' b->N b):∀(t:TG)(v:V),Zm N H t v->Zm N' H t v
 | .int _,_,h=>by rw [Zm] at h ⊢;exact h
 | .str _,_,h=>by rw [Zm] at h ⊢;exact h
 | .tup l,_,h=>by
  rw [Zm] at h ⊢;obtain ⟨a,vs,e,h1,h2⟩:=h;exact ⟨a,vs,e,h1,ThsAt.less m l vs h2⟩
 | .odd n,_,h=>by
  rw [Zm] at h ⊢;rcases h with h | h | ⟨e,a,xs,e1,e2,e3⟩ | ⟨e,a,xs,e1,e2,e3⟩
  ·exact .inl h
  ·exact .inr (.inl h)
  ·exact .inr (.inr (.inl ⟨e,a,xs,e1,e2,fun z=>e3 (m a z)⟩))
  ·exact .inr (.inr (.inr ⟨e,a,xs,e1,e2,fun z=>e3 (m a z)⟩))
theorem ThsAt.less{N N':Addr->Prop}{H:Hp}(m:∀ b,N' b->N b):∀(l:List TG)(vs:je),ThsAt N H l vs->ThsAt N' H l vs
 | [],_,h=>by rw [ThsAt] at h ⊢;exact h
 | t :: l,_,h=>by
  rw [ThsAt] at h ⊢;obtain ⟨v,r,e,h1,h2⟩:=h;exact ⟨v,r,e,Zm.less m t v h1,ThsAt.less m l r h2⟩
end
theorem ThsAt.length{N:Addr->Prop}{H:Hp}:∀{l:List TG}{vs:je},ThsAt N H l vs->l.length=vs.length
 | [],vs,h=>by rw [ThsAt] at h;subst h;rfl
 | t :: l,vs,h=>by
  rw [ThsAt] at h;obtain ⟨v,r,rfl,_,h2⟩:=h;rw [zAW,zAW,h2.length]
theorem ThsAt.get{N:Addr->Prop}{H:Hp}:∀{l:List TG}{vs:je}{i:Nat}{v:V},ThsAt N H l vs->vs[i]? = some v->∃ t,l[i]? = some t/\Zm N H t v
 | [],vs,i,v,h,e=>by rw [ThsAt] at h;subst h;simp at e
 | t :: l,vs,0,v,h,e=>by
  rw [ThsAt] at h;obtain ⟨v',r,rfl,h1,_⟩:=h;simp at e;subst e;exact ⟨t,rfl,h1⟩
 | t :: l,vs,i+1,v,h,e=>by
  rw [ThsAt] at h;obtain ⟨v',r,rfl,_,h2⟩:=h;obtain ⟨t',e1,e2⟩:=h2.get (i:=i) (by simpa using e)
  exact ⟨t',by simpa using e1,e2⟩
mutual
theorem MU{N:Addr->Prop}{H:Hp}:∀(t:KT)(v:V),ZE H t v->Zm N H t.emb v
 | .int i,v,h=>by rw [ZE] at h;rw [KT.emb,Zm];exact h
 | .str x,v,h=>by rw [ZE] at h;rw [KT.emb,Zm];exact h
 | .tup l,v,h=>by
  rw [ZE] at h;obtain ⟨a,vs,e,h1,h2⟩:=h;rw [KT.emb,Zm];exact ⟨a,vs,e,h1,ths_keys l vs h2⟩
theorem ths_keys{N:Addr->Prop}{H:Hp}:∀(l:List KT)(vs:je),KeysAt H l vs->ThsAt N H (embL l) vs
 | [],vs,h=>by rw [KeysAt] at h;rw [embL,ThsAt];exact h
 | t :: l,vs,h=>by
  rw [KeysAt] at h;obtain ⟨v,r,e,h1,h2⟩:=h;rw [embL,ThsAt];exact ⟨v,r,e,MU t v h1,ths_keys l r h2⟩
end
theorem Vv.ty{K:zAA}{N:Addr->Prop}{H:Hp}{n:String}{v:V}(h:Vv N H n v):Ym K H v (.type n):=by
 rcases h with ⟨rfl,b,rfl⟩ | ⟨rfl,rfl⟩ | ⟨rfl,a,xs,rfl,e,_⟩ | ⟨rfl,a,xs,rfl,e,_⟩
 ·exact .bl b
 ·exact .non
 ·exact .lst e
 ·exact .dK e
theorem Ek{K:zAA}{N:Addr->Prop}{H:Hp}{n:String}{v:V}(h:Vv N H n v):
  ∃ b,zAZ K (.type n) (.type "bool")=some b/\(b=false->zAZ K (.type n) (.type "int")=some false/\zAZ K (.type n) (.type "str")=some false/\zAZ K (.type n) (.type "tuple")=some false):=by
 rcases h with ⟨rfl,_⟩ | ⟨rfl,_⟩ | ⟨rfl,_⟩ | ⟨rfl,_⟩
 ·exact ⟨true,KJ,fun z=>absurd z (by decide)⟩
 ·exact ⟨false,by kernel_rfl,fun _=>⟨by kernel_rfl,by kernel_rfl,by kernel_rfl⟩⟩
 ·exact ⟨false,by kernel_rfl,fun _=>⟨by kernel_rfl,by kernel_rfl,by kernel_rfl⟩⟩
 ·exact ⟨false,by kernel_rfl,fun _=>⟨by kernel_rfl,by kernel_rfl,by kernel_rfl⟩⟩
end Tw
namespace L2
open PySem PySem.Spec PyProof.Rows
section
variable{P:Program}{w:World}{H H2:Hp}{h h':Heap}{cs fs ex:List Addr}
end
section
variable{P:Program}{w:World}{K:zAA}{mg:jb}{base:Heap}
end
section
variable{X:Cx}
theorem Fd(hu:X.A.units<cLine):YX X (compareOp .NotEq) (fun x y H Q=>∃(p b:Addr)(xs:je),x=.ref p/\y=.ref b/\ZK X.K H p xs/\ZK X.K H b xs/\(∀ v∈xs,∃ a,v=.ref a)/\Q (.bl false) H):=by
 intro pins s σ H x y v u Q I rx ry h;obtain ⟨p,b,xs,rfl,rfl,h1,h2,hr,q⟩:=h;cases rx;cases ry;obtain ⟨ji,r1,p1,z1⟩:=I.list h1;obtain ⟨jp,r2,p2,z2⟩:=I.list h2;have e:∀{xs:je}{a b:jd},(∀ v∈xs,∃ a,v=.ref a)->ZP xs a->ZP xs b->a=b:=by
  intro xs
  induction xs with
  | nil=>intro a b _ x y;cases x;cases y;rfl
  | cons v r ih=>
   intro a b hr x y
   cases x with
   | cons xa xb=>
    cases y with
    | cons ya yb=>
     obtain ⟨c,rfl⟩:=hr _ zAT;rw [show _=Value.ref c from xa,show _=Value.ref c from ya,ih (fun v hv=>hr v (zAN _ hv)) xb yb]
 have e12:=e hr r1 r2;subst e12;refine PySem.SeqAt.RcNeAt.lists (e:=fun _=>true) p1.isList p2.isList rfl hu (fun j g1 g2=>PySem.SeqAt.EqAt.same _) X.prog X.w X.xe _ (Ye I q (by simp))
end
section
variable{cs:List Addr}{HL Hc H' H3:Hp}
end
section
variable{prog:Program}{w:World}{A:Around}{E:ja}{s:Shared}
end
section
variable{X:Cx}
end
section
variable{P:Program}{w:World}{K:zAA}{mg:jb}{base:Heap}
end
theorem EW{P:Program}{w:World}{K:zAA}{mg:jb}{base:Heap}{CX:Ws}{N:List Str}{qual:Str}{scope:Scope}{f:Addr}{cdv:Value}{A:Around}{outer:List Env}{s:Shared}{H:Hp}{E:XK}:
  PassesOwn (model (X7 CX P w K mg base N qual scope f cdv A outer s H E).prog (X7 CX P w K mg base N qual scope f cdv A outer s H E).w) (X7 CX P w K mg base N qual scope f cdv A outer s H E).A (X7 CX P w K mg base N qual scope f cdv A outer s H E).env (X7 CX P w K mg base N qual scope f cdv A outer s H E).xe:=by
 show PassesOwn (model P w) (A.deeper (envOfC qual scope s.heap.objs.size f cdv)) (envOfC qual scope s.heap.objs.size f cdv) _
 passes_own
def Qm:Expr->Bool
 | .Starred _ _=>false
 | _=>true
theorem XX{e:Expr}{es:List Expr}{env:Env}(h:Qm e=true):starEach (e :: es) env=(false,eval e env) :: starEach es env:=by
 cases e <;> first | rfl | cases h
theorem ZG{X:Cx}{e:Expr}{es:List Expr}{te:TE}{t:TA}(ha:PE X e te)(hr:PA X es t)(h:Qm e=true:=by rfl):PA X (e :: es) (XA te t):=Zc ha hr (XX h)
theorem UY{X:Cx}{e0 e1 e2:Expr}{t0 t1 t2:TE}(g0:PE X e0 t0)(g1:PE X e1 t1)(g2:PE X e2 t2)(h:[e0,e1,e2].all Qm=true:=by rfl):PA X [e0,e1,e2] (XA t0 (XA t1 (XA t2 V0))):=
 (Zc g0 (Zc g1 (Zc g2 ZH (XX (zAO.mp h e2 (by simp)))) (XX (zAO.mp h e1 (by simp)))) (XX (zAO.mp h e0 (by simp))))
theorem VH{X:Cx}{e0 e1 e2 e3:Expr}{t0 t1 t2 t3:TE}(g0:PE X e0 t0)(g1:PE X e1 t1)(g2:PE X e2 t2)(g3:PE X e3 t3)(h:[e0,e1,e2,e3].all Qm=true:=by rfl):PA X [e0,e1,e2,e3] (XA t0 (XA t1 (XA t2 (XA t3 V0)))):=
 (Zc g0 (Zc g1 (Zc g2 (Zc g3 ZH (XX (zAO.mp h e3 (by simp)))) (XX (zAO.mp h e2 (by simp)))) (XX (zAO.mp h e1 (by simp)))) (XX (zAO.mp h e0 (by simp))))
theorem M7{X:Cx}{e0 e1 e2 e3 e4:Expr}{t0 t1 t2 t3 t4:TE}(g0:PE X e0 t0)(g1:PE X e1 t1)(g2:PE X e2 t2)(g3:PE X e3 t3)(g4:PE X e4 t4)(h:[e0,e1,e2,e3,e4].all Qm=true:=by rfl):PA X [e0,e1,e2,e3,e4] (XA t0 (XA t1 (XA t2 (XA t3 (XA t4 V0))))):=
 (Zc g0 (Zc g1 (Zc g2 (Zc g3 (Zc g4 ZH (XX (zAO.mp h e4 (by simp)))) (XX (zAO.mp h e3 (by simp)))) (XX (zAO.mp h e2 (by simp)))) (XX (zAO.mp h e1 (by simp)))) (XX (zAO.mp h e0 (by simp))))
theorem Iv{X:Cx}{e0 e1 e2 e3 e4 e5:Expr}{t0 t1 t2 t3 t4 t5:TE}(g0:PE X e0 t0)(g1:PE X e1 t1)(g2:PE X e2 t2)(g3:PE X e3 t3)(g4:PE X e4 t4)(g5:PE X e5 t5)(h:[e0,e1,e2,e3,e4,e5].all Qm=true:=by rfl):PA X [e0,e1,e2,e3,e4,e5] (XA t0 (XA t1 (XA t2 (XA t3 (XA t4 (XA t5 V0)))))):=
 (Zc g0 (Zc g1 (Zc g2 (Zc g3 (Zc g4 (Zc g5 ZH (XX (zAO.mp h e5 (by simp)))) (XX (zAO.mp h e4 (by simp)))) (XX (zAO.mp h e3 (by simp)))) (XX (zAO.mp h e2 (by simp)))) (XX (zAO.mp h e1 (by simp)))) (XX (zAO.mp h e0 (by simp))))
end L2
namespace Tw
open PySem PySem.Spec L2
end Tw
namespace L2
open PySem PySem.Spec PyProof.Rows
def Wv(g:Array Value->Prop)(x C:Addr)(od:Option Addr)(h:Heap):Prop:=∃ o vs,h.get? x=some o/\o.cls=.ref C/\o.data=.fields vs/\o.dict=od/\g vs
def Uy:Array Value->Prop:=fun vs=>vs[1]? = some .none
def Vf:Array Value->Prop:=fun _=>True
def XO(g:Array Value->Prop)(x C:Addr)(od:Option Addr):HO:=.ext (Wv g x C od)
theorem Wv.is{g:Array Value->Prop}{x C:Addr}{od:Option Addr}{h:Heap}(e:Wv g x C od h):X5 x C h:=let ⟨o,_,a,b,_⟩:=e;⟨o,a,b⟩
theorem LH{P:Program}{w:World}{H:Hp}{h:Heap}{g:Array Value->Prop}{x C:Addr}{od:Option Addr}(e:Wv g x C od h):Ze P w H h x (XO g x C od):=by
 obtain ⟨o,vs,a,b,c,d⟩:=id e;exact ⟨e,⟨o,a⟩,fun h1 h2 ⟨o1,vs1,a1,b1,c1,d1⟩ k=>⟨o1,vs1,k o1 a1,b1,c1,d1⟩⟩
abbrev Q0:jd:=[.type "ValueError",.type "Exception",.type "BaseException",.type "object"]
def Lc:jd->Bool
 | .ref _ :: r=>Lc r
 | l=>l==Q0
theorem JR(self:Value):∀{l:jd},Lc l=true->PySem.refuseLoop self "__setattr__" l=pure ()
 | .ref c :: r,e=>(refuseLoop_ref _ _ _ _).trans (JR self (l:=r) e)
 | .type n :: r,e=>by rw [show (Value.type n :: r)=Q0 from beq_iff_eq.mp e];exact zC7.passes self
 | [],e=>by cases e
 | .none :: r,e | .bool _ :: r,e | .int _ _ :: r,e | .str _ _ :: r,e | .bytes _ _ :: r,e | .float _ _ :: r,e | .builtin _ :: r,e=>by cases (beq_iff_eq.mp e)
def IW(K:zAA)(C:Addr):Bool:=(PySem.W.clsIn K C).any fun cd=>Lc cd.mro
def NV(K:zAA)(C:Addr):Bool:=
 match K.lookup C with
 | some ⟨.type t,_,.cls cd,sl⟩=>
  (match sl.toList,cd.mro with
  | [_,_,_,_,some (.builtin made),_],.ref D :: up=>t == "type" && (D==C&&(made == "ValueError.__new__" && (PySem.W.tailIn K Q0 up && !cd.hasDel)))
  | _,_=>false)
 | _=>false
structure WX(K:zAA)(C fI:Addr)(f:Str):Prop where
 exc:Xt K C
 made:NV K C=true
 init:zAX K (.ref C) "__init__" = some (some (.ref fI))
 fn:zBp K (.ref fI)=true
 kp:zAu K (.ref C)=true
 sa:zAX K (.ref C) "__setattr__" = some (some (.builtin "object.__setattr__"))
 no:zAX K (.ref C) f=some none
 hd:zBW K C=true
 over:IW K C=true
section
variable{g:Array Value->Prop}{X:Cx}{pins:List (Addr×Obj)}{σ:St}{H:Hp}{s:Shared}{a C fI:Addr}{f:Str}{v:V}{A:Around}{E:ja}
theorem Fk{y:V}{u:Value}{Q:Unit->Shared->Prop}(I:ZI X pins σ H s)(e:H a=some (XO g a C none))(c:WX X.K C fI f)(ry:ZR y u)(h:∀ dx s',H dx=none->dx≠a->ZI X pins σ (upd (upd H dx (.xd [(f,y)])) a (XO g a C (some dx))) s'->Q () s'):wpAny (model X.prog X.w) A (setAttr (.ref a) f u) Q E s:=by
 obtain ⟨o,vs,hx,hc,hda,hdi,hgv⟩:=(I.hok a _ e).1;obtain ⟨oc,od,oda,jO⟩:=o;dsimp only at hc hda hdi;subst hc hda hdi;have J:zC3 s.heap a ⟨.ref C,none,.fields vs,jO⟩ C none:=⟨hx,rfl,rfl,True.intro⟩;refine PySem.W.set_plain I.kIn J c.sa ?_;have SF:=zC7;obtain ⟨cd,jK,ho⟩:=zCI c.over;have sub:zAz (model X.prog X.w) s.heap (isInstance (.ref a) (.type "object")) true:=J.type.andThen (zB6 I.kIn c.exc.mO);refine codeAny_call_builtin SF.slot.plain SF.entry (@PySem.W.check_slot (model X.prog X.w) _ _ { s with toks:=s.toks+1 } "object.__setattr__" "object" "__setattr__" (.ref a) [.str f s.toks,u] [] _ SF.kind SF.split sub (SF.args (.ref a) (.str f s.toks) u) ?_);have hm:zAz (model X.prog X.w) s.heap (mroOf (.ref C)) cd.mro:=(zCY I.kIn jK).andThen .now;rw [PySem.W.osa_eq,PySem.refuse_eq];refine wpAny_bind (wpAny_bind (zAz.here (s:={ s with toks:=s.toks+1 }) J.type (wpAny_bind (zAz.here (s:={ s with toks:=s.toks+1 }) hm ?_))));rw [JR _ ho];refine wpAny_pure (wpAny_bind (zAz.here (s:={ s with toks:=s.toks+1 }) J.type (wpAny_bind (zAz.here (s:={ s with toks:=s.toks+1 }) (zB1 I.kIn c.no) (wpAny_bind (wpAny_pure ?_))))));obtain ⟨cd2,hcd2,hd2⟩:=zCI c.hd;refine wpAny_bind (wpAny_pure (wpAny_bind (wpAny_bind (wpAny_loadPart hx (wpAny_bind (zAz.here (s:={ s with toks:=s.toks+1 }) (zCY I.kIn hcd2) ?_))))));rw [hd2];dsimp only;have hsz:s.heap.get? s.heap.objs.size=none:=zBo (zAH _);have hda:a≠s.heap.objs.size:=zAg (zAP hx);have hHd:H s.heap.objs.size=none:=I.hok.fresh (zAH _);rw [if_neg (by simp),if_neg (by simp [typeHasDict])]
 have hx1:=zAG { cls:=.type "dict",data:=.dict #[] } hx;refine wpAny_bind (wpAny_alloc' (wpAny_bind (wpAny_update' hx1 (wpAny_pure ?_))));generalize eh:((s.heap.push { cls:=.type "dict",data:=.dict #[] }).update a fun o=>{ cls:=o.cls,dict:=some s.heap.objs.size,data:=o.data,slots:=o.slots })=h2;have ga:h2.get? a=some ⟨.ref C,some s.heap.objs.size,.fields vs,jO⟩:=by
  rw [<-eh];exact zA5 _ hx1 rfl
 have gd:h2.get? s.heap.objs.size=some { cls:=.type "dict",data:=.dict #[] }:=by
  rw [<-eh];exact (Heap.get?_update_ne _ _ _ _ hda.symm).trans (Heap.get?_push_at rfl rfl)
 have go:∀ b o,b≠a->s.heap.get? b=some o->h2.get? b=some o:=fun b o n q=>by
  rw [<-eh];exact (Heap.get?_update_ne _ _ _ _ n).trans (zAG _ q)
 have jL:h2.Ns s.heap.objs.size (fun _=>none):=⟨_,#[],_,gd,rfl,fun e he=>absurd he (by simp),fun _=>rfl⟩
 show wpAny _ _ (Builtin.ObjectAttr.storeInDict s.heap.objs.size (.str f s.toks) f u) _ _ _;unfold Builtin.ObjectAttr.storeInDict Builtin.ObjectAttr.newKeyGuard;refine wpAny_bind (wpAny_pure (wpAny_bind (wpAny_nsSet1 (Heap.Ns1.of_empty jL) fun h' hn' hs=>?_)));obtain ⟨oD,esD,epD,hoD,hdD,hcD⟩:=hn'.count (Within.cons f u Within.nil);refine wpAny_bind (wpAny_lookBehind hoD (by rw [hdD];exact pastItsLine_dict (zBC hcD (by rw [zAW,zBY,sizeLine_eq];lia))) ?_)
 have ga':h'.get? a=some ⟨.ref C,some s.heap.objs.size,.fields vs,jO⟩:=(hs.2 a hda).trans ga;have go':∀ b o,b≠a->s.heap.get? b=some o->h'.get? b=some o:=fun b o n q=>(hs.2 b (zAg (zAP q))).trans (go b o n q);have nt:∀{b:Addr}{o:HO},H b=some o->b≠s.heap.objs.size:=fun{b o} q z=>by rw [z,hHd] at q;cases q
 have na:∀{b:Addr},H b=none->b≠a:=fun{b} q z=>by rw [z,e] at q;cases q
 refine wpAny_pure (h s.heap.objs.size _ hHd hda.symm (I.call' (s':={ s with heap:=h',toks:=_ }) (ch:=[]) rfl ⟨fun b o q n _ _=>go' b o (na n) q,fun b o q n _ _=>⟨o.slots,go' b o (na n) q⟩,fun b o q n _=>?_,fun b o q _=>?_,fun b xs q=>?_,fun b o u q=>?_,fun b ps q=>?_⟩ (fun b ob q=>?_) I.bare (fun b hb=>absurd hb (by simp))))
 ·rw [ZX (na n),ZX (zAg (zAP q))];exact n
 ·by_cases z:b=a
  ·rw [z];exact ⟨_,ga'⟩
  ·exact ⟨o,go' b o z q⟩
 ·rw [ZX (fun z=>by rw [z,e] at q;cases q),ZX (nt q)];exact q
 ·rw [ZX (fun z=>by rw [z,e] at q;cases q),ZX (nt q)];exact q
 ·exact ⟨#[],by rw [ZX (fun z=>by rw [z,e] at q;cases q),ZX (nt q),q];simp⟩
 ·by_cases z:b=a
  ·rw [z,ZN] at q;cases q;rw [z];exact LH ⟨_,_,ga',rfl,rfl,rfl,hgv⟩
  ·rw [ZX z] at q;by_cases z2:b=s.heap.objs.size
   ·rw [z2,ZN] at q;cases q;rw [z2];refine ⟨_,hn',fun g=>?_⟩;show Yc (zBb g [(f,y)]) (if g=f then some u else none)
    by_cases hg:g=f
    ·rw [hg,if_pos rfl];simp only [zBb,beq_self_eq_true];exact ry
    ·rw [if_neg hg];simp only [zBb,beq_eq_false_iff_ne.mpr hg];exact True.intro
   ·rw [ZX z2] at q;have oc:∀{c:Addr},H c=some (.own b)->c≠a:=fun{c} hc z=>by rw [z,e] at hc;cases hc
    refine (I.hok b ob q).stay (fun c u hc r=>go' c u ?_ r) (fun c hc=>?_) (fun c xs hc=>?_)
    ·rcases hc with rfl | hc
     ·exact z
     ·exact oc hc
    ·rw [ZX (oc hc),ZX (nt hc)];exact hc
    ·rw [ZX (fun z=>by rw [z,e] at hc;cases hc),ZX (nt hc)];exact hc
theorem ZIh{b:Bool}{dx:Addr}{fs:List (Str×V)}{Q:ja}(I:ZI X pins σ H s)(e:H a=some (XO g a C (some dx)))(d:H dx=some (.xd fs))(c:WX X.K C fI f)(l:fs.lookup f=some v)(h:∀ u s',ZI X pins σ H s'->ZR v u->Q u s'):wpAny (model X.prog X.w) A (getAttr (.ref a) f b) Q E s:=by
 obtain ⟨o,vs,hx,hc,hda,hdi,hgv⟩:=id (I.hok a _ e).1;obtain ⟨mA,hns,hrel⟩:=I.hok dx _ d;obtain ⟨u,hu,ru⟩:=Yc.some_of (v:=v) (o:=mA f) (by rw [<-l];exact hrel f)
 obtain ⟨od,hod,js⟩:=Ie hns;have J:zC3 s.heap a o C (some od):=⟨hx,hc,by unfold PySem.W.notCls;rw [hda],by rw [hdi];exact hod⟩
 obtain ⟨cd,jK,hhd⟩:=zCI c.hd;have L:zAz (model X.prog X.w) s.heap (Builtin.ObjectAttr.inOwnDict f (.ref a)) (some u):=PySem.W.looks_own I.kIn J jK (by unfold PySem.W.ownOf;rw [hhd,if_pos rfl];show zB9 f od=_;rw [js,hu])
 have F:zAz (model X.prog X.w) s.heap (Builtin.ObjectAttr.find (.ref a) (.ref C) f) (.value u):=by
  refine zAz.andThen (zB1 I.kIn c.no) (zAz.andThen .now (zAz.andThen .now ?_));exact zAz.andThen L (zAz.tag zAz.now)
 refine wpAny_bind (wpAny_mkText ?_);refine Io (s:={ s with toks:=s.toks+1 }) I.kIn (I.hok a _ e).1.is c.exc F ⟨Ly ru,h u _ (I.tok _) ru⟩
end
section
variable{prog:Program}{w:World}{A:Around}{E:ja}{s:Shared}{K:zAA}{C fI:Addr}{f:Str}
abbrev QI(h:Heap)(C:Addr)(us:jd):Heap:=(h.push { cls:=.type "tuple",data:=.seq us.toArray }).push { cls:=.ref C,data:=.fields #[.ref h.objs.size,.none,.none,.none,.bool false,.none] }
theorem GU{us:jd}{Q:ja}(X:K.In s.heap)(c:WX K C fI f)(hus:us.length<=sizeLine)(h:wpAny (model prog w) (A.under (.builtin "type.__call__" ⟨.ref C :: us,[]⟩)) (call (.ref fI) (.ref (s.heap.objs.size+1) :: us)) (fun r s'=>r=.none/\Q (.ref (s.heap.objs.size+1)) s') E { s with heap:=QI s.heap C us }):
  wpAny (model prog w) A (call (.ref C) us) Q E s:=by
 obtain ⟨hh,g,d,t,os⟩:=s;have n:=c.made;unfold NV at n;split at n
 next tt dd cd sl ho=>
  split at n
  next k0 k1 k2 k3 made k5 D up hs hm=>
   simp only [zAR,beq_iff_eq,Bool.not_eq_true'] at n;obtain ⟨rfl,rfl,rfl,ht,hdel⟩:=n;obtain ⟨nm,bs,mro,ns,qn,hd,sn,sub,ab,col,del⟩:=cd;dsimp only at hm hdel;subst hm hdel;obtain ⟨sll⟩:=sl;dsimp only at hs;subst hs;have hC:hh.get? D=some (excClassObj nm qn D ns bs up hd sn sub ab col dd k0 k1 k2 k3 k5 "ValueError.__new__"):=X _ _ ho;have T:OwnTail hh Q0 up:=zDU X ht;have FB:=zCv;have f1:=tc_lookup;have f2:=tc_bind (.ref D);have hT:(⟨hh,g,d,t,os⟩:Shared).TypeIs (.ref D) "type" :=⟨_,hC,rfl⟩;refine wpAny_call (codeAny_of_tree (show wpAny _ _ (callAny (.ref D) _) _ _ _ from ?_))
   repeat (any_goals (first | assumption | with_reducible refine wpAny_loadPart_at hC ?_ | wp_step))
   refine ⟨rfl,codeAny_call_builtin_at (Code.quiet_builtin _ (by decide +kernel)) entry_typeCall (wpAny_check_type_call_sub hC ?_)⟩
   repeat (first | with_reducible refine wpAny_loadPart_at hC ?_ | with_reducible refine wpAny_madeBy_exc hC ?_ | wp_step)
   refine codeAny_call_builtin_code (Code.quiet_builtin _ FB.quiet) (wpAny_check_new_subU FB FB.hasB T hC (codeAny_exc_new_subU FB FB.hasB FB T hC ?_ hus));show wpAny _ _ _ _ _ _;have e1:(QI hh D us).get? (hh.objs.size+1)=some { cls:=.ref D,data:=.fields #[.ref hh.objs.size,.none,.none,.none,.bool false,.none] }:=by heap_get
   have kk:∀ b o,hh.get? b=some o->(QI hh D us).get? b=some o:=fun b o q=>zAG _ (zAG _ q);have hC1:=kk _ _ hC;have hin:(Value.ref D :: up).contains (.ref D)=true:=by simp
   unfold isInstance;show wpAny _ _ _ _ _ ⟨QI hh D us,g,d,t,os⟩
   repeat (first | with_reducible refine wpAny_loadPart_at e1 ?_ | wp_step)
   refine wpAny_isSubtype_exc (C:=D) (h:=QI hh D us) hC1 ?_;rw [hin]
   repeat wp_step
   have X1:K.In (QI hh D us):=fun b o q=>kk b o (X b o q);show wpAny _ _ (typeLookup (.ref D) _) _ _ _;refine (zB1 X1 c.init).at ?_;refine wpAny_holding (wpAny_bind ((PySem.W.bind_fn X1 _ (beq_iff_eq.mp c.fn)).at ?_));refine wpAny_bind (wpAny_mono h (fun r s' hr=>?_) fun _ _ z=>z);obtain ⟨rfl,hQ⟩:=hr
   wp_walk
   exact hQ
  next=>cases n
 next=>cases n
end
def Oj(H:Hp)(ea C:Addr):Prop:=∃ φ,H ea=some (.ext φ)/\∀ h,φ h->X5 ea C h
theorem HQ{g:Array Value->Prop}{H:Hp}{ea C:Addr}{od:Option Addr}(e:H ea=some (XO g ea C od)):Oj H ea C:=⟨_,e,fun _ h=>h.is⟩
def Po(K:zAA):je->Hp->VK->Prop:=fun xs H Q=>∃ ea C c b,xs=[.ref ea,c]/\Oj H ea C/\Xt K C/\KH c=true/\zAZ K (.ref C) (cV c)=some b/\Q (.bl b) H
def E3(K:zAA)(ta tv:TE)(f:Str):TS:=fun D σ H=>tv σ H fun y H1=>ta σ H1 fun x H2=>∃ g a C fI,x=.ref a/\H2 a=some (XO g a C none)/\WX K C fI f/\∀ dx,H2 dx=none->dx≠a->D.nx σ (upd (upd H2 dx (.xd [(f,y)])) a (XO g a C (some dx)))
def Jo(K:zAA)(ta:TE)(f:Str):TE:=fun σ H Q=>ta σ H fun x H1=>∃ g a C dx fs v fI,x=.ref a/\H1 a=some (XO g a C (some dx))/\H1 dx=some (.xd fs)/\WX K C fI f/\fs.lookup f=some v/\Q v H1
def On(K:zAA)(C fI:Addr)(f:Str):Sp:=fun vs H Q _=>WX K C fI f/\∃ ea y,vs=[.ref ea,y]/\H ea=some (XO Uy ea C none)/\∀ dx,H dx=none->dx≠ea->Q .non (upd (upd H dx (.xd [(f,y)])) ea (XO Uy ea C (some dx)))
section
variable{X:Cx}
theorem O0:Wr X (.builtin "isinstance") (Po X.K):=by
 intro pins s σ H xs us Q I r h;obtain ⟨ea,C,c,b,rfl,⟨φ,e,of⟩,EC,hc,hk,q⟩:=h;obtain ⟨u,w',rfl,ru,rw'⟩:=OM r;cases (show u=Value.ref ea from ru);rw [G4 rw' hc];exact zBB (F2 EC) I.kIn (of _ (I.hok ea _ e).1) hk (fun z=>nomatch z) fun tk=>⟨.bl b,H,I.tok tk,rfl,q⟩
variable{C fI:Addr}{f:Str}{e o value:Expr}{es:List Expr}{ta tv:TE}{t:TA}{pos pos' p:Pos}{x:Str}
theorem ZMy(ha:PE X o ta)(hv:PE X value tv)(hs:swapsWith value (some (.Attribute o f pos')) pos.line X.env=pure false):PS X (.Assign [.Attribute o f pos'] value pos) (E3 X.K ta tv f):=by
 intro pins s σ H D I h;refine plainObj_wpAny_Assign_Attribute (Za (hv pins s σ H _ I h) fun u s1 ⟨y,H1,I1,ry,q⟩=>Za (ha pins s1 σ H1 _ I1 q) fun ov s2 ⟨x,H2,I2,rx,g,a,C,fI,ex,ea,c,q2⟩=>?_) hs;subst ex;obtain rfl:ov=Value.ref a:=rx;exact Fk I2 ea c ry fun dx s' hd hn I3=>⟨σ,_,I3,q2 dx hd hn⟩
theorem Gk(he:PE X e ta)(hb:attributeBase e f X.env (eval e X.env)=eval e X.env):PE X (.Attribute e f pos) (Jo X.K ta f):=by
 intro pins s σ H Q I h;refine HK hb (Za (he pins s σ H _ I h) fun u s1 ⟨x,H1,I1,rx,g,a,C,dx,fs,v,fI,ex,ea,ed,c,l,q⟩=>?_);subst ex;obtain rfl:u=Value.ref a:=rx;exact ZIh I1 ea ed c l fun u s' I2 ru=>⟨v,H1,I2,ru,q⟩
theorem ZI.newx{pins:List (Addr×Obj)}{σ:St}{H:Hp}{s:Shared}{h':Heap}{ea:Addr}(I:ZI X pins σ H s)(keeps:∀ b o,s.heap.get? b=some o->h'.get? b=some o)(n:s.heap.get? ea=none)(hx:Wv Uy ea C none h'):ZI X pins σ (upd H ea (XO Uy ea C none)) { s with heap:=h' }:=by
 have hn:H ea=none:=by
  cases z:H ea with
  | none=>rfl
  | some o=>
   obtain ⟨o',q⟩:=I.hok.there (a:=ea) (by rw [z];exact fun y=>nomatch y)
   rw [n] at q;cases q
 have nt:∀{b:Addr}{o:HO},H b=some o->b≠ea:=fun{b o} q z=>by rw [z,hn] at q;cases q
 refine I.call' (s':={ s with heap:=h' }) (ch:=[]) rfl ⟨fun b o q _ _ _=>keeps b o q,fun b o q _ _ _=>⟨o.slots,keeps b o q⟩,fun b o q z _=>?_,fun b o q _=>⟨o,keeps b o q⟩,fun b xs q=>?_,fun b o u q=>?_,fun b ps q=>⟨#[],?_⟩⟩ (fun b ob q=>?_) I.bare (fun b hb=>absurd hb (by simp))
 ·rw [ZX (fun y=>by rw [y,n] at q;cases q)];exact z
 ·rw [ZX (nt q)];exact q
 ·rw [ZX (nt q)];exact q
 ·rw [ZX (nt q),q];simp
 ·by_cases z:b=ea
  ·rw [z,ZN] at q;cases q;rw [z];exact LH hx
  ·rw [ZX z] at q;exact (I.hok b ob q).stay (fun c u _ r=>keeps c u r) (fun c hc=>by rw [ZX (nt hc)];exact hc) (fun c xs hc=>by rw [ZX (nt hc)];exact hc)
end
theorem B5(f:Array Value->Array Value)(o:Obj):(Obj.mapFields f o).dict=o.dict:=by
 obtain ⟨c,d,da,sl⟩:=o;cases da <;> rfl
def A7(h B:Heap)(e:Addr)(cls:Value)(od:Option Addr)(fl:Value):Prop:=
 ∃ oe vs T oT ts,(h.get? e=some oe/\oe.cls=cls/\oe.dict=od/\oe.data=.fields vs/\vs[1]? = some (.ref T))/\B.get? T=none/\T≠e/\h.get? T=some oT/\oT.data=.fields ts/\ts[3]? = some fl
def VJ(B:Heap)(l:List Env)(e:Addr)(cls:Value)(od:Option Addr)(fl:Value)(h:Heap):Prop:=B.StaysIn h/\B.get? e=none/\h.FunFrames B l/\A7 h B e cls od fl
theorem VJ.at{B h:Heap}{l:List Env}{e C:Addr}{od:Option Addr}{fl:Value}(x:VJ B l e (.ref C) od fl h):Wv Vf e C od h:=by
 obtain ⟨_,_,_,oe,vs,T,oT,ts,⟨a,b,c,d,_⟩,_⟩:=x;exact ⟨oe,vs,a,b,d,c,trivial⟩
section
variable{M:Model}{A:Around}{E:ja}{s:Shared}{B:Heap}{env:Env}{outer l:List Env}{L e:Addr}{cls:Value}{od:Option Addr}{Q:Unit->Shared->Prop}
theorem Ib{oe:Obj}{vs:Array Value}{first:Value}{nx:Bool}(fr:A.frames=some (env :: outer))(ff:s.heap.FunFrames B (env :: outer))(eL:env.frame=some L)(ge:s.heap.get? e=some oe)(sb:B.StaysIn s.heap)(eB:B.get? e=none)(dd:oe.data=.fields vs)(two:1<vs.size)(h:∀ h',VJ B (env :: outer) e oe.cls oe.dict (rawInt L) h'->s.heap.UpToSlots h'->Q () { s with heap:=h' }):
  wpAny M A (frameOf env >>= fun a=>entryPlaceOf L nx >>= fun pl=>EntryCells.newEntry first a .none (rawInt L) .none pl >>= fun b=>setField (.ref e) 1 b) Q E s:=by
 have en:e∉(env :: outer).filterMap (·.frame):=fun z=>by
  obtain ⟨_,o,g1,g2⟩:=ff.mem z;rw [ge] at g1;cases g1;exact g2 vs dd
 refine wpAny_bind (wpAny_frameOf_fun fr ff eL fun h1 k1=>wpAny_bind (wpAny_entryPlaceOf fun pl kp=>?_));unfold EntryCells.newEntry newFields;refine wpAny_bind (wpAny_newObj_type ?_ (kp.sizeOk5 _ _ _ _ _));have t3:([first,Value.ref L,.none,rawInt L,.none]++(if pl.isEmpty then zBf 6 Value.none else pl)).toArray[3]? = some (rawInt L):=by
  first | (simp;done) | (rcases kp with rfl | ⟨_,_,_,_,_,_,_,rfl⟩ <;> simp)
 generalize ([first,Value.ref L,.none,rawInt L,.none]++(if pl.isEmpty then zBf 6 Value.none else pl)).toArray=ts at t3 ⊢;have g1:h1.get? e=some oe:=(k1.2.1 e en).trans ge;have sb1:B.StaysIn h1:=fun b o q=>(k1.2.1 b fun z=>by rw [(ff.mem z).1] at q;cases q).trans (sb b o q)
 have eT:h1.objs.size≠e:=fun z=>zBc _ (by have:=zAP g1;rw [<-z] at this;exact this)
 have g2:=zAG (h:=h1) ({ cls:=.type "traceback",dict:=none,data:=.fields ts }:Obj) g1;have d3:=Obj.data_mapFields dd (·.setIfInBounds 1 (Value.ref h1.objs.size));have g3:=zA5 (Obj.mapFields (·.setIfInBounds 1 (Value.ref h1.objs.size))) g2 (Obj.isFreed_of_fields d3);have gT:=(zAq (h1.push ({ cls:=.type "traceback",dict:=none,data:=.fields ts }:Obj)) (Obj.mapFields (·.setIfInBounds 1 (Value.ref h1.objs.size))) eT.symm).trans (zAQ h1 rfl);have stay:∀ b o,b≠e->h1.get? b=some o->((h1.push ({ cls:=.type "traceback",dict:=none,data:=.fields ts }:Obj)).update e (Obj.mapFields (·.setIfInBounds 1 (Value.ref h1.objs.size)))).get? b=some o:=fun b o n q=>
  (zAq _ _ n.symm).trans (zAG _ q)
 have notE:∀ b o,s.heap.get? b=some o->(∀ ws,o.data≠.fields ws)->b≠e:=fun b o q nf z=>by
  rw [z,ge] at q;cases q;exact nf vs dd
 refine wpAny_setField g2 dd two (h _ ⟨fun b o q=>stay b o (fun z=>by rw [z,eB] at q;cases q) (sb1 b o q),eB,ff.of_keeps fun b o q nf=>?_,_,_,h1.objs.size,_,_,⟨g3,Obj.cls_mapFields _ _,B5 _ _,d3,by simp [two]⟩,sb1.fresh,eT,gT,rfl,t3⟩ fun b o q nf=>?_)
 ·obtain ⟨sl,z⟩:=k1.2.2 b o q;exact ⟨_,stay b _ (notE b o q nf) z,rfl⟩
 ·obtain ⟨sl,z⟩:=k1.2.2 b o q;exact ⟨sl,stay b _ (notE b o q nf) z⟩
theorem Ow{fl:Value}(x:VJ B l e cls od fl s.heap)(h:∀ h',VJ B l e cls od .none h'->s.heap.UpToSlots h'->Q () { s with heap:=h' }):wpAny M A (setFlight (.ref e) none) Q E s:=by
 obtain ⟨sb,eB,ff,oe,vs,T,oT,ts,⟨ge,c1,c2,dd,v1⟩,TB,Te,gT,dT,t3⟩:=x;have n3:3<ts.size:=(zA1.mp t3).1;have far:∀ b,b≠T->(s.heap.update T (Obj.mapFields (·.setIfInBounds 3 ((none:Option Addr).elim Value.none fun f=>rawInt f)))).get? b=s.heap.get? b:=fun b n=>zAq _ _ n.symm;have notT:∀ b o,s.heap.get? b=some o->(∀ ws,o.data≠.fields ws)->b≠T:=fun b o q nf z=>by
  rw [z,gT] at q;cases q;exact nf ts dT
 unfold setFlight;refine wpAny_bind (wpAny_field ge dd v1 ?_);rw [if_pos (show (Value.ref T != Value.none)=true by simp)]
 refine wpAny_setField gT dT n3 (h _ ⟨fun b o q=>(far b fun z=>by rw [z,TB] at q;cases q).trans (sb b o q),eB,ff.of_keeps fun b o q nf=>⟨o,(far b (notT b o q nf)).trans q,rfl⟩,?_⟩ fun b o q nf=>⟨o.slots,(far b (notT b o q nf)).trans q⟩)
 exact ⟨oe,vs,T,_,_,⟨(far e Te.symm).trans ge,c1,c2,dd,v1⟩,TB,Te,zA5 _ gT (Obj.isFreed_of_fields (Obj.data_mapFields dT _)),Obj.data_mapFields dT _,by simp [n3]⟩
theorem A9{oe:Obj}{vs:Array Value}(fr:A.frames=some (env :: outer))(ff:s.heap.FunFrames B (env :: outer))(eL:env.frame=some L)(ge:s.heap.get? e=some oe)(sb:B.StaysIn s.heap)(eB:B.get? e=none)(dd:oe.data=.fields vs)(v1:vs[1]? = some .none)(h:∀ h',VJ B (env :: outer) e oe.cls oe.dict (rawInt L) h'->s.heap.UpToSlots h'->Q () { s with heap:=h' }):wpAny M A (noteFrame (.ref e) env) Q E s:=by
 unfold noteFrame;simp only [eL];refine wpAny_bind (wpAny_field ge dd v1 ?_);rw [if_neg (by decide)]
 exact Ib fr ff eL ge sb eB dd (zA1.mp v1).1 h
theorem IQ(fr:A.frames=some (env :: outer))(eL:env.frame=some L)(x:VJ B (env :: outer) e cls od .none s.heap)(h:∀ h',VJ B (env :: outer) e cls od (rawInt L) h'->s.heap.UpToSlots h'->Q () { s with heap:=h' }):
  wpAny M A (noteFrame (.ref e) env) Q E s:=by
 obtain ⟨sb,eB,ff,oe,vs,T,oT,ts,⟨ge,c1,c2,dd,v1⟩,TB,Te,gT,dT,t3⟩:=x;subst c1 c2;have n3:3<ts.size:=(zA1.mp t3).1;have far:∀ b,b≠T->(s.heap.update T (Obj.mapFields (·.setIfInBounds 3 Value.none))).get? b=s.heap.get? b:=fun b n=>zAq _ _ n.symm;have notT:∀ b o,s.heap.get? b=some o->(∀ ws,o.data≠.fields ws)->b≠T:=fun b o q nf z=>by
  rw [z,gT] at q;cases q;exact nf ts dT
 unfold noteFrame;simp only [eL];refine wpAny_bind (wpAny_field ge dd v1 ?_);rw [if_pos (show (Value.ref T != Value.none)=true by simp)]
 refine wpAny_bind (wpAny_field gT dT t3 ?_);rw [if_neg (show ¬ ((Value.none==rawInt L)=true) by simp [rawInt])]
 refine wpAny_bind (wpAny_setField gT dT n3 ?_);refine Ib (s:={ s with heap:=_ }) fr (ff.of_keeps fun b o q nf=>⟨o,(far b (notT b o q nf)).trans q,rfl⟩) eL ((far e Te.symm).trans ge) (fun b o q=>(far b fun z=>by rw [z,TB] at q;cases q).trans (sb b o q)) eB dd (zA1.mp v1).1 fun h' f' u'=>h h' f' fun b o q nf=>?_
 exact u' b o ((far b (notT b o q nf)).trans q) nf
theorem VJ.less{fl:Value}{h:Heap}(x:VJ B (env :: outer) e cls od fl h):VJ B outer e cls od fl h:=by
 obtain ⟨a,b,⟨_,_,c⟩,d⟩:=x;exact ⟨a,b,c,d⟩
theorem Cr(fr:A.frames=some (env :: outer))(eL:env.frame=some L)(x:VJ B (env :: outer) e cls od .none s.heap)(h:∀ h',VJ B outer e cls od .none h'->s.heap.UpToSlots h'->Q () { s with heap:=h' }):wpAny M A (leaving env (.ref e)) Q E s:=by
 unfold leaving;exact wpAny_bind (IQ fr eL x fun h1 f1 u1=>Ow (s:={ s with heap:=h1 }) f1 fun h2 f2 u2=>h h2 f2.less (u1.trans u2))
theorem Bx{oe:Obj}{vs:Array Value}(fr:A.frames=some (env :: outer))(ff:s.heap.FunFrames B (env :: outer))(eL:env.frame=some L)(ge:s.heap.get? e=some oe)(sb:B.StaysIn s.heap)(eB:B.get? e=none)(dd:oe.data=.fields vs)(v1:vs[1]? = some .none)(h:∀ h',VJ B outer e oe.cls oe.dict .none h'->s.heap.UpToSlots h'->Q () { s with heap:=h' }):wpAny M A (leaving env (.ref e)) Q E s:=by
 unfold leaving;exact wpAny_bind (A9 fr ff eL ge sb eB dd v1 fun h1 f1 u1=>Ow (s:={ s with heap:=h1 }) f1 fun h2 f2 u2=>h h2 f2.less (u1.trans u2))
end
theorem II{prog:Program}{w:World}{A:Around}{E:ja}{s:Shared}{env:Env}{K:zAA}{C:Addr}{x:Sem Value}{Q:Flow->Shared->Prop}(hh:A.handled=none)(mB:zAw K C (.type "BaseException")=some true)(ht:zBA K (.ref C)=some (.type "type"))(h:wpAny (model prog w) A x (fun v s1=>∃ e od,v=.ref e/\K.In s1.heap/\Wv Uy e C od s1.heap/\E (.ref e) s1) E s):wpAny (model prog w) A (raiseStmt env (some x) none) Q E s:=by
 unfold raiseStmt;refine wpAny_bind (wpAny_mono h (fun v s1 h1=>?_) fun _ _ z=>z);obtain ⟨e,od,rfl,KX,⟨⟨oc,od',oda,jO⟩,vs,ge,c1,c2,c3,v1⟩,hE⟩:=h1;dsimp only at c1 c2 c3;subst c1 c2 c3;obtain ⟨hp,g,d,tk,os⟩:=s1;have L0:zAz (model prog w) hp (typeOf (.ref e)) (.ref C):=X5.ty ⟨_,ge,rfl⟩ _;have L1:=zB6 (M:=model prog w) KX mB;have L3:=zDL (M:=model prog w) KX ht;have ge':hp.get? e=some ⟨.ref C,od',.fields vs,jO⟩:=ge;unfold excFromValue isExcClass isInstance isType raisedInstance setFlight
 repeat (first | with_reducible refine wpAny_loadPart_at ge' ?_ | with_reducible refine L1.at ?_ | with_reducible refine L0.at ?_ | with_reducible refine L3.at ?_ | wp_step)
 rw [show vs[1]? = some Value.none from v1]
 repeat wp_step
 all_goals first | exact wpAny_raiseNew_none hh hE | trace_state
structure UQ(P:Program)(w:World)(outer:List Env)(H:Hp)(s:Shared)(ea:Addr)(cls:Value)(od:Option Addr)(H':Hp)(s':Shared):Prop where
 ex:∃ B:Heap,VJ B outer ea cls od .none s'.heap/\(∀ b o,s'.heap.get? b=some o->H' b≠none->B.get? b=some o)/\(∀ b o,s.heap.get? b=some o->H b=none->b∉frs outer->B.get? b=some o)/\(∀ b o,s.heap.get? b=some o->b∉frs outer->∃ o',B.get? b=some o')
 os:s'.os=s.os
 bare:AllBare s'.gens
 un:Un (frs outer) [] H H' s.heap s'.heap
 hok:Yi P w H' s'.heap
 new:s.heap.get? ea=none
 free:H' ea=none
def WO(P:Program)(w:World):Ws:=fun outer H s E e s'=>∃ ea cls od H',e=.ref ea/\UQ P w outer H s ea cls od H' s'/\E cls od H'
structure Vq(X:Cx)(E:XK):Prop where
 stack:X.stack=X.env :: X.outer
 frame:X.env.frame=some X.env.locals
 ex:X.ex=[]
 calm:X.calm=true
 xe:∀ e s',wpAny (model X.prog X.w) X.A (leaving X.env e) (fun _ s''=>WO X.prog X.w X.outer X.H₀ X.s₀ E e s'') (fun e' s''=>WO X.prog X.w X.outer X.H₀ X.s₀ E e' s'') s'->X.xe e s'
theorem PU{P:Program}{w:World}{K:zAA}{mg:jb}{base:Heap}{N:List Str}{qual:Str}{scope:Scope}{f:Addr}{cdv:Value}{A:Around}{outer:List Env}{s:Shared}{H:Hp}{E:XK}:
  Vq (X7 (WO P w) P w K mg base N qual scope f cdv A outer s H E) E:=⟨rfl,rfl,rfl,rfl,fun _ _ h=>h⟩
section
variable{X:Cx}{pins:List (Addr×Obj)}{σ:St}{H H':Hp}{s s':Shared}{E:XK}
theorem Vq.frs(F:Vq X E):frs X.stack=X.env.locals :: X.fs:=by
 rw [F.stack];show List.filterMap _ (X.env :: X.outer)=_;rw [zBR,F.frame];rfl
theorem Vq.off(F:Vq X E)(I:ZI X pins σ H s){b:Addr}{o:Obj}(q:X.s₀.heap.get? b=some o)(n:b∉L2.frs X.outer):b∉L2.frs X.stack:=fun z=>by
 rw [F.frs] at z;rcases zAf.mp z with z | z
 ·rw [z,I.noloc] at q;cases q
 ·exact n z
theorem Vq.on(F:Vq X E){b:Addr}(n:b∈L2.frs X.outer):b∈L2.frs X.stack:=by
 rw [F.frs];exact zAN _ n
theorem EO{B h3:Heap}{ea:Addr}(F:Vq X E)(J:ZI X pins σ H s)(st:B.StaysIn h3)(inB:∀ b o,b≠ea->s.heap.get? b=some o->b∉L2.frs X.stack->B.get? b=some o)(sm:s.heap.UpToSlots h3)(new:X.s₀.heap.get? ea=none):
  Un (L2.frs X.outer) [] X.H₀ H X.s₀.heap h3:=by
 have bb:=J.base;rw [F.ex] at bb;have ne:∀{b:Addr}{o:Obj},X.s₀.heap.get? b=some o->b≠ea:=fun q z=>by rw [z,new] at q;cases q
 have nf:∀{b:Addr}{o:Obj},b∈L2.frs X.stack->s.heap.get? b=some o->∀ vs,o.data≠.fields vs:=fun hb q=>Np J _ hb _ q;refine ⟨fun b o q n hb _=>st b o (inB b o (ne q) (bb.keep b o q n hb (by simp)) (F.off J q hb)),fun b o q n hb _=>?_,bb.free,fun b o q _=>?_,bb.tups,bb.frzs,bb.tbls⟩
 ·obtain ⟨sl,e1⟩:=bb.slot b o q n hb (by simp)
  obtain ⟨jF,e2⟩:=sm b _ e1 (nf (F.on hb) e1);exact ⟨jF,e2⟩
 ·obtain ⟨o',q'⟩:=bb.there b o q (by simp)
  by_cases hb:b∈L2.frs X.stack
  ·obtain ⟨sl,e1⟩:=sm b o' q' (nf hb q');exact ⟨_,e1⟩
  ·exact ⟨o',st b o' (inB b o' (ne q) q' hb)⟩
theorem ZI.untrack{a:Addr}{φ:Heap->Prop}(I:ZI X pins σ (upd H a (.ext φ)) s)(hn:H a=none):ZI X pins σ H s:=by
 have nt:∀{b:Addr}{u:HO},H b=some u->b≠a:=fun{b u} e z=>by rw [z,hn] at e;cases e
 have dn:∀{b:Addr},upd H a (.ext φ) b=none->H b=none:=fun{b} e=>by
  by_cases z:b=a
  ·rw [z];exact hn
  ·rw [ZX z] at e;exact e
 have dt:∀{b:Addr}{u:HO},upd H a (.ext φ) b=some u->(∀ ψ,u≠.ext ψ)->H b=some u:=fun{b u} e k=>by
  by_cases z:b=a
  ·rw [z,ZN] at e;exact absurd (zAh.inj e).symm (k φ)
  ·rw [ZX z] at e;exact e
 refine ⟨I.ok,I.os,I.bare,⟨I.base.keep,I.base.slot,fun b ob q n hx=>dn (I.base.free b ob q n hx),I.base.there,fun b xs q=>dt (I.base.tups b xs q) (fun _ z=>nomatch z),fun b ob u q=>dt (I.base.frzs b ob u q) (fun _ z=>nomatch z),fun b ps q=>?_⟩,I.loc,I.cell,dn I.free,fun x c e=>dn (I.freeC x c e),fun p hp'=>?_,fun b u e=>?_,I.len⟩
 ·obtain ⟨more,e⟩:=I.base.tbls b ps q;exact ⟨more,dt e (fun _ z=>nomatch z)⟩
 ·obtain ⟨e,n,r⟩:=I.pin p hp';exact ⟨e,dn n,r⟩
 ·have e2:upd H a (.ext φ) b=some u:=by rw [ZX (nt e)];exact e
  exact (I.hok b u e2).stay (fun _ _ _ q=>q) (fun c q=>dt q (fun _ z=>nomatch z)) fun c xs q=>dt q (fun _ z=>nomatch z)
theorem KL{ea C:Addr}{od:Option Addr}(F:Vq X E)(J:ZI X pins σ H s)(new:X.s₀.heap.get? ea=none)(hn:H ea=none)(hx:Wv Uy ea C od s.heap)(hE:E (.ref C) od H):X.xe (.ref ea) s:=by
 obtain ⟨oe,vs,ge,c1,c2,c3,v1⟩:=hx;have fr:X.A.frames=some (X.env :: X.outer):=by rw [J.ok.frames,F.stack]
 have ff:s.heap.FunFrames (zB7 s.heap (ea :: L2.frs X.stack)) (X.env :: X.outer):=by
  have:=PySem.W.funFrames_hide (as:=ea :: L2.frs X.stack) J.stack (fun env he a ha=>zAN _ (zCD.mpr ⟨env,he,ha⟩));rw [F.stack] at this ⊢;exact this
 have inB:∀ b o,b≠ea->s.heap.get? b=some o->b∉L2.frs X.stack->(zB7 s.heap (ea :: L2.frs X.stack)).get? b=some o:=fun b o n q hb=>zDP _ q (fun z=>by
  rcases zAf.mp z with z | z
  ·exact n z
  ·exact hb z)
 have inT:∀ b o,s.heap.get? b=some o->H b≠none->(zB7 s.heap (ea :: L2.frs X.stack)).get? b=some o:=fun b o q n=>inB b o (fun z=>n (by rw [z];exact hn)) q fun z=>n (J.stkFree b z)
 have eB:(zB7 s.heap (ea :: L2.frs X.stack)).get? ea=none:=zDM _ (by simp)
 refine F.xe _ _ (Bx fr ff F.frame ge (fun b o q=>zDV _ q) eB c2 v1 fun h3 fl sm=>?_);rw [c1,c3] at fl;refine ⟨ea,_,od,H,rfl,⟨⟨_,fl,fun b o q n=>?_,fun b o q n hb=>?_,fun b o q hb=>?_⟩,J.os,J.bare,EO F J fl.1 inB sm new,J.hok.keptT fun b o q n=>fl.1 b o (inT b o q n),new,hn⟩,hE⟩
 ·obtain ⟨o',q'⟩:=J.hok.there n;have q2:=fl.1 b o' (inT b o' q' n);have q3:h3.get? b=some o:=q;rw [q2] at q3;rw [<-zAh.inj q3];exact inT b o' q' n
 ·have bb:=J.base;rw [F.ex] at bb;exact inB b o (fun z=>by rw [z,new] at q;cases q) (bb.keep b o q n hb (by simp)) (F.off J q hb)
 ·obtain ⟨o',q'⟩:=J.base.there b o q (by rw [F.ex];simp)
  exact ⟨o',inB b o' (fun z=>by rw [z,new] at q;cases q) q' (F.off J q hb)⟩
theorem LM{E1:XK}(F:Vq X E)(hE:∀ cls o H,E1 cls o H->E cls o H):UA (WO X.prog X.w) X E1:=by
 intro pins σ H s e s' I h;obtain ⟨ea,cls,od,H',rfl,W,q⟩:=h;obtain ⟨B,fl,inT,inB,inA⟩:=W.ex;have fr:X.A.frames=some (X.env :: X.outer):=by rw [I.ok.frames,F.stack]
 refine F.xe _ _ (Cr fr F.frame (by rw [<-F.stack];exact fl) fun h2 fl2 sm=>?_)
 have bb:=I.base;rw [F.ex] at bb;have nf:∀{b:Addr}{o:Obj},b∈L2.frs X.stack->s.heap.get? b=some o->∀ vs,o.data≠.fields vs:=fun hb q=>Np I _ hb _ q;have toB:∀ b o,X.s₀.heap.get? b=some o->X.H₀ b=none->b∉L2.frs X.outer->B.get? b=some o:=fun b o q n hb=>inB b o (bb.keep b o q n hb (by simp)) (bb.free b o q n (by simp)) (F.off I q hb)
 have jF:∀ b o,s.heap.get? b=some o->b∈L2.frs X.stack->∃ sl,h2.get? b=some { o with slots:=sl }:=fun b o q hb=>by
  obtain ⟨sl,e1⟩:=W.un.slot b o q (I.stkFree b hb) hb (by simp)
  obtain ⟨jF,e2⟩:=sm b _ e1 (fun vs z=>nf hb q vs z);exact ⟨jF,e2⟩
 have u:Un (L2.frs X.outer) [] X.H₀ H' X.s₀.heap h2:=by
  refine ⟨fun b o q n hb _=>fl2.1 b o (toB b o q n hb),fun b o q n hb _=>?_,fun b o q n _=>?_,fun b o q _=>?_,fun b xs q=>W.un.tups b xs (bb.tups b xs q),fun b o u q=>W.un.frzs b o u (bb.frzs b o u q),fun b ps q=>?_⟩
  ·obtain ⟨sl,e1⟩:=bb.slot b o q n hb (by simp)
   obtain ⟨sl3,e3⟩:=jF b _ e1 (F.on hb);exact ⟨sl3,e3⟩
  ·obtain ⟨o',q'⟩:=bb.there b o q (by simp)
   exact W.un.free b o' q' (bb.free b o q n (by simp)) (by simp)
  ·obtain ⟨o',q'⟩:=bb.there b o q (by simp)
   by_cases hb:b∈L2.frs X.stack
   ·obtain ⟨sl,e1⟩:=jF b o' q' hb;exact ⟨_,e1⟩
   ·obtain ⟨o2,e2⟩:=inA b o' q' hb;exact ⟨o2,fl2.1 b o2 e2⟩
  ·obtain ⟨m1,e1⟩:=bb.tbls b ps q;obtain ⟨m2,e2⟩:=W.un.tbls b _ e1;exact ⟨m1++m2,by rw [e2,Array.append_assoc]⟩
 refine ⟨ea,cls,od,H',rfl,⟨⟨B,fl2,fun b o q2 n=>?_,toB,fun b o q2 hb=>?_⟩,W.os.trans I.os,W.bare,u,W.hok.keptT fun b o q2 n=>fl2.1 b o (inT b o q2 n),?_,W.free⟩,hE _ _ _ q⟩
 ·obtain ⟨o',q'⟩:=W.hok.there n;have q3:=fl2.1 b o' (inT b o' q' n);have q4:h2.get? b=some o:=q2;rw [q3] at q4;rw [<-zAh.inj q4];exact inT b o' q' n
 ·obtain ⟨o',q'⟩:=bb.there b o q2 (by simp)
  exact inA b o' q' (F.off I q2 hb)
 ·cases z:X.s₀.heap.get? ea with
  | none=>rfl
  | some o=>
   obtain ⟨o',q'⟩:=bb.there ea o z (by simp)
   rw [W.new] at q';cases q'
def HX(C:Addr)(f:Str)(E:XK)(t:TA):TS:=fun _ σ H=>t σ H fun vs H1=>∃ y,vs=[y]/\∀ dx,H1 dx=none->E (.ref C) (some dx) (upd H1 dx (.xd [(f,y)]))
theorem ZJm{k:Nat}{C fI:Addr}{f x:Str}{fd:FuncData}{ps:List Str}{e:Expr}{es:List Expr}{t:TA}{p jk pos:Pos}(F:Vq X E)(c:WX X.K C fI f)(ht:zBA X.K (.ref C)=some (.type "type"))(FI:ZM X.prog X.w X.K X.mg X.base ZU k fI fd ps (On X.K C fI f))(hr:ZY (k+1) X.A)(hg:Gl X x)(hm:X.mg x=some (.ref C))(hb:Zs X.K fd ps [])(ha:PA X (e :: es) t)(jx:(x==("__debug__" : Str))=false:=by decide)(he:starEach (e :: es) X.env=(false,eval e X.env) :: starEach es X.env:=by rfl)(jr:(backTo jk (starEach es X.env)).any (·.1)=false:=by rfl):
  PS X (.Raise (some (.Call (.Name x p) (e :: es) [] jk)) none pos) (HX C f E t):=by
 intro pins s σ H D I h;have hh:=I.ok.hd F.calm;rw [arm_exec_Raise];refine wpAny_bind (wpAny_standAt ?_);refine II hh c.exc.mB ht (wpAny_bind (wpAny_mono ?_ (fun v s3 h3=>wpAny_bind (wpAny_standAt (wpAny_pure h3))) fun _ _ z=>z));refine wpAny_Call_Name_kw (Qd I hg hm ?_ jx);refine zBv (h₀:=X.base) I.ok.mod.kin c.kp (Za (ha jk pins s σ H _ I h) fun us s1 ⟨vs,H1,I1,r,y,ey,q⟩=>⟨I1.kIn,?_⟩) he jr;subst ey;obtain ⟨u,rfl,ry⟩:∃ u,us=[u]/\ZR y u:=by
  cases r with
  | cons ry r0=>cases r0;exact ⟨_,rfl,ry⟩
 refine GU I1.kIn c (by show 1<=sizeLine;rw [sizeLine_eq];lia) ?_
 have kk:∀ b o,s1.heap.get? b=some o->(QI s1.heap C [u]).get? b=some o:=fun b o q=>zAG _ (zAG _ q);have e1:(QI s1.heap C [u]).get? (s1.heap.objs.size+1)=some { cls:=.ref C,data:=.fields #[.ref s1.heap.objs.size,.none,.none,.none,.bool false,.none] }:=by heap_get
 have e0:s1.heap.get? (s1.heap.objs.size+1)=none:=zBo (zCA _);have h0:H1 (s1.heap.objs.size+1)=none:=I1.hok.fresh (zCA _);have new0:X.s₀.heap.get? (s1.heap.objs.size+1)=none:=by
  cases z:X.s₀.heap.get? (s1.heap.objs.size+1) with
  | none=>rfl
  | some o=>
   obtain ⟨o',q'⟩:=I1.base.there _ o z (by rw [F.ex];simp)
   rw [e0] at q';cases q'
 have J:=I1.newx (C:=C) (ea:=s1.heap.objs.size+1) (h':=QI s1.heap C [u]) kk e0 ⟨_,_,e1,rfl,rfl,rfl,rfl⟩;generalize hea:s1.heap.objs.size+1=ea at *;have r2:ZP [V.ref ea,y] [Value.ref ea,u]:=.cons rfl (.cons ry .nil);have jP:On X.K C fI f [V.ref ea,y] (upd H1 ea (XO Uy ea C none)) (fun v H2=>v=.non/\∃ dx,H2=upd (upd H1 dx (.xd [(f,y)])) ea (XO Uy ea C (some dx))/\H1 dx=none/\dx≠ea) E0:=by
  refine ⟨c,_,y,rfl,ZN,fun dx hd jA=>⟨rfl,dx,?_,?_,jA⟩⟩
  ·funext b
   by_cases z:b=ea
   ·rw [z,ZN,ZN]
   ·rw [ZX z,ZX z];by_cases z2:b=dx
    ·rw [z2,ZN,ZN]
    ·rw [ZX z2,ZX z2,ZX z]
  ·rw [ZX jA] at hd;exact hd
 have hl:([Value.ref ea,u]++([]:jd)).length=ps.length:=by
  have e:=r2.length;rw [FI.len _ _ _ _ jP] at e;exact e.symm
 refine wpAny_call (codeAny_mono (FI.run _ X.stack _ _ ⟨[Value.ref ea,u],[]⟩ _ _ _ E0 (hr.make C [u] []) (J.env0.make C [u] []) (hb _ [Value.ref ea,u] J.kIn hl) r2 jP) fun r s' hq'=>?_)
 cases r with
 | error e=>exact (XE pins σ _ _ e s' J hq')
 | ok fl=>
  cases fl with
  | ret u2=>
   obtain ⟨v,H',I3,rv,ev,dx,eH,nd,ne⟩:=J.after hq';subst ev eH;refine ⟨rv,ea,some dx,rfl,I3.kIn,(I3.hok ea _ ZN).1,?_⟩;have hn:upd H1 dx (.xd [(f,y)]) ea=none:=by rw [ZX (Ne.symm ne)];exact h0
   exact KL F (I3.untrack hn) new0 hn (I3.hok ea _ ZN).1 (q dx nd)
  | next=>exact False.elim hq'
  | brk=>exact False.elim hq'
  | cont=>exact False.elim hq'
end
def Lv(K:zAA)(CB:Addr)(i:Nat)(ts:TS)(D:YG)(σ:St):XK:=fun cls od H2=>∃ C,cls=.ref C/\zAw K C (.ref CB)=some true/\∀ ea,H2 ea=none ->
 ts { nx:=fun σ' H'=>D.nx (σ'.set i none) H',rt:=D.rt,bk:=fun σ' H'=>D.bk (σ'.set i none) H',ct:=fun σ' H'=>D.ct (σ'.set i none) H' } (σ.set i (some (.ref ea))) (upd H2 ea (XO Vf ea C od))
theorem Kp{X:Cx}{pins:List (Addr×Obj)}{σ:St}{H H':Hp}{s s':Shared}{ea:Addr}{od:Option Addr}{B h2:Heap}{cls:Value}(I:ZI X pins σ H s)(W:UQ X.prog X.w X.stack H s ea cls od H' s')(inT:∀ b o,s'.heap.get? b=some o->H' b≠none->B.get? b=some o)(inB:∀ b o,s.heap.get? b=some o->H b=none->b∉frs X.stack->B.get? b=some o)(inA:∀ b o,s.heap.get? b=some o->b∉frs X.stack->∃ o',B.get? b=some o')(st:B.StaysIn h2)(sm:s'.heap.UpToSlots h2):
  ZI X pins σ H' { s' with heap:=h2 }:=by
 have jF:∀ b o,s.heap.get? b=some o->b∈frs X.stack->∃ sl,h2.get? b=some { o with slots:=sl }:=fun b o q hb=>by
  obtain ⟨sl,e1⟩:=W.un.slot b o q (I.stkFree b hb) hb (by simp)
  obtain ⟨jF,e2⟩:=sm b _ e1 (fun vs z=>Np I b hb o q vs z);exact ⟨jF,e2⟩
 refine I.call' (s':={ s' with heap:=h2 }) W.os ⟨fun b o q n hb _=>st b o (inB b o q n hb),fun b o q n hb _=>jF b o q hb,W.un.free,fun b o q _=>?_,W.un.tups,W.un.frzs,W.un.tbls⟩ (W.hok.keptT fun b o q n=>st b o (inT b o q n)) W.bare (fun b hb=>absurd hb (by simp))
 by_cases hb:b∈frs X.stack
 ·obtain ⟨sl,e1⟩:=jF b o q hb;exact ⟨_,e1⟩
 ·obtain ⟨o',e1⟩:=inA b o q hb;exact ⟨o',st b o' e1⟩
section
variable{P:Program}{w:World}{K:zAA}{mg:jb}{base:Heap}
theorem Zq.okD{x qual:Str}{st:Stmt}{f:Addr}{fd:FuncData}{N ps:List Str}{k:Nat}{sp:Sp}(F:Zq K x qual st f fd)(S:ZD N ps (Zg st))(len:∀ vs H Q E,sp vs H Q E->vs.length=ps.length)(jz:∀ (cdv:Value) (A:Around) (outer:List Env) (s:Shared) (H:Hp) (vs:je) (Q:VK) (E:XK),ZY k (A.deeper (envOfC qual (Zg st) s.heap.objs.size f cdv))->sp vs H Q E ->
   ∃ t,Xg (X7 (WO P w) P w K mg base N qual (Zg st) f cdv A outer s H E) (WQ st) t/\t { nx:=fun _ H'=>Q .non H',rt:=Q } (U1 N vs) H):ZM P w K mg base (WO P w) (k+1) f fd ps sp:=by
 obtain ⟨oc,od,kV,doc,pm,an,cdv,ct,jO,rfl,lk,jK⟩:=F.ex;exact Km lk jK S len fun A outer s H vs Q E hr jP=>jz cdv A outer s H vs Q E hr jP
end
section
variable{X:Cx}
theorem M8(hu:X.A.units<cLine):YX X (compareOp .NotEq) (fun x y H Q=>∃ p b xs,x=.ref p/\y=.ref b/\ZK X.K H p xs/\ZK X.K H b []/\Q (.bl (!xs.isEmpty)) H):=by
 intro pins s σ H x y v u Q I rx ry h;obtain ⟨p,b,xs,rfl,rfl,h1,h2,q⟩:=h;cases rx;cases ry;obtain ⟨ji,r1,p1,z1⟩:=I.list h1;obtain ⟨jp,r2,p2,z2⟩:=I.list h2;have l1:=r1.length;have l2:=r2.length;have e2:jp=[]:=zBO (by rw [<-l2];rfl)
 subst e2
 cases xs with
 | nil=>
  have e1:ji=[]:=zBO (by rw [<-l1];rfl)
  subst e1;exact PySem.SeqAt.RcNeAt.lists (e:=fun _=>true) p1.isList p2.isList rfl hu (fun j h1 _=>absurd h1 (by simp)) X.prog X.w X.xe _ (Ye I q (by simp))
 | cons x r=>exact PySem.SeqAt.RcNeAt.lists_lengths p1.isList p2.isList (by simp;intro e;subst e;simp at l1) hu X.prog X.w X.xe _ (Ye I q rfl)
end
end L2
namespace Tw
open PySem PySem.Spec L2
def Zt(i:Nat):Stmt:=PySem.Challenge.pw_twigmap_k36_way_checked.main.body.getD i (.Pass ⟨0,0,0,0⟩)
abbrev LY:Stmt:=Zt 13
abbrev NF:Stmt:=Zt 14
abbrev O7:Stmt:=Zt 15
abbrev ML:Stmt:=Zt 16
abbrev La:Stmt:=Zt 17
abbrev M6:Stmt:=Zt 18
abbrev MJ:Stmt:=Zt 19
abbrev Op:Stmt:=Zt 20
abbrev MP:Stmt:=Zt 30
abbrev Nn:Stmt:=Zt 31
abbrev M4:Stmt:=Zt 32
abbrev LT:Stmt:=Zt 33
abbrev Lm:Stmt:=Zt 34
abbrev NW:Stmt:=Zt 35
abbrev N1:Stmt:=Zt 37
abbrev Mc:Stmt:=Zt 38
abbrev LK:Stmt:=Zt 39
abbrev MA:Stmt:=Zt 40
abbrev Ld:Stmt:=Zt 41
abbrev LB:Stmt:=Zt 44
abbrev Nq:Stmt:=Zt 46
abbrev Mb:Stmt:=Zt 47
abbrev MG:Stmt:=Zt 48
abbrev Nt:Stmt:=Zt 49
abbrev Oa:Stmt:=Zt 50
abbrev OW:Stmt:=Zt 51
abbrev LC:Stmt:=Zt 52
abbrev Nj:Stmt:=Zt 53
abbrev P6:Stmt:=Zt 54
abbrev Ut:Stmt:=Zt 55
abbrev NR:Stmt:=Zt 56
abbrev Mm:Stmt:=Zt 59
abbrev MW:Stmt:=Zt 60
abbrev Nv:Stmt:=Zt 61
abbrev N5:Stmt:=Zt 62
abbrev NQ:Stmt:=Zt 63
abbrev Nh:Stmt:=Zt 64
abbrev LX:Stmt:=Zt 65
abbrev Mj:Stmt:=Zt 66
abbrev Nr:Stmt:=Zt 67
abbrev LJ:Stmt:=Zt 68
abbrev MY:Stmt:=Zt 69
abbrev QX:Stmt:=Zt 70
abbrev Mp:Stmt:=Zt 71
abbrev VF:Stmt:=Zt 72
structure YD(mg:jb):Prop where
 isi:mg "isinstance" = none
 bool:mg "bool" = none
 int:mg "int" = none
 str:mg "str" = none
 tuple:mg "tuple" = none
 list:mg "list" = none
 len:mg "len" = none
 all:mg "all" = none
 abs:mg "abs" = none
 max:mg "max" = none
 min:mg "min" = none
 range:mg "range" = none
 sorted:mg "sorted" = none
 ValueError:mg "ValueError" = none
 sum:mg "sum" = none
 set:mg "set" = none
 signs:∃ t,mg "MOST_SIGNS" = some (.int 40 t)
 things:∃ t,mg "MOST_THINGS" = some (.int 4 t)
 deep:∃ t,mg "MOST_DEEP" = some (.int 3 t)
 rows:∃ t,mg "MOST_ROWS" = some (.int 4 t)
 few:∃ t,mg "FEWEST_BRANCHES" = some (.int 2 t)
 most:∃ t,mg "MOST_BRANCHES" = some (.int 4 t)
 height:∃ t,mg "HEIGHT" = some (.int 0 t)
 least:∃ t,mg "LEAST" = some (.int 1 t)
 greatest:∃ t,mg "GREATEST" = some (.int 2 t)
 many:∃ t,mg "MANY" = some (.int 3 t)
section
variable{P:Program}{w:World}{K:zAA}{mg:jb}{base:Heap}{f:Addr}{fd:FuncData}
theorem UO:ZD ["_law_well_here","_law_many","_law_found","_law_first","_law_second"] ["_law_well_here","_law_many"] (Zg Mb):=Zu
theorem Dl(F:Zq K "_law_pull" "_law_pull" Mb f fd):ZM P w K mg base ZU 1 f fd ["_law_well_here","_law_many"] Zl:=by
 refine F.ok UO (fun vs H Q E h=>?_) (fun cdv A outer s H vs Q E hr h=>?_)
 ·obtain ⟨p,m,rfl,_⟩:=h;rfl
 obtain ⟨p,m,rfl,W,⟨hm,hlog⟩,k⟩:=h;obtain ⟨a,b,c,d,hw,ha0,ha1,hc,hd⟩:=W.ex;have nd:=UO.nd;refine ⟨_,ZQ (Z1 (YN X9 (Zp Zf (pv 0) ZL (fun _ _=>rfl)) ZL (Zy _)) (ZW (Zk ZL)) Z8)
  (ZQ (QE (Zo VZ (Zp Zf (pv 0) ZL (fun _ _=>rfl)) ZL) (Na (pv 0) ZL Nk))
  (ZQ (Z1 (YN QW (Zp Zf (pv 0) ZL (fun _ _=>rfl)) ZL (Zy _))
   (ZQ (Zj 2 nd (Zo QY (Zp Zf (pv 0) ZL (fun _ _=>rfl)) (pv 1)))
   (ZQ (QE (Zo Fo (Zp Zf (pv 0) ZL (fun _ _=>rfl)) (pv 1)) (Na (pv 0) ZL Nk))
   (ZW (Zk (pv 2))))) Z8)
  (ZQ (QE (Zo Xn (Zp Zf (pv 0) ZL (fun _ _=>rfl)) ZL) (Na (pv 0) ZL Nk))
  (ZQ (Zj 3 nd (Zo QY (Zo Qz (Zo Xn (Zp Zf (pv 0) ZL (fun _ _=>rfl)) ZL) (Zo Xn ZL (Zo Qz ZL (Zp Zf (pv 0) ZL (fun _ _=>rfl))))) ZL))
  (ZQ (Zj 4 nd (Zo QY (Zo Qz (Zo Xn (Zo OX (pv 3) ZL) ZL) (Zo Xn (Zo QY (pv 3) ZL) ZL)) ZL))
  (ZW (Zk (Zo QY (Zo OX (pv 4) ZL) (pv 1))))))))),?_⟩
 refine ⟨_,rfl,p,_,_,_,rfl,rfl,ZK.of hw,rfl,rfl,_,rfl,?_⟩;refine Ww (fun _=>?_) (fun c0=>?_)
 ·exact k 0 H (Int.le_refl 0) hm W (ZC.refl p H)
 have d0:d≠0:=fun e=>c0 (decide_eq_true (by rw [e]))
 refine ⟨_,rfl,p,_,_,_,rfl,rfl,ZK.of hw,rfl,_,_,rfl,rfl,_,rfl,p,_,_,_,rfl,rfl,hw,rfl,?_⟩;refine ⟨_,rfl,p,_,_,_,rfl,rfl,ZK.of ZN,rfl,_,_,rfl,rfl,_,rfl,?_⟩;refine Ww (fun c1=>?_) (fun c1=>?_)
 ·refine ⟨_,rfl,p,_,_,_,rfl,rfl,ZK.of ZN,rfl,_,rfl,_,_,rfl,rfl,hm,?_⟩;refine ⟨_,rfl,p,_,_,_,rfl,rfl,ZK.of ZN,rfl,_,rfl,_,_,rfl,rfl,⟨hm,hlog⟩,_,rfl,p,_,_,_,rfl,rfl,ZN,rfl,?_⟩;refine ⟨_,rfl,?_⟩;refine k (c % m) _ (zBz _ (by omega)) (zBg _ hm) ⟨a,b,c / m,d - 1,ZN,ha0,ha1,Int.ediv_nonneg hc (by omega),by omega⟩ (ZC.refl p H).upd.upd
 ·refine ⟨_,rfl,p,_,_,_,rfl,rfl,ZK.of ZN,rfl,_,_,rfl,rfl,_,rfl,p,_,_,_,rfl,rfl,ZN,rfl,?_⟩;refine ⟨_,rfl,p,_,_,_,rfl,rfl,ZK.of ZN,rfl,_,_,rfl,rfl,_,rfl,p,_,_,_,rfl,rfl,ZK.of ZN,rfl,_,_,rfl,rfl,.inl ⟨by decide,by decide⟩,_,_,rfl,rfl,_,_,rfl,rfl,.inl ⟨by omega,by omega⟩,_,_,rfl,rfl,(by show (0:Int)<2147483629;decide),?_⟩
  generalize hx:(a+1) * (48271+7919 * (b+1)) % 2147483629=x;have x0:0<=x:=by rw [<-hx];exact zBz _ (by decide)
  have x1:x<2147483629:=by rw [<-hx];exact zBg _ (by decide)
  refine ⟨_,rfl,_,_,rfl,rfl,⟨by decide,by decide⟩,_,_,rfl,rfl,_,rfl,_,_,rfl,rfl,(by show (0:Int)<1009;decide),_,_,rfl,rfl,_,_,rfl,rfl,.inl ⟨by omega,by omega⟩,_,_,rfl,rfl,(by show (0:Int)<1000000007;decide),?_⟩
  refine ⟨_,rfl,_,_,rfl,rfl,⟨by decide,by decide⟩,_,rfl,_,_,rfl,rfl,hm,?_⟩
  exact k _ _ (zBz _ (by omega)) (zBg _ hm) ⟨a,b+1,c,d - 1,ZN,ha0,ha1,hc,by omega⟩ (ZC.refl p H).upd.upd
theorem Vw:ZD ["_law_well_here","_law_bound","_law_found","_law_j"] ["_law_well_here","_law_bound"] (Zg MG):=Zu
theorem Fy(F:Zq K "_law_great" "_law_great" MG f fd)(T:YD mg)(DP:ZB P w K mg base 1 "_law_pull" ["_law_well_here","_law_many"] Zl):ZM P w K mg base ZU 2 f fd ["_law_well_here","_law_bound"] Zl:=by
 refine F.ok Vw (fun vs H Q E h=>?_) (fun cdv A outer s H vs Q E hr h=>?_)
 ·obtain ⟨p,m,rfl,_⟩:=h;rfl
 obtain ⟨p,m,rfl,W,hm,k⟩:=h;obtain ⟨a,b,c,d,hw,_⟩:=W.ex;have nd:=Vw.nd;refine ⟨_,ZQ (Z1 (YN QW (Zp Zf (pv 0) ZL (fun _ _=>rfl)) ZL (Zy _)) (ZW (Zk (Zh DP hr (Zc (pv 0) (Zc (pv 1) ZH))))) Z8)
  (ZQ (Zj 2 nd ZL)
  (ZQ (V7 PassesOwn.never rfl (Qj rfl T.range (Zc ZL ZH)) (Xd 3 nd)
   (ZW (Zj 2 nd (Zo Xn (Zo Qz (pv 2) ZL) (Zh DP hr (Zc (pv 0) (Zc ZL ZH)))))))
  (ZW (Zk (Zo QY (pv 2) (pv 1)))))),?_⟩
 refine ⟨_,rfl,p,_,_,_,rfl,rfl,ZK.of hw,rfl,_,_,rfl,rfl,_,rfl,?_⟩;refine Ww (fun _=>?_) (fun _=>?_)
 ·exact ⟨_,rfl,_,rfl,p,m,rfl,W,hm,k⟩
 refine ⟨8,rfl,by decide,by decide,Qp (n:=8) (fun i σ H2=>∃(z:Int)(j:jf),σ=[some (.ref p),some (.int m),some (.int z),j]/\ZF H2 p/\ZC p H H2) ⟨0,none,rfl,W,ZC.refl p H⟩ ?_ ?_⟩
 ·rintro i σ H2 hi ⟨z,j,rfl,W2,s2⟩;refine ⟨_,rfl,_,_,rfl,rfl,.inr ⟨by decide,by decide⟩,_,rfl,p,62500000,rfl,W2,Yz (by decide) (by decide),fun r H3 _ _ W3 s3=>?_⟩
  exact ⟨_,_,rfl,rfl,_,_,rfl,W3,s2.trans s3⟩
 ·rintro σ H2 ⟨z,j,rfl,W2,s2⟩;refine ⟨_,rfl,_,rfl,_,_,rfl,rfl,hm.1,?_⟩;exact k _ _ (zBz _ (by have:=hm.1;omega)) (zBg _ hm.1) W2 s2
end
def YO:Str:= " \"\\~!#$&'()*+,-./0123456789:;<=>?@ABCDEFGHIJKLMNOPQRSTUVWXYZ[]^_`abcdefghijklmnopqrstuvwxyz{|}"
theorem AT:YO.cps.toList.length=94:=by decide +kernel
theorem Kx:YO.length=94:=by decide +kernel
theorem AW:YO.cps.toList.all V9=true:=by decide +kernel
theorem HS{i:Int}(h0:0<=i)(h1:i<94):∃ c,X8 YO.cps.toList i=some c/\V9 c=true:=by
 obtain ⟨c,e,m⟩:=QR (xs:=YO.cps.toList) h0 (by rw [AT];exact h1)
 exact ⟨c,e,zAO.mp AW c m⟩
def X6(x:Str)(i:Nat):Prop:=x.cps.size<=i/\x.cps.toList.all V9=true
theorem X6.ok{x:Str}{i:Nat}(h:X6 x i)(hi:i<=40):UN x=true:=by
 unfold UN;rw [zAR];exact ⟨decide_eq_true (zBC h.1 hi),h.2⟩
theorem X6.more{x:Str}{i c:Nat}(h:X6 x i)(hc:V9 c=true):X6 (x++(⟨#[c]⟩:Str)) (i+1):=by
 have e:(x++(⟨#[c]⟩:Str)).cps=x.cps++#[c]:=rfl;refine ⟨?_,?_⟩
 ·rw [e,Array.size_append];exact Nat.succ_le_succ h.1
 ·rw [e,Array.toList_append,List.all_append,h.2];simp [hc]
section
variable{P:Program}{w:World}{K:zAA}{mg:jb}{base:Heap}{f:Addr}{fd:FuncData}
abbrev ZO3:List Str:=["_law_well_here","_law_signs","_law_text_here","_law_few","_law_j","_law_sign"]
theorem Uf:ZD ZO3 ["_law_well_here"] (Zg Nt):=Zu
theorem E4(F:Zq K "_law_text" "_law_text" Nt f fd)(T:YD mg)(DP:ZB P w K mg base 1 "_law_pull" ["_law_well_here","_law_many"] Zl):ZM P w K mg base ZU 2 f fd ["_law_well_here"] Xr:=by
 refine F.ok Uf (fun vs H Q E h=>?_) (fun cdv A outer s H vs Q E hr h=>?_)
 ·obtain ⟨p,rfl,_⟩:=h;rfl
 obtain ⟨p,rfl,W,k⟩:=h;have nd:=Uf.nd;refine ⟨_,ZQ (Zj 1 nd X3) (ZQ (Zj 2 nd X3)
  (ZQ (Zj 3 nd (Zh DP hr (Zc (pv 0) (Zc ZL ZH))))
  (ZQ (V7 PassesOwn.never rfl (Qj rfl T.range (Zc (Zh DP hr (Zc (pv 0) (Zc (Zp Zf (YM (Zc ZL (Zc ZL ZH))) (Zh DP hr (Zc (pv 0) (Zc ZL ZH))) (fun _ _=>rfl)) ZH))) ZH)) (Xd 4 nd)
   (ZQ (Zj 5 nd X3)
   (ZQ (Z1 (Qh (YN QW (pv 3) ZL (Zy _)) (Pd (YN X9 (Zh DP hr (Zc (pv 0) (Zc ZL ZH))) ZL (Zy _)))).pt
    (ZW (Zj 5 nd (Zp HN (pv 1) (Zh DP hr (Zc (pv 0) (Zc (Zp Zf (YM (Zc ZL (Zc ZL ZH))) (Zo OX (pv 3) ZL) (fun _ _=>rfl)) ZH))) (fun _ _=>rfl)))) Z8)
   (ZW (Zj 2 nd (Zo Fu (pv 2) (pv 5)))))))
  (ZW (Zk (pv 2)))))),?_⟩
 refine ⟨_,rfl,p,3,rfl,W,Yz (by decide) (by decide),fun pl H1 pl0 pl1 W1 s1=>?_⟩
 refine ⟨_,rfl,(by show 2<=sizeLine;decide),fun l hl=>?_⟩
 have W1':ZF (upd H1 l (.lst [.int 4,.int 41])) p:=W1.same (ZS hl _);refine ⟨_,rfl,p,2,rfl,W1',Yz (by decide) (by decide),fun r H2 r0 r1 W2 s2=>?_⟩
 have npl:l≠p:=by
  obtain ⟨xs,e⟩:=W1.some;exact (Zb e hl).symm
 have hl2:H2 l=some (.lst [.int 4,.int 41]):=s2 l _ ZN npl;obtain ⟨v,hv,hv'⟩:=Oe (x:=V.int 4) (y:=V.int 41) r0 r1;have hb:∃ z:Int,v=.int z/\0<z/\z<=41:=by
  rcases hv' with e | e
  ·exact ⟨4,e,by decide,by decide⟩
  ·exact ⟨41,e,by decide,by decide⟩
 obtain ⟨z,rfl,z0,z1⟩:=hb;refine ⟨l,_,_,_,rfl,rfl,ZK.of hl2,hv,p,z,rfl,W2,Yz z0 (by omega),fun n H3 n0 n1 W3 s3=>?_⟩
 have sA:ZC p H H3:=(s1.trans (ZC.of (ZS hl _))).trans (s2.trans s3);refine ⟨n,rfl,by omega,by omega,Qp (n:=n.toNat) (fun i σ H4=>∃(x:Str)(j g:jf),σ=[some (.ref p),some (.str YO),some (.str x),some (.int pl),j,g]/\X6 x i/\ZF H4 p/\ZC p H H4)
  ⟨"",none,none,rfl,⟨by decide,by decide⟩,W3,sA⟩ ?_ ?_⟩
 ·rintro i σ H4 hi ⟨x,j,g,rfl,hx,W4,s4⟩;have fin:∀(c:Nat)(H5:Hp),V9 c=true->ZF H5 p->ZC p H H5->∃(y:Str)(j g:jf),[some (V.ref p),some (.str YO),some (.str (x++(⟨#[c]⟩:Str))),some (.int pl),some (.int (0+(i:Int))),some (.str ⟨#[c]⟩)]=[some (.ref p),some (.str YO),some (.str y),some (.int pl),j,g]/\X6 y (i+1)/\ZF H5 p/\ZC p H H5:=
   fun c H5 hc W5 s5=>⟨_,_,_,rfl,hx.more hc,W5,s5⟩
  have hlen:∀ c:Nat,x.length+(⟨#[c]⟩:Str).length<=sizeLine:=fun c=>by
   have h1:x.length<=i:=hx.1;have h2:(⟨#[c]⟩:Str).length=1:=rfl;rw [h2];exact nn (by omega)
  have yes:∀ H5,ZF H5 p->ZC p H H5->∃(v:Int),0<v/\v<=94/\X8 [V.int 94,V.int 5] (pl / 2)=some (.int v):=fun H5 _ _=>by
   obtain ⟨v,e,h⟩:=Oe (x:=V.int 94) (y:=V.int 5) (i:=pl / 2) (by omega) (by omega)
   rcases h with rfl | rfl
   ·exact ⟨94,by decide,by decide,e⟩
   ·exact ⟨5,by decide,by decide,e⟩
  refine ⟨_,rfl,_,_,rfl,rfl,_,rfl,?_⟩;refine Ww (fun _=>?_) (fun _=>?_)
  ·refine Z9 ?_;refine ⟨_,rfl,_,rfl,(by show 2<=sizeLine;decide),fun l2 hl2=>?_⟩
   obtain ⟨v,v0,v1,ev⟩:=yes H4 W4 s4;refine ⟨_,rfl,_,_,rfl,rfl,⟨by decide,by decide⟩,l2,_,_,_,rfl,rfl,ZK.of ZN,ev,p,v,rfl,W4.same (ZS hl2 _),Yz v0 (by omega),fun u H5 u0 u1 W5 s5=>?_⟩
   obtain ⟨c,ec,hc⟩:=HS u0 (by omega)
   refine ⟨YO,_,c,rfl,rfl,(by rw [Kx];exact nn (by decide)),ec,?_⟩
   exact ⟨_,rfl,_,rfl,_,_,rfl,rfl,hlen c,fin c H5 hc W5 ((s4.trans (ZC.of (ZS hl2 _))).trans s5)⟩
  ·refine ⟨_,rfl,p,8,rfl,W4,Yz (by decide) (by decide),fun y H6 _ _ W6 s6=>⟨rfl,_,rfl,?_⟩⟩
   refine Ww (fun _=>?_) (fun _=>?_)
   ·refine ⟨_,rfl,_,rfl,(by show 2<=sizeLine;decide),fun l2 hl2=>?_⟩
    obtain ⟨v,v0,v1,ev⟩:=yes H6 W6 (s4.trans s6);refine ⟨_,rfl,_,_,rfl,rfl,⟨by decide,by decide⟩,l2,_,_,_,rfl,rfl,ZK.of ZN,ev,p,v,rfl,W6.same (ZS hl2 _),Yz v0 (by omega),fun u H5 u0 u1 W5 s5=>?_⟩
    obtain ⟨c,ec,hc⟩:=HS u0 (by omega)
    refine ⟨YO,_,c,rfl,rfl,(by rw [Kx];exact nn (by decide)),ec,?_⟩
    exact ⟨_,rfl,_,rfl,_,_,rfl,rfl,hlen c,fin c H5 hc W5 (((s4.trans s6).trans (ZC.of (ZS hl2 _))).trans s5)⟩
   ·exact ⟨_,rfl,_,rfl,_,_,rfl,rfl,hlen 97,fin 97 H6 (by decide) W6 (s4.trans s6)⟩
 ·rintro σ H4 ⟨x,j,g,rfl,hx,W4,s4⟩;exact ⟨_,rfl,k x H4 (hx.ok (by omega)) W4 s4⟩
theorem QP:ZD ["_law_well_here","_law_room","_law_way_here"] ["_law_well_here","_law_room"] (Zg Oa):=Zu
theorem Do{k:Nat}:ZM P w K mg base ZU k f fd ["_law_well_here","_law_room"] (Y6 0):=by
 have no:∀ vs H Q E,¬ Y6 0 vs H Q E:=fun vs H Q E h=>by
  obtain ⟨p,r,_,_,h1,_⟩:=h;omega
 exact ⟨fun vs H Q E h=>absurd h (no vs H Q E),fun A outer s H args us vs Q E _ _ _ _ h=>absurd h (no vs H Q E)⟩
theorem F1{n:Nat}(F:Zq K "_law_key" "_law_key" Oa f fd)(T:YD mg)(DP:ZB P w K mg base 1 "_law_pull" ["_law_well_here","_law_many"] Zl)(DG:ZB P w K mg base 2 "_law_great" ["_law_well_here","_law_bound"] Zl)(DT:ZB P w K mg base 2 "_law_text" ["_law_well_here"] Xr)(DK:ZB P w K mg base (n+2) "_law_key" ["_law_well_here","_law_room"] (Y6 n)):ZM P w K mg base ZU (n+3) f fd ["_law_well_here","_law_room"] (Y6 (n+1)):=by
 refine F.ok QP (fun vs H Q E h=>?_) (fun cdv A outer s H vs Q E hr h=>?_)
 ·obtain ⟨p,r,rfl,_⟩:=h;rfl
 obtain ⟨p,r,rfl,W,hn,k⟩:=h;have nd:=QP.nd;have hr1:=hr.mono (show 1<=n+2 by omega)
 have hr2:=hr.mono (show 2<=n+2 by omega)
 refine ⟨_,ZQ (Zj 2 nd (Zh DP hr1 (Zc (pv 0) (Zc ZL ZH))))
  (ZQ (Z1 (YN Q4 (pv 2) ZL (Zy _)) (ZW (Zk (Zo VZ (Zh DP hr1 (Zc (pv 0) (Zc ZL ZH))) ZL))) Z8)
  (ZQ (Z1 (YN X9 (pv 2) ZL (Zy _)) (ZW (Zk (Zo Xn (Zo VZ (Zh DG hr2 (Zc (pv 0) (Zc (Zo VZ (Zo Qz ZL (Zo Ql ZL ZL)) ZL) ZH))) (Zo Ql ZL ZL)) ZL))) Z8)
  (ZQ (Z1 (Qh (YN Q4 (pv 2) ZL (Zy _)) (Pd (YN X9 (pv 1) ZL (Zy _)))).pt (ZW (Zk (Zh DT hr2 (Zc (pv 0) ZH)))) Z8)
  (ZW (Zk (WA NE rfl T.tuple P3 (Zc (Wx [0,1] ["_law_well_here","_law_room"] rfl (Qj rfl T.range (Zc (Zh DP hr1 (Zc (pv 0) (Zc ZL ZH))) ZH)) (fun _ _ _ _ _=>Vk)
   (fun _ _ _ _ _=>Zh DK hr (Zc (pv 1) (Zc (Zo VZ (pv 2) ZL) ZH))) ⟨rfl,.inl rfl,rfl,rfl,.inl rfl,rfl,trivial⟩) ZH))))))),?_⟩
 refine ⟨_,rfl,p,8,rfl,W,Yz (by decide) (by decide),fun y H1 y0 y1 W1 s1=>?_⟩
 refine ⟨_,rfl,_,_,rfl,rfl,_,rfl,?_⟩;refine Ww (fun _=>?_) (fun c1=>?_)
 ·refine ⟨_,rfl,p,41,rfl,W1,Yz (by decide) (by decide),fun u H2 u0 u1 W2 s2=>⟨_,_,rfl,rfl,?_⟩⟩
  refine k (.int (u - 20)) (.int (u - 20)) H2 (ZE.int _) ?_ W2 (s1.trans s2);rw [KT.fits];have e:(10:Nat) ^ 60 > 1000:=by decide
  exact decide_eq_true (by omega)
 refine ⟨_,rfl,rfl,_,rfl,?_⟩;refine Ww (fun _=>?_) (fun c2=>?_)
 ·refine ⟨_,rfl,_,_,rfl,rfl,⟨by decide,by decide,by decide⟩,_,_,rfl,rfl,.inl ⟨by decide,by decide⟩,_,_,rfl,rfl,p,_,rfl,W1,Yz (by decide +kernel) (by decide +kernel),fun u H2 u0 u1 W2 s2=>?_⟩
  refine ⟨_,_,rfl,rfl,⟨by decide,by decide,by decide⟩,_,_,rfl,rfl,_,_,rfl,rfl,?_⟩
  refine k _ (.int _) H2 (ZE.int _) ?_ W2 (s1.trans s2);have e:((10:Int) ^ (60:Int).toNat)=((10 ^ 60:Nat):Int):=by decide +kernel
  rw [e] at u1;rw [KT.fits,e];generalize (10 ^ 60:Nat)=N at *;exact decide_eq_true (by omega)
 have txt:Xr ([.ref p]++[]) H1 Q E0:=⟨p,rfl,W1,fun x H2 hx W2 s2=>k (.str x) (.str x) H2 (ZE.str x) (by rw [KT.fits];exact hx) W2 (s1.trans s2)⟩
 refine ⟨_,rfl,_,_,rfl,rfl,_,rfl,?_⟩;refine Ww (fun _=>?_) (fun _=>?_)
 ·exact Z9 ⟨_,rfl,txt⟩
 refine ⟨_,rfl,rfl,_,rfl,?_⟩;refine Ww (fun _=>?_) (fun c3=>?_)
 ·exact ⟨_,rfl,txt⟩
 have r0:r≠0:=fun e=>c3 (decide_eq_true (by rw [e];rfl))
 refine ⟨_,rfl,p,5,rfl,W1,Yz (by decide) (by decide),fun u H2 u0 u1 W2 s2=>⟨u,rfl,by omega,by omega,?_⟩⟩
 have sB:ZC p H H2:=s1.trans s2;refine Vb (n:=u.toNat) (fun i x=>x=.int (0+(i:Int))) (fun D i ys H3=>ZF H3 p/\ZC p H H3/\D≠p/\H D=none/\∃ ts,KeysAt H3 ts ys/\ts.length=i/\fitsL ts (r - 1)=true) (Yp (by omega))
  (fun D i ys H3 hi _=>hi) (fun D i ys H3 x H4 hi _ hy=>hy) (fun D ys H3 _=>zAH _) (fun D hD=>?_) (fun D i ys H3 x eD hl hi hx hP R hR=>?_) (fun D ys H3 eD hP=>?_)
 ·have nD:D≠p:=by
   obtain ⟨xs,e⟩:=W2.some;exact (Zb e hD).symm
  have nH:H D=none:=by
   cases e:H D with
   | none=>rfl
   | some o=>rw [sB D o e nD] at hD;cases hD
  exact ⟨W2.same (ZS hD _),sB.trans (ZC.of (ZS hD _)),nD,nH,[],.nil,rfl,by rw [fitsL]⟩
 ·obtain ⟨W3,s3,nD,nH,ts,hk,hlen,hf⟩:=hP;have er:(r:Int) - 1=((r - 1:Nat):Int):=by omega
  refine ⟨_,rfl,_,rfl,_,_,rfl,rfl,p,r - 1,congrArg (fun z=>[V.ref p,V.int z]) er,W3,by omega,fun v t H4 hv ht W4 s4=>?_⟩
  have eD4:=s4 D _ eD nD;have sD:ZC D H4 (upd H4 D (.lst (ys++[v]))):=(ZC.refl D H4).upd;have tD:Z6 H4 (upd H4 D (.lst (ys++[v]))):=sD.tups eD4;refine hR v H4 eD4 ⟨W4.stay sD nD.symm,fun b o e n=>?_,nD,nH,ts++[t],((KeysAt.mono (s4.tupsW W3) _ _ hk).append (.cons hv .nil)).mono tD _ _,by simp [hlen],?_⟩
  ·rw [ZX (Zb e nH)];exact (s3.trans s4) b o e n
  ·rw [NC] at hf ⊢;rw [List.all_append,hf];simp [ht]
 ·obtain ⟨W3,s3,nD,nH,ts,hk,hlen,hf⟩:=hP;refine ⟨D,ys,rfl,.inl ⟨ZK.of eD,fun l hl=>?_⟩⟩;have sl:=ZS hl (.tup ys);refine k (.ref l) (.tup ts) _ (.tup ZN (hk.mono (ZA.tups sl) _ _)) ?_ (W3.same sl) (s3.trans (ZC.of sl));rw [KT.fits,hf,Bool.and_true,zAR];exact ⟨decide_eq_true (by omega),decide_eq_true (by omega)⟩
abbrev AM:List Str:=["_law_script","_law_k","_law_left","_law_cell","_law_digits"]
theorem UZ:ZD AM ["_law_script","_law_k"] (Zg Nq):=Zu
theorem GW(F:Zq K "_law_well" "_law_well" Nq f fd)(T:YD mg):ZM P w K mg base ZU 1 f fd ["_law_script","_law_k"] (Wc K):=by
 refine F.ok UZ (fun vs H Q E h=>?_) (fun cdv A outer s H vs Q E hr h=>?_)
 ·obtain ⟨a,ns,k,rfl,_⟩:=h;rfl
 obtain ⟨a,ns,k,rfl,hS,hn,k0,k1,q⟩:=h;have nd:=UZ.nd;refine ⟨_,ZQ (Zj 2 nd (Zp Zf (YM (Zc ZL (Zc ZL ZH))) (WA Pu rfl T.int QZ (Zc (VG X9 (pv 1) ZL (Zy _)) ZH)) (fun _ _=>rfl)))
  (ZQ (Zj 3 nd (Zp Zf (Zo Vi (WA UJ rfl T.list UK (Zc (pv 0) ZH)) (YM (Zc ZL ZH))) (Zo QY (pv 1) (Z0 (NA rfl) rfl T.max P8 (Zc ZL (Zc (Z0 Xh rfl T.len XT (Zc (pv 0) ZH)) ZH)))) (fun _ _=>rfl)))
  (ZQ (Zj 4 nd (Zo Qz (Z0 M2 rfl T.abs MR (Zc (pv 3) ZH)) (WA Pu rfl T.int QZ (Zc (Pk (VG ZOo (Z0 M2 rfl T.abs MR (Zc (pv 3) ZH)) (Zo Ql ZL ZL) (Zy _)) (Os (VG Q4 (pv 1) (Z0 Xh rfl T.len XT (Zc (pv 0) ZH)) (Zy _)))) ZH))))
  (ZW (Zk (YM (Zc (Zo QY (pv 3) ZL) (Zc (Zo Qz ZL (pv 1)) (Zc (pv 4) (Zc (pv 2) ZH))))))))),?_⟩
 refine ⟨(by show 2<=sizeLine;decide),fun l1 hl1=>?_⟩
 have g1:=ZS hl1 (.lst [V.int 240,V.int 2400]);refine ⟨_,rfl,rfl,.inr ⟨_,rfl,?_⟩⟩;obtain ⟨lv,elv,hlv⟩:∃ z:Int,X8 [V.int 240,V.int 2400] (if decide (V.int k=V.int 0)=true then 1 else 0)=some (.int z)/\0<=z:=by
  split
  ·exact ⟨2400,rfl,by decide⟩
  ·exact ⟨240,rfl,by decide⟩
 refine ⟨l1,_,_,_,rfl,rfl,ZK.of ZN,elv,?_⟩;refine ⟨_,rfl,a,_,rfl,.inl (g1.seq hS),fun l2 hl2=>?_⟩;have g2:=g1.trans (ZS hl2 (.lst (ns.map V.int)));refine ⟨(by show 1<=sizeLine;decide),fun l3 hl3=>?_⟩
 have g3:=g2.trans (ZS hl3 (.lst [V.int 0]));have n23:l2≠l3:=Zb ZN hl3;refine ⟨l2,l3,_,_,rfl,rfl,(by rw [ZX n23];exact ZN),ZN,(by rw [zAD];exact nn (by show ns.length+1<=1000;omega)),fun l4 hl4=>?_⟩
 have g4:=g3.trans (ZS hl4 (.lst (ns.map V.int++[V.int 0])));refine ⟨_,rfl,_,rfl,a,_,rfl,.inl (g4.seq hS),_,_,rfl,?_⟩;have hlm:(ns.map V.int).length=ns.length:=zAD _;generalize hM:(if (((ns.map V.int).length:Nat):Int) > 1 then (((ns.map V.int).length:Nat):Int) else 1)=M
 have M1:1<=M/\M<=(ns.length:Int)+1:=by
  rw [hlm] at hM;rw [<-hM];split <;> omega
 refine ⟨_,_,rfl,rfl,by omega,?_⟩
 have i0:0<=k % M:=zBz _ (by omega)
 have i1:k % M<M:=zBg _ (by omega)
 obtain ⟨cv,ecv,mcv⟩:=QR (xs:=ns.map V.int++[V.int 0]) i0 (by rw [zAI,zAD,zBM];omega)
 obtain ⟨cell,rfl⟩:∃ z:Int,cv=.int z:=by
  rcases zAm.mp mcv with m | m
  ·obtain ⟨z,_,e⟩:=zAb.mp m;exact ⟨z,e.symm⟩
  ·exact ⟨0,zAS.mp m⟩
 refine ⟨l4,_,_,_,rfl,rfl,ZK.of ZN,ecv,?_⟩;have dig:∀ b:Bool,0<=(if cell<0 then -cell else cell) * (if b=true then 1 else 0):=fun b=>by
  cases b
  ·simp
  ·simp;split <;> omega
 have cm:∀(x:Int)(b:Bool),QC x (if b=true then 1 else 0):=fun x b=>.inr (by cases b <;> exact ⟨by decide,by decide⟩)
 have done:∀(z:Int)(H5:Hp),0<=z->ZA H H5->∀ l5,H5 l5=none->Q (.ref l5) (upd H5 l5 (.lst [.int (cell % 2147483647),.int (1000 * k),.int z,.int lv])):=fun z H5 z0 s5 l5 hl5=>
  q l5 _ (s5.free hl5) (s5.trans (ZS hl5 _)) ⟨_,_,_,_,ZN,zBz _ (by decide),zBg _ (by decide),z0,hlv⟩
 refine ⟨_,rfl,_,rfl,_,rfl,_,rfl,_,_,rfl,rfl,⟨by decide,by decide,by decide⟩,_,_,rfl,rfl,_,rfl,?_⟩
 refine Ww (fun _=>?_) (fun _=>?_)
 ·refine ⟨_,rfl,_,rfl,a,_,rfl,.inl (g4.seq hS),_,_,rfl,rfl,.inr ⟨_,rfl,_,_,rfl,rfl,cm _ _,?_⟩⟩;refine ⟨_,rfl,_,_,rfl,rfl,(by show (0:Int)<2147483647;decide),_,rfl,_,_,rfl,rfl,.inl ⟨by decide,by decide⟩,_,rfl,_,rfl,(by show 4<=sizeLine;decide),fun l5 hl5=>?_⟩
  exact done _ _ (dig _) g4 l5 hl5
 ·refine .inr ⟨_,rfl,_,_,rfl,rfl,cm _ false,?_⟩;refine ⟨_,rfl,_,_,rfl,rfl,(by show (0:Int)<2147483647;decide),_,rfl,_,_,rfl,rfl,.inl ⟨by decide,by decide⟩,_,rfl,_,rfl,(by show 4<=sizeLine;decide),fun l5 hl5=>?_⟩
  exact done _ _ (dig false) g4 l5 hl5
theorem AE:ZD ["number"] ["number"] (Zg ML):=Zu
theorem Ft(F:Zq K "has_few_figures" "has_few_figures" ML f fd)(T:YD mg):ZM P w K mg base ZU 1 f fd ["number"] Vc:=by
 refine F.ok AE (fun vs H Q E h=>?_) (fun cdv A outer s H vs Q E hr h=>?_)
 ·obtain ⟨i,rfl,_⟩:=h;rfl
 obtain ⟨i,rfl,q⟩:=h;refine ⟨_,ZW (Zk (VG Q4 (Z0 M2 rfl T.abs MR (Zc (pv 0) ZH)) (Zo Ql ZL ZL) (Zy _))),?_⟩;refine ⟨_,rfl,_,rfl,_,_,rfl,rfl,⟨by decide,by decide,by decide⟩,_,_,rfl,rfl,?_⟩
 have e:=ZNp i;rw [<-e] at q;exact q
theorem Ae:ZD ["sign"] ["sign"] (Zg La):=Zu
theorem AX(F:Zq K "is_sign" "is_sign" La f fd):ZM P w K mg base ZU 1 f fd ["sign"] Wg:=by
 refine F.ok Ae (fun vs H Q E h=>?_) (fun cdv A outer s H vs Q E hr h=>?_)
 ·obtain ⟨c,rfl,_⟩:=h;rfl
 obtain ⟨c,rfl,q⟩:=h;refine ⟨_,ZW (Zk (B1 HU HU X3 (pv 0) X3)),?_⟩;have e1:(zAy " ").cps.toList=[32]:=by decide +kernel
 have e2:(zAy "~").cps.toList=[126]:=by decide +kernel
 have e:=EX c;refine ⟨_,rfl,_,_,rfl,rfl,_,rfl,?_⟩;refine Ww (fun h1=>?_) (fun h1=>?_)
 ·refine ⟨_,_,rfl,rfl,?_⟩;have h1':(!decide ([c]<[32]))=true:=by rw [<-e1];exact h1
  rw [h1',zCO] at e;rw [<-e,<-e2] at q;exact q
 ·have h1':(!decide ([c]<[32]))=false:=by rw [<-e1];exact Bool.eq_false_iff.mpr h1
  rw [h1',zBr] at e;rw [<-e] at q;exact q
end
structure Zd(K:zAA)(mg:jb)(x:Str)(st:Stmt)(ps:List Str):Prop where
 ex:∃ f fd,Zq K x x st f fd/\Zs K fd ps []/\mg x=some (.ref f)
theorem Zd.of{P:Program}{w:World}{K:zAA}{mg:jb}{base:Heap}{x:Str}{st:Stmt}{ps:List Str}{k:Nat}{sp:Sp}(L:Zd K mg x st ps)(h:∀ f fd,Zq K x x st f fd->ZM P w K mg base ZU k f fd ps sp):ZB P w K mg base k x ps sp:=by
 obtain ⟨f,fd,F,b,m⟩:=L.ex;exact ⟨f,fd,h f fd F,b,F.kp,m⟩
theorem Ox{K:zAA}{h:Heap}{mg:jb}{x:Str}{st:Stmt}{ps:List Str}{f:Addr}{od an:Option Addr}{sl:Array (jc)}{oc kV dc pm cd ct:Value}(X:K.In h)(G:h.Ns mainGlobals mg)(a:zAc K mainGlobals x=some (some (.ref f)))(l:K.lookup f=some ⟨oc,od,.func (zBF x x (Vx st) (WQ st) (Zg st) .none kV dc pm an cd ct),sl⟩)(c:zBa K cd x=true)(k:zAu K (.ref f)=true)(hb:∀ (kV doc pm:Value) (an:Option Addr) (cdv ct:Value) (us:jd),us.length=ps.length->bindArgs (zBF x x (Vx st) (WQ st) (Zg st) .none kV doc pm an cdv ct) ⟨us,[]⟩=pure (ps.zip us):=by first | exact (fun _ _ _ _ _ _ us hl=>match us,hl with | [_],_=>rfl) | exact (fun _ _ _ _ _ _ us hl=>match us,hl with | [_,_],_=>rfl) | exact (fun _ _ _ _ _ _ us hl=>match us,hl with | [_,_,_],_=>rfl) | exact (fun _ _ _ _ _ _ us hl=>match us,hl with | [_,_,_,_],_=>rfl) | exact (fun _ _ _ _ _ _ us hl=>match us,hl with | [_,_,_,_,_],_=>rfl)):Zd K mg x st ps:=
 ⟨f,_,U5 (st:=st) l c k,(U5 (st:=st) l c k).binds hb,zAx X G a⟩
section
variable{P:Program}{w:World}{K:zAA}{mg:jb}{base:Heap}
theorem JH(T:YD mg)(L:Zd K mg "_law_key" Oa ["_law_well_here","_law_room"])(DP:ZB P w K mg base 1 "_law_pull" ["_law_well_here","_law_many"] Zl)(DG:ZB P w K mg base 2 "_law_great" ["_law_well_here","_law_bound"] Zl)(DT:ZB P w K mg base 2 "_law_text" ["_law_well_here"] Xr):∀ n:Nat,ZB P w K mg base (n+2) "_law_key" ["_law_well_here","_law_room"] (Y6 n)
 | 0=>L.of fun _ _ _=>Do
 | n+1=>L.of fun _ _ F=>F1 F T DP DG DT (JH T L DP DG DT n)
end
inductive Xj(n:Nat)(vs:je)(H:Hp)(Q:VK)(_:XK):Prop
 | mk (v:V) (t:TG) (N:Addr->Prop) (r:Nat) (_:vs=[v,.int (r:Int)]) (_:Zm N H t v) (_:t.neat) (_:r<n) (_:∀ H',ZA H H'->Q (.bl (t.fits r)) H')
inductive XG(vs:je)(H:Hp)(Q:VK)(_:XK):Prop
 | mk (v:V) (t:TG) (N:Addr->Prop) (_:vs=[v]) (_:Zm N H t v) (_:t.neat) (_:∀ H',ZA H H'->Q (.bl (t.fits 3)) H')
section
variable{P:Program}{w:World}{K:zAA}{mg:jb}{base:Heap}{f:Addr}{fd:FuncData}
theorem Ga{sp:Sp}{k:Nat}{ps:List Str}(no:∀ vs H Q E,¬ sp vs H Q E):ZM P w K mg base ZU k f fd ps sp:=
 ⟨fun vs H Q E h=>absurd h (no vs H Q E),fun A outer s H args us vs Q E _ _ _ _ h=>absurd h (no vs H Q E)⟩
theorem CM:ZD ["thing","room"] ["thing","room"] (Zg O7):=Zu
theorem ZMd{n:Nat}(F:Zq K "fits" "fits" O7 f fd)(T:YD mg)(DW:ZB P w K mg base 1 "has_few_figures" ["number"] Vc)(DS:ZB P w K mg base 1 "is_sign" ["sign"] Wg)(DF:ZB P w K mg base (n+1) "fits" ["thing","room"] (Xj n)):ZM P w K mg base ZU (n+2) f fd ["thing","room"] (Xj (n+1)):=by
 refine F.ok CM (fun vs H Q E h=>?_) (fun cdv A outer s H vs Q E hr h=>?_)
 ·obtain ⟨v,t,N,r,rfl,_⟩:=h;rfl
 obtain ⟨v,t,N,r,rfl,hv,hq,hn,k⟩:=h;have hr1:=hr.mono (show 1<=n+1 by lia)
 obtain ⟨t1,m1⟩:=T.signs;obtain ⟨t2,m2⟩:=T.things;refine ⟨_,ZQ (Z1 (Xo (Z0 U4 rfl T.isi Vy (Zc (pv 0) (Zc (Ur (v:=.ty "bool") rfl T.bool K7 rfl) ZH)))) (ZW (Zk Xq)) Z8)
  (ZQ (Z1 (Xo (Z0 U4 rfl T.isi Vy (Zc (pv 0) (Zc (Ur (v:=.ty "int") rfl T.int QZ rfl) ZH)))) (ZW (Zk (Zh DW hr1 (Zc (pv 0) ZH)))) Z8)
  (ZQ (Z1 (Xo (Z0 U4 rfl T.isi Vy (Zc (pv 0) (Zc (Ur (v:=.ty "str") rfl T.str Lf rfl) ZH))))
   (ZW (Zk (Pk (VG PM (Z0 El rfl T.len XT (Zc (pv 0) ZH)) (WL (v:=.int 40) rfl m1 ⟨_,rfl⟩) (Zy _))
    (Os (Z0 (Mt rfl) rfl T.all NX (Zc (Wx [] [] rfl (Db (pv 0)) (fun _ _ _ _ _=>Vk) (fun _ _ _ _ _=>Zh DS hr1 (Zc (pv 0) ZH)) trivial) ZH)))))) Z8)
  (ZQ (Z1 (Xo (Z0 U4 rfl T.isi Vy (Zc (pv 0) (Zc (Ur (v:=.ty "tuple") rfl T.tuple P3 rfl) ZH))))
   (ZW (Zk (Pk (VG QW (pv 1) ZL (Zy _)) (Pk (VG PM (Z0 Xh rfl T.len XT (Zc (pv 0) ZH)) (WL (v:=.int 4) rfl m2 ⟨_,rfl⟩) (Zy _))
    (Os (Z0 (Mt rfl) rfl T.all NX (Zc (Wx [1] ["room"] rfl (OC (pv 0)) (fun _ _ _ _ _=>Vk) (fun _ _ _ _ _=>Zh DF hr (Zc (pv 0) (Zc (Zo VZ (pv 1) ZL) ZH))) ⟨rfl,.inl rfl,rfl,trivial⟩) ZH))))))) Z8)
  (ZW (Zk Xq))))),?_⟩
 cases t with
 | int i=>
  have ev:v=.int i:=by rw [Zm] at hv;exact hv
  subst ev;refine ⟨_,rfl,_,_,_,_,rfl,.int i,FY,_,rfl,Zr ?_⟩;refine ⟨_,rfl,_,_,_,_,rfl,.int i,Nd,_,rfl,Z9 ?_⟩;have kk:=k H (ZA.refl H);rw [TG.fits] at kk;exact ⟨_,rfl,i,rfl,kk⟩
 | str x=>
  have ev:v=.str x:=by rw [Zm] at hv;exact hv
  subst ev;have hlen:x.length<=1000:=by rw [TG.neat] at hq;exact hq
  refine ⟨_,rfl,_,_,_,_,rfl,.str x,C5,_,rfl,Zr ?_⟩;refine ⟨_,rfl,_,_,_,_,rfl,.str x,Nz,_,rfl,Zr ?_⟩;refine ⟨_,rfl,_,_,_,_,rfl,.str x,N8,_,rfl,Z9 ?_⟩;refine ⟨_,rfl,x,rfl,nn hlen,_,_,rfl,rfl,_,rfl,?_⟩;refine Ww (fun c=>?_) (fun c=>?_)
  ·have c40:x.length<=40:=by have:=of_decide_eq_true c;lia
   refine ⟨_,rfl,x,rfl,?_⟩;have hsz:x.cps.size<=40:=c40;refine Vb (n:=x.cps.size) (fun i z=>∃ c,x.cps[i]? = some c/\z=.str ⟨#[c]⟩) (fun D i ys H3=>ZA H H3/\H D=none/\ys=((x.cps.toList.take i).map V9).map V.bl) (Yp (by lia))
    (fun D i ys H3 hi _=>hi) (fun D i ys H3 z H4 hi _ hy=>hy) (fun D ys H3 _=>rfl) (fun D hD=>⟨ZS hD _,hD,rfl⟩) (fun D i ys H3 z eD hl hi hz hP R hR=>?_) (fun D ys H3 eD hP=>?_)
   ·obtain ⟨c,hc,rfl⟩:=hz;obtain ⟨s3,nD,rfl⟩:=hP;refine ⟨_,rfl,c,rfl,?_⟩;refine hR _ H3 eD ⟨fun b o e=>by rw [ZX (Zb e nD)];exact s3 b o e,nD,?_⟩
    have hc':x.cps.toList[i]? = some c:=by simpa using hc
    rw [zAo,hc'];simp
   ·obtain ⟨s3,nD,rfl⟩:=hP;refine ⟨D,_,rfl,ZK.of eD,?_⟩;have kk:=k H3 s3;have et:(x.cps.toList.take x.cps.size)=x.cps.toList:=zAU (by simp)
    have ea:(x.cps.toList.map V9).all id=(TG.str x).fits r:=by
     rw [TG.fits,zCu];unfold UN;rw [decide_eq_true c40,zCO];rfl
    rw [et,ea];exact kk
  ·have c40:¬ x.length<=40:=fun z=>c (decide_eq_true (by lia))
   have kk:=k H (ZA.refl H);rw [TG.fits] at kk;unfold UN at kk;rw [decide_eq_false c40,zBr] at kk;exact kk
 | tup l=>
  rw [Zm] at hv;obtain ⟨a,vs,rfl,ea,hvs⟩:=hv;have hl:=hvs.length;rw [TG.neat] at hq;obtain ⟨hq1,hq2⟩:=hq;have ty:Ym K H (.ref a) (.type "tuple"):=.tup ea;refine ⟨_,rfl,_,_,_,_,rfl,ty,Fw,_,rfl,Zr ?_⟩;refine ⟨_,rfl,_,_,_,_,rfl,ty,Nl,_,rfl,Zr ?_⟩;refine ⟨_,rfl,_,_,_,_,rfl,ty,Mh,_,rfl,Zr ?_⟩;refine ⟨_,rfl,_,_,_,_,rfl,ty,BO,_,rfl,Z9 ?_⟩;refine ⟨_,rfl,_,_,rfl,rfl,_,rfl,?_⟩;refine Ww (fun c1=>?_) (fun c1=>?_)
  ·have r0:0<r:=by
    have:=of_decide_eq_true c1
    lia
   refine ⟨_,rfl,a,vs,rfl,.inr (Zn.of ea),_,_,rfl,rfl,_,rfl,?_⟩;refine Ww (fun c2=>?_) (fun c2=>?_)
   ·have l4:l.length<=4:=by
     have:=of_decide_eq_true c2
     lia
    refine ⟨_,rfl,a,rfl,⟨vs,Zn.of ea⟩,?_⟩;refine Vb (n:=vs.length) (fun i z=>vs[i]? = some z) (fun D i ys H3=>ZA H H3/\H D=none/\ys=((l.take i).map fun t=>t.fits (r - 1)).map V.bl) (Yp (by lia))
     (fun D i ys H3 hi hP=>⟨vs,vs[i],Zn.of (hP.1 _ _ ea),by simp [hi]⟩) (fun D i ys H3 z H4 hi hP hy=>⟨hy.1,hy.2 vs (Zn.of (hP.1 _ _ ea))⟩) (fun D ys H3 hP=>⟨vs,Zn.of (hP.1 _ _ ea),zAH _⟩)
     (fun D hD=>⟨ZS hD _,hD,rfl⟩) (fun D i ys H3 z eD hl' hi hz hP R hR=>?_) (fun D ys H3 eD hP=>?_)
    ·obtain ⟨s3,nD,rfl⟩:=hP;obtain ⟨t,et,kt⟩:=hvs.get hz;have er:(r:Int) - 1=((r - 1:Nat):Int):=by lia
     refine ⟨_,rfl,_,rfl,_,_,rfl,rfl,z,t,N,r - 1,congrArg (fun y=>[z,V.int y]) er,kt.mono (XM.same s3) _ _,IU hq2 (zAJ et),by lia,fun H4 s4=>?_⟩
     refine hR _ H4 (s4 D _ eD) ⟨fun b o e=>by rw [ZX (Zb e nD)];exact s4 b o (s3 b o e),nD,?_⟩
     rw [zAo,et];simp
    ·obtain ⟨s3,nD,rfl⟩:=hP;refine ⟨D,_,rfl,ZK.of eD,?_⟩;have kk:=k H3 s3;rw [TG.fits,decide_eq_true r0,zCO,decide_eq_true l4,zCO,Jz] at kk;have et:l.take vs.length=l:=zAU (by lia)
     rw [et,zCu];exact kk
   ·have l4:¬ l.length<=4:=fun z=>c2 (decide_eq_true (by lia))
    have kk:=k H (ZA.refl H);rw [TG.fits,decide_eq_false l4,zBr,Bool.and_false] at kk;exact kk
  ·have r0:¬ 0<r:=fun z=>c1 (decide_eq_true (by lia))
   have kk:=k H (ZA.refl H);rw [TG.fits,decide_eq_false r0,zBr] at kk;exact kk
 | odd n'=>
  rw [Zm] at hv;have ty:Ym K H v (.type n'):=hv.ty;obtain ⟨b,kb,kr⟩:=Ek (K:=K) hv;have kk:=k H (ZA.refl H);rw [TG.fits] at kk
  cases b with
  | true=>exact ⟨_,rfl,_,_,_,_,rfl,ty,kb,_,rfl,Z9 kk⟩
  | false=>
   obtain ⟨k1,k2,k3⟩:=kr rfl;refine ⟨_,rfl,_,_,_,_,rfl,ty,kb,_,rfl,Zr ?_⟩;refine ⟨_,rfl,_,_,_,_,rfl,ty,k1,_,rfl,Zr ?_⟩;refine ⟨_,rfl,_,_,_,_,rfl,ty,k2,_,rfl,Zr ?_⟩;refine ⟨_,rfl,_,_,_,_,rfl,ty,k3,_,rfl,Zr ?_⟩;exact kk
theorem Hl(T:YD mg)(L:Zd K mg "fits" O7 ["thing","room"])(DW:ZB P w K mg base 1 "has_few_figures" ["number"] Vc)(DS:ZB P w K mg base 1 "is_sign" ["sign"] Wg):∀ n:Nat,ZB P w K mg base (n+1) "fits" ["thing","room"] (Xj n)
 | 0=>L.of fun _ _ _=>Ga fun vs H Q E h=>by obtain ⟨v,t,N,r,_,_,_,h1,_⟩:=h;lia
 | n+1=>L.of fun _ _ F=>ZMd F T DW DS (Hl T L DW DS n)
theorem FD:ZD ["thing"] ["thing"] (Zg LY):=Zu
theorem FJ(F:Zq K "is_key" "is_key" LY f fd)(T:YD mg)(DF:ZB P w K mg base 5 "fits" ["thing","room"] (Xj 4)):ZM P w K mg base ZU 6 f fd ["thing"] XG:=by
 refine F.ok FD (fun vs H Q E h=>?_) (fun cdv A outer s H vs Q E hr h=>?_)
 ·obtain ⟨v,t,N,rfl,_⟩:=h;rfl
 obtain ⟨v,t,N,rfl,hv,hq,k⟩:=h;obtain ⟨t1,m1⟩:=T.deep;refine ⟨_,ZW (Zk (Zh DF hr (Zc (pv 0) (Zc (WL (v:=.int 3) rfl m1 ⟨_,rfl⟩) ZH)))),?_⟩;exact ⟨_,rfl,v,t,N,3,rfl,hv,hq,by decide,k⟩
end
inductive VP(n:Nat)(vs:je)(H:Hp)(Q:VK)(_:XK):Prop
 | mk (v:V) (t:KT) (q:Nat) (_:vs=[v]) (_:ZE H t v) (_:t.fits q=true) (_:t.depth<n) (_:∀(v':V)(H':Hp),ZE H' t.st v'->ZA H H'->Q v' H')
inductive Ys(vs:je)(H:Hp)(Q:VK)(_:XK):Prop
 | mk (v u:V) (a b:KT) (_:vs=[v,u]) (_:ZE H a v) (_:ZE H b u) (_:a.fits 3=true) (_:b.fits 3=true) (_:∀ H',ZA H H'->Q (.bl (a.lt b)) H')
section
variable{P:Program}{w:World}{K:zAA}{mg:jb}{base:Heap}{f:Addr}{fd:FuncData}
theorem ZG7:ZD ["key"] ["key"] (Zg Op):=Zu
theorem ZMr{k:Nat}:ZM P w K mg base ZU k f fd ["key"] (VP 0):=by
 have no:∀ vs H Q E,¬ VP 0 vs H Q E:=fun vs H Q E h=>by
  obtain ⟨v,t,q,_,_,_,h1,_⟩:=h
  lia
 exact ⟨fun vs H Q E h=>absurd h (no vs H Q E),fun A outer s H args us vs Q E _ _ _ _ h=>absurd h (no vs H Q E)⟩
theorem FO{n:Nat}(F:Zq K "standing" "standing" Op f fd)(T:YD mg)(DS:ZB P w K mg base (n+1) "standing" ["key"] (VP n)):ZM P w K mg base ZU (n+2) f fd ["key"] (VP (n+1)):=by
 refine F.ok ZG7 (fun vs H Q E h=>?_) (fun cdv A outer s H vs Q E hr h=>?_)
 ·obtain ⟨v,t,q,rfl,_⟩:=h;rfl
 obtain ⟨v,t,q,rfl,hv,hq,hn,k⟩:=h;refine ⟨_,ZQ (Z1 (Xo (Z0 U4 rfl T.isi Vy (Zc (pv 0) (Zc (Ur (v:=.ty "int") rfl T.int QZ rfl) ZH)))) (ZW (Zk (Yh (Zc ZL (Zc (pv 0) ZH))))) Z8)
  (ZQ (Z1 (Xo (Z0 U4 rfl T.isi Vy (Zc (pv 0) (Zc (Ur (v:=.ty "str") rfl T.str Lf rfl) ZH)))) (ZW (Zk (Yh (Zc ZL (Zc (pv 0) ZH))))) Z8)
  (ZW (Zk (Yh (Zc ZL (Zc (WA NE rfl T.tuple P3 (Zc (Wx [] [] rfl (OC (pv 0)) (fun _ _ _ _ _=>Vk) (fun _ _ _ _ _=>Zh DS hr (Zc (pv 0) ZH)) trivial) ZH)) ZH)))))),?_⟩
 cases t with
 | int i=>
  have ev:v=.int i:=by rw [ZE] at hv;exact hv
  subst ev;refine ⟨_,rfl,_,_,_,_,rfl,hv.ty,Nd,_,rfl,Z9 ?_⟩;refine ⟨_,rfl,(by show 2<=sizeLine;decide),fun p hp=>?_⟩
  refine k _ _ ?_ (ZS hp _);rw [KT.st];exact .tup ZN (.cons (.int 0) (.cons (.int i) .nil))
 | str x=>
  have ev:v=.str x:=by rw [ZE] at hv;exact hv
  subst ev;refine ⟨_,rfl,_,_,_,_,rfl,hv.ty,Nz,_,rfl,Zr ?_⟩;refine ⟨_,rfl,_,_,_,_,rfl,hv.ty,N8,_,rfl,Z9 ?_⟩;refine ⟨_,rfl,(by show 2<=sizeLine;decide),fun p hp=>?_⟩
  refine k _ _ ?_ (ZS hp _);rw [KT.st];exact .tup ZN (.cons (.int 1) (.cons (.str x) .nil))
 | tup l=>
  have hv':=hv;rw [ZE] at hv';obtain ⟨a,vs,rfl,ea,hvs⟩:=hv';have hl:=hvs.length;rw [KT.fits,zAR,zAR] at hq;obtain ⟨hq0,hq1,hq2⟩:=hq;have hl4:l.length<=4:=of_decide_eq_true hq1;rw [KT.depth] at hn;refine ⟨_,rfl,_,_,_,_,rfl,hv.ty,Nl,_,rfl,Zr ?_⟩;refine ⟨_,rfl,_,_,_,_,rfl,hv.ty,Mh,_,rfl,Zr ?_⟩;refine ⟨_,rfl,a,rfl,⟨vs,Zn.of ea⟩,?_⟩;refine Vb (n:=vs.length) (fun i z=>vs[i]? = some z) (fun D i ys H3=>ZA H H3/\H D=none/\KeysAt H3 ((l.take i).map KT.st) ys) (Yp (by lia))
   (fun D i ys H3 hi hP=>⟨vs,vs[i],Zn.of (hP.1 _ _ ea),by simp [hi]⟩) (fun D i ys H3 z H4 hi hP hy=>⟨hy.1,hy.2 vs (Zn.of (hP.1 _ _ ea))⟩) (fun D ys H3 hP=>⟨vs,Zn.of (hP.1 _ _ ea),zAH _⟩)
   (fun D hD=>⟨ZS hD _,hD,.nil⟩) (fun D i ys H3 z eD hl' hi hz hP R hR=>?_) (fun D ys H3 eD hP=>?_)
  ·obtain ⟨s3,nD,hys⟩:=hP;obtain ⟨t,et,kt⟩:=hvs.get hz;have mt:=zAJ et;have htq:t.fits (q - 1)=true:=by
    rw [NC] at hq2;exact zAO.mp hq2 t mt
   have hdt:=Uz mt;refine ⟨_,rfl,z,t,q - 1,rfl,kt.mono (ZA.tups s3) _ _,htq,by lia,fun v' H4 k4 s4=>?_⟩
   have eD4:=s4 D _ eD;have tD:Z6 H4 (upd H4 D (.lst (ys++[v']))):=(ZC.refl D H4).upd.tups eD4;refine hR v' H4 eD4 ⟨fun b o e=>by rw [ZX (Zb e nD)];exact s4 b o (s3 b o e),nD,?_⟩
   rw [zAo,et,zAV];exact ((hys.mono (ZA.tups s4) _ _).append (.cons k4 .nil)).mono tD _ _
  ·obtain ⟨s3,nD,hys⟩:=hP;have et:l.take vs.length=l:=zAU (by lia)
   rw [et] at hys;have hyl:=hys.length;rw [zAD] at hyl;refine ⟨D,ys,rfl,.inl ⟨ZK.of eD,fun p1 hp1=>?_⟩⟩;have g1:=ZS hp1 (.tup ys);refine ⟨(by show 2<=sizeLine;decide),fun p2 hp2=>?_⟩
   have g2:=ZS hp2 (.tup [.int 2,.ref p1]);refine k _ _ ?_ ((s3.trans g1).trans g2);rw [KT.st,IG];exact .tup ZN (.cons (.int 2) (.cons (.tup (g2 _ _ ZN) (hys.mono (ZA.tups (g1.trans g2)) _ _)) .nil))
theorem JM(T:YD mg)(L:Zd K mg "standing" Op ["key"]):∀ n:Nat,ZB P w K mg base (n+1) "standing" ["key"] (VP n)
 | 0=>L.of fun _ _ _=>ZMr
 | n+1=>L.of fun _ _ F=>FO F T (JM T L n)
theorem Gu:ZD ["one","other"] ["one","other"] (Zg M6):=Zu
theorem GO(F:Zq K "ahead" "ahead" M6 f fd)(DS:ZB P w K mg base 6 "standing" ["key"] (VP 5)):ZM P w K mg base ZU 7 f fd ["one","other"] Ys:=by
 refine F.ok Gu (fun vs H Q E h=>?_) (fun cdv A outer s H vs Q E hr h=>?_)
 ·obtain ⟨v,u,a,b,rfl,_⟩:=h;rfl
 obtain ⟨v,u,a,b,rfl,ha,hb,fa,fb,k⟩:=h;refine ⟨_,ZW (Zk (VG (MN hr) (Zh DS hr (Zc (pv 0) ZH)) (Zh DS hr (Zc (pv 1) ZH)) (Zy _))),?_⟩;have da:=VU a 3 fa;have db:=VU b 3 fb;have ds:=Ia a;refine ⟨_,rfl,v,a,3,rfl,ha,fa,by lia,fun v1 H1 k1 s1=>?_⟩
 refine ⟨_,rfl,u,b,3,rfl,hb.mono (ZA.tups s1) _ _,fb,by lia,fun v2 H2 k2 s2=>?_⟩
 refine ⟨a.st,b.st,k1.mono (ZA.tups s2) _ _,k2,Hv a b,by lia,?_⟩
 rw [JJ];exact k H2 (s1.trans s2)
end
mutual
def KT.wide:KT->Nat->Bool
 | .int _,_=>true
 | .str _,_=>true
 | .tup l,r=>decide (0<r)&&(decide (l.length<=100)&&wideL l (r - 1))
def wideL:List KT->Nat->Bool
 | [],_=>true
 | t :: l,r=>t.wide r&&wideL l r
end
section
variable{P:Program}{w:World}{K:zAA}{mg:jb}{base:Heap}{f:Addr}{fd:FuncData}
theorem G3{sp:Sp}{k:Nat}{ps:List Str}(no:∀ vs H Q E,¬ sp vs H Q E):ZM P w K mg base ZU k f fd ps sp:=
 ⟨fun vs H Q E h=>absurd h (no vs H Q E),fun A outer s H args us vs Q E _ _ _ _ h=>absurd h (no vs H Q E)⟩
end
mutual
def KT.rk:KT->KT
 | .int i=>.tup [.int 0,.int i,.str "",.tup []]
 | .str x=>.tup [.int 1,.int 0,.str x,.tup []]
 | .tup l=>.tup [.int 2,.int 0,.str "",.tup (rkL l)]
def rkL:List KT->List KT
 | []=>[]
 | t :: l=>t.rk :: rkL l
end
theorem Kr:∀ l:List KT,rkL l=l.map KT.rk
 | []=>by rw [rkL];rfl
 | t :: l=>by rw [rkL,Kr l];rfl
mutual
theorem Lz:∀ a b:KT,a.rk.eqb b.rk=a.eqb b
 | .int i,.int j=>by simp [KT.rk,KT.eqb,eqbL]
 | .str x,.str y=>by simp [KT.rk,KT.eqb,eqbL]
 | .tup l,.tup m=>by simp [KT.rk,KT.eqb,eqbL,eqbL_rk l m]
 | .int _,.str _=>by simp [KT.rk,KT.eqb,eqbL]
 | .int _,.tup _=>by simp [KT.rk,KT.eqb,eqbL]
 | .str _,.int _=>by simp [KT.rk,KT.eqb,eqbL]
 | .str _,.tup _=>by simp [KT.rk,KT.eqb,eqbL]
 | .tup _,.int _=>by simp [KT.rk,KT.eqb,eqbL]
 | .tup _,.str _=>by simp [KT.rk,KT.eqb,eqbL]
theorem eqbL_rk:∀ l m:List KT,eqbL (rkL l) (rkL m)=eqbL l m
 | [],[]=>by simp [rkL,eqbL]
 | a :: l,b :: m=>by simp [rkL,eqbL,Lz a b,eqbL_rk l m]
 | [],_ :: _=>by simp [rkL,eqbL]
 | _ :: _,[]=>by simp [rkL,eqbL]
end
mutual
theorem P2:∀ a b:KT,a.rk.cmp b.rk=true
 | .int i,.int j=>by simp [KT.rk,KT.eqb,KT.cmp,cmpL,eqbL]
 | .str x,.str y=>by simp [KT.rk,KT.eqb,KT.cmp,cmpL,eqbL]
 | .tup l,.tup m=>by simp [KT.rk,KT.eqb,KT.cmp,cmpL,cmpL_rk l m]
 | .int _,.str _=>by simp [KT.rk,KT.eqb,KT.cmp,cmpL]
 | .int _,.tup _=>by simp [KT.rk,KT.eqb,KT.cmp,cmpL]
 | .str _,.int _=>by simp [KT.rk,KT.eqb,KT.cmp,cmpL]
 | .str _,.tup _=>by simp [KT.rk,KT.eqb,KT.cmp,cmpL]
 | .tup _,.int _=>by simp [KT.rk,KT.eqb,KT.cmp,cmpL]
 | .tup _,.str _=>by simp [KT.rk,KT.eqb,KT.cmp,cmpL]
theorem cmpL_rk:∀ l m:List KT,cmpL (rkL l) (rkL m)=true
 | [],_=>by simp [rkL,cmpL]
 | _ :: _,[]=>by simp [rkL,cmpL]
 | a :: l,b :: m=>by
  rw [rkL,rkL,cmpL,cmpL_rk l m,P2 a b];split <;> rfl
end
mutual
theorem OA:∀ a b:KT,a.rk.plt b.rk=a.lt b
 | .int i,.int j=>by
  simp only [KT.rk,KT.eqb,KT.plt,pltL,eqbL,KT.lt,beq_self_eq_true,if_true];by_cases h:i=j
  ·subst h;simp
  ·simp [h]
 | .str x,.str y=>by
  simp only [KT.rk,KT.eqb,KT.plt,pltL,eqbL,KT.lt,beq_self_eq_true,if_true];by_cases h:x=y
  ·subst h;simp
  ·simp [h]
 | .tup l,.tup m=>by
  simp only [KT.rk,KT.eqb,KT.plt,pltL,KT.lt,beq_self_eq_true,if_true,eqbL_rk,pltL_rk l m]
  cases h:eqbL l m with
  | true=>rw [if_pos rfl,Iu h]
  | false=>rw [if_neg zAF]
 | .int _,.str _=>by simp [KT.rk,KT.eqb,KT.plt,pltL,KT.lt]
 | .int _,.tup _=>by simp [KT.rk,KT.eqb,KT.plt,pltL,KT.lt]
 | .str _,.int _=>by simp [KT.rk,KT.eqb,KT.plt,pltL,KT.lt]
 | .str _,.tup _=>by simp [KT.rk,KT.eqb,KT.plt,pltL,KT.lt]
 | .tup _,.int _=>by simp [KT.rk,KT.eqb,KT.plt,pltL,KT.lt]
 | .tup _,.str _=>by simp [KT.rk,KT.eqb,KT.plt,pltL,KT.lt]
theorem pltL_rk:∀ l m:List KT,pltL (rkL l) (rkL m)=ltL l m
 | [],[]=>by simp [rkL,pltL,ltL]
 | [],_ :: _=>by simp [rkL,pltL,ltL]
 | _ :: _,[]=>by simp [rkL,pltL,ltL]
 | a :: l,b :: m=>by rw [rkL,rkL,pltL,ltL,Lz a b,pltL_rk l m,OA a b]
end
mutual
theorem Pb:∀ t:KT,t.rk.depth<=2 * t.depth+2
 | .int i=>by simp [KT.rk,KT.depth,depthL]
 | .str x=>by simp [KT.rk,KT.depth,depthL]
 | .tup l=>by
  have:=depthL_rk l;simp only [KT.rk,KT.depth,depthL]
  lia
theorem depthL_rk:∀ l:List KT,depthL (rkL l)<=2 * depthL l+2
 | []=>by simp [rkL,depthL]
 | t :: l=>by
  have a:=Pb t;have b:=depthL_rk l;rw [rkL,depthL,depthL]
  lia
end
section
variable{P:Program}{w:World}{K:zAA}{mg:jb}{base:Heap}{f:Addr}{fd:FuncData}
inductive Yk(n:Nat)(vs:je)(H:Hp)(Q:VK)(_:XK):Prop
 | mk (v:V) (t:KT) (q:Nat) (_:vs=[v]) (_:ZE H t v) (_:t.fits q=true) (_:t.depth<n) (_:∀(v':V)(H':Hp),ZE H' t.rk v'->ZA H H'->Q v' H')
theorem Ay:ZD ["_law_spot"] ["_law_spot"] (Zg OW):=Zu
theorem F7{n:Nat}(F:Zq K "_law_rank" "_law_rank" OW f fd)(T:YD mg)(DS:ZB P w K mg base (n+1) "_law_rank" ["_law_spot"] (Yk n)):ZM P w K mg base ZU (n+2) f fd ["_law_spot"] (Yk (n+1)):=by
 refine F.ok Ay (fun vs H Q E h=>(by obtain ⟨_,_,_,rfl,_⟩:=h;rfl)) (fun cdv A outer s H vs Q E hr h=>?_)
 obtain ⟨v,t,q,rfl,hv,hq,hn,k⟩:=h;refine ⟨_,ZQ (Z1 (Xo (Z0 U4 rfl T.isi Vy (ZG (pv 0) (ZG (Ur (v:=.ty "int") rfl T.int QZ rfl) ZH)))) (ZW (Zk (Yh (VH ZL (pv 0) X3 (Yh ZH))))) Z8)
  (ZQ (Z1 (Xo (Z0 U4 rfl T.isi Vy (ZG (pv 0) (ZG (Ur (v:=.ty "str") rfl T.str Lf rfl) ZH)))) (ZW (Zk (Yh (VH ZL ZL (pv 0) (Yh ZH))))) Z8)
  (ZW (Zk (Yh (VH ZL ZL X3 (WA NE rfl T.tuple P3 (ZG (Wx [] [] rfl (OC (pv 0)) (fun _ _ _ _ _=>Vk) (fun _ _ _ _ _=>Zh DS hr (ZG (pv 0) ZH)) trivial) ZH))))))),?_⟩
 cases t with
 | int i=>
  have ev:v=.int i:=by rw [ZE] at hv;exact hv
  subst ev;refine ⟨_,rfl,_,_,_,_,rfl,hv.ty,Nd,_,rfl,Z9 ?_⟩;refine ⟨_,rfl,(by show 0<=sizeLine;decide),fun p0 h0=>⟨(by show 4<=sizeLine;decide),fun p hp=>?_⟩⟩
  have g0:=ZS h0 (.tup []);have g1:=ZS hp (.tup [.int 0,.int i,.str "",.ref p0]);refine k _ _ ?_ (g0.trans g1);rw [KT.rk];exact .tup ZN (.cons (.int 0) (.cons (.int i) (.cons (.str _) (.cons (.tup (g1 _ _ ZN) .nil) .nil))))
 | str x=>
  have ev:v=.str x:=by rw [ZE] at hv;exact hv
  subst ev;refine ⟨_,rfl,_,_,_,_,rfl,hv.ty,Nz,_,rfl,Zr ?_⟩;refine ⟨_,rfl,_,_,_,_,rfl,hv.ty,N8,_,rfl,Z9 ?_⟩;refine ⟨_,rfl,(by show 0<=sizeLine;decide),fun p0 h0=>⟨(by show 4<=sizeLine;decide),fun p hp=>?_⟩⟩
  have g0:=ZS h0 (.tup []);have g1:=ZS hp (.tup [.int 1,.int 0,.str x,.ref p0]);refine k _ _ ?_ (g0.trans g1);rw [KT.rk];exact .tup ZN (.cons (.int 1) (.cons (.int 0) (.cons (.str x) (.cons (.tup (g1 _ _ ZN) .nil) .nil))))
 | tup l=>
  have hv':=hv;rw [ZE] at hv';obtain ⟨a,vs,rfl,ea,hvs⟩:=hv';have hl:=hvs.length;rw [KT.fits,zAR,zAR] at hq;obtain ⟨hq0,hq1,hq2⟩:=hq;have hl4:l.length<=4:=of_decide_eq_true hq1;rw [KT.depth] at hn;refine ⟨_,rfl,_,_,_,_,rfl,hv.ty,Nl,_,rfl,Zr ?_⟩;refine ⟨_,rfl,_,_,_,_,rfl,hv.ty,Mh,_,rfl,Zr ?_⟩;refine ⟨_,rfl,a,rfl,⟨vs,Zn.of ea⟩,?_⟩;refine Vb (n:=vs.length) (fun i z=>vs[i]? = some z) (fun D i ys H3=>ZA H H3/\H D=none/\KeysAt H3 ((l.take i).map KT.rk) ys) (Yp (by lia))
   (fun D i ys H3 hi hP=>⟨vs,vs[i],Zn.of (hP.1 _ _ ea),by simp [hi]⟩) (fun D i ys H3 z H4 hi hP hy=>⟨hy.1,hy.2 vs (Zn.of (hP.1 _ _ ea))⟩) (fun D ys H3 hP=>⟨vs,Zn.of (hP.1 _ _ ea),zAH _⟩)
   (fun D hD=>⟨ZS hD _,hD,.nil⟩) (fun D i ys H3 z eD hl' hi hz hP R hR=>?_) (fun D ys H3 eD hP=>?_)
  ·obtain ⟨s3,nD,hys⟩:=hP;obtain ⟨t,et,kt⟩:=hvs.get hz;have mt:=zAJ et;have htq:t.fits (q - 1)=true:=by
    rw [NC] at hq2;exact zAO.mp hq2 t mt
   have hdt:=Uz mt;refine ⟨_,rfl,z,t,q - 1,rfl,kt.mono (ZA.tups s3) _ _,htq,by lia,fun v' H4 k4 s4=>?_⟩
   have eD4:=s4 D _ eD;have tD:Z6 H4 (upd H4 D (.lst (ys++[v']))):=(ZC.refl D H4).upd.tups eD4;refine hR v' H4 eD4 ⟨fun b o e=>by rw [ZX (Zb e nD)];exact s4 b o (s3 b o e),nD,?_⟩
   rw [zAo,et,zAV];exact ((hys.mono (ZA.tups s4) _ _).append (.cons k4 .nil)).mono tD _ _
  ·obtain ⟨s3,nD,hys⟩:=hP;have et:l.take vs.length=l:=zAU (by lia)
   rw [et] at hys;have hyl:=hys.length;rw [zAD] at hyl;refine ⟨D,ys,rfl,.inl ⟨ZK.of eD,fun p1 hp1=>?_⟩⟩;have g1:=ZS hp1 (.tup ys);refine ⟨(by show 4<=sizeLine;decide),fun p2 hp2=>?_⟩
   have g2:=ZS hp2 (.tup [.int 2,.int 0,.str "",.ref p1]);refine k _ _ ?_ ((s3.trans g1).trans g2);rw [KT.rk,Kr];exact .tup ZN (.cons (.int 2) (.cons (.int 0) (.cons (.str _) (.cons (.tup (g2 _ _ ZN) (hys.mono (ZA.tups (g1.trans g2)) _ _)) .nil))))
theorem Jk(T:YD mg)(L:Zd K mg "_law_rank" OW ["_law_spot"]):∀ n:Nat,ZB P w K mg base (n+1) "_law_rank" ["_law_spot"] (Yk n)
 | 0=>L.of fun _ _ _=>G3 fun vs H Q E h=>by obtain ⟨v,t,q,_,_,_,h1,_⟩:=h;lia
 | n+1=>L.of fun _ _ F=>F7 F T (Jk T L n)
end
end Tw
namespace Tw
open PySem PySem.Spec L2 PyProof.Rows
theorem JS:Kg KT.rk:=⟨OA,P2,3,fun t=>by cases t <;> (rw [KT.rk];exact ⟨_,_,rfl,rfl⟩)⟩
def YU(ts:List KT):Prop:=ts.Pairwise fun a b=>a.lt b=true
theorem IY{rs:List KT}(nd:rs.Nodup)(h:rs.Pairwise fun a b=>b.lt a=false):YU rs:=by
 induction rs with
 | nil=>exact .nil
 | cons a rs ih=>
  rw [zBQ] at nd;rw [zBN] at h;refine zBN.mpr ⟨fun b hb=>?_,ih nd.2 h.2⟩
  cases q:a.lt b with
  | true=>rfl
  | false=>
   have e:=Nx a b q (h.1 b hb);exact absurd (e ▸ hb) nd.1
theorem Nc{k:Nat}{A:Around}(r:ZY k A):A.units+4<cLine:=by have:=r.un;lia
theorem Pj{p D:Addr}{H H':Hp}(s:ZC p H H')(w:ZF H' p)(n:H' D=none):H D=none:=by
 cases e:H D with
 | none=>rfl
 | some o=>
  by_cases h:D=p
  ·subst h;obtain ⟨xs,e'⟩:=w.some;rw [n] at e';cases e'
  ·rw [s D o e h] at n;cases n
section
variable{P:Program}{w:World}{K:zAA}{mg:jb}{base:Heap}{f:Addr}{fd:FuncData}
inductive VO(vs:je)(H:Hp)(Q:VK)(_:XK):Prop
 | mk (p:Addr) (n:Nat) (_:vs=[.ref p,.int (n:Int)]) (_:ZF H p) (_:n<64) (_:∀(D:Addr)(ws:je)(ts:List KT)(H':Hp),H D=none->H' D=some (.lst ws)->KeysAt H' ts ws->(∀ t∈ts,t.fits 3=true)->YU ts->ts.length<=n->ZF H' p->ZC p H H'->Q (.ref D) H')
theorem Ul:ZD ["_law_well_here","_law_many","_law_found","_law_j"] ["_law_well_here","_law_many"] (Zg Nj):=Zu
theorem GM(F:Zq K "_law_keys" "_law_keys" Nj f fd)(T:YD mg)(DK:ZB P w K mg base 6 "_law_key" ["_law_well_here","_law_room"] (Y6 4))(DR:ZB P w K mg base 6 "_law_rank" ["_law_spot"] (Yk 5)):
  ZM P w K mg base ZU 9 f fd ["_law_well_here","_law_many"] VO:=by
 refine F.ok Ul (fun vs H Q E h=>(by obtain ⟨_,_,rfl,_⟩:=h;rfl)) (fun cdv A outer s H vs Q E hr h=>?_)
 obtain ⟨p,n,rfl,hw,hn,k⟩:=h;have nd:=Ul.nd;have hr6:=hr.mono (show 6<=8 by lia)
 have DS:ZB P w K mg base 6 "_law_rank" ["_law_spot"] (Ux KT.rk):=by
  obtain ⟨g,gd,FG,b,kp,m⟩:=DR.ex;exact ⟨g,gd,FG.imp fun vs H Q E h=>by
   obtain ⟨v,t,e,a,c,d⟩:=h;have:=VU t 3 c;exact ⟨v,t,3,e,a,c,by lia,d⟩,b,kp,m⟩
 refine ⟨_,ZQ (Zj 2 nd He)
  (ZQ (V7 PassesOwn.never rfl (Qj rfl T.range (ZG (pv 1) ZH)) (Xd 3 nd)
   (ZW (Jl (Nc hr) (pv 2) (Zh DK hr6 (ZG (pv 0) (ZG ZL ZH))) Xq rfl)))
  (ZW (Zk (Hm JS Pb DS hr rfl T.sorted rfl (ZG (pv 2) ZH))))),?_⟩
 intro fa H1 nfa _ s1 dk1;obtain ⟨xsw,hxw⟩:=hw.some;have hpf:p≠fa:=Zb hxw nfa;refine ⟨_,rfl,(n:Int),rfl,by lia,by lia,Qp (n:=(n:Int).toNat) (fun i σ H'=>∃(xs:List (KT×V×V))(o:jf),σ=[some (.ref p),some (.int (n:Int)),some (.ref fa),o]/\YC w H' fa xs/\xs.length<=i/\(∀ x∈xs,x.1.fits 3=true)/\ZF H' p/\ZC p H H')
  ⟨[],none,rfl,dk1,zAH _,fun x hx=>by simp at hx,hw.same s1,ZC.of s1⟩ (fun i σ H' hi hP=>?_) (fun σ H' hP=>?_)⟩
 ·obtain ⟨xs,o,rfl,dk,lx,fx,hw',sx⟩:=hP;refine ⟨_,rfl,_,rfl,p,3,rfl,hw',by lia,fun v t H3 kv ft hw3 sx3=>?_⟩
  have tu:=sx3.tupsW hw';refine ⟨fa,xs,t,rfl,dk.but sx3 tu (Ne.symm hpf),by lia,kv,VU t 3 ft,fun H4 sx4 dk4=>⟨_,_,rfl,dk4,by have:=Bg xs t v (.bl true);lia,fun x hx=>?_,hw3.stay sx4 hpf,fun b ob e nb=>?_⟩⟩
  ·have:x.1∈(UF xs t v (.bl true)).map (·.1):=List.mem_map_of_mem hx;rw [Nb] at this;split at this
   ·obtain ⟨z,hz,e⟩:=zAb.mp this;rw [<-e];exact fx z hz
   ·rcases zAm.mp this with q | q
    ·obtain ⟨z,hz,e⟩:=zAb.mp q;rw [<-e];exact fx z hz
    ·rw [zAS.mp q];exact ft
  ·exact sx4 b ob (sx3 b ob (sx b ob e nb) nb) (Zb e nfa)
 ·obtain ⟨xs,o,rfl,dk,lx,fx,hw',sx⟩:=hP;refine ⟨_,rfl,fa,xs,rfl,dk,fx,by lia,fun D ws rs H5 s5 nD hD ka pm pw=>?_⟩
  have lr:=pm.length_eq;rw [zAD] at lr;refine k D ws rs H5 (Pj sx hw' nD) hD ka (fun t ht=>?_) (IY (pm.nodup_iff.mpr dk.nd) pw) (by lia) (hw'.same s5) (sx.trans (ZC.of s5))
  obtain ⟨z,hz,e⟩:=zAb.mp (pm.mem_iff.mp ht);rw [<-e];exact fx z hz
end
section
open PySem.SeqAt
open PySem.AutoSeq1 (wpAny_loadPart')
open PySem.MeetsSeq PySem.MeetsSeq2 PySem.MeetsSeq3
end
section
variable{X:Cx}
end
section
variable{P:Program}{w:World}{K:zAA}{mg:jb}{base:Heap}{f:Addr}{fd:FuncData}
end
theorem WY{H:Hp}{p q:Addr}(W:ZF H p)(h:H q=none):q≠p:=fun z=>by
 obtain ⟨xs,e⟩:=W.some;rw [z,e] at h;cases h
section
variable{P:Program}{w:World}{K:zAA}{mg:jb}{base:Heap}{f:Addr}{fd:FuncData}
inductive Wd(vs:je)(H:Hp)(Q:VK)(_:XK):Prop
 | mk (p:Addr) (_:vs=[.ref p]) (_:ZF H p) (_:∀(v:V)(t:KT)(H':Hp),ZE H' t v->t.fits 3=true->ZF H' p->ZC p H H'->Q v H')
theorem Eu:ZD ["_law_well_here"] ["_law_well_here"] (Zg Mm):=Zu
theorem Gw(F:Zq K "_law_value" "_law_value" Mm f fd)(DP:ZB P w K mg base 1 "_law_pull" ["_law_well_here","_law_many"] Zl)(DK:ZB P w K mg base 6 "_law_key" ["_law_well_here","_law_room"] (Y6 4)):ZM P w K mg base ZU 7 f fd ["_law_well_here"] Wd:=by
 refine F.ok Eu (fun vs H Q E h=>(by obtain ⟨_,rfl,_⟩:=h;rfl)) (fun cdv A outer s H vs Q E hr h=>?_)
 obtain ⟨p,rfl,W,q⟩:=h;have hr1:=hr.mono (show 1<=6 by decide)
 refine ⟨_,ZQ (Z1 (YN X9 (Zh DP hr1 (ZG (pv 0) (ZG ZL ZH))) ZL (Zy _)) (ZW (Zk (Zh DK hr (ZG (pv 0) (ZG ZL ZH))))) Z8)
  (ZW (Zk (Zp (r:=YR K) Ya (YM (Iv ZL ZL X3 (Yh (ZG ZL ZH)) X3 (Yh ZH))) (Zh DP hr1 (ZG (pv 0) (ZG ZL ZH))) (fun _ _=>rfl)))),?_⟩
 refine ⟨_,rfl,p,3,rfl,W,Yz (by decide) (by decide),fun w0 H1 w00 w01 W1 s1=>⟨rfl,_,rfl,?_⟩⟩
 refine Ww (fun c=>?_) (fun c=>?_)
 ·exact ⟨_,rfl,p,3,rfl,W1,by decide,fun v t H3 hv ht W3 s3=>q v t H3 hv ht W3 (s1.trans s3)⟩
 refine ⟨nn (zAB rfl),fun t1 n1=>?_⟩;have g1:=ZS n1 (.tup [.int 1]);refine ⟨nn (zAB rfl),fun t2 n2=>?_⟩;have g2:=ZS n2 (.tup []);refine ⟨nn (zAB rfl),fun d nd'=>?_⟩;have g3:=ZS nd' (.lst [.int 0,.int 1,.str "1",.ref t1,.str "",.ref t2]);have gA:ZA H1 _:=(g1.trans g2).trans g3;have nd2:d≠p:=WY (W1.same (g1.trans g2)) nd';refine ⟨_,rfl,p,6,rfl,W1.same gA,Yz (by decide) (by decide),fun r H3 r0 r1 W3 s3=>?_⟩
 have tA:=s3.tupsW (W1.same gA);have sA:ZC p H H3:=(s1.trans (ZC.of gA)).trans s3;have k1:ZE H3 (.tup [.int 1]) (.ref t1):=.tup (tA _ _ (g3 _ _ (g2 _ _ ZN))) (.cons (.int 1) .nil);have k2:ZE H3 (.tup []) (.ref t2):=.tup (tA _ _ (g3 _ _ ZN)) .nil;have eL:H3 d=some (.lst [.int 0,.int 1,.str "1",.ref t1,.str "",.ref t2]):=s3 d _ ZN nd2;obtain ⟨v,av,mv⟩:=QR (xs:=[V.int 0,.int 1,.str "1",.ref t1,.str "",.ref t2]) r0 r1;refine .inl ⟨d,_,_,v,rfl,rfl,ZK.of eL,av,?_⟩;simp only [zAf,zBd,or_false] at mv;rcases mv with rfl | rfl | rfl | rfl | rfl | rfl
 ·exact q _ _ H3 (.int 0) (by decide +kernel) W3 sA
 ·exact q _ _ H3 (.int 1) (by decide +kernel) W3 sA
 ·exact q _ _ H3 (.str _) (by decide +kernel) W3 sA
 ·exact q _ _ H3 k1 (by decide +kernel) W3 sA
 ·exact q _ _ H3 (.str _) (by decide +kernel) W3 sA
 ·exact q _ _ H3 k2 (by decide +kernel) W3 sA
end
end Tw
namespace L2
open PySem PySem.Spec PyProof.Rows
section
variable{X:Cx}
theorem ZNL(hc:X.calm=true):Wr X (.builtin "sum") (fun xs H Q=>∃(p:Addr)(ns:List Int),xs=[.ref p]/\ZK X.K H p (ns.map V.int)/\Q (.int ns.sum) H):=by
 intro pins s σ H xs us Q I r h;obtain ⟨p,ns,rfl,hq,q⟩:=h;obtain ⟨u,rfl,ru⟩:=VI r;cases ru;obtain ⟨ji,rv,pl,hz⟩:=I.list hq;have hi:=Ir rv;obtain ⟨ys,e⟩:=hi.allInts.items;have hl:=pl.isList;rw [e] at hl;have en:ys.toList.map (·.1)=ns:=by
  rw [<-nums_intItems,<-e];exact hi.numsOf
 refine sum_intListG (I.ok.hd hc) hl fun h' tk t' hk=>⟨.int ns.sum,H,I.kept (t':=tk) hk,⟨t',?_⟩,q⟩;rw [preSum_eq,zAU (by simp),en]
end
end L2
namespace Tw
open PySem PySem.Spec L2 PyProof.Rows
theorem CJ:bootBuiltins "sum" = some (.builtin "sum"):=by decide +kernel
structure YL where
 h:Int
 lo:KT
 hi:KT
 m:Int
def YL.d:YL:=⟨0,.int 0,.int 0,0⟩
def YL.kt(L:YL):KT:=.tup [.int L.h,L.lo,L.hi,.int L.m]
def Yo(H:Hp)(L:YL)(u:V):Prop:=∃ a jM jQ,u=.ref a/\H a=some (.tup [.int L.h,jM,jQ,.int L.m])/\ZE H L.lo jM/\ZE H L.hi jQ
theorem Yo.mono{H H':Hp}{L:YL}{u:V}(x:Yo H L u)(m:Z6 H H'):Yo H' L u:=by
 obtain ⟨a,jM,jQ,e,e1,k1,k2⟩:=x;exact ⟨a,jM,jQ,e,m _ _ e1,k1.mono m _ _,k2.mono m _ _⟩
def YZ(H:Hp)(ls:List YL)(us:je):Prop:=us.length=ls.length/\∀ i u,us[i]? = some u->Yo H (ls.getD i .d) u
theorem YZ.mono{H H':Hp}{ls:List YL}{us:je}(x:YZ H ls us)(m:Z6 H H'):YZ H' ls us:=⟨x.1,fun i u e=>(x.2 i u e).mono m⟩
def YL.fit(L:YL):Prop:=L.lo.fits 3=true/\L.hi.fits 3=true
def Ui(a b:YL):Bool:=(a.h==b.h)&&a.hi.lt b.lo
def O8(ls:List YL):Bool:=(zAi (ls.length - 1)).all fun j=>Ui (ls.getD j .d) (ls.getD (j+1) .d)
def over(ls:List YL):Option YL:=if 2<=ls.length/\ls.length<=4/\O8 ls=true then some ⟨(ls.getD 0 .d).h+1,(ls.getD 0 .d).lo,(ls.getD (ls.length - 1) .d).hi,(ls.map YL.m).sum⟩ else none
theorem CI{ls:List YL}(h2:2<=ls.length)(h4:ls.length<=4)(h:∀ j,j<ls.length - 1->Ui (ls.getD j .d) (ls.getD (j+1) .d)=true):over ls=some ⟨(ls.getD 0 .d).h+1,(ls.getD 0 .d).lo,(ls.getD (ls.length - 1) .d).hi,(ls.map YL.m).sum⟩:=
 if_pos ⟨h2,h4,zAO.mpr fun j hj=>h j (zA7.mp hj)⟩
section
variable{P:Program}{w:World}{K:zAA}{mg:jb}{base:Heap}{f:Addr}{fd:FuncData}
inductive Va(vs:je)(H:Hp)(Q:VK)(_:XK):Prop
 | mk (v u:V) (a b:YL) (_:vs=[v,u]) (_:Yo H a v) (_:Yo H b u) (_:a.fit) (_:b.fit) (_:∀ H',ZA H H'->Q (.bl (Ui a b)) H')
theorem CN:ZD ["label","following"] ["label","following"] (Zg NW):=Zu
theorem BE(F:Zq K "stand_side_by_side" "stand_side_by_side" NW f fd)(T:YD mg)(DA:ZB P w K mg base 7 "ahead" ["one","other"] Ys):ZM P w K mg base ZU 8 f fd ["label","following"] Va:=by
 refine F.ok CN (fun vs H Q E h=>(by obtain ⟨_,_,_,_,rfl,_⟩:=h;rfl)) (fun cdv A outer s H vs Q E hr h=>?_)
 obtain ⟨v,u,a,b,rfl,ha,hb,fa,fb,k⟩:=h;obtain ⟨t0,m0⟩:=T.height;obtain ⟨t1,m1⟩:=T.least;obtain ⟨t2,m2⟩:=T.greatest;obtain ⟨pa,alo,ahi,rfl,ea,ka1,ka2⟩:=ha;obtain ⟨pb,blo,bhi,rfl,eb,kb1,kb2⟩:=hb;refine ⟨_,ZW (Zk (Pk (VG X9 (Zp (r:=YR K) Ya (pv 0) (WL (v:=.int 0) rfl m0 ⟨_,rfl⟩) (fun _ _=>rfl)) (Zp (r:=YR K) Ya (pv 1) (WL (v:=.int 0) rfl m0 ⟨_,rfl⟩) (fun _ _=>rfl)) (Zy _))
  (Os (Zh DA hr (ZG (Zp (r:=YR K) Ya (pv 0) (WL (v:=.int 2) rfl m2 ⟨_,rfl⟩) (fun _ _=>rfl)) (ZG (Zp (r:=YR K) Ya (pv 1) (WL (v:=.int 1) rfl m1 ⟨_,rfl⟩) (fun _ _=>rfl)) ZH)))))),?_⟩
 refine ⟨_,rfl,.inr (.inl ⟨pa,_,_,.int a.h,rfl,rfl,Zn.of ea,rfl,?_⟩)⟩;refine ⟨_,rfl,.inr (.inl ⟨pb,_,_,.int b.h,rfl,rfl,Zn.of eb,rfl,rfl,_,rfl,?_⟩)⟩;by_cases hh:a.h=b.h
 ·rw [decide_eq_true (by rw [hh])]
  refine Z9 ?_;refine ⟨_,rfl,.inr (.inl ⟨pa,_,_,ahi,rfl,rfl,Zn.of ea,rfl,?_⟩)⟩;refine ⟨_,rfl,.inr (.inl ⟨pb,_,_,blo,rfl,rfl,Zn.of eb,rfl,ahi,blo,a.hi,b.lo,rfl,ka2,kb1,fa.2,fb.1,fun H' s'=>?_⟩)⟩;have e:a.hi.lt b.lo=Ui a b:=by unfold Ui;rw [hh,beq_self_eq_true,zCO]
  rw [e];exact k H' s'
 ·rw [decide_eq_false (fun z=>hh (UC z))];refine Zr ?_;have e:false=Ui a b:=by unfold Ui;rw [beq_eq_false_iff_ne.mpr hh,zBr]
  rw [e];exact k H (ZA.refl H)
end
section
variable{P:Program}{w:World}{K:zAA}{mg:jb}{base:Heap}{f:Addr}{fd:FuncData}{jg jh CS CT CH:Addr}
theorem JQ{n:Int}(h:n.natAbs<10 ^ 60)(r:Nat):(KT.int n).fits r=true:=by rw [KT.fits];exact decide_eq_true h
theorem NH{H:Hp}{L:YL}{u:V}(h:ZE H L.kt u):Yo H L u:=by
 unfold YL.kt at h;rw [ZE] at h;obtain ⟨a,vs,rfl,ea,ks⟩:=h;rw [KeysAt] at ks;obtain ⟨v1,r1,rfl,k1,ks⟩:=ks;rw [KeysAt] at ks;obtain ⟨v2,r2,rfl,k2,ks⟩:=ks;rw [KeysAt] at ks;obtain ⟨v3,r3,rfl,k3,ks⟩:=ks;rw [KeysAt] at ks;obtain ⟨v4,r4,rfl,k4,ks⟩:=ks;rw [KeysAt] at ks;subst ks;rw [ZE] at k1 k4;subst k1 k4;exact ⟨a,v2,v3,rfl,ea,k2,k3⟩
theorem Ea:YL.d.fit:=⟨JQ (n:=0) (by decide) 3,JQ (n:=0) (by decide) 3⟩
def Ln(H:Hp)(ks:List KT)(us:je):Prop:=us.length=ks.length/\∀ i u,us[i]? = some u->∃ a vk vv,u=.ref a/\H a=some (.tup [vk,vv])/\ZE H (ks.getD i (.int 0)) vk
def OV(ks:List KT):KT:=.tup [.int 0,ks.getD 0 (.int 0),ks.getD (ks.length - 1) (.int 0),.int ks.length]
theorem Da{us:je}{u:V}(h:us[us.length - 1]? = some u):X8 us (-1)=some u:=by
 have jA:us≠[]:=fun z=>by rw [z] at h;simp at h
 have e:us=us.dropLast++[u]:=by
  have hg:us.getLast jA=u:=by
   rw [zDN];exact (zAK.mp h).2
  rw [<-hg,zC6]
 rw [e];exact Hn _ _
inductive XU(vs:je)(H:Hp)(Q:VK)(_:XK):Prop
 | mk (l:Addr) (us:je) (ks:List KT) (_:vs=[.ref l]) (_:H l=some (.lst us)) (_:Ln H ks us) (_:0<us.length) (_:∀(H':Hp)(v:V),ZA H H'->ZE H' (OV ks) v->Q v H')
theorem C1:ZD ["rows"] ["rows"] (Zg LT):=Zu
theorem Bu(F:Zq K "label_of_rows" "label_of_rows" LT f fd)(T:YD mg):ZM P w K mg base ZU 1 f fd ["rows"] XU:=by
 refine F.ok C1 (fun vs H Q E h=>(by obtain ⟨_,_,_,rfl,_⟩:=h;rfl)) (fun cdv A outer s H vs Q E hr h=>?_)
 obtain ⟨l,us,ks,rfl,hl,hk,h0,k⟩:=h;refine ⟨_,ZW (Zk (Yh (VH ZL (Zp (r:=YR K) Ya (Zp (r:=YR K) Ya (pv 0) ZL (fun _ _=>rfl)) ZL (fun _ _=>rfl))
  (Zp (r:=YR K) Ya (Zp (r:=YR K) Ya (pv 0) (QD U9 ZL) (fun _ _=>rfl)) ZL (fun _ _=>rfl)) (Z0 Xh rfl T.len XT (ZG (pv 0) ZH))))),?_⟩
 have u0:us[0]? = some us[0]:=zAE h0;have u1:us[us.length - 1]? = some (us[us.length - 1]'(by lia)):=zAE (by lia)
 obtain ⟨a,ak,av,ea,ta,ka⟩:=hk.2 0 _ u0;obtain ⟨b,bk,bv,eb,tb,kb⟩:=hk.2 _ _ u1;rw [ea] at u0;rw [eb] at u1;refine ⟨_,rfl,.inl ⟨l,us,_,.ref a,rfl,rfl,ZK.of hl,Xb (j:=0) u0,.inr (.inl ⟨a,_,_,ak,rfl,rfl,Zn.of ta,rfl,?_⟩)⟩⟩;refine ⟨_,rfl,1,rfl,.inl ⟨l,us,_,.ref b,rfl,rfl,ZK.of hl,Da u1,.inr (.inl ⟨b,_,_,bk,rfl,rfl,Zn.of tb,rfl,?_⟩)⟩⟩;refine ⟨_,rfl,l,us,rfl,.inl (ZK.of hl),nn (zAB rfl),fun p hp=>?_⟩;have g:=ZS hp (.tup [.int 0,ak,bk,.int us.length]);refine k _ _ g ?_;unfold OV;rw [<-hk.1];exact .tup ZN (.cons (.int _) (.cons (ka.mono (ZA.tups g) _ _) (.cons (kb.mono (ZA.tups g) _ _) (.cons (.int _) .nil))))
abbrev Yg:=KT×KT
def KD(r:Yg):KT:=.tup [r.1,r.2]
def YQ(rs:List Yg):List KT:=rs.map KD
def Yg.fit(r:Yg):Prop:=r.1.fits 3=true/\r.2.fits 3=true
structure ZT where
 h:Nat
 rows:List Yg
 bs:List Nat
def ZT.d:ZT:=⟨0,[],[]⟩
def gd(ts:List ZT)(i:Nat):ZT:=ts.getD i .d
theorem Xk{ts:List ZT}{i:Nat}(h:i<ts.length):ts[i]? = some (gd ts i):=by
 unfold gd;rw [zAC,zAE h];rfl
structure WE(gt:List KT)(ts:List ZT)(i:Nat)(t:ZT):Prop where
 ne:t.rows≠[]
 up:(t.rows.map (·.1)).Pairwise fun a b=>a.lt b=true
 inn:∀ r∈t.rows,r.fit
 leaf:t.h=0->t.bs=[]/\t.rows.length<=4
 stem:t.h≠0->2<=t.bs.length/\t.bs.length<=4/\(∀ b∈t.bs,b<i/\(gd ts b).h+1=t.h)/\t.rows=t.bs.flatMap fun b=>(gd ts b).rows
def WF(gt:List KT)(ts:List ZT):Prop:=∀ i t,ts[i]? = some t->WE gt ts i t
def kindOf(t:ZT):Str:=if t.h=0 then "leaf" else "stem"
theorem V2{H H':Hp}{a:Addr}{o:HO}(s:ZA H H')(n:H a=none):ZA H (upd H' a o):=fun b u e=>by rw [ZX (Zb e n)];exact s b u e
abbrev iN(l:List Nat):je:=l.map fun b=>V.int (b:Nat)
theorem Jy(a b:List Yg):YQ (a++b)=YQ a++YQ b:=zAV
def rd:Yg:=(.int 0,.int 0)
def YF(t:ZT):YL:=⟨t.h,(t.rows.getD 0 rd).1,(t.rows.getD (t.rows.length - 1) rd).1,t.rows.length⟩
theorem QA{H:Hp}{rs:List Yg}{us:je}{i:Nat}{u:V}(h:KeysAt H (YQ rs) us)(e:us[i]? = some u):∃ a vk vv,rs[i]? = some (rs.getD i rd)/\u=.ref a/\H a=some (.tup [vk,vv])/\ZE H (rs.getD i rd).1 vk/\ZE H (rs.getD i rd).2 vv:=by
 obtain ⟨t,et,kt⟩:=h.get e;unfold YQ at et;rw [zAM] at et;obtain ⟨r,er,rfl⟩:=zAa.mp et;have eg:rs.getD i rd=r:=by rw [zAC,er];rfl
 unfold KD at kt;rw [ZE] at kt;obtain ⟨a,vs,rfl,ha,hk⟩:=kt;rw [KeysAt] at hk;obtain ⟨v1,r1,rfl,k1,hk⟩:=hk;rw [KeysAt] at hk;obtain ⟨v2,r2,rfl,k2,hk⟩:=hk;rw [KeysAt] at hk;subst hk;rw [eg];exact ⟨a,v1,v2,er,rfl,ha,k1,k2⟩
theorem YZ.snoc{H:Hp}{ls:List YL}{us:je}{L:YL}{u:V}(h:YZ H ls us)(hu:Yo H L u):YZ H (ls++[L]) (us++[u]):=by
 refine ⟨by rw [zAI,zAI,h.1];rfl,fun i w e=>?_⟩
 rcases zAe i us.length with hi | hi
 ·rw [zA2 hi] at e;have:=h.2 i w e;rw [zAC] at this ⊢;rw [zA2 (by rw [<-h.1];exact hi)]
  exact this
 ·rw [zAv hi] at e;have hi0:i - us.length=0:=by
   rcases Nat.eq_zero_or_pos (i - us.length) with z | z
   ·exact z
   ·rw [zCU (by simp;lia)] at e;cases e
  rw [hi0] at e;simp at e;subst e;have ei:i=ls.length:=by have:=h.1;lia
  rw [zAC,ei];simp;exact hu
def inT(ts:List ZT)(x:Int):Bool:=decide (0<=x/\x<(ts.length:Int))
def LI(ls:List YL):Prop:=∀ j,j+1<ls.length->(ls.getD (j+1) .d).h=(ls.getD 0 .d).h/\(ls.getD j .d).hi.lt (ls.getD (j+1) .d).lo=true
theorem Ue{ls:List YL}:LI ls ↔ O8 ls=true:=by
 unfold LI O8 Ui;rw [zAO];constructor
 ·intro h j hj;have hj':j<ls.length - 1:=zA7.mp hj;obtain ⟨a,b⟩:=h j (by lia)
  rw [zAR];refine ⟨?_,b⟩;rw [beq_iff_eq,a]
  cases j with
  | zero=>rfl
  | succ j=>exact (h j (by lia)).1
 ·intro h;have hh:∀ j,j<ls.length->(ls.getD j .d).h=(ls.getD 0 .d).h:=fun j=>by
   induction j with
   | zero=>intro _;rfl
   | succ j ih=>
    intro hj;have:=h j (zA7.mpr (by lia))
    rw [zAR,beq_iff_eq] at this;rw [<-this.1];exact ih (by lia)
  intro j hj;have:=h j (zA7.mpr (by lia))
  rw [zAR] at this;exact ⟨hh (j+1) hj,this.2⟩
theorem Ms{gt:List KT}{ts:List ZT}{i:Nat}{t:ZT}(h:WE gt ts i t):(YF t).fit:=by
 have hp:0<t.rows.length:=List.length_pos_iff.mpr h.ne;have m0:t.rows.getD 0 rd∈t.rows:=by rw [zAC,zAE hp];exact zBE _
 have m1:t.rows.getD (t.rows.length - 1) rd∈t.rows:=by rw [zAC,zAE (show t.rows.length - 1<t.rows.length by lia)];exact zBE _
 exact ⟨(h.inn _ m0).1,(h.inn _ m1).1⟩
def Y5(ts:List ZT)(bs:List Nat):List YL:=bs.map fun b=>YF (gd ts b)
structure ZJ(P:Program)(w:World)(K:zAA)(mg:jb)(base:Heap)(CX:Ws)(k:Nat)(C:Addr)(m:Str)(ps:List Str)(sp:Sp):Prop where
 ex:∃ f fd,US K C m f/\ZM P w K mg base CX k f fd ps sp/\Zs K fd ps []
theorem Xf{X:Cx}{CX:Ws}{k:Nat}{C:Addr}{m:Str}{ps:List Str}{sp:Sp}{E:XK}{o e:Expr}{es:List Expr}{ta:TE}{t:TA}{pos jm:Pos}{pl:Sem Bool}(he:PE X o ta)(c:VR X.K C)(D:ZJ X.prog X.w X.K X.mg X.base CX k C m ps sp)(hr:ZY k X.A)(hx:UA CX X E)(ha:PA X (e :: es) t)(hst:starEach (e :: es) X.env=(false,eval e X.env) :: starEach es X.env:=by rfl)(jr:(backTo pos (starEach es X.env)).any (·.1)=false:=by rfl)(ht:eval (.Call (.Attribute o m jm) (e :: es) [] pos) X.env=(do
   let ov<-eval o X.env
   standAt jm.atName
   let (f,first)<-holding [ov] (getMethod ov m pl)
   callWith pos f first (backTo pos (starEach (e :: es) X.env)) (backToKw pos (keywordEach [] X.env))):=by rfl):
  PE X (.Call (.Attribute o m jm) (e :: es) [] pos) (OL C m sp [] E ta t):=by
 obtain ⟨f,fd,M,F,b⟩:=D.ex;exact FQ he c M F hr b .nil hx ha hst jr ht
theorem MQ{X:Cx}{CX:Ws}{k:Nat}{C:Addr}{m:Str}{ps:List Str}{sp:Sp}{E:XK}{o:Expr}{ta:TE}{pos jm:Pos}{pl:Sem Bool}(he:PE X o ta)(c:VR X.K C)(D:ZJ X.prog X.w X.K X.mg X.base CX k C m ps sp)(hr:ZY k X.A)(hx:UA CX X E)(ht:eval (.Call (.Attribute o m jm) [] [] pos) X.env=(do
   let ov<-eval o X.env
   standAt jm.atName
   let (f,first)<-holding [ov] (getMethod ov m pl)
   callWith pos f first (backTo pos (starEach [] X.env)) (backToKw pos (keywordEach [] X.env))):=by rfl):
  PE X (.Call (.Attribute o m jm) [] [] pos) (OL C m sp [] E ta V0):=by
 obtain ⟨f,fd,M,F,b⟩:=D.ex;exact ZKj he c M F hr b .nil hx ht
abbrev Lg:Stmt:=We (Zt 29) 0
abbrev Le:Stmt:=We (Zt 43) 0
abbrev Ma:Stmt:=We (Zt 43) 1
abbrev N9:Stmt:=We (Zt 43) 3
abbrev LO:Stmt:=We (Zt 43) 7
abbrev MO:Stmt:=We (Zt 43) 8
abbrev LP:Stmt:=We (Zt 43) 12
abbrev OP:Stmt:=We (Zt 43) 13
abbrev Oz:Stmt:=We (Zt 43) 18
structure Yt(K:zAA)(mg:jb)(jg jh:Addr):Prop where
 shelf:mg "Shelf" = some (.ref jg)
 twig:mg "Twig" = some (.ref jh)
 cS:VR K jg
 cT:VR K jh
 nk:Zx K jg "kept"
 nf:Zx K jg "following"
 nl:Zx K jg "looks"
 nth:Zx K jh "things"
 ntg:Zx K jh "tag"
 nab:Zx K jh "above"
 nho:Zx K jh "holds"
abbrev U3(d lk:Addr)(n:Nat):List (Str×V):=[("kept",.ref d),("following",.int n),("looks",.ref lk)]
abbrev UD(th tg:V)(ab:Addr)(ho:Nat):List (Str×V):=[("things",th),("tag",tg),("above",.ref ab),("holds",.int ho)]
structure Yy(jg:Addr)(H:Hp)(S d lk:Addr)(n:Nat)(kvs:List (ZZ×V))(ls:je):Prop where
 self:∃ dx,H S=some (.ins jg dx (U3 d lk n))
 kept:H d=some (.dK kvs)
 looks:H lk=some (.lst ls)
structure Xx(jh:Addr)(H:Hp)(x:Addr)(th tg:V)(ab:Addr)(ho:Nat)(us:je):Prop where
 self:∃ dx,H x=some (.ins jh dx (UD th tg ab ho))
 above:H ab=some (.lst us)
theorem Yy.same{jg:Addr}{H H':Hp}{S d lk:Addr}{n:Nat}{kvs:List (ZZ×V)}{ls:je}(h:Yy jg H S d lk n kvs ls)(s:ZA H H'):Yy jg H' S d lk n kvs ls:=by
 obtain ⟨⟨dx,e⟩,h2,h3⟩:=h;exact ⟨⟨dx,s _ _ e⟩,s _ _ h2,s _ _ h3⟩
theorem Xx.same{jh:Addr}{H H':Hp}{x:Addr}{th tg:V}{ab:Addr}{ho:Nat}{us:je}(h:Xx jh H x th tg ab ho us)(s:ZA H H'):Xx jh H' x th tg ab ho us:=by
 obtain ⟨⟨dx,e⟩,h2⟩:=h;exact ⟨⟨dx,s _ _ e⟩,s _ _ h2⟩
inductive Uc(jh:Addr)(vs:je)(H:Hp)(Q:VK)(_:XK):Prop
 | mk (x dx:Addr) (th tg:V) (_:vs=[.ref x,th,tg]) (_:H x=some (.ins jh dx [])) (_:∀(H':Hp)(ab:Addr),(∀ b o,b≠x->H b=some o->H' b=some o)->H ab=none->Xx jh H' x th tg ab 1 []->Q .non H')
theorem Cq:ZD ["self","things","tag"] ["self","things","tag"] (Zg Lg):=Zu
theorem ZNx(F:Zq K "__init__" "Twig.__init__" Lg f fd)(L:Yt K mg jg jh):ZM P w K mg base ZU 1 f fd ["self","things","tag"] (Uc jh):=by
 refine F.ok Cq (fun vs H Q E h=>(by obtain ⟨_,_,_,_,rfl,_⟩:=h;rfl)) (fun cdv A outer s H vs Q E hr h=>?_)
 obtain ⟨x,dx,th,tg,rfl,hx,k⟩:=h;refine ⟨_,ZQ (U7 (pv 0) (pv 1) rfl) (ZQ (U7 (pv 0) (pv 2) rfl) (ZQ (U7 (pv 0) (YM ZH) rfl) (ZW (U7 (pv 0) ZL rfl)))),?_⟩;refine ⟨_,rfl,_,rfl,x,jh,dx,_,rfl,hx,L.cT,L.nth,zAB rfl,?_⟩;refine ⟨_,rfl,_,rfl,x,jh,dx,_,rfl,ZN,L.cT,L.ntg,zAB rfl,?_⟩;refine ⟨nn (zAB rfl),fun ab hab=>?_⟩;rw [Oh] at hab ⊢;have xab:x≠ab:=fun z=>by rw [<-z,ZN] at hab;cases hab
 have nab:H ab=none:=by rw [ZX (Ne.symm xab)] at hab;exact hab
 refine ⟨_,rfl,x,jh,dx,_,rfl,(by rw [ZX xab];exact ZN),L.cT,L.nab,zAB rfl,?_⟩
 refine ⟨_,rfl,x,jh,dx,_,rfl,ZN,L.cT,L.nho,zAB rfl,?_⟩;refine k _ ab (fun b o n e=>?_) nab ⟨⟨dx,ZN⟩,?_⟩
 ·rw [Oh,ZX n,ZX (Zb e nab),ZX n];exact e
 ·rw [Oh,ZX (Ne.symm xab)];exact ZN
inductive UV(jg:Addr)(vs:je)(H:Hp)(Q:VK)(_:XK):Prop
 | mk (x dx:Addr) (_:vs=[.ref x]) (_:H x=some (.ins jg dx [])) (_:∀(H':Hp)(d lk:Addr),(∀ b o,b≠x->H b=some o->H' b=some o)->H d=none->H lk=none->d≠lk->Yy jg H' x d lk 0 [] []->Q .non H')
theorem ZOm:ZD ["self"] ["self"] (Zg Le):=Zu
theorem EZ(F:Zq K "__init__" "Shelf.__init__" Le f fd)(L:Yt K mg jg jh):ZM P w K mg base ZU 1 f fd ["self"] (UV jg):=by
 refine F.ok ZOm (fun vs H Q E h=>(by obtain ⟨_,_,rfl,_⟩:=h;rfl)) (fun cdv A outer s H vs Q E hr h=>?_)
 obtain ⟨x,dx,rfl,hx,k⟩:=h;refine ⟨_,ZQ (U7 (pv 0) Jv rfl) (ZQ (U7 (pv 0) ZL rfl) (ZW (U7 (pv 0) (YM ZH) rfl))),?_⟩;intro d hd;have xd:x≠d:=Zb hx hd;refine ⟨_,rfl,x,jg,dx,_,rfl,(by rw [ZX xd];exact hx),L.cS,L.nk,zAB rfl,?_⟩
 refine ⟨_,rfl,x,jg,dx,_,rfl,ZN,L.cS,L.nf,zAB rfl,?_⟩;refine ⟨nn (zAB rfl),fun lk js=>?_⟩;rw [Oh] at js ⊢;have xl:x≠lk:=fun z=>by rw [<-z,ZN] at js;cases js
 have hlk1:upd H d (.dK []) lk=none:=by rw [ZX (Ne.symm xl)] at js;exact js
 have dl:d≠lk:=fun z=>by rw [<-z,ZN] at hlk1;cases hlk1
 have nlk:H lk=none:=by rw [ZX (Ne.symm dl)] at hlk1;exact hlk1
 refine ⟨_,rfl,x,jg,dx,_,rfl,(by rw [ZX xl];exact ZN),L.cS,L.nl,zAB rfl,?_⟩
 refine k _ d lk (fun b o n e=>?_) hd nlk dl ⟨⟨dx,ZN⟩,?_,?_⟩
 ·rw [ZX n,ZX (Zb e nlk),ZX n,ZX (Zb e hd)];exact e
 ·rw [ZX (Ne.symm xd),ZX dl,ZX (Ne.symm xd)];exact ZN
 ·rw [ZX (Ne.symm xl)];exact ZN
inductive Z4(jg:Addr)(vs:je)(H:Hp)(Q:VK)(_:XK):Prop
 | mk (S d lk:Addr) (n:Nat) (kvs:List (ZZ×V)) (ls:je) (i:Int) (tw:V) (_:vs=[.ref S,.int i]) (_:Yy jg H S d lk n kvs ls) (_:YJ kvs (.inl i)=some tw) (_:Q tw H)
theorem HF:ZD ["self","number"] ["self","number"] (Zg Oz):=Zu
theorem Fg(F:Zq K "twig_of" "Shelf.twig_of" Oz f fd)(L:Yt K mg jg jh):ZM P w K mg base ZU 1 f fd ["self","number"] (Z4 jg):=by
 refine F.ok HF (fun vs H Q E h=>(by obtain ⟨_,_,_,_,_,_,_,_,rfl,_⟩:=h;rfl)) (fun cdv A outer s H vs Q E hr h=>?_)
 obtain ⟨S,d,lk,n,kvs,ls,i,tw,rfl,⟨⟨dx,hS⟩,hd,hl⟩,hv,k⟩:=h;have hu:=Qt hr;refine ⟨_,ZQ (Z1 (Qr (Mw hu (pv 1) (WU (pv 0) rfl))) Qc Z8) (ZW (Zk (Ph hu (WU (pv 0) rfl) (pv 1) (fun _ _=>rfl)))),?_⟩;have hg:Yd H d (.int i) (some tw):=hv ▸ Yd.k (k:=Sum.inl i) hd;refine ⟨_,rfl,_,rfl,S,jg,dx,_,.ref d,rfl,hS,L.cS,L.nk,rfl,d,some tw,rfl,hg,_,rfl,Zr ?_⟩;exact ⟨_,rfl,S,jg,dx,_,.ref d,rfl,hS,L.cS,L.nk,rfl,_,rfl,d,tw,rfl,hg,k⟩
structure V6(P:Program)(w:World)(K:zAA)(mg:jb)(base:Heap)(k:Nat)(C:Addr)(ps:List Str)(sp:Sp):Prop where
 ex:∃ f fd,Mk K C f/\ZM P w K mg base ZU k f fd ps sp/\Zs K fd ps []
structure Wt(jg jh:Addr)(H:Hp)(S d lk:Addr)(n:Nat)(kvs:List (ZZ×V))(ls:je)(i:Int)(x:Addr)(th tg:V)(ab:Addr)(ho:Nat)(us:je):Prop where
 sh:Yy jg H S d lk n kvs ls
 val:YJ kvs (.inl i)=some (.ref x)
 tw:Xx jh H x th tg ab ho us
theorem Wt.same{jg jh:Addr}{H H':Hp}{S d lk:Addr}{n:Nat}{kvs:List (ZZ×V)}{ls:je}{i:Int}{x:Addr}{th tg:V}{ab:Addr}{ho:Nat}{us:je}(h:Wt jg jh H S d lk n kvs ls i x th tg ab ho us)(s:ZA H H'):Wt jg jh H' S d lk n kvs ls i x th tg ab ho us:=⟨h.sh.same s,h.val,h.tw.same s⟩
inductive WG(jg jh:Addr)(res:V->Nat->je->V)(vs:je)(H:Hp)(Q:VK)(_:XK):Prop
 | mk (S d lk:Addr) (n:Nat) (kvs:List (ZZ×V)) (ls:je) (i:Int) (x:Addr) (th tg:V) (ab:Addr) (ho:Nat) (us:je) (_:vs=[.ref S,.int i]) (_:Wt jg jh H S d lk n kvs ls i x th tg ab ho us) (_:Q (res tg ho us) H)
theorem Cc:ZD ["self","number"] ["self","number"] (Zg MO):=Zu
theorem GI(F:Zq K "outside" "Shelf.outside" MO f fd)(L:Yt K mg jg jh)(DT:ZJ P w K mg base ZU 1 jg "twig_of" ["self","number"] (Z4 jg)):ZM P w K mg base ZU 2 f fd ["self","number"] (WG jg jh fun _ ho _=>.int ho):=by
 refine F.ok Cc (fun vs H Q E h=>(by obtain ⟨_,_,_,_,_,_,_,_,_,_,_,_,_,rfl,_⟩:=h;rfl)) (fun cdv A outer s H vs Q E hr h=>?_)
 obtain ⟨S,d,lk,n,kvs,ls,i,x,th,tg,ab,ho,us,rfl,R,k⟩:=h;refine ⟨_,ZW (Zk (WU (Xf (E:=E0) (pv 0) L.cS DT hr XE (ZG (pv 1) ZH)) rfl)),?_⟩;obtain ⟨dx,hS⟩:=R.sh.self;obtain ⟨dt,hx⟩:=R.tw.self;exact ⟨_,rfl,S,dx,_,rfl,hS,rfl,_,rfl,S,d,lk,n,kvs,ls,i,.ref x,rfl,R.sh,R.val,x,jh,dt,_,.int ho,rfl,hx,L.cT,L.nho,rfl,k⟩
theorem Ja:ZD ["self","number"] ["self","number"] (Zg OP):=Zu
theorem E7(F:Zq K "label" "Shelf.label" OP f fd)(L:Yt K mg jg jh)(DT:ZJ P w K mg base ZU 1 jg "twig_of" ["self","number"] (Z4 jg)):ZM P w K mg base ZU 2 f fd ["self","number"] (WG jg jh fun tg _ _=>tg):=by
 refine F.ok Ja (fun vs H Q E h=>(by obtain ⟨_,_,_,_,_,_,_,_,_,_,_,_,_,rfl,_⟩:=h;rfl)) (fun cdv A outer s H vs Q E hr h=>?_)
 obtain ⟨S,d,lk,n,kvs,ls,i,x,th,tg,ab,ho,us,rfl,R,k⟩:=h;refine ⟨_,ZW (Zk (WU (Xf (E:=E0) (pv 0) L.cS DT hr XE (ZG (pv 1) ZH)) rfl)),?_⟩;obtain ⟨dx,hS⟩:=R.sh.self;obtain ⟨dt,hx⟩:=R.tw.self;exact ⟨_,rfl,S,dx,_,rfl,hS,rfl,_,rfl,S,d,lk,n,kvs,ls,i,.ref x,rfl,R.sh,R.val,x,jh,dt,_,tg,rfl,hx,L.cT,L.ntg,rfl,k⟩
theorem WI:ZD ["self","number","twig"] ["self","number"] (Zg LO):=Zu
theorem C8(F:Zq K "holders" "Shelf.holders" LO f fd)(T:YD mg)(L:Yt K mg jg jh)(DT:ZJ P w K mg base ZU 1 jg "twig_of" ["self","number"] (Z4 jg)):ZM P w K mg base ZU 2 f fd ["self","number"] (WG jg jh fun _ ho us=>.int ((us.length:Nat)+(ho:Nat):Int)):=by
 refine F.ok WI (fun vs H Q E h=>(by obtain ⟨_,_,_,_,_,_,_,_,_,_,_,_,_,rfl,_⟩:=h;rfl)) (fun cdv A outer s H vs Q E hr h=>?_)
 obtain ⟨S,d,lk,n,kvs,ls,i,x,th,tg,ab,ho,us,rfl,R,k⟩:=h;have nd:=WI.nd;refine ⟨_,ZQ (Zj 2 nd (Xf (E:=E0) (pv 0) L.cS DT hr XE (ZG (pv 1) ZH))) (ZW (Zk (Zo Xn (Z0 Xh rfl T.len XT (ZG (WU (pv 2) rfl) ZH)) (WU (pv 2) rfl)))),?_⟩;obtain ⟨dx,hS⟩:=R.sh.self;obtain ⟨dt,hx⟩:=R.tw.self;refine ⟨_,rfl,S,dx,_,rfl,hS,rfl,_,rfl,S,d,lk,n,kvs,ls,i,.ref x,rfl,R.sh,R.val,?_⟩;exact ⟨_,rfl,x,jh,dt,_,.ref ab,rfl,hx,L.cT,L.nab,rfl,ab,us,rfl,.inl (ZK.of R.tw.above),_,rfl,x,jh,dt,_,.int ho,rfl,hx,L.cT,L.nho,rfl,_,_,rfl,rfl,k⟩
inductive Wf(jh:Addr)(vs:je)(H:Hp)(Q:VK)(_:XK):Prop
 | mk (x:Addr) (th:V) (tg ab:Addr) (ho:Nat) (us:je) (h:Int) (xs:je) (_:vs=[.ref x]) (_:Xx jh H x th (.ref tg) ab ho us) (_:H tg=some (.tup (.int h :: xs))) (_:Q (.bl (decide (h > 0))) H)
theorem Gs:ZD ["twig"] ["twig"] (Zg LB):=Zu
theorem Eb(F:Zq K "is_stem" "is_stem" LB f fd)(T:YD mg)(L:Yt K mg jg jh):ZM P w K mg base ZU 1 f fd ["twig"] (Wf jh):=by
 refine F.ok Gs (fun vs H Q E h=>(by obtain ⟨_,_,_,_,_,_,_,_,rfl,_⟩:=h;rfl)) (fun cdv A outer s H vs Q E hr h=>?_)
 obtain ⟨x,th,tg,ab,ho,us,hh,xs,rfl,W,ht,k⟩:=h;obtain ⟨t0,m0⟩:=T.height;obtain ⟨dt,hx⟩:=W.self;refine ⟨_,ZW (Zk (VG QW (Zp (r:=YR K) Ya (WU (pv 0) rfl) (WL (v:=.int 0) rfl m0 ⟨_,rfl⟩) (fun _ _=>rfl)) ZL (Zy _))),?_⟩;exact ⟨_,rfl,x,jh,dt,_,.ref tg,rfl,hx,L.cT,L.ntg,rfl,.inr (.inl ⟨tg,_,_,.int hh,rfl,rfl,Zn.of ht,Xb (j:=0) rfl,_,_,rfl,rfl,k⟩)⟩
inductive VN(jg jh:Addr)(vs:je)(H:Hp)(Q:VK)(_:XK):Prop
 | mk (S d lk:Addr) (n:Nat) (kvs:List (ZZ×V)) (ls:je) (i:Int) (x tl tg ab:Addr) (ho:Nat) (as us xs:je) (h:Int) (_:vs=[.ref S,.int i]) (_:Wt jg jh H S d lk n kvs ls i x (.ref tl) (.ref tg) ab ho as) (_:H tl=some (.lst us)) (_:H tg=some (.tup (.int h :: xs))) (_:lk≠tl) (_:lk≠ab) (_:ls.length<=900) (_:∀(H':Hp)(l' t:Addr),(∀ b o,b≠lk->H b=some o->H' b=some o)->H' lk=some (.lst (ls++[.int i]))->H l'=none->H' l'=some (.lst us)->H' t=some (.tup [.str (if h > 0 then "stem" else "leaf"),.ref l'])->Q (.ref t) H')
theorem UW:ZD ["self","number","twig"] ["self","number"] (Zg LP):=Zu
theorem Dc(F:Zq K "look" "Shelf.look" LP f fd)(T:YD mg)(L:Yt K mg jg jh)(DT:ZJ P w K mg base ZU 1 jg "twig_of" ["self","number"] (Z4 jg))(DS:ZB P w K mg base 1 "is_stem" ["twig"] (Wf jh)):ZM P w K mg base ZU 2 f fd ["self","number"] (VN jg jh):=by
 refine F.ok UW (fun vs H Q E h=>(by obtain ⟨_,_,_,_,_,_,_,_,_,_,_,_,_,_,_,_,rfl,_⟩:=h;rfl)) (fun cdv A outer s H vs Q E hr h=>?_)
 obtain ⟨S,d,lk,n,kvs,ls,i,x,tl,tg,ab,ho,as,us,xs,hh,rfl,R,htl,htg,ltl,lab,l900,k⟩:=h;have nd:=UW.nd;refine ⟨_,ZQ (Zj 2 nd (Xf (E:=E0) (pv 0) L.cS DT hr XE (ZG (pv 1) ZH)))
  (ZQ (WP (UX zAr zAt zAs UH (WU (pv 0) rfl) (ZG (pv 1) ZH)))
  (ZQ (Z1 (Xo (Zh DS hr (ZG (pv 2) ZH))) (ZW (Zk (Yh (ZG X3 (ZG (WA UJ rfl T.list UK (ZG (WU (pv 2) rfl) ZH)) ZH))))) Z8)
  (ZW (Zk (Yh (ZG X3 (ZG (WA UJ rfl T.list UK (ZG (WU (pv 2) rfl) ZH)) ZH))))))),?_⟩
 obtain ⟨dx,hS⟩:=R.sh.self;obtain ⟨dt,hx⟩:=R.tw.self;refine ⟨_,rfl,S,dx,_,rfl,hS,rfl,_,rfl,S,d,lk,n,kvs,ls,i,.ref x,rfl,R.sh,R.val,?_⟩;have js:=R.sh.looks;refine ⟨_,rfl,S,jg,dx,_,.ref lk,rfl,hS,L.cS,L.nl,rfl,.inl ⟨rfl,_,ZK.of js⟩,_,rfl,lk,ls,.int i,rfl,rfl,js,Yp (by lia),?_⟩
 have ke:∀ b o,b≠lk->H b=some o->upd H lk (.lst (ls++[.int i])) b=some o:=fun b o n e=>by rw [ZX n];exact e
 have xlk:x≠lk:=ZV hx js;have tglk:tg≠lk:=ZV htg js;have hx1:=ke _ _ xlk hx;have htg1:=ke _ _ tglk htg;have hab1:=ke _ _ (Ne.symm lab) R.tw.above;have htl1:=ke _ _ (Ne.symm ltl) htl;have hlk1:upd H lk (.lst (ls++[.int i])) lk=some (.lst (ls++[.int i])):=ZN;have fin:∀(w:Str)(l' t:Addr),upd H lk (.lst (ls++[.int i])) l'=none->upd (upd H lk (.lst (ls++[.int i]))) l' (.lst us) t=none->w=(if hh > 0 then ("stem" : Str) else "leaf")->Q (.ref t) (upd (upd (upd H lk (.lst (ls++[.int i]))) l' (.lst us)) t (.tup [.str w,.ref l'])):=fun w l' t hl' ht ew=>by
  have g1:=ZS hl' (.lst us);have g2:=ZS ht (.tup [.str w,.ref l']);have g:=g1.trans g2;have nl':H l'=none:=by
   cases z:H l' with
   | none=>rfl
   | some o=>
    have:l'≠lk:=fun y=>by rw [y,ZN] at hl';cases hl'
    rw [ZX this,z] at hl';cases hl'
  refine k _ l' t (fun b o n e=>g _ _ (ke b o n e)) (g _ _ hlk1) nl' (g2 _ _ ZN) ?_;rw [ZN,ew]
 refine ⟨_,rfl,x,.ref tl,tg,ab,ho,as,hh,xs,rfl,⟨⟨dt,hx1⟩,hab1⟩,htg1,_,rfl,?_⟩;by_cases hp:hh > 0
 ·rw [decide_eq_true hp];refine Z9 ⟨_,rfl,x,jh,dt,_,.ref tl,rfl,hx1,L.cT,L.nth,rfl,tl,us,rfl,.inl (ZK.of htl1),fun l' hl'=>⟨nn (zAB rfl),fun t ht=>?_⟩⟩;exact fin _ l' t hl' ht (by rw [if_pos hp])
 ·rw [decide_eq_false hp];refine Zr ⟨_,rfl,x,jh,dt,_,.ref tl,rfl,hx1,L.cT,L.nth,rfl,tl,us,rfl,.inl (ZK.of htl1),fun l' hl'=>⟨nn (zAB rfl),fun t ht=>?_⟩⟩;exact fin _ l' t hl' ht (by rw [if_neg hp])
structure XN(P:Program)(w:World)(K:zAA)(mg:jb)(base:Heap)(nm:Str)(C:Addr):Prop where
 ex:∃ fI fd,WX K C fI "number" /\ ZM P w K mg base ZU 1 fI fd ["self","number"] (On K C fI "number")/\Zs K fd ["self","number"] []
 at_:mg nm=some (.ref C)
 ty:zBA K (.ref C)=some (.type "type")
theorem Ei{X:Cx}{E:XK}{nm:Str}{C:Addr}{e:Expr}{es:List Expr}{t:TA}{p jk pos:Pos}(F:Vq X E)(N:XN X.prog X.w X.K X.mg X.base nm C)(hr:ZY 2 X.A)(ha:PA X (e :: es) t)(hg:Gl X nm)(jx:(nm==("__debug__" : Str))=false:=by decide)(he:starEach (e :: es) X.env=(false,eval e X.env) :: starEach es X.env:=by rfl)(jr:(backTo jk (starEach es X.env)).any (·.1)=false:=by rfl):PS X (.Raise (some (.Call (.Name nm p) (e :: es) [] jk)) none pos) (HX C "number" E t):=by
 obtain ⟨fI,fd,c,G,b⟩:=N.ex;exact ZJm F c N.ty G hr hg N.at_ b ha jx he jr
def Pa(C:Addr)(x:Int)(E:XK)(H:Hp):Prop:=∀ dx H',ZA H H'->H' dx=some (.xd [("number",.int x)])->E (.ref C) (some dx) H'
theorem Pa.go{C:Addr}{x:Int}{E:XK}{H H1:Hp}(r:Pa C x E H)(s:ZA H H1){dx:Addr}(h:H1 dx=none):E (.ref C) (some dx) (upd H1 dx (.xd [("number",.int x)])):=r dx _ (s.trans (ZS h _)) ZN
inductive XY(jg CT:Addr)(vs:je)(H:Hp)(Q:VK)(E:XK):Prop
 | mk (S d lk:Addr) (n:Nat) (kvs:List (ZZ×V)) (ls:je) (x:Int) (_:vs=[.ref S,.int x]) (_:Yy jg H S d lk n kvs ls) (_:∀ tw,YJ kvs (.inl x)=some tw->Q tw H) (_:YJ kvs (.inl x)=none->Pa CT x E H)
theorem Dv{CT:Addr}(F:Zq K "twig_of" "Shelf.twig_of" Oz f fd)(L:Yt K mg jg jh)(N:XN P w K mg base "NoTwig" CT):ZM P w K mg base (WO P w) 3 f fd ["self","number"] (XY jg CT):=by
 refine F.okD HF (fun vs H Q E h=>(by obtain ⟨_,_,_,_,_,_,_,rfl,_⟩:=h;rfl)) (fun cdv A outer s H vs Q E hr h=>?_)
 obtain ⟨S,d,lk,n,kvs,ls,x,rfl,⟨⟨dx,hS⟩,hd,hl⟩,k1,k2⟩:=h;have hu:=Qt hr;refine ⟨_,ZQ (Z1 (Qr (Mw hu (pv 1) (WU (pv 0) rfl))) (ZW (Ei PU N hr (ZG (pv 1) ZH) rfl)) Z8) (ZW (Zk (Ph hu (WU (pv 0) rfl) (pv 1) (fun _ _=>rfl)))),?_⟩
 cases hv:YJ kvs (.inl x) with
 | none=>
  have hg:Yd H d (.int x) none:=hv ▸ Yd.k (k:=Sum.inl x) hd;refine ⟨_,rfl,_,rfl,S,jg,dx,_,.ref d,rfl,hS,L.cS,L.nk,rfl,d,none,rfl,hg,_,rfl,Z9 ?_⟩;exact ⟨_,rfl,_,rfl,fun dd hdd=>(k2 hv).go (ZA.refl H) hdd⟩
 | some tw=>
  have hg:Yd H d (.int x) (some tw):=hv ▸ Yd.k (k:=Sum.inl x) hd;refine ⟨_,rfl,_,rfl,S,jg,dx,_,.ref d,rfl,hS,L.cS,L.nk,rfl,d,some tw,rfl,hg,_,rfl,Zr ?_⟩;exact ⟨_,rfl,S,jg,dx,_,.ref d,rfl,hS,L.cS,L.nk,rfl,_,rfl,d,tw,rfl,hg,k1 tw hv⟩
inductive X4(jg jh CT:Addr)(vs:je)(H:Hp)(Q:VK)(E:XK):Prop
 | mk (S d lk:Addr) (n:Nat) (kvs:List (ZZ×V)) (ls:je) (x:Int) (_:vs=[.ref S,.int x]) (_:Yy jg H S d lk n kvs ls) (_:∀ tw,YJ kvs (.inl x)=some tw->∃(a:Addr)(th tg:V)(ab:Addr)(ho:Nat)(us:je),tw=.ref a/\Xx jh H a th tg ab ho us/\Q tg H) (_:YJ kvs (.inl x)=none->Pa CT x E H)
theorem DQ{CT:Addr}(F:Zq K "label" "Shelf.label" OP f fd)(L:Yt K mg jg jh)(DT:ZJ P w K mg base (WO P w) 3 jg "twig_of" ["self","number"] (XY jg CT)):ZM P w K mg base (WO P w) 4 f fd ["self","number"] (X4 jg jh CT):=by
 refine F.okD Ja (fun vs H Q E h=>(by obtain ⟨_,_,_,_,_,_,_,rfl,_⟩:=h;rfl)) (fun cdv A outer s H vs Q E hr h=>?_)
 obtain ⟨S,d,lk,n,kvs,ls,x,rfl,R,k1,k2⟩:=h;refine ⟨_,ZW (Zk (WU (Xf (E:=E) (pv 0) L.cS DT hr (LM PU fun _ _ _ h=>h) (ZG (pv 1) ZH)) rfl)),?_⟩;obtain ⟨dx,hS⟩:=R.self;refine ⟨_,rfl,S,dx,_,rfl,hS,rfl,_,rfl,S,d,lk,n,kvs,ls,x,rfl,R,fun tw hv=>?_,k2⟩;obtain ⟨a,th,tg,ab,ho,us,rfl,W,q⟩:=k1 tw hv;obtain ⟨dt,hx⟩:=W.self;exact ⟨a,jh,dt,_,tg,rfl,hx,L.cT,L.ntg,rfl,q⟩
structure Z5 where
 x:Addr
 th:Addr
 tg:Addr
 ab:Addr
def Z5.d:Z5:=⟨0,0,0,0⟩
structure Qa(jh:Addr)(H:Hp)(ts:List ZT)(av:Nat->List Nat)(ho:Nat->Nat)(i:Nat)(a:Z5):Prop where
 tw:Xx jh H a.x (.ref a.th) (.ref a.tg) a.ab (ho i) (iN (av i))
 things:∃ us,H a.th=some (.lst us)/\((gd ts i).h=0->KeysAt H (YQ (gd ts i).rows) us)/\((gd ts i).h≠0->us=iN (gd ts i).bs)
 tag:Yo H (YF (gd ts i)) (.ref a.tg)
theorem Qa.same{jh:Addr}{H H':Hp}{ts:List ZT}{av:Nat->List Nat}{ho:Nat->Nat}{i:Nat}{a:Z5}(h:Qa jh H ts av ho i a)(s:ZA H H'):Qa jh H' ts av ho i a:=by
 obtain ⟨us,e1,e2,e3⟩:=h.things;exact ⟨h.tw.same s,⟨us,s _ _ e1,fun z=>(e2 z).mono (ZA.tups s) _ _,e3⟩,h.tag.mono (ZA.tups s)⟩
structure YT(jg jh:Addr)(H:Hp)(S d lk:Addr)(ts:List ZT)(av:Nat->List Nat)(ho:Nat->Nat)(as:List Z5)(kvs:List (ZZ×V))(ls:je):Prop where
 sh:Yy jg H S d lk ts.length kvs ls
 keys:kvs.map (·.1)=(zAi ts.length).map (fun i:Nat=>(Sum.inl (i:Int):ZZ))
 val:∀ i:Nat,i<ts.length->YJ kvs (Sum.inl (i:Int))=some (.ref (as.getD i .d).x)
 len:as.length=ts.length
 tw:∀ i:Nat,i<ts.length->Qa jh H ts av ho i (as.getD i .d)
 own:∀ i:Nat,i<ts.length->(as.getD i .d).x≠S/\(as.getD i .d).ab≠lk/\(as.getD i .d).th≠lk/\(as.getD i .d).ab≠(as.getD i .d).th
 two:∀ i j:Nat,i<ts.length->j<ts.length->i≠j->(as.getD i .d).x≠(as.getD j .d).x/\(as.getD i .d).ab≠(as.getD j .d).ab/\(as.getD i .d).ab≠(as.getD j .d).th/\(as.getD i .d).th≠(as.getD j .d).th
theorem YT.same{jg jh:Addr}{H H':Hp}{S d lk:Addr}{ts:List ZT}{av:Nat->List Nat}{ho:Nat->Nat}{as:List Z5}{kvs:List (ZZ×V)}{ls:je}(h:YT jg jh H S d lk ts av ho as kvs ls)(s:ZA H H'):YT jg jh H' S d lk ts av ho as kvs ls:=
 ⟨h.sh.same s,h.keys,h.val,h.len,fun i hi=>(h.tw i hi).same s,h.own,h.two⟩
theorem Qa.frame{jh:Addr}{H H':Hp}{ts:List ZT}{av:Nat->List Nat}{ho:Nat->Nat}{i:Nat}{a:Z5}(h:Qa jh H ts av ho i a)(m:Z6 H H')(kx:∀ o,H a.x=some o->H' a.x=some o)(kt:∀ o,H a.th=some o->H' a.th=some o)(ka:∀ o,H a.ab=some o->H' a.ab=some o):Qa jh H' ts av ho i a:=by
 obtain ⟨us,e1,e2,e3⟩:=h.things;obtain ⟨dx,e4⟩:=h.tw.self;exact ⟨⟨⟨dx,kx _ e4⟩,ka _ h.tw.above⟩,⟨us,kt _ e1,fun z=>(e2 z).mono m _ _,e3⟩,h.tag.mono m⟩
theorem YT.none{jg jh:Addr}{H:Hp}{S d lk:Addr}{ts:List ZT}{av:Nat->List Nat}{ho:Nat->Nat}{as:List Z5}{kvs:List (ZZ×V)}{ls:je}(h:YT jg jh H S d lk ts av ho as kvs ls){x:Int}(hx:inT ts x=false):YJ kvs (Sum.inl x)=zCw:=by
 cases z:YJ kvs (Sum.inl x) with
 | none=>rfl
 | some v=>
  have:=Hw z;rw [h.keys] at this;obtain ⟨i,hi,ei⟩:=zAb.mp this;have e1:=Sum.inl.inj ei;have e2:=zA7.mp hi;unfold inT at hx;have:=of_decide_eq_false hx
  lia
theorem LZ{ts:List ZT}{x:Int}(h:inT ts x=true):∃ i:Nat,x=(i:Int)/\i<ts.length:=by
 unfold inT at h;have:=of_decide_eq_true h;exact ⟨x.toNat,by lia,by lia⟩
def Pp(av:Nat->List Nat)(b st:Nat):Nat->List Nat:=fun i=>if i=b then av i++[st] else av i
def P5(ho:Nat->Nat)(b:Nat):Nat->Nat:=fun i=>if i=b then ho i - 1 else ho i
theorem YT.touch{jg jh:Addr}{H H':Hp}{S d lk:Addr}{ts:List ZT}{av:Nat->List Nat}{ho:Nat->Nat}{as:List Z5}{kvs:List (ZZ×V)}{ls:je}(R:YT jg jh H S d lk ts av ho as kvs ls){b st:Nat}(hb:b<ts.length)(hx:∃ dx,H' (as.getD b .d).x=some (.ins jh dx (UD (.ref (as.getD b .d).th) (.ref (as.getD b .d).tg) (as.getD b .d).ab (ho b - 1))))(ha:H' (as.getD b .d).ab=some (.lst (iN (av b++[st]))))(k:∀ c o,c≠(as.getD b .d).x->c≠(as.getD b .d).ab->H c=some o->H' c=some o):YT jg jh H' S d lk ts (Pp av b st) (P5 ho b) as kvs ls:=by
 obtain ⟨⟨dS,hS⟩,hd,hl⟩:=R.sh;have Wb:=R.tw b hb;obtain ⟨dx0,hx0⟩:=Wb.tw.self;have hab:=Wb.tw.above;obtain ⟨us,e1,e2,e3⟩:=Wb.things;have m:Z6 H H':=fun c xs e=>k c _ (ZV e hx0) (ZV e hab) e;refine ⟨⟨⟨dS,k _ _ (R.own b hb).1.symm (ZV hS hab) hS⟩,k _ _ (ZV hd hx0) (ZV hd hab) hd,k _ _ (ZV hl hx0) (R.own b hb).2.1.symm hl⟩,R.keys,R.val,R.len,fun i hi=>?_,R.own,R.two⟩;by_cases z:i=b
 ·subst z;have ea:Pp av i st i=av i++[st]:=if_pos rfl;have eh:P5 ho i i=ho i - 1:=if_pos rfl;refine ⟨⟨?_,?_⟩,⟨us,k _ _ (ZV e1 hx0) (R.own i hi).2.2.2.symm e1,fun z=>(e2 z).mono m _ _,e3⟩,Wb.tag.mono m⟩
  ·rw [eh];exact hx
  ·rw [ea];exact ha
 ·have ea:Pp av b st i=av i:=if_neg z;have eh:P5 ho b i=ho i:=if_neg z;have Wi:=R.tw i hi;obtain ⟨t1,t2,t3,t4⟩:=R.two i b hi hb z;obtain ⟨s1,s2,s3,s4⟩:=R.two b i hb hi (Ne.symm z);obtain ⟨dx1,hx1⟩:=Wi.tw.self;obtain ⟨vs,f1,_⟩:=Wi.things;have G:=Wi.frame m (fun o e=>k _ _ t1 (by have:=hx1.symm.trans e;exact ZV hx1 hab) e) (fun o e=>k _ _ (ZV f1 hx0) s3.symm e) (fun o e=>k _ _ (ZV Wi.tw.above hx0) t2 e)
  refine ⟨?_,G.things,G.tag⟩;rw [ea,eh];exact G.tw
def Ua(bs:List Nat)(st:Nat)(av:Nat->List Nat):Nat->List Nat:=fun i=>if i∈bs then av i++[st] else av i
def UL(bs:List Nat)(ho:Nat->Nat):Nat->Nat:=fun i=>if i∈bs then ho i - 1 else ho i
theorem ZKQ{bs:List Nat}{b st:Nat}{av:Nat->List Nat}(h:b∉bs):Pp (Ua bs st av) b st=Ua (bs++[b]) st av:=by
 funext i
 unfold Pp Ua;by_cases z:i=b
 ·subst z;rw [if_pos rfl,if_neg h,if_pos (by simp)]
 ·rw [if_neg z];by_cases y:i∈bs
  ·rw [if_pos y,if_pos (by simp [y])]
  ·rw [if_neg y,if_neg (by simp [y,z])]
theorem Bo{bs:List Nat}{b:Nat}{ho:Nat->Nat}(h:b∉bs):P5 (UL bs ho) b=UL (bs++[b]) ho:=by
 funext i
 unfold P5 UL;by_cases z:i=b
 ·subst z;rw [if_pos rfl,if_neg h,if_pos (by simp)]
 ·rw [if_neg z];by_cases y:i∈bs
  ·rw [if_pos y,if_pos (by simp [y])]
  ·rw [if_neg y,if_neg (by simp [y,z])]
abbrev MF:Stmt:=We (Zt 43) 21
inductive XC(jg jh:Addr)(vs:je)(H:Hp)(Q:VK)(_:XK):Prop
 | mk (S d lk l:Addr) (ts:List ZT) (av:Nat->List Nat) (ho:Nat->Nat) (as:List Z5) (kvs:List (ZZ×V)) (ls:je) (bs:List Nat) (st:Nat) (_:vs=[.ref S,.int st,.ref l]) (_:YT jg jh H S d lk ts av ho as kvs ls) (_:H l=some (.lst (iN bs))) (_:bs.Nodup) (_:∀ b∈bs,b<ts.length/\1<=ho b/\(av b).length<=900) (_:∀ b:Nat,b<ts.length->l≠(as.getD b .d).ab) (_:∀ H':Hp,(∀ c o,(∀ b:Nat,b<ts.length->c≠(as.getD b .d).x/\c≠(as.getD b .d).ab)->H c=some o->H' c=some o)->(∀ c,H' c=none->H c=none)->YT jg jh H' S d lk ts (Ua bs st av) (UL bs ho) as kvs ls->Q .non H')
abbrev Fx:List Str:=["self","stem","branches","branch","twig"]
theorem Xy:ZD Fx ["self","stem","branches"] (Zg MF):=Zu
theorem EN(F:Zq K "take_over" "Shelf.take_over" MF f fd)(L:Yt K mg jg jh)(DT:ZJ P w K mg base ZU 1 jg "twig_of" ["self","number"] (Z4 jg)):ZM P w K mg base ZU 2 f fd ["self","stem","branches"] (XC jg jh):=by
 refine F.ok Xy (fun vs H Q E h=>(by obtain ⟨_,_,_,_,_,_,_,_,_,_,_,_,rfl,_⟩:=h;rfl)) (fun cdv A outer s H vs Q E hr h=>?_)
 obtain ⟨S,d,lk,l,ts,av,ho,as,kvs,ls,bs,st,rfl,R,hl,jL,hb,hla,k⟩:=h;have nd:=Xy.nd;refine ⟨_,ZW (V7 PassesOwn.never rfl (VL (pv 2)) (Xd 3 nd)
  (ZQ (Zj 4 nd (Xf (E:=E0) (pv 0) L.cS DT hr XE (ZG (pv 3) ZH)))
  (ZQ (Hr (pv 4) ZL Ju)
  (ZW (WP (UX zAr zAt zAs UH (WU (pv 4) rfl) (ZG (pv 1) ZH))))))),?_⟩
 refine ⟨_,rfl,l,rfl,⟨_,ZK.of hl⟩,Pf (K:=K) (a:=l) (xs:=iN bs) (fun i σ H2=>∃ x y:jf,σ=[some (.ref S),some (.int st),some (.ref l),x,y]/\(∀ c o,(∀ b:Nat,b<ts.length->c≠(as.getD b .d).x/\c≠(as.getD b .d).ab)->H c=some o->H2 c=some o)/\(∀ c,H2 c=none->H c=none)/\YT jg jh H2 S d lk ts (Ua (bs.take i) st av) (UL (bs.take i) ho) as kvs ls)
  ⟨_,_,rfl,fun c o _ e=>e,fun c e=>e,(by
   have e1:Ua [] st av=av:=funext fun i=>if_neg (by simp)
   have e2:UL [] ho=ho:=funext fun i=>if_neg (by simp)
   rw [show bs.take 0=[] from rfl,e1,e2];exact R)⟩ ?_ ?_ ?_⟩
 ·rintro i σ H2 _ ⟨x,y,rfl,k2,_,R2⟩;refine ZK.of (k2 _ _ (fun b hb=>⟨?_,hla b hb⟩) hl);obtain ⟨dx,hx⟩:=(R.tw b hb).tw.self;exact ZV hl hx
 ·rintro i u σ H2 hu2 ⟨x,y,rfl,k2,k3,R2⟩;unfold iN at hu2;rw [zAM] at hu2;obtain ⟨b,eb,rfl⟩:=zAa.mp hu2;obtain ⟨hbl,hb1,hb9⟩:=hb b (zAJ eb);have hnb:b∉bs.take i:=fun z=>by
   have hs:bs=bs.take i++b :: bs.drop (i+1):=by
    have hi:=(zAK.mp eb);obtain ⟨hi,e⟩:=hi;rw [<-e,<-zCH hi,zB2]
   rw [hs,zBk] at jL;exact jL.2.2 b z b (by simp) rfl
  have eho:UL (bs.take i) ho b=ho b:=if_neg hnb;have eav:Ua (bs.take i) st av b=av b:=if_neg hnb;obtain ⟨dS,hS⟩:=R2.sh.self;have Wb:=R2.tw b hbl;obtain ⟨dt,hx⟩:=Wb.tw.self;have hab:=Wb.tw.above;rw [eho] at hx;rw [eav] at hab;refine ⟨_,rfl,S,dS,_,rfl,hS,rfl,_,rfl,S,d,lk,ts.length,kvs,ls,(b:Int),.ref (as.getD b .d).x,rfl,R2.sh,R2.val b hbl,?_⟩;refine ⟨_,rfl,(as.getD b .d).x,jh,dt,_,.int (ho b:Nat),rfl,hx,L.cT,L.nho,rfl,_,_,rfl,rfl,dt,_,hx,zAB rfl,?_⟩;have eh:((ho b:Nat):Int) - 1=((ho b - 1:Nat):Int):=by lia
  have hx3:upd H2 (as.getD b .d).x (.ins jh dt (Y4 "holds" (.int (((ho b:Nat):Int) - 1)) (UD (.ref (as.getD b .d).th) (.ref (as.getD b .d).tg) (as.getD b .d).ab (ho b)))) (as.getD b .d).x=some (.ins jh dt (UD (.ref (as.getD b .d).th) (.ref (as.getD b .d).tg) (as.getD b .d).ab (ho b - 1))):=by rw [ZN,eh];rfl
  have xab:(as.getD b .d).ab≠(as.getD b .d).x:=ZV hab hx;have hab3:upd H2 (as.getD b .d).x (.ins jh dt (Y4 "holds" (.int (((ho b:Nat):Int) - 1)) (UD (.ref (as.getD b .d).th) (.ref (as.getD b .d).tg) (as.getD b .d).ab (ho b)))) (as.getD b .d).ab=some (.lst (iN (av b))):=by rw [ZX xab];exact hab
  have ke3:∀ c o,c≠(as.getD b .d).x->H2 c=some o->upd H2 (as.getD b .d).x (.ins jh dt (Y4 "holds" (.int (((ho b:Nat):Int) - 1)) (UD (.ref (as.getD b .d).th) (.ref (as.getD b .d).tg) (as.getD b .d).ab (ho b)))) c=some o:=fun c o n e=>by rw [ZX n];exact e
  have no3:∀ c,upd H2 (as.getD b .d).x (.ins jh dt (Y4 "holds" (.int (((ho b:Nat):Int) - 1)) (UD (.ref (as.getD b .d).th) (.ref (as.getD b .d).tg) (as.getD b .d).ab (ho b)))) c=none->H2 c=none:=fun c e=>by
   by_cases z:c=(as.getD b .d).x
   ·rw [z,ZN] at e;cases e
   ·rw [ZX z] at e;exact e
  generalize upd H2 (as.getD b .d).x (.ins jh dt (Y4 "holds" (.int (((ho b:Nat):Int) - 1)) (UD (.ref (as.getD b .d).th) (.ref (as.getD b .d).tg) (as.getD b .d).ab (ho b))))=H3 at hx3 hab3 ke3 no3 ⊢;refine ⟨_,rfl,(as.getD b .d).x,jh,dt,_,.ref (as.getD b .d).ab,rfl,hx3,L.cT,L.nab,rfl,.inl ⟨rfl,_,ZK.of hab3⟩,_,rfl,(as.getD b .d).ab,_,.int st,rfl,rfl,hab3,Yp (by rw [show (iN (av b)).length=(av b).length from zAD _];lia),?_⟩
  have et:bs.take (i+1)=bs.take i++[b]:=by rw [zAo,eb];rfl
  refine ⟨_,_,rfl,fun c o hc e=>?_,fun c e=>?_,?_⟩
  ·obtain ⟨n1,n2⟩:=hc b hbl;rw [ZX n2];exact ke3 _ _ n1 (k2 c o hc e)
  ·by_cases z:c=(as.getD b .d).ab
   ·rw [z,ZN] at e;cases e
   ·rw [ZX z] at e;exact k3 c (no3 c e)
  ·rw [et,<-ZKQ hnb,<-Bo hnb];refine R2.touch hbl ⟨dt,?_⟩ ?_ fun c o n1 n2 e=>?_
   ·rw [ZX (Ne.symm xab),eho];exact hx3
   ·rw [ZN,eav];simp [iN]
   ·rw [ZX n2];exact ke3 _ _ n1 e
 ·rintro σ H2 ⟨x,y,rfl,k2,k3,R2⟩;rw [show (iN bs).length=bs.length from zAD _,zAU (zAH _)] at R2;exact k H2 k2 k3 R2
theorem AR{X:Cx}{k:Nat}{C:Addr}{x:Str}{ps:List Str}{sp:Sp}{e:Expr}{es:List Expr}{t:TA}{p pos:Pos}(D:V6 X.prog X.w X.K X.mg X.base k C ps sp)(hr:ZY (k+1) X.A)(hg:Gl X x)(hm:X.mg x=some (.ref C))(ha:PA X (e :: es) t)(jx:(x==("__debug__" : Str))=false:=by decide)(he:starEach (e :: es) X.env=(false,eval e X.env) :: starEach es X.env:=by rfl)(jr:(backTo pos (starEach es X.env)).any (·.1)=false:=by rfl):
  PE X (.Call (.Name x p) (e :: es) [] pos) (Ol C sp [] E0 t):=by
 obtain ⟨f,fd,M,F,b⟩:=D.ex;exact Gb M F hr hg hm b .nil XE ha jx he jr
theorem Gg{X:Cx}{k:Nat}{C:Addr}{x:Str}{ps:List Str}{sp:Sp}{p pos:Pos}(D:V6 X.prog X.w X.K X.mg X.base k C ps sp)(hr:ZY (k+1) X.A)(hg:Gl X x)(hm:X.mg x=some (.ref C))(jx:(x==("__debug__" : Str))=false:=by decide):PE X (.Call (.Name x p) [] [] pos) (Ol C sp [] E0 V0):=by
 obtain ⟨f,fd,M,F,b⟩:=D.ex;exact A4 M F hr hg hm b .nil XE jx
def UT(n:Nat)(av:Nat->List Nat):Nat->List Nat:=fun i=>if i=n then [] else av i
def Ug(n:Nat)(ho:Nat->Nat):Nat->Nat:=fun i=>if i=n then 1 else ho i
theorem Pw{ts:List ZT}{t:ZT}{i:Nat}(h:i<ts.length):gd (ts++[t]) i=gd ts i:=by
 unfold gd;rw [zAC,zA2 h,<-zAC]
theorem MI{ts:List ZT}{t:ZT}:gd (ts++[t]) ts.length=t:=by
 unfold gd;rw [zAC,zAv (zAH _)];simp
theorem N4{as:List Z5}{a:Z5}{i:Nat}(h:i<as.length):(as++[a]).getD i .d=as.getD i .d:=by
 rw [zAC,zA2 h,<-zAC]
theorem ME{as:List Z5}{a:Z5}:(as++[a]).getD as.length .d=a:=by
 rw [zAC,zAv (zAH _)];simp
theorem JX{jg jh:Addr}{H H':Hp}{S d lk:Addr}{ts:List ZT}{av:Nat->List Nat}{ho:Nat->Nat}{as:List Z5}{kvs:List (ZZ×V)}{ls:je}(R:YT jg jh H S d lk ts av ho as kvs ls){t:ZT}{x th tg ab:Addr}(fr:∀ b o,b≠S->b≠d->H b=some o->H' b=some o)(nx:H x=none)(nth:H th=none)(nab:H ab=none)(abth:ab≠th)(R':Yy jg H' S d lk (ts.length+1) (XD kvs (.inl (ts.length:Int)) (.ref x)) ls)(W:Xx jh H' x (.ref th) (.ref tg) ab 1 [])(hth:∃ us,H' th=some (.lst us)/\(t.h=0->KeysAt H' (YQ t.rows) us)/\(t.h≠0->us=iN t.bs))(htg:Yo H' (YF t) (.ref tg)):
  YT jg jh H' S d lk (ts++[t]) (UT ts.length av) (Ug ts.length ho) (as++[⟨x,th,tg,ab⟩]) (XD kvs (.inl (ts.length:Int)) (.ref x)) ls:=by
 obtain ⟨⟨dS,hS⟩,hd,hl⟩:=R.sh;have m:Z6 H H':=fun c xs e=>fr c _ (ZV e hS) (ZV e hd) e;have en:(ts++[t]).length=ts.length+1:=by simp
 have nv:YJ kvs (Sum.inl (ts.length:Int))=none:=R.none (by unfold inT;exact decide_eq_false (by lia))
 have lt_or:∀ i,i<(ts++[t]).length->i<ts.length\/i=ts.length:=fun i hi=>by rw [en] at hi;lia
 have el:as.length=ts.length:=R.len;have aL:∀ i,i<ts.length->(as++[(⟨x,th,tg,ab⟩:Z5)]).getD i .d=as.getD i .d:=fun i hi=>N4 (by lia)
 have aN:(as++[(⟨x,th,tg,ab⟩:Z5)]).getD ts.length .d=⟨x,th,tg,ab⟩:=by rw [<-el];exact ME
 have old:∀ i,i<ts.length->∃ dx us o,H (as.getD i .d).x=some (.ins jh dx us)/\H (as.getD i .d).th=some (.lst o)/\H (as.getD i .d).ab=some (.lst (iN (av i))):=fun i hi=>by
  obtain ⟨dx,e1⟩:=(R.tw i hi).tw.self;obtain ⟨us,e2,_⟩:=(R.tw i hi).things;exact ⟨dx,_,us,e1,e2,(R.tw i hi).tw.above⟩
 have nS:x≠S:=(Zb hS nx).symm;have ablk:ab≠lk:=(Zb hl nab).symm;have thlk:th≠lk:=(Zb hl nth).symm;refine ⟨by rw [en];exact R',?_,fun i hi=>?_,by simp [el],fun i hi=>?_,fun i hi=>?_,fun i j hi hj jv=>?_⟩
 ·rw [Lh _ nv,zAV,R.keys,en,zBx,zAV];rfl
 ·rw [Oi];rcases lt_or i hi with c | rfl
  ·rw [if_neg (fun z=>by have:=Sum.inl.inj z;lia),aL i c]
   exact R.val i c
  ·rw [if_pos rfl,aN]
 ·rcases lt_or i hi with c | rfl
  ·have Wi:=R.tw i c;obtain ⟨dx,us,o,e1,e2,e3⟩:=old i c;have ni:i≠ts.length:=by lia
   have G:=Wi.frame m (fun o' e=>fr _ _ (R.own i c).1 (ZV e1 hd) e) (fun o' e=>fr _ _ (ZV e2 hS) (ZV e2 hd) e) (fun o' e=>fr _ _ (ZV e3 hS) (ZV e3 hd) e);rw [aL i c];refine ⟨?_,?_,?_⟩
   ·rw [show UT ts.length av i=av i from if_neg ni,show Ug ts.length ho i=ho i from if_neg ni];exact G.tw
   ·rw [Pw c];exact G.things
   ·rw [Pw c];exact G.tag
  ·rw [aN];refine ⟨?_,?_,?_⟩
   ·rw [show UT ts.length av ts.length=[] from if_pos rfl,show Ug ts.length ho ts.length=1 from if_pos rfl];exact W
   ·rw [MI];exact hth
   ·rw [MI];exact htg
 ·rcases lt_or i hi with c | rfl
  ·rw [aL i c];exact R.own i c
  ·rw [aN];exact ⟨nS,ablk,thlk,abth⟩
 ·rcases lt_or i hi with c | rfl
  ·rw [aL i c];rcases lt_or j hj with c2 | rfl
   ·rw [aL j c2];exact R.two i j c c2 jv
   ·rw [aN];obtain ⟨dx,us,o,e1,e2,e3⟩:=old i c;exact ⟨Zb e1 nx,Zb e3 nab,Zb e3 nth,Zb e2 nth⟩
  ·rw [aN];rcases lt_or j hj with c2 | rfl
   ·rw [aL j c2];obtain ⟨dx,us,o,e1,e2,e3⟩:=old j c2;exact ⟨(Zb e1 nx).symm,(Zb e3 nab).symm,(Zb e2 nab).symm,(Zb e2 nth).symm⟩
   ·exact absurd rfl jv
inductive Yu(jg jh:Addr)(vs:je)(H:Hp)(Q:VK)(_:XK):Prop
 | mk (S d lk:Addr) (n:Nat) (kvs:List (ZZ×V)) (ls:je) (th tg:V) (_:vs=[.ref S,th,tg]) (_:Yy jg H S d lk n kvs ls) (_:kvs.length<=900) (_:∀(H':Hp)(x ab:Addr),H x=none->H ab=none->(∀ b o,b≠S->b≠d->H b=some o->H' b=some o)->Yy jg H' S d lk (n+1) (XD kvs (.inl (n:Int)) (.ref x)) ls->Xx jh H' x th tg ab 1 []->Q (.int (n:Int)) H')
theorem WN:ZD ["self","things","label","number"] ["self","things","label"] (Zg N9):=Zu
theorem ZHS(F:Zq K "put_twig" "Shelf.put_twig" N9 f fd)(L:Yt K mg jg jh)(DM:V6 P w K mg base 1 jh ["self","things","tag"] (Uc jh)):ZM P w K mg base ZU 3 f fd ["self","things","label"] (Yu jg jh):=by
 refine F.ok WN (fun vs H Q E h=>(by obtain ⟨_,_,_,_,_,_,_,_,rfl,_⟩:=h;rfl)) (fun cdv A outer s H vs Q E hr h=>?_)
 obtain ⟨S,d,lk,n,kvs,ls,th,tg,rfl,R,l100,k⟩:=h;have nd:=WN.nd;have hu:=Qt hr;refine ⟨_,ZQ (Zj 3 nd (WU (pv 0) rfl)) (ZQ (U7 (pv 0) (Zo Xn (pv 3) ZL) rfl)
  (ZQ (Kq hu (WU (pv 0) rfl) (pv 3) (AR DM hr rfl L.twig (ZG (pv 1) (ZG (pv 2) ZH))) rfl) (ZW (Zk (pv 3))))),?_⟩
 obtain ⟨⟨dx,hS⟩,hd,hl⟩:=R;have Sd:S≠d:=ZV hS hd;have Sl:S≠lk:=ZV hS hl;have dl:d≠lk:=ZV hd hl;refine ⟨_,rfl,S,jg,dx,_,.int n,rfl,hS,L.cS,L.nf,rfl,?_⟩;refine ⟨_,rfl,_,_,rfl,rfl,_,rfl,S,jg,dx,_,rfl,hS,L.cS,L.nf,zAB rfl,?_⟩;have hS1:upd H S (.ins jg dx (Y4 "following" (.int ((n:Int)+1)) (U3 d lk n))) S=some (.ins jg dx (U3 d lk (n+1))):=ZN;have hd1:upd H S (.ins jg dx (Y4 "following" (.int ((n:Int)+1)) (U3 d lk n))) d=some (.dK kvs):=by rw [ZX (Ne.symm Sd)];exact hd
 have hl1:upd H S (.ins jg dx (Y4 "following" (.int ((n:Int)+1)) (U3 d lk n))) lk=some (.lst ls):=by rw [ZX (Ne.symm Sl)];exact hl
 have ke1:∀ b o,b≠S->H b=some o->upd H S (.ins jg dx (Y4 "following" (.int ((n:Int)+1)) (U3 d lk n))) b=some o:=fun b o n e=>by rw [ZX n];exact e
 have no1:∀ b,upd H S (.ins jg dx (Y4 "following" (.int ((n:Int)+1)) (U3 d lk n))) b=none->H b=none:=fun b e=>by
  by_cases z:b=S
  ·rw [z,ZN] at e;cases e
  ·rw [ZX z] at e;exact e
 generalize upd H S (.ins jg dx (Y4 "following" (.int ((n:Int)+1)) (U3 d lk n)))=H1 at hS1 hd1 hl1 ke1 no1 ⊢;refine ⟨_,rfl,_,rfl,fun x dt nx ndt ne=>?_⟩;have g1:=ZS ndt (.own x);have nx2:upd H1 dt (.own x) x=none:=by rw [ZX (Ne.symm ne)];exact nx
 have g2:=ZS nx2 (.ins jh dt []);have g:=g1.trans g2;refine ⟨x,dt,th,tg,rfl,ZN,fun H2 ab ke2 nab W=>⟨rfl,?_⟩⟩;have fr:∀ b o,H1 b=some o->H2 b=some o:=fun b o e=>ke2 b o (Zb e nx) (g b o e);have hS2:=fr _ _ hS1;have hd2:=fr _ _ hd1;have hl2:=fr _ _ hl1;have hab1:H1 ab=none:=g.free nab;obtain ⟨dx2,hx2⟩:=W.self;have xd:x≠d:=ZV hx2 hd2;have abd:ab≠d:=ZV W.above hd2;refine ⟨_,rfl,S,jg,dx,_,.ref d,rfl,hS2,L.cS,L.nk,rfl,_,rfl,d,_,rfl,V1.k (k:=Sum.inl (n:Int)) hd2 (Yp (by lia)),?_⟩
 refine ⟨_,rfl,k _ x ab (no1 _ nx) (no1 _ hab1) (fun b o n1 n2 e=>?_) ⟨⟨dx,?_⟩,ZN,?_⟩ ⟨⟨dx2,?_⟩,?_⟩⟩
 ·rw [ZX n2];exact fr b o (ke1 b o n1 e)
 ·rw [ZX Sd];exact hS2
 ·rw [ZX (Ne.symm dl)];exact hl2
 ·rw [ZX xd];exact hx2
 ·rw [ZX abd];exact W.above
theorem Fj{H:Hp}{rs:List Yg}{us:je}(h:KeysAt H (YQ rs) us):Ln H (rs.map (·.1)) us:=by
 have hl:us.length=rs.length:=by have:=h.length;rw [<-this];exact zAD _
 refine ⟨by rw [zAD];exact hl,fun i u e=>?_⟩
 obtain ⟨a,vk,vv,er,e1,e2,k1,_⟩:=QA h e;refine ⟨a,vk,vv,e1,e2,?_⟩;rw [zAC,zAM,er];exact k1
inductive Ub(vs:je)(H:Hp)(Q:VK)(_:XK):Prop
 | mk (v:V) (t:KT) (_:vs=[v]) (_:ZE H t v) (_:t.fits 3=true) (_:∀ H',ZA H H'->Q v H')
theorem IL:ZD ["thing"] ["thing"] (Zg NF):=Zu
theorem Ai(F:Zq K "checked" "checked" NF f fd)(DI:ZB P w K mg base 6 "is_key" ["thing"] Vd):ZM P w K mg base ZU 7 f fd ["thing"] Ub:=by
 refine F.ok IL (fun vs H Q E h=>(by obtain ⟨_,_,rfl,_⟩:=h;rfl)) (fun cdv A outer s H vs Q E hr h=>?_)
 obtain ⟨v,t,rfl,hv,hf,k⟩:=h;refine ⟨_,ZQ (Z1 (Uj (Xo (Zh DI hr (ZG (pv 0) ZH)))) Qc Z8) (ZW (Zk (pv 0))),?_⟩;refine ⟨_,rfl,v,t,3,rfl,hv,hf,fun H1 s1=>⟨_,rfl,?_⟩⟩;rw [hf];exact Zr ⟨_,rfl,k H1 s1⟩
inductive XS(vs:je)(H:Hp)(Q:VK)(_:XK):Prop
 | mk (l:Addr) (us:je) (rs:List Yg) (_:vs=[.ref l]) (_:H l=some (.lst us)) (_:KeysAt H (YQ rs) us) (_:∀ r∈rs,r.fit) (_:us.length<=100) (_:∀(H':Hp)(l':Addr)(us':je),ZA H H'->H l'=none->H' l'=some (.lst us')->KeysAt H' (YQ rs) us'->Q (.ref l') H')
theorem Fv:ZD ["rows"] ["rows"] (Zg Nn):=Zu
theorem Bf(F:Zq K "own_rows" "own_rows" Nn f fd)(DC:ZB P w K mg base 7 "checked" ["thing"] Ub):ZM P w K mg base ZU 8 f fd ["rows"] XS:=by
 refine F.ok Fv (fun vs H Q E h=>(by obtain ⟨_,_,_,rfl,_⟩:=h;rfl)) (fun cdv A outer s H vs Q E hr h=>?_)
 obtain ⟨l,us,rs,rfl,hl,hk,hf,h100,k⟩:=h;have lk:us.length=rs.length:=by have:=hk.length;rw [<-this];exact zAD _
 refine ⟨_,ZW (Zk (Wx [] [] rfl (VL (pv 0)) (fun _ _ _ _ _=>Vk)
   (fun _ _ _ _ _=>Yh (ZG (Zh DC hr (ZG (Zp (r:=YR K) Ya (pv 0) ZL (fun _ _=>rfl)) ZH)) (ZG (Zh DC hr (ZG (Zp (r:=YR K) Ya (pv 0) ZL (fun _ _=>rfl)) ZH)) ZH))) trivial)),?_⟩
 refine ⟨_,rfl,l,rfl,⟨us,ZK.of hl⟩,?_⟩;refine Vb (n:=us.length) (fun i z=>us[i]? = some z) (fun D i ys H3=>ZA H H3/\H D=none/\KeysAt H3 (YQ (rs.take i)) ys) (Yp (by lia))
  (fun D i ys H3 hi hP=>⟨us,us[i],ZK.of (hP.1 _ _ hl),by simp [hi]⟩) (fun D i ys H3 z H4 hi hP hy=>⟨hy.1,hy.2 us (ZK.of (hP.1 _ _ hl))⟩) (fun D ys H3 hP=>⟨us,ZK.of (hP.1 _ _ hl),zAH _⟩)
  (fun D hD=>⟨ZS hD _,hD,.nil⟩) (fun D i ys H3 z eD hl' hi hz hP R hR=>?_) (fun D ys H3 eD hP=>?_)
 ·obtain ⟨s3,nD,hys⟩:=hP;obtain ⟨a,vk,vv,er,rfl,e2,k1,k2⟩:=QA hk hz;have e3:=s3 _ _ e2;have hfit:=hf _ (zAJ er);refine ⟨_,rfl,.inr (.inl ⟨a,_,_,vk,rfl,rfl,Zn.of e3,rfl,vk,_,rfl,k1.mono (ZA.tups s3) _ _,hfit.1,fun H4 s4=>?_⟩)⟩;refine ⟨_,rfl,.inr (.inl ⟨a,_,_,vv,rfl,rfl,Zn.of (s4 _ _ e3),rfl,vv,_,rfl,k2.mono (ZA.tups (s3.trans s4)) _ _,hfit.2,fun H5 s5=>?_⟩)⟩;refine ⟨nn (zAB rfl),fun q hq=>?_⟩;have g:=ZS hq (.tup [vk,vv]);have s36:=(s4.trans s5).trans g;have eD6:=s36 _ _ eD;have tD:Z6 (upd H5 q (.tup [vk,vv])) (upd (upd H5 q (.tup [vk,vv])) D (.lst (ys++[.ref q]))):=fun b xs e=>by rw [ZX (ZV e eD6)];exact e
  refine hR _ _ eD6 ⟨V2 (s3.trans s36) nD,nD,?_⟩;rw [zAo,er,Jy];refine ((hys.mono (ZA.tups s36) _ _).mono tD _ _).append (.cons (.tup (tD _ _ ZN) (.cons ?_ (.cons ?_ .nil))) .nil)
  ·exact (k1.mono (ZA.tups (s3.trans s36)) _ _).mono tD _ _
  ·exact (k2.mono (ZA.tups (s3.trans s36)) _ _).mono tD _ _
 ·obtain ⟨s3,nD,hys⟩:=hP;rw [zAU (by lia)] at hys
  exact k H3 D ys s3 nD eD hys
inductive Wm(vs:je)(H:Hp)(Q:VK)(_:XK):Prop
 | mk (l:Addr) (us:je) (ks:List KT) (_:vs=[.ref l]) (_:H l=some (.lst us)) (_:KeysAt H ks us) (_:∀ t∈ks,t.fits 3=true) (_:us.length<=100) (_:ks.Pairwise (fun a b=>a.lt b=true)) (_:∀ H',ZA H H'->Q (.bl true) H')
theorem Ez:ZD ["keys"] ["keys"] (Zg M4):=Zu
theorem Og{α:Type}{R:α->α->Prop}:∀{l:List α},l.Pairwise R->∀{i j:Nat}{a b:α},i<j->l[i]? = some a->l[j]? = some b->R a b
 | [],_,_,_,_,_,_,h,_=>by simp at h
 | x :: l,hp,0,j+1,a,b,_,ha,hb=>by
  simp at ha hb;subst ha;exact (zBN.mp hp).1 b (zAJ hb)
 | x :: l,hp,i+1,j+1,a,b,jv,ha,hb=>by
  simp at ha hb;exact Og (zBN.mp hp).2 (by lia) ha hb
theorem A8(F:Zq K "rise" "rise" M4 f fd)(T:YD mg)(DA:ZB P w K mg base 7 "ahead" ["one","other"] Ys):ZM P w K mg base ZU 8 f fd ["keys"] Wm:=by
 refine F.ok Ez (fun vs H Q E h=>(by obtain ⟨_,_,_,rfl,_⟩:=h;rfl)) (fun cdv A outer s H vs Q E hr h=>?_)
 obtain ⟨l,us,ks,rfl,hl,hk,hf,h100,hup,k⟩:=h;have lk:=hk.length;refine ⟨_,ZW (Zk (Z0 (Mt rfl) rfl T.all NX (ZG (Wx [0] ["keys"] rfl (N3 rfl T.range (ZG ZL (ZG (Z0 Xh rfl T.len XT (ZG (pv 0) ZH)) ZH))) (fun _ _ _ _ _=>Vk)
  (fun _ _ _ _ _=>Zh DA hr (ZG (Zp (r:=YR K) Ya (pv 1) (Zo VZ (pv 0) ZL) (fun _ _=>rfl)) (ZG (Zp (r:=YR K) Ya (pv 1) (pv 0) (fun _ _=>rfl)) ZH))) ⟨rfl,.inl rfl,rfl,trivial⟩) ZH))),?_⟩
 refine ⟨_,rfl,l,us,rfl,.inl (ZK.of hl),1,(us.length:Int),rfl,⟨by lia,by lia,by lia,by lia⟩,?_⟩
 refine Vb (n:=((us.length:Int) - 1).toNat) (fun i x=>x=.int (1+(i:Int))) (fun D i ys H3=>ZA H H3/\H D=none/\ys=(zBf i true).map V.bl) (Yp (by lia))
  (fun D i ys H3 hi _=>hi) (fun D i ys H3 x H4 hi _ hy=>hy) (fun D ys H3 _=>zAH _) (fun D hD=>⟨ZS hD _,hD,rfl⟩) (fun D i ys H3 x eD hl' hi hx hP R hR=>?_) (fun D ys H3 eD hP=>?_)
 ·subst hx;obtain ⟨s3,nD,rfl⟩:=hP;have hi1:i+1<us.length:=by lia
  have ua:us[i]? = some (us[i]'(by lia)):=zAE (by lia)
  have ub:us[i+1]? = some us[i+1]:=zAE hi1;have e1:(1:Int)+(i:Int)=((i+1:Nat):Int):=by lia
  have e0:(1:Int)+(i:Int) - 1=((i:Nat):Int):=by lia
  obtain ⟨a,ea,ka⟩:=hk.get ua;obtain ⟨b,eb,kb⟩:=hk.get ub;have hl3:=s3 _ _ hl;refine ⟨_,rfl,_,rfl,_,_,rfl,rfl,.inl ⟨l,us,_,_,rfl,rfl,ZK.of hl3,(by rw [e0];exact Xb ua),?_⟩⟩
  refine ⟨_,rfl,_,rfl,.inl ⟨l,us,_,_,rfl,rfl,ZK.of hl3,(by rw [e1];exact Xb ub),?_⟩⟩
  refine ⟨_,_,a,b,rfl,ka.mono (ZA.tups s3) _ _,kb.mono (ZA.tups s3) _ _,hf a (zAJ ea),hf b (zAJ eb),fun H4 s4=>?_⟩;rw [Og hup (zBe i) ea eb];refine hR _ H4 (s4 D _ eD) ⟨V2 (s3.trans s4) nD,nD,?_⟩;rw [List.replicate_succ',zAV];rfl
 ·obtain ⟨s3,nD,rfl⟩:=hP;refine ⟨D,_,rfl,ZK.of eD,?_⟩;have e:(zBf ((us.length:Int) - 1).toNat true).all id=true:=by simp
  rw [e];exact k H3 s3
def QU(rs:List Yg):Prop:=(∀ r∈rs,r.fit)/\0<rs.length/\rs.length<=4/\(rs.map (·.1)).Pairwise (fun a b=>a.lt b=true)
inductive Xw(vs:je)(H:Hp)(Q:VK)(_:XK):Prop
 | mk (l:Addr) (us:je) (rs:List Yg) (_:vs=[.ref l]) (_:H l=some (.lst us)) (_:KeysAt H (YQ rs) us) (_:QU rs) (_:∀(H':Hp)(l':Addr)(us':je),ZA H H'->H l'=none->H' l'=some (.lst us')->KeysAt H' (YQ rs) us'->Q (.ref l') H')
theorem VB:ZD ["rows","own"] ["rows"] (Zg MP):=Zu
theorem Ev(F:Zq K "checked_rows" "checked_rows" MP f fd)(T:YD mg)(DC:ZB P w K mg base 8 "own_rows" ["rows"] XS)(DR:ZB P w K mg base 8 "rise" ["keys"] Wm):ZM P w K mg base ZU 9 f fd ["rows"] Xw:=by
 refine F.ok VB (fun vs H Q E h=>(by obtain ⟨_,_,_,rfl,_⟩:=h;rfl)) (fun cdv A outer s H vs Q E hr h=>?_)
 obtain ⟨l,us,rs,rfl,hl,hk,⟨hf,h0,h4,hup⟩,k⟩:=h;have nd:=VB.nd;have lk:us.length=rs.length:=by have:=hk.length;rw [<-this];exact zAD _
 obtain ⟨t4,m4⟩:=T.rows;refine ⟨_,ZQ (Zj 1 nd (Zh DC hr (ZG (pv 0) ZH)))
  (ZQ (Z1 (PW.pt (Qh (Uj (KQ PM PM ZL (Z0 Xh rfl T.len XT (ZG (pv 1) ZH)) (WL (v:=.int 4) rfl m4 ⟨_,rfl⟩)))
   (Pd (Uj (Xo (Zh DR hr (ZG (Wx [] [] rfl (VL (pv 1)) (fun _ _ _ _ _=>Vk) (fun _ _ _ _ _=>Zp (r:=YR K) Ya (pv 0) ZL (fun _ _=>rfl)) trivial) ZH))))))) Qc Z8)
  (ZW (Zk (pv 1)))),?_⟩
 refine ⟨_,rfl,l,us,rs,rfl,hl,hk,hf,by lia,fun H3 D ys s3 nD eD hrw=>?_⟩
 have ly:ys.length=rs.length:=by have:=hrw.length;rw [<-this];exact zAD _
 refine ⟨_,rfl,D,ys,rfl,.inl (ZK.of eD),_,_,rfl,rfl,_,rfl,?_⟩;rw [decide_eq_true (show (1:Int)<=(ys.length:Int) by lia)]
 refine Z9 ⟨_,_,rfl,rfl,_,rfl,?_⟩;rw [decide_eq_true (show (ys.length:Int)<=4 by lia)]
 refine Zr ?_;refine ⟨_,rfl,D,rfl,⟨ys,ZK.of eD⟩,?_⟩;refine Vb (n:=ys.length) (fun i z=>ys[i]? = some z) (fun D2 i zs H4=>ZA H3 H4/\H3 D2=none/\KeysAt H3 ((rs.map (·.1)).take i) zs) (Yp (by lia))
  (fun D2 i zs H4 hi hP=>⟨ys,ys[i],ZK.of (hP.1 _ _ eD),by simp [hi]⟩) (fun D2 i zs H4 z H5 hi hP hy=>⟨hy.1,hy.2 ys (ZK.of (hP.1 _ _ eD))⟩) (fun D2 zs H4 hP=>⟨ys,ZK.of (hP.1 _ _ eD),zAH _⟩)
  (fun D2 hD2=>⟨ZS hD2 _,hD2,.nil⟩) (fun D2 i zs H4 z eD2 hl2 hi hz hP R hR=>?_) (fun D2 zs H4 eD2 hP=>?_)
 ·obtain ⟨s4,nD2,hzs⟩:=hP;obtain ⟨a,vk,vv,er,rfl,e2,k1,_⟩:=QA hrw hz;refine ⟨_,rfl,.inr (.inl ⟨a,_,_,vk,rfl,rfl,Zn.of (s4 _ _ e2),rfl,?_⟩)⟩;refine hR _ H4 eD2 ⟨V2 s4 nD2,nD2,?_⟩;rw [zAo,zAM,er];exact hzs.append (.cons k1 .nil)
 ·obtain ⟨s4,nD2,hzs⟩:=hP;rw [zAU (by rw [zAD];lia)] at hzs
  have lz:=hzs.length;rw [zAD] at lz;refine ⟨D2,zs,_,rfl,eD2,hzs.mono (ZA.tups s4) _ _,fun t ht=>?_,by lia,hup,fun H5 s5=>⟨_,rfl,Zr ⟨_,rfl,k H5 D ys ((s3.trans s4).trans s5) nD (s5 _ _ (s4 _ _ eD)) (hrw.mono (ZA.tups (s4.trans s5)) _ _)⟩⟩⟩
  obtain ⟨r,hr',rfl⟩:=zAb.mp ht;exact (hf r hr').1
def Vh(rs:List Yg):ZT:=⟨0,rs,[]⟩
inductive YS(jg jh:Addr)(vs:je)(H:Hp)(Q:VK)(_:XK):Prop
 | mk (S d lk l:Addr) (ts:List ZT) (av:Nat->List Nat) (ho:Nat->Nat) (as:List Z5) (kvs:List (ZZ×V)) (ls us:je) (rs:List Yg) (_:vs=[.ref S,.ref l]) (_:YT jg jh H S d lk ts av ho as kvs ls) (_:ts.length<=900) (_:H l=some (.lst us)) (_:KeysAt H (YQ rs) us) (_:QU rs) (_:∀(H':Hp)(a:Z5),H a.x=none->H a.th=none->H a.ab=none->(∀ b o,b≠S->b≠d->H b=some o->H' b=some o)->YT jg jh H' S d lk (ts++[Vh rs]) (UT ts.length av) (Ug ts.length ho) (as++[a]) (XD kvs (.inl (ts.length:Int)) (.ref a.x)) ls->Q (.int (ts.length:Nat)) H')
theorem WH:ZD ["self","rows","own"] ["self","rows"] (Zg Ma):=Zu
theorem KM{jg jh:Addr}{H:Hp}{S d lk:Addr}{ts:List ZT}{av:Nat->List Nat}{ho:Nat->Nat}{as:List Z5}{kvs:List (ZZ×V)}{ls:je}(R:YT jg jh H S d lk ts av ho as kvs ls):kvs.length=ts.length:=by
 have:=congrArg zBh R.keys;simpa using this
def Y2(ts:List ZT)(bs:List Nat):List Yg:=bs.flatMap fun b=>(gd ts b).rows
def Xe(ts:List ZT)(bs:List Nat):ZT:=⟨(gd ts (bs.getD 0 0)).h+1,Y2 ts bs,bs⟩
def NI(ts:List ZT):List Nat->Prop
 | a :: b :: r=>(YF (gd ts a)).hi.lt (YF (gd ts b)).lo=true/\NI ts (b :: r)
 | _=>True
theorem KN{ts:List ZT}:∀{bs:List Nat},(∀ j,j+1<bs.length->((Y5 ts bs).getD j .d).hi.lt ((Y5 ts bs).getD (j+1) .d).lo=true)->NI ts bs
 | [],_=>trivial
 | [_],_=>trivial
 | a :: b :: r,h=>⟨h 0 (by simp),KN (bs:=b :: r) fun j hj=>h (j+1) (by simp at hj ⊢;lia)⟩
theorem PF{t:ZT}(jA:t.rows≠[]):∃ r rs,t.rows=r :: rs/\(YF t).lo=r.1:=by
 cases e:t.rows with
 | nil=>exact absurd e jA
 | cons r rs=>exact ⟨r,rs,rfl,by unfold YF;rw [e];rfl⟩
theorem Ny{t:ZT}(jA:t.rows≠[]):∃ rs r,t.rows=rs++[r]/\(YF t).hi=r.1:=by
 rcases zCV t.rows with e | ⟨rs,r,e⟩
 ·exact absurd e jA
 ·rw [zCW] at e;refine ⟨rs,r,e,?_⟩;unfold YF;rw [e];simp [zAC]
theorem ZPA{gt:List KT}{ts:List ZT}{i:Nat}{t:ZT}(h:WE gt ts i t){x:KT}(hx:x∈t.rows.map (·.1)){y:KT}(hy:(YF t).hi.lt y=true):x.lt y=true:=by
 obtain ⟨rs,r,e,eh⟩:=Ny h.ne;have up:=h.up;rw [e,zAV] at up hx;rw [eh] at hy;rcases zAm.mp hx with hx | hx
 ·have:=(zCb.mp up).2.2 x hx r.1 (by simp)
  exact lt_trans' _ _ _ this hy
 ·simp at hx;rw [hx];exact hy
theorem BF{gt:List KT}{ts:List ZT}{bs:List Nat}{l:List KT}(hp:l.Pairwise fun a b=>a.lt b=true){z:KT}(e:l.head? = some z){x:KT}(hx:x.lt z=true):∀ y∈l,x.lt y=true:=by
 cases l with
 | nil=>cases e
 | cons a l=>
  simp at e;subst e;intro y hy;rcases zAf.mp hy with rfl | hy
  ·exact hx
  ·exact lt_trans' _ _ _ hx ((zBN.mp hp).1 y hy)
theorem Jt{gt:List KT}{ts:List ZT}(hw:WF gt ts):∀{bs:List Nat},(∀ b∈bs,b<ts.length)->NI ts bs->((Y2 ts bs).map (·.1)).Pairwise (fun a b=>a.lt b=true)/\bs.Nodup
 | [],_,_=>⟨zCl.nil,List.nodup_nil⟩
 | [a],hb,_=>by
  refine ⟨?_,by simp⟩
  have:=(hw a _ (Xk (hb a (by simp)))).up
  simpa [Y2] using this
 | a :: b :: r,hb,hn=>by
  obtain ⟨h1,h2⟩:=Jt hw (bs:=b :: r) (fun c hc=>hb c (zAN _ hc)) hn.2;have oa:=hw a _ (Xk (hb a (by simp)))
  have ob:=hw b _ (Xk (hb b (by simp)))
  obtain ⟨rb,rs,eb,el⟩:=PF ob.ne;have hd:((Y2 ts (b :: r)).map (·.1)).head? = some (YF (gd ts b)).lo:=by
   rw [el];unfold Y2;rw [zBl,eb];rfl
  have cross:∀ x∈(gd ts a).rows.map (·.1),∀ y∈(Y2 ts (b :: r)).map (·.1),x.lt y=true:=fun x hx=>BF (gt:=gt) (ts:=ts) (bs:=[]) h1 hd (ZPA oa hx hn.1);refine ⟨?_,zBQ.mpr ⟨fun hm=>?_,h2⟩⟩
  ·have e:Y2 ts (a :: b :: r)=(gd ts a).rows++Y2 ts (b :: r):=by simp [Y2]
   rw [e,zAV];exact zCb.mpr ⟨oa.up,h1,cross⟩
  ·obtain ⟨ra,rs',ea,_⟩:=PF oa.ne;have m1:ra.1∈(gd ts a).rows.map (·.1):=by rw [ea];simp
   have m2:ra.1∈(Y2 ts (b :: r)).map (·.1):=zAb.mpr ⟨ra,zC0.mpr ⟨a,hm,by rw [ea];simp⟩,rfl⟩
   have:=cross _ m1 _ m2;rw [Q3] at this;cases this
theorem Qe{ts:List ZT}{bs:List Nat}{i:Nat}(hi:i<bs.length):(Y5 ts bs).getD i .d=YF (gd ts (bs.getD i 0)):=by
 unfold Y5;rw [zAC,zAM,zAE hi,zAC,zAE hi];rfl
theorem KO{gt:List KT}{ts:List ZT}(hw:WF gt ts){bs:List Nat}(hb:∀ b∈bs,b<ts.length){L:YL}(h:over (Y5 ts bs)=some L):
  L=YF (Xe ts bs)/\bs.Nodup/\2<=bs.length/\bs.length<=4/\(∀ b∈bs,(gd ts b).h+1=(Xe ts bs).h)/\((Y2 ts bs).map (·.1)).Pairwise (fun a b=>a.lt b=true)/\Y2 ts bs≠[]:=by
 unfold over at h;split at h
 case isFalse=>cases h
 case isTrue hc=>
  obtain ⟨h2,h4,hk⟩:=hc;have ll:(Y5 ts bs).length=bs.length:=zAD _;rw [ll] at h2 h4;have hl:=Ue.mpr hk;unfold LI at hl;rw [ll] at hl;have hnb:NI ts bs:=KN fun j hj=>(hl j hj).2;obtain ⟨hup,jL⟩:=Jt hw hb hnb;have hh:∀ i,i<bs.length->((Y5 ts bs).getD i .d).h=((Y5 ts bs).getD 0 .d).h:=fun i hi=>by
   cases i with
   | zero=>rfl
   | succ i=>exact (hl i hi).1
  have hmem:∀ i,i<bs.length->bs.getD i 0∈bs:=fun i hi=>by rw [zAC,zAE hi];exact zBE _
  have o0:=hw _ _ (Xk (hb _ (hmem 0 (by lia))))
  have ol:=hw _ _ (Xk (hb _ (hmem (bs.length - 1) (by lia))))
  have hhb:∀ b∈bs,(gd ts b).h+1=(Xe ts bs).h:=fun b hb'=>by
   obtain ⟨i,hi,e⟩:=List.getElem_of_mem hb';have:=hh i hi;rw [Qe hi,Qe (by lia)] at this
   have e2:bs.getD i 0=b:=by rw [zAC,zAE hi,e];rfl
   rw [e2] at this;have:=Int.ofNat.inj this;show (gd ts b).h+1=(gd ts (bs.getD 0 0)).h+1
   lia
  have jA:Y2 ts bs≠[]:=fun z=>by
   obtain ⟨r,rs,e,_⟩:=PF o0.ne;have:r∈Y2 ts bs:=zC0.mpr ⟨_,hmem 0 (by lia),by rw [e];simp⟩
   rw [z] at this;simp at this
  refine ⟨?_,jL,h2,h4,hhb,hup,jA⟩;rw [<-zAh.inj h];have elo:((Y5 ts bs).getD 0 .d).lo=(YF (Xe ts bs)).lo:=by
   rw [Qe (by lia)]
   obtain ⟨r,rs,e,el⟩:=PF o0.ne;rw [el]
   cases bs with
   | nil=>simp at h2
   | cons b bs=>
    unfold YF Xe Y2;have e':(gd ts b).rows=r :: rs:=e;simp only [zBl,e'];rfl
  have ehi:((Y5 ts bs).getD ((Y5 ts bs).length - 1) .d).hi=(YF (Xe ts bs)).hi:=by
   rw [ll,Qe (by lia)]
   obtain ⟨rs,r,e,el⟩:=Ny ol.ne;rw [el];rcases zCV bs with z | ⟨bi,b,z⟩
   ·rw [z] at h2;simp at h2
   ·rw [zCW] at z;have eb:bs.getD (bs.length - 1) 0=b:=by rw [z];simp [zAC]
    rw [eb] at e;have er:Y2 ts bs=Y2 ts bi++rs++[r]:=by rw [z];simp [Y2,e]
    unfold YF Xe;simp only [er];simp [zAC]
  have em:((Y5 ts bs).map YL.m).sum=(YF (Xe ts bs)).m:=by
   have:∀ l:List Nat,((Y5 ts l).map YL.m).sum=((Y2 ts l).length:Int):=fun l=>by
    induction l with
    | nil=>rfl
    | cons b l ih=>
     have e1:Y5 ts (b :: l)=YF (gd ts b) :: Y5 ts l:=rfl;have e2:Y2 ts (b :: l)=(gd ts b).rows++Y2 ts l:=by simp [Y2]
     rw [e1,e2,zAn,zCi,ih,zAI];show ((gd ts b).rows.length:Int)+_=_
     lia
   exact this bs
  have eh:((Y5 ts bs).getD 0 .d).h+1=(YF (Xe ts bs)).h:=by
   rw [Qe (by lia)]
   show ((gd ts (bs.getD 0 0)).h:Int)+1=(((gd ts (bs.getD 0 0)).h+1:Nat):Int)
   lia
  rw [elo,ehi,em,eh]
theorem WE.ext{gt:List KT}{ts:List ZT}{t:ZT}{i:Nat}{u:ZT}(h:WE gt ts i u)(hi:i<=ts.length):WE gt (ts++[t]) i u:=by
 refine ⟨h.ne,h.up,h.inn,h.leaf,fun z=>?_⟩;obtain ⟨h1,h2,h3,h4⟩:=h.stem z;have e:∀ b∈u.bs,gd (ts++[t]) b=gd ts b:=fun b hb=>Pw (by have:=(h3 b hb).1;lia)
 refine ⟨h1,h2,fun b hb=>⟨(h3 b hb).1,by rw [e b hb];exact (h3 b hb).2⟩,?_⟩
 rw [h4];clear h1 h2 h3 h4;have:∀ l:List Nat,(∀ b∈l,gd (ts++[t]) b=gd ts b)->(l.flatMap fun b=>(gd ts b).rows)=l.flatMap fun b=>(gd (ts++[t]) b).rows:=fun l hl=>by
  induction l with
  | nil=>rfl
  | cons b l ih=>rw [zBl,zBl,hl b (by simp),ih fun c hc=>hl c (zAN _ hc)]
 exact this _ e
theorem WF.push{gt:List KT}{ts:List ZT}{t:ZT}(hw:WF gt ts)(h:WE gt ts ts.length t):WF gt (ts++[t]):=fun i u e=>by
 rcases zAe i ts.length with hi | hi
 ·rw [zA2 hi] at e;exact (hw i u e).ext (zBH hi)
 ·rw [zAv hi] at e;have hi0:i - ts.length=0:=by
   rcases Nat.eq_zero_or_pos (i - ts.length) with z | z
   ·exact z
   ·rw [zCU (by simp;lia)] at e;cases e
  rw [hi0] at e;simp at e;subst e;have:i=ts.length:=by lia
  rw [this];exact h.ext (zAH _)
theorem Bh{gt:List KT}{ts:List ZT}(hw:WF gt ts){bs:List Nat}(hb:∀ b∈bs,b<ts.length){L:YL}(h:over (Y5 ts bs)=some L):WE gt ts ts.length (Xe ts bs):=by
 obtain ⟨_,_,h2,h4,hh,hup,jA⟩:=KO hw hb h;refine ⟨jA,hup,fun r hr=>?_,fun z=>absurd z (by show (gd ts (bs.getD 0 0)).h+1≠0;lia),fun _=>⟨h2,h4,fun b hb'=>⟨hb b hb',hh b hb'⟩,rfl⟩⟩
 obtain ⟨b,hb',hr'⟩:=zC0.mp hr;exact (hw b _ (Xk (hb b hb'))).inn r hr'
theorem Gn{gt:List KT}{ts:List ZT}(hw:WF gt ts){bs:List Nat}(hb:∀ b∈bs,b<ts.length)(i:Nat):((Y5 ts bs).getD i .d).fit:=by
 rcases zAe i bs.length with hi | hi
 ·rw [Qe hi];refine Ms (hw _ _ (Xk (hb _ ?_)));rw [zAC,zAE hi];exact zBE _
 ·rw [zAC,zCU (by unfold Y5;rw [zAD];exact hi)]
  exact Ea
abbrev Fm:List Str:=["labels","at","many"]
theorem Um:ZD Fm ["labels"] (Zg Lm):=Zu
theorem ZKA(D:ZB P w K mg base 6 "is_key" ["thing"] XG):ZB P w K mg base 6 "is_key" ["thing"] Vd:=by
 obtain ⟨g,gd,FG,b,kp,m⟩:=D.ex;refine ⟨g,gd,FG.imp fun vs H Q E h=>?_,b,kp,m⟩;obtain ⟨v,t,q,e,hk,hf,k⟩:=h;exact ⟨v,t.emb,fun _=>False,e,MU t v hk,M5 t q hf,fun H' s'=>by rw [Mz];exact k H' s'⟩
end
theorem Fe{ls:List YL}{L:YL}(h:over ls=some L):2<=ls.length/\ls.length<=4/\O8 ls=true/\L=⟨(ls.getD 0 .d).h+1,(ls.getD 0 .d).lo,(ls.getD (ls.length - 1) .d).hi,(ls.map YL.m).sum⟩:=by
 unfold over at h;split at h
 ·rename_i z
  cases h;exact ⟨z.1,z.2.1,z.2.2,rfl⟩
 ·cases h
section
variable{P:Program}{w:World}{K:zAA}{mg:jb}{base:Heap}{f:Addr}{fd:FuncData}{jg jh:Addr}
inductive WT(vs:je)(H:Hp)(Q:VK)(_:XK):Prop
 | mk (l:Addr) (us:je) (ls:List YL) (L:YL) (_:vs=[.ref l]) (_:H l=some (.lst us)) (_:YZ H ls us) (_:∀ i,(ls.getD i .d).fit) (_:over ls=some L) (_:∀ H' v,ZA H H'->ZE H' L.kt v->Q v H')
theorem Br(F:Zq K "label_over" "label_over" Lm f fd)(T:YD mg)(DS:ZB P w K mg base 8 "stand_side_by_side" ["label","following"] Va):ZM P w K mg base ZU 9 f fd ["labels"] WT:=by
 refine F.ok Um (fun vs H Q E h=>(by obtain ⟨_,_,_,_,rfl,_⟩:=h;rfl)) (fun cdv A outer s H vs Q E hr h=>?_)
 obtain ⟨l,us,ls,L,rfl,hl,hk,hf,hov,k⟩:=h;obtain ⟨v2,v4,vc,rfl⟩:=Fe hov;have nd:=Um.nd;have hlen:=hk.1;obtain ⟨tf,mf⟩:=T.few;obtain ⟨tm,mm⟩:=T.most;obtain ⟨t0,m0⟩:=T.height;obtain ⟨t1,m1⟩:=T.least;obtain ⟨t2,m2⟩:=T.greatest;obtain ⟨t3,m3⟩:=T.many;refine ⟨_,ZQ (Z1 (Uj (KQ PM PM (WL (v:=.int 2) rfl mf ⟨_,rfl⟩) (Z0 Xh rfl T.len XT (ZG (pv 0) ZH)) (WL (v:=.int 4) rfl mm ⟨_,rfl⟩))) Qc Z8)
  (ZQ (V7 PassesOwn.never rfl (N3 rfl T.range (ZG ZL (ZG (Z0 Xh rfl T.len XT (ZG (pv 0) ZH)) ZH))) (Xd 1 nd)
   (ZW (Z1 (Uj (Xo (Zh DS hr (ZG (Zp (r:=YR K) Ya (pv 0) (Zo VZ (pv 1) ZL) (fun _ _=>rfl)) (ZG (Zp (r:=YR K) Ya (pv 0) (pv 1) (fun _ _=>rfl)) ZH))))) Qc Z8)))
  (ZQ (Zj 2 nd (Z0 (ZNL rfl) rfl T.sum CJ (ZG (Wx [] [] rfl (VL (pv 0)) (fun _ _ _ _ _=>Vk) (fun _ _ _ _ _=>Zp (r:=YR K) Ya (pv 0) (WL (v:=.int 3) rfl m3 ⟨_,rfl⟩) (fun _ _=>rfl)) trivial) ZH)))
  (ZW (Zk (Yh (VH (Zo Xn (Zp (r:=YR K) Ya (Zp (r:=YR K) Ya (pv 0) ZL (fun _ _=>rfl)) (WL (v:=.int 0) rfl m0 ⟨_,rfl⟩) (fun _ _=>rfl)) ZL)
   (Zp (r:=YR K) Ya (Zp (r:=YR K) Ya (pv 0) ZL (fun _ _=>rfl)) (WL (v:=.int 1) rfl m1 ⟨_,rfl⟩) (fun _ _=>rfl))
   (Zp (r:=YR K) Ya (Zp (r:=YR K) Ya (pv 0) (QD U9 ZL) (fun _ _=>rfl)) (WL (v:=.int 2) rfl m2 ⟨_,rfl⟩) (fun _ _=>rfl))
   (pv 2))))))),?_⟩
 have lab:∀(H':Hp)(i:Nat),ZA H H'->i<us.length->∃(a:Addr)(jM jQ:V),us[i]? = some (.ref a)/\H' a=some (.tup [.int (ls.getD i .d).h,jM,jQ,.int (ls.getD i .d).m])/\ZE H' (ls.getD i .d).lo jM/\ZE H' (ls.getD i .d).hi jQ:=fun H' i s' hi=>by
  have hu:us[i]? = some us[i]:=zAE hi;obtain ⟨a,jM,jQ,e,e1,k1,k2⟩:=(hk.2 i _ hu).mono (ZA.tups s');exact ⟨a,jM,jQ,by rw [hu,e],e1,k1,k2⟩
 refine ⟨_,rfl,l,us,rfl,.inl (ZK.of hl),_,_,rfl,rfl,_,rfl,?_⟩;have h2:2<=us.length:=by lia
 have h4:us.length<=4:=by lia
 rw [decide_eq_true (show (2:Int)<=(us.length:Int) by lia)]
 refine Z9 ⟨_,_,rfl,rfl,_,rfl,?_⟩;rw [decide_eq_true (show (us.length:Int)<=4 by lia)]
 refine Zr ?_;refine ⟨_,rfl,l,us,rfl,.inl (ZK.of hl),1,(us.length:Int),rfl,⟨by lia,by lia,by lia,by lia⟩,?_⟩
 refine Qp (lo:=1) (n:=((us.length:Int) - 1).toNat) (fun i σ H2=>∃ x:jf,σ=[some (.ref l),x,none]/\ZA H H2/\∀ j,j<i->Ui (ls.getD j .d) (ls.getD (j+1) .d)=true) ⟨_,rfl,ZA.refl H,fun j hj=>absurd hj (by lia)⟩ ?_ ?_
 ·rintro i σ H2 hi ⟨x,rfl,s2,hok⟩;have hi1:i+1<us.length:=by lia
  have ua:us[i]? = some (us[i]'(by lia)):=zAE (by lia)
  have ub:us[i+1]? = some us[i+1]:=zAE hi1;have e1:(1:Int)+(i:Int)=((i+1:Nat):Int):=by lia
  have e0:(1:Int)+(i:Int) - 1=((i:Nat):Int):=by lia
  have hl2:=s2 _ _ hl;refine ⟨_,rfl,_,rfl,_,_,rfl,rfl,.inl ⟨l,us,_,_,rfl,rfl,ZK.of hl2,(by rw [e0];exact Xb ua),?_⟩⟩
  refine ⟨_,rfl,_,rfl,.inl ⟨l,us,_,_,rfl,rfl,ZK.of hl2,(by rw [e1];exact Xb ub),?_⟩⟩
  refine ⟨_,_,ls.getD i .d,ls.getD (i+1) .d,rfl,(hk.2 i _ ua).mono (ZA.tups s2),(hk.2 (i+1) _ ub).mono (ZA.tups s2),hf i,hf (i+1),fun H3 s3=>⟨_,rfl,?_⟩⟩;have hc:Ui (ls.getD i .d) (ls.getD (i+1) .d)=true:=zAO.mp vc i (zA7.mpr (by lia))
  rw [hc];refine Zr ⟨_,rfl,s2.trans s3,fun j hj=>?_⟩;rcases zAe j i with c1 | c1
  ·exact hok j c1
  ·have:j=i:=by lia
   rw [this];exact hc
 rintro σ H2 ⟨x,rfl,s2,hok⟩;have hl2:=s2 _ _ hl;refine ⟨_,rfl,l,rfl,⟨us,ZK.of hl2⟩,?_⟩;refine Vb (n:=us.length) (fun i z=>us[i]? = some z) (fun D i ys H3=>ZA H2 H3/\H2 D=none/\ys=((ls.map YL.m).take i).map V.int) (Yp (by lia))
  (fun D i ys H3 hi hP=>⟨us,us[i],ZK.of (hP.1 _ _ hl2),by simp [hi]⟩) (fun D i ys H3 z H4 hi hP hy=>⟨hy.1,hy.2 us (ZK.of (hP.1 _ _ hl2))⟩) (fun D ys H3 hP=>⟨us,ZK.of (hP.1 _ _ hl2),zAH _⟩)
  (fun D hD=>⟨ZS hD _,hD,rfl⟩) (fun D i ys H3 z eD hl' hi hz hP R hR=>?_) (fun D ys H3 eD hP=>?_)
 ·obtain ⟨s3,nD,rfl⟩:=hP;obtain ⟨a,alo,ahi,ua,ea,ka1,ka2⟩:=lab H3 i (s2.trans s3) hi;rw [ua] at hz;cases hz;refine ⟨_,rfl,.inr (.inl ⟨a,_,_,.int (ls.getD i .d).m,rfl,rfl,Zn.of ea,rfl,?_⟩)⟩;refine hR _ H3 eD ⟨fun b o e=>by rw [ZX (Zb e nD)];exact s3 b o e,nD,?_⟩
  have eg:(ls.map YL.m)[i]? = some (ls.getD i .d).m:=by
   rw [zAM,zAC,zAE (show i<ls.length by lia)]
   rfl
  rw [zAo,eg,zAV];rfl
 ·obtain ⟨s3,nD,rfl⟩:=hP;rw [zAU (by rw [zAD];lia)] at eD
  refine ⟨D,ls.map YL.m,rfl,ZK.of eD,?_⟩;have s23:=s2.trans s3;have hl3:=s23 _ _ hl;obtain ⟨c,clo,chi,uc,ec,kc1,kc2⟩:=lab H3 0 s23 (by lia)
  obtain ⟨b,blo,bhi,ub,eb,kb1,kb2⟩:=lab H3 (us.length - 1) s23 (by lia)
  have elast:X8 us (-1)=some (.ref b):=by
   have e:us=us.dropLast++[.ref b]:=by
    have jA:us≠[]:=fun z=>by rw [z] at h2;simp at h2
    have hg:us.getLast jA=.ref b:=by
     rw [zDN];have:=(zAK.mp ub).2;exact this
    rw [<-hg,zC6]
   rw [e];exact Hn _ _
  refine ⟨_,rfl,.inl ⟨l,us,_,.ref c,rfl,rfl,ZK.of hl3,Xb (j:=0) uc,.inr (.inl ⟨c,_,_,.int (ls.getD 0 .d).h,rfl,rfl,Zn.of ec,rfl,_,_,rfl,rfl,?_⟩)⟩⟩;refine ⟨_,rfl,.inl ⟨l,us,_,.ref c,rfl,rfl,ZK.of hl3,Xb (j:=0) uc,.inr (.inl ⟨c,_,_,clo,rfl,rfl,Zn.of ec,rfl,?_⟩)⟩⟩;refine ⟨_,rfl,1,rfl,.inl ⟨l,us,_,.ref b,rfl,rfl,ZK.of hl3,elast,.inr (.inl ⟨b,_,_,bhi,rfl,rfl,Zn.of eb,rfl,?_⟩)⟩⟩;refine ⟨_,rfl,nn (zAB rfl),fun p hp=>?_⟩;have g:=ZS hp (.tup [.int ((ls.getD 0 .d).h+1),clo,bhi,.int (ls.map YL.m).sum]);refine k _ _ (s23.trans g) ?_;rw [<-hlen];exact .tup ZN (.cons (.int _) (.cons (kc1.mono (ZA.tups g) _ _) (.cons (kb2.mono (ZA.tups g) _ _) (.cons (.int _) .nil))))
abbrev LV:Stmt:=We (Zt 43) 19
abbrev Ni:Stmt:=We (Zt 43) 20
abbrev MX:Stmt:=We (Zt 43) 2
inductive Yn(jg jh:Addr)(vs:je)(H:Hp)(Q:VK)(_:XK):Prop
 | mk (S d lk l:Addr) (ts:List ZT) (av:Nat->List Nat) (ho:Nat->Nat) (as:List Z5) (kvs:List (ZZ×V)) (ls:je) (bs:List Nat) (_:vs=[.ref S,.ref l]) (_:YT jg jh H S d lk ts av ho as kvs ls) (_:H l=some (.lst (iN bs))) (_:∀ b∈bs,b<ts.length) (_:bs.length<=100) (_:∀(D:Addr)(us:je)(H':Hp),ZA H H'->H D=none->H' D=some (.lst us)->YZ H' (Y5 ts bs) us->Q (.ref D) H')
theorem GX:ZD ["self","numbers"] ["self","numbers"] (Zg LV):=Zu
theorem LE{bs:List Nat}{i:Nat}{z:V}(h:(iN bs)[i]? = some z):∃ b,bs[i]? = some b/\z=.int (b:Nat):=by
 unfold iN at h;rw [zAM] at h;obtain ⟨b,e,rfl⟩:=zAa.mp h;exact ⟨b,e,rfl⟩
theorem Ax(F:Zq K "labels_of" "Shelf.labels_of" LV f fd)(L:Yt K mg jg jh)(DL:ZJ P w K mg base ZU 2 jg "label" ["self","number"] (WG jg jh fun tg _ _=>tg)):ZM P w K mg base ZU 3 f fd ["self","numbers"] (Yn jg jh):=by
 refine F.ok GX (fun vs H Q E h=>(by obtain ⟨_,_,_,_,_,_,_,_,_,_,_,rfl,_⟩:=h;rfl)) (fun cdv A outer s H vs Q E hr h=>?_)
 obtain ⟨S,d,lk,l,ts,av,ho,as,kvs,ls,bs,rfl,R,hl,hb,h100,k⟩:=h;have li:(iN bs).length=bs.length:=zAD _;refine ⟨_,ZW (Zk (Wx [0] ["self"] rfl (VL (pv 1)) (fun _ _ _ _ _=>Vk) (fun _ _ _ _ _=>Xf (E:=E0) (pv 1) L.cS DL hr XE (ZG (pv 0) ZH)) ⟨rfl,.inl rfl,rfl,trivial⟩)),?_⟩;refine ⟨_,rfl,l,rfl,⟨_,ZK.of hl⟩,?_⟩;refine Vb (n:=(iN bs).length) (fun i z=>(iN bs)[i]? = some z) (fun D i ys H3=>ZA H H3/\H D=none/\YZ H3 (Y5 ts (bs.take i)) ys) (Yp (by lia))
  (fun D i ys H3 hi hP=>⟨_,(iN bs)[i],ZK.of (hP.1 _ _ hl),zAE hi⟩) (fun D i ys H3 z H4 hi hP hy=>⟨hy.1,hy.2 _ (ZK.of (hP.1 _ _ hl))⟩) (fun D ys H3 hP=>⟨_,ZK.of (hP.1 _ _ hl),zAH _⟩)
  (fun D hD=>⟨ZS hD _,hD,rfl,fun i u e=>by simp at e⟩) (fun D i ys H3 z eD hl' hi hz hP RR jY=>?_) (fun D us H3 eD hP=>?_)
 ·obtain ⟨s3,nD,hk⟩:=hP;obtain ⟨b,eb,rfl⟩:=LE hz;have hbl:=hb b (zAJ eb);have R3:=R.same s3;obtain ⟨dx,hS⟩:=R3.sh.self;refine ⟨_,rfl,S,dx,_,rfl,hS,rfl,_,rfl,S,d,lk,ts.length,kvs,ls,(b:Int),_,_,_,_,_,_,rfl,⟨R3.sh,R3.val b hbl,(R3.tw b hbl).tw⟩,?_⟩;refine jY _ H3 eD ⟨V2 s3 nD,nD,?_⟩;have tD:Z6 H3 (upd H3 D (.lst (ys++[.ref (as.getD b .d).tg]))):=fun c xs e=>by rw [ZX (ZV e eD)];exact e
  rw [zAo,eb];have e2:Y5 ts (bs.take i++(some b).toList)=Y5 ts (bs.take i)++[YF (gd ts b)]:=by unfold Y5;simp
  rw [e2];exact (hk.snoc (R3.tw b hbl).tag).mono tD
 ·obtain ⟨s3,nD,hk⟩:=hP;rw [zAU (by lia)] at hk
  exact k D us H3 s3 nD eD hk
inductive YA(jg jh:Addr)(vs:je)(H:Hp)(Q:VK)(_:XK):Prop
 | mk (S l:Addr) (ns:List Int) (_:vs=[.ref S,.ref l]) (_:H l=some (.lst (ns.map V.int))) (_:∃ dx fs,H S=some (.ins jg dx fs)/\fs.lookup (zAy "outside")=none) (_:∀ n∈ns,∃(d lk:Addr)(m:Nat)(kvs:List (ZZ×V))(ls:je)(x:Addr)(th tg:V)(ab:Addr)(ho:Nat)(us:je),Wt jg jh H S d lk m kvs ls n x th tg ab ho us/\1<=ho) (_:Q .non H)
theorem Xc:ZD ["self","numbers","number"] ["self","numbers"] (Zg Ni):=Zu
theorem EQ(F:Zq K "check_held" "Shelf.check_held" Ni f fd)(L:Yt K mg jg jh)(DO:ZJ P w K mg base ZU 2 jg "outside" ["self","number"] (WG jg jh fun _ ho _=>.int ho)):ZM P w K mg base ZU 3 f fd ["self","numbers"] (YA jg jh):=by
 refine F.ok Xc (fun vs H Q E h=>(by obtain ⟨_,_,_,rfl,_⟩:=h;rfl)) (fun cdv A outer s H vs Q E hr h=>?_)
 obtain ⟨S,l,ns,rfl,hl,⟨dx,fs,hS,js⟩,hb,k⟩:=h;have nd:=Xc.nd;refine ⟨_,ZW (V7 PassesOwn.never rfl (VL (pv 1)) (Xd 2 nd)
  (ZW (Z1 (YN X9 (Xf (E:=E0) (pv 0) L.cS DO hr XE (ZG (pv 2) ZH)) ZL (Zy _)) Qc Z8))),?_⟩
 refine ⟨_,rfl,l,rfl,⟨_,ZK.of hl⟩,Pf (K:=K) (a:=l) (xs:=ns.map V.int) (fun i σ H2=>∃ x:jf,σ=[some (.ref S),some (.ref l),x]/\H2=H) ⟨_,rfl,rfl⟩ (fun i σ H2 _ hP=>by obtain ⟨_,_,rfl⟩:=hP;exact ZK.of hl) ?_ ?_⟩
 ·rintro i u σ H2 hu2 ⟨x,rfl,rfl⟩;rw [zAM] at hu2;obtain ⟨n,en,rfl⟩:=zAa.mp hu2;obtain ⟨d,lk,m,kvs,ls,x',th,tg,ab,ho,us,R,h1⟩:=hb n (zAJ en);refine ⟨_,rfl,S,dx,_,rfl,hS,js,_,rfl,S,d,lk,m,kvs,ls,n,x',th,tg,ab,ho,us,rfl,R,rfl,_,rfl,?_⟩;rw [decide_eq_false (fun z=>by have:=UC z;lia)]
  exact Zr ⟨_,rfl,rfl⟩
 ·rintro σ H2 ⟨x,rfl,rfl⟩;exact k
inductive Zz(gt:List KT)(jg jh:Addr)(vs:je)(H:Hp)(Q:VK)(_:XK):Prop
 | mk (S d lk l:Addr) (ts:List ZT) (av:Nat->List Nat) (ho:Nat->Nat) (as:List Z5) (kvs:List (ZZ×V)) (ls:je) (bs:List Nat) (Lb:YL) (_:vs=[.ref S,.ref l]) (_:YT jg jh H S d lk ts av ho as kvs ls) (_:WF gt ts) (_:ts.length<=800) (_:∀ b∈bs,b<ts.length/\1<=ho b/\(av b).length<=800) (_:H l=some (.lst (iN bs))) (_:over (Y5 ts bs)=some Lb) (_:∀(H':Hp)(a:Z5),H a.x=none->H a.th=none->H a.ab=none->(∀ c o,c≠S->c≠d->(∀ b:Nat,b<ts.length->c≠(as.getD b .d).x/\c≠(as.getD b .d).ab)->H c=some o->H' c=some o)->YT jg jh H' S d lk (ts++[Xe ts bs]) (Ua bs ts.length (UT ts.length av)) (UL bs (Ug ts.length ho)) (as++[a]) (XD kvs (.inl (ts.length:Int)) (.ref a.x)) ls->Q (.int (ts.length:Nat)) H')
abbrev G0:List Str:=["self","numbers","branches","label","number"]
theorem WM:ZD G0 ["self","numbers"] (Zg MX):=Zu
theorem En(bs:List Nat):iN bs=(bs.map fun b:Nat=>(b:Int)).map V.int:=by unfold iN;rw [zB3];rfl
theorem GY{gt:List KT}(F:Zq K "put_stem" "Shelf.put_stem" MX f fd)(T:YD mg)(L:Yt K mg jg jh)(DL:ZJ P w K mg base ZU 3 jg "labels_of" ["self","numbers"] (Yn jg jh))(DO:ZB P w K mg base 9 "label_over" ["labels"] WT)(DC:ZJ P w K mg base ZU 3 jg "check_held" ["self","numbers"] (YA jg jh))(DT:ZJ P w K mg base ZU 3 jg "put_twig" ["self","things","label"] (Yu jg jh))(DK:ZJ P w K mg base ZU 2 jg "take_over" ["self","stem","branches"] (XC jg jh)):
  ZM P w K mg base ZU 10 f fd ["self","numbers"] (Zz gt jg jh):=by
 refine F.ok WM (fun vs H Q E h=>(by obtain ⟨_,_,_,_,_,_,_,_,_,_,_,_,rfl,_⟩:=h;rfl)) (fun cdv A outer s H vs Q E hr h=>?_)
 obtain ⟨S,d,lk,l,ts,av,ho,as,kvs,ls,bs,Lb,rfl,R,hw,t800,hbb,hl,hov,q3⟩:=h;have hb:∀ b∈bs,b<ts.length:=fun b h=>(hbb b h).1;have nd:=WM.nd;have hr3:=hr.mono (show 3<=9 by lia)
 have hr2:=hr.mono (show 2<=9 by lia)
 obtain ⟨eL,jL,hb2,hb4,hhh,hup,jA⟩:=KO hw hb hov;refine ⟨_,ZQ (Zj 2 nd (WA UJ rfl T.list UK (ZG (pv 1) ZH)))
  (ZQ (Zj 3 nd (Zh DO hr (ZG (Xf (E:=E0) (pv 0) L.cS DL hr3 XE (ZG (pv 2) ZH)) ZH)))
  (ZQ (WP (Xf (E:=E0) (pv 0) L.cS DC hr3 XE (ZG (pv 2) ZH)))
  (ZQ (Zj 4 nd (Xf (E:=E0) (pv 0) L.cS DT hr3 XE (ZG (pv 2) (ZG (pv 3) ZH))))
  (ZQ (WP (Xf (E:=E0) (pv 0) L.cS DK hr2 XE (ZG (pv 4) (ZG (pv 2) ZH))))
  (ZW (Zk (pv 4))))))),?_⟩
 refine ⟨_,rfl,l,iN bs,rfl,.inl (ZK.of hl),fun D nD=>?_⟩;have g1:=ZS nD (.lst (iN bs));have hD1:upd H D (.lst (iN bs)) D=some (.lst (iN bs)):=ZN;generalize upd H D (.lst (iN bs))=H1 at g1 hD1 ⊢;have R1:=R.same g1;obtain ⟨dx1,hS1⟩:=R1.sh.self;refine ⟨_,rfl,S,dx1,_,rfl,hS1,rfl,_,rfl,S,d,lk,D,ts,av,ho,as,kvs,ls,bs,rfl,R1,hD1,hb,by lia,fun D2 us H2 s2 nD2 hD2 hk2=>?_⟩
 have s12:=g1.trans s2;refine ⟨D2,us,Y5 ts bs,Lb,rfl,hD2,hk2,Gn hw hb,hov,fun H3 v s3 kv=>?_⟩;subst eL;have s13:=s12.trans s3;have R3:=R.same s13;obtain ⟨dx3,hS3⟩:=R3.sh.self;have hD3:H3 D=some (.lst (iN bs)):=s3 _ _ (s2 _ _ hD1);refine ⟨_,rfl,S,dx3,_,rfl,hS3,rfl,_,rfl,S,D,bs.map (fun b:Nat=>(b:Int)),rfl,by rw [<-En];exact hD3,⟨dx3,_,hS3,rfl⟩,fun n hn=>?_,?_⟩
 ·obtain ⟨b,hb',rfl⟩:=zAb.mp hn;have hbl:=hbb b hb';exact ⟨d,lk,ts.length,kvs,ls,_,_,_,_,_,_,⟨R3.sh,R3.val b hbl.1,(R3.tw b hbl.1).tw⟩,hbl.2.1⟩
 have kl:=NH kv;obtain ⟨tg,jM,jQ,rfl,htg,_,_⟩:=kl;have kl4:=NH kv;refine ⟨_,rfl,S,dx3,_,rfl,hS3,rfl,_,rfl,_,rfl,S,d,lk,ts.length,kvs,ls,.ref D,.ref tg,rfl,R3.sh,by rw [KM R];lia,fun H5 x ab nx nab fr R5 W5=>?_⟩
 have tup5:Z6 H3 H5:=fun b ys e=>fr b _ (ZV e hS3) (ZV e R3.sh.kept) e;have hD5:H5 D=some (.lst (iN bs)):=fr _ _ (ZV hD3 hS3) (ZV hD3 R3.sh.kept) hD3;have PP:=JX (t:=Xe ts bs) (x:=x) (th:=D) (tg:=tg) (ab:=ab) R (H':=H5) (fun b o n1 n2 e=>fr b o n1 n2 (s13 b o e)) (s13.free nx) nD (s13.free nab) (Zb hD3 nab).symm R5 W5
  ⟨iN bs,hD5,fun z=>absurd z (by show (gd ts (bs.getD 0 0)).h+1≠0;lia),fun _=>rfl⟩ (kl4.mono tup5)
 obtain ⟨dx5,hS5⟩:=R5.self;have el:as.length=ts.length:=R.len;have aL:∀ b,b<ts.length->(as++[(⟨x,D,tg,ab⟩:Z5)]).getD b .d=as.getD b .d:=fun b hb=>N4 (by lia)
 have aN:(as++[(⟨x,D,tg,ab⟩:Z5)]).getD ts.length .d=⟨x,D,tg,ab⟩:=by rw [<-el];exact ME
 have en:(ts++[Xe ts bs]).length=ts.length+1:=by simp
 refine ⟨_,rfl,S,dx5,_,rfl,hS5,rfl,_,rfl,_,rfl,S,d,lk,D,_,_,_,_,_,ls,bs,ts.length,rfl,PP,hD5,jL,fun b hb'=>?_,fun b hb'=>?_,fun H6 fr6 no6 R6=>⟨_,rfl,?_⟩⟩
 ·have hbl:=hbb b hb';have nb:b≠ts.length:=by lia
  refine ⟨by lia,?_,?_⟩
  ·rw [show Ug ts.length ho b=ho b from if_neg nb];exact hbl.2.1
  ·rw [show UT ts.length av b=av b from if_neg nb];lia
 ·rw [en] at hb';rcases zAe b ts.length with c | c
  ·rw [aL b c];exact (Zb (R.tw b c).tw.above nD).symm
  ·have:b=ts.length:=by lia
   rw [this,aN];exact Zb hD3 nab
 ·refine q3 H6 ⟨x,D,tg,ab⟩ (s13.free nx) nD (s13.free nab) (fun c o n1 n2 n3 e=>?_) R6;refine fr6 c o (fun b hb'=>?_) (fr c o n1 n2 (s13 c o e));rw [en] at hb';rcases zAe b ts.length with z | z
  ·rw [aL b z];exact n3 b z
  ·have:b=ts.length:=by lia
   rw [this,aN];exact ⟨Zb e (s13.free nx),Zb e (s13.free nab)⟩
theorem Dn(rs:List Yg):(YF (Vh rs)).kt=OV (rs.map (·.1)):=by
 have lks:(rs.map (·.1)).length=rs.length:=zAD _;have e0:(rs.map (·.1)).getD 0 (.int 0)=(rs.getD 0 rd).1:=by
  rw [zAC,zAC,zAM];cases rs[0]? <;> rfl
 have e1:(rs.map (·.1)).getD (rs.length - 1) (.int 0)=(rs.getD (rs.length - 1) rd).1:=by
  rw [zAC,zAC,zAM];cases rs[rs.length - 1]? <;> rfl
 unfold OV YF Vh YL.kt;rw [lks,e0,e1];rfl
inductive Yb(jg jh:Addr)(vs:je)(H:Hp)(Q:VK)(_:XK):Prop
 | mk (S d lk l:Addr) (n:Nat) (kvs:List (ZZ×V)) (ls us:je) (rs:List Yg) (_:vs=[.ref S,.ref l]) (_:Yy jg H S d lk n kvs ls) (_:kvs.length<=900) (_:H l=some (.lst us)) (_:KeysAt H (YQ rs) us) (_:QU rs) (_:∀(H':Hp)(x th tg ab:Addr),H x=none->H th=none->H ab=none->ab≠th->(∀ b o,b≠S->b≠d->H b=some o->H' b=some o)->Yy jg H' S d lk (n+1) (XD kvs (.inl (n:Int)) (.ref x)) ls->Xx jh H' x (.ref th) (.ref tg) ab 1 []->(∃ us',H' th=some (.lst us')/\KeysAt H' (YQ rs) us')->Yo H' (YF (Vh rs)) (.ref tg)->Q (.int (n:Nat)) H')
theorem AQ(F:Zq K "put_leaf" "Shelf.put_leaf" Ma f fd)(L:Yt K mg jg jh)(DC:ZB P w K mg base 9 "checked_rows" ["rows"] Xw)(DL:ZB P w K mg base 1 "label_of_rows" ["rows"] XU)(DT:ZJ P w K mg base ZU 3 jg "put_twig" ["self","things","label"] (Yu jg jh)):
  ZM P w K mg base ZU 10 f fd ["self","rows"] (Yb jg jh):=by
 refine F.ok WH (fun vs H Q E h=>(by obtain ⟨_,_,_,_,_,_,_,_,_,rfl,_⟩:=h;rfl)) (fun cdv A outer s H vs Q E hr h=>?_)
 obtain ⟨S,d,lk,l,n,kvs,ls,us,rs,rfl,R,l900,hl,hk,G,k⟩:=h;have nd:=WH.nd;have hr1:=hr.mono (show 1<=9 by lia)
 have hr3:=hr.mono (show 3<=9 by lia)
 refine ⟨_,ZQ (Zj 2 nd (Zh DC hr (ZG (pv 1) ZH)))
  (ZW (Zk (Xf (E:=E0) (pv 0) L.cS DT hr3 XE (ZG (pv 2) (ZG (Zh DL hr1 (ZG (pv 2) ZH)) ZH))))),?_⟩
 refine ⟨_,rfl,l,us,rs,rfl,hl,hk,G,fun H1 l' us' s1 nl' hl' hk'=>?_⟩;have R1:=R.same s1;obtain ⟨dx,hS⟩:=R1.self;have lu:us'.length=rs.length:=by have:=hk'.length;rw [<-this];exact zAD _
 refine ⟨_,rfl,S,dx,_,rfl,hS,rfl,_,rfl,_,rfl,l',us',rs.map (·.1),rfl,hl',Fj hk',by rw [lu];exact G.2.1,fun H2 v s2 kv=>?_⟩
 rw [<-Dn] at kv;have kl:=NH kv;obtain ⟨tg,jM,jQ,rfl,htg,_,_⟩:=kl;have kl:=NH kv;have s12:=s1.trans s2;have R2:=R.same s12;refine ⟨S,d,lk,n,kvs,ls,.ref l',.ref tg,rfl,R2,l900,fun H3 x ab nx nab fr R3 W3=>?_⟩;obtain ⟨dx2,hS2⟩:=R2.self;have tup3:Z6 H2 H3:=fun b ys e=>fr b _ (ZV e hS2) (ZV e R2.kept) e;have hl2:=s2 _ _ hl';have hl3:H3 l'=some (.lst us'):=fr _ _ (ZV hl2 hS2) (ZV hl2 R2.kept) hl2;exact k H3 x l' tg ab (s12.free nx) nl' (s12.free nab) (Zb hl2 nab).symm (fun b o n1 n2 e=>fr b o n1 n2 (s12 b o e)) R3 W3 ⟨us',hl3,hk'.mono (fun b xs e=>tup3 b xs (s2 _ _ e)) _ _⟩ (kl.mono tup3)
theorem ZHI(D:ZJ P w K mg base ZU 10 jg "put_leaf" ["self","rows"] (Yb jg jh)):ZJ P w K mg base ZU 10 jg "put_leaf" ["self","rows"] (YS jg jh):=by
 obtain ⟨g,gd,M,FG,b⟩:=D.ex;refine ⟨g,gd,M,FG.imp fun vs H Q E h=>?_,b⟩;obtain ⟨S,d,lk,l,ts,av,ho,as,kvs,ls,us,rs,e,R,l900,hl,hk,G,k⟩:=h;refine ⟨S,d,lk,l,ts.length,kvs,ls,us,rs,e,R.sh,by rw [KM R];exact l900,hl,hk,G,fun H' x th tg ab nx nth nab abth fr R' W hth htg=>?_⟩
 obtain ⟨us',h1,h2⟩:=hth;exact k H' ⟨x,th,tg,ab⟩ nx nth nab fr (JX (t:=Vh rs) R fr nx nth nab abth R' W ⟨us',h1,fun _=>h2,fun z=>absurd rfl z⟩ htg)
abbrev Mg:Stmt:=We (Zt 43) 5
abbrev NN:Stmt:=We (Zt 43) 6
structure Qs(jg jh:Addr)(H:Hp)(S d lk:Addr)(n:Nat)(kvs:List (ZZ×V))(ls:je)(i:Int)(x:Addr)(th:V)(tg ab:Addr)(ho:Nat):Prop where
 rd:Wt jg jh H S d lk n kvs ls i x th (.ref tg) ab ho []
 tag:∃ xs,H tg=some (.tup (.int 0 :: xs))
inductive VW(jg jh:Addr)(vs:je)(H:Hp)(Q:VK)(_:XK):Prop
 | mk (S d lk:Addr) (n:Nat) (kvs:List (ZZ×V)) (ls:je) (i:Int) (x:Addr) (th:V) (tg ab:Addr) (_:vs=[.ref S,.int i]) (_:Qs jg jh H S d lk n kvs ls i x th tg ab 0) (_:Q .non (upd H d (.dK (Uu kvs (.inl i)))))
theorem UM:ZD ["self","number","twig","branch"] ["self","number"] (Zg NN):=Zu
theorem Dt(F:Zq K "drop_unheld" "Shelf.drop_unheld" NN f fd)(L:Yt K mg jg jh)(DH:ZJ P w K mg base ZU 2 jg "holders" ["self","number"] (WG jg jh fun _ ho us=>.int ((us.length:Nat)+(ho:Nat):Int)))(DS:ZB P w K mg base 1 "is_stem" ["twig"] (Wf jh)):ZM P w K mg base ZU 3 f fd ["self","number"] (VW jg jh):=by
 refine F.ok UM (fun vs H Q E h=>(by obtain ⟨_,_,_,_,_,_,_,_,_,_,_,rfl,_⟩:=h;rfl)) (fun cdv A outer s H vs Q E hr h=>?_)
 obtain ⟨S,d,lk,n,kvs,ls,i,x,th,tg,ab,rfl,R,k⟩:=h;have nd:=UM.nd;have hr1:=hr.mono (show 1<=2 by decide)
 refine ⟨_,ZQ (Z1 (YN QW (Xf (E:=E0) (pv 0) L.cS DH hr XE (ZG (pv 1) ZH)) ZL (Zy _)) Qc Z8)
  (ZQ (Zj 2 nd (ES (WU (pv 0) rfl) (pv 1) ⟨rfl,rfl,rfl,rfl⟩))
  (ZW (Z1 (Xo (Zh DS hr1 (ZG (pv 2) ZH))) Qc Z8))),?_⟩
 obtain ⟨dx,hS⟩:=R.rd.sh.self;obtain ⟨xs,ht⟩:=R.tag;refine ⟨_,rfl,S,dx,_,rfl,hS,rfl,_,rfl,S,d,lk,n,kvs,ls,i,x,th,.ref tg,ab,0,[],rfl,R.rd,_,_,rfl,rfl,_,rfl,Zr ?_⟩;have hd:=R.rd.sh.kept;refine ⟨_,rfl,S,jg,dx,_,.ref d,rfl,hS,L.cS,L.nk,rfl,d,rfl,.inl ⟨kvs,Rd.of hd⟩,_,rfl,kvs,.inl i,.ref x,hd,rfl,R.rd.val,?_⟩;obtain ⟨dt,hx⟩:=R.rd.tw.self;have fr:∀ b o,b≠d->H b=some o->upd H d (.dK (Uu kvs (.inl i))) b=some o:=fun b o n e=>by rw [ZX n];exact e
 refine ⟨_,rfl,x,th,tg,ab,0,[],0,xs,rfl,⟨⟨dt,fr _ _ (ZV hx hd) hx⟩,fr _ _ (ZV R.rd.tw.above hd) R.rd.tw.above⟩,fr _ _ (ZV ht hd) ht,_,rfl,Zr k⟩
inductive Wo(jg jh:Addr)(vs:je)(H:Hp)(Q:VK)(_:XK):Prop
 | mk (S d lk:Addr) (n:Nat) (kvs:List (ZZ×V)) (ls:je) (i:Int) (x:Addr) (th:V) (tg ab:Addr) (_:vs=[.ref S,.int i]) (_:Qs jg jh H S d lk n kvs ls i x th tg ab 1) (_:x≠S) (_:∀ H',(∀ b o,b≠x->b≠d->H b=some o->H' b=some o)->H' d=some (.dK (Uu kvs (.inl i)))->Q .non H')
theorem Vt:ZD ["self","number","twig"] ["self","number"] (Zg Mg):=Zu
theorem ZKs(F:Zq K "let_go" "Shelf.let_go" Mg f fd)(L:Yt K mg jg jh)(DC:ZJ P w K mg base ZU 3 jg "check_held" ["self","numbers"] (YA jg jh))(DT:ZJ P w K mg base ZU 1 jg "twig_of" ["self","number"] (Z4 jg))(DD:ZJ P w K mg base ZU 3 jg "drop_unheld" ["self","number"] (VW jg jh)):
  ZM P w K mg base ZU 4 f fd ["self","number"] (Wo jg jh):=by
 refine F.ok Vt (fun vs H Q E h=>(by obtain ⟨_,_,_,_,_,_,_,_,_,_,_,rfl,_⟩:=h;rfl)) (fun cdv A outer s H vs Q E hr h=>?_)
 obtain ⟨S,d,lk,n,kvs,ls,i,x,th,tg,ab,rfl,R,xS,k⟩:=h;have nd:=Vt.nd;have hr1:=hr.mono (show 1<=3 by decide)
 refine ⟨_,ZQ (WP (Xf (E:=E0) (pv 0) L.cS DC hr XE (ZG (YM (ZG (pv 1) ZH)) ZH)))
  (ZQ (Zj 2 nd (Xf (E:=E0) (pv 0) L.cS DT hr1 XE (ZG (pv 1) ZH)))
  (ZQ (Hr (pv 2) ZL Ju)
  (ZW (WP (Xf (E:=E0) (pv 0) L.cS DD hr XE (ZG (pv 1) ZH)))))),?_⟩
 obtain ⟨dx,hS⟩:=R.rd.sh.self;refine ⟨_,rfl,S,dx,_,rfl,hS,rfl,_,rfl,nn (zAB rfl),fun l nl=>?_⟩;have g:=ZS nl (.lst [.int i]);have hl:=ZN (H:=H) (a:=l) (o:=.lst [.int i]);generalize upd H l (.lst [.int i])=H1 at g hl ⊢;have hS1:=g _ _ hS;have R1:=R.rd.same g;refine ⟨S,l,[i],rfl,hl,⟨dx,_,hS1,rfl⟩,fun m hm=>?_,?_⟩
 ·rw [zAS.mp hm];exact ⟨d,lk,n,kvs,ls,x,th,.ref tg,ab,1,[],R1,zAH _⟩
 refine ⟨_,rfl,S,dx,_,rfl,hS1,rfl,_,rfl,S,d,lk,n,kvs,ls,i,.ref x,rfl,R1.sh,R1.val,?_⟩;obtain ⟨dt,hx⟩:=R1.tw.self;obtain ⟨xs,ht⟩:=R.tag;have ht1:=g _ _ ht;refine ⟨_,rfl,x,jh,dt,_,.int (1:Nat),rfl,hx,L.cT,L.nho,rfl,_,_,rfl,rfl,dt,_,hx,zAB rfl,?_⟩;have hx2:upd H1 x (.ins jh dt (Y4 "holds" (.int (((1:Nat):Int) - 1)) (UD th (.ref tg) ab 1))) x=some (.ins jh dt (UD th (.ref tg) ab 0)):=by rw [ZN];rfl
 have fr:∀ b o,b≠x->H1 b=some o->upd H1 x (.ins jh dt (Y4 "holds" (.int (((1:Nat):Int) - 1)) (UD th (.ref tg) ab 1))) b=some o:=fun b o n e=>by rw [ZX n];exact e
 generalize upd H1 x (.ins jh dt (Y4 "holds" (.int (((1:Nat):Int) - 1)) (UD th (.ref tg) ab 1)))=H2 at hx2 fr ⊢;have hd1:=R1.sh.kept;have hk1:=R1.sh.looks;have hS2:=fr _ _ (Ne.symm xS) hS1;have R2:Qs jg jh H2 S d lk n kvs ls i x th tg ab 0:=⟨⟨⟨⟨dx,hS2⟩,fr _ _ (ZV hd1 hx) hd1,fr _ _ (ZV hk1 hx) hk1⟩,R1.val,⟨⟨dt,hx2⟩,fr _ _ (ZV R1.tw.above hx) R1.tw.above⟩⟩,⟨xs,fr _ _ (ZV ht1 hx) ht1⟩⟩;refine ⟨_,rfl,S,dx,_,rfl,hS2,rfl,_,rfl,S,d,lk,n,kvs,ls,i,x,th,tg,ab,rfl,R2,?_⟩;exact k _ (fun b o n1 n2 e=>by rw [ZX n2];exact fr _ _ n1 (g _ _ e)) ZN
end
structure Yx where
 S:Addr
 d:Addr
 ts:List ZT
 av:Nat->List Nat
 ho:Nat->Nat
 as:List Z5
 kvs:List (ZZ×V)
structure YE(jg jh:Addr)(H:Hp)(X:Yx)(lk:Addr)(c:Nat)(ls:je):Prop where
 sh:Yy jg H X.S X.d lk c X.kvs ls
 keys:X.kvs.map (·.1)=(zAi X.ts.length).map (fun i:Nat=>(Sum.inl (i:Int):ZZ))
 val:∀ i:Nat,i<X.ts.length->YJ X.kvs (Sum.inl (i:Int))=some (.ref (X.as.getD i .d).x)
 tw:∀ i:Nat,i<X.ts.length->Qa jh H X.ts X.av X.ho i (X.as.getD i .d)
 own:∀ i:Nat,i<X.ts.length->(X.as.getD i .d).x≠X.S/\(X.as.getD i .d).ab≠lk/\(X.as.getD i .d).th≠lk
 le:X.ts.length<=c
theorem MH{H H':Hp}{p:Addr}(w:ZF H p)(h:∀ o,H p=zAh o->H' p=zAh o):ZF H' p:=by
 obtain ⟨a,b,c,d,e,r⟩:=w.ex;exact ⟨a,b,c,d,h _ e,r⟩
section
variable{jg jh:Addr}{H H':Hp}{X:Yx}{lk lk':Addr}{c c':Nat}{ls ls':je}
theorem YT.q{S d:Addr}{ts:List ZT}{av:Nat->List Nat}{ho:Nat->Nat}{as:List Z5}{kvs:List (ZZ×V)}(R:YT jg jh H S d lk ts av ho as kvs ls):YE jg jh H ⟨S,d,ts,av,ho,as,kvs⟩ lk ts.length ls:=
 ⟨R.sh,R.keys,R.val,R.tw,fun i hi=>⟨(R.own i hi).1,(R.own i hi).2.1,(R.own i hi).2.2.1⟩,zAH _⟩
theorem YE.frame(R:YE jg jh H X lk c ls)(sh:Yy jg H' X.S X.d lk' c' X.kvs ls')(fr:∀ b o,b≠X.S->b≠X.d->b≠lk->H b=some o->H' b=some o)(own:∀ i:Nat,i<X.ts.length->(X.as.getD i .d).ab≠lk'/\(X.as.getD i .d).th≠lk')(le:X.ts.length<=c'):YE jg jh H' X lk' c' ls':=by
 obtain ⟨⟨dS,hS⟩,hd,hl⟩:=R.sh;refine ⟨sh,R.keys,R.val,fun i hi=>?_,fun i hi=>⟨(R.own i hi).1,own i hi⟩,le⟩;have W:=R.tw i hi;obtain ⟨dx,hx⟩:=W.tw.self;obtain ⟨us,e1,_⟩:=W.things;have ha:=W.tw.above;have o:=R.own i hi;exact W.frame (fun b xs e=>fr b _ (ZV e hS) (ZV e hd) (ZV e hl) e)
  (fun o' e=>fr _ _ o.1 (ZV hx hd) (ZV hx hl) e)
  (fun o' e=>fr _ _ (ZV e1 hS) (ZV e1 hd) o.2.2 e)
  (fun o' e=>fr _ _ (ZV ha hS) (ZV ha hd) o.2.1 e)
theorem YE.same(R:YE jg jh H X lk c ls)(s:ZA H H'):YE jg jh H' X lk c ls:=R.frame (R.sh.same s) (fun b o _ _ _ e=>s b o e) (fun i hi=>(R.own i hi).2) R.le
def Od(X:Yx)(lk:Addr)(b:Addr):Prop:=b=X.S\/b=X.d\/b=lk
theorem YE.but(R:YE jg jh H X lk c ls){p:Addr}(s:ZC p H H')(hp:¬ Od X lk p)(own:∀ i:Nat,i<X.ts.length->(X.as.getD i .d).x≠p/\(X.as.getD i .d).ab≠p/\(X.as.getD i .d).th≠p)(t:Z6 H H'):YE jg jh H' X lk c ls:=by
 obtain ⟨⟨dS,hS⟩,hd,hl⟩:=R.sh;refine ⟨⟨⟨dS,s _ _ hS fun z=>hp (.inl z.symm)⟩,s _ _ hd fun z=>hp (.inr (.inl z.symm)),s _ _ hl fun z=>hp (.inr (.inr z.symm))⟩,R.keys,R.val,fun i hi=>?_,R.own,R.le⟩;exact (R.tw i hi).frame t (fun o e=>s _ _ e (own i hi).1) (fun o e=>s _ _ e (own i hi).2.2) (fun o e=>s _ _ e (own i hi).2.1)
theorem YE.rd(R:YE jg jh H X lk c ls){i:Nat}(hi:i<X.ts.length):Wt jg jh H X.S X.d lk c X.kvs ls (i:Int) (X.as.getD i .d).x (.ref (X.as.getD i .d).th) (.ref (X.as.getD i .d).tg) (X.as.getD i .d).ab (X.ho i) (iN (X.av i)):=⟨R.sh,R.val i hi,(R.tw i hi).tw⟩
theorem YE.none(R:YE jg jh H X lk c ls){x:Int}(hx:inT X.ts x=false):YJ X.kvs (Sum.inl x)=zCw:=by
 cases z:YJ X.kvs (Sum.inl x) with
 | none=>rfl
 | some v=>
  have:=Hw z;rw [R.keys] at this;obtain ⟨i,hi,ei⟩:=zAb.mp this;have e1:=Sum.inl.inj ei;have e2:=zA7.mp hi;unfold inT at hx;have:=of_decide_eq_false hx
  lia
theorem YE.klen(R:YE jg jh H X lk c ls):X.kvs.length=X.ts.length:=by
 have:=congrArg zBh R.keys;simpa using this
end
section
variable{P:Program}{w:World}{K:zAA}{mg:jb}{base:Heap}{f:Addr}{fd:FuncData}{jg jh:Addr}
theorem Gr(t:ZT):(if ((t.h:Nat):Int) > 0 then ("stem" : Str) else "leaf")=kindOf t:=by
 unfold kindOf;by_cases h:t.h=0
 ·rw [if_pos h,if_neg (by lia)]
 ·rw [if_neg h,if_pos (by lia)]
inductive Wl(jg jh:Addr)(vs:je)(H:Hp)(Q:VK)(_:XK):Prop
 | mk (X:Yx) (lk:Addr) (c:Nat) (ls:je) (i:Nat) (_:vs=[.ref X.S,.int (i:Int)]) (_:YE jg jh H X lk c ls) (_:i<X.ts.length) (_:ls.length<=900) (_:∀(H':Hp)(tp l:Addr)(us:je),(∀ b o,b≠lk->H b=some o->H' b=some o)->YE jg jh H' X lk c (ls++[.int (i:Int)])->H' tp=some (.tup [.str (kindOf (gd X.ts i)),.ref l])->H l=none->H' l=some (.lst us)->((gd X.ts i).h=0->KeysAt H' (YQ (gd X.ts i).rows) us)->((gd X.ts i).h≠0->us=iN (gd X.ts i).bs)->Q (.ref tp) H')
theorem Fq(D:ZJ P w K mg base ZU 2 jg "look" ["self","number"] (VN jg jh)):ZJ P w K mg base ZU 2 jg "look" ["self","number"] (Wl jg jh):=by
 obtain ⟨g,gd',M,FG,b⟩:=D.ex;refine ⟨g,gd',M,FG.imp fun vs H Q E h=>?_,b⟩;obtain ⟨X,lk,c,ls,i,e,R,hi,l9,k⟩:=h;have W:=R.tw i hi;obtain ⟨us,hu,u1,u2⟩:=W.things;obtain ⟨a,jM,jQ,ea,ht,k1,k2⟩:=W.tag;cases ea;have o:=R.own i hi;refine ⟨X.S,X.d,lk,c,X.kvs,ls,i,_,_,_,_,_,_,us,_,_,e,R.rd hi,hu,ht,Ne.symm o.2.2,Ne.symm o.2.1,l9,fun H' l' t fr js nl' hl' ht'=>?_⟩;have hlk0:=R.sh.looks;have m:Z6 H H':=fun b xs e=>fr b _ (ZV e hlk0) e;obtain ⟨⟨dS,hS⟩,hd,_⟩:=R.sh;have ek:(if (YF (gd X.ts i)).h > 0 then ("stem" : Str) else "leaf")=kindOf (gd X.ts i):=Gr _
 rw [ek] at ht';exact k H' t l' us fr (R.frame ⟨⟨dS,fr _ _ (ZV hS hlk0) hS⟩,fr _ _ (ZV hd hlk0) hd,js⟩ (fun b o _ _ n e=>fr b o n e) (fun j hj=>(R.own j hj).2) R.le) ht' nl' hl' (fun z=>(u1 z).mono m _ _) u2
inductive VE(jg jh:Addr)(vs:je)(H:Hp)(Q:VK)(_:XK):Prop
 | mk (X:Yx) (lk:Addr) (c:Nat) (ls:je) (i:Nat) (_:vs=[.ref X.S,.int (i:Int)]) (_:YE jg jh H X lk c ls) (_:i<X.ts.length) (_:Q (.ref (X.as.getD i .d).tg) H)
theorem FE(D:ZJ P w K mg base ZU 2 jg "label" ["self","number"] (WG jg jh fun tg _ _=>tg)):ZJ P w K mg base ZU 2 jg "label" ["self","number"] (VE jg jh):=by
 obtain ⟨g,gd',M,FG,b⟩:=D.ex;refine ⟨g,gd',M,FG.imp fun vs H Q E h=>?_,b⟩;obtain ⟨X,lk,c,ls,i,e,R,hi,k⟩:=h;exact ⟨X.S,X.d,lk,c,X.kvs,ls,i,_,_,_,_,_,_,e,R.rd hi,k⟩
abbrev Nf:Stmt:=We (Zt 43) 15
abbrev Ml:Stmt:=We (Zt 43) 14
inductive XR(jg jh:Addr)(vs:je)(H:Hp)(Q:VK)(_:XK):Prop
 | mk (X:Yx) (lk:Addr) (c:Nat) (ls:je) (_:vs=[.ref X.S]) (_:YE jg jh H X lk c ls) (_:∀(H':Hp)(lk':Addr),H lk'=none->(∀ b o,b≠X.S->H b=some o->H' b=some o)->YE jg jh H' X lk' c []->Q .non H')
theorem F6:ZD ["self"] ["self"] (Zg Nf):=Zu
theorem Cs(F:Zq K "forget" "Shelf.forget" Nf f fd)(L:Yt K mg jg jh):ZM P w K mg base ZU 1 f fd ["self"] (XR jg jh):=by
 refine F.ok F6 (fun vs H Q E h=>(by obtain ⟨_,_,_,_,rfl,_⟩:=h;rfl)) (fun cdv A outer s H vs Q E hr h=>?_)
 obtain ⟨X,lk,c,ls,rfl,R,k⟩:=h;refine ⟨_,ZW (U7 (pv 0) (YM ZH) rfl),?_⟩;refine ⟨nn (zAB rfl),fun l' nl'=>?_⟩;have g1:=ZS nl' (.lst []);obtain ⟨⟨dx,hS0⟩,hd,js⟩:=R.sh;have hS:=g1 _ _ hS0;refine ⟨_,rfl,X.S,jg,dx,_,rfl,hS,L.cS,L.nl,zAB rfl,?_⟩;have Sl:X.S≠l':=Zb hS0 nl';have fr:∀ b o,b≠X.S->H b=some o->upd (upd H l' (.lst [])) X.S (.ins jg dx (Y4 "looks" (.ref l') (U3 X.d lk c))) b=some o:=fun b o n e=>by rw [ZX n];exact g1 _ _ e
 refine k _ l' nl' fr (R.frame ⟨⟨dx,ZN⟩,fr _ _ (ZV hd hS0) hd,(by rw [ZX (Ne.symm Sl)];exact ZN)⟩ (fun b o n _ _ e=>fr b o n e) (fun i hi=>?_) R.le)
 obtain ⟨us,e1,_⟩:=(R.tw i hi).things;exact ⟨Zb (R.tw i hi).tw.above nl',Zb e1 nl'⟩
inductive XW(jg jh:Addr)(vs:je)(H:Hp)(Q:VK)(_:XK):Prop
 | mk (X:Yx) (lk:Addr) (c:Nat) (ls:je) (_:vs=[.ref X.S]) (_:YE jg jh H X lk c ls) (_:∀ p,H p=none->Q (.ref p) (upd H p (.lst ls)))
theorem Dg:ZD ["self"] ["self"] (Zg Ml):=Zu
theorem FZ(F:Zq K "looked" "Shelf.looked" Ml f fd)(T:YD mg)(L:Yt K mg jg jh):ZM P w K mg base ZU 1 f fd ["self"] (XW jg jh):=by
 refine F.ok Dg (fun vs H Q E h=>(by obtain ⟨_,_,_,_,rfl,_⟩:=h;rfl)) (fun cdv A outer s H vs Q E hr h=>?_)
 obtain ⟨X,lk,c,ls,rfl,R,k⟩:=h;refine ⟨_,ZW (Zk (WA UJ rfl T.list UK (ZG (WU (pv 0) rfl) ZH))),?_⟩;obtain ⟨⟨dx,hS⟩,hd,js⟩:=R.sh;exact ⟨_,rfl,X.S,jg,dx,_,.ref lk,rfl,hS,L.cS,L.nl,rfl,lk,ls,rfl,.inl (ZK.of js),k⟩
inductive XV(jg jh:Addr)(vs:je)(H:Hp)(Q:VK)(_:XK):Prop
 | mk (p:Addr) (X:Yx) (lk:Addr) (c:Nat) (ls:je) (_:vs=[.ref p,.ref X.S]) (_:ZF H p) (_:YE jg jh H X lk c ls) (_:X.ts.length<=900) (_:p≠lk) (_:∀ i:Nat,i<X.ts.length->(X.as.getD i .d).ab≠p/\(X.as.getD i .d).th≠p) (_:∀(H':Hp)(g:Int),(∀ b o,b≠p->b≠X.S->b≠X.d->H b=some o->H' b=some o)->ZF H' p->YE jg jh H' X lk (c+1) ls->inT X.ts g=false->Q (.int g) H')
theorem Up:ZD ["_law_well_here","_law_shelf","_law_number"] ["_law_well_here","_law_shelf"] (Zg NQ):=Zu
theorem FM:QU [(.int 0,.int 0)]:=⟨fun r hr=>by rw [zAS.mp hr];exact ⟨by decide +kernel,by decide +kernel⟩,by decide,by decide,List.pairwise_singleton _ _⟩
theorem B3{kvs:List (ZZ×V)}{k:ZZ}{v:V}(h:YJ kvs k=none):Uu (XD kvs k v) k=kvs:=by
 have hk:k∉kvs.map (·.1):=AU h;rw [Lh v h];unfold Uu;rw [zBT];have e1:kvs.filter (fun kv=>decide (kv.1≠k))=kvs:=zCf.mpr fun a ha=>decide_eq_true fun z=>hk (zAb.mpr ⟨a,ha,z⟩);rw [e1];simp
theorem CC(F:Zq K "_law_gone" "_law_gone" NQ f fd)(L:Yt K mg jg jh)(DP:ZB P w K mg base 1 "_law_pull" ["_law_well_here","_law_many"] Zl)(DL:ZJ P w K mg base ZU 10 jg "put_leaf" ["self","rows"] (Yb jg jh))(DG:ZJ P w K mg base ZU 4 jg "let_go" ["self","number"] (Wo jg jh)):
  ZM P w K mg base ZU 11 f fd ["_law_well_here","_law_shelf"] (XV jg jh):=by
 refine F.ok Up (fun vs H Q E h=>(by obtain ⟨_,_,_,_,_,rfl,_⟩:=h;rfl)) (fun cdv A outer s H vs Q E hr h=>?_)
 obtain ⟨p,X,lk,c,ls,rfl,W,R,l9,plk,own,k⟩:=h;have nd:=Up.nd;have hr1:=hr.mono (show 1<=10 by decide)
 have hr4:=hr.mono (show 4<=10 by decide)
 refine ⟨_,ZQ (Zj 2 nd (Xf (E:=E0) (pv 1) L.cS DL hr XE (ZG (YM (ZG (Yh (ZG ZL (ZG ZL ZH))) ZH)) ZH)))
  (ZQ (WP (Xf (E:=E0) (pv 1) L.cS DG hr4 XE (ZG (pv 2) ZH)))
  (ZW (Zk (Zp (r:=YR K) Ya (YM (UY (pv 2) (QD U9 ZL) (Zo Xn (Zo Xn (pv 2) ZL) (Zh DP hr1 (ZG (pv 0) (ZG ZL ZH)))))) (Zh DP hr1 (ZG (pv 0) (ZG ZL ZH))) (fun _ _=>rfl))))),?_⟩
 obtain ⟨⟨dx,hS⟩,hd,js⟩:=R.sh;obtain ⟨pw,hp⟩:=W.some;refine ⟨_,rfl,X.S,dx,_,rfl,hS,rfl,nn (zAB rfl),fun t0 n0=>⟨nn (zAB rfl),fun l nl=>?_⟩⟩;have g0:=ZS n0 (.tup [.int 0,.int 0]);have g1:=ZS nl (.lst [.ref t0]);have g:=g0.trans g1;have et:=g1 _ _ (ZN (H:=H) (a:=t0) (o:=.tup [.int 0,.int 0]));have el:=ZN (H:=upd H t0 (.tup [.int 0,.int 0])) (a:=l) (o:=.lst [.ref t0]);generalize upd (upd H t0 (.tup [.int 0,.int 0])) l (.lst [.ref t0])=H1 at g et el ⊢;have R1:=R.same g;refine ⟨X.S,X.d,lk,l,c,X.kvs,ls,[.ref t0],[(.int 0,.int 0)],rfl,R1.sh,by rw [R.klen];exact l9,el,.cons (.tup et (.cons (.int 0) (.cons (.int 0) .nil))) .nil,FM,fun H2 x th tg ab nx nth nab abth fr sh2 W2 _ htg=>?_⟩
 have nv:YJ X.kvs (Sum.inl (c:Int))=none:=R.none (by unfold inT;exact decide_eq_false (by have:=R.le;lia))
 obtain ⟨a,jM,jQ,ea,htg',_,_⟩:=htg;cases ea;obtain ⟨dx2,hS2⟩:=sh2.self;have xS:x≠X.S:=(Zb (g _ _ hS) nx).symm;have ev:YJ (XD X.kvs (Sum.inl (c:Int)) (.ref x)) (Sum.inl (c:Int))=some (.ref x):=by rw [Oi,if_pos rfl]
 refine ⟨_,rfl,X.S,dx2,_,rfl,hS2,rfl,_,rfl,X.S,X.d,lk,c+1,XD X.kvs (Sum.inl (c:Int)) (.ref x),ls,(c:Int),x,.ref th,tg,ab,rfl,⟨⟨sh2,ev,W2⟩,_,htg'⟩,xS,fun H3 fr3 hd3=>?_⟩;rw [B3 nv] at hd3;obtain ⟨dt,hx2⟩:=W2.self;have hlk2:=sh2.looks;have fr03:∀ b o,b≠X.S->b≠X.d->H b=some o->H3 b=some o:=fun b o n1 n2 e=>fr3 b o (Zb (g _ _ e) nx) n2 (fr b o n1 n2 (g b o e));have hS3:=fr3 _ _ (Ne.symm xS) (ZV hS2 sh2.kept) hS2;have hlk3:=fr3 _ _ (ZV hlk2 hx2) (ZV hlk2 sh2.kept) hlk2;have R3:YE jg jh H3 X lk (c+1) ls:=R.frame ⟨⟨dx2,hS3⟩,hd3,hlk3⟩ (fun b o n1 n2 _ e=>fr03 b o n1 n2 e) (fun i hi=>(R.own i hi).2) (by have:=R.le;lia)
 have pS:p≠X.S:=ZV hp hS;have pd:p≠X.d:=ZV hp hd;have W3:ZF H3 p:=MH W fun o e=>fr03 _ _ pS pd e;have hN:¬ Od X lk p:=by
  rintro (z | z | z)
  ·exact pS z
  ·exact pd z
  ·exact plk z
 have own3:∀ i:Nat,i<X.ts.length->(X.as.getD i .d).x≠p/\(X.as.getD i .d).ab≠p/\(X.as.getD i .d).th≠p:=fun i hi=>by
  obtain ⟨dy,hy⟩:=(R.tw i hi).tw.self;exact ⟨ZV hy hp,own i hi⟩
 refine ⟨_,rfl,1,rfl,_,rfl,_,_,rfl,rfl,_,rfl,p,1000,rfl,W3,Yz (by decide) (by decide),fun r H4 r0 r1 W4 s4=>⟨_,_,rfl,rfl,nn (zAB rfl),fun q nq=>?_⟩⟩
 have g5:=ZS nq (.lst [.int (c:Int),.int (-1),.int ((c:Int)+1+r)]);have eq:=ZN (H:=H4) (a:=q) (o:=.lst [.int (c:Int),.int (-1),.int ((c:Int)+1+r)]);have qp:q≠p:=WY W4 nq;generalize upd H4 q (.lst [.int (c:Int),.int (-1),.int ((c:Int)+1+r)])=H5 at g5 eq ⊢;refine ⟨_,rfl,p,3,rfl,W4.same g5,Yz (by decide) (by decide),fun j H6 j0 j1 W6 s6=>?_⟩
 have eq6:=s6 _ _ eq qp;obtain ⟨v,av,mv⟩:=QR (xs:=[V.int (c:Int),.int (-1),.int ((c:Int)+1+r)]) j0 j1;have s36:ZC p H3 H6:=(s4.trans (ZC.of g5)).trans s6;have R6:=R3.but s36 hN own3 (s36.tupsW W3);have fin:∀ z:Int,inT X.ts z=false->Q (.int z) H6:=fun z hz=>k H6 z (fun b o n0 n1 n2 e=>s36 b o (fr03 b o n1 n2 e) n0) W6 R6 hz;have lc:=R.le;refine .inl ⟨q,_,_,v,rfl,rfl,ZK.of eq6,av,?_⟩;simp only [zAf,zBd,or_false] at mv;rcases mv with rfl | rfl | rfl
 ·exact fin _ (by unfold inT;exact decide_eq_false (by lia))
 ·exact fin _ (by unfold inT;exact decide_eq_false (by lia))
 ·exact fin _ (by unfold inT;exact decide_eq_false (by lia))
end
end Tw
namespace L2
open PySem PySem.Spec PyProof.Rows
section
variable{σ:St}{H:Hp}{ix:List Nat}{te:TE}{Q:VK}{K:zAA}
theorem OE{J:It}{n:Nat}{tt:TT}(item:Nat->V->Prop)(keep:Nat->Bool)(Pv:Addr->Nat->je->Hp->Prop)(hn:n<sizeLine)(hgo:∀ D i ys H,i<n->Pv D i ys H->J.go i H)(hy:∀ D i ys H x H',i<n->Pv D i ys H->J.yld i H x H'->H'=H/\item i x)(jX:∀ D ys H,Pv D n ys H->J.stop n H)(h0:∀ D,H D=none->Pv D 0 [] (upd H D (.lst [])))(test:∀ D i ys H x,H D=some (.lst ys)->i<n->item i x->Pv D i ys H->∀ R:Bool->Hp->Prop,(∀ H2,H2 D=some (.lst ys)->Pv D i ys H2->R (keep i) H2)->tt (Pn σ ix x) H R)(elt:∀ D i ys H x,H D=some (.lst ys)->i<n->item i x->keep i=true->Pv D i ys H->∀ R:VK,(∀ y H3,H3 D=some (.lst ys)->Pv D (i+1) (ys++[y]) (upd H3 D (.lst (ys++[y])))->R y H3)->te (Pn σ ix x) H R)(no:∀ D i ys H,H D=some (.lst ys)->i<n->keep i=false->Pv D i ys H->Pv D (i+1) ys H)(fin:∀ D ys H,H D=some (.lst ys)->Pv D n ys H->Q (.ref D) H):VT J σ ix tt te H Q:=by
 intro D hD;refine ⟨fun i m H=>m=n - i/\i<=n/\∃ ys,H D=some (.lst ys)/\ys.length<=i/\Pv D i ys H,⟨n,rfl,zAd _,[],ZN,zAH _,h0 D hD⟩,?_⟩;rintro i m H ⟨rfl,hi,ys,e,hl,p⟩;by_cases hlt:i<n
 ·refine .inr ⟨hgo D i ys H hlt p,fun x H' y=>?_⟩;obtain ⟨rfl,it⟩:=hy D i ys H x H' hlt p y;refine test D i ys _ x e hlt it p _ fun H2 e2 p2=>?_
  cases hk:keep i with
  | true=>
   rw [if_pos rfl];refine elt D i ys H2 x e2 hlt it hk p2 _ fun y H3 e3 p3=>?_;exact ⟨ys,n - (i+1),e3,by lia,by lia,rfl,hlt,ys++[y],ZN,by rw [zAI,zBM];lia,p3⟩
  | false=>
   rw [if_neg zAF];exact ⟨n - (i+1),by lia,rfl,hlt,ys,e2,Nat.le_succ_of_le hl,no D i ys H2 e2 hlt hk p2⟩
 ·have e':i=n:=by lia
  subst e';exact .inl ⟨jX D ys H p,fin D ys H e p⟩
end
end L2
namespace Tw
open PySem PySem.Spec L2 PyProof.Rows
section
variable{P:Program}{w:World}{K:zAA}{mg:jb}{base:Heap}{f:Addr}{fd:FuncData}{jg jh CS CT CH:Addr}
def NP(rs:List KT):Prop:=rs.Pairwise fun a b=>b.lt a=false
theorem Jx{rs:List KT}(h:NP rs){i j:Nat}{a b:KT}(jv:i<=j)(ha:rs[i]? = some a)(hb:rs[j]? = some b):b.lt a=false:=by
 obtain ⟨hi,rfl⟩:=zAK.mp ha;obtain ⟨hj,rfl⟩:=zAK.mp hb;rcases zAe i j with c | c
 ·exact zBU.mp h i j hi hj c
 ·have:i=j:=by lia
  subst this;exact Q3 _
def Q8(ts:List KT)(t:KT):Nat:=(ts.filter fun x=>x.lt t).length
theorem Gz{ts:List KT}{t:KT}{m:Nat}(hm:m<=ts.length)(h1:∀ i a,i<m->ts[i]? = some a->a.lt t=true)(h2:∀ i a,m<=i->ts[i]? = some a->a.lt t=false):Q8 ts t=m:=by
 unfold Q8;have e:ts=ts.take m++ts.drop m:=(zB2 m ts).symm;rw [e,zBT,zAI];have a1:(ts.take m).filter (fun x=>x.lt t)=ts.take m:=zCf.mpr fun a ha=>by
  obtain ⟨i,hi⟩:=zBn ha;have hlt:i<m:=by
   have:=(zAK.mp hi).1;rw [zA8] at this
   lia
  rw [zCF,if_pos hlt] at hi;exact h1 i a hlt hi
 have a2:(ts.drop m).filter (fun x=>x.lt t)=[]:=List.filter_eq_nil_iff.mpr fun a ha=>by
  obtain ⟨j,hj⟩:=zBn ha;rw [List.getElem?_drop] at hj;rw [h2 (m+j) a (Nat.le_add_right _ _) hj];exact zAF
 rw [a1,a2,zA8];simp
 lia
inductive Wn(K:zAA)(vs:je)(H:Hp)(Q:VK)(_:XK):Prop
 | mk (l:Addr) (us:je) (ts:List KT) (v:V) (t:KT) (_:vs=[.ref l,v]) (_:ZK K H l us) (_:KeysAt H ts us) (_:∀ t∈ts,t.fits 3=true) (_:us.length<=100) (_:NP ts) (_:ZE H t v) (_:t.fits 3=true) (_:∀ H',ZA H H'->Q (.int (Q8 ts t:Nat)) H')
abbrev CW:List Str:=["keys","key","low","high","middle"]
theorem Vm:ZD CW ["keys","key"] (Zg MJ):=Zu
theorem F3(F:Zq K "place_in" "place_in" MJ f fd)(T:YD mg)(DA:ZB P w K mg base 7 "ahead" ["one","other"] Ys):ZM P w K mg base ZU 8 f fd ["keys","key"] (Wn K):=by
 refine F.ok Vm (fun vs H Q E h=>(by obtain ⟨_,_,_,_,_,rfl,_⟩:=h;rfl)) (fun cdv A outer s H vs Q E hr h=>?_)
 obtain ⟨l,us,ts,v,t,rfl,hl,hk,hf,h100,ha,hv,ht,q⟩:=h;have nd:=Vm.nd;have hlen:=hk.length;refine ⟨_,ZQ (Zj 2 nd ZL)
  (ZQ (Zj 3 nd (Z0 Xh rfl T.len XT (ZG (pv 0) ZH)))
  (ZQ (Q2 PassesOwn.never (YN Q4 (pv 2) (pv 3) (Zy _))
   (ZQ (Zj 4 nd (Zo OX (Zo Xn (pv 2) (pv 3)) ZL))
   (ZW (Z1 (Xo (Zh DA hr (ZG (Zp (r:=YR K) Ya (pv 0) (pv 4) (fun _ _=>rfl)) (ZG (pv 1) ZH))))
    (ZW (Zj 2 nd (Zo Xn (pv 4) ZL))) (ZW (Zj 3 nd (pv 4)))))))
  (ZW (Zk (pv 2))))),?_⟩
 refine ⟨_,rfl,l,us,rfl,.inl hl,?_⟩;refine ⟨fun m σ H'=>∃(lo hi:Nat)(x:jf),σ=[some (.ref l),some v,some (.int (lo:Int)),some (.int (hi:Int)),x]/\ZA H H'/\lo<=hi/\hi<=ts.length/\m=hi - lo/\(∀ i a,i<lo->ts[i]? = some a->a.lt t=true)/\(∀ i a,hi<=i->ts[i]? = some a->a.lt t=false),
  ⟨_,0,us.length,none,rfl,ZA.refl H,zAd _,by lia,rfl,fun i a hi=>absurd hi (by lia),fun i a hi hg=>?_⟩,?_⟩
 ·have:=(zAK.mp hg).1
  lia
 rintro m σ H1 ⟨lo,hi,x,rfl,s1,h1,h2,rfl,g1,g2⟩;refine ⟨_,rfl,_,rfl,_,_,rfl,rfl,_,rfl,?_⟩;refine Ww (fun c=>?_) (fun c=>?_)
 ·have hlt:(lo:Int)<(hi:Int):=of_decide_eq_true c;refine ⟨fun σ' H'=>∃ m',m'<hi - lo/\∃(lo' hi':Nat)(x:jf),σ'=[some (.ref l),some v,some (.int (lo':Int)),some (.int (hi':Int)),x]/\ZA H H'/\lo'<=hi'/\hi'<=ts.length/\m'=hi' - lo'/\(∀ i a,i<lo'->ts[i]? = some a->a.lt t=true)/\(∀ i a,hi'<=i->ts[i]? = some a->a.lt t=false),fun _ _ h=>h,?_⟩;refine ⟨_,rfl,_,rfl,_,_,rfl,rfl,_,_,rfl,rfl,⟨by lia,by decide⟩,?_⟩
  obtain ⟨mid,em,hm1,hm2⟩:∃ mid:Nat,((lo:Int)+(hi:Int)) / 2=(mid:Int)/\lo<=mid/\mid<hi:=⟨((lo+hi) / 2:Nat),by lia,by lia,by lia⟩
  show QM 4 (V.int (((lo:Int)+(hi:Int)) / 2)) _ _ _;rw [em];have hml:mid<us.length:=by lia
  have hum:us[mid]? = some us[mid]:=by simp [hml]
  obtain ⟨tm,etm,ktm⟩:=hk.get hum;refine ⟨_,rfl,_,rfl,.inl ⟨l,us,_,us[mid],rfl,rfl,s1.seq hl,Xb hum,_,rfl,us[mid],v,tm,t,rfl,ktm.mono (ZA.tups s1) _ _,hv.mono (ZA.tups s1) _ _,hf tm (zAJ etm),ht,fun H2 s2=>⟨_,rfl,?_⟩⟩⟩
  cases hc:tm.lt t with
  | true=>
   refine Z9 ⟨_,rfl,_,_,rfl,rfl,hi - (mid+1),by lia,mid+1,hi,_,rfl,s1.trans s2,by lia,h2,rfl,fun i a hi' hg=>?_,g2⟩
   exact D4 (Jx ha (show i<=mid by lia) hg etm) hc
  | false=>
   refine Zr ⟨_,rfl,mid - lo,by lia,lo,mid,_,rfl,s1.trans s2,hm1,by lia,rfl,g1,fun i a hi' hg=>?_⟩
   exact le_trans' hc (Jx ha hi' etm hg)
 ·have hge:¬ (lo:Int)<(hi:Int):=fun z=>c (decide_eq_true z);refine ⟨_,rfl,?_⟩;rw [<-Gz (ts:=ts) (t:=t) (m:=lo) (by lia) g1 fun i a hi'=>g2 i a (by lia)]
  exact q H1 s1
end
def Yw(ts:List ZT)(k:KT)(i:Nat):Nat:=if (gd ts i).h=0 then Q8 ((gd ts i).rows.map (·.1)) k else ((gd ts i).bs.filter fun b=>!k.lt (YF (gd ts b)).lo).length - 1
def UI(ts:List ZT)(k:KT)(i:Nat):Nat:=(gd ts i).bs.getD (Yw ts k i) 0
def VX(ts:List ZT)(k:KT):Nat->Nat->List (Nat×Nat)
 | 0,i=>[(i,Yw ts k i)]
 | n+1,i=>(i,Yw ts k i) :: VX ts k n (UI ts k i)
theorem Jw(ts:List ZT)(k:KT):∀ n i,(VX ts k n i).length=n+1
 | 0,_=>rfl
 | n+1,i=>by rw [VX,zAW,Jw]
theorem JZ{gt:List KT}{ts:List ZT}(hw:WF gt ts){i:Nat}(hi:i<ts.length)(h0:(gd ts i).h≠0)(k:KT):Yw ts k i<(gd ts i).bs.length:=by
 have:=(hw i _ (Xk hi)).stem h0;unfold Yw;rw [if_neg h0];have l:=zDX (fun b=>!k.lt (YF (gd ts b)).lo) (gd ts i).bs
 lia
theorem NO{gt:List KT}{ts:List ZT}(hw:WF gt ts){i:Nat}(hi:i<ts.length)(h0:(gd ts i).h≠0)(k:KT):UI ts k i<i/\(gd ts (UI ts k i)).h+1=(gd ts i).h/\(gd ts i).bs[Yw ts k i]? = some (UI ts k i):=by
 have hl:=JZ hw hi h0 k;have hs:=(hw i _ (Xk hi)).stem h0;have e:(gd ts i).bs[Yw ts k i]? = some (UI ts k i):=by
  unfold UI;rw [zAC,zAE hl];rfl
 have:=hs.2.2.1 _ (zAJ e);exact ⟨this.1,this.2,e⟩
def Y3(N:Addr->Prop)(H:Hp)(t:ZT)(u:V):Prop:=∃ tp l us,u=.ref tp/\H tp=some (.tup [.str (kindOf t),.ref l])/\H l=some (.lst us)/\¬ N l/\(t.h=0->KeysAt H (YQ t.rows) us)/\(t.h≠0->us=iN t.bs)
theorem Y3.off{N:Addr->Prop}{H H':Hp}{t:ZT}{u:V}(h:Y3 N H t u)(fr:∀ b o,¬ N b->H b=some o->H' b=some o)(m:Z6 H H'):Y3 N H' t u:=by
 obtain ⟨tp,l,us,e,h1,h2,n,h3,h4⟩:=h;exact ⟨tp,l,us,e,m _ _ h1,fr _ _ n h2,n,fun z=>(h3 z).mono m _ _,h4⟩
theorem Y3.same{N:Addr->Prop}{H H':Hp}{t:ZT}{u:V}(h:Y3 N H t u)(s:ZA H H'):Y3 N H' t u:=h.off (fun b o _ e=>s b o e) (ZA.tups s)
theorem Jb{t:ZT}(h:t.h=0):kindOf t = "leaf" :=if_pos h
theorem Kj{t:ZT}(h:t.h≠0):kindOf t = "stem" :=if_neg h
theorem N7(t:ZT):decide (V.str (kindOf t)=V.str "leaf")=decide (t.h=0):=by
 by_cases h:t.h=0
 ·rw [Jb h,decide_eq_true rfl,decide_eq_true h]
 ·rw [Kj h,decide_eq_false h];decide +kernel
theorem Cm{gt:List KT}{ts:List ZT}(hw:WF gt ts){i:Nat}(hi:i<ts.length):NP ((gd ts i).rows.map (·.1)):=(hw i _ (Xk hi)).up.imp fun{a b} q=>Px _ _ q
section
variable{P:Program}{w:World}{K:zAA}{mg:jb}{base:Heap}{f:Addr}{fd:FuncData}{jg jh:Addr}
inductive XH(vs:je)(H:Hp)(Q:VK)(_:XK):Prop
 | mk (N:Addr->Prop) (t:ZT) (u:V) (_:vs=[u]) (_:Y3 N H t u) (_:Q (.bl (decide (t.h=0))) H)
theorem Az:ZD ["found"] ["found"] (Zg Ld):=Zu
theorem ZIk(F:Zq K "is_leaf" "is_leaf" Ld f fd):ZM P w K mg base ZU 1 f fd ["found"] XH:=by
 refine F.ok Az (fun vs H Q E h=>(by obtain ⟨_,_,_,rfl,_⟩:=h;rfl)) (fun cdv A outer s H vs Q E hr h=>?_)
 obtain ⟨lk,t,u,rfl,⟨tp,l,us,rfl,h1,_⟩,k⟩:=h;refine ⟨_,ZW (Zk (VG X9 (Zp (r:=Xl K) Zi (pv 0) ZL (fun _ _=>rfl)) X3 (Zy _))),?_⟩;refine ⟨_,rfl,tp,_,_,.str (kindOf t),rfl,rfl,Zn.of h1,rfl,rfl,?_⟩;rw [N7];exact k
inductive XB(vs:je)(H:Hp)(Q:VK)(_:XK):Prop
 | mk (N:Addr->Prop) (t:ZT) (u:V) (n:Nat) (_:vs=[u,.int (n:Int)]) (_:Y3 N H t u) (_:t.h=0->Q .non H) (_:t.h≠0->∃ b,t.bs[n]? = some b/\Q (.int (b:Nat)) H)
theorem GE:ZD ["found","at"] ["found","at"] (Zg MA):=Zu
theorem FW(F:Zq K "branch_at" "branch_at" MA f fd)(DL:ZB P w K mg base 1 "is_leaf" ["found"] XH):ZM P w K mg base ZU 2 f fd ["found","at"] XB:=by
 refine F.ok GE (fun vs H Q E h=>(by obtain ⟨_,_,_,_,rfl,_⟩:=h;rfl)) (fun cdv A outer s H vs Q E hr h=>?_)
 obtain ⟨lk,t,u,n,rfl,hf,k0,k1⟩:=h;refine ⟨_,ZQ (Z1 (Xo (Zh DL hr (ZG (pv 0) ZH))) (ZW (Zk Pc)) Z8) (ZW (Zk (Zp (r:=YR K) Ya (Zp (r:=Xl K) Zi (pv 0) ZL (fun _ _=>rfl)) (pv 1) (fun _ _=>rfl)))),?_⟩;refine ⟨_,rfl,lk,t,u,rfl,hf,_,rfl,?_⟩;obtain ⟨tp,l,us,rfl,h1,h2,n1,h3,h4⟩:=hf;by_cases h:t.h=0
 ·rw [decide_eq_true h];exact Z9 (k0 h)
 ·rw [decide_eq_false h];obtain ⟨b,eb,q⟩:=k1 h;have eu:=h4 h;subst eu;refine Zr ⟨_,rfl,tp,_,_,.ref l,rfl,rfl,Zn.of h1,rfl,_,rfl,.inl ⟨l,_,_,.int (b:Nat),rfl,rfl,ZK.of h2,Xb (by unfold iN;rw [zAM,eb];rfl),q⟩⟩
inductive X2(gt:List KT)(jg jh:Addr)(vs:je)(H:Hp)(Q:VK)(_:XK):Prop
 | mk (X:Yx) (lk:Addr) (c:Nat) (ls:je) (i:Nat) (u v:V) (k:KT) (N:Addr->Prop) (_:vs=[.ref X.S,u,v]) (_:YE jg jh H X lk c ls) (_:WF gt X.ts) (_:i<X.ts.length) (_:Y3 N H (gd X.ts i) u) (_:ZE H k v) (_:k.fits 3=true) (_:∀ H',ZA H H'->Q (.int (Yw X.ts k i:Nat)) H')
theorem VD:ZD ["shelf","found","key","begun"] ["shelf","found","key"] (Zg LK):=Zu
theorem P4{α:Type}(p:α->Bool){l:List α}{i:Nat}{b:α}(e:l[i]? = some b):(l.take (i+1)).filter p=(l.take i).filter p++(if p b=true then [b] else []):=by
 rw [zAo,e,Option.toList_some,zBT]
 congr 1
 rw [zBu];cases p b <;> rfl
theorem GK{gt:List KT}(F:Zq K "place_within" "place_within" LK f fd)(T:YD mg)(L:Yt K mg jg jh)(DL:ZB P w K mg base 1 "is_leaf" ["found"] XH)(DP:ZB P w K mg base 8 "place_in" ["keys","key"] (Wn K))(DA:ZB P w K mg base 7 "ahead" ["one","other"] Ys)(DB:ZJ P w K mg base ZU 2 jg "label" ["self","number"] (VE jg jh)):
  ZM P w K mg base ZU 9 f fd ["shelf","found","key"] (X2 gt jg jh):=by
 refine F.ok VD (fun vs H Q E h=>(by obtain ⟨_,_,_,_,_,_,_,_,_,rfl,_⟩:=h;rfl)) (fun cdv A outer s H vs Q E hr h=>?_)
 obtain ⟨X,lk,c,ls,i,u,v,k,N,rfl,R,hw,hi,hf,hv,fk,q⟩:=h;have nd:=VD.nd;have hr1:=hr.mono (show 1<=8 by decide)
 have hr2:=hr.mono (show 2<=8 by decide)
 have hr7:=hr.mono (show 7<=8 by decide)
 obtain ⟨t1,m1⟩:=T.least;refine ⟨_,ZQ (Z1 (Xo (Zh DL hr1 (ZG (pv 1) ZH))) (ZW (Zk (Zh DP hr (ZG (Wx [] [] rfl (VL (Zp (r:=Xl K) Zi (pv 1) ZL (fun _ _=>rfl))) (fun _ _ _ _ _=>Vk) (fun _ _ _ _ _=>Zp (r:=Xl K) Zi (pv 0) ZL (fun _ _=>rfl)) trivial) (ZG (pv 2) ZH))))) Z8)
  (ZQ (IH (i:=3) [2,0] ["key","shelf"] nd rfl rfl rfl (VL (Zp (r:=Xl K) Zi (pv 1) ZL (fun _ _=>rfl))) (fun _ _ _ _ _=>OB (Uj (Xo (Zh DA hr7 (ZG (pv 1) (ZG (Zp (r:=Xl K) Zi (Xf (E:=E0) (pv 2) L.cS DB hr2 XE (ZG (pv 0) ZH)) (WL (v:=.int 1) rfl m1 ⟨_,rfl⟩) (fun _ _=>rfl)) ZH)))))) (fun _ _ _ _ _=>pv 0) ⟨rfl,.inl rfl,rfl,rfl,.inl rfl,rfl,trivial⟩)
  (ZW (Zk (Z0 (NA rfl) rfl T.max P8 (ZG (Zo VZ (Z0 Xh rfl T.len XT (ZG (pv 3) ZH)) ZL) (ZG ZL ZH)))))),?_⟩
 refine ⟨_,rfl,N,gd X.ts i,u,rfl,hf,_,rfl,?_⟩;obtain ⟨tp,l,us,rfl,h1,h2,n1,h3,h4⟩:=hf;have ok:=hw i _ (Xk hi);by_cases h:(gd X.ts i).h=0
 ·rw [decide_eq_true h];have kr:=h3 h;have lr:us.length=(gd X.ts i).rows.length:=by have:=kr.length;rw [<-this];exact zAD _
  have l4:=(ok.leaf h).2;refine Z9 ⟨_,rfl,tp,_,_,.ref l,rfl,rfl,Zn.of h1,rfl,l,rfl,⟨us,ZK.of h2⟩,Vb (n:=us.length) (fun i z=>us[i]? = some z) (fun D j ys H3=>ZA H H3/\H D=none/\KeysAt H (((gd X.ts i).rows.map (·.1)).take j) ys) (Yp (by lia))
   (fun D j ys H3 hj hP=>⟨us,us[j],ZK.of (hP.1 _ _ h2),by simp [hj]⟩) (fun D j ys H3 z H4 hj hP hy=>⟨hy.1,hy.2 us (ZK.of (hP.1 _ _ h2))⟩) (fun D ys H3 hP=>⟨us,ZK.of (hP.1 _ _ h2),zAH _⟩)
   (fun D hD=>⟨ZS hD _,hD,.nil⟩) (fun D j ys H3 z eD hl' hj hz hP RR jY=>?_) (fun D ys H3 eD hP=>?_)⟩
  ·obtain ⟨s3,nD,kys⟩:=hP;obtain ⟨a,vk,vv,er,rfl,ea,k1,k2⟩:=QA kr hz;refine ⟨_,rfl,a,_,_,vk,rfl,rfl,Zn.of (s3 _ _ ea),rfl,jY _ H3 eD ⟨V2 s3 nD,nD,?_⟩⟩;rw [zAo,zAM,er];exact kys.append (.cons k1 .nil)
  ·obtain ⟨s3,nD,kys⟩:=hP;rw [zAU (by rw [zAD];lia)] at kys
   have lk':=kys.length;rw [zAD] at lk';refine ⟨_,rfl,D,ys,_,v,k,rfl,ZK.of eD,kys.mono (ZA.tups s3) _ _,fun t ht=>?_,by lia,Cm hw hi,hv.mono (ZA.tups s3) _ _,fk,fun H4 s4=>?_⟩
   ·obtain ⟨r,hr',rfl⟩:=zAb.mp ht;exact (ok.inn r hr').1
   ·have e:Yw X.ts k i=Q8 ((gd X.ts i).rows.map (·.1)) k:=if_pos h;rw [<-e];exact q H4 (s3.trans s4)
 ·rw [decide_eq_false h];have eu:=h4 h;have ob:=ok.stem h;have lu:us.length=(gd X.ts i).bs.length:=by rw [eu];exact zAD _
  refine Zr ⟨_,rfl,tp,_,_,.ref l,rfl,rfl,Zn.of h1,rfl,l,rfl,⟨us,ZK.of h2⟩,OE (n:=us.length) (fun i z=>us[i]? = some z) (fun j=>!k.lt (YF (gd X.ts ((gd X.ts i).bs.getD j 0))).lo) (fun D j ys H3=>ZA H H3/\H D=none/\ys.length=(((gd X.ts i).bs.take j).filter fun b=>!k.lt (YF (gd X.ts b)).lo).length) (Yp (by lia))
   (fun D j ys H3 hj hP=>⟨us,us[j],ZK.of (hP.1 _ _ h2),by simp [hj]⟩) (fun D j ys H3 z H4 hj hP hy=>⟨hy.1,hy.2 us (ZK.of (hP.1 _ _ h2))⟩) (fun D ys H3 hP=>⟨us,ZK.of (hP.1 _ _ h2),zAH _⟩)
   (fun D hD=>⟨ZS hD _,hD,rfl⟩) (fun D j ys H3 z eD hj hz hP B hB=>?_) (fun D j ys H3 z eD hj hz hk hP B hB=>?_) (fun D j ys H3 eD hj hk hP=>?_) (fun D ys H3 eD hP=>?_)⟩
  ·obtain ⟨s3,nD,ly⟩:=hP;rw [eu] at hz;obtain ⟨b,eb,rfl⟩:=LE hz;have ebd:(gd X.ts i).bs.getD j 0=b:=by rw [zAC,eb];rfl
   have hb:=ob.2.2.1 b (zAJ eb);have hbl:b<X.ts.length:=by lia
   have R3:=R.same s3;obtain ⟨dx,hS⟩:=R3.sh.self;obtain ⟨a,jM,jQ,ea,ht,k1,k2⟩:=(R3.tw b hbl).tag;cases ea;have okb:=hw b _ (Xk hbl);refine ⟨_,rfl,_,rfl,X.S,dx,_,rfl,hS,rfl,_,rfl,X,lk,c,ls,b,rfl,R3,hbl,_,_,_,jM,rfl,rfl,Zn.of ht,rfl,v,jM,k,(YF (gd X.ts b)).lo,rfl,hv.mono (ZA.tups s3) _ _,k1,fk,(Ms okb).1,fun H4 s4=>⟨_,rfl,?_⟩⟩;have:=hB H4 (s4 _ _ eD) ⟨s3.trans s4,nD,ly⟩;rw [ebd] at this;exact this
  ·obtain ⟨s3,nD,ly⟩:=hP;rw [eu] at hz;obtain ⟨b,eb,rfl⟩:=LE hz;have ebd:(gd X.ts i).bs.getD j 0=b:=by rw [zAC,eb];rfl
   rw [ebd] at hk;refine ⟨_,rfl,hB _ H3 eD ⟨V2 s3 nD,nD,?_⟩⟩;rw [P4 _ eb,if_pos hk,zAI,zAI,ly];rfl
  ·obtain ⟨s3,nD,ly⟩:=hP;have hj':j<(gd X.ts i).bs.length:=by lia
   have eb:(gd X.ts i).bs[j]? = some ((gd X.ts i).bs.getD j 0):=by rw [zAC,zAE hj'];rfl
   refine ⟨s3,nD,?_⟩;rw [P4 _ eb,if_neg (by rw [hk];exact zAF),zA0]
   exact ly
  ·obtain ⟨s3,nD,ly⟩:=hP;rw [zAU (by lia)] at ly
   refine ⟨_,rfl,D,ys,rfl,.inl (ZK.of eD),_,_,rfl,rfl,_,_,rfl,?_⟩;have e:Yw X.ts k i=ys.length - 1:=by rw [ly];exact if_neg h
   have e2:(if (0:Int) > ((ys.length:Nat):Int) - 1 then (0:Int) else ((ys.length:Nat):Int) - 1)=((Yw X.ts k i:Nat):Int):=by
    rw [e];split <;> lia
   have:=q H3 s3;rw [<-e2] at this;exact this
end
end Tw
namespace L2
open PySem PySem.Spec PyProof.Rows
section
variable{P:Program}{w:World}{K:zAA}{mg:jb}{base:Heap}
end
section
variable{M:Model}{A:Around}{E:ja}{s:Shared}
end
section
variable{X:Cx}{pins:List (Addr×Obj)}{σ:St}{H:Hp}{s:Shared}{E E1:XK}
end
section
variable{M:Model}{A:Around}{E:ja}{s:Shared}{B:Heap}{env:Env}{outer l:List Env}{L e:Addr}{cls:Value}{od:Option Addr}{Q:Unit->Shared->Prop}
end
section
variable{X:Cx}{pins:List (Addr×Obj)}{σ:St}{H:Hp}{s:Shared}{E E1:XK}
end
section
variable{X:Cx}{E:XK}
theorem CO{x:Str}{C:Addr}{np jk pos:Pos}(F:Vq X E)(O:OwnCls x C [.type "ValueError",.type "Exception",.type "BaseException",.type "object"] "ValueError.__new__" X.mg X.base)(kp:zAu X.K (.ref C)=true)(mB:zAw X.K C (.type "BaseException")=some true)(ht:zBA X.K (.ref C)=some (.type "type"))(hg:Gl X x)(jx:(x==("__debug__" : Str))=false:=by decide):
  PS X (.Raise (some (.Call (.Name x np) [] [] jk)) none pos) (fun _ _ H=>E (.ref C) none H):=by
 intro pins s σ H D I h;have hh:=I.ok.hd F.calm;rw [arm_exec_Raise];refine wpAny_bind (wpAny_standAt ?_);refine II hh mB ht (wpAny_bind (wpAny_mono ?_ (fun v s3 h3=>wpAny_bind (wpAny_standAt (wpAny_pure h3))) fun _ _ z=>z));have FB:=zCv;obtain ⟨tl,N,nm,q,bs,hdct,sn,sub,ab,col,dd,k0,k1,k2,k3,k5,mN,hC,hN,hni,T⟩:=O.obj;refine wpAny_Call_Name_kw (Qd I hg O.bound ?_ jx);refine zCZ I.kIn kp ?_;obtain ⟨hp,g,d,tk,os⟩:=s;refine wpAny_call_exc_subU (rest:=[]) FB FB.hasB FB (T.keeps I.bk) (I.bk _ _ hC) (hN.keeps I.bk) hni (fun h' ea hm=>?_) (zAd _);obtain ⟨tt,e1,e2,e3⟩:=hm.there;have J:=I.newx (C:=C) (ea:=ea) (h':=h') hm.keeps hm.new ⟨_,_,e1,rfl,rfl,rfl,rfl⟩;have hn:H ea=none:=by
  cases z:H ea with
  | none=>rfl
  | some o=>
   obtain ⟨o',q'⟩:=I.hok.there (a:=ea) (by rw [z];exact fun y=>nomatch y)
   have:=hm.new;rw [q'] at this;cases this
 have new0:X.s₀.heap.get? ea=none:=by
  cases z:X.s₀.heap.get? ea with
  | none=>rfl
  | some o=>
   obtain ⟨o',q'⟩:=I.base.there ea o z (by rw [F.ex];simp)
   have:=hm.new;rw [q'] at this;cases this
 exact ⟨ea,none,rfl,J.kIn,(J.hok ea _ ZN).1,KL F (J.untrack hn) new0 hn (J.hok ea _ ZN).1 h⟩
end
end L2
namespace Tw
open PySem PySem.Spec L2 PyProof.Rows
section
variable{P:Program}{w:World}{K:zAA}{mg:jb}{base:Heap}{f:Addr}{fd:FuncData}{jg jh CS CT CH:Addr}
def Uh(N:Addr->Prop)(H:Hp)(o:Option KT)(v:V):Prop:=match o with
 | some t=>ZE H t v/\t.fits 3=true
 | none=>∃ g:TG,Zm N H g v/\g.neat/\g.fits 3=false
theorem Uh.mono{N:Addr->Prop}{H H':Hp}{v:V}{o:Option KT}(h:Uh N H o v)(m:XM N H H'):Uh N H' o v:=by
 cases o with
 | some t=>exact ⟨h.1.mono m.tup,h.2⟩
 | none=>
  obtain ⟨g,h1,h2,h3⟩:=h;exact ⟨g,h1.mono m,h2,h3⟩
theorem Uh.tg{N:Addr->Prop}{H:Hp}{v:V}{o:Option KT}(h:Uh N H o v):∃ g:TG,Zm N H g v/\g.neat/\g.fits 3=o.isSome:=by
 cases o with
 | some t=>exact ⟨t.emb,MU t v h.1,M5 t 3 h.2,by rw [Mz];exact h.2⟩
 | none=>exact h
structure WD(P:Program)(w:World)(K:zAA)(mg:jb)(base:Heap)(k:Nat)(x:Str)(ps:List Str)(sp:Sp):Prop where
 ex:∃ f fd,ZM P w K mg base (WO P w) k f fd ps sp/\Zs K fd ps []/\zAu K (.ref f)=true/\mg x=some (.ref f)
theorem Zd.ofD{P:Program}{w:World}{K:zAA}{mg:jb}{base:Heap}{x:Str}{st:Stmt}{ps:List Str}{k:Nat}{sp:Sp}(L:Zd K mg x st ps)(h:∀ f fd,Zq K x x st f fd->ZM P w K mg base (WO P w) k f fd ps sp):WD P w K mg base k x ps sp:=by
 obtain ⟨f,fd,F,b,m⟩:=L.ex;exact ⟨f,fd,h f fd F,b,F.kp,m⟩
theorem Ku{X:Cx}{E:XK}{k:Nat}{x:Str}{ps:List Str}{sp:Sp}{e:Expr}{es:List Expr}{t:TA}{p pos:Pos}(F:Vq X E)(D:WD X.prog X.w X.K X.mg X.base k x ps sp)(hr:ZY k X.A)(ha:PA X (e :: es) t)(hg:Gl X x:=by rfl)(jx:(x==("__debug__" : Str))=false:=by decide)(he:starEach (e :: es) X.env=(false,eval e X.env) :: starEach es X.env:=by rfl)(jr:(backTo pos (starEach es X.env)).any (·.1)=false:=by rfl):
  PE X (.Call (.Name x p) (e :: es) [] pos) (O9 sp [] E t):=by
 obtain ⟨f,fd,FF,b,kp,m⟩:=D.ex;exact Lj FF hr hg m kp b .nil (LM F fun _ _ _ h=>h) ha jx he jr
abbrev Q0:jd:=[.type "ValueError",.type "Exception",.type "BaseException",.type "object"]
end
structure HP(K:zAA)(mg:jb)(CK:Addr):Prop where
 at_:mg "NoKey" = some (.ref CK)
 exk:zCd K CK Q0 "ValueError.__new__" = true
 kp:zAu K (.ref CK)=true
 mB:zAw K CK (.type "BaseException")=some true
 ty:zBA K (.ref CK)=some (.type "type")
def Z2:Option Int->V
 | none=>.non
 | some x=>.int x
def Y0(ts:List ZT)(k:KT):Option Nat->List (Nat×Nat)
 | none=>[]
 | some i=>VX ts k (gd ts i).h i
def Zv:Option Nat->Option Int
 | none=>none
 | some i=>some (i:Int)
def UE(ts:List ZT):Option Int->Bool
 | none=>true
 | some x=>inT ts x
section
variable{P:Program}{w:World}{K:zAA}{mg:jb}{base:Heap}{f:Addr}{fd:FuncData}{jg jh CT CK:Addr}
inductive YW(CK:Addr)(vs:je)(H:Hp)(Q:VK)(E:XK):Prop
 | mk (v:V) (N:Addr->Prop) (o:Option KT) (_:vs=[v]) (_:Uh N H o v) (_:o.isSome=true->∀ H',ZA H H'->Q v H') (_:o=none->∀ H',ZA H H'->E (.ref CK) none H')
theorem Bb(F:Zq K "checked" "checked" NF f fd)(kin:K.In base)(L:HP K mg CK)(DI:ZB P w K mg base 6 "is_key" ["thing"] XG):ZM P w K mg base (WO P w) 7 f fd ["thing"] (YW CK):=by
 refine F.okD IL (fun vs H Q E h=>(by obtain ⟨_,_,_,rfl,_⟩:=h;rfl)) (fun cdv A outer s H vs Q E hr h=>?_)
 obtain ⟨v,N,o,rfl,hv,k1,k2⟩:=h;refine ⟨_,ZQ (Z1 (Uj (Xo (Zh DI hr (ZG (pv 0) ZH)))) (ZW (CO PU (Gi kin L.at_ L.exk) L.kp L.mB L.ty rfl)) Z8) (ZW (Zk (pv 0))),?_⟩;obtain ⟨g,tg,ng,fg⟩:=hv.tg;refine ⟨_,rfl,v,g,N,rfl,tg,ng,fun H1 s1=>⟨_,rfl,?_⟩⟩;rw [fg]
 cases o with
 | some t=>exact Zr ⟨_,rfl,k1 rfl H1 s1⟩
 | none=>exact Z9 (k2 rfl H1 s1)
inductive YV(jg jh CT CK:Addr)(vs:je)(H:Hp)(Q:VK)(E:XK):Prop
 | mk (X:Yx) (lk:Addr) (c:Nat) (ls:je) (r:Option Int) (v:V) (N:Addr->Prop) (o:Option KT) (_:vs=[.ref X.S,Z2 r,v]) (_:YE jg jh H X lk c ls) (_:Uh N H o v) (_:∀ x,r=some x->inT X.ts x=false->Pa CT x E H) (_:UE X.ts r=true->o=none->∀ H',ZA H H'->E (.ref CK) none H') (_:UE X.ts r=true->o.isSome=true->∀ H',ZA H H'->Q .non H')
theorem Cd:ZD ["shelf","root","key"] ["shelf","root","key"] (Zg Mc):=Zu
theorem Cy(F:Zq K "check_asked" "check_asked" Mc f fd)(L:Yt K mg jg jh)(DL:ZJ P w K mg base (WO P w) 4 jg "label" ["self","number"] (X4 jg jh CT))(DC:WD P w K mg base 7 "checked" ["thing"] (YW CK)):ZM P w K mg base (WO P w) 8 f fd ["shelf","root","key"] (YV jg jh CT CK):=by
 refine F.okD Cd (fun vs H Q E h=>(by obtain ⟨_,_,_,_,_,_,_,_,rfl,_⟩:=h;rfl)) (fun cdv A outer s H vs Q E hr h=>?_)
 obtain ⟨X,lk,c,ls,r,v,N,o,rfl,R,hv,k1,k2,k3⟩:=h;have hr4:=hr.mono (show 4<=7 by decide)
 refine ⟨_,ZQ (Z1 (Qr (Oq (pv 1))) (ZW (WP (Xf (E:=E) (pv 0) L.cS DL hr4 (LM PU fun _ _ _ h=>h) (ZG (pv 1) ZH)))) Z8)
  (ZW (WP (Ku PU DC hr (ZG (pv 2) ZH)))),?_⟩
 have last:UE X.ts r=true->YW CK ([v]++[]) H (fun _ H1=>Q .non H1) E:=fun g=>⟨v,N,o,rfl,hv,fun z H' s'=>k3 g z H' s',fun z H' s'=>k2 g z H' s'⟩
 cases r with
 | none=>
  refine ⟨_,rfl,_,rfl,Zr ⟨_,rfl,last rfl⟩⟩
 | some x=>
  refine ⟨_,rfl,_,rfl,Z9 ?_⟩;obtain ⟨dx,hS⟩:=R.sh.self;refine ⟨_,rfl,X.S,dx,_,rfl,hS,rfl,_,rfl,X.S,X.d,lk,c,X.kvs,ls,x,rfl,R.sh,fun tw hx=>?_,fun hx=>?_⟩
  ·have hi:inT X.ts x=true:=by
    cases z:inT X.ts x with
    | true=>rfl
    | false=>rw [R.none z] at hx;cases hx
   obtain ⟨i,rfl,hi'⟩:=LZ hi;rw [R.val i hi'] at hx;cases hx;exact ⟨_,_,_,_,_,_,rfl,(R.tw i hi').tw,_,rfl,last hi⟩
  ·have hi:inT X.ts x=false:=by
    cases z:inT X.ts x with
    | false=>rfl
    | true=>
     obtain ⟨i,rfl,hi'⟩:=LZ z;rw [R.val i hi'] at hx;cases hx
   exact k1 x rfl hi
structure Pq(gt:List KT)(jg jh CT CK:Addr)(H:Hp)(X:Yx)(lk:Addr)(c:Nat)(ls:je)(r:Option Int)(v:V)(o:Option KT)(E:XK):Prop where
 sh:YE jg jh H X lk c ls
 wf:WF gt X.ts
 low:∀ i,i<X.ts.length->(gd X.ts i).h<=60
 few:ls.length<=500
 key:∃ N,Uh N H o v
 no1:∀ x,r=some x->inT X.ts x=false->Pa CT x E H
 no2:UE X.ts r=true->o=none->∀ H',ZA H H'->E (.ref CK) none H'
def VV(p:List (Nat×Nat)):je:=p.map fun s=>V.int (s.1:Int)
theorem Dx{ts:List ZT}{r:Option Int}(h:UE ts r=true):∃ rn,r=Zv rn/\∀ i,rn=some i->i<ts.length:=by
 cases r with
 | none=>exact ⟨none,rfl,fun i h=>by cases h⟩
 | some x=>
  obtain ⟨i,rfl,hi⟩:=LZ h;exact ⟨some i,rfl,fun j h=>by cases h;exact hi⟩
end
def O6(p:Nat×Nat):KT:=.tup [.int (p.1:Int),.int (p.2:Int)]
theorem P1{ts:List ZT}{rn:Option Nat}(k:KT)(low:∀ i,i<ts.length->(gd ts i).h<=60)(jt:∀ i,rn=some i->i<ts.length):(Y0 ts k rn).length<=61:=by
 cases rn with
 | none=>exact zAd _
 | some i=>
  have:(Y0 ts k (some i)).length=(gd ts i).h+1:=Jw _ _ _ _;have:=low i (jt i rfl)
  lia
theorem BT{X:Cx}:UA (WO X.prog X.w) X E0:=fun _ _ _ _ _ _ _ h=>by
 obtain ⟨_,_,_,_,_,_,q⟩:=h;exact q.elim
theorem BR{X:Cx}{k:Nat}{x:Str}{ps:List Str}{sp:Sp}{e:Expr}{es:List Expr}{t:TA}{p pos:Pos}(D:WD X.prog X.w X.K X.mg X.base k x ps sp)(hr:ZY k X.A)(ha:PA X (e :: es) t)(hg:Gl X x:=by rfl)(jx:(x==("__debug__" : Str))=false:=by decide)(he:starEach (e :: es) X.env=(false,eval e X.env) :: starEach es X.env:=by rfl)(jr:(backTo pos (starEach es X.env)).any (·.1)=false:=by rfl):
  PE X (.Call (.Name x p) (e :: es) [] pos) (O9 sp [] E0 t):=by
 obtain ⟨f,fd,FF,b,kp,m⟩:=D.ex;exact Lj FF hr hg m kp b .nil BT ha jx he jr
theorem BB{a b:Option Nat}(h:Zv a=Zv b):a=b:=by
 cases a with
 | none=>
  cases b with
  | none=>rfl
  | some b=>cases h
 | some a=>
  cases b with
  | none=>cases h
  | some b=>
   have e:(a:Int)=(b:Int):=zAh.inj h;have:a=b:=by lia
   rw [this]
theorem LD{ts:List ZT}{rn:Option Nat}(h:∀ i,rn=some i->i<ts.length):UE ts (Zv rn)=true:=by
 cases rn with
 | none=>rfl
 | some i=>
  have:=h i rfl;show inT ts (i:Int)=true;unfold inT;exact decide_eq_true (by lia)
section
variable{P:Program}{w:World}{K:zAA}{mg:jb}{base:Heap}{f:Addr}{fd:FuncData}{jg jh CS CT CH:Addr}
theorem G2{X:Cx}{w:World}{o i:Expr}{pos:Pos}{td ty:TE}(hu:X.A.units+5<cLine)(ho:PE X o td)(hi:PE X i ty)(hs:OS i)(hw:X.w=w:=by rfl):PE X (.Subscript o i pos) (Ho w td ty):=by
 subst hw;exact ZMI hu ho hi hs
theorem HR:∀{a b:List KT},YU a->YU b->(∀ k,k∈a ↔ k∈b)->a=b
 | [],[],_,_,_=>rfl
 | [],y :: b,_,_,h=>by simp at h;exact absurd rfl (h y).1
 | x :: a,[],_,_,h=>by simp at h;exact absurd rfl (h x).1
 | x :: a,y :: b,ha,hb,h=>by
  have ha':=zBN.mp ha;have hb':=zBN.mp hb;have e:x=y:=by
   rcases zAf.mp ((h x).mp (zAT ..)) with e | q
   ·exact e
   rcases zAf.mp ((h y).mpr (zAT ..)) with e | q'
   ·exact e.symm
   have h1:=hb'.1 x q;have h2:=ha'.1 y q';rw [Px _ _ h1] at h2;cases h2
  subst e;have:a=b:=HR ha'.2 hb'.2 fun k=>by
   constructor
   ·intro hk;rcases zAf.mp ((h k).mp (zAN _ hk)) with e | q
    ·have:=ha'.1 k hk;rw [e,Q3] at this;cases this
    ·exact q
   ·intro hk;rcases zAf.mp ((h k).mpr (zAN _ hk)) with e | q
    ·have:=hb'.1 k hk;rw [e,Q3] at this;cases this
    ·exact q
  rw [this]
theorem C2{ts:List KT}(h:YU ts):ts.Nodup:=h.imp fun{a b} q e=>by rw [e,Q3] at q;cases q
end
structure Xs(w:World)(H:Hp)(D:Addr)(rs:List Yg)(xs:List (KT×V×V)):Prop where
 dk:YC w H D xs
 rows:Paired (fun(r:Yg)(x:KT×V×V)=>x.1=r.1/\ZE H r.2 x.2.2) rs xs
theorem Xs.keys{w:World}{H:Hp}{D:Addr}{rs:List Yg}{xs:List (KT×V×V)}(h:Xs w H D rs xs):xs.map (·.1)=rs.map (·.1):=by
 have:=h.rows;clear h
 induction this with
 | nil=>rfl
 | cons a t ih=>rw [zAn,zAn,a.1,ih]
theorem Xs.but{w:World}{H H':Hp}{D p:Addr}{rs:List Yg}{xs:List (KT×V×V)}(h:Xs w H D rs xs)(s:ZC p H H')(t:Z6 H H')(n:D≠p):Xs w H' D rs xs:=⟨h.dk.but s t n,Paired.mapP h.rows fun _ _ z=>⟨z.1,z.2.mono t _ _⟩⟩
theorem Xs.same{w:World}{H H':Hp}{D:Addr}{rs:List Yg}{xs:List (KT×V×V)}(h:Xs w H D rs xs)(s:ZA H H'):Xs w H' D rs xs:=⟨h.dk.same s,Paired.mapP h.rows fun _ _ z=>⟨z.1,z.2.mono (ZA.tups s) _ _⟩⟩
theorem Bn{w:World}{H H':Hp}{d:Addr}{xs:List (KT×V×V)}(dk:YC w H d xs)(s:ZC d H H'):Z6 H H':=fun b ys e=>by
 obtain ⟨es,h,_⟩:=dk.ex;exact s b _ e (ZV e h (by unfold PR;intro z;cases z))
section
variable{P:Program}{w:World}{K:zAA}{mg:jb}{base:Heap}{f:Addr}{fd:FuncData}
inductive Xz(w:World)(vs:je)(H:Hp)(Q:VK)(_:XK):Prop
 | mk (p:Addr) (m:Int) (_:vs=[.ref p,.int m]) (_:ZF H p) (_:0<m) (_:m<=61) (_:∀(D:Addr)(rs:List Yg)(xs:List (KT×V×V))(H':Hp),H D=none->Xs w H' D rs xs->(∀ r∈rs,r.fit)->YU (rs.map (·.1))->rs.length<=60->ZF H' p->ZC p H H'->Q (.ref D) H')
abbrev Cz:List Str:=["_law_well_here","_law_most","_law_keys_here","_law_model","_law_spot"]
theorem VC:ZD Cz ["_law_well_here","_law_most"] (Zg Nv):=Zu
inductive ER(p:Addr)(m:Int)(Kl D:Addr)(w:World)(ts:List KT)(H:Hp)(vs:je)(i:Nat)(σ:L2.St)(H':Hp):Prop
 | mk (rs:List Yg) (xs:List (KT×V×V)) (x4:jf) (_:σ=[some (.ref p),some (.int m),some (.ref Kl),some (.ref D),x4]) (_:Xs w H' D rs xs) (_:rs.map (·.1)=ts.take i) (_:∀ r∈rs,r.fit) (_:ZF H' p) (_:ZC p H H') (_:H' Kl=some (.lst vs)) (_:KeysAt H' ts vs)
theorem ED(F:Zq K "_law_ground" "_law_ground" Nv f fd)(DP:ZB P w K mg base 1 "_law_pull" ["_law_well_here","_law_many"] Zl)(DK:ZB P w K mg base 9 "_law_keys" ["_law_well_here","_law_many"] VO)(DV:ZB P w K mg base 7 "_law_value" ["_law_well_here"] Wd):ZM P w K mg base ZU 10 f fd ["_law_well_here","_law_most"] (Xz w):=by
 refine F.ok VC (fun vs H Q E h=>(by obtain ⟨_,_,rfl,_⟩:=h;rfl)) (fun cdv A outer s H vs Q E hr h=>?_)
 obtain ⟨p,m,rfl,W,m0,m61,k⟩:=h;have nd:=VC.nd;have hr1:=hr.mono (show 1<=9 by decide)
 have hr7:=hr.mono (show 7<=9 by decide)
 have Nc:=ZY.key hr (n:=4) (by decide)
 refine ⟨_,ZQ (Zj 2 nd (Zh DK hr (ZG (pv 0) (ZG (Zh DP hr1 (ZG (pv 0) (ZG (pv 1) ZH))) ZH))))
  (ZQ (Zj 3 nd He)
  (ZQ (V7 PassesOwn.never rfl (VL (pv 2)) (Xd 4 nd)
   (ZW (Jl Nc (pv 3) (pv 4) (Zh DV hr7 (ZG (pv 0) ZH)) rfl)))
  (ZW (Zk (pv 3))))),?_⟩
 refine ⟨_,rfl,_,rfl,_,rfl,p,m,rfl,W,Yz (by lia) (by lia),fun n H1 n0 n1 W1 s1=>?_⟩
 have en:n=((n.toNat:Nat):Int):=by lia
 refine ⟨p,n.toNat,congrArg (fun y=>[V.ref p,V.int y]) en,W1,by lia,fun Kl vs ts H2 nK hK kK fK rK lK W2 s2=>?_⟩
 have pK:Kl≠p:=WY W1 nK;have s02:=s1.trans s2;intro D H3 nD sx3 s3 dk3;have W3:=W2.same s3;have hK3:=s3 _ _ hK;have Dp:D≠p:=WY W2 nD;have DK':D≠Kl:=fun z=>by rw [z,hK] at nD;cases nD
 have nD0:H D=none:=Pj s02 W2 nD;have s03:=s02.trans (ZC.of s3);have lv:=kK.length;refine ⟨_,rfl,Kl,rfl,⟨vs,ZK.of hK3⟩,Pf (K:=K) (a:=Kl) (xs:=vs) (ER p m Kl D w ts H vs)
  ⟨[],[],_,rfl,⟨dk3,.nil⟩,rfl,fun r hr=>by simp at hr,W3,s03,hK3,kK.mono (ZA.tups s3) _ _⟩ (fun i σ H' _ hP=>by obtain ⟨_,_,_,_,_,_,_,_,_,h,_⟩:=hP;exact ZK.of h) ?_ ?_⟩
 ·rintro i u σ H4 hu ⟨rs,xs,x4,rfl,dr,er,fr,W4,s4,hK4,kK4⟩;have hi:i<vs.length:=(zAK.mp hu).1;obtain ⟨t,et,kt⟩:=kK4.get hu;refine ⟨_,rfl,p,rfl,W4,fun v vt H5 kv fv W5 s5=>?_⟩;have t5:=s5.tupsW W4;have dr5:=dr.but s5 t5 Dp;have lx:=Paired.length dr5.rows;have lrs:rs.length=(ts.take i).length:=by rw [<-er,zAD]
  rw [zA8] at lrs;refine ⟨_,rfl,_,rfl,D,xs,t,rfl,dr5.dk,by lia,kt.mono t5 _ _,VU _ 3 (fK t (zAJ et)),fun H6 s6 dk6=>?_⟩
  have t6:=Bn dr5.dk s6;have hn:t∉xs.map (·.1):=by
   rw [dr5.keys,er];intro z;obtain ⟨j,hj⟩:=zBn z;rw [zCF] at hj;split at hj
   ·have:=(zCr (by lia) (C2 rK)).mp (hj.trans et.symm)
    lia
   ·cases hj
  have ep:UF xs t u v=xs++[(t,u,v)]:=by
   unfold UF;rw [if_neg fun z=>hn (Xm.mp z)]
  rw [ep] at dk6;refine ⟨rs++[(t,vt)],xs++[(t,u,v)],_,rfl,⟨dk6,Ps (a:=((t,vt):Yg)) ⟨rfl,kv.mono t6 _ _⟩ (Paired.mapP dr5.rows fun _ _ z=>⟨z.1,z.2.mono t6 _ _⟩)⟩,?_,fun r hr'=>?_,W5.stay s6 (Ne.symm Dp),fun b o e n=>s6 b o (s5 b o (s4 b o e n) n) (Zb e nD0),s6 _ _ (s5 _ _ hK4 pK) (Ne.symm DK'),(kK4.mono t5 _ _).mono t6 _ _⟩
  ·rw [zAV,er,zAo,et];rfl
  ·rcases zAm.mp hr' with z | z
   ·exact fr r z
   ·rw [zAS.mp z];exact ⟨fK t (zAJ et),fv⟩
 ·rintro σ H4 ⟨rs,xs,x4,rfl,dr,er,fr,W4,s4,hK4,kK4⟩;rw [zAU (by lia)] at er
  have lrs:rs.length=ts.length:=by rw [<-er,zAD]
  exact ⟨_,rfl,k D rs xs H4 nD0 dr fr (by rw [er];exact rK) (by lia) W4 s4⟩
inductive Xv(w:World)(vs:je)(H:Hp)(Q:VK)(_:XK):Prop
 | mk (D:Addr) (rs:List Yg) (xs:List (KT×V×V)) (_:vs=[.ref D]) (_:Xs w H D rs xs) (_:∀ r∈rs,r.fit) (_:YU (rs.map (·.1))) (_:rs.length<=60) (_:∀(l:Addr)(us:je)(H':Hp),ZA H H'->H l=none->H' l=some (.lst us)->KeysAt H' (YQ rs) us->Q (.ref l) H')
theorem Di:ZD ["_law_model"] ["_law_model"] (Zg LC):=Zu
theorem F4(F:Zq K "_law_sorted" "_law_sorted" LC f fd)(T:YD mg)(DR:ZB P w K mg base 6 "_law_rank" ["_law_spot"] (Yk 5)):ZM P w K mg base ZU 9 f fd ["_law_model"] (Xv w):=by
 refine F.ok Di (fun vs H Q E h=>(by obtain ⟨_,_,_,rfl,_⟩:=h;rfl)) (fun cdv A outer s H vs Q E hr h=>?_)
 obtain ⟨D,rs,xs,rfl,dr,fr,ris,l60,k⟩:=h;have hu5:=ZY.key hr (n:=5) (by decide)
 have DS:ZB P w K mg base 6 "_law_rank" ["_law_spot"] (Ux KT.rk):=by
  obtain ⟨g,gd,FG,b,kp,m⟩:=DR.ex;exact ⟨g,gd,FG.imp fun vs H Q E h=>by
   obtain ⟨v,t,e,a,c,d⟩:=h;have:=VU t 3 c;exact ⟨v,t,3,e,a,c,by lia,d⟩,b,kp,m⟩
 refine ⟨_,ZW (Zk (Wx [0] ["_law_model"] rfl (VL (Hm JS Pb DS hr rfl T.sorted rfl (ZG (pv 0) ZH))) (fun _ _ _ _ _=>Vk) (fun _ _ _ _ _=>Yh (ZG (pv 0) (ZG (G2 (w:=w) hu5 (pv 1) (pv 0) (fun _ _=>rfl)) ZH))) ⟨rfl,.inl rfl,rfl,trivial⟩)),?_⟩;have lx:=Paired.length dr.rows;have ek:=dr.keys;have kf:∀ x∈xs,x.1.fits 3=true:=fun x hx=>by
  have:x.1∈rs.map (·.1):=by rw [<-ek];exact zAb.mpr ⟨x,hx,rfl⟩
  obtain ⟨r,hr',e⟩:=zAb.mp this;rw [<-e];exact (fr r hr').1
 refine ⟨_,rfl,D,xs,rfl,dr.dk,kf,by lia,fun S ws ts H1 s1 nS hS ka pm pw=>?_⟩
 have et:ts=rs.map (·.1):=HR (IY (pm.nodup_iff.mpr dr.dk.nd) pw) ris fun t=>by rw [pm.mem_iff,ek]
 subst et;have dr1:=dr.same s1;have lw:=ka.length;rw [zAD] at lw;refine ⟨S,rfl,⟨ws,ZK.of hS⟩,Vb (n:=ws.length) (fun i z=>ws[i]? = some z) (fun E i ys H3=>ZA H1 H3/\H1 E=none/\KeysAt H3 ((YQ rs).take i) ys) (Yp (by lia))
  (fun E i ys H3 hi hP=>⟨ws,ws[i],ZK.of (hP.1 _ _ hS),by simp [hi]⟩) (fun E i ys H3 z H4 hi hP hy=>⟨hy.1,hy.2 ws (ZK.of (hP.1 _ _ hS))⟩) (fun E ys H3 hP=>⟨ws,ZK.of (hP.1 _ _ hS),zAH _⟩)
  (fun E hE=>⟨ZS hE _,hE,.nil⟩) (fun E i ys H3 z eE hl' hi hz hP RR jY=>?_) (fun E ys H3 eE hP=>?_)⟩
 ·obtain ⟨s3,nE,kys⟩:=hP;obtain ⟨t,et,kt⟩:=ka.get hz;rw [zAM] at et;obtain ⟨r,er,rfl⟩:=zAa.mp et;have hix:xs[i]? = some (xs[i]'(by lia)):=zAE (by lia)
  have dr3:=dr1.same s3;obtain ⟨r',er',e1,e2⟩:=Paired.ixR dr3.rows hix;rw [er] at er';cases er';have hv:=JT dr.dk.nd hix;rw [e1] at hv;have ff:=(fr r (zAJ er)).1;refine ⟨_,rfl,_,rfl,_,rfl,D,xs,r.1,_,rfl,dr3.dk,kt.mono (ZA.tups s3) _ _,VU _ 3 ff,hv,nn (zAB rfl),fun q nq=>?_⟩;have g:=ZS nq (.tup [z,(xs[i]'(by lia)).2.2])
  have eq:=ZN (H:=H3) (a:=q) (o:=.tup [z,(xs[i]'(by lia)).2.2])
  have eE4:=g _ _ eE;refine jY _ _ eE4 ⟨V2 (s3.trans g) nE,nE,?_⟩;have tE:Z6 (upd H3 q (.tup [z,(xs[i]'(by lia)).2.2])) (upd (upd H3 q (.tup [z,(xs[i]'(by lia)).2.2])) E (.lst (ys++[.ref q]))):=(ZC.refl E _).upd.tups eE4
  unfold YQ;rw [zAo,zAM,er];refine ((kys.mono (ZA.tups g) _ _).mono tE _ _).append (.cons (.tup (tE _ _ eq) (.cons ?_ (.cons ?_ .nil))) .nil)
  ·exact (kt.mono (ZA.tups (s3.trans g)) _ _).mono tE _ _
  ·exact (e2.mono (ZA.tups g) _ _).mono tE _ _
 ·obtain ⟨s3,nE,kys⟩:=hP;rw [zAU (by unfold YQ;rw [zAD];lia)] at kys
  exact k E ys H3 (s1.trans s3) (s1.free nE) eE kys
end
theorem K3:∀(n:Nat)(l:List Nat),l.Nodup->(∀ x∈l,x<n)->l.length<=n
 | 0,[],_,_=>zAH _
 | 0,x :: _,_,h=>absurd (h x (zAT ..)) (by lia)
 | n+1,l,nd,h=>by
  have h1:=K3 n (l.erase n) (nd.erase n) fun x hx=>by
   have:=h x (List.mem_of_mem_erase hx);have ne:x≠n:=fun z=>by
    rw [z] at hx;exact (List.Nodup.not_mem_erase nd) hx
   lia
  by_cases hm:n∈l
  ·rw [List.length_erase_of_mem hm] at h1
   lia
  ·rw [List.erase_of_not_mem hm] at h1
   lia
def Vz(H:Hp)(t:ZT)(v:V):Prop:=∃ tp u us,v=.ref tp/\H tp=some (.tup [.str (kindOf t),.ref u])/\H u=some (.tup us)/\(t.h=0->KeysAt H (YQ t.rows) us)/\(t.h≠0->us=iN t.bs)
theorem Vz.mono{H H':Hp}{t:ZT}{v:V}(h:Vz H t v)(m:Z6 H H'):Vz H' t v:=by
 obtain ⟨tp,u,us,e,h1,h2,h3,h4⟩:=h;exact ⟨tp,u,us,e,m _ _ h1,m _ _ h2,fun z=>(h3 z).mono m _ _,h4⟩
structure XL(ts:List ZT)(H:Hp)(kvs:List (ZZ×V))(F:List Nat):Prop where
 nd:F.Nodup
 lt:∀ j∈F,j<ts.length
 no:∀ j:Nat,j∉F->YJ kvs (Sum.inl (j:Int))=none
 yes:∀ j:Nat,j∈F->∃ v,YJ kvs (Sum.inl (j:Int))=some v/\Vz H (gd ts j) v
 len:kvs.length=F.length
theorem XL.mono{ts:List ZT}{H H':Hp}{kvs:List (ZZ×V)}{F:List Nat}(h:XL ts H kvs F)(m:Z6 H H'):XL ts H' kvs F:=⟨h.nd,h.lt,h.no,fun j hj=>by
 obtain ⟨v,e,r⟩:=h.yes j hj;exact ⟨v,e,r.mono m⟩,h.len⟩
theorem XL.put{ts:List ZT}{H:Hp}{kvs:List (ZZ×V)}{F:List Nat}(h:XL ts H kvs F){j:Nat}(hj:j<ts.length)(hn:j∉F){v:V}(hv:Vz H (gd ts j) v):XL ts H (XD kvs (Sum.inl (j:Int)) v) (F++[j]):=by
 refine ⟨?_,fun i hi=>?_,fun i hi=>?_,fun i hi=>?_,?_⟩
 ·rw [zBk];exact ⟨h.nd,by simp,fun a ha b hb=>by rw [zAS.mp hb];exact fun z=>hn (z ▸ ha)⟩
 ·rcases zAm.mp hi with z | z
  ·exact h.lt i z
  ·rw [zAS.mp z];exact hj
 ·have n1:i∉F:=fun z=>hi (zA9 _ z);have n2:i≠j:=fun z=>hi (zAk _ (by rw [z];exact zAS.mpr rfl))
  rw [Oi,if_neg fun z=>n2 (by have:=Sum.inl.inj z;lia)]
  exact h.no i n1
 ·rw [Oi];by_cases z:i=j
  ·subst z;exact ⟨v,if_pos rfl,hv⟩
  ·rw [if_neg fun y=>z (by have:=Sum.inl.inj y;lia)]
   exact h.yes i ((zAm.mp hi).elim id fun y=>absurd (zAS.mp y) z)
 ·rw [Lh v (h.no j hn),zAI,zAI,h.len];rfl
def Mf(ts:List ZT)(F:List Nat)(T:List (Option Nat)):Prop:=∀ j∈F,∀ b∈(gd ts j).bs,b∈F\/some b∈T
abbrev WW(l:List (Option Nat)):je:=l.map fun x=>Z2 (Zv x)
def O4(ts:List ZT):Option Nat->Nat
 | none=>1
 | some j=>5 ^ (gd ts j).h
def Qk(ts:List ZT)(l:List (Option Nat)):Nat:=(l.map (O4 ts)).sum
theorem NZ{ts:List ZT}{l:List (Option Nat)}{x:Option Nat}:Qk ts l<Qk ts (l++[x]):=by
 unfold Qk;rw [zAV,zC8];have:0<O4 ts x:=by
  cases x with
  | none=>exact Nat.one_pos
  | some j=>exact Nat.pow_pos (by decide)
 simp only [zAn,zCE,zCi,List.sum_nil,Nat.add_zero]
 lia
theorem E5{ts:List ZT}{gt:List KT}{l:List (Option Nat)}{b:Nat}(hw:WF gt ts)(hb:b<ts.length)(hh:(gd ts b).h≠0):Qk ts (l++(gd ts b).bs.map some)<Qk ts (l++[some b]):=by
 obtain ⟨h1,h2,h3,_⟩:=(hw b _ (Xk hb)).stem hh;have key:∀(bs:List Nat),(∀ c∈bs,(gd ts c).h+1=(gd ts b).h)->((bs.map some).map (O4 ts)).sum=bs.length * 5 ^ ((gd ts b).h - 1):=by
  intro bs
  induction bs with
  | nil=>intro _;simp
  | cons c bs ih=>
   intro h;have hc:=h c (zAT ..);rw [zAn,zAn,zCi,ih fun x hx=>h x (zAN _ hx),zAW,Nat.succ_mul];show 5 ^ (gd ts c).h+_=_;rw [show (gd ts c).h=(gd ts b).h - 1 by lia]
   lia
 unfold Qk;rw [zAV,zC8,zAV,zC8,key _ fun c hc=>(h3 c hc).2];have e2:O4 ts (some b)=5 * 5 ^ ((gd ts b).h - 1):=by
  show 5 ^ (gd ts b).h=_;have:(gd ts b).h=((gd ts b).h - 1)+1:=by lia
  rw [this,Nat.pow_succ,Nat.mul_comm];simp
 have pos:0<5 ^ ((gd ts b).h - 1):=Nat.pow_pos (by decide)
 simp only [zAn,zCE,zCi,List.sum_nil,Nat.add_zero];rw [e2];have:(gd ts b).bs.length * 5 ^ ((gd ts b).h - 1)<=4 * 5 ^ ((gd ts b).h - 1):=Nat.mul_le_mul_right _ h2
 lia
section
variable{P:Program}{w:World}{K:zAA}{mg:jb}{base:Heap}{f:Addr}{fd:FuncData}{jg jh:Addr}
inductive Xa(gt:List KT)(jg jh:Addr)(vs:je)(H:Hp)(Q:VK)(_:XK):Prop
 | mk (X:Yx) (lk:Addr) (c:Nat) (ls:je) (rn:Option Nat) (d:Addr) (_:vs=[.ref X.S,Z2 (Zv rn),.ref d]) (_:YE jg jh H X lk c ls) (_:WF gt X.ts) (_:X.ts.length<=240) (_:ls.length<=500) (_:∀ i,rn=some i->i<X.ts.length) (_:H d=some (.dK [])) (_:d≠X.d) (_:∀(H':Hp)(kvs:List (ZZ×V))(F:List Nat)(ls':je),(∀ b o,b≠lk->b≠d->H b=some o->H' b=some o)->YE jg jh H' X lk c ls'->ls'.length<=ls.length+X.ts.length->H' d=some (.dK kvs)->XL X.ts H' kvs F->Mf X.ts F []->(∀ i,rn=some i->i∈F)->Q (.ref d) H')
abbrev CF:List Str:=["_law_shelf","_law_root","_law_found","_law_todo","_law_number","_law_kind","_law_what"]
theorem WJ:ZD CF ["_law_shelf","_law_root","_law_found"] (Zg NR):=Zu
structure XZ(jg jh:Addr)(H H':Hp)(X:Yx)(lk:Addr)(c:Nat)(ls:je)(d ta:Addr)(todo:List (Option Nat))(F:List Nat)(kvs:List (ZZ×V))(ls':je):Prop where
 fr:∀ b o,b≠lk->b≠d->H b=some o->H' b=some o
 sh:YE jg jh H' X lk c ls'
 len:ls'.length=ls.length+F.length
 hd:H' d=some (.dK kvs)
 rcd:XL X.ts H' kvs F
 hta:H' ta=some (.lst (WW todo))
 nta:H ta=none
 tl:ta≠lk
 tw:∀ i:Nat,i<X.ts.length->(X.as.getD i .d).ab≠ta/\(X.as.getD i .d).th≠ta
section
variable{H H' H'':Hp}{X:Yx}{lk:Addr}{c:Nat}{ls ls':je}{d ta:Addr}{todo todo':List (Option Nat)}{F:List Nat}{kvs:List (ZZ×V)}
theorem XZ.same(r:XZ jg jh H H' X lk c ls d ta todo F kvs ls')(s:ZA H' H''):XZ jg jh H H'' X lk c ls d ta todo F kvs ls':=
 ⟨fun b o n1 n2 e=>s b o (r.fr b o n1 n2 e),r.sh.same s,r.len,s _ _ r.hd,r.rcd.mono (ZA.tups s),s _ _ r.hta,r.nta,r.tl,r.tw⟩
theorem XZ.pop(r:XZ jg jh H H' X lk c ls d ta todo F kvs ls'):XZ jg jh H (upd H' ta (.lst (WW todo'))) X lk c ls d ta todo' F kvs ls':=by
 have s:ZC ta H' (upd H' ta (.lst (WW todo'))):=(ZC.refl ta H').upd;have t:=s.tups r.hta;obtain ⟨⟨dS,hS⟩,hd,hl⟩:=r.sh.sh;have N:¬ Od X lk ta:=by
  rintro (z | z | z)
  ·exact ZV r.hta hS (by intro z;cases z) z
  ·exact ZV r.hta hd (by intro z;cases z) z
  ·exact r.tl z
 refine ⟨fun b o n1 n2 e=>by rw [ZX (Zb e r.nta)];exact r.fr b o n1 n2 e,r.sh.but s N (fun i hi=>?_) t,r.len,s _ _ r.hd (ZV r.hd r.hta),r.rcd.mono t,ZN,r.nta,r.tl,r.tw⟩
 obtain ⟨dy,hy⟩:=(r.sh.tw i hi).tw.self;exact ⟨ZV hy r.hta,r.tw i hi⟩
theorem XZ.anew(r:XZ jg jh H H' X lk c ls d ta todo F kvs ls'){q:Addr}(nq:H' q=none)(hq:H lk≠none)(hd0:H d≠none):XZ jg jh H (upd H' q (.lst (WW todo'))) X lk c ls d q todo' F kvs ls':=by
 have g:=ZS nq (.lst (WW todo'));have r':=r.same g;have nlk:q≠lk:=(Zb r.sh.sh.looks nq).symm;have nd:q≠d:=(Zb r.hd nq).symm;refine ⟨r'.fr,r'.sh,r'.len,r'.hd,r'.rcd,ZN,?_,nlk,fun i hi=>?_⟩
 ·cases e:H q with
  | none=>rfl
  | some o=>rw [r.fr q o nlk nd e] at nq;cases nq
 ·obtain ⟨us,e1,_⟩:=(r.sh.tw i hi).things;exact ⟨Zb (r.sh.tw i hi).tw.above nq,Zb e1 nq⟩
end
theorem Lr(t:ZT):decide (V.str (kindOf t)=V.str "stem")=decide (t.h≠0):=by
 by_cases h:t.h=0
 ·rw [Jb h,decide_eq_false (show ¬ t.h≠0 from fun z=>z h)];decide +kernel
 ·rw [Kj h,decide_eq_true rfl,decide_eq_true h]
inductive GV(X:Yx)(rn:Option Nat)(d jg jh:Addr)(H:Hp)(lk:Addr)(c:Nat)(ls:je)(m:Nat)(σ:L2.St)(H':Hp):Prop
 | mk (ta:Addr) (todo:List (Option Nat)) (F:List Nat) (kvs:List (ZZ×V)) (ls':je) (x4 x5 x6:jf) (_:σ=[some (.ref X.S),some (Z2 (Zv rn)),some (.ref d),some (.ref ta),x4,x5,x6]) (_:m=Qk X.ts todo) (_:XZ jg jh H H' X lk c ls d ta todo F kvs ls') (_:Mf X.ts F todo) (_:∀ i,rn=some i->i∈F\/some i∈todo) (_:∀ i,some i∈todo->i<X.ts.length) (_:todo.length<=1+4 * F.length)
theorem EJ{gt:List KT}(F0:Zq K "_law_reached" "_law_reached" NR f fd)(T:YD mg)(L:Yt K mg jg jh)(DL:ZJ P w K mg base ZU 2 jg "look" ["self","number"] (Wl jg jh)):ZM P w K mg base ZU 3 f fd ["_law_shelf","_law_root","_law_found"] (Xa gt jg jh):=by
 refine F0.ok WJ (fun vs H Q E h=>(by obtain ⟨_,_,_,_,_,_,rfl,_⟩:=h;rfl)) (fun cdv A outer s H vs Q E hr h=>?_)
 obtain ⟨X,lk,c,ls,rn,d,rfl,R,hw,t200,l500,jt,hd,dXd,k⟩:=h;have nd:=WJ.nd;have hu:=Qt hr;refine ⟨_,ZQ (Zj 3 nd (YM (ZG (pv 1) ZH)))
  (ZQ (Q2 PassesOwn.never (YN (M8 hr.units0) (pv 3) (YM ZH) (Zy _))
   (ZQ (Zj 4 nd (Eg zAr PySem.F.slot_list_pop PySem.F.type_list_pop Fc (pv 3)))
   (ZW (Z1 (PW.pt (LN (Qr (Oq (pv 4))) (Mn (Qr (Mw hu (pv 4) (pv 2))))))
    (ZQ (QE (Xf (E:=E0) (pv 0) L.cS DL hr XE (ZG (pv 4) ZH)) (Q5 rfl (V8 (Xd 5 nd) (V8 (Xd 6 nd) PX))))
    (ZQ (Kq hu (pv 2) (pv 4) (Yh (ZG (pv 5) (ZG (WA NE rfl T.tuple P3 (ZG (pv 6) ZH)) ZH))) rfl)
    (ZW (Z1 (YN X9 (pv 5) X3 (Zy _)) (ZW (Zj 3 nd (Zo Vi (pv 3) (WA UJ rfl T.list UK (ZG (pv 6) ZH))))) Z8)))) Z8))))
  (ZW (Zk (pv 2)))),?_⟩
 have hlk0:=R.sh.looks;have dlk:d≠lk:=ZV hd hlk0;have lkne:H lk≠none:=by rw [hlk0];exact fun z=>nomatch z
 have dne:H d≠none:=by rw [hd];exact fun z=>nomatch z
 refine ⟨_,rfl,nn (zAB rfl),fun ta nta=>?_⟩;have g0:=ZS nta (.lst [Z2 (Zv rn)]);have I0:XZ jg jh H (upd H ta (.lst [Z2 (Zv rn)])) X lk c ls d ta [rn] [] [] ls:=by
  refine ⟨fun b o _ _ e=>g0 b o e,R.same g0,rfl,g0 _ _ hd,⟨.nil,fun j hj=>by simp at hj,fun j _=>rfl,fun j hj=>by simp at hj,rfl⟩,ZN,nta,(Zb hlk0 nta).symm,fun i hi=>?_⟩
  obtain ⟨us,e1,_⟩:=(R.tw i hi).things;exact ⟨Zb (R.tw i hi).tw.above nta,Zb e1 nta⟩
 refine ⟨GV X rn d jg jh H lk c ls,
  ⟨_,ta,[rn],[],[],ls,none,none,none,rfl,rfl,I0,fun j hj=>by simp at hj,fun i hi=>.inr (by rw [hi];exact zAS.mpr rfl),fun i hi=>jt i (zAS.mp hi).symm,zAH _⟩,?_⟩
 rintro m σ H1 ⟨ta,todo,F,kvs,ls',x4,x5,x6,rfl,rfl,r1,clo,root,inn,few⟩;have lF:=K3 X.ts.length F r1.rcd.nd r1.rcd.lt;refine ⟨_,rfl,nn (zAB rfl),fun e0 he0=>?_⟩;have ge:=ZS he0 (.lst []);have r2:=r1.same ge;refine ⟨ta,e0,WW todo,rfl,rfl,ZK.of r2.hta,ZK.of ZN,_,rfl,?_⟩;generalize upd H1 e0 (.lst [])=H2 at r2 ⊢;rcases zCV todo with z | ⟨rest,x,z⟩
 ·subst z;refine Zr ⟨_,rfl,k H2 kvs F ls' r2.fr r2.sh (by rw [r2.len];lia) r2.hd r2.rcd clo fun i hi=>(root i hi).elim id fun z=>by simp at z⟩
 rw [zCW] at z;subst z;have ene:(!(WW (rest++[x])).isEmpty)=true:=by simp [WW]
 rw [ene];have eT:WW (rest++[x])=WW rest++[Z2 (Zv x)]:=by simp [WW]
 refine Z9 ⟨_,fun _ _ z=>z,?_⟩;refine ⟨_,rfl,.inl ⟨rfl,_,ZK.of r2.hta⟩,ta,WW (rest++[x]),Z2 (Zv x),rfl,rfl,r2.hta,by rw [eT];simp,?_⟩
 have r3:XZ jg jh H (upd H2 ta (.lst (WW (rest++[x])).dropLast)) X lk c ls d ta rest F kvs ls':=by
  rw [eT,List.dropLast_concat];exact r2.pop
 generalize upd H2 ta (.lst (WW (rest++[x])).dropLast)=H3 at r3 ⊢;rw [zAI] at few;have few':rest.length+1<=1+4 * F.length:=few;have inn':∀ i,some i∈rest->i<X.ts.length:=fun i hi=>inn i (zA9 _ hi)
 cases x with
 | none=>
  refine ⟨_,rfl,_,rfl,Zr (Zr ?_)⟩;refine ⟨_,NZ,ta,rest,F,kvs,ls',_,_,_,rfl,rfl,r3,fun j hj b hb=>(clo j hj b hb).imp id fun z=>?_,fun i hi=>(root i hi).imp id fun z=>?_,inn',by lia⟩
  ·exact (zAm.mp z).elim id fun y=>by simp at y
  ·exact (zAm.mp z).elim id fun y=>by simp at y
 | some j=>
  have hj:=inn j (by simp)
  refine ⟨_,rfl,_,rfl,Z9 ?_⟩;by_cases hF:j∈F
  ·obtain ⟨v,ev,_⟩:=r3.rcd.yes j hF;have hg:Yd H3 d (.int (j:Int)) (some v):=ev ▸ Yd.k (k:=Sum.inl (j:Int)) r3.hd;refine ⟨_,rfl,_,rfl,d,some v,rfl,hg,_,rfl,Zr ?_⟩;refine ⟨_,NZ,ta,rest,F,kvs,ls',_,_,_,rfl,rfl,r3,fun i hi b hb=>?_,fun i hi=>?_,inn',by lia⟩
   ·rcases clo i hi b hb with z | z
    ·exact .inl z
    ·rcases zAm.mp z with y | y
     ·exact .inr y
     ·have:=zAh.inj (zAS.mp y);exact .inl (this ▸ hF)
   ·rcases root i hi with z | z
    ·exact .inl z
    ·rcases zAm.mp z with y | y
     ·exact .inr y
     ·have:=zAh.inj (zAS.mp y);exact .inl (this ▸ hF)
  ·have ev:=r3.rcd.no j hF;have hg:Yd H3 d (.int (j:Int)) none:=ev ▸ Yd.k (k:=Sum.inl (j:Int)) r3.hd;refine ⟨_,rfl,_,rfl,d,none,rfl,hg,_,rfl,Z9 ?_⟩;obtain ⟨dx,hS⟩:=r3.sh.sh.self;have ll:=r3.len;refine ⟨_,rfl,X.S,dx,_,rfl,hS,rfl,_,rfl,X,lk,c,ls',j,rfl,r3.sh,hj,by lia,fun H4 tp l us fr4 R4 htp nl hl w1 w2=>?_⟩
   have hd3:=r3.hd;have m34:Z6 H3 H4:=fun b xs e=>fr4 b _ (ZV e r3.sh.sh.looks) e;have hd4:=fr4 _ _ dlk hd3;have hta4:=fr4 _ _ r3.tl r3.hta;refine ⟨tp,_,rfl,Zn.of htp,rfl,_,_,rfl,_,_,rfl,rfl,?_⟩;refine ⟨_,rfl,_,rfl,l,us,rfl,.inl ⟨ZK.of hl,fun u nu=>⟨nn (zAB rfl),fun t nt=>?_⟩⟩⟩;have g5:=ZS nu (.tup us);have g6:=ZS nt (.tup [.str (kindOf (gd X.ts j)),.ref u]);have g46:=g5.trans g6;have eu:=g6 _ _ (ZN (H:=H4) (a:=u) (o:=.tup us));have et:=ZN (H:=upd H4 u (.tup us)) (a:=t) (o:=.tup [.str (kindOf (gd X.ts j)),.ref u]);generalize upd (upd H4 u (.tup us)) t (.tup [.str (kindOf (gd X.ts j)),.ref u])=H6 at g46 eu et ⊢;have hd6:=g46 _ _ hd4;have hta6:=g46 _ _ hta4;have hl6:=g46 _ _ hl;have R6:=R4.same g46;have lkv:=r3.rcd.len;refine ⟨_,rfl,_,rfl,d,_,rfl,V1.k (k:=Sum.inl (j:Int)) hd6 (Yp (by lia)),?_⟩
   have rv:Vz H6 (gd X.ts j) (.ref t):=⟨t,u,us,rfl,et,eu,fun z=>(w1 z).mono (ZA.tups g46) _ _,w2⟩;have rc6:=(((r3.rcd.mono m34).mono (ZA.tups g46)).put hj hF rv);have sx:ZC d H6 (upd H6 d (.dK (XD kvs (Sum.inl (j:Int)) (.ref t)))):=(ZC.refl d H6).upd;have m67:Z6 H6 (upd H6 d (.dK (XD kvs (Sum.inl (j:Int)) (.ref t)))):=fun b xs e=>sx b _ e (ZV e hd6);have hd7:=ZN (H:=H6) (a:=d) (o:=.dK (XD kvs (Sum.inl (j:Int)) (.ref t)));generalize upd H6 d (.dK (XD kvs (Sum.inl (j:Int)) (.ref t)))=H7 at sx m67 hd7 ⊢;have N:¬ Od X lk d:=by
    obtain ⟨⟨dS,hS'⟩,_,_⟩:=R6.sh;rintro (z | z | z)
    ·exact ZV hd6 hS' (by intro z;cases z) z
    ·exact dXd z
    ·exact dlk z
   have r7:XZ jg jh H H7 X lk c ls d ta rest (F++[j]) (XD kvs (Sum.inl (j:Int)) (.ref t)) (ls'++[.int (j:Int)]):=by
    refine ⟨fun b o n1 n2 e=>sx b o (g46 b o (fr4 b o n1 (r3.fr b o n1 n2 e))) n2,R6.but sx N (fun i hi=>?_) m67,by rw [zAI,zAI,ll];rfl,hd7,rc6.mono m67,sx _ _ hta6 (ZV hta6 hd6),r3.nta,r3.tl,r3.tw⟩
    have W:=R6.tw i hi;obtain ⟨dy,hy⟩:=W.tw.self;obtain ⟨us',e1,_⟩:=W.things;exact ⟨ZV hy hd6,ZV W.tw.above hd6,ZV e1 hd6⟩
   have hl7:=sx _ _ hl6 (ZV hl6 hd6);have clo':∀ i∈F,∀ b∈(gd X.ts i).bs,b∈F++[j]\/some b∈rest:=fun i hi b hb=>by
    rcases clo i hi b hb with z | z
    ·exact .inl (zA9 _ z)
    ·rcases zAm.mp z with y | y
     ·exact .inr y
     ·exact .inl (zAk _ (zAS.mpr (zAh.inj (zAS.mp y))))
   have root':∀ i,rn=some i->i∈F++[j]\/some i∈rest:=fun i hi=>by
    rcases root i hi with z | z
    ·exact .inl (zA9 _ z)
    ·rcases zAm.mp z with y | y
     ·exact .inr y
     ·exact .inl (zAk _ (zAS.mpr (zAh.inj (zAS.mp y))))
   have lFj:(F++[j]).length=F.length+1:=by rw [zAI];rfl
   have ok:=hw j _ (Xk hj);refine ⟨_,rfl,rfl,_,rfl,?_⟩;rw [Lr];by_cases h0:(gd X.ts j).h=0
   ·rw [decide_eq_false (show ¬ (gd X.ts j).h≠0 from fun z=>z h0)];refine Zr ⟨_,NZ,ta,rest,F++[j],_,_,_,_,_,rfl,rfl,r7,fun i hi b hb=>?_,root',inn',by lia⟩
    rcases zAm.mp hi with z | z
    ·exact clo' i z b hb
    ·rw [zAS.mp z,(ok.leaf h0).1] at hb;simp at hb
   ·rw [decide_eq_true (show (gd X.ts j).h≠0 from h0)];obtain ⟨b2,b4,b3,_⟩:=ok.stem h0;have eus:=w2 h0;have lus:us.length=(gd X.ts j).bs.length:=by rw [eus];exact zAD _
    have lto:(WW rest).length=rest.length:=zAD _;refine Z9 ⟨_,rfl,_,rfl,l,us,rfl,.inl (ZK.of hl7),fun q1 n1=>?_⟩;have g8:=ZS n1 (.lst us);have r8:=r7.same g8;refine ⟨ta,q1,WW rest,us,rfl,rfl,r8.hta,ZN,nn (by lia),fun q2 n2=>?_⟩
    have e9:WW rest++us=WW (rest++(gd X.ts j).bs.map some):=by
     rw [eus];simp [WW,iN,Z2,Zv]
    rw [e9];refine ⟨_,E5 hw hj h0,q2,rest++(gd X.ts j).bs.map some,F++[j],_,_,_,_,_,rfl,rfl,r8.anew n2 lkne dne,fun i hi b hb=>?_,fun i hi=>(root' i hi).imp id fun z=>zA9 _ z,fun i hi=>?_,by rw [zAI,zAD];lia⟩
    ·rcases zAm.mp hi with z | z
     ·exact (clo' i z b hb).imp id fun y=>zA9 _ y
     ·rw [zAS.mp z] at hb;exact .inr (zAk _ (zAb.mpr ⟨b,hb,rfl⟩))
    ·rcases zAm.mp hi with z | z
     ·exact inn' i z
     ·obtain ⟨b,hb,e⟩:=zAb.mp z;cases e;have:=(b3 i hb).1
      lia
end
theorem Fl{gt:List KT}{ts:List ZT}(hw:WF gt ts){j:Nat}(hj:j<ts.length)(h0:(gd ts j).h≠0):∃ b,(gd ts j).bs[0]? = some b/\(YF (gd ts j)).lo=(YF (gd ts b)).lo:=by
 obtain ⟨b2,b4,b3,er⟩:=(hw j _ (Xk hj)).stem h0
 cases hb:(gd ts j).bs with
 | nil=>rw [hb] at b2;simp at b2
 | cons b bs=>
  refine ⟨b,rfl,?_⟩;have hbl:b<ts.length:=by
   have:=(b3 b (by rw [hb];exact zAT ..)).1
   lia
  have ne:=(hw b _ (Xk hbl)).ne;show ((gd ts j).rows.getD 0 rd).1=((gd ts b).rows.getD 0 rd).1;rw [er,hb,zBl]
  cases hr:(gd ts b).rows with
  | nil=>exact absurd hr ne
  | cons r rs=>rfl
section
variable{P:Program}{w:World}{K:zAA}{mg:jb}{base:Heap}{f:Addr}{fd:FuncData}{jg jh:Addr}
structure Y8(gt:List KT)(ts:List ZT)(H:Hp)(d:Addr)(kvs:List (ZZ×V))(F:List Nat):Prop where
 hd:H d=some (.dK kvs)
 rcd:XL ts H kvs F
 clo:Mf ts F []
 wf:WF gt ts
theorem Y8.same{gt:List KT}{ts:List ZT}{H H':Hp}{d:Addr}{kvs:List (ZZ×V)}{F:List Nat}(r:Y8 gt ts H d kvs F)(s:ZA H H'):Y8 gt ts H' d kvs F:=⟨s _ _ r.hd,r.rcd.mono (ZA.tups s),r.clo,r.wf⟩
theorem Y8.get{gt:List KT}{ts:List ZT}{H:Hp}{d:Addr}{kvs:List (ZZ×V)}{F:List Nat}(r:Y8 gt ts H d kvs F){j:Nat}(hj:j∈F):∃ tp u us,Yd H d (.int (j:Int)) (some (.ref tp))/\H tp=some (.tup [.str (kindOf (gd ts j)),.ref u])/\H u=some (.tup us)/\((gd ts j).h=0->KeysAt H (YQ (gd ts j).rows) us)/\((gd ts j).h≠0->us=iN (gd ts j).bs):=by
 obtain ⟨v,ev,tp,u,us,rfl,h1,h2,h3,h4⟩:=r.rcd.yes j hj;exact ⟨tp,u,us,ev ▸ Yd.k (k:=Sum.inl (j:Int)) r.hd,h1,h2,h3,h4⟩
theorem Y8.sub{gt:List KT}{ts:List ZT}{H:Hp}{d:Addr}{kvs:List (ZZ×V)}{F:List Nat}(r:Y8 gt ts H d kvs F){j b:Nat}(hj:j∈F)(hb:b∈(gd ts j).bs):b∈F:=(r.clo j hj b hb).elim id fun z=>by simp at z
inductive Wj(gt:List KT)(vs:je)(H:Hp)(Q:VK)(_:XK):Prop
 | mk (ts:List ZT) (d:Addr) (kvs:List (ZZ×V)) (F:List Nat) (j:Nat) (_:vs=[.ref d,.int (j:Int)]) (_:Y8 gt ts H d kvs F) (_:j∈F) (_:∀ v,ZE H (YF (gd ts j)).lo v->Q v H)
theorem Vs:ZD ["_law_record","_law_number","_law_kind","_law_what"] ["_law_record","_law_number"] (Zg Mj):=Zu
theorem Ch{gt:List KT}(F0:Zq K "_law_least" "_law_least" Mj f fd):ZM P w K mg base ZU 1 f fd ["_law_record","_law_number"] (Wj gt):=by
 refine F0.ok Vs (fun vs H Q E h=>(by obtain ⟨_,_,_,_,_,rfl,_⟩:=h;rfl)) (fun cdv A outer s H vs Q E hr h=>?_)
 obtain ⟨ts,d,kvs,F,j,rfl,R,hj,k⟩:=h;have nd:=Vs.nd;have hu:=Qt hr;refine ⟨_,ZQ (QE (Ph hu (pv 0) (pv 1) (fun _ _=>rfl)) (Q5 rfl (V8 (Xd 2 nd) (V8 (Xd 3 nd) PX))))
  (ZQ (Q2 PassesOwn.never (YN X9 (pv 2) X3 (Zy _))
   (ZW (QE (Ph hu (pv 0) (Zp (r:=Xl K) Zi (pv 3) ZL (fun _ _=>rfl)) (fun _ _=>rfl)) (Q5 rfl (V8 (Xd 2 nd) (V8 (Xd 3 nd) PX))))))
  (ZW (Zk (Zp (r:=Xl K) Zi (Zp (r:=Xl K) Zi (pv 3) ZL (fun _ _=>rfl)) ZL (fun _ _=>rfl))))),?_⟩
 obtain ⟨tp,u,us,g1,h1,h2,h3,h4⟩:=R.get hj;refine ⟨_,rfl,_,rfl,d,.ref tp,rfl,g1,tp,_,rfl,Zn.of h1,rfl,_,_,rfl,_,_,rfl,rfl,?_⟩;refine ⟨fun m σ H'=>∃(c:Nat)(u:Addr)(us:je),σ=[some (.ref d),some (.int (j:Int)),some (.str (kindOf (gd ts c))),some (.ref u)]/\m=(gd ts c).h/\H'=H/\c∈F/\(YF (gd ts j)).lo=(YF (gd ts c)).lo/\H u=some (.tup us)/\((gd ts c).h=0->KeysAt H (YQ (gd ts c).rows) us)/\((gd ts c).h≠0->us=iN (gd ts c).bs),
  ⟨_,j,u,us,rfl,rfl,rfl,hj,rfl,h2,h3,h4⟩,?_⟩
 rintro m σ H1 ⟨c,u,us,rfl,rfl,rfl,hc,elo,h2,h3,h4⟩;have hcl:=R.rcd.lt c hc;have ok:=R.wf c _ (Xk hcl);refine ⟨_,rfl,rfl,_,rfl,?_⟩;rw [Lr];by_cases h0:(gd ts c).h=0
 ·rw [decide_eq_false (show ¬ (gd ts c).h≠0 from fun z=>z h0)];have kr:=h3 h0;have lr:us.length=(gd ts c).rows.length:=by have:=kr.length;rw [<-this];exact zAD _
  have pos:0<us.length:=by rw [lr];exact List.length_pos_iff.mpr ok.ne
  have hu0:us[0]? = some us[0]:=zAE pos;obtain ⟨a,vk,vv,er,e1,ea,k1,k2⟩:=QA kr hu0;rw [e1] at hu0;refine Zr ⟨_,rfl,u,_,_,.ref a,rfl,rfl,Zn.of h2,Xb (j:=0) hu0,a,_,_,vk,rfl,rfl,Zn.of ea,rfl,k vk ?_⟩;rw [elo];exact k1
 ·rw [decide_eq_true (show (gd ts c).h≠0 from h0)];obtain ⟨b,eb,el⟩:=Fl R.wf hcl h0;have hb:=zAJ eb;have hbF:=R.sub hc hb;have hbh:=((ok.stem h0).2.2.1 b hb).2;obtain ⟨tp,u',us',g1,e1,e2,e3,e4⟩:=R.get hbF;have eus:=h4 h0;refine Z9 ⟨_,fun _ _ z=>z,?_⟩;refine ⟨_,rfl,_,rfl,u,_,_,.int (b:Int),rfl,rfl,Zn.of h2,(by rw [eus];exact Xb (j:=0) (by unfold iN;rw [zAM,eb];rfl)),d,.ref tp,rfl,g1,tp,_,rfl,Zn.of e1,rfl,_,_,rfl,_,_,rfl,rfl,?_⟩
  exact ⟨(gd ts b).h,by lia,b,u',us',rfl,rfl,rfl,hbF,elo.trans el,e2,e3,e4⟩
end
def HI(A:Around)(s:Shared)(v u:Value)(b:Bool):Prop:=
 ∀(prog:Program)(w:World)(E:ja)(Q:ja),Q (.bool b) s->wpAny (model prog w) A (richCompare .LtE v u) Q E s
section
open PySem.SeqAt
open PySem.AutoSeq1 (wpAny_loadPart')
open PySem.MeetsSeq PySem.MeetsSeq2 PySem.MeetsSeq3
theorem BQ(l b:Addr)(items jj:Array Value)(n n2:Nat)(dd dd2:Option Addr)(sl jF:Array (jc))(ts us:List KT):
  Meets (Builtin.«tuple.__le__» ⟨[.ref l,.ref b],[]⟩)
   (fun A R s=>s.heap.get? l=some { cls:=.type "tuple",dict:=dd,data:=.seq items n,slots:=sl }/\s.heap.get? b=some { cls:=.type "tuple",dict:=dd2,data:=.seq jj n2,slots:=jF } /\
    KVals s.heap ts items.toList/\KVals s.heap us jj.toList/\cmpL ts us=true /\
    (∀ x y v u,x∈ts->ZO s.heap x v->ZO s.heap y u->EqAt A.in1 s v u (x.eqb y))/\(∀ x y v u,x∈ts->ZO s.heap x v->ZO s.heap y u->x.cmp y=true->HI A.in1 s v u (!y.plt x)) /\
    R (.ok (.ret (.bool (!pltL us ts)))) s):=
 .of_wp fun prog w A R s h=>by
  obtain ⟨hp,g,d,tk,os⟩:=s;obtain ⟨hl,hb,hi,hj,hc,hE,hL,h⟩:=h;have f2:=AutoSeq1.sub_tuple_tuple;have z1:items.size=ts.length:=by rw [hi.length];simp
  have z2:jj.size=us.length:=by rw [hj.length];simp
  wp_walk using wpAny_loadPart' hl,wpAny_loadPart' hb,wpAny_forIn_list _ (fun rest b s'=>b.1=none/\s'=⟨hp,g,d,tk,os⟩/\∃(vs ws:jd)(ts' us':List KT),rest=vs.zip ws /\
   KVals hp ts' vs/\KVals hp us' ws/\(∀ x∈ts',x∈ts)/\cmpL ts' us'=true/\ts'.length+jj.size=us'.length+items.size/\R (.ok (.ret (.bool (!pltL us' ts')))) ⟨hp,g,d,tk,os⟩) _
  case turn=>
   rintro ⟨y,x⟩ rest b s' ⟨hb',rfl,vs,ws,ts',us',hz,hvi,hwi,hin,hcm,hlen,hR⟩
   cases ts' with
   | nil=>rw [KVals] at hvi;subst hvi;rw [List.zip_nil_left] at hz;cases hz
   | cons a ts'=>
    cases us' with
    | nil=>rw [KVals] at hwi;subst hwi;rw [List.zip_nil_right] at hz;cases hz
    | cons c us'=>
     rw [KVals] at hvi hwi;obtain ⟨v,vr,rfl,ka,hvi'⟩:=hvi;obtain ⟨u,ur,rfl,kc,hwi'⟩:=hwi;rw [zCC] at hz;injection hz with hyx hrest;injection hyx with hy hx;subst hy hx;rw [pltL,eqb_comm' c a] at hR;rw [cmpL] at hcm;simp only [zAW] at hlen;have he:=hE a c y x (hin a zAT) ka kc;refine wpAny_bind (he prog w _ _ ?_)
     cases hq:a.eqb c with
     | true=>
      rw [hq,if_pos rfl] at hR hcm
      wp_walk
      exact ⟨rfl,rfl,_,_,_,_,hrest,hvi',hwi',fun z hz=>hin z (zAN _ hz),hcm,by lia,hR⟩
     | false=>
      rw [hq,if_neg zAF] at hR hcm;have hri:=hL a c y x (hin a zAT) ka kc hcm prog w
      wp_walk using hri
      exact ⟨_,rfl,by simpa using hR⟩
  case fin=>
   rintro ⟨b1,b2⟩ s' ⟨hb',rfl,vs,ws,ts',us',hz,hvi,hwi,hin,hcm,hlen,hR⟩;simp only at hb';subst hb';have hv:pltL us' ts'=decide (jj.size<items.size):=by
    cases ts' with
    | nil=>
     cases us' with
     | nil=>
      simp only [zBY] at hlen;rw [pltL];exact (decide_eq_false (by lia)).symm
     | cons c us'=>
      simp only [zBY,zAW] at hlen;rw [pltL];exact (decide_eq_false (by lia)).symm
    | cons a ts'=>
     cases us' with
     | nil=>
      simp only [zBY,zAW] at hlen;rw [pltL];exact (decide_eq_true (by lia)).symm
     | cons c us'=>
      rw [KVals] at hvi hwi;obtain ⟨v,vr,rfl,_,_⟩:=hvi;obtain ⟨u,ur,rfl,_,_⟩:=hwi;rw [zCC] at hz;cases hz
   rw [hv,show (!decide (jj.size<items.size))=decide (items.size<=jj.size) by by_cases z:jj.size<items.size <;> simp [z] <;> lia] at hR
   wp_walk
   exact ⟨_,rfl,by simpa [Builtin.Tuple.tupleCompareSizes] using hR⟩
  case h=>
   exact ⟨rfl,rfl,items.toList,jj.toList,ts,us,rfl,hi,hj,fun _ hx=>hx,hc,by lia,h⟩
end
theorem IS{s:Shared}:∀(n:Nat)(a b:KT)(A:Around)(v u:Value),a.depth<=n->ZO s.heap a v->ZO s.heap b u->a.cmp b=true->A.units+a.depth<cLine->HI A s v u (!b.plt a)
 | n,.int i,b,A,v,u,_,x,y,hc,hu=>by
  rw [ZO] at x;obtain ⟨t,rfl⟩:=x
  cases b with
  | int j=>rw [ZO] at y;obtain ⟨t',rfl⟩:=y;rw [KT.plt];exact fun prog w E Q h=>(le_int (by rw [show decide (i<=j) = !decide (j<i) by by_cases z:j<i <;> simp [z] <;> lia];exact h):wpAny (model prog w) A (compareOp .LtE (.int i t) (.int j t')) Q E s)
  | str z=>simp [KT.cmp] at hc
  | tup m=>simp [KT.cmp] at hc
 | n,.str w,b,A,v,u,_,x,y,hc,hu=>by
  rw [ZO] at x;obtain ⟨t,rfl⟩:=x
  cases b with
  | int j=>simp [KT.cmp] at hc
  | str z=>rw [ZO] at y;obtain ⟨t',rfl⟩:=y;rw [KT.plt];exact fun prog w' E Q h=>(PySem.P.le_str h:wpAny (model prog w') A (compareOp .LtE (.str w t) (.str z t')) Q E s)
  | tup m=>simp [KT.cmp] at hc
 | 0,.tup l,b,A,v,u,hn,x,y,hc,hu=>by
  rw [KT.depth] at hn
  lia
 | n+1,.tup l,b,A,v,u,hn,x,y,hc,hu=>by
  rw [ZO] at x;obtain ⟨p,ji,rfl,px,kx⟩:=x;rw [KT.depth] at hn hu;have hu':A.units<cLine:=by lia
  cases b with
  | int j=>simp [KT.cmp] at hc
  | str z=>simp [KT.cmp] at hc
  | tup m=>
   rw [ZO] at y;obtain ⟨q,its',rfl,py,ky⟩:=y;rw [KT.cmp] at hc;rw [KT.plt];intro prog w E Q h;obtain ⟨⟨cls,dd,data,sl⟩,ho,hcl,nn1,hd⟩:=id px;obtain ⟨⟨cls2,dd2,data2,jF⟩,ho2,hcl2,nn2,hd2⟩:=id py;simp only at hcl hd hcl2 hd2;subst hcl hd hcl2 hd2;refine richCompare_meets_room (op:=.LtE) ⟨_,ho,rfl⟩ ⟨_,ho2,rfl⟩ PySem.F.slot_tuple_le PySem.F.entry_tuple_le (PySem.F.args_tuple_le_2 _ _) (BQ p q ji.toArray its'.toArray nn1 nn2 dd dd2 sl jF l m)
    ⟨ho,ho2,kx,ky,hc,fun x y v u hx k1 k2=>?_,fun x y v u hx k1 k2 k3=>?_,show Value.bool (!pltL m l)≠Value.notImplemented/\Q (.bool (!pltL m l)) s from ⟨(fun x=>nomatch x),h⟩⟩ hu'
   ·have d1:=Uz hx;exact Qv x.depth x y A.in1 v u (zAH _) k1 k2 (by show A.units+1+x.depth<cLine;lia)
   ·have d1:=Uz hx;exact IS n x y A.in1 v u (by lia) k1 k2 k3 (by show A.units+1+x.depth<cLine;lia)
section
variable{X:Cx}
def FT:R2:=fun x y H Q=>∃ a b,ZE H a x/\ZE H b y/\a.cmp b=true/\a.depth<=200/\Q (.bl (!b.plt a)) H
theorem By{k:Nat}(hr:ZY k X.A):YX X (compareOp .LtE) FT:=by
 intro pins s σ H x y v u Q I rx ry h;obtain ⟨a,b,ha,hb,hc,hd,q⟩:=h;exact IS a.depth a b X.A v u (zAH _) (Vj I a x v ha rx) (Vj I b y u hb ry) hc (ZY.key hr hd) X.prog X.w X.xe _ ⟨.bl _,H,I,rfl,q⟩
end
theorem Ki:∀(r:List Int)(m x:Int),Ve m (r++[x])=if x > Ve m r then x else Ve m r
 | [],m,x=>rfl
 | y :: r,m,x=>by
  rw [zCQ,Ve,Ve];exact Ki r _ x
theorem C0{r:List Int}{x:Int}(h:r=[]\/QH 0 r<x):QH 0 (r++[x])=x:=by
 cases r with
 | nil=>rfl
 | cons y r=>
  rcases h with z | z
  ·cases z
  ·rw [zCQ];show Ve y (r++[x])=x;rw [Ki];exact if_pos z
theorem KW:∀ n:Nat,QH 0 ((zAi (n+1)).map fun i:Nat=>(i:Int))=(n:Int)
 | 0=>rfl
 | n+1=>by
  rw [zBx,zAV];exact C0 (x:=((n+1:Nat):Int)) (.inr (by rw [KW n];lia))
theorem K4(p:Nat->Bool):∀(n:Nat),(∀ i j,i<=j->j<n->p j=true->p i=true)->QH 0 (((zAi n).filter p).map fun i:Nat=>(i:Int))=((((zAi n).filter p).length - 1:Nat):Int)
 | 0,_=>rfl
 | n+1,h=>by
  cases hp:p n with
  | true=>
   have e:(zAi (n+1)).filter p=zAi (n+1):=zCf.mpr fun i hi=>by
    have:=zA7.mp hi;exact h i n (by lia) (by lia) hp
   rw [e,KW,zCq];rfl
  | false=>
   have e:(zAi (n+1)).filter p=(zAi n).filter p:=by
    rw [zBx,zBT];simp [hp]
   rw [e];exact K4 p n fun i j h1 h2=>h i j h1 (by lia)
theorem IX{α:Type}(d:α)(p:α->Bool)(l:List α):∀ n,n<=l.length->((zAi n).filter fun j=>p (l.getD j d)).length=((l.take n).filter p).length
 | 0,_=>rfl
 | n+1,h=>by
  have hn:n<l.length:=by lia
  have eg:l[n]? = some (l.getD n d):=by rw [zAC,zAE hn];rfl
  rw [zBx,zBT,zAI,IX d p l n (by lia),P4 p eg,zAI]
  congr 1
  rw [zBu];cases p (l.getD n d) <;> rfl
theorem Fz{gt:List KT}{ts:List ZT}(hw:WF gt ts){j:Nat}(hj:j<ts.length)(h0:(gd ts j).h≠0):(gd ts j).bs.Pairwise fun a b=>(YF (gd ts a)).lo.lt (YF (gd ts b)).lo=true:=by
 have ok:=hw j _ (Xk hj);obtain ⟨b2,b4,b3,er⟩:=ok.stem h0;have up:=ok.up;rw [er,List.map_flatMap,zDW] at up;have lo:∀ b∈(gd ts j).bs,(YF (gd ts b)).lo∈(gd ts b).rows.map (·.1):=fun b hb=>by
  have hbl:b<ts.length:=by have:=(b3 b hb).1;lia
  obtain ⟨r,rs,e1,e2⟩:=PF (hw b _ (Xk hbl)).ne;rw [e1,e2];exact zAT ..
 have:=up.2;exact this.imp_of_mem fun{a b} ha hb h=>h _ (lo a ha) _ (lo b hb)
theorem Dw{gt:List KT}{ts:List ZT}(hw:WF gt ts){j:Nat}(hj:j<ts.length)(h0:(gd ts j).h≠0)(k:KT):
  QH 0 (((zAi (gd ts j).bs.length).filter fun i=>!k.lt (YF (gd ts ((gd ts j).bs.getD i 0))).lo).map fun i:Nat=>(i:Int))=((Yw ts k j:Nat):Int):=by
 have ri:=Fz hw hj h0;rw [K4]
 ·have e:=IX 0 (fun b=>!k.lt (YF (gd ts b)).lo) (gd ts j).bs (gd ts j).bs.length (zAH _);rw [List.take_length] at e;unfold Yw;rw [if_neg h0,e]
 ·intro a b hab hb hp;rcases zAe a b with c | c
  ·have ea:(gd ts j).bs[a]? = some ((gd ts j).bs.getD a 0):=by rw [zAC,zAE (by lia)];rfl
   have eb:(gd ts j).bs[b]? = some ((gd ts j).bs.getD b 0):=by rw [zAC,zAE hb];rfl
   have:=Og ri c ea eb
   cases q:k.lt (YF (gd ts ((gd ts j).bs.getD a 0))).lo with
   | false=>rfl
   | true=>
    rw [lt_trans' _ _ _ q this] at hp;cases hp
  ·have:a=b:=by lia
   rw [this];exact hp
section
variable{P:Program}{w:World}{K:zAA}{mg:jb}{base:Heap}{f:Addr}{fd:FuncData}
inductive Vr(gt:List KT)(vs:je)(H:Hp)(Q:VK)(_:XK):Prop
 | mk (ts:List ZT) (d:Addr) (kvs:List (ZZ×V)) (F:List Nat) (rn:Option Nat) (v:V) (k:KT) (_:vs=[.ref d,Z2 (Zv rn),v]) (_:Y8 gt ts H d kvs F) (_:∀ i,rn=some i->i∈F) (_:∀ i,i<ts.length->(gd ts i).h<=60) (_:ZE H k v) (_:k.fits 3=true) (_:∀(H':Hp)(D:Addr)(us:je),ZA H H'->H D=none->H' D=some (.lst us)->KeysAt H' ((Y0 ts k rn).map O6) us->Q (.ref D) H')
abbrev ZP7:List Str:=["_law_record","_law_root","_law_spot","_law_way_here","_law_number","_law_kind","_law_what","_law_some","_law_at"]
theorem Qf:ZD ZP7 ["_law_record","_law_root","_law_spot"] (Zg Nr):=Zu
inductive EG(d:Addr)(rn:Option Nat)(v:V)(D:Addr)(ts:List ZT)(F:List Nat)(k:KT)(H:Hp)(m:Nat)(σ:L2.St)(H':Hp):Prop
 | mk (cur:Option Nat) (pre:List (Nat×Nat)) (us:je) (x5 x6 x7 x8:jf) (_:σ=[some (.ref d),some (Z2 (Zv rn)),some v,some (.ref D),some (Z2 (Zv cur)),x5,x6,x7,x8]) (_:m=(match cur with | none=>0 | some j=>(gd ts j).h+1)) (_:∀ j,cur=some j->j∈F) (_:Y0 ts k rn=pre++Y0 ts k cur) (_:ZA H H') (_:H' D=some (.lst us)) (_:KeysAt H' (pre.map O6) us)
theorem ZOF{gt:List KT}(F0:Zq K "_law_way" "_law_way" Nr f fd)(T:YD mg)(DR:ZB P w K mg base 6 "_law_rank" ["_law_spot"] (Yk 5))(DL:ZB P w K mg base 1 "_law_least" ["_law_record","_law_number"] (Wj gt)):ZM P w K mg base ZU 7 f fd ["_law_record","_law_root","_law_spot"] (Vr gt):=by
 refine F0.ok Qf (fun vs H Q E h=>(by obtain ⟨_,_,_,_,_,_,_,rfl,_⟩:=h;rfl)) (fun cdv A outer s H vs Q E hr h=>?_)
 obtain ⟨ts,d,kvs,F,rn,v,k,rfl,R,jt,low,hv,fk,q⟩:=h;have nd:=Qf.nd;have hu:=Qt hr;have hr1:=hr.mono (show 1<=6 by decide)
 refine ⟨_,ZQ (Zj 3 nd (YM ZH))
  (ZQ (Zj 4 nd (pv 1))
  (ZQ (Q2 PassesOwn.never (Qr (Oq (pv 4)))
   (ZQ (QE (Ph hu (pv 0) (pv 4) (fun _ _=>rfl)) (Q5 rfl (V8 (Xd 5 nd) (V8 (O1 (i:=6) nd rfl (Or.inr rfl)) PX))))
   (ZW (Z1 (YN X9 (pv 5) X3 (Zy _))
    (ZQ (WP (UX zAr zAt zAs UH (pv 3) (ZG (Yh (ZG (pv 4) (ZG (Z0 Xh rfl T.len XT (ZG (Wx [2] ["_law_spot"] rfl (OC (pv 6)) (fun _ _ _ _ _=>OB (YN (MN hr) (Zh DR hr (ZG (Zp (r:=Xl K) Zi (pv 0) ZL (fun _ _=>rfl)) ZH)) (Zh DR hr (ZG (pv 1) ZH)) (Zy _))) (fun _ _ _ _ _=>pv 0) ⟨rfl,.inl rfl,rfl,trivial⟩) ZH)) ZH))) ZH)))
    (ZW (Zj 4 nd Pc)))
    (ZQ (IH (i:=7) [0,6,2] ["_law_record","_law_what","_law_spot"] nd rfl rfl rfl (Qj rfl T.range (ZG (Z0 Xh rfl T.len XT (ZG (pv 6) ZH)) ZH)) (fun _ _ _ _ _=>OB (YN (By hr) (Zh DR hr (ZG (Zh DL hr1 (ZG (pv 1) (ZG (Zp (r:=Xl K) Zi (pv 2) (pv 0) (fun _ _=>rfl)) ZH))) ZH)) (Zh DR hr (ZG (pv 3) ZH)) (Zy _))) (fun _ _ _ _ _=>pv 0) ⟨rfl,.inl rfl,rfl,rfl,.inl rfl,rfl,rfl,.inl rfl,rfl,trivial⟩)
    (ZQ (Zj 8 nd (D7 rfl rfl T.max (ZG (pv 7) ZH) (Kc ZL Kn)))
    (ZQ (WP (UX zAr zAt zAs UH (pv 3) (ZG (Yh (ZG (pv 4) (ZG (pv 8) ZH))) ZH)))
    (ZW (Zj 4 nd (Zp (r:=Xl K) Zi (pv 6) (pv 8) (fun _ _=>rfl)))))))))))
  (ZW (Zk (pv 3))))),?_⟩
 refine ⟨nn (zAB rfl),fun D nD=>?_⟩;have gD:=ZS nD (.lst []);have eD:=ZN (H:=H) (a:=D) (o:=.lst []);generalize upd H D (.lst [])=H1 at gD eD ⊢;refine ⟨_,rfl,?_⟩;refine ⟨EG d rn v D ts F k H,
  ⟨_,rn,[],[],none,none,none,none,rfl,rfl,jt,rfl,gD,eD,.nil⟩,?_⟩
 rintro m σ H2 ⟨cur,pre,us,x5,x6,x7,x8,rfl,rfl,hcur,epre,s2,eD2,kus⟩;have lw:=P1 k low fun i hi=>R.rcd.lt i (jt i hi);have lpre:pre.length<=61:=by
  have e:=congrArg zBh epre;rw [zAI] at e
  lia
 have lus:us.length=pre.length:=by have:=kus.length;rw [<-this];exact zAD _
 cases cur with
 | none=>
  have e':Y0 ts k rn=pre:=by rw [epre];exact zA0 _
  exact ⟨_,rfl,_,rfl,Zr ⟨_,rfl,q H2 D us s2 nD eD2 (by rw [e'];exact kus)⟩⟩
 | some j=>
  have hj:=hcur j rfl;have hjl:=R.rcd.lt j hj;have ok:=R.wf j _ (Xk hjl);have R2:=R.same s2;obtain ⟨tp,u,ws,g1,h1,h2,h3,h4⟩:=R2.get hj;have dk:=VU k 3 fk;have fin:∀{H3:Hp}{t:Addr}{n:Int},ZA H2 H3->n=((Yw ts k j:Nat):Int)->H3 t=none->KeysAt (upd (upd H3 t (.tup [Z2 (Zv (some j)),.int n])) D (.lst (us++[.ref t]))) ((pre++[(j,Yw ts k j)]).map O6) (us++[.ref t])/\ZA H (upd (upd H3 t (.tup [Z2 (Zv (some j)),.int n])) D (.lst (us++[.ref t])))/\ZA H2 (upd H3 t (.tup [Z2 (Zv (some j)),.int n]))/\upd H3 t (.tup [Z2 (Zv (some j)),.int n]) D=some (.lst us):=fun{H3 t n} s3 en nt=>by
   have g:=ZS nt (.tup [Z2 (Zv (some j)),.int n]);have et:=ZN (H:=H3) (a:=t) (o:=.tup [Z2 (Zv (some j)),.int n]);have s4:=s3.trans g;generalize upd H3 t (.tup [Z2 (Zv (some j)),.int n])=H4 at g et s4 ⊢;have eD4:=s4 _ _ eD2;have tD:Z6 H4 (upd H4 D (.lst (us++[.ref t]))):=(ZC.refl D H4).upd.tups eD4;refine ⟨?_,V2 (s2.trans s4) nD,s4,eD4⟩;rw [zAV];refine ((kus.mono (ZA.tups s4) _ _).mono tD _ _).append (.cons (.tup (tD _ _ et) (.cons (.int _) (.cons ?_ .nil))) .nil);rw [en];exact .int _
  refine ⟨_,rfl,_,rfl,Z9 ⟨_,fun _ _ z=>z,?_⟩⟩;refine ⟨_,rfl,_,rfl,d,.ref tp,rfl,g1,tp,_,rfl,Zn.of h1,rfl,_,_,rfl,_,_,rfl,rfl,?_⟩;refine ⟨_,rfl,rfl,_,rfl,?_⟩;rw [N7];by_cases h0:(gd ts j).h=0
  ·rw [decide_eq_true h0];have kr:=h3 h0;have lr:ws.length=(gd ts j).rows.length:=by have:=kr.length;rw [<-this];exact zAD _
   have l4:=(ok.leaf h0).2;refine Z9 ⟨_,rfl,.inl ⟨rfl,_,ZK.of eD2⟩,_,rfl,_,rfl,u,rfl,⟨ws,Zn.of h2⟩,OE (n:=ws.length) (fun i z=>ws[i]? = some z) (fun i=>((gd ts j).rows.getD i rd).1.lt k) (fun E i ys H3=>ZA H2 H3/\H2 E=none/\ys.length=((((gd ts j).rows.map (·.1)).take i).filter fun x=>x.lt k).length) (Yp (by lia))
    (fun E i ys H3 hi hP=>⟨ws,ws[i],Zn.of (hP.1 _ _ h2),by simp [hi]⟩) (fun E i ys H3 z H4 hi hP hy=>⟨hy.1,hy.2 ws (Zn.of (hP.1 _ _ h2))⟩) (fun E ys H3 hP=>⟨ws,Zn.of (hP.1 _ _ h2),zAH _⟩)
    (fun E hE=>⟨ZS hE _,hE,rfl⟩) (fun E i ys H3 z eE hi hz hP B hB=>?_) (fun E i ys H3 z eE hi hz hk hP B hB=>?_) (fun E i ys H3 eE hi hk hP=>?_) (fun E ys H3 eE hP=>?_)⟩
   ·obtain ⟨s3,nE,ly⟩:=hP;obtain ⟨a,vk,vv,er,rfl,ea,k1,k2⟩:=QA kr hz;have ff:=(ok.inn _ (zAJ er)).1;have df:=VU _ 3 ff;refine ⟨_,rfl,a,_,_,vk,rfl,rfl,Zn.of (s3 _ _ ea),rfl,vk,_,3,rfl,k1.mono (ZA.tups s3) _ _,ff,by lia,fun v1 H4 kv1 s4=>?_⟩
    refine ⟨_,rfl,v,k,3,rfl,(hv.mono (ZA.tups s2) _ _).mono (ZA.tups (s3.trans s4)) _ _,fk,by lia,fun v2 H5 kv2 s5=>?_⟩
    have d1:=Pb ((gd ts j).rows.getD i rd).1;refine ⟨_,_,kv1.mono (ZA.tups s5) _ _,kv2,P2 _ _,by lia,_,rfl,?_⟩
    rw [OA];exact hB H5 ((s4.trans s5) _ _ eE) ⟨s3.trans (s4.trans s5),nE,ly⟩
   ·obtain ⟨s3,nE,ly⟩:=hP;obtain ⟨a,vk,vv,er,rfl,ea,k1,k2⟩:=QA kr hz;refine ⟨_,rfl,hB _ H3 eE ⟨V2 s3 nE,nE,?_⟩⟩;rw [P4 _ (by rw [zAM,er];rfl),if_pos hk,zAI,zAI,ly]
    rfl
   ·obtain ⟨s3,nE,ly⟩:=hP;refine ⟨s3,nE,?_⟩;have er:(gd ts j).rows[i]? = some ((gd ts j).rows.getD i rd):=by rw [zAC,zAE (by lia)];rfl
    rw [P4 _ (by rw [zAM,er];rfl),if_neg (by rw [hk];exact zAF),zA0]
    exact ly
   ·obtain ⟨s3,nE,ly⟩:=hP;rw [zAU (by rw [zAD];lia)] at ly
    have en:((ys.length:Nat):Int)=((Yw ts k j:Nat):Int):=by
     have:Yw ts k j=Q8 ((gd ts j).rows.map (·.1)) k:=if_pos h0;rw [this,ly];rfl
    refine ⟨E,ys,rfl,.inl (ZK.of eE),nn (zAB rfl),fun t nt=>?_⟩;obtain ⟨f1,f2,f3,f4⟩:=fin (n:=((ys.length:Nat):Int)) s3 en nt;refine ⟨D,us,.ref t,rfl,rfl,f4,nn (by lia),?_⟩
    refine ⟨0,(show 0<(gd ts j).h+1 by lia),none,pre++[(j,Yw ts k j)],_,_,_,_,_,rfl,rfl,(fun i z=>by cases z),?_,f2,ZN,f1⟩
    rw [epre];show pre++VX ts k (gd ts j).h j=_;rw [h0];exact (zA0 _).symm
  ·rw [decide_eq_false h0];obtain ⟨b2,b4,b3,er⟩:=ok.stem h0;have eus:=h4 h0;have lws:ws.length=(gd ts j).bs.length:=by rw [eus];exact zAD _
   have at_b:∀ i,i<(gd ts j).bs.length->(gd ts j).bs[i]? = some ((gd ts j).bs.getD i 0)/\X8 ws (i:Int)=some (.int (((gd ts j).bs.getD i 0:Nat):Int)):=fun i hi=>by
    have e:(gd ts j).bs[i]? = some ((gd ts j).bs.getD i 0):=by rw [zAC,zAE hi];rfl
    exact ⟨e,by rw [eus];exact Xb (by unfold iN;rw [zAM,e];rfl)⟩
   have emax:=Dw R.wf hjl h0 k;refine Zr ⟨_,rfl,u,ws,rfl,.inr (Zn.of h2),_,rfl,by lia,by lia,?_⟩
   rw [zCL];refine OE (n:=ws.length) (fun i x=>x=.int (0+(i:Int))) (fun i=>!k.lt (YF (gd ts ((gd ts j).bs.getD i 0))).lo) (fun E i ys H3=>ZA H2 H3/\H2 E=none/\ys=(((zAi i).filter fun i=>!k.lt (YF (gd ts ((gd ts j).bs.getD i 0))).lo).map fun i:Nat=>(i:Int)).map V.int) (Yp (by lia))
    (fun E i ys H3 hi _=>hi) (fun E i ys H3 x H4 hi _ hy=>hy) (fun E ys H3 _=>zAH _)
    (fun E hE=>⟨ZS hE _,hE,rfl⟩) (fun E i ys H3 z eE hi hz hP B hB=>?_) (fun E i ys H3 z eE hi hz hk hP B hB=>?_) (fun E i ys H3 eE hi hk hP=>?_) (fun E ys H3 eE hP=>?_)
   ·obtain ⟨s3,nE,ly⟩:=hP;subst hz;obtain ⟨eb,ab⟩:=at_b i (by lia)
    have hbF:=R.sub hj (zAJ eb);have hbl:=R.rcd.lt _ hbF;have fb:=(Ms (R.wf _ _ (Xk hbl))).1;have df:=VU _ 3 fb;have R3:=R2.same s3;refine ⟨_,rfl,_,rfl,_,rfl,u,_,_,_,rfl,rfl,Zn.of (s3 _ _ h2),(by rw [Int.zero_add];exact ab),ts,d,kvs,F,_,rfl,R3,hbF,fun v1 kv1=>?_⟩
    refine ⟨v1,_,3,rfl,kv1,fb,by lia,fun v2 H4 kv2 s4=>?_⟩
    refine ⟨_,rfl,v,k,3,rfl,(hv.mono (ZA.tups s2) _ _).mono (ZA.tups (s3.trans s4)) _ _,fk,by lia,fun v3 H5 kv3 s5=>?_⟩
    have d1:=Pb (YF (gd ts ((gd ts j).bs.getD i 0))).lo;refine ⟨_,_,kv2.mono (ZA.tups s5) _ _,kv3,P2 _ _,by lia,_,rfl,?_⟩
    rw [OA];exact hB H5 ((s4.trans s5) _ _ eE) ⟨s3.trans (s4.trans s5),nE,ly⟩
   ·obtain ⟨s3,nE,ly⟩:=hP;subst hz;refine ⟨_,rfl,hB _ H3 eE ⟨V2 s3 nE,nE,?_⟩⟩;rw [zBx,zBT,zAV,zAV,ly,zBu,if_pos hk,Int.zero_add];rfl
   ·obtain ⟨s3,nE,ly⟩:=hP;refine ⟨s3,nE,?_⟩;rw [zBx,zBT,zBu,if_neg (by rw [hk];exact zAF),List.filter_nil,zA0]
    exact ly
   ·obtain ⟨s3,nE,ly⟩:=hP;rw [lws] at ly;subst ly;refine ⟨_,rfl,E,_,0,rfl,rfl,ZK.of eE,?_⟩;rw [emax];have eD3:=s3 _ _ eD2;refine ⟨_,rfl,.inl ⟨rfl,_,ZK.of eD3⟩,_,rfl,_,rfl,nn (zAB rfl),fun t nt=>?_⟩;obtain ⟨f1,f2,f3,f4⟩:=fin (n:=((Yw ts k j:Nat):Int)) s3 rfl nt;refine ⟨D,us,.ref t,rfl,rfl,f4,nn (by lia),?_⟩
    obtain ⟨n1,n2,n3⟩:=NO R.wf hjl h0 k;have hnF:=R.sub hj (zAJ n3);obtain ⟨eb,ab⟩:=at_b (Yw ts k j) (JZ R.wf hjl h0 k);have uD:u≠D:=ZV h2 eD2;refine ⟨_,rfl,_,rfl,u,_,_,_,rfl,rfl,Zn.of (by rw [ZX uD];exact f3 _ _ h2),ab,?_⟩
    refine ⟨(gd ts (UI ts k j)).h+1,(show (gd ts (UI ts k j)).h+1<(gd ts j).h+1 by lia),some (UI ts k j),pre++[(j,Yw ts k j)],_,_,_,_,_,rfl,rfl,(fun i z=>by cases z;exact hnF),?_,f2,ZN,f1⟩
    rw [epre];show pre++VX ts k (gd ts j).h j=_;rw [<-n2,zCJ];rfl
end
end Tw
namespace L2
open PySem PySem.Spec PyProof.Rows
section
variable{X:Cx}
end
end L2
namespace Tw
open PySem PySem.Spec L2 PyProof.Rows
theorem D9(us:je)(n s:Nat)(hn:n<=us.length):VM us (some (n:Int)) (some ((n:Int)+(s:Int)))=(us.drop n).take s:=by
 unfold VM;have e:((n:Int)+(s:Int))=((n+s:Nat):Int):=by lia
 rw [e,HT.sIx_nat,HT.sIx_nat,show min n us.length=n by lia,List.take_eq_take_min (i:=s),zBS]
 congr 1
 lia
def YY(N:Addr->Prop)(H:Hp)(ps:je)(u:V):Prop:=∃ a,u=.ref a/\H a=some (.lst ps)/\¬ N a
theorem YY.go{N:Addr->Prop}{H H':Hp}{ps:je}{u:V}(h:YY N H ps u)(k:∀ b o,H b=some o->¬ N b->H' b=some o):YY N H' ps u:=by
 obtain ⟨a,e,h1,h2⟩:=h;exact ⟨a,e,k _ _ h1 h2,h2⟩
def NB(H:Hp)(p D:Addr)(b:Addr):Prop:=b=p\/b=D\/H b≠none
def PN(stem:Bool)(n:Nat):Prop:=(if stem=true then 2 else 1)<=n/\n<=4
structure YI(H H':Hp)(p l D:Addr)(us:je)(stem:Bool)(pl:je)(jl:List (je))(n:Nat):Prop where
 w:ZF H' p
 sx:ZC p H H'
 hl:H' l=some (.lst us)
 hD:H' D=some (.lst pl)
 nD:H D=none
 lp:l≠p
 lD:l≠D
 Dp:D≠p
 parts:Paired (YY (NB H p D) H') jl pl
 flat:jl.flatten=us.take n
 size:∀ ps∈jl,PN stem ps.length
 few:pl.length<=n
theorem YI.go{H H' H'':Hp}{p l D:Addr}{us:je}{stem:Bool}{pl:je}{jl:List (je)}{n:Nat}(r:YI H H' p l D us stem pl jl n)(s:ZC p H' H'')(w:ZF H'' p):YI H H'' p l D us stem pl jl n:=
 ⟨w,r.sx.trans s,s _ _ r.hl r.lp,s _ _ r.hD r.Dp,r.nD,r.lp,r.lD,r.Dp,Paired.mapP r.parts fun _ _ z=>YY.go z fun b o e n=>s b o e fun z=>n (.inl z),r.flat,r.size,r.few⟩
abbrev HM:List Str:=["_law_well_here","_law_things","_law_few","_law_stem","_law_parts","_law_at","_law_size"]
theorem Uo:ZD HM ["_law_well_here","_law_things","_law_few","_law_stem"] (Zg P6):=Zu
def Jq:Option Stmt->List Stmt
 | some (.While _ b _ _)=>b
 | _=>[]
def Mq:List Stmt:=Jq ((WQ P6)[2]?)
section
variable{P:Program}{w:World}{K:zAA}{mg:jb}{base:Heap}{f:Addr}{fd:FuncData}{cdv:Value}{A:Around}{outer:List Env}{s:Shared}{Hs:Hp}{E:XK}
theorem FN(T:YD mg):∃ t,Xg (X7 ZU P w K mg base HM "_law_cut" (Zg P6) f cdv A outer s Hs E).nox (Mq.drop 2) t/\∀(D0:YG)(H H1:Hp)(p l D:Addr)(us pl:je)(stem:Bool)(fw:Int)(jl:List (je))(n sz:Nat),
  YI H H1 p l D us stem pl jl n->n<us.length->us.length<=100->1<=sz->sz<=4->PN stem (min sz (us.length - n)) ->
   (∀ pl' pss' H',YI H H' p l D us stem pl' pss' (n+sz)->D0.nx [some (.ref p),some (.ref l),some (.int fw),some (.bl stem),some (.ref D),some (.int ((n+sz:Nat):Int)),some (.int (sz:Int))] H') ->
    t D0 [some (.ref p),some (.ref l),some (.int fw),some (.bl stem),some (.ref D),some (.int (n:Int)),some (.int (sz:Int))] H1:=by
 have nd:=Uo.nd;refine ⟨_,ZQ (WP (UX zAr zAt zAs UH (pv 4) (ZG (WA UJ rfl T.list UK (ZG (V4 V5 (pv 1) (Vl (pv 5)) (Vl (Zo Xn (pv 5) (pv 6)))) ZH)) ZH)))
  (ZW (Zj 5 nd (Zo Xn (pv 5) (pv 6)))),fun D0 H H1 p l D us pl stem fw jl n sz r hn l100 s1 s4 hok fin=>?_⟩
 refine ⟨_,rfl,.inl ⟨rfl,_,ZK.of r.hD⟩,_,rfl,_,rfl,_,rfl,_,rfl,_,rfl,_,_,rfl,rfl,_,rfl,l,us,rfl,ZK.of r.hl,fun q1 n1=>?_⟩;rw [D9 us n sz (by lia)] at *
 have g1:=ZS n1 (.lst ((us.drop n).take sz));have e1:=ZN (H:=H1) (a:=q1) (o:=.lst ((us.drop n).take sz));generalize upd H1 q1 (.lst ((us.drop n).take sz))=H2 at g1 e1 ⊢;refine ⟨q1,_,rfl,.inl (ZK.of e1),fun q2 n2=>?_⟩;have g2:=ZS n2 (.lst ((us.drop n).take sz));have e2:=ZN (H:=H2) (a:=q2) (o:=.lst ((us.drop n).take sz));have g:=g1.trans g2;have n20:H1 q2=none:=g1.free n2;generalize upd H2 q2 (.lst ((us.drop n).take sz))=H3 at g2 e2 g ⊢;have r3:=YI.go r (ZC.of g) (r.w.same g);have hD3:=r3.hD;have fw':=r.few;refine ⟨D,pl,.ref q2,rfl,rfl,hD3,nn (by lia),?_⟩
 refine ⟨_,rfl,_,rfl,_,_,rfl,rfl,?_⟩;have q2N:¬ NB H p D q2:=by
  rintro (z | z | z)
  ·exact WY r.w n20 z
  ·rw [z,r.hD] at n20;cases n20
  ·exact z (Pj r.sx r.w n20)
 have sD:ZC D H3 (upd H3 D (.lst (pl++[.ref q2]))):=(ZC.refl D H3).upd;have e:((n:Int)+(sz:Int))=((n+sz:Nat):Int):=by lia
 have lpart:((us.drop n).take sz).length=min sz (us.length - n):=by rw [zA8,zBS]
 have k:=fin (pl++[.ref q2]) (jl++[(us.drop n).take sz]) (upd H3 D (.lst (pl++[.ref q2]))) ⟨r3.w.stay sD (Ne.symm r.Dp),fun b o e n=>by rw [ZX (Zb e r.nD)];exact r3.sx b o e n,by rw [ZX r.lD];exact r3.hl,ZN,r.nD,r.lp,r.lD,r.Dp,Ps ⟨q2,rfl,by rw [ZX (fun z=>q2N (.inr (.inl z)))];exact e2,q2N⟩ (Paired.mapP r3.parts fun _ _ z=>YY.go z fun b o e n=>sD b o e fun z=>n (.inr (.inl z))),by rw [List.flatten_append,r.flat,List.take_add];simp,fun ps hps=>?_,by simp;lia⟩
 ·rw [<-e] at k;exact k
 ·rcases zAm.mp hps with z | z
  ·exact r.size ps z
  ·rw [zAS.mp z,lpart];exact hok
inductive Vp(vs:je)(H:Hp)(Q:VK)(_:XK):Prop
 | mk (p l:Addr) (us:je) (fw:Int) (stem:Bool) (_:vs=[.ref p,.ref l,.int fw,.bl stem]) (_:ZF H p) (_:H l=some (.lst us)) (_:l≠p) (_:0<=fw) (_:fw<4) (_:us.length<=100) (_:stem=true->us.length≠1) (_:∀(D:Addr)(pl:je)(jl:List (je))(H':Hp),H D=none->H' D=some (.lst pl)->Paired (YY (NB H p D) H') jl pl->jl.flatten=us->(∀ ps∈jl,PN stem ps.length)->pl.length<=104->ZF H' p->ZC p H H'->Q (.ref D) H')
theorem IC{q:Addr}{a b c d:Int}{fw:Int}(h0:0<=fw)(h4:fw<4)(lo hi:Int)(ha:lo<=a/\a<=hi)(hb:lo<=b/\b<=hi)(hc:lo<=c/\c<=hi)(hd:lo<=d/\d<=hi):∃ m:Int,X8 [V.int a,.int b,.int c,.int d] fw=some (.int m)/\lo<=m/\m<=hi:=by
 obtain ⟨v,av,mv⟩:=QR (xs:=[V.int a,.int b,.int c,.int d]) h0 h4;simp only [zAf,zBd,or_false] at mv;rcases mv with rfl | rfl | rfl | rfl
 ·exact ⟨a,av,ha⟩
 ·exact ⟨b,av,hb⟩
 ·exact ⟨c,av,hc⟩
 ·exact ⟨d,av,hd⟩
inductive Iz(p l:Addr)(fw:Int)(stem:Bool)(D:Addr)(us:je)(H:Hp)(m:Nat)(σ:L2.St)(H':Hp):Prop
 | mk (pl:je) (jl:List (je)) (n:Nat) (x6:jf) (_:σ=[some (.ref p),some (.ref l),some (.int fw),some (.bl stem),some (.ref D),some (.int (n:Int)),x6]) (_:m=us.length - n) (_:YI H H' p l D us stem pl jl n) (_:(stem=true->us.length - n≠1)) (_:n<=103)
theorem C7(F0:Zq K "_law_cut" "_law_cut" P6 f fd)(T:YD mg)(DP:ZB P w K mg base 1 "_law_pull" ["_law_well_here","_law_many"] Zl):ZM P w K mg base ZU 2 f fd ["_law_well_here","_law_things","_law_few","_law_stem"] Vp:=by
 refine F0.ok Uo (fun vs H Q E h=>(by obtain ⟨_,_,_,_,_,rfl,_⟩:=h;rfl)) (fun cdv A outer s H vs Q E hr h=>?_)
 obtain ⟨p,l,us,fw,stem,rfl,W,hl,lp,f0,f4,l100,hst,k⟩:=h;have nd:=Uo.nd;obtain ⟨t,ht,hk⟩:=FN (P:=P) (w:=w) (K:=K) (base:=base) (f:=f) (cdv:=cdv) (A:=A) (outer:=outer) (s:=s) (Hs:=H) (E:=E) T;refine ⟨_,ZQ (Zj 4 nd (YM ZH))
  (ZQ (Zj 5 nd ZL)
  (ZQ (Q2 PassesOwn.never (YN Q4 (pv 5) (Z0 Xh rfl T.len XT (ZG (pv 1) ZH)) (Zy _))
   (ZQ (Zj 6 nd (Zo Xn ZL (Zh DP hr (ZG (pv 0) (ZG (Zp (r:=YR K) Ya (YM (VH ZL ZL ZL ZL)) (pv 2) (fun _ _=>rfl)) ZH)))))
   (ZQ (Z1 (Xo (pv 3))
    (ZQ (Zj 6 nd (Z0 (K1 rfl) rfl T.min IO (ZG (Zo Xn ZL (Zh DP hr (ZG (pv 0) (ZG (Zp (r:=YR K) Ya (YM (VH ZL ZL ZL ZL)) (pv 2) (fun _ _=>rfl)) ZH)))) (ZG (Zo VZ (Z0 Xh rfl T.len XT (ZG (pv 1) ZH)) (pv 5)) ZH))))
    (ZW (Z1 (YN X9 (Zo VZ (Zo VZ (Z0 Xh rfl T.len XT (ZG (pv 1) ZH)) (pv 5)) (pv 6)) ZL (Zy _))
     (ZW (Zj 6 nd (Zp (r:=YR K) Ya (YM (ZG (Zo VZ (pv 6) ZL) (ZG (Zo Xn (pv 6) ZL) ZH))) (WA Pu rfl T.int QZ (ZG (VG X9 (pv 6) ZL (Zy _)) ZH)) (fun _ _=>rfl)))) Z8))) Z8) ht)))
  (ZW (Zk (pv 4))))),?_⟩
 refine ⟨nn (zAB rfl),fun D nD=>?_⟩;have gD:=ZS nD (.lst []);have eD:=ZN (H:=H) (a:=D) (o:=.lst []);generalize upd H D (.lst [])=H1 at gD eD ⊢;have I0:YI H H1 p l D us stem [] [] 0:=⟨W.same gD,ZC.of gD,gD _ _ hl,eD,nD,lp,Zb hl nD,WY W nD,.nil,rfl,fun ps h=>by simp at h,zAH _⟩
 refine ⟨Iz p l fw stem D us H,⟨_,[],[],0,none,rfl,rfl,I0,hst,zAd _⟩,?_⟩;rintro m σ H2 ⟨pl,jl,n,x6,rfl,rfl,r,hrest,n103⟩;refine ⟨_,rfl,_,rfl,l,us,rfl,.inl (ZK.of r.hl),_,_,rfl,rfl,_,rfl,?_⟩;rcases zAe n us.length with hn | hn
 ·rw [decide_eq_true (show (n:Int)<(us.length:Int) by lia)]
  refine Z9 ⟨_,fun _ _ z=>z,?_⟩;have go:∀{D0:YG}{H3:Hp}(z:Int),YI H H3 p l D us stem pl jl n->1<=z->z<=4->PN stem (min z.toNat (us.length - n))->(stem=true->us.length - (n+z.toNat)≠1)->(∀ σ' H',(∃ m',m'<us.length - n/\Iz p l fw stem D us H m' σ' H')->D0.nx σ' H') ->
    t D0 [some (.ref p),some (.ref l),some (.int fw),some (.bl stem),some (.ref D),some (.int (n:Int)),some (.int z)] H3:=fun{D0 H3} z r3 z1 z4 hok hr' fin=>by
   obtain ⟨sz,rfl⟩:∃ sz:Nat,z=(sz:Int):=⟨z.toNat,by lia⟩
   rw [zCL] at hok hr';exact hk D0 H H3 p l D us pl stem fw jl n sz r3 hn l100 (by lia) (by lia) hok fun pl' pss' H' r'=>fin _ _ ⟨us.length - (n+sz),by lia,pl',pss',n+sz,_,rfl,rfl,r',hr',by lia⟩
  refine ⟨_,rfl,nn (zAB rfl),fun q nq=>?_⟩;have gq:=ZS nq (.lst [.int 4,.int 1,.int 2,.int 4]);have eq:=ZN (H:=H2) (a:=q) (o:=.lst [.int 4,.int 1,.int 2,.int 4]);have r3:=YI.go r (ZC.of gq) (r.w.same gq);generalize upd H2 q (.lst [.int 4,.int 1,.int 2,.int 4])=H3 at gq eq r3 ⊢;obtain ⟨m1,am1,m10,m14⟩:=IC (q:=q) (a:=4) (b:=1) (c:=2) (d:=4) f0 f4 1 4 (by decide) (by decide) (by decide) (by decide)
  refine ⟨_,rfl,.inl ⟨q,_,_,_,rfl,rfl,ZK.of eq,am1,p,m1,rfl,r3.w,Yz (by lia) (by lia),fun z1 H4 z10 z11 W4 s4=>⟨_,_,rfl,rfl,?_⟩⟩⟩
  have r4:=YI.go r3 s4 W4;refine ⟨_,rfl,_,rfl,?_⟩
  cases stem with
  | false=>
   refine Zr (go (1+z1) r4 (by lia) (by lia) ⟨?_,?_⟩ (fun z=>by cases z) fun _ _ z=>z)
   ·show 1<=min (1+z1).toNat (us.length - n)
    lia
   ·lia
  | true=>
   have hre:=hrest rfl;refine Z9 ⟨_,rfl,nn (zAB rfl),fun q2 nq2=>?_⟩;have gq2:=ZS nq2 (.lst [.int 3,.int 1,.int 3,.int 2]);have eq2:=ZN (H:=H4) (a:=q2) (o:=.lst [.int 3,.int 1,.int 3,.int 2]);have r5:=YI.go r4 (ZC.of gq2) (r4.w.same gq2);generalize upd H4 q2 (.lst [.int 3,.int 1,.int 3,.int 2])=H5 at gq2 eq2 r5 ⊢;obtain ⟨m2,am2,m20,m24⟩:=IC (q:=q2) (a:=3) (b:=1) (c:=3) (d:=2) f0 f4 1 3 (by decide) (by decide) (by decide) (by decide)
   refine ⟨_,rfl,.inl ⟨q2,_,_,_,rfl,rfl,ZK.of eq2,am2,p,m2,rfl,r5.w,Yz (by lia) (by lia),fun z2 H6 z20 z21 W6 s6=>⟨_,_,rfl,rfl,?_⟩⟩⟩
   have r6:=YI.go r5 s6 W6;refine ⟨_,rfl,l,us,rfl,.inl (ZK.of r6.hl),_,rfl,_,_,rfl,rfl,_,_,rfl,?_⟩;obtain ⟨y,ey,y1,y2,y3⟩:∃ y:Int,(if ((us.length:Nat):Int) - (n:Int)<2+z2 then ((us.length:Nat):Int) - (n:Int) else 2+z2)=y/\2<=y/\y<=4/\y<=((us.length:Nat):Int) - (n:Int):=⟨_,rfl,by split <;> lia,by split <;> lia,by split <;> lia⟩
   rw [ey];refine ⟨_,rfl,l,us,rfl,.inl (ZK.of r6.hl),_,rfl,_,_,rfl,rfl,_,rfl,_,_,rfl,rfl,rfl,_,rfl,?_⟩;by_cases hy:((us.length:Nat):Int) - (n:Int) - y=1
   ·rw [decide_eq_true (congrArg V.int hy)];refine Z9 ⟨_,rfl,_,_,rfl,rfl,_,rfl,_,_,rfl,rfl,nn (zAB rfl),fun q3 nq3=>?_⟩;have gq3:=ZS nq3 (.lst [.int (y - 1),.int (y+1)]);have eq3:=ZN (H:=H6) (a:=q3) (o:=.lst [.int (y - 1),.int (y+1)]);have r7:=YI.go r6 (ZC.of gq3) (r6.w.same gq3);generalize upd H6 q3 (.lst [.int (y - 1),.int (y+1)])=H7 at gq3 eq3 r7 ⊢;refine ⟨_,rfl,rfl,.inr ⟨_,rfl,?_⟩⟩;by_cases h2:y=2
    ·subst h2;refine .inl ⟨q3,_,_,.int (2+1),rfl,rfl,ZK.of eq3,rfl,?_⟩;exact go (2+1) r7 (by lia) (by lia) ⟨by show 2<=min (2+1:Int).toNat _;lia,by lia⟩ (fun _=>by lia) fun _ _ z=>z
    ·have ed:decide (V.int y=V.int 2)=false:=decide_eq_false fun z=>h2 (UC z);rw [ed];refine .inl ⟨q3,_,_,.int (y - 1),rfl,rfl,ZK.of eq3,rfl,?_⟩;exact go (y - 1) r7 (by lia) (by lia) ⟨by show 2<=min (y - 1).toNat _;lia,by lia⟩ (fun _=>by lia) fun _ _ z=>z
   ·rw [decide_eq_false (fun z=>hy (UC z))];exact Zr (go y r6 (by lia) (by lia) ⟨by show 2<=min y.toNat _;lia,by lia⟩ (fun _=>by lia) fun _ _ z=>z)
 ·rw [decide_eq_false (show ¬ (n:Int)<(us.length:Int) by lia)]
  have fl:=r.flat;rw [zAU hn] at fl;have:=r.few;exact Zr ⟨_,rfl,k D pl jl H2 r.nD r.hD r.parts fl r.size (by lia) r.w r.sx⟩
end
end Tw
namespace L2
open PySem PySem.Spec PyProof.Rows
def Bk(K:zAA)(CB:Addr)(sp:Sp)(t:TA)(i:Nat)(ts:TS):TS:=fun D σ H=>t σ H fun vs H1=>sp (vs++[]) H1 (fun _ H2=>D.nx σ H2) (Lv K CB i ts D σ)
theorem CD{X:Cx}{k:Nat}{f CB:Addr}{fd:FuncData}{ps:List Str}{sp:Sp}{x y n:Str}{p pos1 pos2 py ph pos:Pos}{e:Expr}{es:List Expr}{t:TA}{i:Nat}{b₀:Stmt}{suite:List Stmt}{ts:TS}(F:ZM X.prog X.w X.K X.mg X.base (WO X.prog X.w) k f fd ps sp)(hr:ZY k X.A)(hg:Gl X x)(hm:X.mg x=some (.ref f))(hk:zAu X.K (.ref f)=true)(hb:Zs X.K fd ps [])(ha:∀ E',PA (X.wish E') (e :: es) t)(hst:X.stack=X.env :: X.outer)(hfm:X.env.frame=some X.env.locals)(hex:X.ex=[])(hy:Gl X y)(hyC:X.mg y=some (.ref CB))(hN:X.N.Nodup)(hi:X.N[i]? = some n)(hn:X.env.scope.names.lookup n=some .local)(ht:zBA X.K (.ref CB)=some (.type "type"))(hB:zAw X.K CB (.type "BaseException")=some true)(hs:∀ ea E',Xg (X.held ea E') (b₀ :: suite) ts)(jx:(x==("__debug__" : Str))=false:=by decide)(hdy:(y==("__debug__" : Str))=false:=by decide)(he:starEach (e :: es) X.env=(false,eval e X.env) :: starEach es X.env:=by rfl)(jr:(backTo pos1 (starEach es X.env)).any (·.1)=false:=by rfl)(hsw:swapsWith (.Call (.Name x p) (e :: es) [] pos1) none pos2.line X.env=pure false:=by rfl):
  PS X (.Try [.Expr (.Call (.Name x p) (e :: es) [] pos1) pos2] [.ExceptHandler (some (.Name y py)) (some n) (b₀ :: suite) ph] [] [] pos) (Bk X.K CB sp t i ts):=by
 intro pins s σ H D I h;refine wpAny_Try_except ?_;have hfr:X.A.frames=some (X.env :: X.outer):=by rw [I.ok.frames,hst]
 have lands:∀(H1:Hp)(s1:Shared)(ev:Value)(s':Shared),ZI X pins σ H1 s1->WO X.prog X.w X.stack H1 s1 (Lv X.K CB i ts D σ) ev s' ->
   wpAny (model X.prog X.w) X.A (noteFrame ev X.env) (fun _ s₂=>wpAny (model X.prog X.w) X.A (setFlight ev none) (fun _ s₃=>wpAny (model X.prog X.w) X.A (handleBy ev X.env [.ExceptHandler (some (.Name y py)) (some n) (b₀ :: suite) ph]) (SP X pins D) X.xe s₃) X.xe s₂) X.xe s':=by
  intro H1 s1 ev s' I1 hx;obtain ⟨ea,cls,od,H',rfl,W,C,rfl,mC,q⟩:=hx;obtain ⟨B,fl,inT,inB,inA⟩:=W.ex;have fl':VJ B (X.env :: X.outer) ea (.ref C) od .none s'.heap:=by rw [<-hst];exact fl
  refine IQ hfr hfm fl' fun h4 held4 sm4=>?_;refine Ow (s:={ s' with heap:=h4 }) held4 fun h5 fl5 sm5=>?_;have J5:ZI X pins σ H' { s' with heap:=h5 }:=Kp I1 W inT inB inA fl5.1 (sm4.trans sm5);refine wpAny_handleBy_cons (codeAny_handlers_test ?_) (by intro q;cases q)
  refine Qd (J5.held ea (fun _ _=>False)) hy hyC ?_ hdy;refine EL (s:={ s' with heap:=h5 }) J5.kIn fl5.at.is ht hB mC ?_;refine codeAny_handlers_suite_as ?_;refine Ow (s:={ s' with heap:=h5 }) fl5 fun h6 fl6 sm6=>?_;have J6:ZI X pins σ H' { s' with heap:=h6 }:=Kp I1 W inT inB inA fl6.1 ((sm4.trans sm5).trans sm6);have n0:X.s₀.heap.get? ea=none:=by
   cases z:X.s₀.heap.get? ea with
   | none=>rfl
   | some o=>
    obtain ⟨o',q'⟩:=I1.base.there ea o z (by rw [hex];simp)
    rw [W.new] at q';cases q'
  have n1:ea≠X.env.locals:=fun z=>by
   obtain ⟨m,⟨o,_,_,ho,_⟩,_⟩:=I1.loc;rw [<-z,W.new] at ho;cases ho
  have n2:∀ x c,X.env.cells.lookup x=some c->c≠ea:=fun x c e z=>by
   obtain ⟨v,o,ho,_⟩:=I1.cell x c e;rw [z,W.new] at ho;cases ho
  have n3:∀ p∈X.pn++pins,p.1≠ea:=fun p hp z=>by
   have ho:=(I1.pin p hp).1;rw [z,W.new] at ho;cases ho
  have K6:ZI X pins σ (upd H' ea (XO Vf ea C od)) { s' with heap:=h6 }:=J6.track n0 n1 n2 n3 W.free (LH fl6.at);refine LL K6 hN hi (.inl hn) (v:=.ref ea) rfl (fun s7 I7=>?_) (.inr hn);refine wpAny_mono (hs ea _ pins s7 _ _ _ (I7.held ea _) (q ea W.free)) (fun fl s8 h8=>?_) fun _ _ z=>z
  cases fl with
  | next=>
   obtain ⟨σ8,H8,J8,q8⟩:=h8;exact (J8.unheld I1.ok).goes hN hi hn fun s9 I9=>⟨_,H8,I9,q8⟩
  | brk=>
   obtain ⟨σ8,H8,J8,q8⟩:=h8;exact (J8.unheld I1.ok).goes hN hi hn fun s9 I9=>⟨_,H8,I9,q8⟩
  | cont=>
   obtain ⟨σ8,H8,J8,q8⟩:=h8;exact (J8.unheld I1.ok).goes hN hi hn fun s9 I9=>⟨_,H8,I9,q8⟩
  | ret u=>
   obtain ⟨v8,σ8,H8,J8,r8,q8⟩:=h8;exact (J8.unheld I1.ok).goes hN hi hn fun s9 I9=>⟨v8,_,H8,I9,r8,q8⟩
 refine wpAny_execs_cons (wpAny_Expr_any ?_ I.quiet hsw);have I':=I.wish (fun ev s'=>wpAny (model X.prog X.w) X.A (noteFrame ev X.env) (fun _ s₂=>wpAny (model X.prog X.w) X.A (setFlight ev none) (fun _ s₃=>wpAny (model X.prog X.w) X.A (handleBy ev X.env [.ExceptHandler (some (.Name y py)) (some n) (b₀ :: suite) ph]) (SP X pins D) X.xe s₃) X.xe s₂) X.xe s');refine wpAny_Call_Name_kw (Qd I hg hm ?_ jx);refine zBv (h₀:=X.base) I.ok.mod.kin hk (Za (ha _ pos1 pins s σ H _ I' h) fun us s1 ⟨vs,H1,I1,r,q⟩=>⟨I1.kIn,?_⟩) he jr;have r2:ZP (vs++[]) (us++[]):=r.append .nil;have hl:(us++[]).length=ps.length:=by rw [<-r2.length];exact F.len _ _ _ _ q
 refine wpAny_call (codeAny_mono (F.run X.A X.stack s1 H1 ⟨us,[]⟩ (us++[]) (vs++[]) _ _ hr I1.env0 (hb s1 us I1.kIn hl) r2 q) fun rr s' hq=>?_)
 cases rr with
 | error ev=>exact lands H1 s1 ev s' I1.unwish hq
 | ok fl=>
  cases fl with
  | ret u=>
   obtain ⟨v,H2,J,rv,q2⟩:=I1.unwish.after hq;exact wpAny_execs_nil (wpAny_execs_nil ⟨σ,H2,J,q2⟩)
  | next=>exact False.elim hq
  | brk=>exact False.elim hq
  | cont=>exact False.elim hq
section
variable{X:Cx}
theorem EH(hu:X.A.units<cLine):YX X (compareOp .Eq) (fun x y H Q=>∃(p b:Addr)(xs ys:List Bool),x=.ref p/\y=.ref b/\ZK X.K H p (xs.map V.bl)/\ZK X.K H b (ys.map V.bl)/\xs.length=ys.length/\Q (.bl ((zAi xs.length).all fun j=>xs.getD j false==ys.getD j false)) H):=by
 intro pins s σ H x y v u Q I rx ry h;obtain ⟨p,b,xs,ys,rfl,rfl,h1,h2,hl,q⟩:=h;cases rx;cases ry;obtain ⟨ji,r1,p1,z1⟩:=I.list h1;obtain ⟨jp,r2,p2,z2⟩:=I.list h2;have l1:=r1.length;have l2:=r2.length;rw [zAD] at l1 l2;have ln:ji.toArray.size=xs.length:=by simp;lia
 refine PySem.SeqAt.eq_listAt (e:=fun j=>xs.getD j false==ys.getD j false) p1.isList p2.isList (by simp;lia) hu (fun j g1 g2=>?_) (Ye I q (by rw [ln]))
 have hj:j<xs.length:=by lia
 have hj2:j<ys.length:=by lia
 have hv:(xs.map V.bl)[j]? = some (.bl (xs.getD j false)):=by rw [zAM,zAC,zAE hj];rfl
 have hv2:(ys.map V.bl)[j]? = some (.bl (ys.getD j false)):=by rw [zAM,zAC,zAE hj2];rfl
 obtain ⟨u1,e1,a1⟩:=r1.get hv;obtain ⟨u2,e2,a2⟩:=r2.get hv2;have k1:ji.toArray[j]=u1:=by
  have:ji.toArray[j]? = some u1:=by simpa using e1
  rw [zAY g1] at this;exact zAh.inj this
 have k2:jp.toArray[j]=u2:=by
  have:jp.toArray[j]? = some u2:=by simpa using e2
  rw [zAY g2] at this;exact zAh.inj this
 rw [k1,k2];obtain rfl:u1=.bool _:=a1;obtain rfl:u2=.bool _:=a2;exact PySem.SeqAt.EqAt.bool_bool _ _
end
def OD:V->Bool
 | .int _=>true
 | .str _=>true
 | .bl _=>true
 | _=>false
theorem AO{A:Around}{s:Shared}{v:V}{a b:Value}(h:OD v=true)(ra:ZR v a)(rb:ZR v b):PySem.SeqAt.EqAt A s a b true:=by
 cases v with
 | int i=>
  obtain ⟨t1,rfl⟩:=ra;obtain ⟨t2,rfl⟩:=rb;have:=PySem.SeqAt.EqAt.int_int (A:=A) (s:=s) i t1 i t2
  rwa [show (i==i)=true by simp] at this
 | str x=>
  obtain ⟨t1,rfl⟩:=ra;obtain ⟨t2,rfl⟩:=rb;have:=PySem.SeqAt.EqAt.str_str (A:=A) (s:=s) x t1 x t2
  rwa [show (x==x)=true by simp] at this
 | bl x=>
  obtain rfl:a=.bool x:=ra;obtain rfl:b=.bool x:=rb;exact PySem.SeqAt.EqAt.same _
 | _=>cases h
section
variable{X:Cx}
theorem ZKh{pins:List (Addr×Obj)}{σ:St}{H:Hp}{s:Shared}{xs:je}{ji jp:jd}(hf:∀ v∈xs,OD v=true)(r1:ZP xs ji)(r2:ZP xs jp)(j:Nat)(g1:j<ji.toArray.size)(g2:j<jp.toArray.size):PySem.SeqAt.EqAt X.A.in1 s ji.toArray[j] jp.toArray[j] true:=by
 have l1:=r1.length;have hj:j<xs.length:=by simp at g1;lia
 have hv:xs[j]? = some xs[j]:=zAE hj;obtain ⟨u1,e1,a1⟩:=r1.get hv;obtain ⟨u2,e2,a2⟩:=r2.get hv;have k1:ji.toArray[j]=u1:=by
  have:ji.toArray[j]? = some u1:=by simpa using e1
  rw [zAY g1] at this;exact zAh.inj this
 have k2:jp.toArray[j]=u2:=by
  have:jp.toArray[j]? = some u2:=by simpa using e2
  rw [zAY g2] at this;exact zAh.inj this
 rw [k1,k2];exact AO (hf _ (zBE hj)) a1 a2
def ZPG(K:zAA)(b:Bool):R2:=fun x y H Q=>∃(p q:Addr)(xs:je),x=.ref p/\y=.ref q/\Zn K H p xs/\Zn K H q xs/\(∀ v∈xs,OD v=true)/\Q (.bl b) H
theorem KR(hu:X.A.units<cLine):YX X (compareOp .NotEq) (ZPG X.K false):=by
 intro pins s σ H x y v u Q I rx ry h;obtain ⟨p,b,xs,rfl,rfl,h1,h2,hf,q⟩:=h;cases rx;cases ry;obtain ⟨ji,r1,p1,z1⟩:=I.tuple h1;obtain ⟨jp,r2,p2,z2⟩:=I.tuple h2;have l1:=r1.length;have l2:=r2.length;exact PySem.SeqAt.RcNeAt.tuples (e:=fun _=>true) p1 p2 hu (fun j g1 g2=>ZKh (X:=X) (pins:=pins) (σ:=σ) (H:=H) hf r1 r2 j g1 g2) X.prog X.w X.xe _ (Ye I q (by simp;lia))
end
end L2
namespace Tw
open PySem PySem.Spec L2 PyProof.Rows
section
variable{X:Cx}
theorem Bi{k0:Nat}(hr:ZY k0 X.A):YX X (compareOp .NotIn) (fun x y H Q=>∃(p:Addr)(us:je)(ts:List KT)(k:KT),y=.ref p/\ZK X.K H p us/\KeysAt H ts us/\ZE H k x/\(∀ t∈ts,t.fits 3=true)/\∀ b,Q (.bl b) H):=by
 intro pins s σ H x y v u Q I rx ry h;obtain ⟨p,us,ts,k,rfl,hq,ks,kx,hf,q⟩:=h;cases ry;obtain ⟨ji,r,pl,hz⟩:=I.list hq;have un:=hr.un;have ex:∀ y,y∈ji.toArray->∃ b,PySem.SeqAt.EqAt X.A.in1 s y v b:=fun y hy=>by
  have hy':y∈ji:=by simpa using hy
  obtain ⟨j,hj⟩:=zBn hy';have lr:=r.length;have hl:=(zAK.mp hj).1;have hu:us[j]? = some (us[j]'(by lia)):=zAE (by lia)
  obtain ⟨u1,e1,a1⟩:=r.get hu;rw [hj] at e1;cases e1;obtain ⟨t,et,kt⟩:=ks.get hu;have dp:=VU t 3 (hf t (zAJ et));exact ⟨_,Qv t.depth t k X.A.in1 y v (zAH _) (Vj I _ _ _ kt a1) (Vj I _ _ _ kx rx) (by show X.A.units+1+_<_;lia)⟩
 refine PySem.SeqAt.notIn_listAt (fun y=>@ite _ (PySem.SeqAt.EqAt X.A.in1 s y v true) (Classical.propDecidable _) true false) pl.isList (fun y hy=>?_) ⟨.bl _,H,I,rfl,q _⟩;obtain ⟨b,hb⟩:=ex y hy;by_cases h:PySem.SeqAt.EqAt X.A.in1 s y v true
 ·rw [if_pos h];exact h
 ·rw [if_neg h]
  cases b with
  | true=>exact absurd hb h
  | false=>exact hb
end
section
variable{P:Program}{w:World}{K:zAA}{mg:jb}{base:Heap}{f:Addr}{fd:FuncData}
inductive XI(vs:je)(H:Hp)(Q:VK)(_:XK):Prop
 | mk (p kn:Addr) (us:je) (ts:List KT) (_:vs=[.ref p,.ref kn]) (_:ZF H p) (_:H kn=some (.lst us)) (_:KeysAt H ts us) (_:∀ t∈ts,t.fits 3=true) (_:kn≠p) (_:us.length<=300) (_:∀(v:V)(t:KT)(us':je)(ts':List KT)(H':Hp),ZE H' t v->t.fits 3=true->H' kn=some (.lst us')->KeysAt H' ts' us'->(∀ t∈ts',t.fits 3=true)->us'.length<=us.length+1->ZF H' p->(∀ b o,b≠p->b≠kn->H b=some o->H' b=some o)->Q v H')
theorem Wu:ZD ["_law_well_here","_law_known_here","_law_spot"] ["_law_well_here","_law_known_here"] (Zg MW):=Zu
theorem A3(F0:Zq K "_law_any_key" "_law_any_key" MW f fd)(T:YD mg)(DP:ZB P w K mg base 1 "_law_pull" ["_law_well_here","_law_many"] Zl)(DK:ZB P w K mg base 6 "_law_key" ["_law_well_here","_law_room"] (Y6 4)):ZM P w K mg base ZU 7 f fd ["_law_well_here","_law_known_here"] XI:=by
 refine F0.ok Wu (fun vs H Q E h=>(by obtain ⟨_,_,_,_,rfl,_⟩:=h;rfl)) (fun cdv A outer s H vs Q E hr h=>?_)
 obtain ⟨p,kn,us,ts,rfl,W,hk,kk,hf,kp,l300,q⟩:=h;have nd:=Wu.nd;have hr1:=hr.mono (show 1<=6 by decide)
 refine ⟨_,ZQ (Z1 (PW.pt (LN (YN (M8 hr.units0) (pv 1) (YM ZH) (Zy _)) (Mn (YN QW (Zh DP hr1 (ZG (pv 0) (ZG ZL ZH))) ZL (Zy _))))) (ZW (Zk (Zp (r:=YR K) Ya (pv 1) (Zh DP hr1 (ZG (pv 0) (ZG (Z0 Xh rfl T.len XT (ZG (pv 1) ZH)) ZH))) (fun _ _=>rfl)))) Z8)
  (ZQ (Zj 2 nd (Zh DK hr (ZG (pv 0) (ZG ZL ZH))))
  (ZQ (Z1 (YN (Bi hr) (pv 2) (pv 1) rfl) (ZW (WP (UX zAr zAt zAs UH (pv 1) (ZG (pv 2) ZH)))) Z8)
  (ZW (Zk (pv 2))))),?_⟩
 refine ⟨_,rfl,nn (zAB rfl),fun e0 ne0=>?_⟩;have g0:=ZS ne0 (.lst []);refine ⟨kn,e0,us,rfl,rfl,ZK.of (g0 _ _ hk),ZK.of ZN,_,rfl,?_⟩;have hk0:=g0 _ _ hk;have W0:=W.same g0;generalize upd H e0 (.lst [])=H0 at g0 hk0 W0 ⊢;have more:∀{H1:Hp},ZC p H0 H1->ZF H1 p->∀(R:V->Hp->Prop),(∀ v t H2,ZE H2 t v->t.fits 3=true->ZF H2 p->ZC p H0 H2->R v H2)->Y6 4 [V.ref p,V.int 3] H1 R E0:=fun s1 W1 R hR=>⟨p,3,rfl,W1,by decide,fun v t H2 kv fv W2 s2=>hR v t H2 kv fv W2 (s1.trans s2)⟩
 have last:∀{v:V}{t:KT}{H2:Hp},ZE H2 t v->t.fits 3=true->ZF H2 p->ZC p H0 H2->Q v H2:=fun{v t H2} kv fv W2 s2=>q v t us ts H2 kv fv (s2 _ _ hk0 kp) ((kk.mono (ZA.tups g0) _ _).mono (s2.tupsW W0) _ _) hf (by lia) W2 fun b o n1 _ e=>s2 b o (g0 b o e) n1
 have tail:∀{v:V}{t:KT}{H2:Hp},ZE H2 t v->t.fits 3=true->ZF H2 p->ZC p H0 H2->H2 kn=some (.lst us)/\KeysAt H2 ts us/\(Q v H2)/\Q v (upd H2 kn (.lst (us++[v]))):=fun{v t H2} kv fv W2 s2=>by
  have hk2:=s2 _ _ hk0 kp;have kk2:=(kk.mono (ZA.tups g0) _ _).mono (s2.tupsW W0) _ _;have sK:ZC kn H2 (upd H2 kn (.lst (us++[v]))):=(ZC.refl kn H2).upd;have tK:=sK.tups hk2;refine ⟨hk2,kk2,last kv fv W2 s2,q v t (us++[v]) (ts++[t]) _ (kv.mono tK _ _) fv ZN ((kk2.mono tK _ _).append (.cons (kv.mono tK _ _) .nil)) (fun z hz=>?_) (by simp) (W2.stay sK (Ne.symm kp)) fun b o n1 n2 e=>by rw [ZX n2];exact s2 b o (g0 b o e) n1⟩
  rcases zAm.mp hz with y | y
  ·exact hf z y
  ·rw [zAS.mp y];exact fv
 have luu:us.length<1000:=by lia
 cases us with
 | nil=>
  refine Zr (Zr ⟨_,rfl,more (ZC.refl _ _) W0 _ fun v t H2 kv fv W2 s2=>?_⟩);obtain ⟨a1,a2,a3,a4⟩:=tail kv fv W2 s2;refine ⟨_,rfl,_,rfl,kn,_,ts,t,rfl,ZK.of a1,a2,kv,hf,fun b=>⟨_,rfl,?_⟩⟩
  cases b with
  | true=>exact Z9 ⟨_,rfl,.inl ⟨rfl,_,ZK.of a1⟩,_,rfl,kn,_,v,rfl,rfl,a1,nn (by lia),_,rfl,a4⟩
  | false=>exact Zr ⟨_,rfl,a3⟩
 | cons u0 us0=>
  refine Z9 ⟨_,rfl,p,3,rfl,W0,Yz (by decide) (by decide),fun z H1 z0 z1 W1 s1=>⟨_,_,rfl,rfl,_,rfl,Ww (fun c=>?_) (fun c=>?_)⟩⟩
  ·have hk1:=s1 _ _ hk0 kp;refine ⟨_,rfl,_,rfl,_,rfl,kn,_,rfl,.inl (ZK.of hk1),p,_,rfl,W1,Yz (by simp <;> lia) (by simp at luu ⊢ <;> lia),fun j H2 j0 j1 W2 s2=>?_⟩
   obtain ⟨v,av,mv⟩:=QR (xs:=u0 :: us0) j0 j1;have hk2:=s2 _ _ hk1 kp;obtain ⟨i,hi⟩:=zBn mv;have s02:=s1.trans s2;obtain ⟨t,et,kt⟩:=((kk.mono (ZA.tups g0) _ _).mono (s02.tupsW W0) _ _).get hi;exact .inl ⟨kn,_,_,v,rfl,rfl,ZK.of hk2,av,last kt (hf t (zAJ et)) W2 s02⟩
  ·refine ⟨_,rfl,more s1 W1 _ fun v t H2 kv fv W2 s2=>?_⟩;obtain ⟨a1,a2,a3,a4⟩:=tail kv fv W2 s2;refine ⟨_,rfl,_,rfl,kn,_,ts,t,rfl,ZK.of a1,a2,kv,hf,fun b=>⟨_,rfl,?_⟩⟩
   cases b with
   | true=>exact Z9 ⟨_,rfl,.inl ⟨rfl,_,ZK.of a1⟩,_,rfl,kn,_,v,rfl,rfl,a1,nn (by lia),_,rfl,a4⟩
   | false=>exact Zr ⟨_,rfl,a3⟩
end
theorem YU.sub{l m:List KT}(h:YU m)(s:l.Sublist m):YU l:=zCl.sublist s h
theorem MM(ts:List ZT):∀ jl:List (List Nat),Y2 ts jl.flatten=jl.flatMap fun bs=>Y2 ts bs
 | []=>rfl
 | bs :: jl=>by
  rw [zBZ,zBl,<-MM ts jl];unfold Y2;rw [List.flatMap_append]
theorem Fb{gt:List KT}{ts:List ZT}(hw:WF gt ts){bs:List Nat}{h:Nat}(hb:∀ b∈bs,b<ts.length/\(gd ts b).h=h)(h2:2<=bs.length)(h4:bs.length<=4)(hr:YU ((Y2 ts bs).map (·.1))):∃ L,over (Y5 ts bs)=some L:=by
 have ll:(Y5 ts bs).length=bs.length:=zAD _;have up:=hr;unfold YU Y2 at up;rw [List.map_flatMap,zDW] at up;refine ⟨_,CI (by lia) (by lia) fun j hj=>?_⟩
 have j0:j<bs.length:=by lia
 have j1:j+1<bs.length:=by lia
 rw [Qe j0,Qe j1];have ea:bs[j]? = some (bs.getD j 0):=by rw [zAC,zAE j0];rfl
 have eb:bs[j+1]? = some (bs.getD (j+1) 0):=by rw [zAC,zAE j1];rfl
 have ha:=hb _ (zAJ ea);have hc:=hb _ (zAJ eb);have pr:=Og up.2 (zBe j) ea eb;obtain ⟨rs1,r1,e1,f1⟩:=Ny (hw _ _ (Xk ha.1)).ne;obtain ⟨r2,rs2,e2,f2⟩:=PF (hw _ _ (Xk hc.1)).ne;unfold Ui;rw [zAR];refine ⟨?_,?_⟩
 ·show (((gd ts (bs.getD j 0)).h:Int)==((gd ts (bs.getD (j+1) 0)).h:Int))=true;rw [ha.2,hc.2];simp
 ·rw [f1,f2];refine pr _ ?_ _ ?_
  ·rw [e1,zAV];exact zAk _ (zAS.mpr rfl)
  ·rw [e2];exact zAT ..
theorem ZJQ{rs ps:List Yg}(hf:∀ r∈rs,r.fit)(hr:YU (rs.map (·.1)))(hs:ps.Sublist rs)(h1:1<=ps.length)(h4:ps.length<=4):QU ps:=⟨fun r h=>hf r (hs.subset h),by lia,h4,YU.sub hr (hs.map _)⟩
theorem GB{α:Type}{jl:List (List α)}{ps:List α}(h:ps∈jl):ps.Sublist jl.flatten:=zC9 h
theorem Bt{gt:List KT}{ts:List ZT}{rs:List Yg}(g:QU rs):WE gt ts ts.length (Vh rs):=
 ⟨fun z=>by have:=g.2.1;rw [show (Vh rs).rows=rs from rfl] at z;rw [z] at this;simp at this,g.2.2.2,g.1,fun _=>⟨rfl,g.2.2.1⟩,fun z=>absurd rfl z⟩
def YH{α:Type}(back:Bool)(l:List α):List α:=if back=true then l.reverse else l
theorem Q7{α:Type}(back:Bool)(l:List α):(YH back l).length=l.length:=by cases back <;> simp [YH]
theorem KC{α:Type}(back:Bool)(l:List α):YH back (YH back l)=l:=by cases back <;> simp [YH]
theorem Py{α β:Type}(f:α->β)(back:Bool)(l:List α):(YH back l).map f=YH back (l.map f):=by cases back <;> simp [YH]
theorem Z3{α:Type}{back:Bool}{l:List α}{x:α}:x∈YH back l ↔ x∈l:=by cases back <;> simp [YH]
theorem DU{back:Bool}{l:List Nat}(h:l.Nodup):(YH back l).Nodup:=by
 cases back
 ·exact h
 ·exact (List.reverse_perm l).nodup_iff.mpr h
theorem NY{α β:Type}{F:α->β->Prop}(back:Bool){l:List α}{m:List β}(h:Paired F l m):Paired F (YH back l) (YH back m):=by
 cases back
 ·exact h
 ·show Paired F l.reverse m.reverse
  induction h with
  | nil=>exact .nil
  | cons a _ ih=>rw [List.reverse_cons,List.reverse_cons];exact Ps a ih
theorem Gd{back:Bool}{qs:List (List Nat)}(h:qs.flatten.Nodup):(YH back qs).flatten.Nodup:=by
 cases back
 ·exact h
 ·show qs.reverse.flatten.Nodup;have:qs.flatten.Perm qs.reverse.flatten:=(List.reverse_perm qs).symm.flatten;exact this.nodup_iff.mp h
theorem No{ts L:List ZT}{i:Nat}(h:i<ts.length):gd (ts++L) i=gd ts i:=by
 unfold gd;rw [zAC,zA2 h,<-zAC]
theorem ZG3(ts L:List ZT):(zBP ts.length L.length).map (fun b=>(gd (ts++L) b).rows)=L.map (·.rows):=by
 refine zC2 (by simp) fun i h1 h2=>?_
 have hi:i<L.length:=by simpa using h2
 rw [zC1,zC1,List.getElem_range'];unfold gd;rw [zAC,zAv (by lia),show ts.length+1 * i - ts.length=i by lia,zAE hi]
 rfl
theorem Ad{ts L:List ZT}{b:Nat}(h:b∈zBP ts.length L.length):gd (ts++L) b∈L:=by
 rw [List.mem_range'_1] at h;unfold gd;rw [zAC,zAv h.1,zAE (show b - ts.length<L.length by lia)]
 exact zBE _
theorem As(ts L:List ZT)(back:Bool):Y2 (ts++L) (YH back (zBP ts.length L.length))=((YH back L).map (·.rows)).flatten:=by
 unfold Y2;rw [zB4,Py,ZG3,Py]
theorem Kw{α β:Type}(f:α->β):∀(jl:List (List β))(l:List α),jl.flatten=l.map f->∃ jq:List (List α),jl=jq.map (List.map f)/\jq.flatten=l
 | [],l,h=>⟨[],rfl,by
  have:l.map f=[]:=h.symm;rw [List.map_eq_nil_iff.mp this];rfl⟩
 | ps :: jl,l,h=>by
  rw [zBZ] at h;obtain ⟨l1,l2,rfl,h1,h2⟩:=List.map_eq_append_iff.mp h.symm;obtain ⟨jq,e1,e2⟩:=Kw f jl l2 h2.symm;exact ⟨l1 :: jq,by rw [zAn,h1,<-e1],by rw [zBZ,e2]⟩
theorem HH{H:Hp}:∀(jl:List (je))(rs:List Yg),KeysAt H (YQ rs) jl.flatten->∃ jq:List (List Yg),jq.flatten=rs/\Paired (fun q ps=>KeysAt H (YQ q) ps) jq jl
 | [],rs,h=>⟨[],by
  have:=h.length;unfold YQ at this;rw [zAD] at this;exact (List.length_eq_zero_iff.mp this).symm,.nil⟩
 | ps :: jl,rs,h=>by
  rw [zBZ] at h;have h1:=h.take ps.length;have h2:=h.drop ps.length;rw [List.take_left'  rfl] at h1;rw [List.drop_left' rfl] at h2;unfold YQ at h1 h2;rw [<-zCj] at h1;rw [<-zCk] at h2;obtain ⟨jq,e1,e2⟩:=HH jl _ h2;exact ⟨rs.take ps.length :: jq,by rw [zBZ,e1,zB2],.cons h1 e2⟩
theorem Om{α:Type}{n:Nat}:∀(jq:List (List α)),(∀ q∈jq,n<=q.length)->n * jq.length<=jq.flatten.length
 | [],_=>by simp
 | q :: jq,h=>by
  have:=Om jq fun x hx=>h x (zAN _ hx);have h1:=h q zAT;rw [zBZ,zAI,zAW,Nat.mul_add]
  lia
section
variable{gt:List KT}{jg jh:Addr}{N N2:Addr->Prop}{H0 H H':Hp}{S d lk:Addr}{ls:je}{ju ts ts':List ZT}{av av':Nat->List Nat}{ho ho':Nat->Nat}{jw as as':List Z5}{kvs kvs':List (ZZ×V)}
theorem YT.but(R:YT jg jh H S d lk ts av ho as kvs ls){c:Addr}{o:je}(s:ZC c H H')(hc:H c=some (.lst o))(clk:c≠lk)(own:∀ i:Nat,i<ts.length->(as.getD i .d).ab≠c/\(as.getD i .d).th≠c):YT jg jh H' S d lk ts av ho as kvs ls:=by
 have t:=s.tups hc;obtain ⟨⟨dS,hS⟩,hd,hl⟩:=R.sh;refine ⟨⟨⟨dS,s _ _ hS (ZV hS hc)⟩,s _ _ hd (ZV hd hc),s _ _ hl (Ne.symm clk)⟩,R.keys,R.val,R.len,fun i hi=>?_,R.own,R.two⟩;obtain ⟨dx,hx⟩:=(R.tw i hi).tw.self;exact (R.tw i hi).frame t (fun o e=>s _ _ e (ZV hx hc)) (fun o e=>s _ _ e (own i hi).2) (fun o e=>s _ _ e (own i hi).1)
structure YK(gt:List KT)(jg jh:Addr)(N:Addr->Prop)(H0 H:Hp)(S d lk:Addr)(ls:je)(ju:List ZT)(jw:List Z5)(ts:List ZT)(av:Nat->List Nat)(ho:Nat->Nat)(as:List Z5)(kvs:List (ZZ×V)):Prop where
 sh:YT jg jh H S d lk ts av ho as kvs ls
 wf:WF gt ts
 hs:∀ i,i<ts.length->(gd ts i).h<=60
 fr:∀ c o,¬ N c->c≠S->c≠d->(∀ b:Nat,b<ju.length->c≠(jw.getD b .d).x/\c≠(jw.getD b .d).ab)->H0 c=some o->H c=some o
 gr:∀ c,H c=none->H0 c=none
 le:ju.length<=ts.length
 old:∀ i,i<ju.length->as.getD i .d=jw.getD i .d/\gd ts i=gd ju i
 new:∀ i,ju.length<=i->i<ts.length->H0 (as.getD i .d).x=none/\H0 (as.getD i .d).th=none/\H0 (as.getD i .d).ab=none
theorem YK.refl(R:YT jg jh H S d lk ts av ho as kvs ls)(hw:WF gt ts)(hs:∀ i,i<ts.length->(gd ts i).h<=60):YK gt jg jh N H H S d lk ls ts as ts av ho as kvs:=
 ⟨R,hw,hs,fun c o _ _ _ _ e=>e,fun c e=>e,zAH _,fun i _=>⟨rfl,rfl⟩,fun i h1 h2=>absurd h2 (by lia)⟩
theorem YK.off(r:YK gt jg jh N H0 H S d lk ls ju jw ts av ho as kvs){c:Addr}{o:HO}(e:H0 c=some o)(h:∀ b:Nat,b<ju.length->c≠(jw.getD b .d).x/\c≠(jw.getD b .d).ab)(b:Nat)(hb:b<ts.length):c≠(as.getD b .d).x/\c≠(as.getD b .d).ab:=by
 rcases zAe b ju.length with z | z
 ·rw [(r.old b z).1];exact h b z
 ·obtain ⟨n1,_,n3⟩:=r.new b z hb;exact ⟨Zb e n1,Zb e n3⟩
theorem YK.push(r:YK gt jg jh N H0 H S d lk ls ju jw ts av ho as kvs){t:ZT}{a:Z5}(ok:WE gt ts ts.length t)(h60:t.h<=60)(nx:H a.x=none)(nth:H a.th=none)(nab:H a.ab=none)(fr:∀ c o,c≠S->c≠d->(∀ b:Nat,b<ts.length->c≠(as.getD b .d).x/\c≠(as.getD b .d).ab)->H c=some o->H' c=some o)(R':YT jg jh H' S d lk (ts++[t]) av' ho' (as++[a]) kvs' ls):YK gt jg jh N H0 H' S d lk ls ju jw (ts++[t]) av' ho' (as++[a]) kvs':=by
 have el:as.length=ts.length:=r.sh.len;have en:(ts++[t]).length=ts.length+1:=by simp
 have aL:∀ i,i<ts.length->(as++[a]).getD i .d=as.getD i .d:=fun i hi=>N4 (by lia)
 have aN:(as++[a]).getD ts.length .d=a:=by rw [<-el];exact ME
 have le:=r.le;refine ⟨R',WF.push r.wf ok,fun i hi=>?_,fun c o n1 n2 n3 n4 e=>fr c o n2 n3 (r.off e n4) (r.fr c o n1 n2 n3 n4 e),fun c e=>r.gr c ?_,by lia,fun i hi=>?_,fun i h1 h2=>?_⟩
 ·rcases zAe i ts.length with z | z
  ·rw [Pw z];exact r.hs i z
  ·have:i=ts.length:=by lia
   rw [this,MI];exact h60
 ·cases z:H c with
  | none=>rfl
  | some o=>
   exfalso
   by_cases c1:c=S
   ·obtain ⟨dS,hS⟩:=R'.sh.self;rw [c1,hS] at e;cases e
   by_cases c2:c=d
   ·rw [c2,R'.sh.kept] at e;cases e
   have:∀ b:Nat,b<ts.length->c≠(as.getD b .d).x/\c≠(as.getD b .d).ab:=fun b hb=>by
    have W:=R'.tw b (by lia)
    rw [aL b hb] at W;obtain ⟨dx,hx⟩:=W.tw.self;exact ⟨(Zb hx e).symm,(Zb W.tw.above e).symm⟩
   rw [fr c o c1 c2 this z] at e;cases e
 ·rw [aL i (by lia),Pw (by lia)];exact r.old i hi
 ·rcases zAe i ts.length with z | z
  ·rw [aL i z];exact r.new i h1 z
  ·have:i=ts.length:=by lia
   rw [this,aN];exact ⟨r.gr _ nx,r.gr _ nth,r.gr _ nab⟩
structure WR(H0:Hp)(lk:Addr)(ju:List ZT)(jw:List Z5)(c:Addr):Prop where
 at_:∃ o,H0 c=some (.lst o)
 lk:c≠lk
 own:∀ i:Nat,i<ju.length->(jw.getD i .d).ab≠c/\(jw.getD i .d).th≠c
theorem YK.own(r:YK gt jg jh N H0 H S d lk ls ju jw ts av ho as kvs){c:Addr}(ap:WR H0 lk ju jw c)(i:Nat)(hi:i<ts.length):(as.getD i .d).ab≠c/\(as.getD i .d).th≠c:=by
 rcases zAe i ju.length with z | z
 ·rw [(r.old i z).1];exact ap.own i z
 ·obtain ⟨_,n2,n3⟩:=r.new i z hi;obtain ⟨o,e⟩:=ap.at_;exact ⟨(Zb e n3).symm,(Zb e n2).symm⟩
theorem YK.but(r:YK gt jg jh N H0 H S d lk ls ju jw ts av ho as kvs){c:Addr}{o o':je}(ap:WR H0 lk ju jw c)(hN:N c)(hc:H c=some (.lst o))(s:ZC c H H')(hc':H' c=some (.lst o')):YK gt jg jh N H0 H' S d lk ls ju jw ts av ho as kvs:=
 ⟨r.sh.but s hc ap.lk (r.own ap),r.wf,r.hs,fun b u n1 n2 n3 n4 e=>s _ _ (r.fr b u n1 n2 n3 n4 e) fun z=>n1 (z ▸ hN),fun b e=>r.gr b (by
  cases z:H b with
  | none=>rfl
  | some u=>
   exfalso
   by_cases c1:b=c
   ·rw [c1,hc'] at e;cases e
   ·rw [s _ _ z c1] at e;cases e),r.le,r.old,r.new⟩
theorem YK.same(r:YK gt jg jh N H0 H S d lk ls ju jw ts av ho as kvs)(s:ZA H H'):YK gt jg jh N H0 H' S d lk ls ju jw ts av ho as kvs:=
 ⟨r.sh.same s,r.wf,r.hs,fun b u n1 n2 n3 n4 e=>s _ _ (r.fr b u n1 n2 n3 n4 e),fun b e=>r.gr b (s.free e),r.le,r.old,r.new⟩
theorem YK.trans(r:YK gt jg jh N H0 H S d lk ls ju jw ts av ho as kvs)(q:YK gt jg jh N2 H H' S d lk ls ts as ts' av' ho' as' kvs')(hN:∀ c,N2 c->H0 c=none\/N c):YK gt jg jh N H0 H' S d lk ls ju jw ts' av' ho' as' kvs':=by
 have l1:=r.le;have l2:=q.le;refine ⟨q.sh,q.wf,q.hs,fun c o n1 n2 n3 n4 e=>q.fr c o (fun z=>(hN c z).elim (fun y=>by rw [y] at e;cases e) n1) n2 n3 (r.off e n4) (r.fr c o n1 n2 n3 n4 e),fun c e=>r.gr c (q.gr c e),by lia,fun i hi=>?_,fun i h1 h2=>?_⟩
 ·obtain ⟨a1,a2⟩:=q.old i (by lia)
  rw [a1,a2];exact r.old i hi
 ·rcases zAe i ts.length with z | z
  ·rw [(q.old i z).1];exact r.new i h1 z
  ·obtain ⟨m1,m2,m3⟩:=q.new i z h2;exact ⟨r.gr _ m1,r.gr _ m2,r.gr _ m3⟩
theorem YK.tups(r:YK gt jg jh N H0 H S d lk ls ju jw ts av ho as kvs)(R0:YT jg jh H0 S d lk ju av' ho' jw kvs' ls)(hN:∀ c,N c->∃ o,H0 c=some (.lst o)):Z6 H0 H:=fun c xs e=>by
 obtain ⟨⟨dS,hS⟩,hd,hl⟩:=R0.sh;refine r.fr c _ (fun z=>?_) (ZV e hS) (ZV e hd) (fun b hb=>?_) e
 ·obtain ⟨o,eo⟩:=hN c z;rw [eo] at e;cases e
 ·obtain ⟨dx,hx⟩:=(R0.tw b hb).tw.self;exact ⟨ZV e hx,ZV e (R0.tw b hb).tw.above⟩
theorem PY(R0:YT jg jh H S d lk ts av ho as kvs ls){c:Addr}(n:H c=none){o:je}(e:H' c=some (.lst o)):WR H' lk ts as c:=
 ⟨⟨o,e⟩,(Zb R0.sh.looks n).symm,fun i hi=>by
  obtain ⟨us,e1,_⟩:=(R0.tw i hi).things;exact ⟨Zb (R0.tw i hi).tw.above n,Zb e1 n⟩⟩
end
end Tw
namespace L2
open PySem PySem.Spec PyProof.Rows
theorem Lw:∀{xs:je}{us:jd}(i:Nat),ZP xs us->(xs[i]? = none/\us[i]? = none)\/∃ x u,xs[i]? = some x/\us[i]? = some u/\ZR x u
 | _,_,i,.nil=>.inl ⟨by simp,by simp⟩
 | _,_,0,.cons r t=>.inr ⟨_,_,rfl,rfl,r⟩
 | _,_,i+1,.cons r t=>by
  rcases Lw i t with ⟨a,b⟩ | ⟨x,u,a,b,c⟩
  ·exact .inl ⟨by simpa using a,by simpa using b⟩
  ·exact .inr ⟨x,u,by simpa using a,by simpa using b,c⟩
theorem N6{xs:je}{us:jd}(r:ZP xs us):∀ idx:List Nat,ZP (idx.filterMap (xs[·]?)) (idx.filterMap (us[·]?))
 | []=>.nil
 | i :: idx=>by
  rw [zBR,zBR];rcases Lw i r with ⟨a,b⟩ | ⟨x,u,a,b,c⟩
  ·rw [a,b];exact N6 r idx
  ·rw [a,b];exact .cons c (N6 r idx)
section
variable{X:Cx}
end
theorem BH{α:Type}:∀(l r:List α),(zAi l.length).filterMap ((l++r)[·]?)=l:=by
 intro l
 induction l with
 | nil=>intro r;rfl
 | cons a l ih=>
  intro r;rw [zAW,zDQ,zBR,List.filterMap_map];show a :: List.filterMap (fun i=>(l++r)[i]?) (zAi l.length)=a :: l;rw [ih]
theorem FK(n:Nat):sliceRange ((n:Int) - 1) (-1) (-1)=(zAi n).reverse:=by
 unfold sliceRange;have e:(if (-1:Int) > 0 then if ((n:Int) - 1) < -1 then (-1 - ((n:Int) - 1) + -1 - 1) / -1 else 0 else if ((n:Int) - 1) > -1 then (((n:Int) - 1) - -1 - -1 - 1) / - -1 else 0).toNat=n:=by
  rw [if_neg (by decide)]
  by_cases h:0<n
  ·rw [if_pos (by lia),show (- -1:Int)=1 from rfl,Int.ediv_one];lia
  ·rw [if_neg (by lia)];lia
 simp only [e];refine zC2 (by simp) fun i h1 h2=>?_
 simp at h1;simp
 lia
theorem Et{α:Type}(l:List α):(sliceRange ((l.length:Int) - 1) (-1) (-1)).filterMap (l[·]?)=l.reverse:=by
 rw [FK,List.filterMap_reverse];have:=BH l [];rw [zA0] at this;rw [this]
section
variable{X:Cx}
def Bz(K:zAA)(te t3:TE):TE:=fun σ H Q=>te σ H fun x H1=>t3 σ H1 fun y H2=>∃ a xs,x=.ref a/\y=.int (-1)/\ZK K H2 a xs/\∀ p,H2 p=none->Q (.ref p) (upd H2 p (.lst xs.reverse))
theorem ID{e e3:Expr}{te t3:TE}{p2 pos:Pos}(he:PE X e te)(h3:PE X e3 t3):PE X (.Subscript e (.Slice none none (some e3) p2) pos) (Bz X.K te t3):=by
 intro pins s σ H Q I h;refine Subscript_ (Za (he pins s σ H _ I h) fun v s1 ⟨x,H1,I1,r1,q1⟩=>?_);refine wpAny_Slice ?_;rw [evalPart_none];refine wpAny_pure (wpAny_pure ?_);rw [evalPart_some];refine Za (h3 pins s1 σ H1 _ I1 q1) fun u s3 ⟨y,H3,I3,r3,q3⟩=>?_;obtain ⟨a,xs,rfl,rfl,hx,q⟩:=q3;cases r1;obtain ⟨tk,rfl⟩:=r3;have I4:ZI X pins σ H3 { s3 with heap:=s3.heap.push { cls:=.type "slice",data:=.fields #[.none,.none,.int (-1) tk] } }:=I3.kept (t':=s3.toks) fun b ob q=>zAG _ q;obtain ⟨ji,r,ht,hz⟩:=I4.list hx;have hlen:=r.length;show wpAny (model X.prog X.w) X.A (subscriptTail e (.Slice none none (some e3) p2) (.ref a) (.ref s3.heap.objs.size)) (EP X pins σ Q) X.xe { s3 with heap:=s3.heap.push { cls:=.type "slice",data:=.fields #[.none,.none,.int (-1) tk] } };refine tail_any (ops:=[.ref a,.ref s3.heap.objs.size]) ht.isList.typeIs slot_list_getitem.lookup ?_ (by with_unfolding_all rfl)
 refine wpAny_getItem_list_slice ht.isList (Heap.IsSliceOf.new ..) .none .none (.int (-1) tk) (by simp) ?_ (by rw [zAL] <;> lia)
 have pk:slicePick ji.toArray none none (some (-1))=((sliceRange ((ji.length:Int) - 1) (-1) (-1)).filterMap (ji[·]?)).toArray:=by
  unfold slicePick;simp [sliceBounds]
 rw [pk];have vp:=N6 r (sliceRange ((ji.length:Int) - 1) (-1) (-1));have ex:(sliceRange ((ji.length:Int) - 1) (-1) (-1)).filterMap (xs[·]?)=xs.reverse:=by rw [<-hlen];exact Et xs
 rw [ex] at vp;refine ⟨.ref _,_,I4.laid (t':=s3.toks) (o:=.lst xs.reverse) (fun b ob q=>zAG _ q) (zAH _) ?_,rfl,q _ (I4.hok.fresh (zAH _))⟩;exact ⟨by rw [List.length_reverse];lia,_,0,vp,zAQ _ rfl⟩
end
end L2
namespace Tw
open PySem PySem.Spec L2 PyProof.Rows
abbrev O2:List Str:=["_law_well_here","_law_shelf","_law_rows","_law_few","_law_back","_law_level","_law_stem","_law_numbers","_law_parts","_law_part"]
theorem Xi:ZD O2 ["_law_well_here","_law_shelf","_law_rows"] (Zg Ut):=Zu
def JF:Option Stmt->List Stmt
 | some (.For _ _ b _ _)=>b
 | _=>[]
def Jh:List Stmt:=Jq ((WQ Ut)[4]?)
def Lo:List Stmt:=JF (Jh[2]?)
section
variable{P:Program}{w:World}{K:zAA}{mg:jb}{base:Heap}{f:Addr}{fd:FuncData}{cdv:Value}{A:Around}{outer:List Env}{s:Shared}{Hs:Hp}{E:XK}{jg jh:Addr}
theorem D6{gt:List KT}(L:Yt K mg jg jh)(hr:ZY 10 (A.deeper (envOfC "_law_plant" (Zg Ut) s.heap.objs.size f cdv)))(DS:ZJ P w K mg base ZU 10 jg "put_stem" ["self","numbers"] (Zz gt jg jh))(DL:ZJ P w K mg base ZU 10 jg "put_leaf" ["self","rows"] (YS jg jh)):
  ∃ t,Xg (X7 ZU P w K mg base O2 "_law_plant" (Zg Ut) f cdv A outer s Hs E).nox Lo t /\
  (∀(D0:YG)(H1 H:Hp)(S d lk nm q:Addr)(x0 x2 x3 x4 x5 x8:jf)(jn ts:List ZT)(jB as:List Z5)(av:Nat->List Nat)(ho:Nat->Nat)(kvs:List (ZZ×V))(ls nl us:je)(rs:List Yg),
   YK gt jg jh (· = nm) H1 H S d lk ls jn jB ts av ho as kvs->ts.length<=700->WR H1 lk jn jB nm->H nm=some (.lst nl)->nl.length<=200->H q=some (.lst us)->KeysAt H (YQ rs) us->QU rs ->
   (∀ H' as' kvs',YK gt jg jh (· = nm) H1 H' S d lk ls jn jB (ts++[Vh rs]) (UT ts.length av) (Ug ts.length ho) as' kvs'->H' nm=some (.lst (nl++[.int (ts.length:Nat)]))->D0.nx [x0,some (.ref S),x2,x3,x4,x5,some (.bl false),some (.ref nm),x8,some (.ref q)] H') ->
   t D0 [x0,some (.ref S),x2,x3,x4,x5,some (.bl false),some (.ref nm),x8,some (.ref q)] H) /\
  (∀(D0:YG)(H1 H:Hp)(S d lk nm q:Addr)(x0 x2 x3 x4 x5 x8:jf)(jn ts:List ZT)(jB as:List Z5)(av:Nat->List Nat)(ho:Nat->Nat)(kvs:List (ZZ×V))(ls nl:je)(bs:List Nat)(Lb:YL),
   YK gt jg jh (· = nm) H1 H S d lk ls jn jB ts av ho as kvs->ts.length<=700->WR H1 lk jn jB nm->H nm=some (.lst nl)->nl.length<=200->H q=some (.lst (iN bs))->(∀ b∈bs,b<ts.length/\ho b=1/\av b=[])->over (Y5 ts bs)=some Lb->(Xe ts bs).h<=60 ->
   (∀ H' as' kvs',YK gt jg jh (· = nm) H1 H' S d lk ls jn jB (ts++[Xe ts bs]) (Ua bs ts.length (UT ts.length av)) (UL bs (Ug ts.length ho)) as' kvs'->H' nm=some (.lst (nl++[.int (ts.length:Nat)]))->D0.nx [x0,some (.ref S),x2,x3,x4,x5,some (.bl true),some (.ref nm),x8,some (.ref q)] H') ->
   t D0 [x0,some (.ref S),x2,x3,x4,x5,some (.bl true),some (.ref nm),x8,some (.ref q)] H):=by
 have nd:=Xi.nd;refine ⟨_,ZW (Z1 (Xo (pv 6))
  (ZW (WP (UX zAr zAt zAs UH (pv 7) (ZG (Xf (E:=E0) (pv 1) L.cS DS hr XE (ZG (pv 9) ZH)) ZH))))
  (ZW (WP (UX zAr zAt zAs UH (pv 7) (ZG (Xf (E:=E0) (pv 1) L.cS DL hr XE (ZG (pv 9) ZH)) ZH))))),
  fun D0 H1 H S d lk nm q x0 x2 x3 x4 x5 x8 jn ts jB as av ho kvs ls nl us rs r t7 ap hnm l2 hq hk G fin=>?_,fun D0 H1 H S d lk nm q x0 x2 x3 x4 x5 x8 jn ts jB as av ho kvs ls nl bs Lb r t7 ap hnm l2 hq hb hLb h60 fin=>?_⟩
 ·obtain ⟨dS,hS⟩:=r.sh.sh.self;refine ⟨_,rfl,_,rfl,Zr ⟨_,rfl,.inl ⟨rfl,_,ZK.of hnm⟩,_,rfl,S,dS,_,rfl,hS,rfl,_,rfl,S,d,lk,q,ts,av,ho,as,kvs,ls,us,rs,rfl,r.sh,by lia,hq,hk,G,fun H' a nx nth nab fr R'=>?_⟩⟩
  have r':=r.push (Bt G) (zAd _) nx nth nab (fun c o n1 n2 _ e=>fr c o n1 n2 e) R';have nmS:nm≠S:=ZV hnm hS;have hnm':=fr _ _ nmS (ZV hnm r.sh.sh.kept) hnm;refine ⟨nm,nl,_,rfl,rfl,hnm',Yp (by lia),?_⟩
  exact fin _ _ _ (r'.but ap rfl hnm' (ZC.upd (ZC.refl nm H')) ZN) ZN
 ·obtain ⟨dS,hS⟩:=r.sh.sh.self;refine ⟨_,rfl,_,rfl,Z9 ⟨_,rfl,.inl ⟨rfl,_,ZK.of hnm⟩,_,rfl,S,dS,_,rfl,hS,rfl,_,rfl,S,d,lk,q,ts,av,ho,as,kvs,ls,bs,Lb,rfl,r.sh,r.wf,by lia,fun b h=>⟨(hb b h).1,by rw [(hb b h).2.1];exact zAH _,by rw [(hb b h).2.2];exact zAd _⟩,hq,hLb,fun H' a nx nth nab fr R'=>?_⟩⟩
  have r':=r.push (Bh r.wf (fun b h=>(hb b h).1) hLb) h60 nx nth nab fr R';have nmS:nm≠S:=ZV hnm hS;have ow:=r.own ap;have hnm':=fr _ _ nmS (ZV hnm r.sh.sh.kept) (fun b hb=>by
   obtain ⟨dx,hx⟩:=(r.sh.tw b hb).tw.self;exact ⟨ZV hnm hx,(ow b hb).1.symm⟩) hnm
  refine ⟨nm,nl,_,rfl,rfl,hnm',Yp (by lia),?_⟩
  exact fin _ _ _ (r'.but ap rfl hnm' (ZC.upd (ZC.refl nm H')) ZN) ZN
end
structure OQ(ts:List ZT)(av:Nat->List Nat)(ho:Nat->Nat)(ns:List Nat)(h:Nat)(rs:List Yg):Prop where
 nd:ns.Nodup
 at_:∀ b∈ns,b<ts.length/\(gd ts b).h=h/\ho b=1/\av b=[]
 rows:Y2 ts ns=rs
def Ob(gt:List KT)(jg jh:Addr)(H1:Hp)(S d lk:Addr)(ls:je)(jn:List ZT)(jB:List Z5)(nm:Addr)(Ts:List ZT)(qs:List (List Nat))(i:Nat)(H:Hp):Prop:=
 ∃(av:Nat->List Nat)(ho:Nat->Nat)(as:List Z5)(kvs:List (ZZ×V)),YK gt jg jh (· = nm) H1 H S d lk ls jn jB (jn++Ts.take i) av ho as kvs/\H nm=some (.lst (iN (zBP jn.length i)))/\(∀ b,jn.length<=b->b<jn.length+i->ho b=1/\av b=[])/\∀ b∈(qs.drop i).flatten,ho b=1/\av b=[]
theorem Jr(n i:Nat):iN (zBP n i)++[V.int ((n+i:Nat):Int)]=iN (zBP n (i+1)):=by
 rw [List.range'_1_concat];simp [iN]
theorem Jm{α:Type}{l:List α}{i:Nat}{x:α}(h:l[i]? = some x):l.take (i+1)=l.take i++[x]:=by rw [zAo,h];rfl
theorem Dk{α:Type}{l:List α}{i:Nat}{x:α}(h:l[i]? = some x):l.drop i=x :: l.drop (i+1):=by
 obtain ⟨hi,e⟩:=zAK.mp h;rw [<-e,<-zCH hi]
theorem De{ts L:List ZT}{bs:List Nat}(hb:∀ b∈bs,b<ts.length)(h0:0<bs.length):Xe (ts++L) bs=Xe ts bs/\Y5 (ts++L) bs=Y5 ts bs:=by
 have e1:bs.getD 0 0∈bs:=by rw [zAC,zAE h0];exact zBE _
 refine ⟨?_,?_⟩
 ·unfold Xe Y2;rw [No (hb _ e1)]
  congr 1
  rw [zB4,zB4]
  congr 1
  exact zCe fun b h=>by rw [No (hb b h)]
 ·unfold Y5;exact zCe fun b h=>by rw [No (hb b h)]
theorem Je{α:Type}{l m:List α}{i:Nat}(h:i<=m.length):(l++m.take i).length=l.length+i:=by simp;lia
section
variable{P:Program}{w:World}{K:zAA}{mg:jb}{base:Heap}{f:Addr}{fd:FuncData}{cdv:Value}{A:Around}{outer:List Env}{s:Shared}{Hs:Hp}{E:XK}{jg jh:Addr}
theorem AB{gt:List KT}(L:Yt K mg jg jh)(hr:ZY 10 (A.deeper (envOfC "_law_plant" (Zg Ut) s.heap.objs.size f cdv)))(DS:ZJ P w K mg base ZU 10 jg "put_stem" ["self","numbers"] (Zz gt jg jh))(DL:ZJ P w K mg base ZU 10 jg "put_leaf" ["self","rows"] (YS jg jh)):
  ∃ t,Xg (X7 ZU P w K mg base O2 "_law_plant" (Zg Ut) f cdv A outer s Hs E).nox Lo t /\
  ∀(Ha H1:Hp)(S d lk nm:Addr)(jn:List ZT)(jB:List Z5)(av:Nat->List Nat)(ho:Nat->Nat)(kvs:List (ZZ×V))(ls us pl:je)(jl:List (je))(rs:List Yg)(hN:Nat)(stem back:Bool)(N:Addr->Prop),
   YT jg jh Ha S d lk jn av ho jB kvs ls->YT jg jh H1 S d lk jn av ho jB kvs ls->WR H1 lk jn jB nm->Ha nm≠none->WF gt jn->(∀ i,i<jn.length->(gd jn i).h<=60)->(∀ b,¬ N b->Ha b=none)->jn.length<=600->us.length<=60->hN<=60 ->
   Paired (YY N H1) jl pl->jl.flatten=us->(∀ ps∈jl,PN stem ps.length)->(∀ r∈rs,r.fit)->YU (rs.map (·.1))->H1 nm=some (.lst []) ->
   ((stem=false/\KeysAt H1 (YQ rs) us/\hN=0)\/(stem=true/\∃ ns h,us=iN ns/\OQ jn av ho ns h rs/\hN=h+1)) ->
   ∃(Ts:List ZT)(qs:List (List Nat)),Ts.length=pl.length/\(∀ t∈Ts,t.h=hN)/\((YH back Ts).map (·.rows)).flatten=rs/\Ob gt jg jh H1 S d lk ls jn jB nm Ts qs 0 H1 /\
    ∀ i u,(YH back pl)[i]? = some u->∀(D0:YG)(H:Hp)(x0 x2 x3 x4 x5 x8:jf),Ob gt jg jh H1 S d lk ls jn jB nm Ts qs i H->(∀ H',Ob gt jg jh H1 S d lk ls jn jB nm Ts qs (i+1) H'->D0.nx [x0,some (.ref S),x2,x3,x4,x5,some (.bl stem),some (.ref nm),x8,some u] H') ->
     t D0 [x0,some (.ref S),x2,x3,x4,x5,some (.bl stem),some (.ref nm),x8,some u] H:=by
 obtain ⟨t,ht,hleaf,hstem⟩:=D6 (P:=P) (w:=w) (K:=K) (mg:=mg) (base:=base) (f:=f) (cdv:=cdv) (A:=A) (outer:=outer) (s:=s) (Hs:=Hs) (E:=E) L hr DS DL;refine ⟨t,ht,fun Ha H1 S d lk nm jn jB av ho kvs ls us pl jl rs hN stem back N Ra R1 ap nma hw hs hNf t6 l60 h60 prt flat size frs ris hnm lev=>?_⟩;have stay:∀{q:Addr}{o:HO}{H:Hp}{ts:List ZT}{av:Nat->List Nat}{ho:Nat->Nat}{as:List Z5}{kvs:List (ZZ×V)},¬ N q->H1 q=some o->YK gt jg jh (· = nm) H1 H S d lk ls jn jB ts av ho as kvs->H q=some o:=fun{q o H ts av ho as kvs} nq e r=>by
  have nq:=hNf q nq;obtain ⟨⟨dS,hS⟩,hd,_⟩:=Ra.sh;refine r.fr q o (fun z=>nma (z ▸ nq)) (Zb hS nq).symm (Zb hd nq).symm (fun b hb=>?_) e;obtain ⟨dx,hx⟩:=(Ra.tw b hb).tw.self;exact ⟨(Zb hx nq).symm,(Zb (Ra.tw b hb).tw.above nq).symm⟩
 have tup:∀{H:Hp}{ts:List ZT}{av:Nat->List Nat}{ho:Nat->Nat}{as:List Z5}{kvs:List (ZZ×V)},YK gt jg jh (· = nm) H1 H S d lk ls jn jB ts av ho as kvs->Z6 H1 H:=fun r=>r.tups R1 fun c z=>⟨[],by rw [z];exact hnm⟩
 have lpl:pl.length=jl.length:=prt.length.symm;rcases lev with ⟨rfl,hk,rfl⟩ | ⟨rfl,ns,h,rfl,lv,rfl⟩
 ·rw [<-flat] at hk;obtain ⟨jq,e1,e2⟩:=HH jl rs hk;have lq:jq.length=jl.length:=e2.length;have few:=Om (n:=1) jl fun ps h=>(size ps h).1;rw [flat] at few;refine ⟨YH back (jq.map Vh),[],by rw [Q7,zAD];lia,fun x hx=>?_,?_,?_,?_⟩
  ·obtain ⟨q,_,rfl⟩:=zAb.mp (Z3.mp hx);rfl
  ·rw [KC,zB3,<-e1]
   congr 1
   exact List.map_id' jq
  ·refine ⟨av,ho,jB,kvs,?_,hnm,fun b h1 h2=>absurd h2 (by lia),fun b hb=>by simp at hb⟩
   rw [zDH,zA0];exact YK.refl R1 hw hs
  ·intro i u hu D0 H x0 x2 x3 x4 x5 x8 hJ fin;obtain ⟨av',ho',as',kvs',r,hn,hh,_⟩:=hJ;obtain ⟨ps,ep,q,rfl,hq,nq⟩:=Paired.ixR (NY back prt) hu;obtain ⟨rq,er,kq⟩:=Paired.ixR (NY back e2) ep;have mq:rq∈jq:=Z3.mp (zAJ er);have mp:ps∈jl:=Z3.mp (zAJ ep);have lk':rq.length=ps.length:=by
    have:=kq.length;unfold YQ at this
    rwa [zAD] at this
   have sub:rq.Sublist rs:=e1 ▸ GB mq;have G:QU rq:=ZJQ frs ris sub (by have:=(size ps mp).1;rw [lk'];exact this) (by have:=(size ps mp).2;rw [lk'];exact this)
   have eT:(YH back (jq.map Vh))[i]? = some (Vh rq):=by rw [<-Py,zAM,er];rfl
   have hi:i<(YH back (jq.map Vh)).length:=(zAK.mp eT).1;have ll:(YH back (jq.map Vh)).length=jl.length:=by rw [Q7,zAD];lia
   have el:(jn++(YH back (jq.map Vh)).take i).length=jn.length+i:=Je (by lia)
   refine hleaf D0 H1 H S d lk nm q x0 x2 x3 x4 x5 x8 jn _ jB as' av' ho' kvs' ls _ ps rq r (by rw [el];lia) ap hn (by simp [iN];lia) (stay nq hq r) (kq.mono (tup r) _ _) G fun H' as'' kvs'' r' hn'=>?_
   rw [zCJ,<-Jm eT] at r';rw [el] at r' hn';rw [Jr] at hn';refine fin H' ⟨_,_,_,_,r',hn',fun b b1 b2=>?_,fun b hb=>by simp at hb⟩
   unfold Ug UT;by_cases z:b=jn.length+i
   ·rw [if_pos z,if_pos z];exact ⟨rfl,rfl⟩
   ·rw [if_neg z,if_neg z];exact hh b b1 (by lia)
 ·obtain ⟨jq,e1,e2⟩:=Kw (fun b:Nat=>V.int (b:Nat)) jl ns flat;subst e1;have sz:∀ q∈jq,2<=q.length/\q.length<=4:=fun q hq=>by
   have:=size (iN q) (zAb.mpr ⟨q,hq,rfl⟩);unfold PN iN at this;rw [zAD] at this;exact this
  have few:=Om (n:=2) jq fun q h=>(sz q h).1;have lns:(iN ns).length=ns.length:=zAD _;rw [e2] at few;have inn:∀ q∈jq,∀ b∈q,b∈ns:=fun q hq b hb=>by rw [<-e2];exact zCz.mpr ⟨q,hq,hb⟩
  have ndq:(YH back jq).flatten.Nodup:=Gd (by rw [e2];exact lv.nd)
  refine ⟨YH back (jq.map (Xe jn)),YH back jq,by rw [Q7,zAD,lpl,zAD],fun x hx=>?_,?_,?_,?_⟩
  ·obtain ⟨q,hq,rfl⟩:=zAb.mp (Z3.mp hx);have h2:=(sz q hq).1;have m0:q.getD 0 0∈q:=by rw [zAC,zAE (show 0<q.length by lia)];exact zBE _
   show (gd jn (q.getD 0 0)).h+1=h+1;rw [(lv.at_ _ (inn q hq _ m0)).2.1]
  ·rw [KC,zB3,<-lv.rows,<-e2,MM,zB4];rfl
  ·refine ⟨av,ho,jB,kvs,?_,hnm,fun b h1 h2=>absurd h2 (by lia),fun b hb=>?_⟩
   ·rw [zDH,zA0];exact YK.refl R1 hw hs
   ·rw [List.drop_zero] at hb;obtain ⟨q,hq,hb⟩:=zCz.mp hb;exact (lv.at_ b (inn q (Z3.mp hq) b hb)).2.2
  ·intro i u hu D0 H x0 x2 x3 x4 x5 x8 hJ fin;obtain ⟨av',ho',as',kvs',r,hn,hh,hdr⟩:=hJ;obtain ⟨ps,ep,q,rfl,hq,nq⟩:=Paired.ixR (NY back prt) hu;rw [<-Py,zAM] at ep;obtain ⟨bs,eb,rfl⟩:=zAa.mp ep;have mq:bs∈jq:=Z3.mp (zAJ eb);have hb:∀ b∈bs,b<jn.length:=fun b h=>(lv.at_ b (inn bs mq b h)).1;obtain ⟨b2,b4⟩:=sz bs mq;obtain ⟨sT,lT⟩:=De (L:=(YH back (jq.map (Xe jn))).take i) hb (by lia)
   have ris':YU ((Y2 jn bs).map (·.1)):=by
    refine YU.sub ris ?_;rw [<-lv.rows,<-e2,MM];refine List.Sublist.map _ ?_;rw [zB4];exact zC9 (zAb.mpr ⟨bs,mq,rfl⟩)
   obtain ⟨Lb,hLb⟩:=Fb hw (h:=h) (fun b hb'=>⟨hb b hb',(lv.at_ b (inn bs mq b hb')).2.1⟩) b2 b4 ris';have eT:(YH back (jq.map (Xe jn)))[i]? = some (Xe jn bs):=by rw [<-Py,zAM,eb];rfl
   have hi:i<(YH back (jq.map (Xe jn))).length:=(zAK.mp eT).1;have ll:(YH back (jq.map (Xe jn))).length=jq.length:=by rw [Q7,zAD]
   have el:(jn++(YH back (jq.map (Xe jn))).take i).length=jn.length+i:=Je (by lia)
   have ed:((YH back jq).drop i).flatten=bs++((YH back jq).drop (i+1)).flatten:=by rw [Dk eb,zBZ]
   have nd2:(bs++((YH back jq).drop (i+1)).flatten).Nodup:=by
    rw [<-ed];have e:(YH back jq).flatten=((YH back jq).take i).flatten++((YH back jq).drop i).flatten:=by rw [<-List.flatten_append,zB2]
    rw [e] at ndq;exact (zBk.mp ndq).2.1
   have m0:bs.getD 0 0∈bs:=by rw [zAC,zAE (show 0<bs.length by lia)];exact zBE _
   refine hstem D0 H1 H S d lk nm q x0 x2 x3 x4 x5 x8 jn _ jB as' av' ho' kvs' ls _ bs Lb r (by rw [el];lia) ap hn (by simp [iN];lia) (stay nq hq r) (fun b hb'=>⟨by rw [el];have:=hb b hb';lia,hdr b (by rw [ed];exact zA9 _ hb')⟩) (by rw [lT];exact hLb) (by rw [sT];show (gd jn (bs.getD 0 0)).h+1<=60;rw [(lv.at_ _ (inn bs mq _ m0)).2.1];exact h60) fun H' as'' kvs'' r' hn'=>?_
   rw [sT,zCJ,<-Jm eT] at r';rw [el] at r' hn';rw [Jr] at hn';refine fin H' ⟨_,_,_,_,r',hn',fun b c1 c2=>?_,fun b hb'=>?_⟩
   ·have nb:b∉bs:=fun z=>by have:=hb b z;lia
    unfold UL Ua Ug UT;rw [if_neg nb,if_neg nb];by_cases z:b=jn.length+i
    ·rw [if_pos z,if_pos z];exact ⟨rfl,rfl⟩
    ·rw [if_neg z,if_neg z];exact hh b c1 (by lia)
   ·have nb:b∉bs:=fun z=>(zBk.mp nd2).2.2 b z b hb' rfl;have bl:b<jn.length:=by
     obtain ⟨q',hq',hb''⟩:=zCz.mp hb';exact (lv.at_ b (inn q' (Z3.mp (List.mem_of_mem_drop hq')) b hb'')).1
    unfold UL Ua Ug UT;rw [if_neg nb,if_neg nb,if_neg (by lia),if_neg (by lia)]
    exact hdr b (by rw [ed];exact zAk _ hb')
end
theorem Ii(x y:V)(back:Bool):X8 [x,y] (if back=true then 1 else 0)=some (if back=true then y else x):=by
 cases back
 ·exact Xb (j:=0) rfl
 ·exact Xb (j:=1) rfl
section
variable{P:Program}{w:World}{K:zAA}{mg:jb}{base:Heap}{f:Addr}{fd:FuncData}{cdv:Value}{A:Around}{outer:List Env}{s:Shared}{Hs:Hp}{E:XK}{jg jh:Addr}
theorem ZP1{gt:List KT}(T:YD mg)(L:Yt K mg jg jh)(hr:ZY 10 (A.deeper (envOfC "_law_plant" (Zg Ut) s.heap.objs.size f cdv)))(DC:ZB P w K mg base 2 "_law_cut" ["_law_well_here","_law_things","_law_few","_law_stem"] Vp)(DS:ZJ P w K mg base ZU 10 jg "put_stem" ["self","numbers"] (Zz gt jg jh))(DL:ZJ P w K mg base ZU 10 jg "put_leaf" ["self","rows"] (YS jg jh)):
  ∃ t,Xg (X7 ZU P w K mg base O2 "_law_plant" (Zg Ut) f cdv A outer s Hs E).nox Jh t /\
  ∀(D0:YG)(H:Hp)(p S d lk lv:Addr)(fw:Int)(back stem:Bool)(x2 x7 x8 x9:jf)(ts:List ZT)(as:List Z5)(av:Nat->List Nat)(ho:Nat->Nat)(kvs:List (ZZ×V))(ls us:je)(rs:List Yg)(hN:Nat),
   ZF H p->YT jg jh H S d lk ts av ho as kvs ls->WR H lk ts as p->WF gt ts->(∀ i,i<ts.length->(gd ts i).h<=60)->ts.length<=600->0<=fw->fw<4->H lv=some (.lst us)->lv≠p->us.length<=60->hN<=60->(∀ r∈rs,r.fit)->YU (rs.map (·.1)) ->
   ((stem=false/\KeysAt H (YQ rs) us/\hN=0)\/(stem=true/\us.length≠1/\∃ ns h,us=iN ns/\OQ ts av ho ns h rs/\hN=h+1)) ->
   (∀(H':Hp)(ts':List ZT)(av':Nat->List Nat)(ho':Nat->Nat)(as':List Z5)(kvs':List (ZZ×V))(lv':Addr)(ns':List Nat)(y7 y8 y9:jf),YK gt jg jh (· = p) H H' S d lk ls ts as ts' av' ho' as' kvs'->ZF H' p->H' lv'=some (.lst (iN ns'))->lv'≠p->OQ ts' av' ho' ns' hN rs->ts'.length=ts.length+ns'.length->(if stem=true then 2 else 1) * ns'.length<=us.length ->
    D0.nx [some (.ref p),some (.ref S),x2,some (.int fw),some (.bl back),some (.ref lv'),some (.bl true),y7,y8,y9] H') ->
   t D0 [some (.ref p),some (.ref S),x2,some (.int fw),some (.bl back),some (.ref lv),some (.bl stem),x7,x8,x9] H:=by
 have nd:=Xi.nd;obtain ⟨t,ht,hJ⟩:=AB (P:=P) (w:=w) (K:=K) (mg:=mg) (base:=base) (f:=f) (cdv:=cdv) (A:=A) (outer:=outer) (s:=s) (Hs:=Hs) (E:=E) L hr DS DL;have hr2:=hr.mono (show 2<=10 by decide)
 refine ⟨_,ZQ (Zj 7 nd (YM ZH))
  (ZQ (Zj 8 nd (Zh DC hr2 (VH (pv 0) (pv 5) (pv 3) (pv 6))))
  (ZQ (V7 PassesOwn.never rfl (VL (Zp (r:=YR K) Ya (YM (ZG (pv 8) (ZG (ID (pv 8) (QD U9 ZL)) ZH))) (WA Pu rfl T.int QZ (ZG (pv 4) ZH)) (fun _ _=>rfl))) (Xd 9 nd) ht)
  (ZQ (Zj 5 nd (Zp (r:=YR K) Ya (YM (ZG (pv 7) (ZG (ID (pv 7) (QD U9 ZL)) ZH))) (WA Pu rfl T.int QZ (ZG (pv 4) ZH)) (fun _ _=>rfl)))
  (ZW (Zj 6 nd Xq))))),?_⟩
 intro D0 H p S d lk lv fw back stem x2 x7 x8 x9 ts as av ho kvs ls us rs hN W R app hw hs t6 f0 f4 hlv lvp l60 h60 frs ris lev fin;refine ⟨nn (zAB rfl),fun nm nnm=>?_⟩;have g1:=ZS nnm (.lst []);have hnm:=ZN (H:=H) (a:=nm) (o:=.lst []);generalize upd H nm (.lst [])=Ha at g1 hnm ⊢;have Wa:=W.same g1;refine ⟨_,rfl,_,rfl,_,rfl,_,rfl,p,lv,us,fw,stem,rfl,Wa,g1 _ _ hlv,lvp,f0,f4,by lia,fun z=>?_,fun D pl jl Hb nD hD prt flat size l104 Wb sab=>?_⟩
 ·rcases lev with ⟨z',_⟩ | ⟨_,z',_⟩
  ·rw [z] at z';cases z'
  ·exact z'
 have Dnm:D≠nm:=fun z=>by rw [z,hnm] at nD;cases nD
 refine ⟨_,rfl,_,rfl,1,rfl,D,pl,rfl,rfl,ZK.of hD,fun q1 n1=>⟨nn (zAB rfl),fun q2 n2=>?_⟩⟩;have g2:=ZS n1 (.lst pl.reverse);have g3:=ZS n2 (.lst [.ref D,.ref q1]);have eq1:=g3 _ _ (ZN (H:=Hb) (a:=q1) (o:=.lst pl.reverse));have eq2:=ZN (H:=upd Hb q1 (.lst pl.reverse)) (a:=q2) (o:=.lst [.ref D,.ref q1]);have g23:=g2.trans g3;generalize upd (upd Hb q1 (.lst pl.reverse)) q2 (.lst [.ref D,.ref q1])=H1 at g23 eq1 eq2 ⊢;refine ⟨_,rfl,.inr ⟨back,rfl,.inl ⟨q2,_,_,_,rfl,rfl,ZK.of eq2,Ii _ _ _,?_⟩⟩⟩;have hI:∃ I,(if back=true then V.ref q1 else V.ref D)=.ref I/\H1 I=some (.lst (YH back pl))/\Ha I=none:=by
  cases back
  ·exact ⟨D,rfl,g23 _ _ hD,nD⟩
  ·exact ⟨q1,rfl,eq1,Pj sab Wb n1⟩
 obtain ⟨I,eI,hI1,nI⟩:=hI;rw [eI];have Ra:=R.same g1;obtain ⟨pw,hp⟩:=W.some;have hpa:=g1 _ _ hp;obtain ⟨pwb,hpb⟩:=Wb.some;have rA:YK gt jg jh (· = p) H Ha S d lk ls ts as ts av ho as kvs:=(YK.refl R hw hs).same g1;have rB:=rA.but app rfl hpa sab hpb;have rC:=rB.same g23;have nmp:nm≠p:=WY W nnm;have hnm1:=g23 _ _ (sab _ _ hnm nmp);have apn:WR H1 lk ts as nm:=PY R nnm hnm1;have tHH1:Z6 H H1:=rC.tups R fun c z=>by rw [z];exact app.at_
 obtain ⟨Ts,qs,lT,hT,rT,J0,stp⟩:=hJ Ha H1 S d lk nm ts as av ho kvs ls us pl jl rs hN stem back (NB Ha p D) Ra rC.sh apn (by rw [hnm];exact fun z=>nomatch z) hw hs (fun b nb=>by
   cases z:Ha b with
   | none=>rfl
   | some o=>exact absurd (.inr (.inr (by rw [z];exact fun z=>nomatch z))) nb) t6 l60 h60 (Paired.mapP prt fun _ _ z=>YY.go z fun b o e n=>g23 b o e) flat size frs ris hnm1 (lev.imp (fun ⟨a,b,c⟩=>⟨a,b.mono tHH1 _ _,c⟩) fun ⟨a,_,c⟩=>⟨a,c⟩)
 have stayI:∀{H:Hp}{ts':List ZT}{av:Nat->List Nat}{ho:Nat->Nat}{as':List Z5}{kvs:List (ZZ×V)},YK gt jg jh (· = nm) H1 H S d lk ls ts as ts' av ho as' kvs->H I=some (.lst (YH back pl)):=fun r=>by
  obtain ⟨⟨dS,hS⟩,hd,_⟩:=Ra.sh;refine r.fr I _ (Zb hnm nI).symm (Zb hS nI).symm (Zb hd nI).symm (fun b hb=>?_) hI1;obtain ⟨dx,hx⟩:=(Ra.tw b hb).tw.self;exact ⟨(Zb hx nI).symm,(Zb (Ra.tw b hb).tw.above nI).symm⟩
 have lord:(YH back pl).length=Ts.length:=by rw [Q7,lT]
 refine ⟨I,rfl,⟨_,ZK.of hI1⟩,Pf (K:=K) (a:=I) (xs:=YH back pl) (fun i σ H'=>∃ x9':jf,σ=[some (.ref p),some (.ref S),x2,some (.int fw),some (.bl back),some (.ref lv),some (.bl stem),some (.ref nm),some (.ref D),x9']/\Ob gt jg jh H1 S d lk ls ts as nm Ts qs i H')
  ⟨_,rfl,J0⟩ (fun i σ H' _ hP=>by obtain ⟨_,_,_,_,_,_,r,_⟩:=hP;exact ZK.of (stayI r)) ?_ ?_⟩
 ·rintro i u σ H2 hu ⟨x9',rfl,j⟩;exact stp i u hu _ H2 _ _ _ _ _ _ j fun H' j'=>⟨_,rfl,j'⟩
 ·rintro σ H2 ⟨x9',rfl,j⟩;rw [lord] at j;obtain ⟨av',ho',as',kvs',r,hn,hh,_⟩:=j;rw [zAU (zAH _)] at r;have few:(if stem=true then 2 else 1) * Ts.length<=us.length:=by
   have:=Om (n:=if stem=true then 2 else 1) jl fun ps h=>(size ps h).1
   rw [flat] at this;have e:Ts.length=jl.length:=by rw [lT];exact prt.length.symm
   rw [e];exact this
  have lT60:Ts.length<=60:=by
   split at few <;> lia
  refine ⟨_,rfl,_,rfl,1,rfl,nm,_,rfl,rfl,ZK.of hn,fun q3 n3=>⟨nn (zAB rfl),fun q4 n4=>?_⟩⟩;have g4:=ZS n3 (.lst (iN (zBP ts.length Ts.length)).reverse);have g5:=ZS n4 (.lst [.ref nm,.ref q3]);have eq3:=g5 _ _ (ZN (H:=H2) (a:=q3) (o:=.lst (iN (zBP ts.length Ts.length)).reverse));have eq4:=ZN (H:=upd H2 q3 (.lst (iN (zBP ts.length Ts.length)).reverse)) (a:=q4) (o:=.lst [.ref nm,.ref q3]);have g45:=g4.trans g5;generalize upd (upd H2 q3 (.lst (iN (zBP ts.length Ts.length)).reverse)) q4 (.lst [.ref nm,.ref q3])=H3 at g45 eq3 eq4 ⊢;refine ⟨_,rfl,.inr ⟨back,rfl,.inl ⟨q4,_,_,_,rfl,rfl,ZK.of eq4,Ii _ _ _,?_⟩⟩⟩;obtain ⟨⟨dS,hS⟩,hd,_⟩:=R.sh;obtain ⟨pw1,hp1⟩:=(Wb.same g23).some;have W2:ZF H2 p:=MH (Wb.same g23) fun o e=>r.fr p o (Ne.symm nmp) (ZV hp hS) (ZV hp hd) (fun b hb=>by
   obtain ⟨dx,hx⟩:=(R.tw b hb).tw.self;exact ⟨ZV hp hx,(app.own b hb).1.symm⟩) e
  have hL:∃ l',(if back=true then V.ref q3 else V.ref nm)=.ref l'/\H3 l'=some (.lst (iN (YH back (zBP ts.length Ts.length))))/\l'≠p:=by
   cases back
   ·exact ⟨nm,rfl,g45 _ _ hn,nmp⟩
   ·refine ⟨q3,rfl,?_,WY W2 n3⟩;rw [eq3];unfold iN YH;rw [if_pos rfl,List.map_reverse]
  obtain ⟨l',el,hl',l'p⟩:=hL;rw [el];have rF:YK gt jg jh (· = p) H H3 S d lk ls ts as (ts++Ts) av' ho' as' kvs':=(rC.trans r fun c z=>.inl (by rw [z];exact nnm)).same g45
  have ln:(YH back (zBP ts.length Ts.length)).length=Ts.length:=by rw [Q7,List.length_range']
  refine fin H3 (ts++Ts) av' ho' as' kvs' l' (YH back (zBP ts.length Ts.length)) _ _ _ rF (W2.same g45) hl' l'p ⟨DU (List.nodup_range'),fun b hb=>?_,?_⟩ (by rw [ln,zAI]) (by rw [ln];exact few)
  ·have hb:=Z3.mp hb;have h1:=List.mem_range'_1.mp hb;refine ⟨by rw [zAI];lia,hT _ (Ad hb),hh b h1.1 h1.2⟩
  ·rw [As];exact rT
end
section
variable{P:Program}{w:World}{K:zAA}{mg:jb}{base:Heap}{f:Addr}{fd:FuncData}{jg jh:Addr}
inductive Wh(gt:List KT)(jg jh:Addr)(vs:je)(H:Hp)(Q:VK)(_:XK):Prop
 | mk (p S d lk l:Addr) (ts:List ZT) (av:Nat->List Nat) (ho:Nat->Nat) (as:List Z5) (kvs:List (ZZ×V)) (ls us:je) (rs:List Yg) (_:vs=[.ref p,.ref S,.ref l]) (_:ZF H p) (_:YT jg jh H S d lk ts av ho as kvs ls) (_:WR H lk ts as p) (_:WF gt ts) (_:∀ i,i<ts.length->(gd ts i).h<=60) (_:ts.length<=400) (_:H l=some (.lst us)) (_:l≠p) (_:KeysAt H (YQ rs) us) (_:∀ r∈rs,r.fit) (_:YU (rs.map (·.1))) (_:rs.length<=60) (_:∀(H':Hp)(ts':List ZT)(av':Nat->List Nat)(ho':Nat->Nat)(as':List Z5)(kvs':List (ZZ×V))(rn:Option Nat),YK gt jg jh (· = p) H H' S d lk ls ts as ts' av' ho' as' kvs'->ZF H' p->ts'.length<=ts.length+120->(∀ i,rn=some i->i<ts'.length)->Q (Z2 (Zv rn)) H')
def NL(gt:List KT)(jg jh:Addr)(H:Hp)(p S d lk:Addr)(ls:je)(ts:List ZT)(as:List Z5)(rs:List Yg)(stem:Bool)(m:Nat)(lv:Addr)(us:je)(H':Hp):Prop:=
 ∃(ts':List ZT)(av':Nat->List Nat)(ho':Nat->Nat)(as':List Z5)(kvs':List (ZZ×V)),YK gt jg jh (· = p) H H' S d lk ls ts as ts' av' ho' as' kvs'/\ZF H' p/\H' lv=some (.lst us)/\lv≠p/\us.length<=60 /\
  ((stem=false/\m=us.length+1/\KeysAt H' (YQ rs) us/\ts'.length=ts.length)\/(stem=true/\m=us.length/\∃ ns h,us=iN ns/\OQ ts' av' ho' ns h rs/\h+ns.length<=61/\ts'.length+ns.length<=ts.length+120))
theorem B8{gt:List KT}(F0:Zq K "_law_plant" "_law_plant" Ut f fd)(T:YD mg)(L:Yt K mg jg jh)(DP:ZB P w K mg base 1 "_law_pull" ["_law_well_here","_law_many"] Zl)(DC:ZB P w K mg base 2 "_law_cut" ["_law_well_here","_law_things","_law_few","_law_stem"] Vp)(DS:ZJ P w K mg base ZU 10 jg "put_stem" ["self","numbers"] (Zz gt jg jh))(DL:ZJ P w K mg base ZU 10 jg "put_leaf" ["self","rows"] (YS jg jh)):
  ZM P w K mg base ZU 11 f fd ["_law_well_here","_law_shelf","_law_rows"] (Wh gt jg jh):=by
 refine F0.ok Xi (fun vs H Q E h=>(by obtain ⟨_,_,_,_,_,_,_,_,_,_,_,_,_,rfl,_⟩:=h;rfl)) (fun cdv A outer s H vs Q E hr h=>?_)
 obtain ⟨p,S,d,lk,l,ts,av,ho,as,kvs,ls,us,rs,rfl,W,R,app,hw,hs,t4,hl,lp,hk,frs,ris,r60,k⟩:=h;have nd:=Xi.nd;have hr1:=hr.mono (show 1<=10 by decide)
 obtain ⟨t,ht,hW⟩:=ZP1 (P:=P) (w:=w) (K:=K) (mg:=mg) (base:=base) (f:=f) (cdv:=cdv) (A:=A) (outer:=outer) (s:=s) (Hs:=H) (E:=E) T L hr DC DS DL;refine ⟨_,ZQ (Zj 3 nd (Zh DP hr1 (ZG (pv 0) (ZG ZL ZH))))
  (ZQ (Zj 4 nd (VG X9 (Zh DP hr1 (ZG (pv 0) (ZG ZL ZH))) ZL (Zy _)))
  (ZQ (Zj 5 nd (WA UJ rfl T.list UK (ZG (pv 2) ZH)))
  (ZQ (Zj 6 nd Xq)
  (ZQ (Q2 PassesOwn.never (PW.pt (Qh (YN QW (Z0 Xh rfl T.len XT (ZG (pv 5) ZH)) ZL (Zy _)) (Pd (PW.pt (LN (YN (M8 hr.units0) (pv 5) (YM ZH) (Zy _)) (Mn (Uj (Xo (pv 6))))))))) ht)
  (ZW (Zk (Zp (r:=YR K) Ya (Zo Vi (pv 5) (YM (ZG Pc ZH))) ZL (fun _ _=>rfl)))))))),?_⟩
 obtain ⟨⟨dS,hS⟩,hd,_⟩:=R.sh;obtain ⟨pw,hp⟩:=W.some;refine ⟨_,rfl,p,4,rfl,W,Yz (by decide) (by decide),fun fw H1 f0 f4 W1 s1=>?_⟩
 refine ⟨_,rfl,p,2,rfl,W1,Yz (by decide) (by decide),fun bk H2 b0 b1 W2 s2=>?_⟩
 have s02:=s1.trans s2;obtain ⟨pw2,hp2⟩:=W2.some;have r0:YK gt jg jh (· = p) H H2 S d lk ls ts as ts av ho as kvs:=(YK.refl R hw hs).but app rfl hp s02 hp2;have t02:=s02.tupsW W;refine ⟨rfl,?_⟩;refine ⟨_,rfl,l,us,rfl,.inl (ZK.of (s02 _ _ hl lp)),fun lv nlv=>?_⟩;have g3:=ZS nlv (.lst us);have elv:=ZN (H:=H2) (a:=lv) (o:=.lst us);generalize upd H2 lv (.lst us)=H3 at g3 elv ⊢;generalize decide (V.int bk=V.int 1)=back;have lus:us.length=rs.length:=by
  have:=hk.length;unfold YQ at this;rw [zAD] at this;exact this.symm
 have I0:NL gt jg jh H p S d lk ls ts as rs false (us.length+1) lv us H3:=⟨ts,av,ho,as,kvs,r0.same g3,W2.same g3,elv,WY W2 nlv,by lia,.inl ⟨rfl,rfl,(hk.mono t02 _ _).mono (ZA.tups g3) _ _,rfl⟩⟩
 refine ⟨fun m σ H'=>∃(stem:Bool)(lv:Addr)(us:je)(x7 x8 x9:jf),σ=[some (.ref p),some (.ref S),some (.ref l),some (.int fw),some (.bl back),some (.ref lv),some (.bl stem),x7,x8,x9]/\NL gt jg jh H p S d lk ls ts as rs stem m lv us H',⟨_,false,lv,us,none,none,none,rfl,I0⟩,?_⟩;rintro m σ H4 ⟨stem,lv,us,x7,x8,x9,rfl,ts',av',ho',as',kvs',r,W4,hlv,lvp,l60,cs⟩;have same5:∀{H5:Hp},ZA H4 H5->YK gt jg jh (· = p) H H5 S d lk ls ts as ts' av' ho' as' kvs'/\ZF H5 p/\H5 lv=some (.lst us):=fun g=>⟨r.same g,W4.same g,g _ _ hlv⟩;have go:∀{D0:YG}{H5:Hp},ZA H4 H5->(stem=true->2<=us.length)->(∀ σ' H',(∃ m',m'<m/\∃(stem:Bool)(lv:Addr)(us:je)(x7 x8 x9:jf),σ'=[some (.ref p),some (.ref S),some (.ref l),some (.int fw),some (.bl back),some (.ref lv),some (.bl stem),x7,x8,x9]/\NL gt jg jh H p S d lk ls ts as rs stem m' lv us H')->D0.nx σ' H') ->
   t D0 [some (.ref p),some (.ref S),some (.ref l),some (.int fw),some (.bl back),some (.ref lv),some (.bl stem),x7,x8,x9] H5:=fun{D0 H5} g h2 fin=>by
  obtain ⟨r5,W5,hlv5⟩:=same5 g;obtain ⟨pw5,hp5⟩:=W5.some;have ap5:WR H5 lk ts' as' p:=⟨⟨pw5,hp5⟩,app.lk,r5.own app⟩;have t5:Z6 H4 H5:=ZA.tups g;rcases cs with ⟨rfl,rfl,hk4,lt⟩ | ⟨rfl,rfl,ns,h,rfl,lv',h61,l120⟩
  ·refine hW D0 H5 p S d lk lv fw back false _ x7 x8 x9 ts' as' av' ho' kvs' ls us rs 0 W5 r5.sh ap5 r5.wf r5.hs (by lia) f0 f4 hlv5 lvp l60 (zAd _) frs ris (.inl ⟨rfl,hk4.mono t5 _ _,rfl⟩) fun H' ts2 av2 ho2 as2 kvs2 lv2 ns2 y7 y8 y9 r6 W6 hlv6 lvp6 lvi e6 few=>?_
   have few:1 * ns2.length<=us.length:=few;have ln:(iN ns2).length=ns2.length:=zAD _;exact fin _ _ ⟨(iN ns2).length,by lia,true,lv2,iN ns2,y7,y8,y9,rfl,ts2,av2,ho2,as2,kvs2,r5.trans r6 (fun c z=>.inr z),W6,hlv6,lvp6,by lia,.inr ⟨rfl,rfl,ns2,0,rfl,lvi,by lia,by lia⟩⟩
  ·have ln:(iN ns).length=ns.length:=zAD _;have h2:=h2 rfl;refine hW D0 H5 p S d lk lv fw back true _ x7 x8 x9 ts' as' av' ho' kvs' ls (iN ns) rs (h+1) W5 r5.sh ap5 r5.wf r5.hs (by lia) f0 f4 hlv5 lvp l60 (by lia) frs ris (.inr ⟨rfl,by lia,ns,h,rfl,lv',rfl⟩) fun H' ts2 av2 ho2 as2 kvs2 lv2 ns2 y7 y8 y9 r6 W6 hlv6 lvp6 lvi e6 few=>?_
   have few:2 * ns2.length<=(iN ns).length:=few;have ln2:(iN ns2).length=ns2.length:=zAD _;exact fin _ _ ⟨(iN ns2).length,by lia,true,lv2,iN ns2,y7,y8,y9,rfl,ts2,av2,ho2,as2,kvs2,r5.trans r6 (fun c z=>.inr z),W6,hlv6,lvp6,by lia,.inr ⟨rfl,rfl,ns2,h+1,rfl,lvi,by lia,by lia⟩⟩
 have done:∀{H5:Hp}{D0:YG},D0.rt=Q->ZA H4 H5->us.length<=1->(stem=false->us=[])->Ji (Pi (YR K) (Pi JL (LA 5) (HE (XA (tC V.non) V0))) (tC (V.int 0))) D0 [some (.ref p),some (.ref S),some (.ref l),some (.int fw),some (.bl back),some (.ref lv),some (.bl stem),x7,x8,x9] H5:=fun{H5 D0} eD g h1 h0=>by
  obtain ⟨r5,W5,hlv5⟩:=same5 g;refine ⟨_,rfl,nn (zAB rfl),fun q nq=>?_⟩;have g6:=ZS nq (.lst [.non]);refine ⟨lv,q,us,[.non],rfl,rfl,g6 _ _ hlv5,ZN,zBH (Yp (n:=us.length+1) (by lia)),fun q' nq'=>?_⟩
  have g7:=ZS nq' (.lst (us++[.non]));obtain ⟨rn,ern,jt⟩:∃ rn:Option Nat,(us++[V.non])[0]? = some (Z2 (Zv rn))/\∀ i,rn=some i->i<ts'.length:=by
   rcases cs with ⟨z,_⟩ | ⟨_,_,ns,h,rfl,lv',_⟩
   ·rw [h0 z];exact ⟨none,rfl,fun i e=>by cases e⟩
   ·cases ns with
    | nil=>exact ⟨none,rfl,fun i e=>by cases e⟩
    | cons n ns=>exact ⟨some n,rfl,fun i e=>by cases e;exact (lv'.at_ n zAT).1⟩
  refine .inl ⟨q',us++[.non],0,_,rfl,rfl,ZK.of ZN,Xb (j:=0) ern,?_⟩;rw [eD];have l120:ts'.length<=ts.length+120:=by
   rcases cs with ⟨_,_,_,z⟩ | ⟨_,_,ns,h,rfl,lv',_,z⟩ <;> lia
  exact k _ ts' av' ho' as' kvs' rn (r5.same (g6.trans g7)) (W5.same (g6.trans g7)) l120 jt
 refine ⟨_,rfl,lv,us,rfl,.inl (ZK.of hlv),_,_,rfl,rfl,_,rfl,?_⟩;rcases zAe 1 us.length with c1 | c1
 ·rw [decide_eq_true (show (1:Int)<((us.length:Nat):Int) by lia)]
  exact Z9 (Z9 ⟨_,fun _ _ z=>z,go (ZA.refl _) (fun _=>c1) fun _ _ z=>z⟩)
 ·rw [decide_eq_false (show ¬ (1:Int)<((us.length:Nat):Int) by lia)]
  refine Zr ⟨_,rfl,nn (zAB rfl),fun q nq=>?_⟩;have g5:=ZS nq (.lst []);have eq:=ZN (H:=H4) (a:=q) (o:=.lst []);generalize upd H4 q (.lst [])=H5 at g5 eq ⊢;refine ⟨lv,q,us,rfl,rfl,ZK.of (g5 _ _ hlv),ZK.of eq,_,rfl,?_⟩
  cases us with
  | nil=>exact Zr (Zr (done rfl g5 c1 fun _=>rfl))
  | cons u us=>
   refine Z9 ⟨_,rfl,_,rfl,?_⟩
   cases stem with
   | false=>exact Z9 ⟨_,fun _ _ z=>z,go g5 (fun z=>by cases z) fun _ _ z=>z⟩
   | true=>exact Zr (done rfl g5 c1 fun z=>by cases z)
end
section
variable{P:Program}{w:World}{K:zAA}{mg:jb}{base:Heap}{f:Addr}{fd:FuncData}
inductive WZ(vs:je)(H:Hp)(Q:VK)(_:XK):Prop
 | mk (L T1 T2 r1 r2:Addr) (xs1 xs2 jT jU:je) (rs1 rs2:List Yg) (_:vs=[.ref L]) (_:H L=some (.lst [.ref T1,.ref T2])) (_:H T1=some (.tup (.ref r1 :: xs1))) (_:H T2=some (.tup (.ref r2 :: xs2))) (_:H r1=some (.lst jT)) (_:H r2=some (.lst jU)) (_:KeysAt H (YQ rs1) jT) (_:KeysAt H (YQ rs2) jU) (_:jT.length<=100) (_:jU.length<=100) (_:∀(D:Addr)(ks:je)(H':Hp),ZA H H'->H D=none->H' D=some (.lst ks)->KeysAt H' ((rs1++rs2).map (·.1)) ks->Q (.ref D) H')
theorem Bc:ZD ["_law_trees_here"] ["_law_trees_here"] (Zg LX):=Zu
theorem Ed(F0:Zq K "_law_known" "_law_known" LX f fd):ZM P w K mg base ZU 1 f fd ["_law_trees_here"] WZ:=by
 refine F0.ok Bc (fun vs H Q E h=>(by obtain ⟨_,_,_,_,_,_,_,_,_,_,_,rfl,_⟩:=h;rfl)) (fun cdv A outer s H vs Q E hr h=>?_)
 obtain ⟨L,T1,T2,r1,r2,xs1,xs2,jT,jU,rs1,rs2,rfl,hL,hT1,hT2,h1,h2,k1,k2,l1,l2,q⟩:=h;refine ⟨_,ZW (Zk (Wx [] [] rfl (VL (Zo Vi (Zp (r:=Xl K) Zi (Zp (r:=YR K) Ya (pv 0) ZL (fun _ _=>rfl)) ZL (fun _ _=>rfl)) (Zp (r:=Xl K) Zi (Zp (r:=YR K) Ya (pv 0) ZL (fun _ _=>rfl)) ZL (fun _ _=>rfl)))) (fun _ _ _ _ _=>Vk) (fun _ _ _ _ _=>Zp (r:=Xl K) Zi (pv 0) ZL (fun _ _=>rfl)) trivial)),?_⟩;refine ⟨_,rfl,.inl ⟨L,_,_,.ref T1,rfl,rfl,ZK.of hL,rfl,T1,_,_,.ref r1,rfl,rfl,Zn.of hT1,Xb (j:=0) rfl,?_⟩⟩;refine ⟨_,rfl,.inl ⟨L,_,_,.ref T2,rfl,rfl,ZK.of hL,rfl,T2,_,_,.ref r2,rfl,rfl,Zn.of hT2,Xb (j:=0) rfl,?_⟩⟩;refine ⟨r1,r2,jT,jU,rfl,rfl,h1,h2,nn (by lia),fun c nc=>?_⟩
 have g:=ZS nc (.lst (jT++jU));have ec:=ZN (H:=H) (a:=c) (o:=.lst (jT++jU));generalize upd H c (.lst (jT++jU))=H1 at g ec ⊢;have kr:KeysAt H1 (YQ (rs1++rs2)) (jT++jU):=by
  rw [Jy];exact (k1.mono (ZA.tups g) _ _).append (k2.mono (ZA.tups g) _ _)
 have lu:(jT++jU).length<=200:=by rw [zAI];lia
 have lr:(jT++jU).length=(rs1++rs2).length:=by have:=kr.length;rw [<-this];exact zAD _
 generalize jT++jU=us at ec kr lu lr;generalize rs1++rs2=rs at kr lr q;refine ⟨c,rfl,⟨us,ZK.of ec⟩,Vb (n:=us.length) (fun i z=>us[i]? = some z) (fun D i ys H3=>ZA H1 H3/\H1 D=none/\KeysAt H1 ((rs.map (·.1)).take i) ys) (Yp (by lia))
  (fun D i ys H3 hi hP=>⟨us,us[i],ZK.of (hP.1 _ _ ec),by simp [hi]⟩) (fun D i ys H3 z H4 hi hP hy=>⟨hy.1,hy.2 us (ZK.of (hP.1 _ _ ec))⟩) (fun D ys H3 hP=>⟨us,ZK.of (hP.1 _ _ ec),zAH _⟩)
  (fun D hD=>⟨ZS hD _,hD,.nil⟩) (fun D i ys H3 z eD hl' hi hz hP RR jY=>?_) (fun D ys H3 eD hP=>?_)⟩
 ·obtain ⟨s3,nD,kys⟩:=hP;obtain ⟨a,vk,vv,er,rfl,ea,e1,e2⟩:=QA kr hz;refine ⟨_,rfl,a,_,_,vk,rfl,rfl,Zn.of (s3 _ _ ea),rfl,jY _ H3 eD ⟨V2 s3 nD,nD,?_⟩⟩;rw [zAo,zAM,er];exact kys.append (.cons e1 .nil)
 ·obtain ⟨s3,nD,kys⟩:=hP;rw [zAU (by rw [zAD];lia)] at kys
  exact q D ys H3 (g.trans s3) (g.free nD) eD (kys.mono (ZA.tups s3) _ _)
end
structure Y1 where
 T:Addr
 r:Addr
 d:Addr
 rn:Option Nat
 us:je
 rs:List Yg
 kv:List (ZZ×V)
 F:List Nat
structure Y9(gt:List KT)(ts:List ZT)(H:Hp)(t:Y1):Prop where
 tp:H t.T=some (.tup [.ref t.r,Z2 (Zv t.rn),.ref t.d])
 rl:H t.r=some (.lst t.us)
 ks:KeysAt H (YQ t.rs) t.us
 fit:∀ x∈t.rs,x.fit
 len:t.rs.length<=60
 rcd:Y8 gt ts H t.d t.kv t.F
 rt:∀ i,t.rn=some i->i∈t.F
theorem Y9.go{gt:List KT}{ts:List ZT}{H H':Hp}{t:Y1}(h:Y9 gt ts H t)(m:Z6 H H')(hr:∀ o,H t.r=some o->H' t.r=some o)(hd:∀ o,H t.d=some o->H' t.d=some o):Y9 gt ts H' t:=
 ⟨m _ _ h.tp,hr _ h.rl,h.ks.mono m _ _,h.fit,h.len,⟨hd _ h.rcd.hd,h.rcd.rcd.mono m,h.rcd.clo,h.rcd.wf⟩,h.rt⟩
theorem Y9.grow{gt:List KT}{ts ts':List ZT}{H:Hp}{t:Y1}(h:Y9 gt ts H t)(le:ts.length<=ts'.length)(old:∀ i,i<ts.length->gd ts' i=gd ts i)(wf:WF gt ts'):Y9 gt ts' H t:=
 ⟨h.tp,h.rl,h.ks,h.fit,h.len,⟨h.rcd.hd,⟨h.rcd.rcd.nd,fun j hj=>zAl (h.rcd.rcd.lt j hj) le,h.rcd.rcd.no,fun j hj=>by rw [old j (h.rcd.rcd.lt j hj)];exact h.rcd.rcd.yes j hj,h.rcd.rcd.len⟩,fun j hj b hb=>by rw [old j (h.rcd.rcd.lt j hj)] at hb;exact h.rcd.clo j hj b hb,wf⟩,h.rt⟩
theorem YT.back{jg jh:Addr}{H H':Hp}{S d lk:Addr}{ts:List ZT}{av:Nat->List Nat}{ho:Nat->Nat}{as:List Z5}{kvs:List (ZZ×V)}{ls ls':je}(R:YT jg jh H S d lk ts av ho as kvs ls)(Q:YE jg jh H' ⟨S,d,ts,av,ho,as,kvs⟩ lk ts.length ls'):YT jg jh H' S d lk ts av ho as kvs ls':=
 ⟨Q.sh,R.keys,R.val,R.len,Q.tw,R.own,R.two⟩
theorem WR.same{H H':Hp}{lk c:Addr}{ts:List ZT}{as:List Z5}(ap:WR H lk ts as c)(s:ZA H H'):WR H' lk ts as c:=by
 obtain ⟨o,e⟩:=ap.at_;exact ⟨⟨o,s _ _ e⟩,ap.lk,ap.own⟩
theorem YK.keep{gt:List KT}{jg jh:Addr}{N:Addr->Prop}{H0 H:Hp}{S d lk:Addr}{ls:je}{ju ts:List ZT}{av av0:Nat->List Nat}{ho ho0:Nat->Nat}{jw as:List Z5}{kvs kvs0:List (ZZ×V)}(r:YK gt jg jh N H0 H S d lk ls ju jw ts av ho as kvs)(R:YT jg jh H0 S d lk ju av0 ho0 jw kvs0 ls){c:Addr}{o:je}(ap:WR H0 lk ju jw c)(nN:¬ N c)(e:H0 c=some (.lst o)):H c=some (.lst o)/\WR H lk ts as c:=by
 obtain ⟨⟨dS,hS⟩,hd,_⟩:=R.sh;have e':=r.fr c _ nN (ZV e hS) (ZV e hd) (fun b hb=>by
  obtain ⟨dx,hx⟩:=(R.tw b hb).tw.self;exact ⟨ZV e hx,(ap.own b hb).1.symm⟩) e
 exact ⟨e',⟨_,e'⟩,ap.lk,r.own ap⟩
structure Qq(gt:List KT)(jg jh:Addr)(H0 H:Hp)(S d lk L:Addr)(ts:List ZT)(av:Nat->List Nat)(ho:Nat->Nat)(as:List Z5)(kvs:List (ZZ×V))(ls:je)(TL:List Y1):Prop where
 pla:YK gt jg jh (fun _=>False) H0 H S d lk ls [] [] ts av ho as kvs
 hL:H L=some (.lst (TL.map fun t=>V.ref t.T))
 aL:WR H lk ts as L
 nL:H0 L=none
 trs:∀ t∈TL,Y9 gt ts H t/\WR H lk ts as t.r/\t.r≠L/\t.d≠d
section
variable{P:Program}{w:World}{K:zAA}{mg:jb}{base:Heap}{f:Addr}{fd:FuncData}{jg jh:Addr}
inductive Wk(gt:List KT)(K:zAA)(jg jh:Addr)(vs:je)(H:Hp)(Q:VK)(_:XK):Prop
 | mk (H0:Hp) (a S d lk:Addr) (ns:List Int) (av:Nat->List Nat) (ho:Nat->Nat) (_:vs=[.ref a,.ref S]) (_:ZK K H0 a (ns.map V.int)) (_:ns.length<=63) (_:ZA H0 H) (_:H0 S=none) (_:H0 d=none) (_:H0 lk=none) (_:YT jg jh H S d lk [] av ho [] [] []) (_:∀(H':Hp)(L:Addr)(ts:List ZT)(av:Nat->List Nat)(ho:Nat->Nat)(as:List Z5)(kvs:List (ZZ×V))(ls:je)(t1 t2:Y1),Qq gt jg jh H0 H' S d lk L ts av ho as kvs ls [t1,t2]->ts.length<=240->ls.length<=480->Q (.ref L) H')
abbrev Cf:List Str:=["_law_script","_law_shelf","_law_trees_here","_law_k","_law_well_here","_law_rows","_law_root"]
theorem Vu:ZD Cf ["_law_script","_law_shelf"] (Zg Nh):=Zu
inductive TrL(a S L:Addr)(gt:List KT)(jg jh:Addr)(H0:Hp)(d lk:Addr)(i:Nat)(σ:L2.St)(H':Hp):Prop
 | mk (ts:List ZT) (av:Nat->List Nat) (ho:Nat->Nat) (as:List Z5) (kvs:List (ZZ×V)) (ls:je) (TL:List Y1) (x3 x4 x5 x6:jf) (_:σ=[some (.ref a),some (.ref S),some (.ref L),x3,x4,x5,x6]) (_:Qq gt jg jh H0 H' S d lk L ts av ho as kvs ls TL) (_:TL.length=i) (_:ts.length<=120 * i) (_:ls.length<=240 * i)
theorem BP{gt:List KT}(F0:Zq K "_law_trees" "_law_trees" Nh f fd)(T:YD mg)(DW:ZB P w K mg base 1 "_law_well" ["_law_script","_law_k"] (Wc K))(DG:ZB P w K mg base 10 "_law_ground" ["_law_well_here","_law_most"] (Xz w))(DS:ZB P w K mg base 9 "_law_sorted" ["_law_model"] (Xv w))(DP:ZB P w K mg base 11 "_law_plant" ["_law_well_here","_law_shelf","_law_rows"] (Wh gt jg jh))(DR:ZB P w K mg base 3 "_law_reached" ["_law_shelf","_law_root","_law_found"] (Xa gt jg jh)):
  ZM P w K mg base ZU 12 f fd ["_law_script","_law_shelf"] (Wk gt K jg jh):=by
 refine F0.ok Vu (fun vs H Q E h=>(by obtain ⟨_,_,_,_,_,_,_,_,rfl,_⟩:=h;rfl)) (fun cdv A outer s H vs Q E hr h=>?_)
 obtain ⟨H0,a,S,d,lk,ns,av,ho,rfl,hSq,hn,s0,nS,ndd,nlk,R,k⟩:=h;have nd:=Vu.nd;have hr1:=hr.mono (show 1<=11 by decide)
 have hr3:=hr.mono (show 3<=11 by decide)
 have hr9:=hr.mono (show 9<=11 by decide)
 have hr10:=hr.mono (show 10<=11 by decide)
 refine ⟨_,ZQ (Zj 2 nd (YM ZH))
  (ZQ (V7 PassesOwn.never rfl (Qj rfl T.range (ZG ZL ZH)) (Xd 3 nd)
   (ZQ (Zj 4 nd (Zh DW hr1 (ZG (pv 0) (ZG (pv 3) ZH))))
   (ZQ (Zj 5 nd (Zh DS hr9 (ZG (Zh DG hr10 (ZG (pv 4) (ZG (Zp (r:=YR K) Ya (YM (ZG ZL (ZG ZL ZH))) (pv 3) (fun _ _=>rfl)) ZH))) ZH)))
   (ZQ (Zj 6 nd (Zh DP hr (UY (pv 4) (pv 1) (pv 5))))
   (ZW (WP (UX zAr zAt zAs UH (pv 2) (ZG (Yh (UY (pv 5) (pv 6) (Zh DR hr3 (UY (pv 1) (pv 6) Jv)))) ZH))))))))
  (ZW (Zk (pv 2)))),?_⟩
 refine ⟨nn (zAB rfl),fun L nL=>?_⟩;have gL:=ZS nL (.lst []);have eL:=ZN (H:=H) (a:=L) (o:=.lst []);generalize upd H L (.lst [])=H1 at gL eL ⊢;have RL:=R.same gL;have wf0:WF gt []:=fun i t e=>by simp at e
 have I0:Qq gt jg jh H0 H1 S d lk L [] av ho [] [] [] []:=⟨⟨RL,wf0,fun i hi=>absurd hi (zBI _),fun c o _ _ _ _ e=>gL _ _ (s0 _ _ e),fun c e=>s0.free (gL.free e),zAH _,fun i hi=>absurd hi (zBI _),fun i _ hi=>absurd hi (zBI _)⟩,eL,PY R nL eL,s0.free nL,fun t ht=>by simp at ht⟩
 refine ⟨2,rfl,by decide,by decide,Qp (n:=2) (TrL a S L gt jg jh H0 d lk)
  ⟨_,_,_,_,_,_,[],_,_,_,_,rfl,I0,rfl,zAd _,zAd _⟩ ?_ ?_⟩
 ·rintro i σ H2 hi ⟨ts,av,ho,as,kvs,ls,TL,x3,x4,x5,x6,rfl,r,lTL,l120,l200⟩;have s02:ZA H0 H2:=fun b o e=>r.pla.fr b o (fun z=>z) (Zb e nS) (Zb e ndd) (fun j hj=>absurd hj (zBI _)) e;refine ⟨_,rfl,_,rfl,a,ns,_,rfl,s02.seq hSq,hn,by lia,by lia,fun p H3 np s3 W3=>?_⟩
  obtain ⟨mv,emv,hmv⟩:=Oe (x:=V.int 61) (y:=V.int 21) (i:=(0:Int)+(i:Int)) (by lia) (by lia)
  refine ⟨_,rfl,nn (zAB rfl),fun q nq=>?_⟩;have gq:=ZS nq (.lst [.int 61,.int 21]);have eq:=ZN (H:=H3) (a:=q) (o:=.lst [.int 61,.int 21]);generalize upd H3 q (.lst [.int 61,.int 21])=H4 at gq eq ⊢;obtain ⟨m,rfl,m0,m61⟩:∃ m:Int,mv=.int m/\0<m/\m<=61:=by
   rcases hmv with rfl | rfl
   ·exact ⟨61,rfl,by decide,by decide⟩
   ·exact ⟨21,rfl,by decide,by decide⟩
  have W4:=W3.same gq;refine ⟨_,rfl,.inl ⟨q,_,_,_,rfl,rfl,ZK.of eq,emv,p,m,rfl,W4,m0,m61,fun D rs xs H5 nD dr frs ris r60 W5 s5=>?_⟩⟩;refine ⟨D,rs,xs,rfl,dr,frs,ris,r60,fun l us H6 s6 nl hl kl=>?_⟩;have s24:ZA H2 H4:=s3.trans gq;have R2:=r.pla.sh;have R4:=R2.same s24;obtain ⟨pw4,hp4⟩:=W4.some;have ap4:WR H4 lk ts as p:=PY R2 np hp4;have R5:=R4.but s5 hp4 ap4.lk ap4.own;have R6:=R5.same s6;have W6:=W5.same s6;obtain ⟨pw6,hp6⟩:=W6.some;have ap6:WR H6 lk ts as p:=PY R2 np hp6;have lp:l≠p:=WY W5 nl;have g26:ZA H2 H6:=fun b o e=>s6 b o (s5 b o (s24 b o e) (Zb e np));refine ⟨_,rfl,_,rfl,_,rfl,p,S,d,lk,l,ts,av,ho,as,kvs,ls,us,rs,rfl,W6,R6,ap6,r.pla.wf,r.pla.hs,by lia,hl,lp,kl,frs,ris,r60,fun H7 ts7 av7 ho7 as7 kvs7 rn r7 W7 l7 jt=>?_⟩
  have apl:WR H6 lk ts as l:=PY R5 nl hl;have Lp:L≠p:=Zb r.hL np;obtain ⟨hL7,aL7⟩:=r7.keep R6 (r.aL.same g26) Lp (g26 _ _ r.hL);obtain ⟨hl7,al7⟩:=r7.keep R6 apl lp hl;have t67:Z6 H6 H7:=r7.tups R6 fun c z=>by rw [z];exact ⟨_,hp6⟩
  refine ⟨_,rfl,.inl ⟨rfl,_,ZK.of hL7⟩,_,rfl,_,rfl,_,rfl,_,rfl,fun dd ndd'=>?_⟩;have gd8:=ZS ndd' (.dK []);have ed8:=ZN (H:=H7) (a:=dd) (o:=.dK []);generalize upd H7 dd (.dK [])=H8 at gd8 ed8 ⊢;have R8:=r7.sh.same gd8;have ddd:dd≠d:=(Zb r7.sh.sh.kept ndd').symm;refine ⟨⟨S,d,ts7,av7,ho7,as7,kvs7⟩,lk,ts7.length,ls,rn,dd,rfl,R8.q,r7.wf,by show ts7.length<=240;lia,by lia,jt,ed8,ddd,fun H9 kv F ls9 fr9 Q9 ll9 hdd9 rec9 clo9 rt9=>⟨nn (zAB rfl),fun Tt nT=>?_⟩⟩
  have gT:=ZS nT (.tup [.ref l,Z2 (Zv rn),.ref dd]);have eT:=ZN (H:=H9) (a:=Tt) (o:=.tup [.ref l,Z2 (Zv rn),.ref dd]);generalize upd H9 Tt (.tup [.ref l,Z2 (Zv rn),.ref dd])=H10 at gT eT ⊢;have lk8:=R8.sh.looks;have f810:∀ b o,b≠lk->b≠dd->H8 b=some o->H10 b=some o:=fun b o n1 n2 e=>gT b o (fr9 b o n1 n2 e);have t810:Z6 H8 H10:=fun b o e=>f810 b _ (ZV e lk8) (ZV e ed8) e;have f710:∀ b o,b≠lk->H7 b=some o->H10 b=some o:=fun b o n1 e=>f810 b o n1 (Zb e ndd') (gd8 b o e);have t710:Z6 H7 H10:=fun b o e=>t810 b o (gd8 b _ e);have R10:YT jg jh H10 S d lk ts7 av7 ho7 as7 kvs7 ls9:=(R8.back Q9).same gT;have hL10:=f710 _ _ aL7.lk hL7;have hl10:=f710 _ _ al7.lk hl7;refine ⟨L,_,_,rfl,rfl,hL10,Yp (by rw [zAD];lia),?_⟩
  have sx:ZC L H10 (upd H10 L (.lst ((TL.map fun t=>V.ref t.T)++[.ref Tt]))):=(ZC.refl L H10).upd;have t11:Z6 H10 (upd H10 L (.lst ((TL.map fun t=>V.ref t.T)++[.ref Tt]))):=sx.tups hL10;have eL11:=ZN (H:=H10) (a:=L) (o:=.lst ((TL.map fun t=>V.ref t.T)++[.ref Tt]));generalize upd H10 L (.lst ((TL.map fun t=>V.ref t.T)++[.ref Tt]))=H11 at sx t11 eL11 ⊢;have R11:=R10.but sx hL10 aL7.lk aL7.own;have lL:l≠L:=fun z=>by rw [z,s5 _ _ (s24 _ _ r.hL) Lp] at nl;cases nl
  have np0:H0 p=none:=s02.free np;obtain ⟨⟨dS6,hS6⟩,hd6,_⟩:=R6.sh;have f011:ZA H0 H11:=fun b o e=>sx b o (f710 b o (Zb e nlk) (r7.fr b o (Zb e np0) (Zb e nS) (Zb e ndd) (fun j hj=>by
   obtain ⟨n1,_,n3⟩:=r.pla.new j (zAd _) hj;exact ⟨Zb e n1,Zb e n3⟩) (g26 b o (s02 b o e)))) (Zb e r.nL)
  have t211:Z6 H2 H11:=fun b o e=>t11 b o (t710 b o (t67 b o (ZA.tups g26 b o e)));have hl11:=sx _ _ hl10 lL;refine ⟨ts7,av7,ho7,as7,kvs7,ls9,TL++[⟨Tt,l,dd,rn,us,rs,kv,F⟩],_,_,_,_,rfl,⟨⟨R11,r7.wf,r7.hs,fun c o _ _ _ _ e=>f011 c o e,fun c e=>f011.free e,zAd _,fun j hj=>absurd hj (zBI _),fun j _ hj=>?_⟩,?_,⟨⟨_,eL11⟩,aL7.lk,aL7.own⟩,r.nL,fun t ht=>?_⟩,?_,by lia,?_⟩
  ·rcases zAe j ts.length with z | z
   ·rw [(r7.old j z).1];exact r.pla.new j (zAd _) z
   ·obtain ⟨n1,n2,n3⟩:=r7.new j z hj;exact ⟨s02.free (g26.free n1),s02.free (g26.free n2),s02.free (g26.free n3)⟩
  ·rw [zAV];exact eL11
  ·rcases zAm.mp ht with z | z
   ·obtain ⟨a1,a2,a3,a4⟩:=r.trs t z;have rp:t.r≠p:=Zb a1.rl np;obtain ⟨k7,ap7⟩:=r7.keep R6 (a2.same g26) rp (g26 _ _ a1.rl);have k11:=sx _ _ (f710 _ _ ap7.lk k7) a3;have d6:=g26 _ _ a1.rcd.hd;have d7:=r7.fr t.d _ (Zb a1.rcd.hd np) (ZV d6 hS6) a4 (fun b hb=>by
     obtain ⟨dx,hx⟩:=(R6.tw b hb).tw.self;exact ⟨ZV d6 hx,ZV d6 (R6.tw b hb).tw.above⟩) d6
    have d11:=sx _ _ (f710 _ _ (ZV d7 r7.sh.sh.looks) d7) (ZV a1.rcd.hd r.hL);exact ⟨(a1.go t211 (fun o e=>by rw [a1.rl] at e;cases e;exact k11) (fun o e=>by rw [a1.rcd.hd] at e;cases e;exact d11)).grow r7.le (fun j hj=>(r7.old j hj).2) r7.wf,⟨⟨_,k11⟩,ap7.lk,ap7.own⟩,a3,a4⟩
   ·rw [zAS.mp z];exact ⟨⟨t11 _ _ eT,hl11,((kl.mono t67 _ _).mono t710 _ _).mono t11 _ _,frs,r60,⟨sx _ _ (gT _ _ hdd9) (ZV hdd9 (fr9 _ _ aL7.lk (Zb hL7 ndd') (gd8 _ _ hL7))),(rec9.mono (ZA.tups gT)).mono t11,clo9,r7.wf⟩,rt9⟩,⟨⟨_,hl11⟩,al7.lk,al7.own⟩,lL,ddd⟩
  ·rw [zAI,lTL];rfl
  ·have ll9:ls9.length<=ls.length+ts7.length:=ll9
   lia
 ·rintro σ H2 ⟨ts,av,ho,as,kvs,ls,TL,x3,x4,x5,x6,rfl,r,lTL,l120,l200⟩;obtain ⟨t1,t2,rfl⟩:∃ t1 t2,TL=[t1,t2]:=by
   match TL,lTL with
   | [t1,t2],_=>exact ⟨t1,t2,rfl⟩
  exact ⟨_,rfl,k H2 L ts av ho as kvs ls t1 t2 r (by lia) (by lia)⟩
end
end Tw
namespace L2
open PySem PySem.Spec PyProof.Rows
section
variable{prog:Program}{w:World}{A:Around}{E:ja}{s:Shared}
def ZO5(a₀:Array Keyed)(st:SortSt):Prop:=(arrOf st).Perm a₀/\failedOf st=none/\(pendingOf st).size=1/\PyProof.Rows.SortedTo (arrOf st) a₀.size
theorem Bp{a₀:Array Keyed}{st:SortSt}{Q:Option Nat->SortSt->Prop}(hk:PyProof.Rows.IntKeys a₀)(b:SBase a₀ st)(h1:1<=a₀.size)(up:PyProof.Rows.SortedTo (arrOf st) a₀.size)(hq:Q (some a₀.size) st):wpS (model prog w) A E s (countRun' 0 a₀.size) Q st:=by
 rw [countRun0_eq];refine wpS_bind (wpS_ascLoop hk (zAH _) (zAH _) h1 b (fun i j (c1:i<=j) (c2:j<1)=>(by rw [show i=j by lia];exact Int.le_refl _)) fun n n1 n2 n3 n4=>?_)
 have e:n=a₀.size:=by
  rcases n4 with z | z
  ·exact z
  ·rcases zAe n a₀.size with c | c
   ·have:=up (n - 1) n (by lia) c
    lia
   ·lia
 subst e;show wpS _ _ _ _ (if (a₀.size==a₀.size)=true then pure (some a₀.size) else _) _ _
 rw [if_pos (by simp)]
 exact wpS_pure hq
theorem G8:∀ n:Nat,n<1000->minRun' n n 0<=n:=by decide +kernel
theorem C4{a₀:Array Keyed}{st:SortSt}{Q:Unit->SortSt->Prop}(hk:PyProof.Rows.IntKeys a₀)(b:SBase a₀ st)(h1:1<=a₀.size)(h1000:a₀.size<1000)(hp:pendingOf st=#[])(up:PyProof.Rows.SortedTo (arrOf st) a₀.size)(hq:∀ st',(arrOf st').Perm a₀->failedOf st'=none->PyProof.Rows.SortedTo (arrOf st') a₀.size->Q () st'):wpS (model prog w) A E s sortRuns' Q st:=by
 rw [sortRuns'_eq];have es:(arrOf st).size=a₀.size:=b.perm.size_eq;refine wpS_bind (wpS_get ?_);dsimp only;rw [es];refine wpS_bind (wpS_forRange (I:=fun i c st'=>(i=0/\c=(none,0)/\st'=st)\/(1<=i/\c=(none,a₀.size)/\ZO5 a₀ st')) ?_ ?_ (.inl ⟨rfl,rfl,rfl⟩))
 ·rintro i c st' _ hi (⟨rfl,rfl,rfl⟩ | ⟨i1,rfl,u⟩)
  ·dsimp only;rw [if_neg (by lia)]
   refine wpS_bind ?_;rw [Nat.sub_zero];refine Bp hk b h1 up ?_;dsimp only;rw [if_neg (Nat.not_lt.mpr (G8 _ h1000))];refine wpS_bind (wpS_get ?_);rw [hp];refine wpS_bind (wpS_modify ?_);refine wpS_pure ?_;refine .inr ⟨zAH _,by rw [Nat.zero_add],b.perm,b.failed,?_,up⟩
   show ((pendingOf st').push _).size=1;rw [hp];rfl
  ·dsimp only;rw [if_pos (zAH _)];refine wpS_pure ?_;dsimp only;refine wpS_bind (wpS_forRange (I:=fun i c st''=>c=(none,())/\st''=st') (fun i c st'' _ _ hi=>?_) (fun c st'' hi=>?_) ⟨rfl,rfl⟩)
   ·obtain ⟨rfl,rfl⟩:=hi;refine wpS_bind (wpS_get ?_);rw [if_pos (by rw [u.2.2.1];exact zAH _)]
    refine wpS_pure ?_;exact wpS_pure (hq _ u.1 u.2.1 u.2.2.2)
   ·obtain ⟨rfl,rfl⟩:=hi;exact wpS_pure (hq _ u.1 u.2.1 u.2.2.2)
 ·rintro c st' (⟨z,_,_⟩ | ⟨_,rfl,u⟩)
  ·lia
  ·dsimp only;refine wpS_bind (wpS_forRange (I:=fun i c st''=>c=(none,())/\st''=st') (fun i c st'' _ _ hi=>?_) (fun c st'' hi=>?_) ⟨rfl,rfl⟩)
   ·obtain ⟨rfl,rfl⟩:=hi;refine wpS_bind (wpS_get ?_);rw [if_pos (by rw [u.2.2.1];exact zAH _)]
    refine wpS_pure ?_;exact wpS_pure (hq _ u.1 u.2.1 u.2.2.2)
   ·obtain ⟨rfl,rfl⟩:=hi;exact wpS_pure (hq _ u.1 u.2.1 u.2.2.2)
theorem KI:∀{vs:jd}{ns:List Int}{i:Nat}{n:Int},IntsAre vs ns->ns[i]? = some n->∃ t,vs[i]? = some (.int n t)
 | _,_,0,_,.cons m t h,e=>⟨t,by simp at e;rw [<-e];rfl⟩
 | _,_,i+1,_,.cons m t h,e=>by
  obtain ⟨t,r⟩:=KI (i:=i) h (by simpa using e)
  exact ⟨t,by simpa using r⟩
theorem AA{vs:jd}{ns:List Int}(hI:IntsAre vs ns)(up:ns.Pairwise (· <= ·)):PyProof.Rows.SortedTo (pairsOf vs) (pairsOf vs).size:=fun i j jv hj=>by
 rw [pairsOf_size] at hj;have hl:=hI.length;have ki:∀ i,i<vs.length->∃ n,ns[i]? = some n/\PyProof.Rows.K (pairsOf vs) i=n:=fun i hi=>by
  have hn:i<ns.length:=by lia
  obtain ⟨t,e⟩:=KI hI (zAE hn);refine ⟨_,zAE hn,?_⟩;unfold PyProof.Rows.K;have:(pairsOf vs)[i]? = some (.int ns[i] t,.int ns[i] t):=by
   rw [<-zAj,pairsOf_toList,List.getElem?_zip_eq_some];exact ⟨e,e⟩
  rw [this];rfl
 obtain ⟨a,ea,ka⟩:=ki i (by lia)
 obtain ⟨b,eb,kb⟩:=ki j hj;rw [ka,kb];rcases zAe i j with c | c
 ·obtain ⟨hi',e1⟩:=zAK.mp ea;obtain ⟨hj',e2⟩:=zAK.mp eb;have:=zBU.mp up i j hi' hj' c;rw [e1,e2] at this;exact this
 ·have:i=j:=by lia
  subst this;rw [ea] at eb;cases eb;exact Int.le_refl _
theorem Dz{a:Addr}{vs:jd}{ns:List Int}{n:Nat}{P:PySem.Fin->Shared->Prop}(ho:s.heap.get? a=some (seqObj "list" vs.toArray n))(hI:IntsAre vs ns)(hl:vs.length<1000)(up:ns.Pairwise (· <= ·))(h:∀ (out:Array Value) (ns':List Int),IntsAre out.toList ns'->ns'.Perm ns->ns'.Pairwise (· <= ·)->P (.done (.ret .none)) { s with heap:=sortedHeap s.heap a vs out }):wpAny (model prog w) A (Builtin.«list.sort» { pos:=[.ref a] }) P E s:=by
 rcases zAe vs.length 64 with c | c
 ·exact list_sort_tree ho hI c h
 have hz:vs.length<=sizeLine:=zBH (Yp (by lia))
 rw [list_sort_plain];refine wpAny_bind (listItems_at ho rfl ?_);refine wpAny_bind (listUpdate_at ho rfl ?_ (by rw [zAL];exact hz) (zAd _))
 obtain ⟨e1,ho1⟩:∃ e1,(s.heap.update a (Obj.mapSeq fun _=>(#[]:Array Value))).get? a=some (seqObj "list" #[] e1):=⟨_,get?_update_seq ho fun _=>#[]⟩;refine wpAny_bind (seqEpoch_at ho1 rfl ?_);refine wpAny_bind (wpAny_newTuple ?_ (by show vs.length<=_;exact hz))
 refine wpAny_bind (wpAny_newList ?_ (zAd _));refine wpAny_holding ?_;have oo:(((s.heap.update a (Obj.mapSeq fun _=>(#[]:Array Value))).push (seqObj "tuple" vs.toArray 0)).push (seqObj "list" #[] 0)).get? a=some (seqObj "list" #[] e1):=zAG _ (zAG _ ho1);dsimp only;rw [if_neg (by rw [zAL];lia),if_neg (by rw [zAL];lia)]
 obtain ⟨v1,v2,rest,ev⟩:∃ v1 v2 rest,vs=v1 :: v2 :: rest:=by
  match vs,c with
  | v1 :: v2 :: rest,_=>exact ⟨v1,v2,rest,rfl⟩
 have kk:keyKind' vs.toArray=pure oneType':=by
  subst ev;exact keyKind_ints hI
 rw [kk];refine wpAny_bind (wpAny_pure ?_);have ps:(pairsOf vs).size=vs.length:=pairsOf_size vs;refine wpAny_bind (Za (C4 (a₀:=pairsOf vs) (st:=SortSt.mk' oneType' (pairsOf vs) #[] 7 none) (Q:=fun _ st'=>(arrOf st').Perm (pairsOf vs)/\failedOf st'=none/\PyProof.Rows.SortedTo (arrOf st') (pairsOf vs).size) hI.intKeys ⟨Array.Perm.refl _,rfl,rfl,rfl⟩ (by lia) (by lia) rfl (AA hI up) fun st' p1 p2 p3=>⟨p1,p2,p3⟩) fun r s'' hr=>?_)
 obtain ⟨⟨⟩,st'⟩:=r;obtain ⟨rfl,p1,p2,p3⟩:=hr;obtain ⟨ns',i1,i2,i3⟩:=sorted_out hI p1 p3;dsimp only;refine wpAny_bind (seqEpoch_at oo rfl ?_);refine wpAny_bind (listUpdate_at oo rfl ?_ (zAd _) (by rw [Array.size_map,p1.size_eq,ps];lia))
 rw [p2];simp only [bne_self_eq_false,zA3,if_false];exact wpAny_pure (h _ ns' i1 i2 i3)
end
section
variable{prog:Program}{w:World}{A:Around}{E:ja}{s:Shared}{T:String}{r d:Addr}{n:Nat}{P:Nat->Value->Prop}{OK:Heap->Prop}
theorem Gy{Q:ja}{ns:List Int}(K:zCS prog w T r d n P OK)(hh:A.handled=none)(hok:OK s.heap)(hn:n<=sizeLine)(hP:∀ acc,ItemsOf P acc n->IntsAre acc.toList ns)(h64:n<1000)(hs:ns.Pairwise (· <= ·))(hQ:∀ h' tk a out c,(∀ b o,s.heap.get? b=some o->h'.get? b=some o)->s.heap.objs.size<=a->IntsAre out ns->h'.get? a=some { cls:=.type "list",data:=.seq out.toArray c }->Q (.ref a) { s with heap:=h',toks:=tk }):
  wpAny (model prog w) A (call (.builtin "sorted") [.ref r]) Q E s:=by
 refine Calls.call_function_entry kind_sorted plain_sorted entry_sorted (args_sorted1 _) ?_;unfold Builtin.«sorted»;refine wpAny_bind (m:=checkCount "sorted" 1 1 _) (wpAny_pure ?_);refine wpAny_bind (Jc K hh hok hn fun h1 tk acc k1 hsz hacc=>?_);have hI:=hP acc hacc;have hl64:acc.toList.length<1000:=by rw [zA4,hacc.1];exact h64
 refine wpAny_bind (wpAny_newList ?_ (hsz:=zBH (Yp (by lia))))
 have hoL:(h1.push (seqObj "list" acc.toList.toArray 0)).get? h1.objs.size=some (seqObj "list" acc.toList.toArray 0):=zAQ _ rfl;refine wpAny_bind (wpAny_holding (wpAny_call_entry slot_list_sort ⟨_,hoL,rfl⟩ entry_list_sort (Dz hoL hI hl64 hs fun out ns' a1 a2 a3=>⟨_,rfl,?_⟩) (args_list_sort _)));refine wpAny_pure ⟨_,rfl,?_⟩;have e:ns'=ns:=List.Perm.eq_of_pairwise (le:=(· <= ·)) (fun a b _ _ h1 h2=>Int.le_antisymm h1 h2) a3 hs a2;subst e;obtain ⟨c,hc⟩:=sortedHeap_at (vs:=acc.toList) (out:=out) hoL;refine hQ _ tk h1.objs.size out.toList c (fun b o e=>?_) (zBH hsz) a1 (by rw [Array.toArray_toList];exact hc)
 have e1:=k1 b o e;rw [sortedHeap_old (zAg (zAP e1)) (by rw [size_push'];exact zB0 (zAP e1))]
 exact zAG _ e1
end
section
variable{X:Cx}
def B0:je->Hp->VK->Prop:=fun xs H Q=>∃(a:Addr)(kvs:List (ZZ×V))(ns:List Int),xs=[.ref a]/\H a=some (.dK kvs)/\kvs.map (·.1)=ns.map Sum.inl/\ns.Pairwise (· <= ·)/\ns.length<1000/\∀ p,H p=none->Q (.ref p) (upd H p (.lst (ns.map V.int)))
theorem BC(hc:X.calm=true):Wr X (.builtin "sorted") B0:=by
 intro pins s σ H xs us Q I r h;obtain ⟨a,kvs,ns,rfl,ha,hk,hs,h64,q⟩:=h;obtain ⟨u,rfl,ru⟩:=VI r;cases ru;obtain ⟨z,lo,vs,kv,hD⟩:=Mu I.hok ha;have ln:ns.length=kvs.length:=by have:=congrArg zBh hk;simpa using this.symm
 have lv:=KV.length kv;obtain ⟨ep,hA⟩:=hD.dictAt;refine Gy (ns:=ns) (PySem.W.kdl_dict (knd:=VQ X.prog X.w) (kvs:=vs) (ep:=ep) lo) (I.ok.hd hc) hA (by lia) (fun acc hacc=>Dr kv hk acc.toList (by rw [zA4];exact hacc.1) fun i v e=>?_) (by lia) hs fun h' tk p out c k1 hp hI hg=>?_
 ·exact hacc.2 i v (by rw [<-zAj];exact e)
 ·exact ⟨.ref p,_,I.laid (a:=p) (o:=.lst (ns.map V.int)) (t':=tk) k1 hp ⟨by rw [zAD];exact zBH (Yp (zBH h64)),out,c,ZFO hI,hg⟩,rfl,q p (I.hok.fresh hp)⟩
end
end L2
namespace L2
open PySem
def QN(xs:Array Nat):Prop:=∀ i k x y:Nat,i<k->xs[i]? = some x->xs[k]? = some y->x<y
theorem Wq{xs:Array Nat}:QN xs ↔ xs.toList.Pairwise (· < ·):=by
 rw [zBU];constructor
 ·intro h i k hi hk l;exact h i k _ _ l (by rw [<-zAj];exact zAE hi) (by rw [<-zAj];exact zAE hk)
 ·intro h i k x y l ex ey;rw [<-zAj] at ex ey;obtain ⟨hi,rfl⟩:=zAK.mp ex;obtain ⟨hk,rfl⟩:=zAK.mp ey;exact h i k hi hk l
theorem Me{xs:Array Nat}{j:Nat}(hr:QN xs):∀(f lo hi:Nat),hi - lo<=f->lo<=hi->hi<=xs.size->(∀ i x,i<lo->xs[i]? = some x->x<j)->(∀ i x,hi<=i->xs[i]? = some x->j<=x) ->
  SetTable.below.go xs j f lo hi<=xs.size/\(∀ i x,i<SetTable.below.go xs j f lo hi->xs[i]? = some x->x<j)/\∀ i x,SetTable.below.go xs j f lo hi<=i->xs[i]? = some x->j<=x
 | 0,lo,hi,h1,h2,h3,a,b=>by
  have e:hi=lo:=by lia
  subst e;exact ⟨h3,a,b⟩
 | f+1,lo,hi,h1,h2,h3,a,b=>by
  unfold SetTable.below.go;by_cases h:lo<hi
  ·rw [if_pos h];have hm:(lo+hi) / 2<xs.size:=by lia
   have em:xs[(lo+hi) / 2]? = some xs[(lo+hi) / 2]:=zAY hm;have eg:xs.getD ((lo+hi) / 2) j=xs[(lo+hi) / 2]:=by simp [hm]
   dsimp only;rw [eg];by_cases q:xs[(lo+hi) / 2]<j
   ·rw [if_pos q];refine Me hr f _ _ (by lia) (by lia) h3 (fun i x hi ex=>?_) b
    rcases zCn (Nat.le_of_lt_succ hi) with z | z
    ·exact zCx (hr _ _ _ _ z ex em) q
    ·subst z;rw [em] at ex;cases ex;exact q
   ·rw [if_neg q];refine Me hr f _ _ (by lia) (by lia) (by lia) a (fun i x hi ex=>?_)
    rcases zCn hi with z | z
    ·have:=hr _ _ _ _ z em ex;lia
    ·subst z;rw [em] at ex;cases ex;lia
  ·rw [if_neg h];have e:hi=lo:=by lia
   subst e;exact ⟨h3,a,b⟩
theorem K5{xs:Array Nat}(hr:QN xs)(j:Nat):SetTable.below xs j<=xs.size/\(∀ i x,i<SetTable.below xs j->xs[i]? = some x->x<j)/\∀ i x,SetTable.below xs j<=i->xs[i]? = some x->j<=x:=
 Me hr _ _ _ (by lia) (zAd _) (zAH _) (fun i x h _=>absurd h (zBI _)) (fun i x h e=>by rw [zDO h] at e;cases e)
theorem ZJI{xs:Array Nat}(hr:QN xs){i x:Nat}(e:xs[i]? = some x):SetTable.below xs x=i:=by
 obtain ⟨a,b,c⟩:=K5 hr x;rcases Nat.lt_trichotomy (SetTable.below xs x) i with z | z | z
 ·have hi:i<xs.size:=by obtain ⟨h,_⟩:=zA1.mp e;exact h
  have h2:SetTable.below xs x<xs.size:=by lia
  have:=c _ _ (zAH _) (zAY h2);have:=hr _ _ _ _ z (zAY h2) e
  lia
 ·exact z
 ·have:=b i x z e
  lia
theorem Es{t:SetTable}{j:Nat}(hr:QN t.place)(hn:∀ i:Nat,t.place[i]? ≠ some j):QN (t.put j).1.place:=by
 obtain ⟨a,b,c⟩:=K5 hr j;have hr':=Wq.mp hr;rw [Wq];show (SetTable.insertAt t.place (SetTable.below t.place j) j).toList.Pairwise (· < ·);rw [SetTable.toList_insertAt];generalize SetTable.below t.place j=p at a b c;have h1:∀ x∈t.place.toList.take p,x<j:=fun x hx=>by
  obtain ⟨i,e⟩:=zBL.mp hx;rw [zCF] at e;split at e
  ·rename_i hi
   exact b i x hi (by rw [<-zAj];exact e)
  ·cases e
 have h2:∀ y∈t.place.toList.drop p,j<y:=fun y hy=>by
  obtain ⟨i,e⟩:=zBL.mp hy;rw [List.getElem?_drop,zAj] at e;have:=c _ _ (Nat.le_add_right p i) e;rcases zCn this with z | z
  ·exact z
  ·subst z;exact absurd e (hn _)
 refine zCb.mpr ⟨hr'.sublist (List.take_sublist _ _),zBN.mpr ⟨h2,hr'.sublist (List.drop_sublist _ _)⟩,fun x hx y hy=>?_⟩;rcases zAf.mp hy with rfl | hy
 ·exact h1 x hx
 ·exact zCx (h1 x hx) (h2 y hy)
theorem Jp(t:SetTable)(p:SetTable.Probe):(t.advance p).dummy=p.dummy:=by
 unfold SetTable.advance;split <;> rfl
theorem LW{t:SetTable}{ha:Nat->Int}{h:Int}:∀(f:Nat)(p:SetTable.Probe)(j:Nat)(d:Option Nat),(∀ d,p.dummy=some d->t.slot d=.dummy)->SetTable.probe.go t ha h f p=some (.empty j d)->∀ i,t.slot (d.getD j)≠.live i
 | 0,p,j,d,_,e=>by unfold SetTable.probe.go at e;cases e
 | f+1,p,j,d,hd,e=>by
  unfold SetTable.probe.go at e
  cases hs:t.slot p.j with
  | empty=>
   rw [hs] at e;injection e with e;injection e with e1 e2;subst e1 e2;intro i z
   cases hq:p.dummy with
   | none=>rw [hq] at z;rw [zCp,hs] at z;cases z
   | some q=>rw [hq] at z;rw [Option.getD_some,hd q hq] at z;cases z
  | dummy=>
   rw [hs] at e;exact LW f _ j d (fun q hq=>by rw [Jp] at hq;injection hq with hq;subst hq;exact hs) e
  | live k=>
   rw [hs] at e;dsimp only at e;split at e
   ·injection e with e;cases e
   ·exact LW f _ j d (fun q hq=>by rw [Jp] at hq;exact hd q hq) e
theorem GG{t:SetTable}{h:Int}{sl:Nat}{b:Bool}(e:t.freeSlot h=some (sl,b)):∀ i,t.slot sl≠.live i:=by
 unfold SetTable.freeSlot at e;split at e
 ·rename_i j d hp
  injection e with e;injection e with e1 _;subst e1;exact LW _ _ j d (fun q hq=>by cases hq) hp
 ·cases e
theorem GA{t:SetTable}{j:Nat}(hr:QN t.place)(h:∀ i,t.slot j≠.live i):∀ i:Nat,t.place[i]? ≠ some j:=fun i e=>by
 refine h i ?_;unfold SetTable.slot;rw [ZJI hr e];simp [e]
def UP(l:Bool)(t:SetTable):Prop:=t.led=l/\QN t.place
theorem OR{l:Bool}{t:SetTable}(h:UP l t)(n:Nat):UP l (t.standIn n):=⟨h.1,fun i k x y hik ex ey=>by
 show x<y;have ex':(Array.range n)[i]? = some x:=ex;have ey':(Array.range n)[k]? = some y:=ey;obtain ⟨_,e1⟩:=zA1.mp ex';obtain ⟨_,e2⟩:=zA1.mp ey';rw [Array.getElem_range] at e1 e2
 lia⟩
theorem C9{l:Bool}{t:SetTable}{h:Int}{sl:Nat}{b:Bool}(k:UP l t)(e:t.freeSlot h=some (sl,b)):UP l (t.put sl).1:=⟨k.1,Es k.2 (GA k.2 (GG e))⟩
theorem AI{l:Bool}{t:SetTable}(k:UP l t)(es:Array (Int×Value))(h:Int)(x:Value):UP l (layNew t es h x).2.1:=by
 unfold layNew;split
 ·rename_i sl b e
  have:=C9 k e;show UP l ((t.put sl).1.orStandIn _);unfold SetTable.orStandIn;split
  ·exact this
  ·exact OR this _
 ·exact OR k _
theorem Ah{l:Bool}{mask finger moves:Nat}{plain:Bool}{hs:Array Int}{t:SetTable}{od:Array Nat}(e:SetTable.laid mask finger moves l plain hs=some (t,od)):UP l t:=by
 unfold SetTable.laid at e
 cases hc:SetTable.layClean mask hs with
 | none=>rw [hc] at e;cases e
 | some ow=>
  rw [hc] at e;injection e with e;injection e with e1 _;subst e1;refine ⟨rfl,Wq.mpr ?_⟩;show (((zAi (mask+1)).filterMap fun j=>(ow.getD j none).map (j,·)).map (·.1)).Pairwise (· < ·);rw [List.pairwise_map,List.pairwise_filterMap];refine zDR.imp fun{a b} hab p hp q hq=>?_;obtain ⟨_,_,rfl⟩:=zAa.mp hp;obtain ⟨_,_,rfl⟩:=zAa.mp hq;exact hab
theorem FH{l:Bool}{t:SetTable}(k:UP l t)(es:Array (Int×Value))(n:Nat):UP l (relayAll t es n).2.1:=by
 unfold relayAll;split
 ·rename_i t' od e
  dsimp only;split
  ·have hl:t.led=l:=k.1;unfold SetTable.relaid at e;rw [hl] at e;exact Ah e
  ·exact OR k _
 ·exact OR k _
def iv:Value->Int
 | .int i _=>i
 | _=>0
def UB(w:World):Bool:=w.params.followText "set-order"
section
variable{prog:Program}{w:World}{A:Around}{E:ja}{s:Shared}
structure W9(prog:Program)(w:World)(es:Array (Int×Value))(t:SetTable)(ms:List Int):Prop where
 el:ElemsOf (intKind prog w) es.toList
 pm:(es.toList.map fun e=>iv e.2).Perm ms
 sz:es.size<scanBound
 ft:t.fits es.size=true
 ld:UP (!UB w) t
def Yv(prog:Program)(w:World)(h:Heap)(a:Addr)(ms:List Int):Prop:=∃ o es ep t,h.get? a=some o/\o.ExactSet/\o.data=.set es ep t/\W9 prog w es t ms
theorem W9.len{es:Array (Int×Value)}{t:SetTable}{ms:List Int}(h:W9 prog w es t ms):es.size=ms.length:=by
 have:=h.pm.length_eq;simpa using this
theorem AH{l:List (Int×Value)}(h:ElemsOf (intKind prog w) l){e:Int×Value}(he:e∈l):∃ tk,e=(hashInt (iv e.2),.int (iv e.2) tk):=by
 obtain ⟨⟨k,h1,h2⟩,_⟩:=h e he;obtain ⟨tk,h3⟩:=Value.isInt_shape (show Value.isInt k e.2=true from h1);obtain ⟨a,b⟩:=e;dsimp only at h2 h3;subst h3;exact ⟨tk,by rw [h2];rfl⟩
theorem W9.mem{es:Array (Int×Value)}{t:SetTable}{ms:List Int}(h:W9 prog w es t ms)(k:Int):decide (k∈ms)=true ↔ ∃ e∈es.toList,(intKind prog w).is k e.2=true:=by
 rw [decide_eq_true_eq,<-h.pm.mem_iff,zAb];constructor
 ·rintro ⟨e,he,rfl⟩;obtain ⟨tk,ee⟩:=AH h.el he;exact ⟨e,he,by rw [ee];exact intKind_is _ _ _ _⟩
 ·rintro ⟨e,he,hk⟩;obtain ⟨tk,ee⟩:=Value.isInt_shape (show Value.isInt k e.2=true from hk);exact ⟨e,he,by rw [ee];rfl⟩
theorem Yv.at{h h':Heap}{a:Addr}{ms:List Int}(x:Yv prog w h a ms)(k:∀ o,h.get? a=some o->h'.get? a=some o):Yv prog w h' a ms:=by
 obtain ⟨o,es,ep,t,ho,r⟩:=x;exact ⟨o,es,ep,t,k _ ho,r⟩
theorem Yv.perm{h:Heap}{a:Addr}{ms ms':List Int}(x:Yv prog w h a ms)(p:ms.Perm ms'):Yv prog w h a ms':=by
 obtain ⟨o,es,ep,t,ho,hx,hd,D⟩:=x;exact ⟨o,es,ep,t,ho,hx,hd,D.el,D.pm.trans p,D.sz,D.ft,D.ld⟩
theorem KK{h:Heap}{a:Addr}{o:Obj}{es:Array (Int×Value)}{ep:Nat}{t:SetTable}(ho:h.get? a=some o)(hx:o.ExactSet)(hd:o.data=.set es ep t){es':Array (Int×Value)}{t':SetTable}{ms:List Int}(D:W9 prog w es' t' ms):
  (h.update a (Obj.putSet es' t')).get? a=some { o with data:=.set es' (ep+1) t' }/\Yv prog w (h.update a (Obj.putSet es' t')) a ms:=by
 have g:=(SetOf_store (knd:=intKind prog w) ho hx hd D.el D.mem D.sz D.ft).1;exact ⟨g,_,es',ep+1,t',g,hx,rfl,D⟩
theorem A5{a:Addr}{ms:List Int}{x:Int}{tk:Tok}{Q:Bool->Shared->Prop}(hS:Yv prog w s.heap a ms)(hx:x∉ms)(hm:ms.length+1<scanBound)(h:∀ h',zA6 a s.heap h'->Yv prog w h' a (ms++[x])->Q true { s with heap:=h' }):wpAny (model prog w) A (setAddHashed a (.int x tk) (hashInt x)) Q E s:=by
 obtain ⟨o,es,ep,t,ho,hex,hd,D⟩:=hS;have ki:(intKind prog w).is x (.int x tk)=true:=intKind_is _ _ _ _;have hno:es.toList.findIdx? (fun e=>(intKind prog w).is x e.2)=none:=List.findIdx?_eq_none_iff.mpr fun e he=>by
  cases q:(intKind prog w).is x e.2 with
  | false=>rfl
  | true=>exact absurd (of_decide_eq_true ((D.mem x).mpr ⟨e,he,q⟩)) hx
 unfold setAddHashed setAddHashedIn;refine wpAny_holding (wpAny_bind (wpAny_setState_of ho hd D.ft ?_));dsimp only;rw [byScan_of (knd:=intKind prog w) rfl D.sz D.el];simp only [↓reduceIte];unfold setAddByScan;refine wpAny_bind (wpAny_bind (wpAny_rule (wpAny_bind ?_)));refine wpAny_setScan_of (knd:=intKind prog w) ki ho hd D.ft D.el ?_;rw [hno];dsimp only;have gw:∀(b:Bool){s₁:Shared}{Q':Unit->Shared->Prop},Q' () s₁->wpAny (model prog w) A (match b with | true=>rule "set.scan.the-table-gave-way" | false=>pure ()) Q' E s₁:=fun b s₁ Q' hq=>by
  cases b
  ·exact wpAny_pure hq
  ·exact wpAny_rule hq
 have hp:=layNew_perm t es (hashInt x) (.int x tk);have hf:=layNew_fits t es (hashInt x) (.int x tk);have hl:=AI D.ld es (hashInt x) (.int x tk);show wpAny _ _ (match layNew t es (hashInt x) (.int x tk) with | (es,t,wasDummy,gave)=>_) _ _ _
 generalize layNew t es (hashInt x) (.int x tk)=N at hp hf hl;obtain ⟨es1,t1,wd,gv⟩:=N;dsimp only at hp hf hl ⊢;rw [zCo] at hp;have D1:W9 prog w es1 t1 (ms++[x]):=⟨(D.el.push ki rfl).perm hp,(hp.map _).trans (by rw [zAV];exact D.pm.append_right _),by
  have:=hp.length_eq;rw [zAI,zA4,zA4,D.len] at this;simp only [zBM] at this
  lia,hf,hl⟩
 have tail:∀(t2:SetTable),W9 prog w es1 t2 (ms++[x])->wpAny (model prog w) A (do
    storeSet a es1 t2
    if (!wd&&t2.tooFull)=true then do
      (match (relayAll t2 es1 (SetTable.grown es1.size)).2.2 with | true=>rule "set.scan.the-table-gave-way" | false=>pure ())
      storeSet a (relayAll t2 es1 (SetTable.grown es1.size)).1 (relayAll t2 es1 (SetTable.grown es1.size)).2.1
      pure (some true)
     else pure (some true)) (fun(r:Option Bool) s'=>r=some true/\Q true s') E s:=fun t2 D2=>by
  refine wpAny_bind (wpAny_storeSet_of ho hd ?_ (fits_of_scanBound D2.sz));obtain ⟨g2,L2⟩:=KK ho hex hd D2;have b2:=zA6.update s.heap a (Obj.putSet es1 t2);refine wpAny_ite ?_;split
  ·have p3:=relayAll_perm t2 es1 (SetTable.grown es1.size);have f3:=relayAll_fits t2 es1 (SetTable.grown es1.size);have l3:=FH D2.ld es1 (SetTable.grown es1.size);generalize relayAll t2 es1 (SetTable.grown es1.size)=R at p3 f3 l3 ⊢;obtain ⟨es3,t3,g3⟩:=R;dsimp only at p3 f3 l3 ⊢;have z3:es3.size<scanBound:=by have:=p3.length_eq;rw [zA4,zA4] at this;have:=D2.sz;lia
   refine wpAny_bind (gw g3 (wpAny_bind (wpAny_storeSet_of g2 rfl ?_ (fits_of_scanBound z3))));exact wpAny_pure ⟨rfl,h _ (b2.trans (zA6.update _ a _)) (KK g2 hex rfl ⟨D2.el.perm p3,(p3.map _).trans D2.pm,z3,f3,l3⟩).2⟩
  ·exact wpAny_pure ⟨rfl,h _ b2 L2⟩
 refine wpAny_bind (gw gv ?_);by_cases jr:t1.plain=true
 ·rw [if_pos jr];refine wpAny_bind ?_;rw [hashByValue_scannable 8 rfl];refine wpAny_pure ?_;exact wpAny_mono (tail t1 D1) (fun r s' z=>by obtain ⟨rfl,q⟩:=z;exact wpAny_pure q) fun _ _ z=>z
 ·rw [if_neg jr];refine wpAny_bind (wpAny_pure ?_);exact wpAny_mono (tail t1 D1) (fun r s' z=>by obtain ⟨rfl,q⟩:=z;exact wpAny_pure q) fun _ _ z=>z
end
section
variable{α:Type}{M:Model}{prog:Program}{w:World}{A:Around}{E:ja}{s:Shared}
end
section
variable{α:Type}{M:Model}{prog:Program}{w:World}{A:Around}{E:ja}
theorem FL{s:Shared}{Q:Bool->Shared->Prop}(h:Q (UB w) s):wpAny (model prog w) A setsByText Q E s:=by
 unfold setsByText;exact wpAny_bind (wpAny_askSetting (wpAny_pure h))
end
section
variable{prog:Program}{w:World}{A:Around}{E:ja}{s:Shared}
end
end L2
namespace L2
open PySem PyProof.Rows
section
variable{prog:Program}{w:World}{A:Around}{E:ja}{s:Shared}
theorem HZ:∀{vs:jd}{ns:List Int}{i:Nat}{n:Int},IntsAre vs ns->ns[i]? = some n->∃ t,vs[i]? = some (.int n t)
 | _,_,_,_,.nil,e=>by simp at e
 | _,_,0,_,.cons m t _,e=>by simp at e;subst e;exact ⟨t,rfl⟩
 | _,_,i+1,n,.cons _ _ r,e=>by
  obtain ⟨t,q⟩:=HZ (i:=i) (n:=n) r (by simpa using e)
  exact ⟨t,by simpa using q⟩
theorem Ag{R:Result->Shared->Prop}{d it l:Addr}{h₀:Heap}{items:Array Value}{ns:List Int}(hA:A.handled=none)(hI:IntsAre items.toList ns)(jL:ns.Nodup)(hb:ns.length+1<scanBound)(hli:l≠it)(hld:l≠d)(hid:it≠d)(hl:h₀.IsList l items)(hR:∀ h' tk,(∀ b o,b≠it->b≠d->h₀.get? b=some o->h'.get? b=some o)->Yv prog w h' d ns->R (.ok (.ret .none)) { s with heap:=h',toks:=tk }):
  ∀(n i:Nat)(h:Heap)(tk:Nat),n=items.size - i->i<=items.size->h.IsListIter it l i->Yv prog w h d (ns.take i)->(∀ b o,b≠it->b≠d->h₀.get? b=some o->h.get? b=some o) ->
   codeAny (model prog w) A (.builtin "set.update.loop" ⟨[.ref d,.ref it],[]⟩) R { s with heap:=h,toks:=tk }:=by
 have hln:ns.length=items.size:=by have:=IntsAre.length hI;simpa using this.symm
 intro n
 induction n with
 | zero=>
  intro i h tk hn hi hit hS kp;have hi':i=items.size:=by lia
  have hl':h.IsList l items:=by obtain ⟨o,ho,r⟩:=hl;exact ⟨o,kp _ _ hli hld ho,r⟩
  refine codeAny_builtin F.entry_set_update_loop ?_;rw [Around.under_plainId F.plain_set_update_loop _];show wpAny _ A.in1 (pyNext (.ref it) >>= _) _ _ _;refine wpAny_bind (wpAny_pyNext_list_end (s:={ s with heap:=h,toks:=tk }) hA hit hl' (by rw [hi'];simp) fun h2 ex=>?_)
  refine wpAny_pure (hR h2 tk (fun b o n1 n2 e=>ex b o n1 (kp b o n1 n2 e)) ?_);rw [zAU (by lia)] at hS
  exact hS.at fun o e=>ex d o (Ne.symm hid) e
 | succ n ih=>
  intro i h tk hn hi hit hS kp;have hlt:i<items.size:=by lia
  have hl':h.IsList l items:=by obtain ⟨o,ho,r⟩:=hl;exact ⟨o,kp _ _ hli hld ho,r⟩
  have en:ns[i]? = some ns[i]:=zAE (by lia)
  obtain ⟨t,ex⟩:=HZ hI en;rw [zAj] at ex;refine codeAny_builtin F.entry_set_update_loop ?_;rw [Around.under_plainId F.plain_set_update_loop _];show wpAny _ A.in1 (pyNext (.ref it) >>= _) _ _ _;refine wpAny_bind (wpAny_pyNext_list_item (s:={ s with heap:=h,toks:=tk }) hit hl' ex fun h2 hit2 sb=>?_);have hS2:=hS.at fun o e=>(sb.2 d (Ne.symm hid)).trans e;have hx:ns[i]∉ns.take i:=fun z=>by
   obtain ⟨j,e⟩:=zBL.mp z;rw [zCF] at e;split at e
   ·rename_i hj
    obtain ⟨q1,q2⟩:=zAK.mp e;exact zBU.mp jL j i q1 (by lia) hj q2
   ·cases e
  refine wpAny_bind (wpAny_holding ?_);unfold setAdd;refine wpAny_holding (wpAny_bind (wpAny_pyHash_int ?_));refine A5 (s:={ s with heap:=h2,toks:=tk+1 }) hS2 hx (by rw [zA8];lia) fun h3 sb3 hS3=>?_
  have e3:ns.take (i+1)=ns.take i++[ns[i]]:=by rw [zAo,en];rfl
  rw [<-e3] at hS3;have hit3:h3.IsListIter it l (i+1):=by
   obtain ⟨o,ho,r⟩:=hit2;exact ⟨o,(sb3.2 it hid).trans ho,r⟩
  exact wpAny_pure ⟨plainId_quiet F.plain_set_update_loop _,ih (i+1) h3 (tk+1) (by lia) (by lia) hit3 hS3 fun b o z1 z2 e=>(sb3.2 b z2).trans ((sb.2 b z1).trans (kp b o z1 z2 e))⟩
theorem Ba(h:Heap):Yv prog w (h.push { cls:=.type "set",dict:=none,data:=.set #[] 0 (.fresh 0 0 (!UB w)) }) h.objs.size []:=
 ⟨_,#[],0,_,zAQ _ rfl,⟨rfl,rfl,rfl⟩,rfl,⟨fun e he=>by simp at he,by simp,by decide,by rfl,rfl,fun i k x y _ ex _=>by simp [SetTable.fresh] at ex⟩⟩
theorem AV{Q:ja}(h:Q (.ref s.heap.objs.size) { s with heap:=s.heap.push { cls:=.type "set",dict:=none,data:=.set #[] 0 (.fresh 0 0 (!UB w)) } }):wpAny (model prog w) A (newSet (.type "set")) Q E s:=by
 unfold newSet;refine wpAny_bind (FL ?_);dsimp only;simp only [newObj];exact wpAny_bind (wpAny_alloc (wpAny_pure h))
theorem D8(v:Value){Q₁:ja}(h:Q₁ (.ref s.heap.objs.size) { s with heap:=s.heap.push { cls:=.type "set",dict:=none,data:=.set #[] 0 (.fresh 0 0 (!UB w)) } }):
  codeAny (model prog w) A (.call (.builtin "set.__new__") ⟨[.type "set",v],[]⟩) (wants Q₁ E) s:=by
 refine codeAny_of_tree ?_;show wpAny _ A.in1 (do checkBuiltinCall "set.__new__" ⟨[.type "set",v],[]⟩;again (.builtin "set.__new__" ⟨[.type "set",v],[]⟩)) _ _ s
 refine wpAny_bind (wpAny_of_eq (F.newCall_set_1 v) (wpAny_pure ⟨plainId_quiet F.plain_set_new _,codeAny_builtin F.entry_set_new ?_⟩));rw [Around.under_plainId F.plain_set_new _];unfold Builtin.«set.__new__»;refine wpAny_bind (wpAny_bind ?_);refine wpAny_pure ?_;dsimp only;rw [if_neg (by decide)]
 refine wpAny_bind (wpAny_of_eq (show isSubtype (.type "set") (.type "set")=pure true by rw [isSubtype_type];kernel_rfl) ?_)
 rw [if_neg (by decide)]
 exact wpAny_pure (wpAny_bind (AV (wpAny_pure h)))
theorem Al{Q:ja}{l:Addr}{items:Array Value}{n:Nat}{ns:List Int}(hA:A.handled=none)(hl:s.heap.get? l=some { cls:=.type "list",data:=.seq items n })(hI:IntsAre items.toList ns)(jL:ns.Nodup)(hb:ns.length+1<scanBound)(h:∀ h' tk,(∀ b o,s.heap.get? b=some o->h'.get? b=some o)->Yv prog w h' s.heap.objs.size ns->Q (.ref s.heap.objs.size) { s with heap:=h',toks:=tk }):wpAny (model prog w) A (call (.type "set") [.ref l]) Q E s:=by
 have z1:=F.called_set.made;have z2:=F.called_set.sub;have z3:=F.called_set.notType;have z4:=F.called_set.canCreate;have z5:=F.typeCall_set_1 (.ref l);obtain ⟨c,tl,z6⟩:=F.called_set.mro;have hnew:=Ba (prog:=prog) (w:=w) s.heap;have hl1:(s.heap.push { cls:=.type "set",dict:=none,data:=.set #[] 0 (.fresh 0 0 (!UB w)) }).get? l=some { cls:=.type "list",data:=.seq items n }:=zAG _ hl;have lts:l<s.heap.objs.size:=zAP hl;have g0:(s.heap.push { cls:=.type "set",dict:=none,data:=.set #[] 0 (.fresh 0 0 (!UB w)) }).get? s.heap.objs.size=some { cls:=.type "set",dict:=none,data:=.set #[] 0 (.fresh 0 0 (!UB w)) }:=zAQ _ rfl;refine wpAny_call (codeAny_of_tree ?_);show wpAny _ _ (callAny (.type "set") _) _ _ _;refine wpAny_pure ⟨Code.quiet_builtin _ (by decide +kernel),codeAny_builtin F.entry_type_call ?_⟩
 rw [Around.under_plain (weight_type_call_type "set" [.ref l] []) rfl]
 repeat (any_goals (first | assumption | wp_step))
 refine codeAny_mono (D8 (.ref l) (E:=E) (Q₁:=fun v s₁=>v=.ref s.heap.objs.size/\s₁={ s with heap:=s.heap.push { cls:=.type "set",dict:=none,data:=.set #[] 0 (.fresh 0 0 (!UB w)) } }) ⟨rfl,rfl⟩) fun r s₁ hr=>?_;rcases r with _ | fl
 ·exact hr
 cases fl with
 | ret v=>
  obtain ⟨rfl,rfl⟩:=hr;have hT:Shared.TypeIs { s with heap:=s.heap.push { cls:=.type "set",dict:=none,data:=.set #[] 0 (.fresh 0 0 (!UB w)) } } (.ref s.heap.objs.size) "set" :=⟨_,g0,rfl⟩;have y1:=F.called_set.init.lookup;have y2:=F.called_set.init.bind (.ref s.heap.objs.size)
  repeat (any_goals (first | assumption | wp_step))
  refine codeAny_mono (codeAny_call_builtin (R:=wants (fun r s₂=>r=.none/\Q (.ref s.heap.objs.size) s₂) E) F.called_set.init.plain F.entry_set_init (check_set_init_1 hT ?_)) fun r₂ s₂ hr₂=>?_
  ·have f1:=F.sub_list_set;have f2:=F.sub_list_frozenset;have f3:(Value.type "list" == Value.type "dict")=false:=by decide
   unfold Builtin.«set.__init__» noKeywords Builtin.Frozenset.updateFrom;generalize hPI:pyIter=PI
   wp_walk
   subst hPI;have hL:Heap.IsList (s.heap.push { cls:=.type "set",dict:=none,data:=.set #[] 0 (.fresh 0 0 (!UB w)) }) l items:=⟨_,hl1,rfl,_,rfl⟩;refine wpAny_pyIter_list hL ?_;refine wpAny_bind (wpAny_runValue ?_);refine Ag (d:=s.heap.objs.size) (l:=l) (items:=items) (ns:=ns) (h₀:=(s.heap.push { cls:=.type "set",dict:=none,data:=.set #[] 0 (.fresh 0 0 (!UB w)) }).push { cls:=.type "list_iterator",data:=.fields #[.ref l,.int 0 0] }) (by simp [hA]) hI jL hb ?_ (zAg lts) ?_ (hL.push _) (fun h3 tk3 k3 hS3=>?_) _ 0 _ _ rfl (zAd _) ⟨_,zAQ _ rfl,rfl,rfl⟩ ((hnew.at fun o e=>zAG _ e).perm (by simp)) (fun b o _ _ e=>e)
   ·rw [zBq];exact zAg (zB0 lts)
   ·rw [zBq];exact zCG (zBe _)
   ·refine wpAny_pure (wpAny_pure ⟨rfl,h h3 tk3 (fun b o e=>k3 b o ?_ (zAg (zAP e)) (zAG _ (zAG _ e))) hS3⟩);rw [zBq];exact zAg (zB0 (zAP e))
  ·rcases r₂ with _ | fl₂
   ·exact hr₂
   cases fl₂ with
   | ret r=>
    obtain ⟨rfl,hq⟩:=hr₂
    repeat (any_goals (first | assumption | wp_step))
   | _=>exact hr₂.elim
 | _=>exact hr.elim
end
end L2
namespace L2
open PySem PySem.Spec PyProof.Rows
def QG(P:Program)(w:World)(p:Addr)(ms:List Int):HO:=.ext fun h=>Yv P w h p ms
theorem ZNf{P:Program}{w:World}{H:Hp}{h:Heap}{p:Addr}{ms:List Int}(x:Yv P w h p ms):Ze P w H h p (QG P w p ms):=by
 refine ⟨x,?_,fun h1 h2 y k=>y.at k⟩;obtain ⟨o,_,_,_,g,_⟩:=x;exact ⟨o,g⟩
section
variable{X:Cx}{pins:List (Addr×Obj)}{σ:St}{H:Hp}{s:Shared}
theorem Gj(I:ZI X pins σ H s){a:Addr}{ms:List Int}(h:H a=some (QG X.prog X.w a ms)):Yv X.prog X.w s.heap a ms:=(I.hok a _ h).1
theorem Dh:bootBuiltins "set" = some (.type "set"):=by decide +kernel
theorem ZNs{n:Nat}(h:n<1000):n+1<scanBound:=by unfold scanBound;lia
def Ll(P:Program)(w:World):je->Hp->VK->Prop:=fun xs H Q=>∃(a:Addr)(ns:List Int),xs=[.ref a]/\H a=some (.lst (ns.map V.int))/\ns.Nodup/\ns.length<1000/\∀ p,H p=none->Q (.ref p) (upd H p (QG P w p ns))
theorem ZG8(hc:X.calm=true):Wr X (.type "set") (Ll X.prog X.w):=by
 intro pins s σ H xs us Q I r h;obtain ⟨a,ns,rfl,ha,nd,hl,q⟩:=h;obtain ⟨u,rfl,ru⟩:=VI r;cases ru;obtain ⟨z,ji,n,rv,_,e⟩:=I.lstM ha;refine Al (I.ok.hd hc) e (by simpa using IB rv) nd (ZNs hl) fun h' tk k1 hS=>?_
 exact ⟨.ref s.heap.objs.size,_,I.laid (a:=s.heap.objs.size) (o:=QG X.prog X.w s.heap.objs.size ns) (t':=tk) k1 (zAH _) (ZNf hS),rfl,q _ (I.hok.fresh (zAH _))⟩
end
section
variable{prog:Program}{w:World}{A:Around}{E:ja}{s:Shared}{T:String}{r d:Addr}{n:Nat}{P:Nat->Value->Prop}{OK:Heap->Prop}
end
section
variable{X:Cx}
theorem Em{n:Nat}(h:n<1000):((n:Nat):Int)<2 ^ 63:=Int.lt_trans (Int.ofNat_lt.mpr h) (by decide)
theorem G7:Wr X (.builtin "len") (fun xs H Q=>∃ a ms,xs=[V.ref a]/\H a=some (QG X.prog X.w a ms)/\ms.length<1000/\Q (.int ms.length) H):=by
 intro pins s σ H xs us Q I r h;obtain ⟨a,ms,rfl,ha,hl,q⟩:=h;obtain ⟨u,rfl,ru⟩:=VI r;cases ru;obtain ⟨o,es,ep,t,ho,hx,hd,D⟩:=Gj I ha;have e:=D.len;refine call_len_set ho hx hd D.ft (Em (by rw [e];exact hl)) ?_
 exact ⟨.int ms.length,H,I.kept (t':=s.toks+1+1) (fun b o q=>q),⟨_,by rw [e]⟩,q⟩
end
end L2
namespace Tw
open PySem PySem.Spec L2 PyProof.Rows
abbrev Pr:=Int×Int
def pk(p:Pr):KT:=.tup [.int p.1,.int p.2]
def cW(w:List (Nat×Nat)):List Pr:=w.map fun s=>((s.1:Int),(s.2:Int))
theorem IV(w:List (Nat×Nat)):(cW w).map pk=w.map O6:=by unfold cW;rw [zB3];rfl
theorem PL(w:List (Nat×Nat)):(cW w).length=w.length:=zAD _
theorem My(a b:List (Nat×Nat)):cW (a++b)=cW a++cW b:=zAV
theorem pair_at'{H:Hp}{ps:List Pr}{us:je}{i:Nat}{u:V}(h:KeysAt H (ps.map pk) us)(e:us[i]? = some u):∃ t p,ps[i]? = some p/\u=.ref t/\H t=some (.tup [.int p.1,.int p.2]):=by
 obtain ⟨t,et,kt⟩:=h.get e;rw [zAM] at et;obtain ⟨p,ep,rfl⟩:=zAa.mp et;unfold pk at kt;rw [ZE] at kt;obtain ⟨a,vs,rfl,ha,hk⟩:=kt;rw [KeysAt] at hk;obtain ⟨v1,r1,rfl,k1,hk⟩:=hk;rw [KeysAt] at hk;obtain ⟨v2,r2,rfl,k2,hk⟩:=hk;rw [KeysAt] at hk;subst hk;rw [ZE] at k1 k2;subst k1 k2;exact ⟨a,p,ep,rfl,ha⟩
theorem Jg{ts:List ZT}{k:KT}{j:Nat}:∃ r,Y0 ts k (some j)=(j,Yw ts k j) :: r:=by
 show ∃ r,VX ts k (gd ts j).h j=_
 cases (gd ts j).h with
 | zero=>exact ⟨[],by rw [VX]⟩
 | succ n=>exact ⟨_,by rw [VX]⟩
section
variable{P:Program}{w:World}{K:zAA}{mg:jb}{base:Heap}{f:Addr}{fd:FuncData}{jg jh CT CK:Addr}
abbrev LR:Stmt:=We (Zt 43) 16
theorem Ff:ZD ["self"] ["self"] (Zg LR):=Zu
inductive Yq(jg jh:Addr)(vs:je)(H:Hp)(Q:VK)(_:XK):Prop
 | mk (X:Yx) (lk:Addr) (c:Nat) (ls:je) (_:vs=[.ref X.S]) (_:YE jg jh H X lk c ls) (_:X.ts.length<1000) (_:∀ p,H p=none->Q (.ref p) (upd H p (.lst (((zAi X.ts.length).map fun i:Nat=>(i:Int)).map V.int))))
theorem Ab(F:Zq K "numbers" "Shelf.numbers" LR f fd)(T:YD mg)(L:Yt K mg jg jh):ZM P w K mg base ZU 1 f fd ["self"] (Yq jg jh):=by
 refine F.ok Ff (fun vs H Q E h=>(by obtain ⟨_,_,_,_,rfl,_⟩:=h;rfl)) (fun cdv A outer s H vs Q E hr h=>?_)
 obtain ⟨X,lk,c,ls,rfl,R,l9,k⟩:=h;refine ⟨_,ZW (Zk (Z0 (BC rfl) rfl T.sorted AS (ZG (WU (pv 0) rfl) ZH))),?_⟩;obtain ⟨⟨dx,hS⟩,hd,js⟩:=R.sh;refine ⟨_,rfl,X.S,jg,dx,_,.ref X.d,rfl,hS,L.cS,L.nk,rfl,X.d,X.kvs,(zAi X.ts.length).map fun i:Nat=>(i:Int),rfl,hd,?_,?_,by rw [zAD,zCq];exact l9,k⟩
 ·rw [R.keys,zB3];rfl
 ·rw [List.pairwise_map];exact zCl.imp (fun{a b}(h:a<b)=>by show (a:Int)<=(b:Int);lia) zDR
inductive Xp(gt:List KT)(jg jh CT CK:Addr)(vs:je)(H:Hp)(Q:VK)(E:XK):Prop
 | mk (X:Yx) (lk:Addr) (c:Nat) (ls:je) (r:Option Int) (v:V) (o:Option KT) (l:Addr) (us:je) (ps:List Pr) (_:vs=[.ref X.S,Z2 r,v,.ref l]) (_:Pq gt jg jh CT CK H X lk c ls r v o E) (_:H l=some (.lst us)) (_:l≠lk) (_:KeysAt H (ps.map pk) us) (_:∀(k:KT)(rn:Option Nat),o=some k->r=Zv rn->(∀ i,rn=some i->i<X.ts.length)->∀(H':Hp)(pre post:List (Nat×Nat)),(∀ b o,b≠lk->H b=some o->H' b=some o)->YE jg jh H' X lk c (ls++VV pre)->Y0 X.ts k rn=pre++post->(∀ s∈pre,∃ p∈ps,p.1=(s.1:Int))->Q (.bl (decide (ps=cW (Y0 X.ts k rn)))) H')
abbrev AZ:List Str:=["shelf","root","key","way","number","step","found","at"]
theorem Vo:ZD AZ ["shelf","root","key","way"] (Zg N1):=Zu
inductive Aj(X:Yx)(rn:Option Nat)(v:V)(l:Addr)(ps:List Pr)(k:KT)(lk:Addr)(H:Hp)(jg jh:Addr)(c:Nat)(ls:je)(i:Nat)(σ:L2.St)(H':Hp):Prop
 | mk (cur:Option Nat) (pre:List (Nat×Nat)) (x5 x6 x7:jf) (_:σ=[some (.ref X.S),some (Z2 (Zv rn)),some v,some (.ref l),some (Z2 (Zv cur)),x5,x6,x7]) (_:pre.length=i) (_:cW pre=ps.take i) (_:∀ j,cur=some j->j<X.ts.length) (_:Y0 X.ts k rn=pre++Y0 X.ts k cur) (_:∀ b o,b≠lk->H b=some o->H' b=some o) (_:YE jg jh H' X lk c (ls++VV pre))
theorem Av{gt:List KT}(F:Zq K "way_holds" "way_holds" N1 f fd)(L:Yt K mg jg jh)(DC:WD P w K mg base 8 "check_asked" ["shelf","root","key"] (YV jg jh CT CK))(DL:ZJ P w K mg base ZU 2 jg "look" ["self","number"] (Wl jg jh))(DP:ZB P w K mg base 9 "place_within" ["shelf","found","key"] (X2 gt jg jh))(DB:ZB P w K mg base 2 "branch_at" ["found","at"] XB):
  ZM P w K mg base (WO P w) 10 f fd ["shelf","root","key","way"] (Xp gt jg jh CT CK):=by
 refine F.okD Vo (fun vs H Q E h=>(by obtain ⟨_,_,_,_,_,_,_,_,_,_,rfl,_⟩:=h;rfl)) (fun cdv A outer s H vs Q E hr h=>?_)
 obtain ⟨X,lk,c,ls,r,v,o,l,us,ps,rfl,A0,hl,llk,hps,q⟩:=h;have nd:=Vo.nd;have hr2:=hr.mono (show 2<=9 by decide)
 have hr8:=hr.mono (show 8<=9 by decide)
 refine ⟨_,ZQ (WP (Ku PU DC hr8 (UY (pv 0) (pv 1) (pv 2))))
  (ZQ (Zj 4 nd (pv 1))
  (ZQ (V7 EW rfl (VL (pv 3)) (Xd 5 nd)
   (ZQ (Z1 (YN O3 (Zp (r:=Xl K) Zi (pv 5) ZL (fun _ _=>rfl)) (pv 4) (Zy _)) (ZW (Zk Xq)) Z8)
   (ZQ (Zj 6 nd (Xf (E:=E0) (pv 0) L.cS DL hr2 XE (ZG (pv 4) ZH)))
   (ZQ (Zj 7 nd (Zh DP hr (UY (pv 0) (pv 6) (pv 2))))
   (ZQ (Z1 (YN O3 (Zp (r:=Xl K) Zi (pv 5) ZL (fun _ _=>rfl)) (pv 7) (Zy _)) (ZW (Zk Xq)) Z8)
   (ZW (Zj 4 nd (Zh DB hr2 (ZG (pv 6) (ZG (pv 7) ZH))))))))))
  (ZW (Zk (Ct (Gh (pv 4))))))),?_⟩
 obtain ⟨N,hv⟩:=A0.key;refine ⟨_,rfl,_,rfl,_,rfl,X,lk,c,ls,r,v,N,o,rfl,A0.sh,hv,A0.no1,A0.no2,fun gr go H1 s1=>?_⟩;obtain ⟨rn,rfl,jt⟩:=Dx gr;obtain ⟨k,rfl⟩:=zBt.mp go;obtain ⟨kv,fk⟩:=hv;have R1:=A0.sh.same s1;have hw:=A0.wf;have lw:=P1 k A0.low jt;have few:=A0.few;have hlk0:=A0.sh.sh.looks;have frs:∀{pre:List (Nat×Nat)}{i:Nat},cW pre=ps.take i->∀ s∈pre,∃ p∈ps,p.1=(s.1:Int):=fun{pre i} e s hs=>by
  have:((s.1:Int),(s.2:Int))∈cW pre:=zAb.mpr ⟨s,hs,rfl⟩;rw [e] at this;exact ⟨_,List.mem_of_mem_take this,rfl⟩
 have no:∀{H':Hp}{pre post:List (Nat×Nat)},(∀ b o,b≠lk->H b=some o->H' b=some o)->YE jg jh H' X lk c (ls++VV pre)->Y0 X.ts k rn=pre++post->(∀ s∈pre,∃ p∈ps,p.1=(s.1:Int))->ps≠cW (Y0 X.ts k rn)->Q (.bl false) H':=fun fr R e h ne=>by
  have:=q k rn rfl rfl jt _ _ _ fr R e h;rw [decide_eq_false ne] at this;exact this
 refine ⟨_,rfl,_,rfl,l,rfl,⟨us,ZK.of (s1 _ _ hl)⟩,Pf (K:=K) (a:=l) (xs:=us) (Aj X rn v l ps k lk H jg jh c ls)
  ⟨rn,[],_,_,_,rfl,rfl,rfl,jt,rfl,fun b o _ e=>s1 b o e,by rw [show VV []=[] from rfl,zA0];exact R1⟩ (fun i σ H' _ hP=>by obtain ⟨_,_,_,_,_,_,_,_,_,_,fr,_⟩:=hP;exact ZK.of (fr _ _ llk hl)) ?_ ?_⟩
 ·rintro i u σ H2 hu ⟨cur,pre,x5,x6,x7,rfl,li,etk,hcur,epre,fr,R2⟩;have m02:Z6 H H2:=fun b xs e=>fr b _ (ZV e hlk0) e;obtain ⟨tt,p,ep,rfl,ht⟩:=pair_at' (hps.mono m02 _ _) hu;have lps:ps.length=us.length:=by have:=hps.length;rwa [zAD] at this
  have hi:i<ps.length:=(zAK.mp ep).1;refine ⟨_,rfl,tt,_,_,.int p.1,rfl,rfl,Zn.of ht,Xb (j:=0) rfl,?_⟩
  cases cur with
  | none=>
   refine ⟨_,rfl,rfl,_,rfl,Z9 (no fr R2 epre (frs etk) fun z=>?_)⟩;have e1:(Y0 X.ts k rn).length=i:=by rw [epre];show (pre++[]).length=i;rw [zA0];exact li
   have:=congrArg zBh z;rw [PL] at this
   lia
  | some j=>
   have hj:=hcur j rfl;obtain ⟨rest,ew⟩:=Jg (ts:=X.ts) (k:=k) (j:=j);have at_i:(cW (Y0 X.ts k rn))[i]? = some ((j:Int),(Yw X.ts k j:Int)):=by
    rw [epre,ew,My,zAv (by rw [PL];lia),PL,li,Nat.sub_self]
    rfl
   refine ⟨_,rfl,rfl,_,rfl,?_⟩;by_cases h1:p.1=(j:Int)
   ·have d1:(!decide (V.int p.1=Z2 (Zv (some j))))=false:=by
     rw [decide_eq_true (show V.int p.1=Z2 (Zv (some j)) from congrArg V.int h1)];rfl
    rw [d1];have lpre:pre.length+1<=61:=by
     have e:=congrArg zBh epre;rw [ew,zAI,zAW] at e
     lia
    have lw':(VV pre).length=pre.length:=zAD _;obtain ⟨dx,hS⟩:=R2.sh.self;refine Zr ⟨_,rfl,X.S,dx,_,rfl,hS,rfl,_,rfl,X,lk,c,_,j,rfl,R2,hj,by rw [zAI];lia,fun H4 tp l4 ws fr4 R4 htp nl hl4 w1 w2=>?_⟩
    have hlk2:=R2.sh.looks;have m24:Z6 H2 H4:=fun b xs e=>fr4 b _ (ZV e hlk2) e;have llk4:l4≠lk:=(Zb hlk2 nl).symm;have hf4:Y3 (fun b=>b=lk) H4 (gd X.ts j) (.ref tp):=⟨tp,l4,ws,rfl,htp,hl4,llk4,w1,w2⟩;have kv4:=(kv.mono m02 _ _).mono m24 _ _;refine ⟨_,rfl,_,rfl,_,rfl,X,lk,c,_,j,.ref tp,v,k,_,rfl,R4,hw,hj,hf4,kv4,fk,fun H5 s5=>?_⟩;have ht5:=s5 _ _ (m24 _ _ ht);have fr5:∀ b o,b≠lk->H b=some o->H5 b=some o:=fun b o n e=>s5 b o (fr4 b o n (fr b o n e));have ew2:ls++VV pre++[V.int (j:Int)]=ls++VV (pre++[(j,Yw X.ts k j)]):=by unfold VV;simp
    have R5:=R4.same s5;rw [ew2] at R5;refine ⟨_,rfl,tt,_,_,.int p.2,rfl,rfl,Zn.of ht5,Xb (j:=1) rfl,_,rfl,rfl,_,rfl,?_⟩;have pre2:Y0 X.ts k rn=(pre++[(j,Yw X.ts k j)])++rest:=by rw [epre,ew];simp
    by_cases h2:p.2=(Yw X.ts k j:Int)
    ·have d2:(!decide (V.int p.2=V.int ((Yw X.ts k j:Nat):Int)))=false:=by
      rw [decide_eq_true (congrArg V.int h2)];rfl
     rw [d2];have hf5:=hf4.same s5;have etk2:cW (pre++[(j,Yw X.ts k j)])=ps.take (i+1):=by
      rw [My,etk,zAo,ep];show _++[((j:Int),(Yw X.ts k j:Int))]=_++[p];rw [<-h1,<-h2]
     refine Zr ⟨_,rfl,_,rfl,_,gd X.ts j,.ref tp,Yw X.ts k j,rfl,hf5,fun h0=>?_,fun h0=>?_⟩
     ·refine ⟨none,pre++[(j,Yw X.ts k j)],_,_,_,rfl,by rw [zAI];simp;lia,etk2,(fun i z=>by cases z),?_,fr5,R5⟩
      rw [epre];show pre++VX X.ts k (gd X.ts j).h j=_;rw [h0];exact (zA0 _).symm
     ·obtain ⟨n1,n2,n3⟩:=NO hw hj h0 k;refine ⟨UI X.ts k j,n3,some (UI X.ts k j),pre++[(j,Yw X.ts k j)],_,_,_,rfl,by rw [zAI];simp;lia,etk2,(fun i z=>by cases z;lia),?_,fr5,R5⟩
      rw [epre];show pre++VX X.ts k (gd X.ts j).h j=_;rw [<-n2,zCJ];rfl
    ·have d2:(!decide (V.int p.2=V.int ((Yw X.ts k j:Nat):Int)))=true:=by
      rw [decide_eq_false (fun z=>h2 (UC z))];rfl
     rw [d2];refine Z9 (no fr5 R5 pre2 (fun s hs=>?_) fun z=>?_)
     ·rcases zAm.mp hs with y | y
      ·exact frs etk s y
      ·rw [zAS.mp y];exact ⟨p,zAJ ep,h1⟩
     ·rw [<-z,ep] at at_i;exact h2 (congrArg Prod.snd (zAh.inj at_i))
   ·have d1:(!decide (V.int p.1=Z2 (Zv (some j))))=true:=by
     rw [decide_eq_false (show ¬ V.int p.1=Z2 (Zv (some j)) from fun z=>h1 (UC z))];rfl
    rw [d1];refine Z9 (no fr R2 epre (frs etk) fun z=>?_);rw [<-z,ep] at at_i;exact h1 (congrArg Prod.fst (zAh.inj at_i))
 ·rintro σ H2 ⟨cur,pre,x5,x6,x7,rfl,li,etk,hcur,epre,fr,R2⟩;have lps:ps.length=us.length:=by have:=hps.length;rwa [zAD] at this
  rw [zAU (by lia)] at etk
  have:=q k rn rfl rfl jt H2 pre (Y0 X.ts k cur) fr R2 epre (frs (i:=ps.length) (by rw [zAU (zAH _)];exact etk))
  refine ⟨_,rfl,?_⟩
  cases cur with
  | none=>
   have e:ps=cW (Y0 X.ts k rn):=by rw [epre];show ps=cW (pre++[]);rw [zA0];exact etk.symm
   rw [decide_eq_true e] at this;exact this
  | some j=>
   obtain ⟨rest,ew⟩:=Jg (ts:=X.ts) (k:=k) (j:=j);have e:ps≠cW (Y0 X.ts k rn):=fun z=>by
    have:=congrArg zBh z;rw [epre,ew,My,<-etk,zAI] at this;simp [cW] at this
   rw [decide_eq_false e] at this;exact this
end
theorem Y8.sx{gt:List KT}{ts:List ZT}{H H':Hp}{d p:Addr}{kvs:List (ZZ×V)}{F:List Nat}(r:Y8 gt ts H d kvs F)(s:ZC p H H')(W:ZF H p):Y8 gt ts H' d kvs F:=by
 obtain ⟨o,hp⟩:=W.some;exact ⟨s _ _ r.hd (ZV r.hd hp),r.rcd.mono (s.tupsW W),r.clo,r.wf⟩
section
variable{P:Program}{w:World}{K:zAA}{mg:jb}{base:Heap}{f:Addr}{fd:FuncData}
inductive Xu(gt:List KT)(vs:je)(H:Hp)(Q:VK)(_:XK):Prop
 | mk (p:Addr) (ts:List ZT) (d:Addr) (kvs:List (ZZ×V)) (F:List Nat) (rn:Option Nat) (v:V) (k:KT) (_:vs=[.ref p,.ref d,Z2 (Zv rn),v]) (_:ZF H p) (_:Y8 gt ts H d kvs F) (_:∀ i,rn=some i->i∈F) (_:∀ i,i<ts.length->(gd ts i).h<=60) (_:ZE H k v) (_:k.fits 3=true) (_:∀(H':Hp)(D:Addr)(us:je)(ps:List Pr),ZC p H H'->ZF H' p->H D=none->H' D=some (.lst us)->KeysAt H' (ps.map pk) us->ps.length<=61->Q (.ref D) H')
abbrev DE:List Str:=["_law_well_here","_law_record","_law_root","_law_spot","_law_way_here","_law_number","_law_kind","_law_what","_law_at"]
theorem Uq:ZD DE ["_law_well_here","_law_record","_law_root","_law_spot"] (Zg LJ):=Zu
inductive CY(p d:Addr)(rn:Option Nat)(v:V)(D:Addr)(ts:List ZT)(F:List Nat)(H:Hp)(m:Nat)(σ:L2.St)(H':Hp):Prop
 | mk (cur:Option Nat) (ps:List Pr) (us:je) (x6 x7 x8:jf) (_:σ=[some (.ref p),some (.ref d),some (Z2 (Zv rn)),some v,some (.ref D),some (Z2 (Zv cur)),x6,x7,x8]) (_:m=(match cur with | none=>0 | some j=>(gd ts j).h+1)) (_:∀ j,cur=some j->j∈F) (_:ps.length+m<=61) (_:ZC p H H') (_:ZF H' p) (_:H' D=some (.lst us)) (_:KeysAt H' (ps.map pk) us)
theorem GR{gt:List KT}(F0:Zq K "_law_down" "_law_down" LJ f fd)(T:YD mg)(DP:ZB P w K mg base 1 "_law_pull" ["_law_well_here","_law_many"] Zl)(DR:ZB P w K mg base 6 "_law_rank" ["_law_spot"] (Yk 5)):ZM P w K mg base ZU 7 f fd ["_law_well_here","_law_record","_law_root","_law_spot"] (Xu gt):=by
 refine F0.ok Uq (fun vs H Q E h=>(by obtain ⟨_,_,_,_,_,_,_,_,rfl,_⟩:=h;rfl)) (fun cdv A outer s H vs Q E hr h=>?_)
 obtain ⟨p,ts,d,kvs,F,rn,v,k,rfl,W,R,jt,low,hv,fk,q⟩:=h;have nd:=Uq.nd;have hu:=Qt hr;have hr1:=hr.mono (show 1<=6 by decide)
 refine ⟨_,ZQ (Zj 4 nd (YM ZH))
  (ZQ (Zj 5 nd (pv 2))
  (ZQ (Q2 PassesOwn.never (Qr (Oq (pv 5)))
   (ZQ (QE (Ph hu (pv 1) (pv 5) (fun _ _=>rfl)) (Q5 rfl (V8 (Xd 6 nd) (V8 (Xd 7 nd) PX))))
   (ZW (Z1 (YN X9 (pv 6) X3 (Zy _))
    (ZQ (WP (UX zAr zAt zAs UH (pv 4) (ZG (Yh (ZG (pv 5) (ZG (Z0 Xh rfl T.len XT (ZG (Wx [3] ["_law_spot"] rfl (OC (pv 7)) (fun _ _ _ _ _=>OB (YN (MN hr) (Zh DR hr (ZG (Zp (r:=Xl K) Zi (pv 0) ZL (fun _ _=>rfl)) ZH)) (Zh DR hr (ZG (pv 1) ZH)) (Zy _))) (fun _ _ _ _ _=>pv 0) ⟨rfl,.inl rfl,rfl,trivial⟩) ZH)) ZH))) ZH)))
    (ZW (Zj 5 nd Pc)))
    (ZQ (Zj 8 nd (Zh DP hr1 (ZG (pv 0) (ZG (Z0 Xh rfl T.len XT (ZG (pv 7) ZH)) ZH))))
    (ZQ (WP (UX zAr zAt zAs UH (pv 4) (ZG (Yh (ZG (pv 5) (ZG (pv 8) ZH))) ZH)))
    (ZW (Zj 5 nd (Zp (r:=Xl K) Zi (pv 7) (pv 8) (fun _ _=>rfl))))))))))
  (ZW (Zk (pv 4))))),?_⟩
 refine ⟨nn (zAB rfl),fun D nD=>?_⟩;have gD:=ZS nD (.lst []);have eD:=ZN (H:=H) (a:=D) (o:=.lst []);generalize upd H D (.lst [])=H1 at gD eD ⊢;have Dp:D≠p:=WY W nD;refine ⟨_,rfl,?_⟩;refine ⟨CY p d rn v D ts F H,
  ⟨_,rn,[],[],none,none,none,rfl,rfl,jt,?_,ZC.of gD,W.same gD,eD,.nil⟩,?_⟩
 ·cases rn with
  | none=>exact zAd _
  | some i=>
   have:=low i (R.rcd.lt i (jt i rfl));show [].length+((gd ts i).h+1)<=61;simp
   lia
 rintro m σ H2 ⟨cur,ps,us,x6,x7,x8,rfl,rfl,hcur,lps,s2,W2,eD2,kus⟩;have lus:us.length=ps.length:=by have:=kus.length;rw [<-this];exact zAD _
 cases cur with
 | none=>exact ⟨_,rfl,_,rfl,Zr ⟨_,rfl,q H2 D us ps s2 W2 nD eD2 kus (by lia)⟩⟩
 | some j=>
  have lps:ps.length+((gd ts j).h+1)<=61:=lps;have hj:=hcur j rfl;have hjl:=R.rcd.lt j hj;have ok:=R.wf j _ (Xk hjl);have R2:=R.sx s2 W;obtain ⟨tp,u,ws,g1,h1,h2,h3,h4⟩:=R2.get hj;have dk:=VU k 3 fk;have fin:∀{H3:Hp}{t:Addr}{n:Int},ZC p H2 H3->ZF H3 p->H3 t=none->KeysAt (upd (upd H3 t (.tup [Z2 (Zv (some j)),.int n])) D (.lst (us++[.ref t]))) ((ps++[((j:Int),n)]).map pk) (us++[.ref t])/\ZC p H (upd (upd H3 t (.tup [Z2 (Zv (some j)),.int n])) D (.lst (us++[.ref t])))/\ZF (upd (upd H3 t (.tup [Z2 (Zv (some j)),.int n])) D (.lst (us++[.ref t]))) p/\Z6 H2 (upd (upd H3 t (.tup [Z2 (Zv (some j)),.int n])) D (.lst (us++[.ref t])))/\upd H3 t (.tup [Z2 (Zv (some j)),.int n]) D=some (.lst us):=fun{H3 t n} s3 W3 nt=>by
   have g:=ZS nt (.tup [Z2 (Zv (some j)),.int n]);have et:=ZN (H:=H3) (a:=t) (o:=.tup [Z2 (Zv (some j)),.int n]);have W4:=W3.same g;generalize upd H3 t (.tup [Z2 (Zv (some j)),.int n])=H4 at g et W4 ⊢;have s4:=s3.trans (ZC.of g);have eD4:=s4 _ _ eD2 Dp;have sD:ZC D H4 (upd H4 D (.lst (us++[.ref t]))):=(ZC.refl D H4).upd;have tD:=sD.tups eD4;have t24:Z6 H2 H4:=s4.tupsW W2;refine ⟨?_,fun b o e n=>by rw [ZX (Zb e nD)];exact s4 b o (s2 b o e n) n,W4.stay sD (Ne.symm Dp),fun b o e=>tD b o (t24 b o e),eD4⟩
   rw [zAV];exact ((kus.mono t24 _ _).mono tD _ _).append (.cons (.tup (tD _ _ et) (.cons (.int _) (.cons (.int _) .nil))) .nil)
  refine ⟨_,rfl,_,rfl,Z9 ⟨_,fun _ _ z=>z,?_⟩⟩;refine ⟨_,rfl,_,rfl,d,.ref tp,rfl,g1,tp,_,rfl,Zn.of h1,rfl,_,_,rfl,_,_,rfl,rfl,?_⟩;refine ⟨_,rfl,rfl,_,rfl,?_⟩;rw [N7];by_cases h0:(gd ts j).h=0
  ·rw [decide_eq_true h0];have kr:=h3 h0;have lr:ws.length=(gd ts j).rows.length:=by have:=kr.length;rw [<-this];exact zAD _
   have l4:=(ok.leaf h0).2;refine Z9 ⟨_,rfl,.inl ⟨rfl,_,ZK.of eD2⟩,_,rfl,_,rfl,u,rfl,⟨ws,Zn.of h2⟩,OE (n:=ws.length) (fun i z=>ws[i]? = some z) (fun i=>((gd ts j).rows.getD i rd).1.lt k) (fun E i ys H3=>ZA H2 H3/\H2 E=none) (Yp (by lia))
    (fun E i ys H3 hi hP=>⟨ws,ws[i],Zn.of (hP.1 _ _ h2),by simp [hi]⟩) (fun E i ys H3 z H4 hi hP hy=>⟨hy.1,hy.2 ws (Zn.of (hP.1 _ _ h2))⟩) (fun E ys H3 hP=>⟨ws,Zn.of (hP.1 _ _ h2),zAH _⟩)
    (fun E hE=>⟨ZS hE _,hE⟩) (fun E i ys H3 z eE hi hz hP B hB=>?_) (fun E i ys H3 z eE hi hz hk hP B hB=>⟨_,rfl,hB _ H3 eE ⟨V2 hP.1 hP.2,hP.2⟩⟩) (fun E i ys H3 eE hi hk hP=>hP) (fun E ys H3 eE hP=>?_)⟩
   ·obtain ⟨s3,nE⟩:=hP;obtain ⟨a,vk,vv,er,rfl,ea,k1,k2⟩:=QA kr hz;have ff:=(ok.inn _ (zAJ er)).1;have df:=VU _ 3 ff;refine ⟨_,rfl,a,_,_,vk,rfl,rfl,Zn.of (s3 _ _ ea),rfl,vk,_,3,rfl,k1.mono (ZA.tups s3) _ _,ff,by lia,fun v1 H4 kv1 s4=>?_⟩
    refine ⟨_,rfl,v,k,3,rfl,(hv.mono (s2.tupsW W) _ _).mono (ZA.tups (s3.trans s4)) _ _,fk,by lia,fun v2 H5 kv2 s5=>?_⟩
    have d1:=Pb ((gd ts j).rows.getD i rd).1;refine ⟨_,_,kv1.mono (ZA.tups s5) _ _,kv2,P2 _ _,by lia,_,rfl,?_⟩
    rw [OA];exact hB H5 ((s4.trans s5) _ _ eE) ⟨s3.trans (s4.trans s5),nE⟩
   ·obtain ⟨s3,nE⟩:=hP;refine ⟨E,ys,rfl,.inl (ZK.of eE),nn (zAB rfl),fun t nt=>?_⟩;obtain ⟨f1,f2,f3,f4,f5⟩:=fin (n:=((ys.length:Nat):Int)) (ZC.of s3) (W2.same s3) nt;refine ⟨D,us,.ref t,rfl,rfl,f5,nn (by lia),?_⟩
    exact ⟨0,(show 0<(gd ts j).h+1 by lia),none,ps++[((j:Int),((ys.length:Nat):Int))],_,_,_,_,rfl,rfl,(fun i z=>by cases z),by rw [zAI];simp;lia,f2,f3,ZN,f1⟩
  ·rw [decide_eq_false h0];obtain ⟨b2,b4,b3,er⟩:=ok.stem h0;have eus:=h4 h0;have lws:ws.length=(gd ts j).bs.length:=by rw [eus];exact zAD _
   refine Zr ⟨_,rfl,_,rfl,u,ws,rfl,.inr (Zn.of h2),p,_,rfl,W2,Yz (by lia) (by lia),fun z H3 z0 z1 W3 s3=>?_⟩
   obtain ⟨n,rfl⟩:∃ n:Nat,z=(n:Int):=⟨z.toNat,by lia⟩
   have hn:n<(gd ts j).bs.length:=by lia
   have eb:(gd ts j).bs[n]? = some ((gd ts j).bs.getD n 0):=by rw [zAC,zAE hn];rfl
   have ab:X8 ws (n:Int)=some (.int (((gd ts j).bs.getD n 0:Nat):Int)):=by rw [eus];exact Xb (by unfold iN;rw [zAM,eb];rfl)
   have eD3:=s3 _ _ eD2 Dp;refine ⟨_,rfl,.inl ⟨rfl,_,ZK.of eD3⟩,_,rfl,_,rfl,nn (zAB rfl),fun t nt=>?_⟩;obtain ⟨f1,f2,f3,f4,f5⟩:=fin (n:=(n:Int)) s3 W3 nt;refine ⟨D,us,.ref t,rfl,rfl,f5,nn (by lia),?_⟩
   have mb:=zAJ eb;have hnF:=R.sub hj mb;have hh:=(b3 _ mb).2;refine ⟨_,rfl,_,rfl,u,_,_,_,rfl,rfl,Zn.of (f4 _ _ h2),ab,?_⟩;exact ⟨(gd ts ((gd ts j).bs.getD n 0)).h+1,(show _<(gd ts j).h+1 by lia),some ((gd ts j).bs.getD n 0),ps++[((j:Int),(n:Int))],_,_,_,_,rfl,rfl,(fun i z=>by cases z;exact hnF),by rw [zAI,zBM];lia,f2,f3,ZN,f1⟩
end
theorem OJ(us:je)(n:Nat)(hn:n<=us.length):VM us none (some (n:Int))=us.take n:=by
 unfold VM;rw [HT.sIx_nat,show min n us.length=n by lia]
 show (us.drop 0).take (n - 0)=us.take n;rw [List.drop_zero,Nat.sub_zero]
theorem OG(us:je)(n:Nat):VM us (some (n:Int)) none=us.drop n:=by
 unfold VM;rw [HT.sIx_nat];show (us.drop (min n us.length)).take (us.length - min n us.length)=us.drop n;rw [zAU (by rw [zBS];lia)]
 rcases zAe n us.length with c | c
 ·rw [show min n us.length=n by lia]
 ·rw [show min n us.length=us.length by lia,zDS (zAH _),zDS c]
theorem Hd(us:je)(lo hi:Option Int):∃ a b,VM us lo hi=(us.drop a).take b:=⟨_,_,rfl⟩
section
variable{P:Program}{w:World}{K:zAA}{mg:jb}{base:Heap}{f:Addr}{fd:FuncData}{cdv:Value}{A:Around}{outer:List Env}{s:Shared}{Hs:Hp}{E:XK}
abbrev Mr:List Str:=["_law_well_here","_law_way_here","_law_numbers","_law_rows","_law_at","_law_number","_law_place","_law_what"]
theorem XQ:ZD Mr ["_law_well_here","_law_way_here","_law_numbers"] (Zg QX):=Zu
theorem Fp(T:YD mg):∃ t,Xg (X7 ZU P w K mg base Mr "_law_spoilt" (Zg QX) f cdv A outer s Hs E).nox ((WQ QX).drop 6) t/\∀(D0:YG)(H:Hp)(rl:Addr)(us:je)(ps:List Pr)(n:Nat)(x y z:Int)(x0 x1 x2:jf),
  H rl=some (.lst us)->KeysAt H (ps.map pk) us->us.length<=100->n<=us.length ->
   (∀(H':Hp)(D:Addr)(us':je)(ps':List Pr),ZA H H'->H D=none->H' D=some (.lst us')->KeysAt H' (ps'.map pk) us'->ps'.length<=ps.length+1->D0.rt (.ref D) H') ->
    t D0 [x0,x1,x2,some (.ref rl),some (.int (n:Int)),some (.int x),some (.int y),some (.int z)] H:=by
 have nd:=XQ.nd;refine ⟨_,ZQ (Z1 (YN X9 (pv 7) ZL (Zy _)) (ZW (Zk (Zo Vi (Zo Vi (V4 V5 (pv 3) UG (Vl (pv 4))) (YM (ZG (Yh (ZG (pv 5) (ZG (pv 6) ZH))) ZH))) (V4 V5 (pv 3) (Vl (pv 4)) UG)))) Z8)
  (ZQ (Z1 (YN X9 (pv 7) ZL (Zy _)) (ZW (Zk (Zo Vi (V4 V5 (pv 3) UG (Vl (pv 4))) (V4 V5 (pv 3) (Vl (Zo Xn (pv 4) ZL)) UG)))) Z8)
  (ZQ (Z1 (YN X9 (pv 4) (Z0 Xh rfl T.len XT (ZG (pv 3) ZH)) (Zy _)) (ZW (Zk (V4 V5 (pv 3) UG (Vl (QD U9 ZL))))) Z8)
  (ZQ (Z1 (YN X9 (pv 7) ZL (Zy _)) (ZW (Zk (Zo Vi (Zo Vi (V4 V5 (pv 3) UG (Vl (pv 4))) (YM (ZG (Yh (ZG (pv 5) (ZG (Zp (r:=Xl K) Zi (Zp (r:=Qb K) Zf (pv 3) (pv 4) (fun _ _=>rfl)) ZL (fun _ _=>rfl)) ZH))) ZH))) (V4 V5 (pv 3) (Vl (Zo Xn (pv 4) ZL)) UG)))) Z8)
  (ZQ (Z1 (YN X9 (pv 7) ZL (Zy _)) (ZW (Zk (Zo Vi (Zo Vi (V4 V5 (pv 3) UG (Vl (pv 4))) (YM (ZG (Yh (ZG (Zp (r:=Xl K) Zi (Zp (r:=Qb K) Zf (pv 3) (pv 4) (fun _ _=>rfl)) ZL (fun _ _=>rfl)) (ZG (pv 6) ZH))) ZH))) (V4 V5 (pv 3) (Vl (Zo Xn (pv 4) ZL)) UG)))) Z8)
  (ZW (Zk (Zo Vi (Zo Vi (V4 V5 (pv 3) UG (Vl (pv 4))) (YM (ZG (Zp (r:=Qb K) Zf (pv 3) (pv 4) (fun _ _=>rfl)) ZH))) (V4 V5 (pv 3) (Vl (pv 4)) UG)))))))),fun D0 H rl us ps n x y z x0 x1 x2 hrl kus l100 hn fin=>?_⟩
 have lps:ps.length=us.length:=by have:=kus.length;rwa [zAD] at this
 have done:∀{H':Hp}{D:Addr}{us':je}{ps':List Pr},ZA H H'->H D=none->H' D=some (.lst us')->KeysAt H (ps'.map pk) us'\/KeysAt H' (ps'.map pk) us'->ps'.length<=ps.length+1->D0.rt (.ref D) H':=fun s nD hD hk hl=>fin _ _ _ _ s nD hD (hk.elim (fun z=>z.mono (ZA.tups s) _ _) id) hl;have ktk:=kus.take n;rw [<-zCj] at ktk;have kdr:∀ m,KeysAt H ((ps.drop m).map pk) (us.drop m):=fun m=>by
  have:=kus.drop m
  rwa [<-zCk] at this
 have mid:∀{H1 H2:Hp}{q1 q2:Addr}{u:V}{p:Pr}{m:Nat},ZA H H1->H q1=none->H1 q1=some (.lst (us.take n))->ZA H1 H2->H2 q2=some (.lst [u])->ZE H2 (pk p) u->n<=m->(∀ q3,H2 q3=none->∀ q4,upd H2 q3 (.lst (us.take n++[u])) q4=none->∀ q5,upd (upd H2 q3 (.lst (us.take n++[u]))) q4 (.lst (us.drop m)) q5=none->D0.rt (.ref q5) (upd (upd (upd H2 q3 (.lst (us.take n++[u]))) q4 (.lst (us.drop m))) q5 (.lst (us.take n++[u]++us.drop m)))):=fun{H1 H2 q1 q2 u p m} s1 n1 e1 s2 e2 ku nm q3 n3 q4 n4 q5 n5=>by
  have g3:=ZS n3 (.lst (us.take n++[u]));have g4:=ZS n4 (.lst (us.drop m));have g5:=ZS n5 (.lst (us.take n++[u]++us.drop m));have g:=(g3.trans g4).trans g5;have s02:=s1.trans s2;refine fin _ q5 _ (ps.take n++[p]++ps.drop m) (s02.trans g) (s02.free ((g3.trans g4).free n5)) ZN ?_ (by simp;lia)
  rw [zAV,zAV];exact ((ktk.mono (ZA.tups (s02.trans g)) _ _).append (.cons (ku.mono (ZA.tups g) _ _) .nil)).append ((kdr m).mono (ZA.tups (s02.trans g)) _ _)
 have en1:((n:Int)+1)=((n+1:Nat):Int):=by lia
 have lz1:∀{u:V},(us.take n).length+[u].length<=sizeLine:=fun{u}=>nn (by rw [zA8];simp;lia)
 have lz2:∀{u:V}(m:Nat),(us.take n++[u]).length+(us.drop m).length<=sizeLine:=fun{u} m=>nn (by rw [zAI,zA8,zBS];simp;lia)
 refine ⟨_,rfl,rfl,_,rfl,?_⟩;by_cases z0:z=0
 ·rw [decide_eq_true (congrArg V.int z0)];refine Z9 ⟨_,rfl,_,rfl,_,rfl,rl,us,rfl,ZK.of hrl,fun q1 n1=>?_⟩;rw [OJ us n hn];have g1:=ZS n1 (.lst (us.take n));have e1:=ZN (H:=H) (a:=q1) (o:=.lst (us.take n));generalize upd H q1 (.lst (us.take n))=H1 at g1 e1 ⊢;refine ⟨_,rfl,_,rfl,nn (zAB rfl),fun tt nt=>⟨nn (zAB rfl),fun q2 n2=>?_⟩⟩;have gt:=ZS nt (.tup [.int x,.int y]);have g2:=ZS n2 (.lst [.ref tt]);have et:=g2 _ _ (ZN (H:=H1) (a:=tt) (o:=.tup [.int x,.int y]));have e2:=ZN (H:=upd H1 tt (.tup [.int x,.int y])) (a:=q2) (o:=.lst [.ref tt]);have g12:=gt.trans g2;generalize upd (upd H1 tt (.tup [.int x,.int y])) q2 (.lst [.ref tt])=H2 at g12 et e2 ⊢;refine ⟨q1,q2,_,_,rfl,rfl,g12 _ _ e1,e2,lz1,fun q3 n3=>?_⟩;refine ⟨_,rfl,_,rfl,_,rfl,rl,us,rfl,ZK.of (ZS n3 _ _ _ (g12 _ _ (g1 _ _ hrl))),fun q4 n4=>?_⟩;rw [OG us n] at *;refine ⟨q3,q4,_,_,rfl,rfl,ZS n4 _ _ _ ZN,ZN,lz2 _,fun q5 n5=>?_⟩;exact mid g1 n1 e1 g12 e2 (p:=(x,y)) (.tup et (.cons (.int _) (.cons (.int _) .nil))) (by lia) q3 n3 q4 n4 q5 n5
 rw [decide_eq_false (fun h=>z0 (UC h))];refine Zr ⟨_,rfl,rfl,_,rfl,?_⟩;by_cases z1:z=1
 ·rw [decide_eq_true (congrArg V.int z1)];refine Z9 ⟨_,rfl,_,rfl,_,rfl,rl,us,rfl,ZK.of hrl,fun q1 n1=>?_⟩;rw [OJ us n hn];have g1:=ZS n1 (.lst (us.take n));have e1:=ZN (H:=H) (a:=q1) (o:=.lst (us.take n));generalize upd H q1 (.lst (us.take n))=H1 at g1 e1 ⊢;refine ⟨_,rfl,_,rfl,_,_,rfl,rfl,_,rfl,rl,us,rfl,ZK.of (g1 _ _ hrl),fun q2 n2=>?_⟩;rw [en1,OG us (n+1)];have g2:=ZS n2 (.lst (us.drop (n+1)));have e2:=ZN (H:=H1) (a:=q2) (o:=.lst (us.drop (n+1)));generalize upd H1 q2 (.lst (us.drop (n+1)))=H2 at g2 e2 ⊢;refine ⟨q1,q2,_,_,rfl,rfl,g2 _ _ e1,e2,nn (by rw [zA8,zBS];lia),fun q3 n3=>?_⟩
  have g3:=ZS n3 (.lst (us.take n++us.drop (n+1)));have g:=(g1.trans g2).trans g3;refine fin _ q3 _ (ps.take n++ps.drop (n+1)) g ((g1.trans g2).free n3) ZN ?_ (by simp;lia)
  rw [zAV];exact (ktk.mono (ZA.tups g) _ _).append ((kdr (n+1)).mono (ZA.tups g) _ _)
 rw [decide_eq_false (fun h=>z1 (UC h))];refine Zr ⟨_,rfl,_,rfl,rl,us,rfl,.inl (ZK.of hrl),rfl,_,rfl,?_⟩;rcases zAe n us.length with c | c
 ·rw [decide_eq_false (fun h=>(by have:=UC h;lia))]
  obtain ⟨tr,pp,epp,eu,hu⟩:=pair_at' kus (zAE c);have au:X8 us (n:Int)=some (.ref tr):=Xb (by rw [zAE c,eu])
  refine Zr ⟨_,rfl,rfl,_,rfl,?_⟩;by_cases z2:z=2
  ·rw [decide_eq_true (congrArg V.int z2)];refine Z9 ⟨_,rfl,_,rfl,_,rfl,rl,us,rfl,ZK.of hrl,fun q1 n1=>?_⟩;rw [OJ us n hn];have g1:=ZS n1 (.lst (us.take n));have e1:=ZN (H:=H) (a:=q1) (o:=.lst (us.take n));generalize upd H q1 (.lst (us.take n))=H1 at g1 e1 ⊢;refine ⟨_,rfl,_,rfl,_,rfl,rl,us,_,_,rfl,rfl,ZK.of (g1 _ _ hrl),au,tr,_,_,.int pp.2,rfl,rfl,Zn.of (g1 _ _ hu),Xb (j:=1) rfl,nn (zAB rfl),fun tt nt=>⟨nn (zAB rfl),fun q2 n2=>?_⟩⟩;have gt:=ZS nt (.tup [.int x,.int pp.2]);have g2:=ZS n2 (.lst [.ref tt]);have et:=g2 _ _ (ZN (H:=H1) (a:=tt) (o:=.tup [.int x,.int pp.2]));have e2:=ZN (H:=upd H1 tt (.tup [.int x,.int pp.2])) (a:=q2) (o:=.lst [.ref tt]);have g12:=gt.trans g2;generalize upd (upd H1 tt (.tup [.int x,.int pp.2])) q2 (.lst [.ref tt])=H2 at g12 et e2 ⊢;refine ⟨q1,q2,_,_,rfl,rfl,g12 _ _ e1,e2,lz1,fun q3 n3=>?_⟩;refine ⟨_,rfl,_,rfl,_,_,rfl,rfl,_,rfl,rl,us,rfl,ZK.of (ZS n3 _ _ _ (g12 _ _ (g1 _ _ hrl))),fun q4 n4=>?_⟩;rw [en1,OG us (n+1)] at *;refine ⟨q3,q4,_,_,rfl,rfl,ZS n4 _ _ _ ZN,ZN,lz2 _,fun q5 n5=>?_⟩;exact mid g1 n1 e1 g12 e2 (p:=(x,pp.2)) (.tup et (.cons (.int _) (.cons (.int _) .nil))) (by lia) q3 n3 q4 n4 q5 n5
  rw [decide_eq_false (fun h=>z2 (UC h))];refine Zr ⟨_,rfl,rfl,_,rfl,?_⟩;by_cases z3:z=3
  ·rw [decide_eq_true (congrArg V.int z3)];refine Z9 ⟨_,rfl,_,rfl,_,rfl,rl,us,rfl,ZK.of hrl,fun q1 n1=>?_⟩;rw [OJ us n hn];have g1:=ZS n1 (.lst (us.take n));have e1:=ZN (H:=H) (a:=q1) (o:=.lst (us.take n));generalize upd H q1 (.lst (us.take n))=H1 at g1 e1 ⊢;refine ⟨_,rfl,_,rfl,rl,us,_,_,rfl,rfl,ZK.of (g1 _ _ hrl),au,tr,_,_,.int pp.1,rfl,rfl,Zn.of (g1 _ _ hu),Xb (j:=0) rfl,_,rfl,nn (zAB rfl),fun tt nt=>⟨nn (zAB rfl),fun q2 n2=>?_⟩⟩;have gt:=ZS nt (.tup [.int pp.1,.int y]);have g2:=ZS n2 (.lst [.ref tt]);have et:=g2 _ _ (ZN (H:=H1) (a:=tt) (o:=.tup [.int pp.1,.int y]));have e2:=ZN (H:=upd H1 tt (.tup [.int pp.1,.int y])) (a:=q2) (o:=.lst [.ref tt]);have g12:=gt.trans g2;generalize upd (upd H1 tt (.tup [.int pp.1,.int y])) q2 (.lst [.ref tt])=H2 at g12 et e2 ⊢;refine ⟨q1,q2,_,_,rfl,rfl,g12 _ _ e1,e2,lz1,fun q3 n3=>?_⟩;refine ⟨_,rfl,_,rfl,_,_,rfl,rfl,_,rfl,rl,us,rfl,ZK.of (ZS n3 _ _ _ (g12 _ _ (g1 _ _ hrl))),fun q4 n4=>?_⟩;rw [en1,OG us (n+1)] at *;refine ⟨q3,q4,_,_,rfl,rfl,ZS n4 _ _ _ ZN,ZN,lz2 _,fun q5 n5=>?_⟩;exact mid g1 n1 e1 g12 e2 (p:=(pp.1,y)) (.tup et (.cons (.int _) (.cons (.int _) .nil))) (by lia) q3 n3 q4 n4 q5 n5
  rw [decide_eq_false (fun h=>z3 (UC h))];refine Zr ⟨_,rfl,_,rfl,_,rfl,rl,us,rfl,ZK.of hrl,fun q1 n1=>?_⟩;rw [OJ us n hn];have g1:=ZS n1 (.lst (us.take n));have e1:=ZN (H:=H) (a:=q1) (o:=.lst (us.take n));generalize upd H q1 (.lst (us.take n))=H1 at g1 e1 ⊢;refine ⟨_,rfl,_,rfl,rl,us,_,_,rfl,rfl,ZK.of (g1 _ _ hrl),au,nn (zAB rfl),fun q2 n2=>?_⟩;have g2:=ZS n2 (.lst [.ref tr]);have e2:=ZN (H:=H1) (a:=q2) (o:=.lst [.ref tr]);have et:=(g1.trans g2) _ _ hu;generalize upd H1 q2 (.lst [.ref tr])=H2 at g2 e2 et ⊢;refine ⟨q1,q2,_,_,rfl,rfl,g2 _ _ e1,e2,lz1,fun q3 n3=>?_⟩;refine ⟨_,rfl,_,rfl,_,rfl,rl,us,rfl,ZK.of (ZS n3 _ _ _ (g2 _ _ (g1 _ _ hrl))),fun q4 n4=>?_⟩;rw [OG us n] at *;refine ⟨q3,q4,_,_,rfl,rfl,ZS n4 _ _ _ ZN,ZN,lz2 _,fun q5 n5=>?_⟩;exact mid g1 n1 e1 g2 e2 (p:=(pp.1,pp.2)) (.tup et (.cons (.int _) (.cons (.int _) .nil))) (by lia) q3 n3 q4 n4 q5 n5
 ·rw [decide_eq_true (show V.int (n:Int)=V.int ((us.length:Nat):Int) from by rw [show n=us.length by lia])]
  refine Z9 ⟨_,rfl,1,rfl,_,rfl,rl,us,rfl,ZK.of hrl,fun q1 n1=>?_⟩;have g1:=ZS n1 (.lst (VM us none (some (-1))));obtain ⟨a,b,eab⟩:=Hd us none (some (-1));refine fin _ q1 _ ((ps.drop a).take b) g1 n1 (by rw [ZN]) ?_ (by rw [zA8,zBS];lia)
  have hk:=((kus.mono (ZA.tups g1) _ _).drop a).take b;rw [<-zCk,<-zCj,<-eab] at hk;exact hk
theorem M9{ns:List Int}{i:Int}(h0:0<=i)(h1:i<((ns.length:Nat):Int)):∃ x:Int,X8 (ns.map V.int) i=some (.int x):=by
 obtain ⟨v,av,mv⟩:=QR (xs:=ns.map V.int) h0 (by rw [zAD];exact h1)
 obtain ⟨x,_,rfl⟩:=zAb.mp mv;exact ⟨x,av⟩
theorem BD(T:YD mg)(hr:ZY 1 (A.deeper (envOfC "_law_spoilt" (Zg QX) s.heap.objs.size f cdv)))(DP:ZB P w K mg base 1 "_law_pull" ["_law_well_here","_law_many"] Zl):∃ t,Xg (X7 ZU P w K mg base Mr "_law_spoilt" (Zg QX) f cdv A outer s Hs E).nox ((WQ QX).drop 4) t/\∀(D0:YG)(H:Hp)(p rl:Addr)(us:je)(ps:List Pr)(n:Nat)(x:Int)(x1 x2 x6 x7:jf),
  ZF H p->H rl=some (.lst us)->rl≠p->KeysAt H (ps.map pk) us->us.length<=100->n<=us.length ->
   (∀(H':Hp)(D:Addr)(us':je)(ps':List Pr),ZC p H H'->ZF H' p->H D=none->H' D=some (.lst us')->KeysAt H' (ps'.map pk) us'->ps'.length<=ps.length+1->D0.rt (.ref D) H') ->
    t D0 [some (.ref p),x1,x2,some (.ref rl),some (.int (n:Int)),some (.int x),x6,x7] H:=by
 have nd:=XQ.nd;obtain ⟨t,ht,hk⟩:=Fp (P:=P) (w:=w) (K:=K) (base:=base) (f:=f) (cdv:=cdv) (A:=A) (outer:=outer) (s:=s) (Hs:=Hs) (E:=E) T;refine ⟨_,ZQ (Zj 6 nd (Zp (r:=Qb K) Zf (YM (UY (Zo VZ (Zh DP hr (ZG (pv 0) (ZG ZL ZH))) ZL) (QD U9 ZL) (Zo Ql ZL ZL))) (Z0 (NA rfl) rfl T.max P8 (ZG ZL (ZG (Zo VZ (Zh DP hr (ZG (pv 0) (ZG ZL ZH))) ZL) ZH))) (fun _ _=>rfl)))
  (ZQ (Zj 7 nd (Zh DP hr (ZG (pv 0) (ZG ZL ZH)))) ht),fun D0 H p rl us ps n x x1 x2 x6 x7 W hrl rlp kus l100 hn fin=>?_⟩
 refine ⟨_,rfl,p,6,rfl,W,Yz (by decide) (by decide),fun a H1 a0 a1 W1 s1=>⟨_,_,rfl,rfl,5,rfl,_,_,rfl,rfl,⟨by decide,by decide,by decide⟩,nn (zAB rfl),fun q nq=>?_⟩⟩
 have gq:=ZS nq (.lst [.int (a - 1),.int (-5),.int ((10:Int) ^ (20:Int).toNat)]);have eq:upd H1 q (.lst [.int (a - 1),.int (-5),.int ((10:Int) ^ (20:Int).toNat)]) q=some (.lst ([a - 1,-5,(10:Int) ^ (20:Int).toNat].map V.int)):=ZN;have qp:q≠p:=WY W1 nq;have W2:=W1.same gq;generalize upd H1 q (.lst [.int (a - 1),.int (-5),.int ((10:Int) ^ (20:Int).toNat)])=H2 at gq eq W2 ⊢;refine ⟨_,rfl,p,8,rfl,W2,Yz (by decide) (by decide),fun b H3 b0 b1 W3 s3=>⟨_,_,rfl,rfl,_,_,rfl,?_⟩⟩
 obtain ⟨y,ay⟩:=M9 (ns:=[a - 1,-5,(10:Int) ^ (20:Int).toNat]) (i:=if b - 5 > 0 then b - 5 else 0) (by split <;> lia) (by show _<(3:Int);split <;> lia)
 refine ⟨q,_,_,_,rfl,rfl,ZK.of (s3 _ _ eq qp),ay,?_⟩;refine ⟨_,rfl,p,5,rfl,W3,Yz (by decide) (by decide),fun z H4 z0 z1 W4 s4=>?_⟩
 have s04:ZC p H H4:=((s1.trans (ZC.of gq)).trans s3).trans s4;refine hk D0 H4 rl us ps n x y z _ _ _ (s04 _ _ hrl rlp) (kus.mono (s04.tupsW W) _ _) l100 hn fun H' D us' ps' s' nD hD kk ll=>?_;exact fin H' D us' ps' (s04.trans (ZC.of s')) (W4.same s') (Pj s04 W4 nD) hD kk ll
inductive XJ(vs:je)(H:Hp)(Q:VK)(_:XK):Prop
 | mk (p l nl:Addr) (us:je) (ns:List Int) (ps:List Pr) (_:vs=[.ref p,.ref l,.ref nl]) (_:ZF H p) (_:H l=some (.lst us)) (_:l≠p) (_:KeysAt H (ps.map pk) us) (_:us.length<=100) (_:H nl=some (.lst (ns.map V.int))) (_:nl≠p) (_:ns.length<=900) (_:∀(H':Hp)(D:Addr)(us':je)(ps':List Pr),ZC p H H'->ZF H' p->H D=none->H' D=some (.lst us')->KeysAt H' (ps'.map pk) us'->ps'.length<=ps.length+1->Q (.ref D) H')
theorem AK(F0:Zq K "_law_spoilt" "_law_spoilt" QX f fd)(T:YD mg)(DP:ZB P w K mg base 1 "_law_pull" ["_law_well_here","_law_many"] Zl):ZM P w K mg base ZU 2 f fd ["_law_well_here","_law_way_here","_law_numbers"] XJ:=by
 refine F0.ok XQ (fun vs H Q E h=>(by obtain ⟨_,_,_,_,_,_,rfl,_⟩:=h;rfl)) (fun cdv A outer s H vs Q E hr h=>?_)
 obtain ⟨p,l,nl,us,ns,ps,rfl,W,hl,lp,kus,l100,hnl,nlp,l900,k⟩:=h;have nd:=XQ.nd;obtain ⟨t,ht,hk⟩:=BD (P:=P) (w:=w) (K:=K) (base:=base) (f:=f) (cdv:=cdv) (A:=A) (outer:=outer) (s:=s) (Hs:=H) (E:=E) T hr DP;refine ⟨_,ZQ (Zj 3 nd (WA UJ rfl T.list UK (ZG (pv 1) ZH)))
  (ZQ (Zj 4 nd (Zh DP hr (ZG (pv 0) (ZG (Zo Xn (Z0 Xh rfl T.len XT (ZG (pv 3) ZH)) ZL) ZH))))
  (ZQ (Zj 5 nd (Zp (r:=Qb K) Zf (Zo Vi (pv 2) (YM (ZG ZL ZH))) (Zh DP hr (ZG (pv 0) (ZG (Zo Xn (Z0 Xh rfl T.len XT (ZG (pv 2) ZH)) ZL) ZH))) (fun _ _=>rfl)))
  (ZQ (Z1 (YN X9 (Zh DP hr (ZG (pv 0) (ZG ZL ZH))) ZL (Zy _)) (ZW (Zj 5 nd (Zp (r:=Qb K) Zf (YM (UY (QD U9 ZL) (Zo Ql ZL ZL) ZL)) (Zh DP hr (ZG (pv 0) (ZG ZL ZH))) (fun _ _=>rfl)))) Z8) ht))),?_⟩
 refine ⟨_,rfl,l,us,rfl,.inl (ZK.of hl),fun rl nrl=>?_⟩;have g1:=ZS nrl (.lst us);have erl:=ZN (H:=H) (a:=rl) (o:=.lst us);generalize upd H rl (.lst us)=H1 at g1 erl ⊢;have W1:=W.same g1;have rlp:rl≠p:=WY W nrl;refine ⟨_,rfl,_,rfl,rl,us,rfl,.inl (ZK.of erl),_,_,rfl,rfl,p,_,rfl,W1,Yz (by lia) (by lia),fun a H2 a0 a1 W2 s2=>?_⟩
 obtain ⟨n,rfl⟩:∃ n:Nat,a=(n:Int):=⟨a.toNat,by lia⟩
 have lp':ps.length=us.length:=by have:=kus.length;rwa [zAD] at this
 have s12:ZC p H H2:=(ZC.of g1).trans s2;have hnl2:=s12 _ _ hnl nlp;refine ⟨_,rfl,nn (zAB rfl),fun q nq=>?_⟩;have gq:=ZS nq (.lst [.int 0]);have eq:=ZN (H:=H2) (a:=q) (o:=.lst [.int 0]);generalize upd H2 q (.lst [.int 0])=H3 at gq eq ⊢;have lni:(ns.map V.int).length=ns.length:=zAD _;refine ⟨nl,q,_,_,rfl,rfl,gq _ _ hnl2,eq,zBH (Yp (n:=(ns.map V.int).length+1) (by lia)),fun q' nq'=>?_⟩
 have gq':=ZS nq' (.lst (ns.map V.int++[.int 0]));have eq':upd H3 q' (.lst (ns.map V.int++[.int 0])) q'=some (.lst ((ns++[0]).map V.int)):=by rw [ZN,zAV];rfl
 have W4:=(W2.same gq).same gq';have q'p:q'≠p:=WY (W2.same gq) nq';generalize upd H3 q' (.lst (ns.map V.int++[.int 0]))=H4 at gq' eq' W4 ⊢;refine ⟨_,rfl,_,rfl,nl,_,rfl,.inl (ZK.of (gq' _ _ (gq _ _ hnl2))),_,_,rfl,rfl,p,_,rfl,W4,Yz (by lia) (by lia),fun b H5 b0 b1 W5 s5=>?_⟩
 obtain ⟨x,ax⟩:=M9 (ns:=ns++[0]) (i:=b) b0 (by rw [zAI,zBM];lia)
 refine ⟨q',_,_,_,rfl,rfl,ZK.of (s5 _ _ eq' q'p),ax,?_⟩;refine ⟨_,rfl,p,4,rfl,W5,Yz (by decide) (by decide),fun c H6 c0 c1 W6 s6=>⟨rfl,_,rfl,?_⟩⟩
 have s06:ZC p H1 H6:=(((s2.trans (ZC.of gq)).trans (ZC.of gq')).trans s5).trans s6;have go:∀{D0:YG}{H7:Hp}(x:Int),D0.rt=Q->ZC p H1 H7->ZF H7 p->t D0 [some (.ref p),some (.ref l),some (.ref nl),some (.ref rl),some (.int (n:Int)),some (.int x),none,none] H7:=fun{D0 H7} x eQ s7 W7=>
  hk D0 H7 p rl us ps n x _ _ _ _ W7 (s7 _ _ erl rlp) rlp ((kus.mono (ZA.tups g1) _ _).mono (s7.tupsW W1) _ _) l100 (by lia) fun H' D us' ps' s' W' nD hD kk ll=>by
   rw [eQ];have s07:ZC p H H7:=(ZC.of g1).trans s7;exact k H' D us' ps' (s07.trans s') W' (Pj s07 W7 nD) hD kk ll
 by_cases c00:c=0
 ·rw [decide_eq_true (congrArg V.int c00)];refine Z9 ⟨1,rfl,_,_,rfl,rfl,⟨by decide,by decide,by decide⟩,nn (zAB rfl),fun r nr=>?_⟩
  have gr:=ZS nr (.lst [.int (-1),.int ((10:Int) ^ (20:Int).toNat),.int 100000]);have er:upd H6 r (.lst [.int (-1),.int ((10:Int) ^ (20:Int).toNat),.int 100000]) r=some (.lst ([-1,(10:Int) ^ (20:Int).toNat,100000].map V.int)):=ZN;have rp:r≠p:=WY W6 nr;have W7:=W6.same gr;generalize upd H6 r (.lst [.int (-1),.int ((10:Int) ^ (20:Int).toNat),.int 100000])=H7 at gr er W7 ⊢;refine ⟨_,rfl,p,3,rfl,W7,Yz (by decide) (by decide),fun e H8 e0 e1 W8 s8=>?_⟩
  obtain ⟨y,ay⟩:=M9 (ns:=[-1,(10:Int) ^ (20:Int).toNat,100000]) (i:=e) e0 e1;exact ⟨r,_,_,_,rfl,rfl,ZK.of (s8 _ _ er rp),ay,go y rfl ((s06.trans (ZC.of gr)).trans s8) W8⟩
 ·rw [decide_eq_false (fun h=>c00 (UC h))];exact Zr (go x rfl s06 W6)
end
section
variable{X:Cx}
theorem At{k:Nat}(hr:ZY k X.A):YX X (compareOp .Eq) (fun x y H Q=>∃(a b:Addr)(xs ys:je)(ts us:List KT),x=.ref a/\y=.ref b/\ZK X.K H a xs/\ZK X.K H b ys/\KeysAt H ts xs/\KeysAt H us ys/\(∀ t∈ts,t.depth<=3)/\Q (.bl (eqbL ts us)) H):=by
 intro pins s σ H x y v u Q I rx ry h;obtain ⟨a,b,xs,ys,ts,us,rfl,rfl,h1,h2,k1,k2,hf,q⟩:=h;cases rx;cases ry;obtain ⟨ji,r1,p1,z1⟩:=I.list h1;obtain ⟨jp,r2,p2,z2⟩:=I.list h2;have l1:=r1.length;have l2:=r2.length;have m1:=k1.length;have m2:=k2.length;have un:=hr.un;by_cases hl:ji.length=jp.length
 ·refine PySem.SeqAt.RcAt.lists (e:=fun j=>(ts.getD j (.int 0)).eqb (us.getD j (.int 0))) p1.isList p2.isList (by simpa using hl) (by lia) (fun j g1 g2=>?_) X.prog X.w X.xe _ ⟨.bl _,H,I,rfl,?_⟩
  ·have j1:j<xs.length:=by simp at g1;lia
   have j2:j<ys.length:=by simp at g2;lia
   obtain ⟨t1,e1,a1⟩:=k1.get (zAE j1);obtain ⟨t2,e2,a2⟩:=k2.get (zAE j2);obtain ⟨u1,f1,b1⟩:=r1.get (zAE j1);obtain ⟨u2,f2,b2⟩:=r2.get (zAE j2);have q1:ji.toArray[j]=u1:=by
    have:ji.toArray[j]? = some u1:=by simpa using f1
    rw [zAY g1] at this;exact zAh.inj this
   have q2:jp.toArray[j]=u2:=by
    have:jp.toArray[j]? = some u2:=by simpa using f2
    rw [zAY g2] at this;exact zAh.inj this
   rw [q1,q2,zAC,zAC,e1,e2];have dp:=hf t1 (zAJ e1);exact Qv t1.depth t1 t2 _ _ _ (zAH _) (Vj I _ _ _ a1 b1) (Vj I _ _ _ a2 b2) (by show X.A.units+1+_<_;lia)
  ·have e:=Ov ts us;have hmin:min ts.length us.length=ji.toArray.size:=by simp;lia
   rw [hmin,show (ts.length==us.length)=true by simp;lia,Bool.and_true] at e
   rw [e];exact q
 ·refine PySem.SeqAt.RcAt.lists_lengths p1.isList p2.isList (by simpa using hl) (by lia) X.prog X.w X.xe _ ⟨.bl _,H,I,rfl,?_⟩
  have e:=Ov ts us;rw [show (ts.length==us.length)=false by simp;lia,Bool.and_false] at e
  rw [<-e] at q;exact q
end
theorem Ca:bootBuiltins "ValueError" = some (.type "ValueError"):=by decide +kernel
theorem CZ{X:Cx}{K:zAA}{e:Expr}{ta:TE}{f:Str}{pos:Pos}(he:PE X e ta)(hb:attributeBase e f X.env (eval e X.env)=eval e X.env)(hK:X.K=K:=by rfl):PE X (.Attribute e f pos) (Jo K ta f):=by
 subst hK;exact Gk he hb
def LF(K:zAA):R2:=fun x y H Q=>∃(p b:Addr)(xs ys:List Bool),x=.ref p/\y=.ref b/\ZK K H p (xs.map V.bl)/\ZK K H b (ys.map V.bl)/\xs.length=ys.length/\Q (.bl ((zAi xs.length).all fun j=>xs.getD j false==ys.getD j false)) H
theorem IF{X:Cx}{K:zAA}(hu:X.A.units<cLine)(hK:X.K=K:=by rfl):YX X (compareOp .Eq) (LF K):=by
 subst hK;exact EH hu
structure Cl(K:zAA)(mg:jb)(CB CT CK CP:Addr):Prop where
 base:mg "TwigError" = some (.ref CB)
 n1:mg "NoTwig" = some (.ref CT)
 n2:mg "NoKey" = some (.ref CK)
 n3:mg "NoPlace" = some (.ref CP)
 ty:zBA K (.ref CB)=some (.type "type")
 mB:zAw K CB (.type "BaseException")=some true
 subT:zAw K CT (.ref CB)=some true
 subK:zAw K CK (.ref CB)=some true
 xk:Xt K CK
 tt:zAZ K (.ref CT) (.ref CT)=some true
 tk:zAZ K (.ref CT) (.ref CK)=some false
 tp:zAZ K (.ref CT) (.ref CP)=some false
 tv:zAZ K (.ref CT) (.type "ValueError")=some true
 kt:zAZ K (.ref CK) (.ref CT)=some false
 kk:zAZ K (.ref CK) (.ref CK)=some true
 kp:zAZ K (.ref CK) (.ref CP)=some false
 kv:zAZ K (.ref CK) (.type "ValueError")=some true
section
variable{P:Program}{w:World}{K:zAA}{mg:jb}{base:Heap}{f:Addr}{fd:FuncData}{jg jh CT CK CB CP:Addr}
inductive YB(gt:List KT)(jg jh:Addr)(vs:je)(H:Hp)(Q:VK)(_:XK):Prop
 | mk (X:Yx) (lk:Addr) (c:Nat) (ls:je) (r:Option Int) (v:V) (N:Addr->Prop) (o:Option KT) (l:Addr) (us:je) (ps:List Pr) (_:vs=[.ref X.S,Z2 r,v,.ref l]) (_:H l=some (.lst us)) (_:l≠lk) (_:KeysAt H (ps.map pk) us) (_:YE jg jh H X lk c ls) (_:WF gt X.ts) (_:∀ i,i<X.ts.length->(gd X.ts i).h<=60) (_:ls.length<=500) (_:Uh N H o v) (_:UE X.ts r=true->o=none) (_:∀ x,r=some x->inT X.ts x=false->∀ H' t,ZA H H'->H' t=some (.tup [.str "twig",.int x])->Q (.ref t) H') (_:UE X.ts r=true->∀ H' t,ZA H H'->H' t=some (.tup [.str "spot",.bl true])->Q (.ref t) H')
abbrev BS:List Str:=["_law_shelf","_law_root","_law_spot","_law_way_here","e","_law_some"]
theorem WK:ZD BS ["_law_shelf","_law_root","_law_spot","_law_way_here"] (Zg MY):=Zu
theorem CG{gt:List KT}(F0:Zq K "_law_refusal" "_law_refusal" MY f fd)(T:YD mg)(N:XN P w K mg base "NoTwig" CT)(L:Cl K mg CB CT CK CP)(DW:WD P w K mg base 10 "way_holds" ["shelf","root","key","way"] (Xp gt jg jh CT CK)):ZM P w K mg base ZU 11 f fd ["_law_shelf","_law_root","_law_spot","_law_way_here"] (YB gt jg jh):=by
 refine F0.ok WK (fun vs H Q E h=>(by obtain ⟨_,_,_,_,_,_,_,_,_,_,_,rfl,_⟩:=h;rfl)) (fun cdv A outer s H vs Q E hr h=>?_)
 obtain ⟨X,lk,c,ls,r,v,N0,o,l,us,ps,rfl,hl,llk,kus,R,hw,low,few,hv,hbad,k1,k2⟩:=h;have nd:=WK.nd;have hu:=hr.units0;obtain ⟨g,gd',FC,bC,kC,mC⟩:=DW.ex;obtain ⟨fI,fdI,ef,_,_⟩:=N.ex;refine ⟨_,ZQ (CD (i:=4) FC hr rfl mC kC bC (fun E'=>VH (pv 0) (pv 1) (pv 2) (pv 3)) rfl rfl rfl rfl L.base nd rfl rfl L.ty L.mB
   (fun ea E'=>ZQ (Zj 5 nd (YM (VH (Z0 (r:=Po K) O0 rfl T.isi Vy (ZG (pv 4) (ZG (WL (v:=.ref CT) rfl L.n1 rfl) ZH))) (Z0 (r:=Po K) O0 rfl T.isi Vy (ZG (pv 4) (ZG (WL (v:=.ref CK) rfl L.n2 rfl) ZH)))
     (Z0 (r:=Po K) O0 rfl T.isi Vy (ZG (pv 4) (ZG (WL (v:=.ref CP) rfl L.n3 rfl) ZH))) (Gq (Z0 (r:=Po K) O0 rfl T.isi Vy (ZG (pv 4) (ZG (Ur (v:=.ty "ValueError") rfl T.ValueError Ca rfl) ZH)))))))
    (ZQ (Z1 (YN (r:=LF K) (IF hu) (pv 5) (YM (VH Xq Xq Xq Xq)) (Zy _)) (ZW (Zk (Yh (ZG X3 (ZG (CZ (pv 4) (by rfl)) ZH))))) Z8)
    (ZW (Zk (Yh (ZG X3 (ZG (VG (r:=LF K) (IF hu) (pv 5) (YM (VH Xq Xq Xq Xq)) (Zy _)) ZH))))))))
  (ZW (Zk (Yh (ZG X3 ZH)))),?_⟩
 refine ⟨_,rfl,_,rfl,_,rfl,_,rfl,X,lk,c,ls,r,v,o,l,us,ps,rfl,⟨R,hw,low,few,⟨N0,hv⟩,fun x ex hx dx H1 s1 edx=>⟨CT,rfl,L.subT,fun ea hea=>?_⟩,fun gr on H1 s1=>⟨CK,rfl,L.subK,fun ea hea=>?_⟩⟩,hl,llk,kus,fun k rn ek er jt H' pre post _ _ _ _=>?_⟩
 ·have g1:=ZS hea (XO Vf ea CT (some dx));have ee:upd H1 ea (XO Vf ea CT (some dx)) ea=some (XO Vf ea CT (some dx)):=ZN;have ix:Oj (upd H1 ea (XO Vf ea CT (some dx))) ea CT:=HQ ee;have ed:=g1 _ _ edx;have s01:=s1.trans g1;generalize upd H1 ea (XO Vf ea CT (some dx))=H2 at g1 ee ix ed s01 ⊢;refine ⟨_,rfl,ea,CT,_,true,rfl,ix,ef.exc,rfl,L.tt,_,rfl,ea,CT,_,false,rfl,ix,ef.exc,rfl,L.tk,_,rfl,ea,CT,_,false,rfl,ix,ef.exc,rfl,L.tp,_,rfl,ea,CT,_,true,rfl,ix,ef.exc,rfl,L.tv,_,rfl,nn (zAB rfl),fun q nq=>?_⟩;have g3:=ZS nq (.lst ([true,false,false,false].map V.bl));have eq:=ZN (H:=H2) (a:=q) (o:=.lst ([true,false,false,false].map V.bl));refine ⟨_,rfl,nn (zAB rfl),fun q2 nq2=>?_⟩;have g4:=ZS nq2 (.lst ([true,false,false,false].map V.bl));have g24:=g3.trans g4;refine ⟨q,q2,[true,false,false,false],[true,false,false,false],rfl,rfl,ZK.of (g4 _ _ eq),ZK.of ZN,rfl,_,rfl,Z9 ?_⟩;refine ⟨_,rfl,Vf,ea,CT,dx,_,_,fI,rfl,g24 _ _ ee,g24 _ _ ed,ef,rfl,nn (zAB rfl),fun t nt=>?_⟩;exact k1 x ex hx _ t ((s01.trans g24).trans (ZS nt _)) ZN
 ·have g1:=ZS hea (XO Vf ea CK none);have ee:upd H1 ea (XO Vf ea CK none) ea=some (XO Vf ea CK none):=ZN;have ix:Oj (upd H1 ea (XO Vf ea CK none)) ea CK:=HQ ee;have s01:=s1.trans g1;generalize upd H1 ea (XO Vf ea CK none)=H2 at g1 ee ix s01 ⊢;refine ⟨_,rfl,ea,CK,_,false,rfl,ix,L.xk,rfl,L.kt,_,rfl,ea,CK,_,true,rfl,ix,L.xk,rfl,L.kk,_,rfl,ea,CK,_,false,rfl,ix,L.xk,rfl,L.kp,_,rfl,ea,CK,_,true,rfl,ix,L.xk,rfl,L.kv,_,rfl,nn (zAB rfl),fun q nq=>?_⟩;have g3:=ZS nq (.lst ([false,true,false,false].map V.bl));have eq:=ZN (H:=H2) (a:=q) (o:=.lst ([false,true,false,false].map V.bl));refine ⟨_,rfl,nn (zAB rfl),fun q2 nq2=>?_⟩;have g4:=ZS nq2 (.lst ([true,false,false,false].map V.bl));have g24:=g3.trans g4;refine ⟨q,q2,[false,true,false,false],[true,false,false,false],rfl,rfl,ZK.of (g4 _ _ eq),ZK.of ZN,rfl,_,rfl,Zr ?_⟩;refine ⟨_,rfl,nn (zAB rfl),fun q3 nq3=>?_⟩;have g5:=ZS nq3 (.lst ([false,true,false,false].map V.bl));refine ⟨q,q3,[false,true,false,false],[false,true,false,false],rfl,rfl,ZK.of (g5 _ _ (g4 _ _ eq)),ZK.of ZN,rfl,nn (zAB rfl),fun t nt=>?_⟩;exact k2 gr _ t (((s01.trans g24).trans g5).trans (ZS nt _)) ZN
 ·have gr:UE X.ts r=true:=by rw [er];exact LD jt
  rw [hbad gr] at ek;cases ek
end
theorem Bl{p q:Pr}(h:pk p=pk q):p=q:=by
 unfold pk at h;injection h with h;injection h with h1 h;injection h with h2 _;injection h1 with h1;injection h2 with h2;exact Prod.ext h1 h2
theorem GP(ps qs:List Pr):eqbL (ps.map pk) (qs.map pk)=decide (ps=qs):=by
 by_cases h:ps=qs
 ·subst h;rw [eqbL_self];exact (decide_eq_true rfl).symm
 ·rw [decide_eq_false h]
  cases e:eqbL (ps.map pk) (qs.map pk) with
  | false=>rfl
  | true=>exact absurd ((List.map_inj_right fun _ _=>Bl).mp (eqbL_eq _ _ e)) h
theorem Aq(p:Pr):(pk p).depth<=3:=by
 unfold pk;simp [KT.depth,depthL]
theorem Kk{gt:List KT}{ts:List ZT}(hw:WF gt ts)(k:KT):∀(n i:Nat),i<ts.length->(gd ts i).h=n->(∀ s∈VX ts k n i,(gd ts s.1).h<=n)/\((VX ts k n i).map fun s=>(s.1:Int)).Nodup
 | 0,i,hi,hn=>by
  rw [VX];refine ⟨fun s hs=>?_,by simp⟩
  rw [zAS.mp hs];exact zCa hn
 | n+1,i,hi,hn=>by
  obtain ⟨n1,n2,_⟩:=NO hw hi (by lia) k
  obtain ⟨a,b⟩:=Kk hw k n (UI ts k i) (by lia) (by lia)
  rw [VX];refine ⟨fun s hs=>?_,?_⟩
  ·rcases zAf.mp hs with rfl | hs
   ·exact zCa hn
   ·have:=a s hs;lia
  ·rw [zAn,zBQ];refine ⟨fun z=>?_,b⟩;obtain ⟨s,hs,e⟩:=zAb.mp z;have h1:=a s hs;have:s.1=i:=by have e:(s.1:Int)=(i:Int):=e;lia
   rw [this,hn] at h1
   lia
theorem AD{gt:List KT}{ts:List ZT}(hw:WF gt ts)(k:KT){rn:Option Nat}(h:∀ i,rn=some i->i<ts.length):((Y0 ts k rn).map fun s=>(s.1:Int)).Nodup:=by
 cases rn with
 | none=>exact List.nodup_nil
 | some i=>exact (Kk hw k _ i (h i rfl) rfl).2
theorem Fh{X:Cx}{K:zAA}{tg l:Expr}{tl:TE}(hl:PE X l tl)(hK:X.K=K:=by rfl):PI X tg l (Ht K tl):=by
 subst hK;exact VL hl
theorem ZHl{X:Cx}{P:Program}{w:World}(hc:X.calm=true)(hP:X.prog=P:=by rfl)(hw:X.w=w:=by rfl):Wr X (.type "set") (Ll P w):=by
 subst hP hw;exact ZG8 hc
def HD(P:Program)(w:World):je->Hp->VK->Prop:=fun xs H Q=>∃ a ms,xs=[V.ref a]/\H a=some (QG P w a ms)/\ms.length<1000/\Q (.int ms.length) H
theorem F8{X:Cx}{P:Program}{w:World}(hP:X.prog=P:=by rfl)(hw:X.w=w:=by rfl):Wr X (.builtin "len") (HD P w):=by
 subst hP hw;exact G7
theorem Ec{X:Cx}{K:zAA}(hK:X.K=K:=by rfl):YX X (compareOp .NotIn) (LG K true):=by
 subst hK;exact Hz
section
variable{P:Program}{w:World}{K:zAA}{mg:jb}{base:Heap}{f:Addr}{fd:FuncData}{jg jh CT CK:Addr}
inductive XF(gt:List KT)(jg jh:Addr)(vs:je)(H:Hp)(Q:VK)(_:XK):Prop
 | mk (X:Yx) (lk:Addr) (c:Nat) (ls:je) (rn:Option Nat) (v:V) (k:KT) (l m:Addr) (us ws:je) (ps:List Pr) (_:vs=[.ref X.S,Z2 (Zv rn),v,.ref l,.ref m]) (_:YE jg jh H X lk c ls) (_:WF gt X.ts) (_:∀ i,i<X.ts.length->(gd X.ts i).h<=60) (_:∀ i,rn=some i->i<X.ts.length) (_:ZE H k v) (_:k.fits 3=true) (_:H l=some (.lst us)) (_:l≠lk) (_:KeysAt H (ps.map pk) us) (_:us.length<=100) (_:H m=some (.lst ws)) (_:m≠lk) (_:KeysAt H ((cW (Y0 X.ts k rn)).map pk) ws) (_:∀(H':Hp)(lk':Addr)(ls':je),(∀ b o,b≠lk->b≠X.S->H b=some o->H' b=some o)->YE jg jh H' X lk' c ls'->(lk'=lk\/H lk'=none)->ls'.length<=100->Q (.bl true) H')
abbrev Hy:List Str:=["_law_shelf","_law_root","_law_spot","_law_way_here","_law_due","_law_handed","_law_told","_law_looked"]
theorem Vn:ZD Hy ["_law_shelf","_law_root","_law_spot","_law_way_here","_law_due"] (Zg Mp):=Zu
theorem E6{gt:List KT}(F0:Zq K "_law_asked" "_law_asked" Mp f fd)(T:YD mg)(L:Yt K mg jg jh)(DF:ZJ P w K mg base ZU 1 jg "forget" ["self"] (XR jg jh))(DT:WD P w K mg base 10 "way_holds" ["shelf","root","key","way"] (Xp gt jg jh CT CK))(DK:ZJ P w K mg base ZU 1 jg "looked" ["self"] (XW jg jh)):
  ZM P w K mg base ZU 11 f fd ["_law_shelf","_law_root","_law_spot","_law_way_here","_law_due"] (XF gt jg jh):=by
 refine F0.ok Vn (fun vs H Q E h=>(by obtain ⟨_,_,_,_,_,_,_,_,_,_,_,_,rfl,_⟩:=h;rfl)) (fun cdv A outer s H vs Q E hr h=>?_)
 obtain ⟨X,lk,c,ls,rn,v,k,l,m,us,ws,ps,rfl,R,hw,low,jt,hv,fk,hl,llk,kus,l100,hm,mlk,kws,q⟩:=h;have nd:=Vn.nd;have hr1:=hr.mono (show 1<=10 by decide)
 have hu:=hr.units0;refine ⟨_,ZQ (WP (MQ (E:=E0) (pv 0) L.cS DF hr1 XE))
  (ZQ (Zj 5 nd (WA UJ rfl T.list UK (ZG (pv 3) ZH)))
  (ZQ (Zj 6 nd (BR DT hr (VH (pv 0) (pv 1) (pv 2) (pv 5))))
  (ZQ (Zj 7 nd (MQ (E:=E0) (pv 0) L.cS DK hr1 XE))
  (ZQ (Z1 (PW.pt (Qh (Uj (Xo (Z0 U4 rfl T.isi Vy (ZG (pv 6) (ZG (Ur (v:=.ty "bool") rfl T.bool K7 rfl) ZH))))) (Qh (YN O3 (pv 6) (VG (At hr) (pv 3) (pv 4) (Zy _)) (Zy _)) (Pd (YN (Fd hu) (pv 5) (pv 3) (Zy _)))))) (ZW (Zk Xq)) Z8)
  (ZQ (Z1 (YN O3 (Z0 (r:=HD P w) F8 rfl T.len XT (ZG (WA (r:=Ll P w) (ZHl rfl) rfl T.set Dh (ZG (pv 7) ZH)) ZH)) (Z0 Xh rfl T.len XT (ZG (pv 7) ZH)) (Zy _)) (ZW (Zk Xq)) Z8)
  (ZW (Zk (VG (Gx hu) (Wx [3] ["_law_way_here"] rfl (VL (pv 7)) (fun _ _ _ _ _=>OB (YN (r:=LG K true) Ec (pv 0) (Wx [] [] rfl (Fh (K:=K) (pv 1)) (fun _ _ _ _ _=>Vk) (fun _ _ _ _ _=>Zp (r:=Xl K) Zi (pv 0) ZL (fun _ _=>rfl)) trivial) rfl)) (fun _ _ _ _ _=>pv 0) ⟨rfl,.inl rfl,rfl,trivial⟩) (YM ZH) (Zy _))))))))),?_⟩
 obtain ⟨dx,hS⟩:=R.sh.self;refine ⟨_,rfl,X.S,dx,_,rfl,hS,rfl,X,lk,c,ls,rfl,R,fun H1 lk1 nlk1 fr1 R1=>?_⟩;have t01:Z6 H H1:=fun b xs e=>fr1 b _ (ZV e hS) e;have hl1:=fr1 _ _ (ZV hl hS) hl;have hm1:=fr1 _ _ (ZV hm hS) hm;refine ⟨_,rfl,l,us,rfl,.inl (ZK.of hl1),fun hd nhd=>?_⟩;have g2:=ZS nhd (.lst us);have ehd:=ZN (H:=H1) (a:=hd) (o:=.lst us);have R2:=R1.same g2;generalize upd H1 hd (.lst us)=H2 at g2 ehd R2 ⊢;have t02:Z6 H H2:=fun b xs e=>ZA.tups g2 b xs (t01 b xs e);have hdlk:hd≠lk1:=(Zb R1.sh.looks nhd).symm;have lw:=P1 k low jt;have A0:Pq gt jg jh CT CK H2 X lk1 c [] (Zv rn) v (some k) E0:=⟨R2,hw,low,zAd _,⟨fun _=>False,hv.mono t02 _ _,fk⟩,(fun x ex hx=>by
   have:=LD jt;rw [ex] at this;rw [show UE X.ts (some x)=inT X.ts x from rfl,hx] at this;cases this),(fun _ z=>by cases z)⟩
 refine ⟨_,rfl,_,rfl,_,rfl,_,rfl,X,lk1,c,[],Zv rn,v,some k,hd,us,ps,rfl,A0,ehd,hdlk,kus.mono t02 _ _,fun k' rn' ek er hr' H3 pre post fr3 R3 epre hfirst=>?_⟩;cases ek;cases BB er;rw [List.nil_append] at R3;obtain ⟨dx3,hS3⟩:=R3.sh.self;refine ⟨_,rfl,X.S,dx3,_,rfl,hS3,rfl,X,lk1,c,_,rfl,R3,fun lo nlo=>?_⟩;have g4:=ZS nlo (.lst (VV pre));have elo:=ZN (H:=H3) (a:=lo) (o:=.lst (VV pre));have R4:=R3.same g4;generalize upd H3 lo (.lst (VV pre))=H4 at g4 elo R4 ⊢;have hlk2:=R2.sh.looks;have t34:Z6 H2 H4:=fun b xs e=>g4 b _ (fr3 b _ (ZV e hlk2) e);have t04:Z6 H H4:=fun b xs e=>t34 b xs (t02 b xs e);have old:∀{b:Addr}{o:HO},H1 b=some o->b≠lk1->H4 b=some o:=fun e n=>g4 _ _ (fr3 _ _ n (g2 _ _ e));have ln1:l≠lk1:=Zb hl nlk1;have ln2:m≠lk1:=Zb hm nlk1;have hl4:=old hl1 ln1;have hm4:=old hm1 ln2;have hd4:H4 hd=some (.lst us):=g4 _ _ (fr3 _ _ hdlk ehd);have kus4:=kus.mono t04 _ _;have refs:∀ z∈us,∃ a,z=.ref a:=fun z hz=>by
  obtain ⟨i,hi,e⟩:=List.getElem_of_mem hz;obtain ⟨tt,p,_,e2,_⟩:=pair_at' kus (i:=i) (u:=z) (by rw [zAE hi,e])
  exact ⟨tt,e2⟩
 have lps:ps.length=us.length:=by have:=kus.length;rwa [zAD] at this
 have ewi:VV pre=(pre.map fun s=>(s.1:Int)).map V.int:=by unfold VV;rw [zB3];rfl
 have lpre:pre.length<=61:=by
  have:=congrArg zBh epre;rw [zAI] at this
  lia
 have ndp:(pre.map fun s=>(s.1:Int)).Nodup:=by
  have:=AD hw k jt;rw [epre,zAV] at this;exact (zBk.mp this).1
 refine ⟨_,rfl,_,_,_,_,rfl,.bl _,KJ,_,rfl,Zr ?_⟩;refine ⟨_,rfl,_,rfl,_,rfl,l,m,us,ws,_,_,rfl,rfl,ZK.of hl4,ZK.of hm4,kus4,kws.mono t04 _ _,fun t ht=>?_,rfl,_,rfl,?_⟩
 ·obtain ⟨p,_,rfl⟩:=zAb.mp ht;exact Aq p
 rw [GP,decide_eq_true rfl];refine Zr ⟨_,rfl,_,rfl,hd,l,us,rfl,rfl,ZK.of hd4,ZK.of hl4,refs,_,rfl,Zr ?_⟩;have elo':=elo;rw [ewi] at elo';refine ⟨_,rfl,lo,_,rfl,elo',ndp,by rw [zAD];lia,fun se nse=>?_⟩
 have g5:=ZS nse (QG P w se (pre.map fun s=>(s.1:Int)));have ese:=ZN (H:=H4) (a:=se) (o:=QG P w se (pre.map fun s=>(s.1:Int)));have R5:=R4.same g5;generalize upd H4 se (QG P w se (pre.map fun s=>(s.1:Int)))=H5 at g5 ese R5 ⊢;refine ⟨se,_,rfl,ese,by rw [zAD];lia,_,rfl,lo,_,rfl,.inl (ZK.of (g5 _ _ elo)),rfl,_,rfl,?_⟩
 have lw2:(VV pre).length=(pre.map fun s=>(s.1:Int)).length:=by rw [ewi,zAD]
 rw [lw2,decide_eq_true rfl];refine Zr ?_;have elo5:=g5 _ _ elo';have hl5:=g5 _ _ hl4;have kus5:=kus4.mono (ZA.tups g5) _ _;have fin:∀{H6:Hp},ZA H5 H6->Q (.bl true) H6:=fun s6=>q _ lk1 (VV pre) (fun b o n1 n2 e=>s6 _ _ (g5 _ _ (old (fr1 b o n2 e) (Zb e nlk1)))) (R5.same s6) (.inr nlk1) (by rw [ewi,zAD,zAD];lia)
 refine ⟨_,rfl,lo,rfl,⟨_,ZK.of elo5⟩,OE (n:=pre.length) (fun i z=>((pre.map fun s=>(s.1:Int)).map V.int)[i]? = some z) (fun _=>false) (fun E i ys H6=>ZA H5 H6/\H5 E=none/\ys=[]) (Yp (by lia))
  (fun E i ys H6 hi hP=>⟨_,((pre.map fun s=>(s.1:Int)).map V.int)[i]'(by simp;lia),ZK.of (hP.1 _ _ elo5),by rw [zAE]⟩) (fun E i ys H6 z H7 hi hP hy=>⟨hy.1,hy.2 _ (ZK.of (hP.1 _ _ elo5))⟩) (fun E ys H6 hP=>⟨_,ZK.of (hP.1 _ _ elo5),by simp⟩)
  (fun E hE=>⟨ZS hE _,hE,rfl⟩) (fun E i ys H6 z eE hi hz hP B hB=>?_) (fun E i ys H6 z eE hi hz hk hP B hB=>by cases hk) (fun E i ys H6 eE hi hk hP=>hP) (fun E ys H6 eE hP=>?_)⟩
 ·obtain ⟨s6,nE,ly⟩:=hP;rw [zAM,zAM] at hz;obtain ⟨n0,ez,rfl⟩:=zAa.mp hz;obtain ⟨s0,es0,rfl⟩:=zAa.mp ez;obtain ⟨p,hp,ep⟩:=hfirst s0 (zAJ es0);have hl6:=s6 _ _ hl5;have kus6:=kus5.mono (ZA.tups s6) _ _;refine ⟨_,rfl,_,rfl,l,rfl,⟨us,ZK.of hl6⟩,Vb (n:=us.length) (fun i z=>us[i]? = some z) (fun E2 i2 ys2 H7=>ZA H6 H7/\H6 E2=none/\ys2=((ps.take i2).map (·.1)).map V.int) (Yp (by lia)) (fun E2 i2 ys2 H7 hi hP=>⟨us,us[i2],ZK.of (hP.1 _ _ hl6),by simp [hi]⟩) (fun E2 i2 ys2 H7 z H8 hi hP hy=>⟨hy.1,hy.2 us (ZK.of (hP.1 _ _ hl6))⟩) (fun E2 ys2 H7 hP=>⟨us,ZK.of (hP.1 _ _ hl6),zAH _⟩) (fun E2 hE=>⟨ZS hE _,hE,rfl⟩) (fun E2 i2 ys2 H7 z eE2 hl' hi hz hP RR jY=>?_) (fun E2 ys2 H7 eE2 hP=>?_)⟩
  ·obtain ⟨s7,nE2,ly2⟩:=hP;obtain ⟨tt,p2,ep2,rfl,ht2⟩:=pair_at' kus6 hz;refine ⟨_,rfl,tt,_,_,.int p2.1,rfl,rfl,Zn.of (s7 _ _ ht2),Xb (j:=0) rfl,jY _ H7 eE2 ⟨V2 s7 nE2,nE2,?_⟩⟩;rw [zAo,ep2,zAV,zAV,ly2];rfl
  ·obtain ⟨s7,nE2,ly2⟩:=hP;rw [zAU (by lia)] at ly2
   subst ly2;have yes:OU (V.int (s0.1:Int)) ((ps.map (·.1)).map V.int)=true:=by
    unfold OU;rw [zB5];refine ⟨.int p.1,zAb.mpr ⟨p.1,zAb.mpr ⟨p,hp,rfl⟩,rfl⟩,?_⟩;rw [ep];simp [U2]
   refine ⟨E2,_,rfl,.inl (ZK.of eE2),rfl,by simp [QL],_,rfl,?_⟩
   rw [if_pos rfl,yes];exact hB H7 (s7 _ _ eE) ⟨s6.trans s7,nE,ly⟩
 ·obtain ⟨s6,nE,rfl⟩:=hP;refine ⟨nn (zAB rfl),fun e0 he0=>?_⟩;have g7:=ZS he0 (.lst []);exact ⟨E,e0,[],rfl,rfl,ZK.of (g7 _ _ eE),ZK.of ZN,fin (s6.trans g7)⟩
end
section
variable{P:Program}{w:World}{K:zAA}{mg:jb}{base:Heap}{f:Addr}{fd:FuncData}{jg jh CS CT CH:Addr}
theorem DX{X:Cx}{e0 e1 e2 e3 e4 e5 e6 e7:Expr}{t0 t1 t2 t3 t4 t5 t6 t7:TE}(g0:PE X e0 t0)(g1:PE X e1 t1)(g2:PE X e2 t2)(g3:PE X e3 t3)(g4:PE X e4 t4)(g5:PE X e5 t5)(g6:PE X e6 t6)(g7:PE X e7 t7)(h:[e0,e1,e2,e3,e4,e5,e6,e7].all Qm=true:=by rfl):
  PA X [e0,e1,e2,e3,e4,e5,e6,e7] (XA t0 (XA t1 (XA t2 (XA t3 (XA t4 (XA t5 (XA t6 (XA t7 V0)))))))):=
 (Zc g0 (Zc g1 (Zc g2 (Zc g3 (Zc g4 (Zc g5 (Zc g6 (Zc g7 ZH (XX (zAO.mp h e7 (by simp)))) (XX (zAO.mp h e6 (by simp)))) (XX (zAO.mp h e5 (by simp)))) (XX (zAO.mp h e4 (by simp)))) (XX (zAO.mp h e3 (by simp)))) (XX (zAO.mp h e2 (by simp)))) (XX (zAO.mp h e1 (by simp)))) (XX (zAO.mp h e0 (by simp))))
theorem Kf:(QJ "a" 41).length=41:=by decide +kernel
theorem Ex:UN (zAy "\n")=false:=by decide +kernel
inductive WS(vs:je)(H:Hp)(Q:VK)(_:XK):Prop
 | mk (p:Addr) (_:vs=[.ref p]) (_:ZF H p) (_:∀(v:V)(H':Hp),Uh (fun b=>b=p\/H b≠none) H' none v->ZF H' p->ZC p H H'->Q v H')
theorem Du:ZD ["_law_well_here"] ["_law_well_here"] (Zg N5):=Zu
theorem ZOb(F:Zq K "_law_bad" "_law_bad" N5 f fd)(DP:ZB P w K mg base 1 "_law_pull" ["_law_well_here","_law_many"] Zl):ZM P w K mg base ZU 2 f fd ["_law_well_here"] WS:=by
 refine F.ok Du (fun vs H Q E h=>(by obtain ⟨_,rfl,_⟩:=h;rfl)) (fun cdv A outer s H vs Q E hr h=>?_)
 obtain ⟨p,rfl,W,q⟩:=h;refine ⟨_,ZW (Zk (Zp (r:=YR K) Ya (YM (DX Xq Pc (YM (ZG ZL ZH)) (Zo Ql ZL ZL) (Zo GT X3 ZL) (Yh (M7 ZL ZL ZL ZL ZL)) (Yh (ZG X3 ZH))
  (Yh (ZG (Yh (ZG (Yh (ZG (Yh ZH) ZH)) ZH)) ZH)))) (Zh DP hr (ZG (pv 0) (ZG ZL ZH))) (fun _ _=>rfl))),?_⟩
 refine ⟨nn (zAB rfl),fun a1 n1=>?_⟩;have g1:=ZS n1 (.lst [.int 1]);refine ⟨_,_,rfl,rfl,⟨by decide,by decide,by decide⟩,_,_,rfl,rfl,by decide +kernel,by decide,by decide,nn (zAB rfl),fun a2 n2=>?_⟩
 have g2:=ZS n2 (.tup [.int 1,.int 2,.int 3,.int 4,.int 5]);refine ⟨nn (zAB rfl),fun a3 n3=>?_⟩;have g3:=ZS n3 (.tup [.str (zAy "\n")]);refine ⟨nn (zAB rfl),fun a4 n4=>?_⟩;have g4:=ZS n4 (.tup []);refine ⟨nn (zAB rfl),fun a5 n5=>?_⟩;have g5:=ZS n5 (.tup [.ref a4]);refine ⟨nn (zAB rfl),fun a6 n6=>?_⟩;have g6:=ZS n6 (.tup [.ref a5]);refine ⟨nn (zAB rfl),fun a7 n7=>?_⟩;have g7:=ZS n7 (.tup [.ref a6]);refine ⟨nn (zAB rfl),fun d n8=>?_⟩;have g8:=ZS n8 (.lst [.bl true,.non,.ref a1,.int ((10:Int) ^ (60:Int).toNat),.str (QJ "a" 41),.ref a2,.ref a3,.ref a7]);have c7:=g7.trans g8;have c6:=g6.trans c7;have c5:=g5.trans c6;have c4:=g4.trans c5;have c3:=g3.trans c4;have c2:=g2.trans c3;have c1:=g1.trans c2;have b7:=((((((g1.trans g2).trans g3).trans g4).trans g5).trans g6).trans g7);have e1:=c2 _ _ (ZN (a:=a1) (o:=.lst [.int 1]));have e2:=c3 _ _ (ZN (a:=a2) (o:=.tup [.int 1,.int 2,.int 3,.int 4,.int 5]));have e3:=c4 _ _ (ZN (a:=a3) (o:=.tup [.str (zAy "\n")]));have e4:=c5 _ _ (ZN (a:=a4) (o:=.tup []));have e5:=c6 _ _ (ZN (a:=a5) (o:=.tup [.ref a4]));have e6:=c7 _ _ (ZN (a:=a6) (o:=.tup [.ref a5]));have e7:=g8 _ _ (ZN (a:=a7) (o:=.tup [.ref a6]));have dp:d≠p:=WY (W.same b7) n8;have ap:a1≠p:=WY W n1;have W1:=W.same c1;have e8:upd (upd (upd (upd (upd (upd (upd (upd H a1 (.lst [.int 1])) a2 (.tup [.int 1,.int 2,.int 3,.int 4,.int 5])) a3 (.tup [.str (zAy "\n")])) a4 (.tup [])) a5 (.tup [.ref a4])) a6 (.tup [.ref a5])) a7 (.tup [.ref a6])) d (.lst [.bl true,.non,.ref a1,.int ((10:Int) ^ (60:Int).toNat),.str (QJ "a" 41),.ref a2,.ref a3,.ref a7]) d=some (.lst [.bl true,.non,.ref a1,.int ((10:Int) ^ (60:Int).toNat),.str (QJ "a" 41),.ref a2,.ref a3,.ref a7]):=ZN;generalize upd (upd (upd (upd (upd (upd (upd (upd H a1 (.lst [.int 1])) a2 (.tup [.int 1,.int 2,.int 3,.int 4,.int 5])) a3 (.tup [.str (zAy "\n")])) a4 (.tup [])) a5 (.tup [.ref a4])) a6 (.tup [.ref a5])) a7 (.tup [.ref a6])) d (.lst [.bl true,.non,.ref a1,.int ((10:Int) ^ (60:Int).toNat),.str (QJ "a" 41),.ref a2,.ref a3,.ref a7])=H1 at *;refine ⟨_,rfl,p,8,rfl,W1,Yz (by decide) (by decide),fun j H2 j0 j1 W2 s2=>?_⟩
 obtain ⟨v,av,mv⟩:=QR (xs:=[V.bl true,.non,.ref a1,.int ((10:Int) ^ (60:Int).toNat),.str (QJ "a" 41),.ref a2,.ref a3,.ref a7]) j0 j1;have t2:=s2.tupsW W1;refine .inl ⟨d,_,_,v,rfl,rfl,ZK.of (s2 _ _ e8 dp),av,?_⟩;have fin:Uh (fun b=>b=p\/H b≠none) H2 none v->Q v H2:=fun h=>q v H2 h W2 ((ZC.of c1).trans s2);refine fin ?_;have hten:(10:Int) ^ 60<=(10:Int) ^ (60:Int).toNat:=by decide +kernel
 clear av e8;generalize (10:Int) ^ (60:Int).toNat=M at mv hten;simp only [zAf,zBd,or_false] at mv;rcases mv with rfl | rfl | rfl | rfl | rfl | rfl | rfl | rfl
 ·exact ⟨.odd "bool",by rw [Zm];exact .inl ⟨rfl,true,rfl⟩,by rw [TG.neat];trivial,by rw [TG.fits]⟩
 ·exact ⟨.odd "NoneType",by rw [Zm];exact .inr (.inl ⟨rfl,rfl⟩),by rw [TG.neat];trivial,by rw [TG.fits]⟩
 ·exact ⟨.odd "list",by rw [Zm];exact .inr (.inr (.inl ⟨rfl,a1,_,rfl,s2 _ _ e1 ap,fun z=>z.elim ap fun y=>y n1⟩)),by rw [TG.neat];trivial,by rw [TG.fits]⟩
 ·refine ⟨.int M,by rw [Zm],by rw [TG.neat];trivial,?_⟩
  rw [TG.fits];refine decide_eq_false fun z=>?_;have e:((10:Int) ^ 60)=((10 ^ 60:Nat):Int):=by decide +kernel
  rw [e] at hten;generalize (10 ^ 60:Nat)=T at *
  lia
 ·refine ⟨.str _,by rw [Zm],by rw [TG.neat,Kf];decide,?_⟩
  rw [TG.fits];unfold UN;rw [Kf];rfl
 ·refine ⟨.tup [.int 1,.int 2,.int 3,.int 4,.int 5],?_,?_,?_⟩
  ·rw [Zm];exact ⟨a2,_,rfl,t2 _ _ e2,by simp [ThsAt,Zm]⟩
  ·simp [TG.neat,neatL]
  ·simp [TG.fits]
 ·refine ⟨.tup [.str (zAy "\n")],?_,?_,?_⟩
  ·rw [Zm];exact ⟨a3,_,rfl,t2 _ _ e3,by simp [ThsAt,Zm]⟩
  ·rw [TG.neat];exact ⟨by decide,by rw [neatL,neatL,TG.neat];exact ⟨by decide +kernel,trivial⟩⟩
  ·rw [TG.fits,gfitsL,TG.fits,Ex];rfl
 ·refine ⟨.tup [.tup [.tup [.tup []]]],?_,?_,?_⟩
  ·rw [Zm];refine ⟨a7,_,rfl,t2 _ _ e7,?_⟩;rw [ThsAt];refine ⟨_,_,rfl,?_,by rw [ThsAt]⟩
   rw [Zm];refine ⟨a6,_,rfl,t2 _ _ e6,?_⟩;rw [ThsAt];refine ⟨_,_,rfl,?_,by rw [ThsAt]⟩
   rw [Zm];refine ⟨a5,_,rfl,t2 _ _ e5,?_⟩;rw [ThsAt];refine ⟨_,_,rfl,?_,by rw [ThsAt]⟩
   rw [Zm];exact ⟨a4,_,rfl,t2 _ _ e4,by rw [ThsAt]⟩
  ·simp [TG.neat,neatL]
  ·simp [TG.fits,gfitsL]
end
section
variable{jg jh:Addr}{H H':Hp}{X:Yx}{lk:Addr}{c:Nat}{ls:je}
theorem YE.off(R:YE jg jh H X lk c ls){p q:Addr}{o1 o2:je}(h1:H p=some (.lst o1))(h2:H q=some (.lst o2))(fr:∀ b o,b≠p->b≠q->H b=some o->H' b=some o)(plk:p≠lk)(qlk:q≠lk)(op:∀ i:Nat,i<X.ts.length->(X.as.getD i .d).ab≠p/\(X.as.getD i .d).th≠p)(oq:∀ i:Nat,i<X.ts.length->(X.as.getD i .d).ab≠q/\(X.as.getD i .d).th≠q):YE jg jh H' X lk c ls:=by
 have t:Z6 H H':=fun b o e=>fr b _ (ZV e h1) (ZV e h2) e;obtain ⟨⟨dS,hS⟩,hd,hl⟩:=R.sh;refine ⟨⟨⟨dS,fr _ _ (ZV hS h1) (ZV hS h2) hS⟩,fr _ _ (ZV hd h1) (ZV hd h2) hd,fr _ _ (Ne.symm plk) (Ne.symm qlk) hl⟩,R.keys,R.val,fun i hi=>?_,R.own,R.le⟩;obtain ⟨dx,hx⟩:=(R.tw i hi).tw.self;exact (R.tw i hi).frame t (fun o e=>fr _ _ (ZV hx h1) (ZV hx h2) e) (fun o e=>fr _ _ (op i hi).2 (oq i hi).2 e) (fun o e=>fr _ _ (op i hi).1 (oq i hi).1 e)
end
structure Yj(ts:List ZT)(H:Hp)(t:Y1):Prop where
 tp:H t.T=some (.tup [.ref t.r,Z2 (Zv t.rn),.ref t.d])
 rcd:Y8 [] ts H t.d t.kv t.F
 rt:∀ i,t.rn=some i->i∈t.F
theorem Yj.go{ts:List ZT}{H H':Hp}{t:Y1}(h:Yj ts H t)(m:Z6 H H')(hd:∀ o,H t.d=some o->H' t.d=some o):Yj ts H' t:=
 ⟨m _ _ h.tp,⟨hd _ h.rcd.hd,h.rcd.rcd.mono m,h.rcd.clo,h.rcd.wf⟩,h.rt⟩
structure VY(jg jh:Addr)(H0 H:Hp)(X:Yx)(lk:Addr)(c:Nat)(ls:je)(L kn:Addr)(t1 t2:Y1)(us:je)(jo:List KT):Prop where
 sh:YE jg jh H X lk c ls
 s0:ZA H0 H
 nlk:H0 lk=none
 hL:H L=some (.lst [.ref t1.T,.ref t2.T])
 Llk:L≠lk
 tr1:Yj X.ts H t1
 tr2:Yj X.ts H t2
 hk:H kn=some (.lst us)
 ks:KeysAt H jo us
 fit:∀ t∈jo,t.fits 3=true
 klk:kn≠lk
structure Qu(H:Hp)(kn lk p a:Addr)(o:je):Prop where
 at_:H a=some (.lst o)
 lk:a≠lk
 p:a≠p
 kn:a≠kn
def Wy(H:Hp)(kn lk p a:Addr)(ps:List Pr):Prop:=∃ us,Qu H kn lk p a us/\KeysAt H (ps.map pk) us
structure Y7(jg jh:Addr)(H0 H:Hp)(X:Yx)(lk:Addr)(c:Nat)(ls:je)(L kn:Addr)(t1 t2:Y1)(us:je)(jo:List KT)(p:Addr)(t:Y1)(v:V)(k:KT):Prop where
 lw:VY jg jh H0 H X lk c ls L kn t1 t2 us jo
 w:ZF H p
 plk:p≠lk
 np:H0 p=none
 Lp:L≠p
 kp:kn≠p
 op:∀ i:Nat,i<X.ts.length->(X.as.getD i .d).ab≠p/\(X.as.getD i .d).th≠p
 tq:Yj X.ts H t
 kv:ZE H k v
section
variable{jg jh:Addr}{H0 H H':Hp}{X:Yx}{lk lk':Addr}{c c':Nat}{ls ls':je}{L kn:Addr}{t1 t2:Y1}{us us':je}{jo kts':List KT}{p:Addr}{t:Y1}{v:V}{k:KT}
def Fr(H H':Hp)(X:Yx)(lk kn p:Addr):Prop:=∀ b o,b≠p->b≠kn->b≠lk->b≠X.S->b≠X.d->H b=some o->H' b=some o
theorem Y7.tups(j:Y7 jg jh H0 H X lk c ls L kn t1 t2 us jo p t v k)(fr:Fr H H' X lk kn p):Z6 H H':=fun b o e=>by
 obtain ⟨pw,hp⟩:=j.w.some;obtain ⟨⟨dS,hS⟩,hd,hl⟩:=j.lw.sh.sh;exact fr b _ (ZV e hp) (ZV e j.lw.hk) (ZV e hl) (ZV e hS) (ZV e hd) e
theorem Y7.step(j:Y7 jg jh H0 H X lk c ls L kn t1 t2 us jo p t v k)(fr:Fr H H' X lk kn p)(R:YE jg jh H' X lk' c' ls')(W:ZF H' p)(hk:H' kn=some (.lst us'))(ks:KeysAt H' kts' us')(fit:∀ t∈kts',t.fits 3=true)(js:lk'=lk\/H lk'=none)(nkn:H0 kn=none)(nS:H0 X.S=none)(nd:H0 X.d=none)(Lkn:L≠kn)(d1:t1.d≠X.d)(d2:t2.d≠X.d)(dt:t.d≠X.d):Y7 jg jh H0 H' X lk' c' ls' L kn t1 t2 us' kts' p t v k:=by
 have tp:=j.tups fr;obtain ⟨pw,hp⟩:=j.w.some;obtain ⟨⟨dS,hS⟩,hd,hl⟩:=j.lw.sh.sh;have ne':∀{b:Addr}{o:HO},H b=some o->b≠lk->b≠lk':=fun e n z=>js.elim (fun y=>n (z.trans y)) (fun y=>by rw [<-z,e] at y;cases y)
 have tr:∀{t:Y1},Yj X.ts H t->t.d≠X.d->Yj X.ts H' t:=fun h n=>h.go tp fun o e=>by
  have e0:=h.rcd.hd;rw [e0] at e;cases e;exact fr _ _ (ZV e0 hp) (ZV e0 j.lw.hk) (ZV e0 hl) (ZV e0 hS) n e0
 have s0:ZA H0 H':=fun b o e=>fr b o (Zb e j.np) (Zb e nkn) (Zb e j.lw.nlk) (Zb e nS) (Zb e nd) (j.lw.s0 b o e);have hL:=j.lw.hL;refine ⟨⟨R,s0,?_,fr _ _ j.Lp Lkn j.lw.Llk (ZV hL hS) (ZV hL hd) hL,ne' hL j.lw.Llk,tr j.lw.tr1 d1,tr j.lw.tr2 d2,hk,ks,fit,ne' j.lw.hk j.lw.klk⟩,W,ne' hp j.plk,j.np,j.Lp,j.kp,j.op,tr j.tq dt,j.kv.mono tp _ _⟩;exact js.elim (fun y=>by rw [y];exact j.lw.nlk) fun y=>j.lw.s0.free y
theorem Qu.step(j:Y7 jg jh H0 H X lk c ls L kn t1 t2 us jo p t v k)(fr:Fr H H' X lk kn p)(js:lk'=lk\/H lk'=none){a:Addr}{o:je}(h:Qu H kn lk p a o):Qu H' kn lk' p a o:=by
 obtain ⟨⟨dS,hS⟩,hd,hl⟩:=j.lw.sh.sh;exact ⟨fr _ _ h.p h.kn h.lk (ZV h.at_ hS) (ZV h.at_ hd) h.at_,fun z=>js.elim (fun y=>h.lk (z.trans y)) (fun y=>by rw [<-z,h.at_] at y;cases y),h.p,h.kn⟩
theorem Wy.step(j:Y7 jg jh H0 H X lk c ls L kn t1 t2 us jo p t v k)(fr:Fr H H' X lk kn p)(js:lk'=lk\/H lk'=none){a:Addr}{ps:List Pr}(h:Wy H kn lk p a ps):Wy H' kn lk' p a ps:=by
 obtain ⟨us,h1,h2⟩:=h;exact ⟨us,h1.step j fr js,h2.mono (j.tups fr) _ _⟩
theorem Y7.stn(j:Y7 jg jh H0 H X lk c ls L kn t1 t2 us jo p t v k){a:Addr}{o:je}(n:H a=none)(e:H' a=some (.lst o)):Qu H' kn lk p a o:=
 ⟨e,(Zb j.lw.sh.sh.looks n).symm,WY j.w n,(Zb j.lw.hk n).symm⟩
theorem Fr.same(s:ZA H H'):Fr H H' X lk kn p:=fun b o _ _ _ _ _ e=>s b o e
theorem Fr.sx(s:ZC p H H'):Fr H H' X lk kn p:=fun b o n _ _ _ _ e=>s b o e n
theorem Y7.shx(j:Y7 jg jh H0 H X lk c ls L kn t1 t2 us jo p t v k)(s:ZC p H H'):YE jg jh H' X lk c ls/\H' kn=some (.lst us)/\KeysAt H' jo us:=by
 obtain ⟨pw,hp⟩:=j.w.some;obtain ⟨⟨dS,hS⟩,hd,hl⟩:=j.lw.sh.sh;have tp:=s.tupsW j.w;refine ⟨j.lw.sh.but s ?_ (fun i hi=>?_) tp,s _ _ j.lw.hk j.kp,j.lw.ks.mono tp _ _⟩
 ·rintro (z | z | z)
  ·exact ZV hp hS (by intro z;cases z) z
  ·exact ZV hp hd (by intro z;cases z) z
  ·exact j.plk z
 ·obtain ⟨dy,hy⟩:=(j.lw.sh.tw i hi).tw.self;exact ⟨ZV hy hp,j.op i hi⟩
end
structure QT(H0:Hp)(X:Yx)(L kn:Addr)(t1 t2 t:Y1):Prop where
 nkn:H0 kn=none
 nS:H0 X.S=none
 nd:H0 X.d=none
 Lkn:L≠kn
 d1:t1.d≠X.d
 d2:t2.d≠X.d
 dt:t.d≠X.d
 wf:WF [] X.ts
 low:∀ i,i<X.ts.length->(gd X.ts i).h<=60
 few:X.ts.length<=240
 okn:∀ i:Nat,i<X.ts.length->(X.as.getD i .d).ab≠kn/\(X.as.getD i .d).th≠kn
section
variable{jg jh:Addr}{H0 H H':Hp}{X:Yx}{lk lk':Addr}{c c':Nat}{ls ls':je}{L kn:Addr}{t1 t2:Y1}{us us':je}{jo kts':List KT}{p:Addr}{t:Y1}{v:V}{k:KT}
theorem Y7.same(j:Y7 jg jh H0 H X lk c ls L kn t1 t2 us jo p t v k)(C:QT H0 X L kn t1 t2 t)(s:ZA H H'):Y7 jg jh H0 H' X lk c ls L kn t1 t2 us jo p t v k:=
 j.step (Fr.same s) (j.lw.sh.same s) (j.w.same s) (s _ _ j.lw.hk) (j.lw.ks.mono (ZA.tups s) _ _) j.lw.fit (.inl rfl) C.nkn C.nS C.nd C.Lkn C.d1 C.d2 C.dt
theorem Y7.sx(j:Y7 jg jh H0 H X lk c ls L kn t1 t2 us jo p t v k)(C:QT H0 X L kn t1 t2 t)(s:ZC p H H')(W:ZF H' p):Y7 jg jh H0 H' X lk c ls L kn t1 t2 us jo p t v k:=by
 obtain ⟨a,b,d⟩:=j.shx s;exact j.step (Fr.sx s) a W b d j.lw.fit (.inl rfl) C.nkn C.nS C.nd C.Lkn C.d1 C.d2 C.dt
theorem Y7.ask(j:Y7 jg jh H0 H X lk c ls L kn t1 t2 us jo p t v k)(C:QT H0 X L kn t1 t2 t)(fr:∀ b o,b≠lk->b≠X.S->H b=some o->H' b=some o)(R:YE jg jh H' X lk' c ls')(js:lk'=lk\/H lk'=none):Y7 jg jh H0 H' X lk' c ls' L kn t1 t2 us jo p t v k:=by
 obtain ⟨pw,hp⟩:=j.w.some;obtain ⟨⟨dS,hS⟩,hd,hl⟩:=j.lw.sh.sh;have fr':Fr H H' X lk kn p:=fun b o _ _ n1 n2 _ e=>fr b o n1 n2 e;have hk:=j.lw.hk;exact j.step fr' R (MH j.w fun o e=>fr _ _ j.plk (ZV hp hS) e) (fr _ _ j.lw.klk (ZV hk hS) hk) (j.lw.ks.mono (j.tups fr') _ _) j.lw.fit js C.nkn C.nS C.nd C.Lkn C.d1 C.d2 C.dt
end
def Ng:List Stmt:=JF ((WQ VF)[3]?)
abbrev Ou:List Str:=["_law_script","_law_shelf","_law_trees_here","_law_known_here","_law_k","_law_well_here","_law_rows","_law_root","_law_record","_law_spot","_law_due","_law_other","_law_turn","_law_beside","_law_way_here","_law_bad_here","_law_gone_here"]
theorem Wz:ZD Ou ["_law_script"] (Zg VF):=Zu
section
variable{P:Program}{w:World}{K:zAA}{mg:jb}{base:Heap}{f:Addr}{fd:FuncData}{cdv:Value}{A:Around}{outer:List Env}{s:Shared}{Hs:Hp}{E:XK}{jg jh:Addr}
theorem tl8(T:YD mg)(hr:ZY 39 (A.deeper (envOfC "law" (Zg VF) s.heap.objs.size f cdv)))(DB:ZB P w K mg base 2 "_law_bad" ["_law_well_here"] WS)(DG:ZB P w K mg base 11 "_law_gone" ["_law_well_here","_law_shelf"] (XV jg jh))(DR:ZB P w K mg base 11 "_law_refusal" ["_law_shelf","_law_root","_law_spot","_law_way_here"] (YB [] jg jh)):
  ∃ t,Xg (X7 ZU P w K mg base Ou "law" (Zg VF) f cdv A outer s Hs E).nox (Ng.drop 8) t/\∀(D0:YG)(H0 H:Hp)(X:Yx)(lk:Addr)(c:Nat)(ls:je)(L kn:Addr)(t1 t2:Y1)(us:je)(jo:List KT)(p:Addr)(tr:Y1)(v:V)(k:KT)(du ot:Addr)(dps ops:List Pr)(x0 x2 x4 x6 jG jR jI jJ jH:jf),
   Y7 jg jh H0 H X lk c ls L kn t1 t2 us jo p tr v k->QT H0 X L kn t1 t2 tr->ls.length<=100->Wy H kn lk p du dps->Wy H kn lk p ot ops ->
   (∀(H':Hp)(y15 y16:jf),VY jg jh H0 H' X lk (c+1) ls L kn t1 t2 us jo->D0.nx [x0,some (.ref X.S),x2,some (.ref kn),x4,some (.ref p),x6,some (Z2 (Zv tr.rn)),some (.ref tr.d),some v,some (.ref du),some (.ref ot),jG,jR,jI,y15,y16] H') ->
    t D0 [x0,some (.ref X.S),x2,some (.ref kn),x4,some (.ref p),x6,some (Z2 (Zv tr.rn)),some (.ref tr.d),some v,some (.ref du),some (.ref ot),jG,jR,jI,jJ,jH] H:=by
 have nd:=Wz.nd;have hu:=hr.units0;have hr2:=hr.mono (show 2<=39 by decide)
 have hr11:=hr.mono (show 11<=39 by decide)
 refine ⟨_,ZQ (Zj 15 nd (Zh DB hr2 (ZG (pv 5) ZH)))
  (ZQ (Zj 16 nd (Zh DG hr11 (ZG (pv 5) (ZG (pv 1) ZH))))
  (ZQ (Z1 (YN (KR hu) (Zh DR hr11 (VH (pv 1) (pv 7) (pv 15) (WA UJ rfl T.list UK (ZG (pv 11) ZH)))) (Yh (ZG X3 (ZG Xq ZH))) (Zy _)) (ZW (Zk Xq)) Z8)
  (ZW (Z1 (YN (KR hu) (Zh DR hr11 (VH (pv 1) (pv 16) (pv 15) (WA UJ rfl T.list UK (ZG (pv 10) ZH)))) (Yh (ZG X3 (ZG (pv 16) ZH))) (Zy _)) (ZW (Zk Xq)) Z8)))),?_⟩
 intro D0 H0 H X lk c ls L kn t1 t2 us jo p tr v k du ot dps ops x0 x2 x4 x6 jG jR jI jJ jH j C few wd wo fin;refine ⟨_,rfl,p,rfl,j.w,fun b H1 hb W1 s1=>?_⟩;have j1:=j.sx C s1 W1;have jt:∀ i,tr.rn=some i->i<X.ts.length:=fun i hi=>j.tq.rcd.rcd.lt i (j.tq.rt i hi);have t9:X.ts.length<=900:=by have:=C.few;lia
 refine ⟨_,rfl,_,rfl,p,X,lk,c,ls,rfl,W1,j1.lw.sh,t9,j.plk,j.op,fun H2 g fr2 W2 R2 hg=>?_⟩;have f2:Fr H1 H2 X lk kn p:=fun b o n1 _ _ n2 n3 e=>fr2 b o n1 n2 n3 e;have t12:=j1.tups f2;obtain ⟨⟨dS,hS⟩,hd,js⟩:=j.lw.sh.sh;obtain ⟨⟨dS1,hS1⟩,hd1,hlk1⟩:=j1.lw.sh.sh;have kp:XM (fun b=>b=p\/H b≠none) H1 H2:=⟨t12,fun a o e n=>fr2 a o (fun z=>n (.inl z)) (fun z=>n (.inr (by rw [z,hS];exact fun y=>nomatch y))) (fun z=>n (.inr (by rw [z,hd];exact fun y=>nomatch y))) e⟩
 have hb2:=hb.mono kp;have hk1:=j1.lw.hk;have hk2:=fr2 _ _ j.kp (ZV hk1 hS1) (ZV hk1 hd1) hk1;have j2:Y7 jg jh H0 H2 X lk (c+1) ls L kn t1 t2 us jo p tr v k:=j1.step f2 R2 W2 hk2 (j1.lw.ks.mono t12 _ _) j.lw.fit (.inl rfl) C.nkn C.nS C.nd C.Lkn C.d1 C.d2 C.dt;have wd2:=(wd.step (lk':=lk) j (Fr.sx s1) (.inl rfl)).step (lk':=lk) j1 f2 (.inl rfl);have wo2:=(wo.step (lk':=lk) j (Fr.sx s1) (.inl rfl)).step (lk':=lk) j1 f2 (.inl rfl);have flat1:∀ z∈[V.str "spot",V.bl true],OD z=true:=fun z hz=>by
  simp only [zAf,zBd,or_false] at hz;rcases hz with rfl | rfl <;> rfl
 have flat2:∀ z∈[V.str "twig",V.int g],OD z=true:=fun z hz=>by
  simp only [zAf,zBd,or_false] at hz;rcases hz with rfl | rfl <;> rfl
 obtain ⟨ous,so,ko⟩:=wo2;obtain ⟨dus,sd,kd⟩:=wd2;refine ⟨_,rfl,_,rfl,_,rfl,_,rfl,ot,ous,rfl,.inl (ZK.of so.at_),fun l3 n3=>?_⟩;have g3:=ZS n3 (.lst ous);have e3:=ZN (H:=H2) (a:=l3) (o:=.lst ous);have j3:=j2.same C g3;generalize upd H2 l3 (.lst ous)=H3 at g3 e3 j3 ⊢;refine ⟨X,lk,c+1,ls,Zv tr.rn,b,_,none,l3,ous,ops,rfl,e3,(Zb j2.lw.sh.sh.looks n3).symm,ko.mono (ZA.tups g3) _ _,j3.lw.sh,C.wf,C.low,by lia,hb2.mono (XM.same g3),fun _=>rfl,fun x ex hx=>?_,fun _ H4 t4 s4 e4=>⟨nn (zAB rfl),fun q4 n4=>?_⟩⟩
 ·have:=LD jt;rw [ex,show UE X.ts (some x)=inT X.ts x from rfl,hx] at this;cases this
 have g4:=ZS n4 (.tup [.str "spot",.bl true]);refine ⟨t4,q4,_,rfl,rfl,Zn.of (g4 _ _ e4),Zn.of ZN,flat1,_,rfl,Zr ?_⟩;have s24:=(g3.trans s4).trans g4;have j4:=j2.same C s24;generalize upd H4 q4 (.tup [.str "spot",.bl true])=H5 at s24 j4 ⊢;have sd5:=s24 _ _ sd.at_;refine ⟨_,rfl,_,rfl,_,rfl,_,rfl,du,dus,rfl,.inl (ZK.of sd5),fun l6 n6=>?_⟩;have g6:=ZS n6 (.lst dus);have e6:=ZN (H:=H5) (a:=l6) (o:=.lst dus);have j6:=j4.same C g6;have s26:=s24.trans g6;generalize upd H5 l6 (.lst dus)=H6 at g6 e6 j6 s26 ⊢;refine ⟨X,lk,c+1,ls,some g,b,_,none,l6,dus,dps,rfl,e6,(Zb j4.lw.sh.sh.looks n6).symm,kd.mono (ZA.tups s26) _ _,j6.lw.sh,C.wf,C.low,by lia,hb2.mono (XM.same s26),fun _=>rfl,fun x ex hx H7 t7 s7 e7=>?_,fun z=>?_⟩
 ·cases ex;refine ⟨_,rfl,nn (zAB rfl),fun q8 n8=>?_⟩;have g8:=ZS n8 (.tup [.str "twig",.int g]);refine ⟨t7,q8,_,rfl,rfl,Zn.of (g8 _ _ e7),Zn.of ZN,flat2,_,rfl,Zr ?_⟩;exact fin _ _ _ ((j6.same C (s7.trans g8)).lw)
 ·rw [show UE X.ts (some g)=inT X.ts g from rfl,hg] at z;cases z
inductive Aa(x0:jf)(X:Yx)(x2:jf)(kn:Addr)(x4:jf)(p:Addr)(x6:jf)(tr:Y1)(v:V)(du ot:Addr)(jG:jf)(be:Addr)(jJ jH:jf)(jg jh:Addr)(H0:Hp)(c:Nat)(L:Addr)(t1 t2:Y1)(us:je)(jo:List KT)(k:KT)(q6:Addr)(ji:List (Addr×List Pr))(ops:List Pr)(i:Nat)(σ:L2.St)(H':Hp):Prop
 | mk (lk':Addr) (ls':je) (jI:jf) (_:σ=[x0,some (.ref X.S),x2,some (.ref kn),x4,some (.ref p),x6,some (Z2 (Zv tr.rn)),some (.ref tr.d),some v,some (.ref du),some (.ref ot),jG,some (.ref be),jI,jJ,jH]) (_:Y7 jg jh H0 H' X lk' c ls' L kn t1 t2 us jo p tr v k) (_:Qu H' kn lk' p q6 (ji.map fun i=>V.ref i.1)) (_:∀ i∈ji,Wy H' kn lk' p i.1 i.2) (_:Wy H' kn lk' p du (cW (Y0 X.ts k tr.rn))) (_:Wy H' kn lk' p ot ops) (_:(0<i->ls'.length<=100))
theorem tl7(T:YD mg)(hr:ZY 39 (A.deeper (envOfC "law" (Zg VF) s.heap.objs.size f cdv)))(DB:ZB P w K mg base 2 "_law_bad" ["_law_well_here"] WS)(DG:ZB P w K mg base 11 "_law_gone" ["_law_well_here","_law_shelf"] (XV jg jh))(DR:ZB P w K mg base 11 "_law_refusal" ["_law_shelf","_law_root","_law_spot","_law_way_here"] (YB [] jg jh))(DD:ZB P w K mg base 7 "_law_down" ["_law_well_here","_law_record","_law_root","_law_spot"] (Xu []))(DA:ZB P w K mg base 11 "_law_asked" ["_law_shelf","_law_root","_law_spot","_law_way_here","_law_due"] (XF [] jg jh)):
  ∃ t,Xg (X7 ZU P w K mg base Ou "law" (Zg VF) f cdv A outer s Hs E).nox (Ng.drop 7) t/\∀(D0:YG)(H0 H:Hp)(X:Yx)(lk:Addr)(c:Nat)(ls:je)(L kn:Addr)(t1 t2:Y1)(us:je)(jo:List KT)(p:Addr)(tr:Y1)(v:V)(k:KT)(du ot be:Addr)(ops bps:List Pr)(x0 x2 x4 x6 jG jI jJ jH:jf),
   Y7 jg jh H0 H X lk c ls L kn t1 t2 us jo p tr v k->QT H0 X L kn t1 t2 tr->k.fits 3=true->Wy H kn lk p du (cW (Y0 X.ts k tr.rn))->Wy H kn lk p ot ops->Wy H kn lk p be bps->ops.length<=64->bps.length<=64 ->
   (∀(H':Hp)(lk':Addr)(c':Nat)(ls':je)(y14 y15 y16:jf),VY jg jh H0 H' X lk' c' ls' L kn t1 t2 us jo->D0.nx [x0,some (.ref X.S),x2,some (.ref kn),x4,some (.ref p),x6,some (Z2 (Zv tr.rn)),some (.ref tr.d),some v,some (.ref du),some (.ref ot),jG,some (.ref be),y14,y15,y16] H') ->
    t D0 [x0,some (.ref X.S),x2,some (.ref kn),x4,some (.ref p),x6,some (Z2 (Zv tr.rn)),some (.ref tr.d),some v,some (.ref du),some (.ref ot),jG,some (.ref be),jI,jJ,jH] H:=by
 have nd:=Wz.nd;have hr7:=hr.mono (show 7<=39 by decide)
 have hr11:=hr.mono (show 11<=39 by decide)
 obtain ⟨t,ht,hk8⟩:=tl8 (P:=P) (w:=w) (K:=K) (base:=base) (f:=f) (cdv:=cdv) (A:=A) (outer:=outer) (s:=s) (Hs:=Hs) (E:=E) T hr DB DG DR;refine ⟨_,ZQ (V7 PassesOwn.never rfl (VL (YM (Iv (pv 10) (pv 11) (V4 V5 (pv 10) UG (Vl (QD U9 ZL))) (Zh DD hr7 (VH (pv 5) (pv 8) (pv 7) (pv 9))) (pv 13) (pv 10)))) (Xd 14 nd)
   (ZW (Z1 (PW.pt (Qh (Uj (Xo (Zh DA hr11 (M7 (pv 1) (pv 7) (pv 9) (pv 14) (pv 10))))) (Pd (Uj (Xo (Zh DA hr11 (M7 (pv 1) Pc (pv 9) (pv 14) (YM ZH)))))))) (ZW (Zk Xq)) Z8))) ht,?_⟩
 intro D0 H0 H X lk c ls L kn t1 t2 us jo p tr v k du ot be ops bps x0 x2 x4 x6 jG jI jJ jH j C fk wd wo wb lo lb fin;have jt:∀ i,tr.rn=some i->i<X.ts.length:=fun i hi=>j.tq.rcd.rcd.lt i (j.tq.rt i hi);have lw:=P1 k C.low jt;obtain ⟨dus,sd,kd⟩:=wd;have wd:Wy H kn lk p du (cW (Y0 X.ts k tr.rn)):=⟨dus,sd,kd⟩;refine ⟨_,rfl,_,rfl,_,rfl,1,rfl,_,rfl,du,dus,rfl,ZK.of sd.at_,fun sl nsl=>?_⟩;obtain ⟨a,b,eab⟩:=Hd dus none (some (-1));have g1:=ZS nsl (.lst (VM dus none (some (-1))));have e1:=ZN (H:=H) (a:=sl) (o:=.lst (VM dus none (some (-1))));generalize upd H sl (.lst (VM dus none (some (-1))))=H1 at g1 e1 ⊢;have j1:=j.same C g1;have ws1:Wy H1 kn lk p sl (((cW (Y0 X.ts k tr.rn)).drop a).take b):=⟨_,j.stn nsl e1,by
  have hk:=((kd.mono (ZA.tups g1) _ _).drop a).take b;rw [<-zCk,<-zCj,<-eab] at hk;exact hk⟩
 refine ⟨_,rfl,_,rfl,_,rfl,_,rfl,p,X.ts,tr.d,tr.kv,tr.F,tr.rn,v,k,rfl,j1.w,j1.tq.rcd,j1.tq.rt,C.low,j1.kv,fk,fun H2 dn nus nps s2 W2 ndn hdn kdn ldn=>?_⟩;have j2:=j1.sx C s2 W2;have f1:Fr H H1 X lk kn p:=Fr.same g1;have f2:Fr H1 H2 X lk kn p:=Fr.sx s2;have wn2:Wy H2 kn lk p dn nps:=⟨nus,j1.stn ndn hdn,kdn⟩;refine ⟨_,rfl,_,rfl,nn (zAB rfl),fun q6 n6=>?_⟩;have g3:=ZS n6 (.lst [.ref du,.ref ot,.ref sl,.ref dn,.ref be,.ref du]);have e6:=ZN (H:=H2) (a:=q6) (o:=.lst [.ref du,.ref ot,.ref sl,.ref dn,.ref be,.ref du]);generalize upd H2 q6 (.lst [.ref du,.ref ot,.ref sl,.ref dn,.ref be,.ref du])=H3 at g3 e6 ⊢;have j3:=j2.same C g3;have f3:Fr H2 H3 X lk kn p:=Fr.same g3;have up:∀{a:Addr}{ps:List Pr},Wy H kn lk p a ps->Wy H3 kn lk p a ps:=fun h=>((h.step (lk':=lk) j f1 (.inl rfl)).step (lk':=lk) j1 f2 (.inl rfl)).step (lk':=lk) j2 f3 (.inl rfl);obtain ⟨ji,eits,hits⟩:∃ ji:List (Addr×List Pr),[V.ref du,.ref ot,.ref sl,.ref dn,.ref be,.ref du]=ji.map (fun i=>V.ref i.1)/\∀ i∈ji,Wy H3 kn lk p i.1 i.2/\i.2.length<=64:=by
  refine ⟨[(du,cW (Y0 X.ts k tr.rn)),(ot,ops),(sl,((cW (Y0 X.ts k tr.rn)).drop a).take b),(dn,nps),(be,bps),(du,cW (Y0 X.ts k tr.rn))],rfl,fun i hi=>?_⟩;simp only [zAf,zBd,or_false] at hi;have lc:=PL (Y0 X.ts k tr.rn);rcases hi with rfl | rfl | rfl | rfl | rfl | rfl
  ·exact ⟨up wd,by show (cW _).length<=64;lia⟩
  ·exact ⟨up wo,lo⟩
  ·exact ⟨(ws1.step (lk':=lk) j1 f2 (.inl rfl)).step (lk':=lk) j2 f3 (.inl rfl),by show (List.take b (List.drop a _)).length<=64;rw [zA8,zBS];lia⟩
  ·exact ⟨wn2.step (lk':=lk) j2 f3 (.inl rfl),by show nps.length<=64;lia⟩
  ·exact ⟨up wb,lb⟩
  ·exact ⟨up wd,by show (cW _).length<=64;lia⟩
 have s6:Qu H3 kn lk p q6 (ji.map fun i=>V.ref i.1):=eits ▸ j2.stn n6 e6;have li:(ji.map fun i=>V.ref i.1).length=6:=by rw [<-eits];rfl
 refine ⟨q6,rfl,⟨_,ZK.of s6.at_⟩,Pf (K:=K) (a:=q6) (xs:=ji.map fun i=>V.ref i.1) (Aa x0 X x2 kn x4 p x6 tr v du ot jG be jJ jH jg jh H0 c L t1 t2 us jo k q6 ji ops)
  ⟨lk,ls,_,rfl,j3,s6,fun i hi=>(hits i hi).1,up wd,up wo,fun z=>absurd z (zBc 0)⟩ (fun i σ H' _ hP=>by obtain ⟨_,_,_,_,_,h,_⟩:=hP;exact ZK.of h.at_) ?_ ?_⟩
 ·rintro i u σ H4 hu ⟨lk4,ls4,x14',rfl,j4,s4,w4,wd4,wo4,_⟩;rw [zAM] at hu;obtain ⟨it,eit,rfl⟩:=zAa.mp hu;have mit:=zAJ eit;obtain ⟨ius,si,ki⟩:=w4 it mit;have l64:=(hits it mit).2;have lius:ius.length<=100:=by
   have:=ki.length;rw [zAD] at this
   lia
  obtain ⟨dus4,sd4,kd4⟩:=wd4;refine ⟨_,rfl,_,rfl,_,rfl,_,rfl,_,rfl,X,lk4,c,ls4,tr.rn,v,k,it.1,du,ius,dus4,it.2,rfl,j4.lw.sh,C.wf,C.low,jt,j4.kv,fk,si.at_,si.lk,ki,lius,sd4.at_,sd4.lk,kd4,fun H5 lk5 ls5 fr5 R5 hlk5 l5=>⟨_,rfl,Zr ?_⟩⟩;have j5:=j4.ask C fr5 R5 hlk5;have f5:Fr H4 H5 X lk4 kn p:=fun b o _ _ n1 n2 _ e=>fr5 b o n1 n2 e;refine ⟨_,rfl,_,rfl,_,rfl,nn (zAB rfl),fun e0 n0=>?_⟩;have g6:=ZS n0 (.lst []);have ee0:=ZN (H:=H5) (a:=e0) (o:=.lst []);generalize upd H5 e0 (.lst [])=H6 at g6 ee0 ⊢;have j6:=j5.same C g6;have f6:Fr H5 H6 X lk5 kn p:=Fr.same g6;have w56:∀{a:Addr}{ps:List Pr},Wy H4 kn lk4 p a ps->Wy H6 kn lk5 p a ps:=fun h=>(h.step j4 f5 hlk5).step (lk':=lk5) j5 f6 (.inl rfl);obtain ⟨ius6,si6,ki6⟩:=w56 (w4 it mit);have lius6:ius6.length<=100:=by
   have:=ki6.length;rw [zAD] at this
   lia
  refine ⟨X,lk5,c,ls5,none,v,k,it.1,e0,ius6,[],it.2,rfl,j6.lw.sh,C.wf,C.low,(fun i z=>by cases z),j6.kv,fk,si6.at_,si6.lk,ki6,lius6,ee0,(j5.stn n0 ee0).lk,.nil,fun H7 lk7 ls7 fr7 R7 hlk7 l7=>⟨_,rfl,Zr ?_⟩⟩
  have j7:=j6.ask C fr7 R7 hlk7;have f7:Fr H6 H7 X lk5 kn p:=fun b o _ _ n1 n2 _ e=>fr7 b o n1 n2 e;exact ⟨lk7,ls7,_,rfl,j7,((s4.step j4 f5 hlk5).step (lk':=lk5) j5 f6 (.inl rfl)).step j6 f7 hlk7,fun i hi=>(w56 (w4 i hi)).step j6 f7 hlk7,(w56 ⟨dus4,sd4,kd4⟩).step j6 f7 hlk7,(w56 wo4).step j6 f7 hlk7,fun _=>l7⟩
 ·rintro σ H4 ⟨lk4,ls4,x14',rfl,j4,s4,w4,wd4,wo4,l4⟩;exact hk8 D0 H0 H4 X lk4 c ls4 L kn t1 t2 us jo p tr v k du ot _ ops _ _ _ _ _ _ _ _ _ j4 C (l4 (by rw [li];decide)) wd4 wo4 fun H' y15 y16 z=>fin H' lk4 (c+1) ls4 _ y15 y16 z
end
section
variable{jg jh:Addr}{H0 H H':Hp}{X:Yx}{lk:Addr}{c:Nat}{ls:je}{L kn:Addr}{t1 t2:Y1}{us us':je}{jo kts':List KT}{p:Addr}{t:Y1}{v:V}{k:KT}
theorem Y7.key(j:Y7 jg jh H0 H X lk c ls L kn t1 t2 us jo p t v k)(C:QT H0 X L kn t1 t2 t)(fr:∀ b o,b≠p->b≠kn->H b=some o->H' b=some o)(W:ZF H' p)(hk:H' kn=some (.lst us'))(ks:KeysAt H' kts' us')(fit:∀ t∈kts',t.fits 3=true):Y7 jg jh H0 H' X lk c ls L kn t1 t2 us' kts' p t v k:=by
 obtain ⟨pw,hp⟩:=j.w.some;exact j.step (fun b o n1 n2 _ _ _ e=>fr b o n1 n2 e) (j.lw.sh.off hp j.lw.hk fr j.plk j.lw.klk j.op C.okn) W hk ks fit (.inl rfl) C.nkn C.nS C.nd C.Lkn C.d1 C.d2 C.dt
end
section
variable{P:Program}{w:World}{K:zAA}{mg:jb}{base:Heap}{f:Addr}{fd:FuncData}{jg jh:Addr}
section
variable{cdv:Value}{A:Around}{outer:List Env}{s:Shared}{Hs:Hp}{E:XK}
inductive Gv(x0:jf)(X:Yx)(x2:jf)(kn:Addr)(x4:jf)(p:Addr)(x6:jf)(tr:Y1)(v:V)(du:Addr)(jR jI jJ jH:jf)(jg jh:Addr)(H0:Hp)(lk:Addr)(c:Nat)(ls:je)(Ls:Addr)(t1 t2:Y1)(us:je)(jo:List KT)(k:KT)(i:Nat)(σ:L2.St)(H':Hp):Prop
 | mk (ot:Addr) (ops:List Pr) (jG:jf) (_:σ=[x0,some (.ref X.S),x2,some (.ref kn),x4,some (.ref p),x6,some (Z2 (Zv tr.rn)),some (.ref tr.d),some v,some (.ref du),some (.ref ot),jG,jR,jI,jJ,jH]) (_:Y7 jg jh H0 H' X lk c ls Ls kn t1 t2 us jo p tr v k) (_:Wy H' kn lk p du (cW (Y0 X.ts k tr.rn))) (_:Wy H' kn lk p ot ops) (_:ops.length<=61+i)
theorem Cb(T:YD mg)(L:Yt K mg jg jh)(hr:ZY 39 (A.deeper (envOfC "law" (Zg VF) s.heap.objs.size f cdv)))(DP:ZB P w K mg base 1 "_law_pull" ["_law_well_here","_law_many"] Zl)(DB:ZB P w K mg base 2 "_law_bad" ["_law_well_here"] WS)(DG:ZB P w K mg base 11 "_law_gone" ["_law_well_here","_law_shelf"] (XV jg jh))(DR:ZB P w K mg base 11 "_law_refusal" ["_law_shelf","_law_root","_law_spot","_law_way_here"] (YB [] jg jh))(DD:ZB P w K mg base 7 "_law_down" ["_law_well_here","_law_record","_law_root","_law_spot"] (Xu []))(DA:ZB P w K mg base 11 "_law_asked" ["_law_shelf","_law_root","_law_spot","_law_way_here","_law_due"] (XF [] jg jh))(DY:ZB P w K mg base 7 "_law_any_key" ["_law_well_here","_law_known_here"] XI)(DW:ZB P w K mg base 7 "_law_way" ["_law_record","_law_root","_law_spot"] (Vr []))(DS:ZB P w K mg base 2 "_law_spoilt" ["_law_well_here","_law_way_here","_law_numbers"] XJ)(DN:ZJ P w K mg base ZU 1 jg "numbers" ["self"] (Yq jg jh)):
  ∃ t,Xg (X7 ZU P w K mg base Ou "law" (Zg VF) f cdv A outer s Hs E).nox (Ng.drop 3) t/\∀(D0:YG)(H0 H:Hp)(X:Yx)(lk:Addr)(c:Nat)(ls:je)(Ls kn:Addr)(t1 t2:Y1)(us:je)(jo:List KT)(p:Addr)(tr:Y1)(v:V)(k:KT)(x0 x2 x4 x6 x10 x11 jG jR jI jJ jH:jf),
   Y7 jg jh H0 H X lk c ls Ls kn t1 t2 us jo p tr v k->QT H0 X Ls kn t1 t2 tr->k.fits 3=true->us.length<=290 ->
   (∀(H':Hp)(lk':Addr)(c':Nat)(ls' us':je)(kts':List KT)(y10 y11 y12 y13 y14 y15 y16:jf),VY jg jh H0 H' X lk' c' ls' Ls kn t1 t2 us' kts'->us'.length<=us.length+1->D0.nx [x0,some (.ref X.S),x2,some (.ref kn),x4,some (.ref p),x6,some (Z2 (Zv tr.rn)),some (.ref tr.d),some v,y10,y11,y12,y13,y14,y15,y16] H') ->
    t D0 [x0,some (.ref X.S),x2,some (.ref kn),x4,some (.ref p),x6,some (Z2 (Zv tr.rn)),some (.ref tr.d),some v,x10,x11,jG,jR,jI,jJ,jH] H:=by
 have nd:=Wz.nd;have hr1:=hr.mono (show 1<=39 by decide)
 have hr2:=hr.mono (show 2<=39 by decide)
 have hr7:=hr.mono (show 7<=39 by decide)
 obtain ⟨t,ht,hk7⟩:=tl7 (P:=P) (w:=w) (K:=K) (base:=base) (f:=f) (cdv:=cdv) (A:=A) (outer:=outer) (s:=s) (Hs:=Hs) (E:=E) T hr DB DG DR DD DA;refine ⟨_,ZQ (Zj 10 nd (Zh DW hr7 (UY (pv 8) (pv 7) (pv 9))))
  (ZQ (Zj 11 nd (pv 10))
  (ZQ (V7 PassesOwn.never rfl (Qj rfl T.range (ZG (Zh DP hr1 (ZG (pv 5) (ZG ZL ZH))) ZH)) (Xd 12 nd)
   (ZW (Zj 11 nd (Zh DS hr2 (UY (pv 5) (pv 11) (MQ (E:=E0) (pv 1) L.cS DN hr1 XE))))))
  (ZQ (Zj 13 nd (Zh DW hr7 (UY (pv 8) (pv 7) (Zh DY hr7 (ZG (pv 5) (ZG (pv 3) ZH)))))) ht))),?_⟩
 intro D0 H0 H X lk c ls Ls kn t1 t2 us jo p tr v k x0 x2 x4 x6 x10 x11 jG jR jI jJ jH j C fk l290 fin;have jt:∀ i,tr.rn=some i->i<X.ts.length:=fun i hi=>j.tq.rcd.rcd.lt i (j.tq.rt i hi);have lwk:=fun k=>P1 (rn:=tr.rn) k C.low jt;refine ⟨_,rfl,_,rfl,_,rfl,X.ts,tr.d,tr.kv,tr.F,tr.rn,v,k,rfl,j.tq.rcd,j.tq.rt,C.low,j.kv,fk,fun H1 du dus s1 ndu hdu kdu=>?_⟩;have j1:=j.same C s1;rw [<-IV] at kdu;have wd1:Wy H1 kn lk p du (cW (Y0 X.ts k tr.rn)):=⟨dus,j.stn ndu hdu,kdu⟩;have lc:=PL (Y0 X.ts k tr.rn);have lk0:=lwk k;refine ⟨_,rfl,_,rfl,p,3,rfl,j1.w,Yz (by decide) (by decide),fun n H2 n0 n1 W2 s2=>?_⟩
 have j2:=j1.sx C s2 W2;have wd2:=wd1.step (lk':=lk) j1 (Fr.sx s2) (.inl rfl);refine ⟨n,rfl,by lia,by lia,Qp (n:=n.toNat) (Gv x0 X x2 kn x4 p x6 tr v du jR jI jJ jH jg jh H0 lk c ls Ls t1 t2 us jo k)
  ⟨du,_,_,rfl,j2,wd2,wd2,by lia⟩ ?_ ?_⟩
 ·rintro i σ H3 hi ⟨ot,ops,x12',rfl,j3,wd3,wo3,lo3⟩;obtain ⟨dS,hS⟩:=j3.lw.sh.sh.self;have few:=C.few;refine ⟨_,rfl,_,rfl,_,rfl,X.S,dS,_,rfl,hS,rfl,X,lk,c,ls,rfl,j3.lw.sh,by lia,fun nl nnl=>?_⟩
  have g4:=ZS nnl (.lst (((zAi X.ts.length).map fun i:Nat=>(i:Int)).map V.int));have e4:=ZN (H:=H3) (a:=nl) (o:=.lst (((zAi X.ts.length).map fun i:Nat=>(i:Int)).map V.int));generalize upd H3 nl (.lst (((zAi X.ts.length).map fun i:Nat=>(i:Int)).map V.int))=H4 at g4 e4 ⊢;have j4:=j3.same C g4;have f4:Fr H3 H4 X lk kn p:=Fr.same g4;obtain ⟨ous,so,ko⟩:=wo3.step (lk':=lk) j3 f4 (.inl rfl);have lou:ous.length=ops.length:=by have:=ko.length;rw [zAD] at this;exact this.symm
  refine ⟨p,ot,nl,ous,_,ops,rfl,j4.w,so.at_,so.p,ko,by lia,e4,WY j3.w nnl,by rw [zAD,zCq];lia,fun H5 D us' ps' s5 W5 nD hD kk ll=>?_⟩
  exact ⟨D,ps',_,rfl,j4.sx C s5 W5,(wd3.step (lk':=lk) j3 f4 (.inl rfl)).step (lk':=lk) j4 (Fr.sx s5) (.inl rfl),⟨us',j4.stn nD hD,kk⟩,by lia⟩
 ·rintro σ H3 ⟨ot,ops,x12',rfl,j3,wd3,wo3,lo3⟩;have hkn:=j3.lw.hk;refine ⟨_,rfl,_,rfl,_,rfl,_,rfl,p,kn,us,jo,rfl,j3.w,hkn,j3.lw.ks,j3.lw.fit,j3.kp,by lia,fun v2 k2 us' kts' H4 kv2 fk2 hk4 ks4 fit4 lu4 W4 fr4=>?_⟩
  have j4:=j3.key C fr4 W4 hk4 ks4 fit4;have f4:Fr H3 H4 X lk kn p:=fun b o n1 n2 _ _ _ e=>fr4 b o n1 n2 e;refine ⟨X.ts,tr.d,tr.kv,tr.F,tr.rn,v2,k2,rfl,j4.tq.rcd,j4.tq.rt,C.low,kv2,fk2,fun H5 be bus s5 nbe hbe kbe=>?_⟩;have j5:=j4.same C s5;rw [<-IV] at kbe;have f5:Fr H4 H5 X lk kn p:=Fr.same s5;have up:∀{a:Addr}{ps:List Pr},Wy H3 kn lk p a ps->Wy H5 kn lk p a ps:=fun h=>(h.step (lk':=lk) j3 f4 (.inl rfl)).step (lk':=lk) j4 f5 (.inl rfl);have lb:=lwk k2;exact hk7 D0 H0 H5 X lk c ls Ls kn t1 t2 us' kts' p tr v k du ot be ops _ _ _ _ _ _ _ _ _ j5 C fk (up wd3) (up wo3) ⟨bus,j4.stn nbe hbe,kbe⟩ (by lia) (by rw [PL];lia) fun H' lk' c' ls' y14 y15 y16 z=>fin H' lk' c' ls' us' kts' _ _ _ _ y14 y15 y16 z lu4
end
inductive Bv(a S Ls kn jg jh:Addr)(H:Hp)(d:Addr)(ts:List ZT)(av:Nat->List Nat)(ho:Nat->Nat)(as:List Z5)(kvs:List (ZZ×V))(t1 t2:Y1)(i:Nat)(σ:L2.St)(H4:Hp):Prop
 | mk (x4 x5 x6 x7 x8 x9 x10 x11 jG jR jI jJ jH:jf) (lk:Addr) (c:Nat) (ls us:je) (jo:List KT) (_:σ=[some (.ref a),some (.ref S),some (.ref Ls),some (.ref kn),x4,x5,x6,x7,x8,x9,x10,x11,jG,jR,jI,jJ,jH]) (_:VY jg jh H H4 ⟨S,d,ts,av,ho,as,kvs⟩ lk c ls Ls kn t1 t2 us jo) (_:us.length<=120+2 * i)
theorem Ef(F0:Zq K "law" "law" VF f fd)(T:YD mg)(L:Yt K mg jg jh)(DI:V6 P w K mg base 1 jg ["self"] (UV jg))(DWe:ZB P w K mg base 1 "_law_well" ["_law_script","_law_k"] (Wc K))(DP:ZB P w K mg base 1 "_law_pull" ["_law_well_here","_law_many"] Zl)(DT:ZB P w K mg base 12 "_law_trees" ["_law_script","_law_shelf"] (Wk [] K jg jh))(DK:ZB P w K mg base 1 "_law_known" ["_law_trees_here"] WZ)(DB:ZB P w K mg base 2 "_law_bad" ["_law_well_here"] WS)(DG:ZB P w K mg base 11 "_law_gone" ["_law_well_here","_law_shelf"] (XV jg jh))(DR:ZB P w K mg base 11 "_law_refusal" ["_law_shelf","_law_root","_law_spot","_law_way_here"] (YB [] jg jh))(DD:ZB P w K mg base 7 "_law_down" ["_law_well_here","_law_record","_law_root","_law_spot"] (Xu []))(DA:ZB P w K mg base 11 "_law_asked" ["_law_shelf","_law_root","_law_spot","_law_way_here","_law_due"] (XF [] jg jh))(DY:ZB P w K mg base 7 "_law_any_key" ["_law_well_here","_law_known_here"] XI)(DW:ZB P w K mg base 7 "_law_way" ["_law_record","_law_root","_law_spot"] (Vr []))(DS:ZB P w K mg base 2 "_law_spoilt" ["_law_well_here","_law_way_here","_law_numbers"] XJ)(DN:ZJ P w K mg base ZU 1 jg "numbers" ["self"] (Yq jg jh)):
  ZM P w K mg base ZU 40 f fd ["_law_script"] (Vg K):=by
 refine F0.ok Wz (fun vs H Q E h=>(by obtain ⟨_,_,rfl,_⟩:=h;rfl)) (fun cdv A outer s H vs Q E hr h=>?_)
 obtain ⟨a,ns,rfl,hSq,hn,k⟩:=h;have nd:=Wz.nd;have hr1:=hr.mono (show 1<=39 by decide)
 have hr2:=hr.mono (show 2<=39 by decide)
 have hr7:=hr.mono (show 7<=39 by decide)
 have hr12:=hr.mono (show 12<=39 by decide)
 obtain ⟨t,ht,hk3⟩:=Cb (P:=P) (w:=w) (K:=K) (base:=base) (f:=f) (cdv:=cdv) (A:=A) (outer:=outer) (s:=s) (Hs:=H) (E:=E) T L hr DP DB DG DR DD DA DY DW DS DN;refine ⟨_,ZQ (Zj 1 nd (Gg DI hr2 rfl L.shelf))
  (ZQ (Zj 2 nd (Zh DT hr12 (ZG (pv 0) (ZG (pv 1) ZH))))
  (ZQ (Zj 3 nd (Zh DK hr1 (ZG (pv 2) ZH)))
  (ZQ (V7 PassesOwn.never rfl (N3 rfl T.range (ZG ZL (ZG (Z0 (NA rfl) rfl T.max P8 (ZG ZL (ZG (Z0 (K1 rfl) rfl T.min IO (ZG (Z0 Xh rfl T.len XT (ZG (pv 0) ZH)) (ZG ZL ZH))) ZH))) ZH))) (Xd 4 nd)
   (ZQ (Zj 5 nd (Zh DWe hr1 (ZG (pv 0) (ZG (pv 4) ZH))))
   (ZQ (QE (Zp (r:=YR K) Ya (pv 2) (Zh DP hr1 (ZG (pv 5) (ZG ZL ZH))) (fun _ _=>rfl)) (Q5 rfl (V8 (Xd 6 nd) (V8 (Xd 7 nd) (V8 (Xd 8 nd) PX)))))
   (ZQ (Zj 9 nd (Zh DY hr7 (ZG (pv 5) (ZG (pv 3) ZH)))) ht))))
  (ZW (Zk Xq))))),?_⟩
 intro S e nS ne z1;have i1:ZA H (upd (upd H e (.own S)) S (.ins jg e [])):=fun b o q=>by
  rw [ZX (Zb q nS),ZX (Zb q ne)];exact q
 refine ⟨S,e,rfl,ZN,fun H1 d lk fr1 nd1 nlk1 dl1 R1=>⟨rfl,?_⟩⟩;have s01:ZA H H1:=fun b o q=>fr1 b o (Zb q nS) (i1 b o q);have RP:YT jg jh H1 S d lk [] (fun _=>[]) (fun _=>0) [] [] []:=⟨R1,rfl,fun i hi=>absurd hi (zBI _),rfl,fun i hi=>absurd hi (zBI _),fun i hi=>absurd hi (zBI _),fun i _ hi=>absurd hi (zBI _)⟩;refine ⟨_,rfl,_,rfl,H,a,S,d,lk,ns,_,_,rfl,hSq,hn,s01,nS,i1.free nd1,i1.free nlk1,RP,fun H2 Ls ts av ho as kvs ls t1 t2 r l240 l480=>?_⟩;obtain ⟨T1,A1,_,D1⟩:=r.trs t1 (by simp)
 obtain ⟨T2,A2,_,D2⟩:=r.trs t2 (by simp)
 have hL2:H2 Ls=some (.lst [.ref t1.T,.ref t2.T]):=r.hL;have ln1:t1.us.length=t1.rs.length:=by have:=T1.ks.length;unfold YQ at this;rw [zAD] at this;exact this.symm
 have ln2:t2.us.length=t2.rs.length:=by have:=T2.ks.length;unfold YQ at this;rw [zAD] at this;exact this.symm
 have w1:=T1.len;have w2:=T2.len;refine ⟨_,rfl,Ls,t1.T,t2.T,t1.r,t2.r,_,_,t1.us,t2.us,t1.rs,t2.rs,rfl,hL2,T1.tp,T2.tp,T1.rl,T2.rl,T1.ks,T2.ks,by lia,by lia,fun kn ks H3 s3 nkn hkn kkn=>?_⟩
 have R2:=r.pla.sh;have lkn:ks.length=t1.rs.length+t2.rs.length:=by
  have:=kkn.length;rw [zAD,zAI] at this;exact this.symm
 have nd0:H d=none:=i1.free nd1;have s02:ZA H H2:=fun b o e=>r.pla.fr b o (fun z=>z) (Zb e nS) (Zb e nd0) (fun j hj=>absurd hj (zBI _)) e;have okn:∀ i:Nat,i<ts.length->(as.getD i .d).ab≠kn/\(as.getD i .d).th≠kn:=(PY R2 nkn hkn).own;have Lkn:Ls≠kn:=Zb hL2 nkn;have sq3:=(s02.trans s3).seq hSq;obtain ⟨M,eM,M3,M61⟩:∃ M:Int,(if (if (63:Int)<((ns.map V.int).length:Int) then (63:Int) else ((ns.map V.int).length:Int)) > 5 then (if (63:Int)<((ns.map V.int).length:Int) then (63:Int) else ((ns.map V.int).length:Int)) else 5)=M/\5<=M/\M<=63:=by
  refine ⟨_,rfl,?_,?_⟩
  ·(repeat' split) <;> lia
  ·(repeat' split) <;> lia
 refine ⟨_,rfl,a,ns.map V.int,rfl,.inl sq3,_,_,rfl,_,_,rfl,2,M,congrArg (fun z=>[V.int 2,V.int z]) eM,⟨by lia,by lia,by lia,by lia⟩,?_⟩
 clear eM;have J0:VY jg jh H H3 ⟨S,d,ts,av,ho,as,kvs⟩ lk ts.length ls Ls kn t1 t2 ks ((t1.rs++t2.rs).map (·.1)):=⟨(R2.same s3).q,s02.trans s3,i1.free nlk1,s3 _ _ hL2,r.aL.lk,⟨ZA.tups s3 _ _ T1.tp,T1.rcd.same s3,T1.rt⟩,⟨ZA.tups s3 _ _ T2.tp,T2.rcd.same s3,T2.rt⟩,hkn,kkn,fun t ht=>by
  obtain ⟨x,hx,rfl⟩:=zAb.mp ht;exact (zAm.mp hx).elim (fun z=>(T1.fit x z).1) (fun z=>(T2.fit x z).1),(Zb R2.sh.looks nkn).symm⟩
 have wf:=r.pla.wf;have low:=r.pla.hs;refine Qp (lo:=2) (n:=(M - 2).toNat) (Bv a S Ls kn jg jh H d ts av ho as kvs t1 t2)
  ⟨_,_,_,_,_,_,_,_,_,_,_,_,_,lk,_,ls,ks,_,rfl,J0,by lia⟩ ?_ ?_
 ·rintro i σ H4 hi ⟨x4,x5,x6,x7,x8,x9,x10,x11,jG,jR,jI,jJ,jH,lk4,c,ls4,us,jo,rfl,j,lus⟩;refine ⟨_,rfl,_,rfl,a,ns,_,rfl,j.s0.seq hSq,hn,by lia,by lia,fun p H5 np s5 W5=>?_⟩
  refine ⟨_,rfl,_,rfl,p,2,rfl,W5,Yz (by decide) (by decide),fun z H6 z0 z2 W6 s6=>?_⟩
  have Lp:Ls≠p:=Zb j.hL np;have knp:kn≠p:=Zb j.hk np;have hL6:=s6 _ _ (s5 _ _ j.hL) Lp;obtain ⟨v,ev,hv⟩:=Oe (x:=V.ref t1.T) (y:=V.ref t2.T) z0 z2;obtain ⟨t,rfl,tq,tdd⟩:∃ t:Y1,v=.ref t.T/\Yj ts H4 t/\t.d≠d:=by
   rcases hv with rfl | rfl
   ·exact ⟨t1,rfl,j.tr1,D1⟩
   ·exact ⟨t2,rfl,j.tr2,D2⟩
  have f46:ZA H4 H6:=fun b o e=>s6 b o (s5 b o e) (Zb e np);have t46:=ZA.tups f46;have C:QT H ⟨S,d,ts,av,ho,as,kvs⟩ Ls kn t1 t2 t:=⟨s02.free nkn,nS,nd0,Lkn,D1,D2,tdd,wf,low,l240,okn⟩;refine .inl ⟨Ls,_,_,_,rfl,rfl,ZK.of hL6,ev,?_⟩;refine ⟨t.T,_,rfl,Zn.of (t46 _ _ tq.tp),rfl,_,_,rfl,_,_,rfl,_,_,rfl,rfl,?_⟩;have hk6:=f46 _ _ j.hk;have tr6:∀{t:Y1},Yj ts H4 t->Yj ts H6 t:=fun h=>h.go t46 fun o e=>f46 _ _ e;have j6:VY jg jh H H6 ⟨S,d,ts,av,ho,as,kvs⟩ lk4 c ls4 Ls kn t1 t2 us jo:=⟨j.sh.same f46,j.s0.trans f46,j.nlk,hL6,j.Llk,tr6 j.tr1,tr6 j.tr2,hk6,j.ks.mono t46 _ _,j.fit,j.klk⟩;refine ⟨_,rfl,_,rfl,p,kn,us,jo,rfl,W6,hk6,j6.ks,j.fit,knp,by lia,fun v kt us7 kts7 H7 kv fk hk7 ks7 fit7 lu7 W7 fr7=>?_⟩
  have plk:p≠lk4:=(Zb j.sh.sh.looks np).symm;have op:∀ i:Nat,i<ts.length->(as.getD i .d).ab≠p/\(as.getD i .d).th≠p:=fun i hi=>by
   obtain ⟨us',e1,_⟩:=(j.sh.tw i hi).things;exact ⟨Zb (j.sh.tw i hi).tw.above np,Zb e1 np⟩
  have J6:Y7 jg jh H H6 ⟨S,d,ts,av,ho,as,kvs⟩ lk4 c ls4 Ls kn t1 t2 us jo p t (.int 0) (.int 0):=⟨j6,W6,plk,j.s0.free np,Lp,knp,op,tr6 tq,.int 0⟩;have J7:=J6.key C fr7 W7 hk7 ks7 fit7;have J7:Y7 jg jh H H7 ⟨S,d,ts,av,ho,as,kvs⟩ lk4 c ls4 Ls kn t1 t2 us7 kts7 p t v kt:=⟨J7.lw,J7.w,J7.plk,J7.np,J7.Lp,J7.kp,J7.op,J7.tq,kv⟩;refine hk3 _ H H7 ⟨S,d,ts,av,ho,as,kvs⟩ lk4 c ls4 Ls kn t1 t2 us7 kts7 p t v kt _ _ _ _ _ _ _ _ _ _ _ J7 C fk (by lia) fun H' lk' c' ls' us' kts' y10 y11 y12 y13 y14 y15 y16 z lz=>?_
  exact ⟨_,_,_,_,_,_,_,_,_,_,_,_,_,lk',c',ls',us',kts',rfl,z,by lia⟩
 ·rintro σ H4 ⟨x4,x5,x6,x7,x8,x9,x10,x11,jG,jR,jI,jJ,jH,lk4,c,ls4,us,jo,rfl,j,lus⟩;exact k H4
end
end Tw
namespace L2
open PySem PySem.Spec
def xC(K:zAA)(C:Addr):Bool:=
 (zAX K (.ref C) "__getattribute__" == some (some (.builtin "BaseException.__getattribute__")))&&((zAX K (.ref C) "__getattr__" == some none)&&((zAw K C (.type "BaseException")==some true)&&((zAw K C (.type "object")==some true) &&
 ((zAX K (.ref C) "__class__" == some (some (.builtin "object.__class__")))&&((PySem.W.specialIn K (.builtin "object.__class__") "__get__" == some (some (.builtin "getset_descriptor.__get__")))&&(PySem.W.takesIn K (.builtin "object.__class__")==some true))))))
theorem Kt{K:zAA}{C:Addr}(h:xC K C=true):Xt K C:=by
 unfold xC at h;simp only [zAR,beq_iff_eq] at h;obtain ⟨a,b,c,d,e,f,g⟩:=h;exact ⟨a,b,c,d,e,f,g⟩
def xF(K:zAA)(C fI:Addr)(f:Str):Bool:=
 xC K C&&(NV K C&&((zAX K (.ref C) "__init__" == some (some (.ref fI)))&&(zBp K (.ref fI)&&(zAu K (.ref C)&&((zAX K (.ref C) "__setattr__" == some (some (.builtin "object.__setattr__"))) &&
 ((zAX K (.ref C) f==some none)&&(zBW K C&&IW K C)))))))
theorem AL{K:zAA}{C fI:Addr}{f:Str}(h:xF K C fI f=true):WX K C fI f:=by
 unfold xF at h;simp only [zAR,beq_iff_eq] at h;obtain ⟨a,b,c,d,e,f,g,i,j⟩:=h;exact ⟨Kt a,b,c,d,e,f,g,i,j⟩
def MT(K:zAA)(cs:List Addr)(up:jd):Bool:=
 (zAi cs.length).all fun k=>xC K (cs.getD k 0)&&((zAi cs.length).all (fun j=>zAZ K (.ref (cs.getD k 0)) (.ref (cs.getD j 0))==some (k==j))&&up.all fun v=>zAZ K (.ref (cs.getD k 0)) v==some true)
theorem Hg{K:zAA}{cs:List Addr}{up:jd}(h:MT K cs up=true){k:Nat}(hk:k<cs.length):Xt K (cs.getD k 0)/\(∀ j,j<cs.length->zAZ K (.ref (cs.getD k 0)) (.ref (cs.getD j 0))=some (k==j))/\∀ v∈up,zAZ K (.ref (cs.getD k 0)) v=some true:=by
 have h1:=zAO.mp h k (zA7.mpr hk);simp only [zAR] at h1;exact ⟨Kt h1.1,fun j hj=>beq_iff_eq.mp (zAO.mp h1.2.1 j (zA7.mpr hj)),fun v hv=>beq_iff_eq.mp (zAO.mp h1.2.2 v hv)⟩
end L2
namespace Tw
open PySem PySem.Spec L2 PyProof.Rows
section
variable{P:Program}{w:World}{K:zAA}{mg:jb}{base:Heap}{f:Addr}{fd:FuncData}
abbrev Q1:Stmt:=We (Zt 6) 0
theorem D5:ZD ["self","number"] ["self","number"] (Zg Q1):=Zu
theorem EY{C:Addr}(F:Zq K "__init__" "NoTwig.__init__" Q1 f fd):ZM P w K mg base ZU 1 f fd ["self","number"] (On K C f "number"):=by
 refine F.ok D5 (fun vs H Q E h=>(by obtain ⟨_,_,_,rfl,_⟩:=h;rfl)) (fun cdv A outer s H vs Q E hr h=>?_)
 obtain ⟨c,ea,y,rfl,e,k⟩:=h;exact ⟨_,ZW (ZMy (pv 0) (pv 1) rfl),⟨_,rfl,_,rfl,Uy,ea,_,_,rfl,e,c,k⟩⟩
theorem Dm{CB CT CK CP:Addr}(h:MT K [CT,CK,CP] [.type "ValueError"]=true)(b:mg "TwigError" = some (.ref CB))(n1:mg "NoTwig" = some (.ref CT))(n2:mg "NoKey" = some (.ref CK))(n3:mg "NoPlace" = some (.ref CP))(ty:zBA K (.ref CB)=some (.type "type"))(mB:zAw K CB (.type "BaseException")=some true)(sT:zAw K CT (.ref CB)=some true)(sK:zAw K CK (.ref CB)=some true):Cl K mg CB CT CK CP:=by
 obtain ⟨_,t1,t2⟩:=Hg h (k:=0) (by simp)
 obtain ⟨k0,k1,k2⟩:=Hg h (k:=1) (by simp)
 exact ⟨b,n1,n2,n3,ty,mB,sT,sK,k0,t1 0 (by simp),t1 1 (by simp),t1 2 (by simp),t2 _ (by simp),k1 0 (by simp),k1 1 (by simp),k1 2 (by simp),k2 _ (by simp)⟩
end
structure Zw(K:zAA)(C:Addr)(m q:Str)(st:Stmt)(ps:List Str):Prop where
 ex:∃ f fd,US K C m f/\Zq K m q st f fd/\Zs K fd ps []
theorem Zw.of{P:Program}{w:World}{K:zAA}{mg:jb}{base:Heap}{CX:Ws}{C:Addr}{m q:Str}{st:Stmt}{ps:List Str}{k:Nat}{sp:Sp}(L:Zw K C m q st ps)(h:∀ f fd,Zq K m q st f fd->ZM P w K mg base CX k f fd ps sp):ZJ P w K mg base CX k C m ps sp:=by
 obtain ⟨f,fd,M,F,b⟩:=L.ex;exact ⟨f,fd,M,h f fd F,b⟩
theorem P0{K:zAA}{C f:Addr}{m q:Str}{st:Stmt}{ps:List Str}{od an:Option Addr}{sl:Array (jc)}{oc kV dc pm cd ct:Value}(v:zAX K (.ref C) m=some (some (.ref f)))(l:K.lookup f=some ⟨oc,od,.func (zBF m q (Vx st) (WQ st) (Zg st) .none kV dc pm an cd ct),sl⟩)(fn:zBp K (.ref f)=true)(c:zBa K cd q=true)(k:zAu K (.ref f)=true)(hb:∀ (kV doc pm:Value) (an:Option Addr) (cdv ct:Value) (us:jd),us.length=ps.length->bindArgs (zBF m q (Vx st) (WQ st) (Zg st) .none kV doc pm an cdv ct) ⟨us,[]⟩=pure (ps.zip us):=by first | exact (fun _ _ _ _ _ _ us hl=>match us,hl with | [_],_=>rfl) | exact (fun _ _ _ _ _ _ us hl=>match us,hl with | [_,_],_=>rfl) | exact (fun _ _ _ _ _ _ us hl=>match us,hl with | [_,_,_],_=>rfl) | exact (fun _ _ _ _ _ _ us hl=>match us,hl with | [_,_,_,_],_=>rfl) | exact (fun _ _ _ _ _ _ us hl=>match us,hl with | [_,_,_,_,_],_=>rfl)):Zw K C m q st ps:=
 ⟨f,_,⟨v,fn,k⟩,U5 (st:=st) l c k,(U5 (st:=st) l c k).binds hb⟩
structure Uk(K:zAA)(C:Addr)(q:Str)(st:Stmt)(ps:List Str):Prop where
 ex:∃ f fd,zAX K (.ref C) "__init__" = some (some (.ref f))/\zBp K (.ref f)=true/\Zq K "__init__" q st f fd/\Zs K fd ps []
theorem P7{K:zAA}{C f:Addr}{q:Str}{st:Stmt}{ps:List Str}{od an:Option Addr}{sl:Array (jc)}{oc kV dc pm cd ct:Value}(v:zAX K (.ref C) "__init__" = some (some (.ref f)))(l:K.lookup f=some ⟨oc,od,.func (zBF "__init__" q (Vx st) (WQ st) (Zg st) .none kV dc pm an cd ct),sl⟩)(fn:zBp K (.ref f)=true)(c:zBa K cd q=true)(k:zAu K (.ref f)=true)(hb:∀ (kV doc pm:Value) (an:Option Addr) (cdv ct:Value) (us:jd),us.length=ps.length->bindArgs (zBF "__init__" q (Vx st) (WQ st) (Zg st) .none kV doc pm an cdv ct) ⟨us,[]⟩=pure (ps.zip us):=by first | exact (fun _ _ _ _ _ _ us hl=>match us,hl with | [_],_=>rfl) | exact (fun _ _ _ _ _ _ us hl=>match us,hl with | [_,_],_=>rfl) | exact (fun _ _ _ _ _ _ us hl=>match us,hl with | [_,_,_],_=>rfl) | exact (fun _ _ _ _ _ _ us hl=>match us,hl with | [_,_,_,_],_=>rfl) | exact (fun _ _ _ _ _ _ us hl=>match us,hl with | [_,_,_,_,_],_=>rfl)):Uk K C q st ps:=
 ⟨f,_,v,fn,U5 (st:=st) l c k,(U5 (st:=st) l c k).binds hb⟩
theorem MB{l:zCt}{w:World}{K:zAA}{h:Heap}{mg:jb}{fa f45 CB CK CT CP jg jh jN:Addr}(X:K.In h)(G:h.Ns mainGlobals mg)(hfa:mg "law" = some (.ref fa)){od45 an45:Option Addr}{sl45:Array (jc)}{oc45 kV45 dc45 pm45 cd45 ct45:Value}{t1 t2 t3 t4 t5 t6 t7 t8 t9 t10:Tok}(L1:Zd K mg "is_key" LY ["thing"])(L2:Zd K mg "checked" NF ["thing"])(L3:Zd K mg "fits" O7 ["thing","room"])(L4:Zd K mg "has_few_figures" ML ["number"])(L5:Zd K mg "is_sign" La ["sign"])(L6:Zd K mg "ahead" M6 ["one","other"])(L7:Zd K mg "place_in" MJ ["keys","key"])(L8:Zd K mg "standing" Op ["key"])(L9:Zd K mg "checked_rows" MP ["rows"])(L10:Zd K mg "own_rows" Nn ["rows"])(L11:Zd K mg "rise" M4 ["keys"])(L12:Zd K mg "label_of_rows" LT ["rows"])(L13:Zd K mg "label_over" Lm ["labels"])(L14:Zd K mg "stand_side_by_side" NW ["label","following"])(L15:Zd K mg "way_holds" N1 ["shelf","root","key","way"])(L16:Zd K mg "check_asked" Mc ["shelf","root","key"])(L17:Zd K mg "place_within" LK ["shelf","found","key"])(L18:Zd K mg "branch_at" MA ["found","at"])(L19:Zd K mg "is_leaf" Ld ["found"])(L20:Zd K mg "is_stem" LB ["twig"])(L21:Zd K mg "_law_well" Nq ["_law_script","_law_k"])(L22:Zd K mg "_law_pull" Mb ["_law_well_here","_law_many"])(L23:Zd K mg "_law_great" MG ["_law_well_here","_law_bound"])(L24:Zd K mg "_law_text" Nt ["_law_well_here"])(L25:Zd K mg "_law_key" Oa ["_law_well_here","_law_room"])(L26:Zd K mg "_law_rank" OW ["_law_spot"])(L27:Zd K mg "_law_sorted" LC ["_law_model"])(L28:Zd K mg "_law_keys" Nj ["_law_well_here","_law_many"])(L29:Zd K mg "_law_cut" P6 ["_law_well_here","_law_things","_law_few","_law_stem"])(L30:Zd K mg "_law_plant" Ut ["_law_well_here","_law_shelf","_law_rows"])(L31:Zd K mg "_law_reached" NR ["_law_shelf","_law_root","_law_found"])(L32:Zd K mg "_law_value" Mm ["_law_well_here"])(L33:Zd K mg "_law_any_key" MW ["_law_well_here","_law_known_here"])(L34:Zd K mg "_law_ground" Nv ["_law_well_here","_law_most"])(L35:Zd K mg "_law_bad" N5 ["_law_well_here"])(L36:Zd K mg "_law_gone" NQ ["_law_well_here","_law_shelf"])(L37:Zd K mg "_law_trees" Nh ["_law_script","_law_shelf"])(L38:Zd K mg "_law_known" LX ["_law_trees_here"])(L39:Zd K mg "_law_least" Mj ["_law_record","_law_number"])(L40:Zd K mg "_law_way" Nr ["_law_record","_law_root","_law_spot"])(L41:Zd K mg "_law_down" LJ ["_law_well_here","_law_record","_law_root","_law_spot"])(L42:Zd K mg "_law_refusal" MY ["_law_shelf","_law_root","_law_spot","_law_way_here"])(L43:Zd K mg "_law_spoilt" QX ["_law_well_here","_law_way_here","_law_numbers"])(L44:Zd K mg "_law_asked" Mp ["_law_shelf","_law_root","_law_spot","_law_way_here","_law_due"])(a45:zAc K mainGlobals "law" = some (some (.ref f45)))(l45:K.lookup f45=some ⟨oc45,od45,.func (zBF "law" "law" (Vx VF) (WQ VF) (Zg VF) .none kV45 dc45 pm45 an45 cd45 ct45),sl45⟩)(c45:zBa K cd45 "law" = true)(k45:zAu K (.ref f45)=true)(z1:zAc K mainGlobals "isinstance" = some none)(z2:zAc K mainGlobals "bool" = some none)(z3:zAc K mainGlobals "int" = some none)(z4:zAc K mainGlobals "str" = some none)(z5:zAc K mainGlobals "tuple" = some none)(z6:zAc K mainGlobals "list" = some none)(z7:zAc K mainGlobals "len" = some none)(z8:zAc K mainGlobals "all" = some none)(z9:zAc K mainGlobals "abs" = some none)(z10:zAc K mainGlobals "max" = some none)(z11:zAc K mainGlobals "min" = some none)(z12:zAc K mainGlobals "range" = some none)(z13:zAc K mainGlobals "sorted" = some none)(z14:zAc K mainGlobals "ValueError" = some none)(z15:zAc K mainGlobals "sum" = some none)(z16:zAc K mainGlobals "set" = some none)(m1_:zAc K mainGlobals "MOST_SIGNS" = some (some (.int 40 t1)))(m2_:zAc K mainGlobals "MOST_THINGS" = some (some (.int 4 t2)))(m3_:zAc K mainGlobals "MOST_DEEP" = some (some (.int 3 t3)))(m4_:zAc K mainGlobals "MOST_ROWS" = some (some (.int 4 t4)))(m5_:zAc K mainGlobals "FEWEST_BRANCHES" = some (some (.int 2 t5)))(m6_:zAc K mainGlobals "MOST_BRANCHES" = some (some (.int 4 t6)))(m7_:zAc K mainGlobals "HEIGHT" = some (some (.int 0 t7)))(m8_:zAc K mainGlobals "LEAST" = some (some (.int 1 t8)))(m9_:zAc K mainGlobals "GREATEST" = some (some (.int 2 t9)))(m10_:zAc K mainGlobals "MANY" = some (some (.int 3 t10)))(IjS:Uk K jg "Shelf.__init__" Le ["self"])(IjT:Uk K jh "Twig.__init__" Lg ["self","things","tag"]){ocjN kVjN dcjN pmjN cdjN ctjN:Value}{odjN anjN:Option Addr}{sljN:Array (jc)}(iljN:K.lookup jN=some ⟨ocjN,odjN,.func (zBF "__init__" "NoTwig.__init__" (Vx Q1) (WQ Q1) (Zg Q1) .none kVjN dcjN pmjN anjN cdjN ctjN),sljN⟩)(icjN:zBa K cdjN "NoTwig.__init__" = true)(ikjN:zAu K (.ref jN)=true)(Mm1:Zw K jg "put_leaf" "Shelf.put_leaf" Ma ["self","rows"])(Mm2:Zw K jg "put_stem" "Shelf.put_stem" MX ["self","numbers"])(Mm3:Zw K jg "put_twig" "Shelf.put_twig" N9 ["self","things","label"])(Mm4:Zw K jg "holders" "Shelf.holders" LO ["self","number"])(Mm5:Zw K jg "outside" "Shelf.outside" MO ["self","number"])(Mm6:Zw K jg "let_go" "Shelf.let_go" Mg ["self","number"])(Mm7:Zw K jg "look" "Shelf.look" LP ["self","number"])(Mm8:Zw K jg "label" "Shelf.label" OP ["self","number"])(Mm9:Zw K jg "forget" "Shelf.forget" Nf ["self"])(Mm10:Zw K jg "looked" "Shelf.looked" Ml ["self"])(Mm11:Zw K jg "drop_unheld" "Shelf.drop_unheld" NN ["self","number"])(Mm12:Zw K jg "twig_of" "Shelf.twig_of" Oz ["self","number"])(Mm13:Zw K jg "labels_of" "Shelf.labels_of" LV ["self","numbers"])(Mm14:Zw K jg "check_held" "Shelf.check_held" Ni ["self","numbers"])(Mm15:Zw K jg "take_over" "Shelf.take_over" MF ["self","stem","branches"])(Mm16:Zw K jg "numbers" "Shelf.numbers" LR ["self"])(xCB:zAc K mainGlobals "TwigError" = some (some (.ref CB)))(xCK:zAc K mainGlobals "NoKey" = some (some (.ref CK)))(xCT:zAc K mainGlobals "NoTwig" = some (some (.ref CT)))(xCP:zAc K mainGlobals "NoPlace" = some (some (.ref CP)))(xCSh:zAc K mainGlobals "Shelf" = some (some (.ref jg)))(xCTw:zAc K mainGlobals "Twig" = some (some (.ref jh)))(vjN:zAX K (.ref CT) "__init__" = some (some (.ref jN)))(mkCSh:zCP K jg=true)(kpCSh:zAu K (.ref jg)=true)(pgCSh:zBm K jg Str.empty=true)(hdCSh:zBW K jg=true)(poCSh:zCB K jg=true)(saCSh:zAX K (.ref jg) "__setattr__" = some (some (.builtin "object.__setattr__")))(mkCTw:zCP K jh=true)(kpCTw:zAu K (.ref jh)=true)(pgCTw:zBm K jh Str.empty=true)(hdCTw:zBW K jh=true)(poCTw:zCB K jh=true)(saCTw:zAX K (.ref jh) "__setattr__" = some (some (.builtin "object.__setattr__")))(na_kept:zAX K (.ref jg) "kept" = some none)(na_following:zAX K (.ref jg) "following" = some none)(na_looks:zAX K (.ref jg) "looks" = some none)(na_things:zAX K (.ref jh) "things" = some none)(na_tag:zAX K (.ref jh) "tag" = some none)(na_above:zAX K (.ref jh) "above" = some none)(na_holds:zAX K (.ref jh) "holds" = some none)(tyB:zBA K (.ref CB)=some (.type "type"))(mB:zAw K CB (.type "BaseException")=some true)(kitx:MT K [CT,CK,CP] [.type "ValueError"]=true)(wCT:xF K CT jN "number" = true)(tyCT:zBA K (.ref CT)=some (.type "type"))(sbCT:zAw K CT (.ref CB)=some true)(sbCK:zAw K CK (.ref CB)=some true)(exCK:zCd K CK Q0 "ValueError.__new__" = true)(kpCK:zAu K (.ref CK)=true)(mBCK:zAw K CK (.type "BaseException")=some true)(tyCK:zBA K (.ref CK)=some (.type "type")):
  ∃ fd:FuncData,(∀(s:Shared)(v:Value),BindsTo s fd ⟨[v],[]⟩ [("_law_script",v)])/\∀ base:Heap,K.In base->base.Ns mainGlobals mg->ZM l.prog w K mg base ZU 40 fa fd ["_law_script"] (Vg K):=by
 have e:=hfa.symm.trans (zAx X G a45);cases e;have T:YD mg:=⟨zAp X G z1,zAp X G z2,zAp X G z3,zAp X G z4,zAp X G z5,zAp X G z6,zAp X G z7,zAp X G z8,zAp X G z9,zAp X G z10,zAp X G z11,zAp X G z12,zAp X G z13,zAp X G z14,zAp X G z15,zAp X G z16,⟨_,zAx X G m1_⟩,⟨_,zAx X G m2_⟩,⟨_,zAx X G m3_⟩,⟨_,zAx X G m4_⟩,⟨_,zAx X G m5_⟩,⟨_,zAx X G m6_⟩,⟨_,zAx X G m7_⟩,⟨_,zAx X G m8_⟩,⟨_,zAx X G m9_⟩,⟨_,zAx X G m10_⟩⟩;refine ⟨zBF "law" "law" (Vx VF) (WQ VF) (Zg VF) .none kV45 dc45 pm45 an45 cd45 ct45,fun s v=>.of_eq rfl,fun base kb _=>?_⟩;have CLx:Cl K mg CB CT CK CP:=Dm kitx (zAx X G xCB) (zAx X G xCT) (zAx X G xCK) (zAx X G xCP) tyB mB sbCT sbCK;have SHx:Yt K mg jg jh:=⟨(zAx X G xCSh),(zAx X G xCTw),⟨pgCSh,hdCSh,poCSh,saCSh⟩,⟨pgCTw,hdCTw,poCTw,saCTw⟩,na_kept,na_following,na_looks,na_things,na_tag,na_above,na_holds⟩;have NTw:XN l.prog w K mg base "NoTwig" CT:=⟨⟨jN,_,AL wCT,EY (U5 (st:=Q1) iljN icjN ikjN),(U5 (st:=Q1) iljN icjN ikjN).binds fun _ _ _ _ _ _ us hl=>match us,hl with | [_,_],_=>rfl⟩,(zAx X G xCT),tyCT⟩
 have XKx:HP K mg CK:=⟨(zAx X G xCK),exCK,kpCK,mBCK,tyCK⟩;have DMS:V6 l.prog w K mg base 1 jg ["self"] (UV jg):=by obtain ⟨f,fd,v,fn,F,b⟩:=IjS.ex;exact ⟨f,fd,⟨mkCSh,v,fn,kpCSh⟩,EZ F SHx,b⟩
 have DMT:V6 l.prog w K mg base 1 jh ["self","things","tag"] (Uc jh):=by obtain ⟨f,fd,v,fn,F,b⟩:=IjT.ex;exact ⟨f,fd,⟨mkCTw,v,fn,kpCTw⟩,ZNx F SHx,b⟩
 have MTo:ZJ l.prog w K mg base ZU 1 jg "twig_of" ["self","number"] (Z4 jg):=Mm12.of fun _ _ F=>Fg F SHx;have MOu:ZJ l.prog w K mg base ZU 2 jg "outside" ["self","number"] (WG jg jh fun _ ho _=>.int ho):=Mm5.of fun _ _ F=>GI F SHx MTo;have MLa:ZJ l.prog w K mg base ZU 2 jg "label" ["self","number"] (WG jg jh fun tg _ _=>tg):=Mm8.of fun _ _ F=>E7 F SHx MTo;have MHo:ZJ l.prog w K mg base ZU 2 jg "holders" ["self","number"] (WG jg jh fun _ ho us=>.int ((us.length:Nat)+(ho:Nat):Int)):=Mm4.of fun _ _ F=>C8 F T SHx MTo;have MFo:ZJ l.prog w K mg base ZU 1 jg "forget" ["self"] (XR jg jh):=Mm9.of fun _ _ F=>Cs F SHx;have MLk:ZJ l.prog w K mg base ZU 1 jg "looked" ["self"] (XW jg jh):=Mm10.of fun _ _ F=>FZ F T SHx;have DIs:ZB l.prog w K mg base 1 "is_stem" ["twig"] (Wf jh):=L20.of fun _ _ F=>Eb F T SHx;have MLo:ZJ l.prog w K mg base ZU 2 jg "look" ["self","number"] (VN jg jh):=Mm7.of fun _ _ F=>Dc F T SHx MTo DIs;have MLq:=Fq MLo;have MBq:=FE MLa;have MPt:ZJ l.prog w K mg base ZU 3 jg "put_twig" ["self","things","label"] (Yu jg jh):=Mm3.of fun _ _ F=>ZHS F SHx DMT;have MTk:ZJ l.prog w K mg base ZU 2 jg "take_over" ["self","stem","branches"] (XC jg jh):=Mm15.of fun _ _ F=>EN F SHx MTo;have MTd:ZJ l.prog w K mg base (WO l.prog w) 3 jg "twig_of" ["self","number"] (XY jg CT):=Mm12.of fun _ _ F=>Dv F SHx NTw;have MLd:ZJ l.prog w K mg base (WO l.prog w) 4 jg "label" ["self","number"] (X4 jg jh CT):=Mm8.of fun _ _ F=>DQ F SHx MTd;have MLs:ZJ l.prog w K mg base ZU 3 jg "labels_of" ["self","numbers"] (Yn jg jh):=Mm13.of fun _ _ F=>Ax F SHx MLa;have MCh:ZJ l.prog w K mg base ZU 3 jg "check_held" ["self","numbers"] (YA jg jh):=Mm14.of fun _ _ F=>EQ F SHx MOu;have MDr:ZJ l.prog w K mg base ZU 3 jg "drop_unheld" ["self","number"] (VW jg jh):=Mm11.of fun _ _ F=>Dt F SHx MHo DIs;have MLg:ZJ l.prog w K mg base ZU 4 jg "let_go" ["self","number"] (Wo jg jh):=Mm6.of fun _ _ F=>ZKs F SHx MCh MTo MDr;have DP:ZB l.prog w K mg base 1 "_law_pull" ["_law_well_here","_law_many"] (Zl):=L22.of fun _ _ F=>Dl F;have DW:ZB l.prog w K mg base 1 "_law_well" ["_law_script","_law_k"] (Wc K):=L21.of fun _ _ F=>GW F T;have DG:ZB l.prog w K mg base 2 "_law_great" ["_law_well_here","_law_bound"] (Zl):=L23.of fun _ _ F=>Fy F T DP;have DT:ZB l.prog w K mg base 2 "_law_text" ["_law_well_here"] (Xr):=L24.of fun _ _ F=>E4 F T DP;have DN:ZB l.prog w K mg base 1 "has_few_figures" ["number"] (Vc):=L4.of fun _ _ F=>Ft F T;have DSg:ZB l.prog w K mg base 1 "is_sign" ["sign"] (Wg):=L5.of fun _ _ F=>AX F;have DIg:ZB l.prog w K mg base 6 "is_key" ["thing"] (XG):=L1.of fun _ _ F=>FJ F T (Hl T L3 DN DSg 4);have DIk:=ZKA DIg;have DC:ZB l.prog w K mg base 7 "checked" ["thing"] (Ub):=L2.of fun _ _ F=>Ai F DIk;have DSt:ZB l.prog w K mg base 6 "standing" ["key"] (VP 5):=JM T L8 5;have DAh:ZB l.prog w K mg base 7 "ahead" ["one","other"] (Ys):=L6.of fun _ _ F=>GO F DSt;have DRi:ZB l.prog w K mg base 8 "rise" ["keys"] (Wm):=L11.of fun _ _ F=>A8 F T DAh;have DOw:ZB l.prog w K mg base 8 "own_rows" ["rows"] (XS):=L10.of fun _ _ F=>Bf F DC;have DCr:ZB l.prog w K mg base 9 "checked_rows" ["rows"] (Xw):=L9.of fun _ _ F=>Ev F T DOw DRi;have DLR:ZB l.prog w K mg base 1 "label_of_rows" ["rows"] (XU):=L12.of fun _ _ F=>Bu F T;have MPg:ZJ l.prog w K mg base ZU 10 jg "put_leaf" ["self","rows"] (Yb jg jh):=Mm1.of fun _ _ F=>AQ F SHx DCr DLR MPt;have MPl:=ZHI MPg;have DSi:ZB l.prog w K mg base 8 "stand_side_by_side" ["label","following"] (Va):=L14.of fun _ _ F=>BE F T DAh;have DOv:ZB l.prog w K mg base 9 "label_over" ["labels"] (WT):=L13.of fun _ _ F=>Br F T DSi;have MPs:ZJ l.prog w K mg base ZU 10 jg "put_stem" ["self","numbers"] (Zz [] jg jh):=Mm2.of fun _ _ F=>GY F T SHx MLs DOv MCh MPt MTk;have DPi:ZB l.prog w K mg base 8 "place_in" ["keys","key"] (Wn K):=L7.of fun _ _ F=>F3 F T DAh;have DIl:ZB l.prog w K mg base 1 "is_leaf" ["found"] (XH):=L19.of fun _ _ F=>ZIk F;have DBa:ZB l.prog w K mg base 2 "branch_at" ["found","at"] (XB):=L18.of fun _ _ F=>FW F DIl;have DPw:ZB l.prog w K mg base 9 "place_within" ["shelf","found","key"] (X2 [] jg jh):=L17.of fun _ _ F=>GK F T SHx DIl DPi DAh MBq;have DCd:WD l.prog w K mg base 7 "checked" ["thing"] (YW CK):=L2.ofD fun _ _ F=>Bb F kb XKx DIg;have DCa:WD l.prog w K mg base 8 "check_asked" ["shelf","root","key"] (YV jg jh CT CK):=L16.ofD fun _ _ F=>Cy F SHx MLd DCd;have DHo:WD l.prog w K mg base 10 "way_holds" ["shelf","root","key","way"] (Xp [] jg jh CT CK):=L15.ofD fun _ _ F=>Av F SHx DCa MLq DPw DBa;have MNu:ZJ l.prog w K mg base ZU 1 jg "numbers" ["self"] (Yq jg jh):=Mm16.of fun _ _ F=>Ab F T SHx;have DK:ZB l.prog w K mg base 6 "_law_key" ["_law_well_here","_law_room"] (Y6 4):=JH T L25 DP DG DT 4;have DRk:ZB l.prog w K mg base 6 "_law_rank" ["_law_spot"] (Yk 5):=Jk T L26 5;have DSo:ZB l.prog w K mg base 9 "_law_sorted" ["_law_model"] (Xv w):=L27.of fun _ _ F=>F4 F T DRk;have DKs:ZB l.prog w K mg base 9 "_law_keys" ["_law_well_here","_law_many"] (VO):=L28.of fun _ _ F=>GM F T DK DRk;have DCu:ZB l.prog w K mg base 2 "_law_cut" ["_law_well_here","_law_things","_law_few","_law_stem"] (Vp):=L29.of fun _ _ F=>C7 F T DP;have DPl:ZB l.prog w K mg base 11 "_law_plant" ["_law_well_here","_law_shelf","_law_rows"] (Wh [] jg jh):=L30.of fun _ _ F=>B8 F T SHx DP DCu MPs MPl;have DRe:ZB l.prog w K mg base 3 "_law_reached" ["_law_shelf","_law_root","_law_found"] (Xa [] jg jh):=L31.of fun _ _ F=>EJ F T SHx MLq;have DV:ZB l.prog w K mg base 7 "_law_value" ["_law_well_here"] (Wd):=L32.of fun _ _ F=>Gw F DP DK;have DAk:ZB l.prog w K mg base 7 "_law_any_key" ["_law_well_here","_law_known_here"] (XI):=L33.of fun _ _ F=>A3 F T DP DK;have DGr:ZB l.prog w K mg base 10 "_law_ground" ["_law_well_here","_law_most"] (Xz w):=L34.of fun _ _ F=>ED F DP DKs DV;have DBd:ZB l.prog w K mg base 2 "_law_bad" ["_law_well_here"] (WS):=L35.of fun _ _ F=>ZOb F DP;have DGo:ZB l.prog w K mg base 11 "_law_gone" ["_law_well_here","_law_shelf"] (XV jg jh):=L36.of fun _ _ F=>CC F SHx DP MPg MLg;have DTr:ZB l.prog w K mg base 12 "_law_trees" ["_law_script","_law_shelf"] (Wk [] K jg jh):=L37.of fun _ _ F=>BP F T DW DGr DSo DPl DRe;have DKn:ZB l.prog w K mg base 1 "_law_known" ["_law_trees_here"] (WZ):=L38.of fun _ _ F=>Ed F;have DLe:ZB l.prog w K mg base 1 "_law_least" ["_law_record","_law_number"] (Wj []):=L39.of fun _ _ F=>Ch F;have DWa:ZB l.prog w K mg base 7 "_law_way" ["_law_record","_law_root","_law_spot"] (Vr []):=L40.of fun _ _ F=>ZOF F T DRk DLe;have DDn:ZB l.prog w K mg base 7 "_law_down" ["_law_well_here","_law_record","_law_root","_law_spot"] (Xu []):=L41.of fun _ _ F=>GR F T DP DRk;have DSp:ZB l.prog w K mg base 2 "_law_spoilt" ["_law_well_here","_law_way_here","_law_numbers"] (XJ):=L43.of fun _ _ F=>AK F T DP;have DRf:ZB l.prog w K mg base 11 "_law_refusal" ["_law_shelf","_law_root","_law_spot","_law_way_here"] (YB [] jg jh):=L42.of fun _ _ F=>CG F T NTw CLx DHo;have DAs:ZB l.prog w K mg base 11 "_law_asked" ["_law_shelf","_law_root","_law_spot","_law_way_here","_law_due"] (XF [] jg jh):=L44.of fun _ _ F=>E6 F T SHx MFo DHo MLk;exact Ef (U5 (st:=VF) l45 c45 k45) T SHx DMS DW DP DTr DKn DBd DGo DRf DDn DAs DAk DWa DSp MNu
theorem Gp{l:zCt}{q:Program}{loose:List Str}{XP:(jb)->Heap->Prop}{YP:World->Heap->Prop}{d:DefRec}{K:Params->zAA}(hn:l.most=some 63)(hdf:d.params.defaults=[])(hY:∀ (w:World) (h:Heap),YP w h->(K w.params).In h)(F:∀ (w:World) (mg:jb) (fa:Addr) (h:Heap),(K w.params).In h->h.Ns mainGlobals mg->mg d.name=some (.ref fa) ->
   ∃ fd:FuncData,(∀ (s:Shared) (u:Value),BindsTo s fd ⟨[u],[]⟩ [("_law_script",u)])/\∀ base:Heap,(K w.params).In base->base.Ns mainGlobals mg->ZM l.prog w (K w.params) mg base ZU 40 fa fd ["_law_script"] (Vg (K w.params))):
  PySem.W.WalkO q loose XP YP l.row.toRowW d [] (fun f vs=>PySem.call f vs):=
 L2.OT (n:=63) (k:=40) (x:= "_law_script") (CX:=fun _=>ZU) (sp:=fun w=>Vg (K w.params)) hn (by decide) hdf ⟨rfl,by decide,by decide⟩ hY F (fun _ _ a ns hl _ hS=>⟨a,ns,rfl,hS,hl,fun _=>rfl⟩) fun _ _ _ _ _ z=>z
end Tw
open PySem PySem.W PyProof.Rows
namespace PySem.W.Fast
def tw10002158604260310784:Nat:=0
def tw10051579961002171804:Nat:=0
def tw10061774920651931829:Nat:=0
def tw10145757240661649812:Nat:=0
def tw10189889713156589158:Nat:=0
def tw10226602101037374479:Nat:=0
def tw10400318061883665132:Nat:=0
def tw10417828854377547774:Nat:=0
def tw1044075307220842133:Nat:=0
def tw10565639793251795395:Nat:=0
def tw10585862912129724433:Nat:=0
def tw10611896319436913732:Nat:=0
def tw10666409567944777506:Nat:=0
def tw10680896151733076865:Nat:=0
def tw1078338172764130020:Nat:=0
def tw10853034445170440758:Nat:=0
def tw1090293381623557509:Nat:=0
def tw10941918976308946215:Nat:=0
def tw11004799095435833426:Nat:=0
def tw11005212557217641416:Nat:=0
def tw11006131498380534882:Nat:=0
def tw11014402150385687884:Nat:=0
def tw11070925795841124699:Nat:=0
def tw11255697657112069104:Nat:=0
def tw11440376831521498209:Nat:=0
def tw11703802828738917227:Nat:=0
def tw11744450347184784431:Nat:=0
def tw11753496313408386451:Nat:=0
def tw11796338441183365142:Nat:=0
def tw11979054644823463301:Nat:=0
def tw11993831827714923981:Nat:=0
def tw12046280618417405163:Nat:=0
def tw12070395701933849141:Nat:=0
def tw12105330315747975816:Nat:=0
def tw12118644909951913631:Nat:=0
def tw12316389218114541988:Nat:=0
def tw12344823337260609312:Nat:=0
def tw12353908637374970543:Nat:=0
def tw12356899276303951035:Nat:=0
def tw12413314988497469493:Nat:=0
def tw12432163269124305423:Nat:=0
def tw1245329566835829417:Nat:=0
def tw12551540611766096220:Nat:=0
def tw12688277158184285100:Nat:=0
def tw12702199214974175664:Nat:=0
def tw12739820207758559006:Nat:=0
def tw1278964463040725502:Nat:=0
def tw1280452888012380687:Nat:=0
def tw12806542944397255695:Nat:=0
def tw12877876747656381791:Nat:=0
def tw13012701976389386572:Nat:=0
def tw13019813654864225250:Nat:=0
def tw13090127806969611172:Nat:=0
def tw13117908473542644225:Nat:=0
def tw1333322203687695382:Nat:=0
def tw13427502599883637869:Nat:=0
def tw13444455799839160043:Nat:=0
def tw13483371655060439641:Nat:=0
def tw13485042560505373508:Nat:=0
def tw13502026638274964365:Nat:=0
def tw13543248799744309273:Nat:=0
def tw13560773433198691545:Nat:=0
def tw13624317642838726787:Nat:=0
def tw1371805980574536583:Nat:=0
def tw13802461059549614170:Nat:=0
def tw13908843881032482539:Nat:=0
def tw13982177058172714863:Nat:=0
def tw14100938976818982859:Nat:=0
def tw14129298157908142791:Nat:=0
def tw14240197704272754079:Nat:=0
def tw14357153664275717885:Nat:=0
def tw14430999103944164824:Nat:=0
def tw1447968800515869126:Nat:=0
def tw14493112680420103313:Nat:=0
def tw14524097626597377625:Nat:=0
def tw14662755480525953859:Nat:=0
def tw14847634505469732855:Nat:=0
def tw1488873864899947617:Nat:=0
def tw14935685132215583758:Nat:=0
def tw14987888237808527274:Nat:=0
def tw15099554427539606952:Nat:=0
def tw15120027830689800108:Nat:=0
def tw15306919038271310584:Nat:=0
def tw15384120692607920891:Nat:=0
def tw15394309564257255834:Nat:=0
def tw15460986138612282719:Nat:=0
def tw15509615158688492337:Nat:=0
def tw1560971166470756252:Nat:=0
def tw1567417786412279239:Nat:=0
def tw15704444630864532918:Nat:=0
def tw15739041442389342764:Nat:=0
def tw15766938106858552178:Nat:=0
def tw15918550889833732716:Nat:=0
def tw15960564748423526275:Nat:=0
def tw15980042811935504956:Nat:=0
def tw16124948710876697682:Nat:=0
def tw16208567446352629055:Nat:=0
def tw1652602786663017785:Nat:=0
def tw16544361362479121740:Nat:=0
def tw16561994372753574108:Nat:=0
def tw16579349369681300288:Nat:=0
def tw16593036882646185624:Nat:=0
def tw16595907548876233070:Nat:=0
def tw16665605928830220669:Nat:=0
def tw16712089279602750894:Nat:=0
def tw16742464525573553280:Nat:=0
def tw16897791910317338862:Nat:=0
def tw16931892316673321213:Nat:=0
def tw17002538882552226953:Nat:=0
def tw17050003679549166359:Nat:=0
def tw17181927469008893150:Nat:=0
def tw17207429862355804620:Nat:=0
def tw17215720620222852091:Nat:=0
def tw17348260990119069852:Nat:=0
def tw17668644447374253842:Nat:=0
def tw17700633132183675876:Nat:=0
def tw17704336201134900738:Nat:=0
def tw17782649839475449959:Nat:=0
def tw17817199213296622966:Nat:=0
def tw17845743119739080245:Nat:=0
def tw17856772972823061928:Nat:=0
def tw18132811520937733984:Nat:=0
def tw18248168967916543986:Nat:=0
def tw18294299704308698909:Nat:=0
def tw18315330044728426332:Nat:=0
def tw18351771786749931575:Nat:=0
def tw18389344027297682774:Nat:=0
def tw18432406200776166249:Nat:=0
def tw2204576764514063092:Nat:=0
def tw2222058926575235182:Nat:=0
def tw2288955142107281447:Nat:=0
def tw2299384120272689902:Nat:=0
def tw2349175783231763595:Nat:=0
def tw2352060902042222987:Nat:=0
def tw2392870888697387469:Nat:=0
def tw2432761796075434099:Nat:=0
def tw2552044729940433968:Nat:=0
def tw2583370839667545067:Nat:=0
def tw2686431448159601658:Nat:=0
def tw2750513109617724792:Nat:=0
def tw2751078272550943884:Nat:=0
def tw2778274431650689315:Nat:=0
def tw2790463868602577359:Nat:=0
def tw2829568738925867709:Nat:=0
def tw2881623712399466344:Nat:=0
def tw2884969262612855627:Nat:=0
def tw2929190373651313187:Nat:=0
def tw3008925149259069583:Nat:=0
def tw3020939265624812886:Nat:=0
def tw3065958470592124272:Nat:=0
def tw3085681478494758978:Nat:=0
def tw3122847674233089337:Nat:=0
def tw3200465727333644526:Nat:=0
def tw3209340293591481617:Nat:=0
def tw3210918019854533661:Nat:=0
def tw3235898167920636015:Nat:=0
def tw3256304510265506816:Nat:=0
def tw3359123662020466609:Nat:=0
def tw3460559495879170349:Nat:=0
def tw3480625511819703398:Nat:=0
def tw3585893151037495432:Nat:=0
def tw3589450594119869400:Nat:=0
def tw3627106179231010612:Nat:=0
def tw3648157017905529454:Nat:=0
def tw3672063910988713790:Nat:=0
def tw3676670517639371341:Nat:=0
def tw3748261029267472022:Nat:=0
def tw3943282855111685377:Nat:=0
def tw3963378648108060045:Nat:=0
def tw3973067483676056207:Nat:=0
def tw3994130947925663960:Nat:=0
def tw4082197250189166533:Nat:=0
def tw4103884803714288057:Nat:=0
def tw414481211465083485:Nat:=0
def tw4237497704608017438:Nat:=0
def tw4332325328938922290:Nat:=0
def tw4404032378642819315:Nat:=0
def tw4408974839919599257:Nat:=0
def tw447146451031753985:Nat:=0
def tw450034455876154917:Nat:=0
def tw4525969664136959850:Nat:=0
def tw4626119337404210048:Nat:=0
def tw4671656921961267612:Nat:=0
def tw4728189687670332113:Nat:=0
def tw48126193526885529:Nat:=0
def tw4835646664889756263:Nat:=0
def tw4883953280792921918:Nat:=0
def tw5040441380167108553:Nat:=0
def tw5121839737788893472:Nat:=0
def tw5234253088339438411:Nat:=0
def tw5240338373903930346:Nat:=0
def tw5241385264140334811:Nat:=0
def tw5285217958205406321:Nat:=0
def tw5374724378862128548:Nat:=0
def tw5490602870793684207:Nat:=0
def tw5541324517807051132:Nat:=0
def tw5600534485853562783:Nat:=0
def tw5632523952005070840:Nat:=0
def tw5650689386412804585:Nat:=0
def tw5687320573397745942:Nat:=0
def tw5701694794728788018:Nat:=0
def tw5883903169106365022:Nat:=0
def tw5964053004507188756:Nat:=0
def tw5991074415830713899:Nat:=0
def tw6012233878833464001:Nat:=0
def tw6039626275526179957:Nat:=0
def tw6211313284345632376:Nat:=0
def tw6295509098101884075:Nat:=0
def tw6301268686714231094:Nat:=0
def tw6311624911719043028:Nat:=0
def tw6520649119123130513:Nat:=0
def tw6539930178142513116:Nat:=0
def tw6544741089884419522:Nat:=0
def tw6558181820676094956:Nat:=0
def tw6635187892240251711:Nat:=0
def tw6660933755797111784:Nat:=0
def tw6687281792312803057:Nat:=0
def tw6742662118934407054:Nat:=0
def tw6874202191207903437:Nat:=0
def tw6950546442560905640:Nat:=0
def tw6989635653577785679:Nat:=0
def tw7006190532625540152:Nat:=0
def tw7013867566896684468:Nat:=0
def tw7059196608427787074:Nat:=0
def tw7062991300429938375:Nat:=0
def tw7202825578306739453:Nat:=0
def tw721938385554769433:Nat:=0
def tw7308874856543619059:Nat:=0
def tw7334514600152746141:Nat:=0
def tw7349689250099777770:Nat:=0
def tw7369407983198588200:Nat:=0
def tw7432574267924116668:Nat:=0
def tw7544676057594033791:Nat:=0
def tw7657929206462217574:Nat:=0
def tw7685047408150515548:Nat:=0
def tw7760132081786306708:Nat:=0
def tw8033090213216130622:Nat:=0
def tw8035902254728297205:Nat:=0
def tw803873117283453023:Nat:=0
def tw8040507144675824903:Nat:=0
def tw8041038638528703529:Nat:=0
def tw8091618958035854505:Nat:=0
def tw8175586333741799486:Nat:=0
def tw8180069963189234711:Nat:=0
def tw8270092599492180069:Nat:=0
def tw8288727703477690133:Nat:=0
def tw8330002173610043326:Nat:=0
def tw8358626905919077393:Nat:=0
def tw8372301095644044480:Nat:=0
def tw8377402617816784039:Nat:=0
def tw8456638364410251589:Nat:=0
def tw8463808970714640578:Nat:=0
def tw8507920487140048091:Nat:=0
def tw8650260757107112452:Nat:=0
def tw8701901255027573750:Nat:=0
def tw8713864429530854905:Nat:=0
def tw8758448654909017056:Nat:=0
def tw8815761871400864013:Nat:=0
def tw8904269474118647443:Nat:=0
def tw8911137810251795329:Nat:=0
def tw8918808433405534297:Nat:=0
def tw9015051016010545074:Nat:=0
def tw9102016831035011778:Nat:=0
def tw9132130804340886071:Nat:=0
def tw9269612457904379380:Nat:=0
def tw9355041027728449096:Nat:=0
def tw9375787611015425530:Nat:=0
def tw9407573985735121750:Nat:=0
def tw9409485175776618450:Nat:=0
def tw9464217991768895063:Nat:=0
def tw9479375068957585113:Nat:=0
def tw9568443141530923749:Nat:=0
def tw9637204804090301055:Nat:=0
def tw964102519909738640:Nat:=0
def tw9715532958599413152:Nat:=0
def tw9726488731374450142:Nat:=0
def tw9729465857229018960:Nat:=0
def tw9736137046077274123:Nat:=0
def tw9807259776031584128:Nat:=0
def tw9888706297141563670:Nat:=0
def tw9890258120317815017:Nat:=0
def tw9895716661087452605:Nat:=0
def tw9900925650584175585:Nat:=0
def tw9918421602683902747:Nat:=0
def tw9986074548558148239:Nat:=0
end PySem.W.Fast
set_option maxRecDepth 100000 in
set_option maxHeartbeats 0 in
theorem PySem.Challenge.cw_twigmap_k36_way_checked_holds : PySem.Challenge.rw_twigmap_k36_way_checked.Holds := by
 w_on;o_law;k_head;(case hw=>w_witness2)
 k_fill
 refine Tw.Gp (l:=PySem.Challenge.rw_twigmap_k36_way_checked) rfl rfl (fun w h Y=>PySem.W.kIn_of Y) ?F
 case F=>
  intro w mg fa h KX G hmg;refine' Tw.MB KX G hmg (Tw.Ox KX G ?a1 ?l1 ?c1 ?k1) (Tw.Ox KX G ?a2 ?l2 ?c2 ?k2) (Tw.Ox KX G ?a3 ?l3 ?c3 ?k3) (Tw.Ox KX G ?a4 ?l4 ?c4 ?k4) (Tw.Ox KX G ?a5 ?l5 ?c5 ?k5) (Tw.Ox KX G ?a6 ?l6 ?c6 ?k6) (Tw.Ox KX G ?a7 ?l7 ?c7 ?k7) (Tw.Ox KX G ?a8 ?l8 ?c8 ?k8) (Tw.Ox KX G ?a9 ?l9 ?c9 ?k9) (Tw.Ox KX G ?a10 ?l10 ?c10 ?k10) (Tw.Ox KX G ?a11 ?l11 ?c11 ?k11) (Tw.Ox KX G ?a12 ?l12 ?c12 ?k12) (Tw.Ox KX G ?a13 ?l13 ?c13 ?k13) (Tw.Ox KX G ?a14 ?l14 ?c14 ?k14) (Tw.Ox KX G ?a15 ?l15 ?c15 ?k15) (Tw.Ox KX G ?a16 ?l16 ?c16 ?k16) (Tw.Ox KX G ?a17 ?l17 ?c17 ?k17) (Tw.Ox KX G ?a18 ?l18 ?c18 ?k18) (Tw.Ox KX G ?a19 ?l19 ?c19 ?k19) (Tw.Ox KX G ?a20 ?l20 ?c20 ?k20) (Tw.Ox KX G ?a21 ?l21 ?c21 ?k21) (Tw.Ox KX G ?a22 ?l22 ?c22 ?k22) (Tw.Ox KX G ?a23 ?l23 ?c23 ?k23) (Tw.Ox KX G ?a24 ?l24 ?c24 ?k24) (Tw.Ox KX G ?a25 ?l25 ?c25 ?k25) (Tw.Ox KX G ?a26 ?l26 ?c26 ?k26) (Tw.Ox KX G ?a27 ?l27 ?c27 ?k27) (Tw.Ox KX G ?a28 ?l28 ?c28 ?k28) (Tw.Ox KX G ?a29 ?l29 ?c29 ?k29) (Tw.Ox KX G ?a30 ?l30 ?c30 ?k30) (Tw.Ox KX G ?a31 ?l31 ?c31 ?k31) (Tw.Ox KX G ?a32 ?l32 ?c32 ?k32) (Tw.Ox KX G ?a33 ?l33 ?c33 ?k33) (Tw.Ox KX G ?a34 ?l34 ?c34 ?k34) (Tw.Ox KX G ?a35 ?l35 ?c35 ?k35) (Tw.Ox KX G ?a36 ?l36 ?c36 ?k36) (Tw.Ox KX G ?a37 ?l37 ?c37 ?k37) (Tw.Ox KX G ?a38 ?l38 ?c38 ?k38) (Tw.Ox KX G ?a39 ?l39 ?c39 ?k39) (Tw.Ox KX G ?a40 ?l40 ?c40 ?k40) (Tw.Ox KX G ?a41 ?l41 ?c41 ?k41) (Tw.Ox KX G ?a42 ?l42 ?c42 ?k42) (Tw.Ox KX G ?a43 ?l43 ?c43 ?k43) (Tw.Ox KX G ?a44 ?l44 ?c44 ?k44) ?a45 ?l45 ?c45 ?k45 ?z1 ?z2 ?z3 ?z4 ?z5 ?z6 ?z7 ?z8 ?z9 ?z10 ?z11 ?z12 ?z13 ?z14 ?z15 ?z16 ?m1_ ?m2_ ?m3_ ?m4_ ?m5_ ?m6_ ?m7_ ?m8_ ?m9_ ?m10_ (Tw.P7 ?vjS ?iljS ?fnjS ?icjS ?ikjS) (Tw.P7 ?vjT ?iljT ?fnjT ?icjT ?ikjT) ?iljN ?icjN ?ikjN (Tw.P0 ?vm1 ?ilm1 ?fnm1 ?icm1 ?ikm1) (Tw.P0 ?vm2 ?ilm2 ?fnm2 ?icm2 ?ikm2) (Tw.P0 ?vm3 ?ilm3 ?fnm3 ?icm3 ?ikm3) (Tw.P0 ?vm4 ?ilm4 ?fnm4 ?icm4 ?ikm4) (Tw.P0 ?vm5 ?ilm5 ?fnm5 ?icm5 ?ikm5) (Tw.P0 ?vm6 ?ilm6 ?fnm6 ?icm6 ?ikm6) (Tw.P0 ?vm7 ?ilm7 ?fnm7 ?icm7 ?ikm7) (Tw.P0 ?vm8 ?ilm8 ?fnm8 ?icm8 ?ikm8) (Tw.P0 ?vm9 ?ilm9 ?fnm9 ?icm9 ?ikm9) (Tw.P0 ?vm10 ?ilm10 ?fnm10 ?icm10 ?ikm10) (Tw.P0 ?vm11 ?ilm11 ?fnm11 ?icm11 ?ikm11) (Tw.P0 ?vm12 ?ilm12 ?fnm12 ?icm12 ?ikm12) (Tw.P0 ?vm13 ?ilm13 ?fnm13 ?icm13 ?ikm13) (Tw.P0 ?vm14 ?ilm14 ?fnm14 ?icm14 ?ikm14) (Tw.P0 ?vm15 ?ilm15 ?fnm15 ?icm15 ?ikm15) (Tw.P0 ?vm16 ?ilm16 ?fnm16 ?icm16 ?ikm16) ?xCB ?xCK ?xCT ?xCP ?xCSh ?xCTw ?vjN ?mkCSh ?kpCSh ?pgCSh ?hdCSh ?poCSh ?saCSh ?mkCTw ?kpCTw ?pgCTw ?hdCTw ?poCTw ?saCTw ?na_kept ?na_following ?na_looks ?na_things ?na_tag ?na_above ?na_holds ?tyB ?mB ?kitx ?wCT ?tyCT ?sbCT ?sbCK ?exCK ?kpCK ?mBCK ?tyCK
  (case xCB=>k_is)
  (case xCK=>k_is)
  (case xCT=>k_is)
  (case xCP=>k_is)
  (case xCSh=>k_is)
  (case xCTw=>k_is)
  (case vjS=>k_is)
  (case vjT=>k_is)
  (case vjN=>k_is)
  (case vm1=>k_is)
  (case vm2=>k_is)
  (case vm3=>k_is)
  (case vm4=>k_is)
  (case vm5=>k_is)
  (case vm6=>k_is)
  (case vm7=>k_is)
  (case vm8=>k_is)
  (case vm9=>k_is)
  (case vm10=>k_is)
  (case vm11=>k_is)
  (case vm12=>k_is)
  (case vm13=>k_is)
  (case vm14=>k_is)
  (case vm15=>k_is)
  (case vm16=>k_is)
  (case kitx=>kernel_rfl)
  (case wCT=>kernel_rfl)
  (case exCK=>k_exc)
  all_goals try k_is
  all_goals try k_is
