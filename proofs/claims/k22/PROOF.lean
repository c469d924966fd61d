import PyProof.Rows.All
import Wide.All
import OpenK.AllK
import Wide.FinOn
import Lean
import PyProof.EqAt
import PyProof.EqKinds
import PyProof.TupleCall
import PyProof.NsDelKeeps
import PyProof.ExcBaseAll.ValueError
import KE.KIsAll
import PyProof.ExcArgsOwn
import PyProof.ExcAttrAll.ValueError
import PyProof.NeKinds
import KE.KLam
import PyProof.Rows.SumAny
import PyProof.ListMulRoad
import PyProof.FactsAll.tuple
import KE.KDictList
import PyProof.Rows.SortWalk
import KE.KEqDict
import KE.KRevIter
import PyProof.InstStoreFacts
import PyProof.ExcClass3
import PyProof.WalkInts
import PyProof.SeqI3
import KE.KSortTup
import PySem.Challenge.RW_twigmap_k22_stems_put
set_option Elab.async false
set_option linter.all false
set_option maxRecDepth 100000
set_option maxHeartbeats 8000000
namespace L2
open PySem PySem.Spec PyProof.Rows
abbrev Key:=Sum Int Str
def ZGP:Key->Value->Bool
 | .inl k,v=>Value.isInt k v
 | .inr x,v=>Value.isStrOf x v
def ZPG (w:World):Key->Int
 | .inl k=>hashInt k
 | .inr x=>hashStr w x
theorem ZAs:∀ {k:Key} {v:Value},ZGP k v=true->(∃ i t,k=Sum.inl i∧v=Value.int i t)∨(∃ x t,k=Sum.inr x∧v=Value.str x t)
 | .inl i,v,h=>by
  obtain ⟨t,e⟩:=Value.isInt_shape (k:=i) (v:=v) h
  exact .inl ⟨i,t,rfl,e⟩
 | .inr x,v,h=>by
  obtain ⟨t,e⟩:=Value.isStrOf_shape (x:=x) (v:=v) h
  exact .inr ⟨x,t,rfl,e⟩
theorem ZIP (i:Int) (t:Tok):ZGP (.inl i) (.int i t)=true:=by simp [ZGP,Value.isInt]
theorem ZH5 (x:Str) (t:Tok):ZGP (.inr x) (.str x t)=true:=by simp [ZGP,Value.isStrOf]
theorem ZM9 (a b:Int):decide ((Sum.inl a:Key)=Sum.inl b)=(a==b):=by
 by_cases e:a=b
 ·subst e;simp
 ·have h:¬ (Sum.inl a:Key)=Sum.inl b:=fun q=>e (Sum.inl.inj q)
  rw [decide_eq_false h]
  exact (beq_eq_false_iff_ne.mpr e).symm
theorem ZNU (a b:Str):decide ((Sum.inr a:Key)=Sum.inr b)=decide (a=b):=by
 by_cases e:a=b
 ·subst e;simp
 ·have h:¬ (Sum.inr a:Key)=Sum.inr b:=fun q=>e (Sum.inr.inj q)
  rw [decide_eq_false h,decide_eq_false e]
theorem ZNA (a:Int) (b:Str):decide ((Sum.inl a:Key)=Sum.inr b)=false:=decide_eq_false (fun q=>nomatch q)
theorem ZNa (a:Str) (b:Int):decide ((Sum.inr a:Key)=Sum.inl b)=false:=decide_eq_false (fun q=>nomatch q)
def ZBF (prog:Program) (w:World):PySem.KeyKind prog w Key where
 is:=ZGP
 hash:=ZPG w
 inj:=fun v a b ha hb=>by
  rcases ZAs ha with ⟨i,t,rfl,rfl⟩ | ⟨x,t,rfl,rfl⟩
  ·rcases ZAs hb with ⟨j,u,rfl,e⟩ | ⟨y,u,rfl,e⟩
   ·injection e with e1 _;rw [e1]
   ·exact nomatch e
  ·rcases ZAs hb with ⟨j,u,rfl,e⟩ | ⟨y,u,rfl,e⟩
   ·exact nomatch e
   ·injection e with e1 _;rw [e1]
 byValue:=fun k v h=>by
  rcases ZAs h with ⟨i,t,rfl,rfl⟩ | ⟨x,t,rfl,rfl⟩ <;> rfl
 pyHash:=fun hv h=>by
  rcases ZAs hv with ⟨i,t,rfl,rfl⟩ | ⟨x,t,rfl,rfl⟩
  ·exact wpAny_pyHash_int h
  ·exact wpAny_pyHash_str h
 eqBool:=fun hu hv h=>by
  rcases ZAs hu with ⟨i,t,rfl,rfl⟩ | ⟨x,t,rfl,rfl⟩
  ·rcases ZAs hv with ⟨j,u,rfl,rfl⟩ | ⟨y,u,rfl,rfl⟩
   ·rw [ZM9] at h;exact wpAny_eqBool_int h
   ·rw [ZNA] at h;exact SeqAt.EqAt.int_str i t y u _ _ _ _ h
  ·rcases ZAs hv with ⟨j,u,rfl,rfl⟩ | ⟨y,u,rfl,rfl⟩
   ·rw [ZNa] at h;exact SeqAt.EqAt.str_int x t j u _ _ _ _ h
   ·rw [ZNU] at h;exact wpAny_eqBool_str h
 «strs» :=fun k x t v h=>by
  rcases ZAs h with ⟨i,u,rfl,e⟩ | ⟨y,u,rfl,e⟩
  ·exact nomatch e
  ·injection e with e1 _
   subst e1
   cases v <;> rfl
theorem ZGH (prog:Program) (w:World) (i:Int) (t:Tok):(ZBF prog w).is (.inl i) (.int i t)=true:=ZIP i t
theorem ZGC (prog:Program) (w:World) (x:Str) (t:Tok):(ZBF prog w).is (.inr x) (.str x t)=true:=ZH5 x t
inductive V where
 | non | bl (b:Bool) | int (i:Int) | str (x:Str) | byt (b:Array UInt8) | flt (b:UInt64) | ref (a:Addr) | ty (n:String)
 deriving DecidableEq
def RelV:V->Value->Prop
 | .non,u=>u=Value.none
 | .bl b,u=>u=Value.bool b
 | .int i,u=>∃ t,u=Value.int i t
 | .str x,u=>∃ t,u=Value.str x t
 | .byt b,u=>∃ t,u=Value.bytes b t
 | .flt b,u=>∃ t,u=Value.float b t
 | .ref a,u=>u=Value.ref a
 | .ty n,u=>u=Value.type n
abbrev Vals:List V->List Value->Prop:=Paired RelV
theorem Vals.length {xs:List V} {us:List Value} (r:Vals xs us):xs.length=us.length:=Paired.length r
theorem Vals.get:∀ {xs:List V} {us:List Value} {i:Nat} {x:V},Vals xs us->xs[i]? = some x->∃ u,us[i]? = some u∧RelV x u
 | _,_,_,_,.nil,e=>by simp at e
 | _,_,0,_,.cons r _,e=>by simp at e;subst e;exact ⟨_,rfl,r⟩
 | _,_,i+1,x,.cons _ t,e=>by
  obtain ⟨u,h1,h2⟩:=Vals.get (i:=i) (x:=x) t (by simpa using e)
  exact ⟨u,by simpa using h1,h2⟩
theorem Vals.set {x:V} {u:Value} (r:RelV x u):∀ {xs:List V} {us:List Value} (i:Nat),Vals xs us->Vals (xs.set i x) (us.set i u)
 | _,_,_,.nil=>.nil
 | _,_,0,.cons _ t=>.cons r t
 | _,_,i+1,.cons q t=>.cons q (Vals.set r i t)
theorem Vals.append:∀ {xs ys:List V} {us ws:List Value},Vals xs us->Vals ys ws->Vals (xs++ys) (us++ws)
 | _,_,_,_,.nil,s=>s
 | _,_,_,_,.cons r t,s=>.cons r (Vals.append t s)
def RelO:Option V->Option Value->Prop
 | some v,some u=>RelV v u
 | none,none=>True
 | _,_=>False
def KV {κ:Type}:List (κ×V)->List (κ×Value)->Prop:=Paired fun (p:κ×V) (q:κ×Value)=>p.1=q.1∧RelV p.2 q.2
def kV:Key->V
 | .inl i=>.int i
 | .inr x=>.str x
inductive HO where
 | lst (xs:List V)
 | tup (xs:List V)
 | dK (kvs:List (Key×V)) | dT (kvs:List (List Key×V))
 | set (S:Int->Bool) (n:Nat)
 | ins (C dx:Addr) (fs:List (Str×V))
 | own (x:Addr)
 | xd (fs:List (Str×V))
 | met (f x:Addr)
 | rng (lo hi:Int)
 | frz (o:Obj) (u:HO)
 | tbl (ps:Array Value)
 | ext (φ:Heap->Prop)
abbrev Hp:=Addr->Option HO
def upd (H:Hp) (a:Addr) (o:HO):Hp:=fun b=>if b=a then some o else H b
theorem ZAA {H:Hp} {a:Addr} {o:HO}:upd H a o a=some o:=by unfold upd;rw [if_pos rfl]
theorem ZAG {H:Hp} {a b:Addr} {o:HO} (h:b≠a):upd H a o b=H b:=by unfold upd;rw [if_neg h]
theorem ZE2 {H:Hp} {a:Addr} {o u:HO}:upd (upd H a o) a u=upd H a u:=by
 funext b;unfold upd;split <;> rfl
theorem ZAJ {H:Hp} {a b:Addr} {o u:HO} (h:H a=some o) (h':H b=some u) (d:o≠u):a≠b:=by
 intro e;subst e;rw [h] at h';exact d (Option.some.inj h')
theorem ZAB {H:Hp} {a b:Addr} {o:HO} (h:H a=some o) (h':H b=none):a≠b:=by
 intro e;subst e;rw [h] at h';cases h'
section
variable (P:Program) (w:World)
def ObjOk (H:Hp) (h:Heap) (a:Addr):HO->Prop
 | .lst xs=>xs.length<=sizeLine∧∃ (its:List Value) (n:Nat),Vals xs its∧h.get? a=some { cls:=.type "list",data:=.seq its.toArray n }
 | .tup xs=>xs.length<=sizeLine∧∃ its:List Value,Vals xs its∧IsTup h a its.toArray
 | .dK kvs=>kvs.length<=sizeLine∧(a==sysModules)=false∧∃ vs,KV kvs vs∧h.DictOf (ZBF P w) a vs
 | .dT kvs=>kvs.length<=sizeLine∧(a==sysModules)=false∧∃ xs:List (List Key×Addr×Value),
   Paired (fun (p:List Key×V) (q:List Key×Addr×Value)=>p.1=q.1∧H q.2.1=some (.tup (p.1.map kV))∧RelV p.2 q.2.2) kvs xs ∧
   ∃ o es ep,h.get? a=some o∧o.ExactDict∧o.data=.dict es ep∧es.toList=xs.map (entryOfKey (tupleKind (ZBF P w)))∧(xs.map (·.1)).Nodup
 | .set S n=>h.SetOf (intKind P w) a S n
 | .ins C dx fs=>H dx=some (.own a)∧fs.length<=1000∧dx≠a∧h.get? a=some (PySem.W.instObj C dx) ∧
   ∃ mA,h.Ns1 dx mA∧(∀ f,RelO (fs.lookup f) (mA f))∧PySem.Within mA (fs.map (·.1))
 | .own _=>∃ o,h.get? a=some o
 | .xd fs=>∃ mA,h.Ns1 a mA∧∀ f,RelO (fs.lookup f) (mA f)
 | .rng lo hi=>∃ t u v,h.get? a=some { cls:=.type "range",data:=.fields #[.int lo t,.int hi u,.int 1 v] }
 | .frz o u=>h.get? a=some o∧ObjOk H h a u
 | .tbl ps=>h.get? a=some { cls:=.none,data:=.fields ps }
 | .met f x=>h.get? a=some (PySem.W.methodObj (.ref f) (.ref x))
 | .ext φ=>φ h∧(∃ o,h.get? a=some o)∧∀ h1 h2:Heap,φ h1->(∀ o,h1.get? a=some o->h2.get? a=some o)->φ h2
def HOk (H:Hp) (h:Heap):Prop:=∀ a o,H a=some o->ObjOk P w H h a o
end
section
variable {P:Program} {w:World} {H H':Hp} {h h':Heap} {a:Addr} {o:HO}
theorem ObjOk.lt (x:ObjOk P w H h a o):a<h.objs.size:=by
 cases o with
 | lst xs=>obtain ⟨_,_,_,_,e⟩:=x;exact Heap.lt_size e
 | tup xs=>obtain ⟨_,_,_,p⟩:=x;exact p.lt
 | dK kvs=>obtain ⟨_,_,_,_,o,_,_,e,_⟩:=x;exact Heap.lt_size e
 | dT kvs=>obtain ⟨_,_,_,_,o,_,_,e,_⟩:=x;exact Heap.lt_size e
 | set S n=>obtain ⟨o,_,_,_,e,_⟩:=x;exact Heap.lt_size e
 | ins C dx fs=>obtain ⟨_,_,_,e,_⟩:=x;exact Heap.lt_size e
 | own y=>obtain ⟨_,e⟩:=x;exact Heap.lt_size e
 | xd fs=>obtain ⟨_,⟨_,_,_,e,_⟩,_⟩:=x;exact Heap.lt_size e
 | rng lo hi=>obtain ⟨_,_,_,e⟩:=x;exact Heap.lt_size e
 | frz ob u=>obtain ⟨e,_⟩:=x;exact Heap.lt_size e
 | tbl ps=>exact Heap.lt_size (show h.get? a=some _ from x)
 | met f y=>exact Heap.lt_size (show h.get? a=some _ from x)
 | ext φ=>obtain ⟨_,⟨_,e⟩,_⟩:=x;exact Heap.lt_size e
theorem Paired.mapP {α β:Type} {F G:α->β->Prop}:∀ {l₁:List α} {l₂:List β},Paired F l₁ l₂->(∀ a b,F a b->G a b)->Paired G l₁ l₂
 | _,_,.nil,_=>.nil
 | _,_,.cons r t,f=>.cons (f _ _ r) (Paired.mapP t f)
theorem ObjOk.stay (x:ObjOk P w H h a o) (k:∀ b u,(b=a∨H b=some (.own a))->h.get? b=some u->h'.get? b=some u)
  (ho:∀ b,H b=some (.own a)->H' b=some (.own a)) (ht:∀ b xs,H b=some (.tup xs)->H' b=some (.tup xs)):ObjOk P w H' h' a o:=by
 induction o with
 | lst xs=>obtain ⟨z,its,n,r,e⟩:=x;exact ⟨z,its,n,r,k _ _ (.inl rfl) e⟩
 | tup xs=>obtain ⟨z,its,r,ob,e,c⟩:=x;exact ⟨z,its,r,ob,k _ _ (.inl rfl) e,c⟩
 | dK kvs=>obtain ⟨z,y,vs,r,ob,es,ep,e,c⟩:=x;exact ⟨z,y,vs,r,ob,es,ep,k _ _ (.inl rfl) e,c⟩
 | dT kvs=>
  obtain ⟨z,y,xs,r,ob,es,ep,e,c⟩:=x
  exact ⟨z,y,xs,Paired.mapP r fun p q z=>⟨z.1,ht _ _ z.2.1,z.2.2⟩,ob,es,ep,k _ _ (.inl rfl) e,c⟩
 | set S n=>obtain ⟨ob,es,ep,t,e,c⟩:=x;exact ⟨ob,es,ep,t,k _ _ (.inl rfl) e,c⟩
 | ins C dx fs=>
  obtain ⟨d,z,ne,e,mA,⟨od,es,ep,e2,c⟩,r⟩:=x
  exact ⟨ho _ d,z,ne,k _ _ (.inl rfl) e,mA,⟨od,es,ep,k _ _ (.inr d) e2,c⟩,r⟩
 | own y=>obtain ⟨ob,e⟩:=x;exact ⟨ob,k _ _ (.inl rfl) e⟩
 | xd fs=>obtain ⟨mA,⟨od,es,ep,e,c⟩,r⟩:=x;exact ⟨mA,⟨od,es,ep,k _ _ (.inl rfl) e,c⟩,r⟩
 | rng lo hi=>obtain ⟨t,u,v,e⟩:=x;exact ⟨t,u,v,k _ _ (.inl rfl) e⟩
 | frz ob u ih=>obtain ⟨e,q⟩:=x;exact ⟨k _ _ (.inl rfl) e,ih q⟩
 | tbl ps=>
  have e:h.get? a=some { cls:=.none,data:=.fields ps }:=x
  show h'.get? a=some { cls:=.none,data:=.fields ps }
  exact k a _ (.inl rfl) e
 | met f y=>
  have e:h.get? a=some (PySem.W.methodObj (.ref f) (.ref y)):=x
  show h'.get? a=some (PySem.W.methodObj (.ref f) (.ref y))
  exact k a _ (.inl rfl) e
 | ext φ=>obtain ⟨p,⟨o,e⟩,st⟩:=x;exact ⟨st _ _ p fun o q=>k _ _ (.inl rfl) q,⟨o,k _ _ (.inl rfl) e⟩,st⟩
theorem HOk.lt (x:HOk P w H h) (e:H a=some o):a<h.objs.size:=(x a o e).lt
theorem HOk.fresh (x:HOk P w H h) (e:h.objs.size<=a):H a=none:=by
 cases q:H a with
 | none=>rfl
 | some u=>exact absurd (Nat.lt_of_lt_of_le (x.lt q) e) (Nat.lt_irrefl _)
theorem HOk.kept (x:HOk P w H h) (k:∀ b u,h.get? b=some u->h'.get? b=some u):HOk P w H h':=fun a o e=>
 (x a o e).stay (fun b u _ q=>k b u q) (fun _ q=>q) fun _ _ q=>q
theorem HOk.laid (x:HOk P w H h) (k:∀ b u,h.get? b=some u->h'.get? b=some u) (hp:h.objs.size<=a) (new:ObjOk P w (upd H a o) h' a o):HOk P w (upd H a o) h':=fun b u e=>by
 have hn:=x.fresh hp
 by_cases hb:b=a
 ·subst hb;rw [ZAA] at e;cases e;exact new
 ·rw [ZAG hb] at e
  exact (x b u e).stay (fun c v _ q=>k c v q) (fun c q=>by rw [ZAG (ZAB q hn)];exact q) fun c xs q=>by rw [ZAG (ZAB q hn)];exact q
end
def Rd (H:Hp) (a:Addr) (u:HO):Prop:=H a=some u∨∃ o,H a=some (.frz o u)
theorem Rd.ok {P:Program} {w:World} {H:Hp} {h:Heap} {a:Addr} {u:HO} (r:Rd H a u) (x:HOk P w H h):ObjOk P w H h a u:=by
 rcases r with r | ⟨o,r⟩
 ·exact x a u r
 ·obtain ⟨_,q⟩:=x a _ r
  exact q
def Mut:Option HO->Prop
 | some (.lst _)=>True
 | some (.dK _)=>True
 | some (.dT _)=>True
 | some (.set _ _)=>True
 | some (.ins _ _ _)=>True
 | some (.ext _)=>True
 | _=>False
section
variable {P:Program} {w:World} {H:Hp} {h h':Heap} {x e:Addr} {o':HO}
theorem HOk.write (ok:HOk P w H h) (mu:Mut (H x)) (he:e=x∨H e=some (.own x)) (k:∀ b u,b≠e->h.get? b=some u->h'.get? b=some u) (heo:∃ u,h'.get? e=some u)
  (new:ObjOk P w (upd H x o') h' x o'):HOk P w (upd H x o') h':=fun b u q=>by
 have nown:∀ c y,H c=some (.own y)->c≠x:=fun c y r z=>by subst z;rw [r] at mu;exact mu
 have ntup:∀ c xs,H c=some (.tup xs)->c≠x:=fun c xs r z=>by subst z;rw [r] at mu;exact mu
 by_cases hb:b=x
 ·subst hb;rw [ZAA] at q;cases q;exact new
 ·rw [ZAG hb] at q
  by_cases hbe:b=e
  ·have q':H b=some (.own x):=by
    rcases he with z | z
    ·exact absurd (hbe.trans z) hb
    ·rw [hbe];exact z
   rw [q] at q';cases q'
   obtain ⟨v,hv⟩:=heo
   exact ⟨v,by rw [hbe];exact hv⟩
  ·refine (ok b u q).stay (fun c v hc r=>k c v ?_ r) (fun c r=>by rw [ZAG (nown c b r)];exact r) fun c xs r=>by rw [ZAG (ntup c xs r)];exact r
   rcases hc with rfl | hc
   ·exact hbe
   ·rintro rfl
    rcases he with z | z
    ·exact nown c b hc z
    ·rw [hc] at z;cases z;exact hb rfl
end
structure Un (fs ex:List Addr) (H H':Hp) (h h':Heap):Prop where
 keep:∀ b o,h.get? b=some o->H b=none->b∉fs->b∉ex->h'.get? b=some o
 slot:∀ b o,h.get? b=some o->H b=none->b∈fs->b∉ex->∃ sl,h'.get? b=some { o with slots:=sl }
 free:∀ b o,h.get? b=some o->H b=none->b∉ex->H' b=none
 there:∀ b o,h.get? b=some o->b∉ex->∃ o',h'.get? b=some o'
 tups:∀ b xs,H b=some (.tup xs)->H' b=some (.tup xs)
 frzs:∀ b o u,H b=some (.frz o u)->H' b=some (.frz o u)
 tbls:∀ b ps,H b=some (.tbl ps)->∃ more,H' b=some (.tbl (ps++more))
section
variable {fs fs' ex ex':List Addr} {H H1 H2:Hp} {h h1 h2 h':Heap} {a x e:Addr} {o:HO}
theorem Un.any (u:Un fs ex H H1 h h1) {b:Addr} {ob:Obj} (q:h.get? b=some ob) (n:H b=none) (hx:b∉ex):∃ sl,h1.get? b=some { ob with slots:=sl }:=by
 by_cases hb:b∈fs
 ·exact u.slot b ob q n hb hx
 ·exact ⟨ob.slots,u.keep b ob q n hb hx⟩
theorem Un.kept (k:∀ b u,h.get? b=some u->h'.get? b=some u):Un fs ex H H h h':=
 ⟨fun b ob q _ _ _=>k b ob q,fun b ob q _ _ _=>⟨ob.slots,k b ob q⟩,fun _ _ _ n _=>n,fun b ob q _=>⟨ob,k b ob q⟩,fun _ _ q=>q,fun _ _ _ q=>q,fun _ ps q=>⟨#[],by rw [q];simp⟩⟩
theorem Un.refl:Un fs ex H H h h:=Un.kept fun _ _ q=>q
theorem Un.laid (k:∀ b u,h.get? b=some u->h'.get? b=some u) (hp:h.objs.size<=a) (hn:H a=none):Un fs ex H (upd H a o) h h' where
 keep:=fun b u q _ _ _=>k b u q
 slot:=fun b u q _ _ _=>⟨u.slots,k b u q⟩
 free:=fun b u q n _=>by rw [ZAG (Nat.ne_of_lt (Nat.lt_of_lt_of_le (Heap.lt_size q) hp))];exact n
 there:=fun b u q _=>⟨u,k b u q⟩
 tups:=fun b xs q=>by rw [ZAG (ZAB q hn)];exact q
 frzs:=fun b u xs q=>by rw [ZAG (ZAB q hn)];exact q
 tbls:=fun b ps q=>⟨#[],by rw [ZAG (ZAB q hn),q];simp⟩
theorem Un.write (mu:Mut (H x)) (he:e=x∨H e=some (.own x)) (k:∀ b u,b≠e->h.get? b=some u->h'.get? b=some u) (heo:∃ u,h'.get? e=some u):Un fs ex H (upd H x o) h h':=by
 have hx:∀ b,H b=none->b≠x:=fun b n z=>by subst z;rw [n] at mu;exact mu
 have hb:∀ b,H b=none->b≠e:=fun b n z=>by
  subst z
  rcases he with r | r
  ·exact hx b n r
  ·rw [n] at r;cases r
 have hm:∀ b u,H b=some u->¬ Mut (some u)->b≠x:=fun b u q nm z=>by subst z;rw [q] at mu;exact nm mu
 refine ⟨fun b u q n _ _=>k b u (hb b n) q,fun b u q n _ _=>⟨u.slots,k b u (hb b n) q⟩,fun b u q n _=>by rw [ZAG (hx b n)];exact n,fun b u q _=>?_,
  fun b xs q=>by rw [ZAG (hm b _ q fun z=>z)];exact q,fun b u xs q=>by rw [ZAG (hm b _ q fun z=>z)];exact q,fun b ps q=>⟨#[],by rw [ZAG (hm b _ q fun z=>z),q];simp⟩⟩
 by_cases hbe:b=e
 ·subst hbe;exact heo
 ·exact ⟨u,k b u hbe q⟩
end
def trk (h:Heap) (H:Hp):List Addr:=(List.range h.objs.size).filter fun a=>(H a).isSome
def ZIT (h:Heap) (H:Hp):Heap:=PySem.W.hideAll h (trk h H)
theorem ZHz (h:Heap) (H:Hp):(ZIT h H).objs.size=h.objs.size:=PySem.W.hideAll_size _ _
theorem ZKC {h:Heap} {H:Hp} {b:Addr} {o:Obj} (e:h.get? b=some o) (n:H b=none):(ZIT h H).get? b=some o:=
 PySem.W.hideAll_get _ e fun hm=>by
  have q:(H b).isSome=true:=(List.mem_filter.mp hm).2
  rw [n] at q;simp at q
theorem ZMD {h:Heap} {H:Hp} {b:Addr} {o:Obj} (e:(ZIT h H).get? b=some o):h.get? b=some o∧H b=none:=by
 have e':h.get? b=some o:=PySem.W.of_hideAll (trk h H) e
 refine ⟨e',?_⟩
 cases q:H b with
 | none=>rfl
 | some x=>
  have hm:b∈trk h H:=List.mem_filter.mpr ⟨List.mem_range.mpr (Heap.lt_size e'),by simp [q]⟩
  have z:(ZIT h H).get? b=none:=PySem.W.hideAll_none (trk h H) hm
  rw [z] at e;cases e
def ZLl (g h:Heap) (L:Addr):List (Addr×Obj):=(List.range h.objs.size).filterMap fun a=>if a=L∨(g.get? a).isSome=true then none else (h.get? a).map fun o=>(a,o)
def rest (g h:Heap) (L d:Addr):List (Addr×Obj):=(ZLl g h L).filter fun p=>decide (p.1≠d)
structure Mod (K:PySem.W.Frag) (mg:Str->Option Value) (base:Heap):Prop where
 kin:K.In base
 glob:base.Ns mainGlobals mg
 blt:∃ mb,base.Ns builtinsNs mb∧∀ x:Str,x ≠ "__name__"->mb x=bootBuiltins x
 nolimit:base.NoLimit
structure Cx where
 prog:Program
 w:World
 K:PySem.W.Frag
 mg:Str->Option Value
 base:Heap
 A:Around
 N:List Str
 s₀:Shared
 H₀:Hp
 env:Env
 outer:List Env
 stack:List Env
 ex:List Addr
 fn:Str->Bool
 calm:Bool
 pn:List (Addr×Obj)
 xe:Value->Shared->Prop
def frs (l:List Env):List Addr:=l.filterMap (·.frame)
abbrev Cx.fs (X:Cx):List Addr:=frs X.outer
def Vis (sc:Scope) (x:Str):Prop:=sc.names.lookup x=some .local∨sc.names.lookup x=some .cell∨sc.names.lookup x=some .free
def Loc (sc:Scope) (x:Str):Prop:=sc.names.lookup x=some .local∨sc.names.lookup x=some .cell
def ZPI (env:Env) (h:Heap) (m:Str->Option Value) (x:Str) (u:Value):Prop:=
 (env.kindOf x=some .local∧m x=some u)∨((env.kindOf x=some .cell∨env.kindOf x=some .free)∧∃ c,env.cells.lookup x=some c∧h.IsCell c (some u))
structure Cx.Ok (X:Cx):Prop where
 mod:Mod X.K X.mg X.base
 kind:X.env.scope.kind=.function
 glob:X.env.globals=mainGlobals
 blt:X.env.builtins=builtinsNs
 above:X.s₀.heap.objs.size<=X.env.locals
 inj:∀ x y c,X.env.cells.lookup x=some c->X.env.cells.lookup y=some c->x=y
 has:∀ x,(X.env.kindOf x=some .cell∨X.env.kindOf x=some .free)->∃ c,X.env.cells.lookup x=some c
 cab:∀ x c,X.fn x=true->X.env.cells.lookup x=some c->X.s₀.heap.objs.size<=c
 hd:X.calm=true->X.A.handled=none
 frames:X.A.frames=some X.stack
 stk:X.stack=X.outer∨(X.stack=X.env :: X.outer∧X.env.frame=some X.env.locals)
 exf:∀ b∈X.ex,b≠X.env.locals∧∀ x c,X.env.cells.lookup x=some c->c≠b
 bs:∀ b o,X.base.get? b=some o->X.s₀.heap.get? b=some o∧X.H₀ b=none
 bsz:X.base.objs.size<=X.s₀.heap.objs.size
 noex:∀ b o,X.base.get? b=some o->b∉X.ex
 exfs:∀ b∈X.ex,b∉X.fs
 funs:X.s₀.heap.FunFrames X.base X.outer
 frf:∀ b∈X.fs,X.H₀ b=none
structure Inv (X:Cx) (pins:List (Addr×Obj)) (σ:List (Option V)) (H:Hp) (s:Shared):Prop where
 ok:X.Ok
 os:s.os=X.s₀.os
 bare:AllBare s.gens
 base:Un X.fs X.ex X.H₀ H X.s₀.heap s.heap
 loc:∃ m,s.heap.Ns X.env.locals m∧∀ (i:Nat) (x:Str) (v:V),X.N[i]? = some x->σ[i]? = some (some v)->Vis X.env.scope x->∃ u,RelV v u∧ZPI X.env s.heap m x u
 cell:∀ x c,X.env.cells.lookup x=some c->∃ v,s.heap.IsCell c v
 free:H X.env.locals=none
 freeC:∀ x c,X.env.cells.lookup x=some c->H c=none
 pin:∀ p∈X.pn++pins,s.heap.get? p.1=some p.2∧H p.1=none∧p.1≠X.env.locals∧p.1∉X.fs∧∀ v,p.2.data≠.cell v
 hok:HOk X.prog X.w H s.heap
 len:σ.length=X.N.length
section
variable {X:Cx} {pins:List (Addr×Obj)} {σ:List (Option V)} {H H':Hp} {s:Shared} {h':Heap}
theorem Cx.Ok.nofr (ok:X.Ok) {b:Addr} {o:Obj} (e:X.base.get? b=some o):b∉X.fs:=fun hb=>by
 have:=(ok.funs.mem hb).1
 rw [e] at this;cases this
theorem Inv.bs (I:Inv X pins σ H s):∀ b o,X.base.get? b=some o->s.heap.get? b=some o∧H b=none:=fun b o e=>
 ⟨I.base.keep b o (I.ok.bs b o e).1 (I.ok.bs b o e).2 (I.ok.nofr e) (I.ok.noex b o e),I.base.free b o (I.ok.bs b o e).1 (I.ok.bs b o e).2 (I.ok.noex b o e)⟩
theorem Inv.bk (I:Inv X pins σ H s):∀ b o,X.base.get? b=some o->s.heap.get? b=some o:=fun b o e=>(I.bs b o e).1
theorem Inv.mod (I:Inv X pins σ H s):Mod X.K X.mg X.base:=I.ok.mod
theorem Inv.kIn (I:Inv X pins σ H s):X.K.In s.heap:=I.ok.mod.kin.keeps I.bk
theorem Inv.lt (I:Inv X pins σ H s):X.env.locals<s.heap.objs.size:=let ⟨_,hn,_⟩:=I.loc;hn.lt
theorem Inv.sz (I:Inv X pins σ H s):X.s₀.heap.objs.size<=s.heap.objs.size:=Nat.le_trans I.ok.above (Nat.le_of_lt I.lt)
theorem Inv.nofs (I:Inv X pins σ H s) {a:Addr} (h:s.heap.objs.size<=a):a∉X.fs:=fun hb=>by
 obtain ⟨_,o,ho,_⟩:=I.ok.funs.mem hb
 exact absurd (Nat.lt_of_lt_of_le (Heap.lt_size ho) (Nat.le_trans I.sz h)) (Nat.lt_irrefl _)
theorem Inv.cne (I:Inv X pins σ H s):∀ x c,X.env.cells.lookup x=some c->c≠X.env.locals:=fun x c e z=>by
 obtain ⟨v,o,ho,hd⟩:=I.cell x c e
 obtain ⟨m,⟨o',es,ep,ho',hd',_⟩,_⟩:=I.loc
 rw [z,ho'] at ho;cases ho;rw [hd'] at hd;cases hd
theorem Inv.funs (I:Inv X pins σ H s):s.heap.FunFrames X.base X.outer:=by
 have all:∀ (l:List Env),(∀ b∈frs l,b∈X.fs)->X.s₀.heap.FunFrames X.base l->s.heap.FunFrames X.base l:=by
  intro l
  induction l with
  | nil=>intro _ _;trivial
  | cons env r ih=>
   intro hs hl
   obtain ⟨hk,⟨L,o,hf,hn,ho,hd⟩,hr⟩:=hl
   have hL:L∈X.fs:=hs L (by unfold frs;rw [List.filterMap_cons,hf];exact List.mem_cons_self)
   obtain ⟨sl,e⟩:=I.base.slot L o ho (I.ok.frf L hL) hL fun z=>I.ok.exfs L z hL
   exact ⟨hk,⟨L,_,hf,hn,e,hd⟩,ih (fun b hb=>hs b (by unfold frs;rw [List.filterMap_cons,hf];exact List.mem_cons_of_mem _ hb)) hr⟩
 exact all X.outer (fun _ hb=>hb) I.ok.funs
theorem Inv.stack (I:Inv X pins σ H s):s.heap.FunFrames X.base X.stack:=by
 rcases I.ok.stk with e | ⟨e,hf⟩
 ·rw [e];exact I.funs
 ·rw [e]
  obtain ⟨m,hn,_⟩:=I.loc
  refine .cons (by rw [I.ok.kind];decide) hf hn ?_ I.funs
  exact Heap.get?_none_of_le (Nat.le_trans I.ok.bsz I.ok.above)
theorem Inv.stkSub (I:Inv X pins σ H s):∀ b∈frs X.stack,b∈X.env.locals :: X.fs:=fun b hb=>by
 rcases I.ok.stk with e | ⟨e,hf⟩
 ·rw [e] at hb;exact List.mem_cons_of_mem _ hb
 ·rw [e] at hb
  unfold frs at hb
  rw [List.filterMap_cons,hf] at hb
  exact hb
theorem Inv.stkFree (I:Inv X pins σ H s):∀ b∈frs X.stack,H b=none:=fun b hb=>by
 rcases List.mem_cons.mp (I.stkSub b hb) with e | hb
 ·rw [e];exact I.free
 ·obtain ⟨_,o,ho,_⟩:=I.ok.funs.mem hb
  exact I.base.free b o ho (I.ok.frf b hb) fun z=>I.ok.exfs b z hb
theorem Inv.step {g':Array GenState} {t':Nat} {d':Drawn} {ch:List Addr} (I:Inv X pins σ H s)
  (hch:∀ b∈ch,(b∈X.ex∨X.s₀.heap.objs.size<=b)∧b≠X.env.locals∧(∀ x c,X.env.cells.lookup x=some c->c≠b)∧∀ p∈X.pn++pins,p.1≠b)
  (keep:∀ b o,b≠X.env.locals->b∉X.fs->b∉ch->s.heap.get? b=some o->H b=none->h'.get? b=some o)
  (slot:∀ b o,b≠X.env.locals->b∈X.fs->b∉ch->s.heap.get? b=some o->H b=none->∃ sl,h'.get? b=some { o with slots:=sl }) (free:∀ b o,b∉ch->s.heap.get? b=some o->H b=none->H' b=none)
  (there:∀ b o,b∉ch->s.heap.get? b=some o->∃ o',h'.get? b=some o')
  (tups:∀ b xs,H b=some (.tup xs)->H' b=some (.tup xs)) (frzs:∀ b o u,H b=some (.frz o u)->H' b=some (.frz o u)) (tbls:∀ b ps,H b=some (.tbl ps)->∃ more,H' b=some (.tbl (ps++more)))
  (ns:∀ m,s.heap.Ns X.env.locals m->h'.Ns X.env.locals m) (hok:HOk X.prog X.w H' h') (hg:AllBare g') :
  Inv X pins σ H' { s with heap:=h',gens:=g',drawn:=d',toks:=t' }:=by
 have neL:∀ b o,X.s₀.heap.get? b=some o->b≠X.env.locals:=fun b o e=>Nat.ne_of_lt (Nat.lt_of_lt_of_le (Heap.lt_size e) I.ok.above)
 have neC:∀ b o,X.s₀.heap.get? b=some o->b∉X.ex->b∉ch:=fun b o e hx hb=>by
  rcases (hch b hb).1 with z | z
  ·exact hx z
  ·exact absurd (Nat.lt_of_lt_of_le (Heap.lt_size e) z) (Nat.lt_irrefl _)
 have cellK:∀ x c,X.env.cells.lookup x=some c->∀ v,s.heap.IsCell c v->h'.IsCell c v:=fun x c e v ⟨o,ho,hd⟩=>by
  have nch:c∉ch:=fun z=>(hch c z).2.2.1 x c e rfl
  by_cases hc:c∈X.fs
  ·obtain ⟨sl,q⟩:=slot c o (I.cne x c e) hc nch ho (I.freeC x c e)
   exact ⟨_,q,hd⟩
  ·exact ⟨o,keep c o (I.cne x c e) hc nch ho (I.freeC x c e),hd⟩
 refine ⟨I.ok,I.os,hg,⟨fun b o e n hb hx=>?_,fun b o e n hb hx=>?_,fun b o e n hx=>?_,fun b o e hx=>?_,fun b xs e=>tups b xs (I.base.tups b xs e),fun b o xs e=>frzs b o xs (I.base.frzs b o xs e),fun b ps e=>?_⟩,?_,fun x c e=>?_,?_,fun x c e=>?_,fun p hp=>?_,hok,I.len⟩
 ·exact keep b o (neL b o e) hb (neC b o e hx) (I.base.keep b o e n hb hx) (I.base.free b o e n hx)
 ·obtain ⟨sl,e1⟩:=I.base.slot b o e n hb hx
  obtain ⟨sl',e2⟩:=slot b _ (neL b o e) hb (neC b o e hx) e1 (I.base.free b o e n hx)
  exact ⟨sl',e2⟩
 ·obtain ⟨o',e1⟩:=I.base.there b o e hx
  exact free b o' (neC b o e hx) e1 (I.base.free b o e n hx)
 ·obtain ⟨o',e1⟩:=I.base.there b o e hx
  exact there b o' (neC b o e hx) e1
 ·obtain ⟨m1,e1⟩:=I.base.tbls b ps e
  obtain ⟨m2,e2⟩:=tbls b _ e1
  exact ⟨m1++m2,by rw [e2,Array.append_assoc]⟩
 ·obtain ⟨m,hn,hl⟩:=I.loc
  refine ⟨m,ns m hn,fun i x v e1 e2 e3=>?_⟩
  obtain ⟨u,r,l⟩:=hl i x v e1 e2 e3
  refine ⟨u,r,?_⟩
  rcases l with l | ⟨k,c,e,z⟩
  ·exact .inl l
  ·exact .inr ⟨k,c,e,cellK x c e _ z⟩
 ·obtain ⟨v,z⟩:=I.cell x c e
  exact ⟨v,cellK x c e v z⟩
 ·obtain ⟨m,⟨o,_,_,ho,_⟩,_⟩:=I.loc
  exact free _ o (fun z=>(hch _ z).2.1 rfl) ho I.free
 ·obtain ⟨v,o,ho,hd⟩:=I.cell x c e
  exact free c o (fun z=>(hch c z).2.2.1 x c e rfl) ho (I.freeC x c e)
 ·obtain ⟨e,n,ne,nf,d⟩:=I.pin p hp
  have nch:p.1∉ch:=fun z=>(hch p.1 z).2.2.2 p hp rfl
  exact ⟨keep p.1 p.2 ne nf nch e n,free p.1 p.2 nch e n,ne,nf,d⟩
theorem Inv.un {t':Nat} (I:Inv X pins σ H s) (u:Un X.fs [] H H' s.heap h') (hok:HOk X.prog X.w H' h'):Inv X pins σ H' { s with heap:=h',toks:=t' }:=by
 obtain ⟨m,⟨o,es,ep,ho,r⟩,_⟩:=id I.loc
 obtain ⟨sl,hL⟩:=u.any ho I.free (by simp)
 exact I.step (g':=s.gens) (d':=s.drawn) (ch:=[]) (fun _ z=>nomatch z) (fun b o _ hb _ e n=>u.keep b o e n hb (by simp)) (fun b o _ hb _ e n=>u.slot b o e n hb (by simp)) (fun b o _ e n=>u.free b o e n (by simp)) (fun b o _ e=>u.there b o e (by simp)) u.tups u.frzs u.tbls (fun m' hm=>by
  obtain ⟨o',es',ep',ho',r'⟩:=hm
  rw [ho] at ho';cases ho'
  exact ⟨_,es',ep',hL,r'⟩) hok I.bare
theorem Inv.call {g':Array GenState} {t':Nat} {d':Drawn} {ch:List Addr} (I:Inv X pins σ H s) (u:Un (frs X.stack) ch H H' s.heap h') (hok:HOk X.prog X.w H' h') (hg:AllBare g')
  (hch:∀ b∈ch,(b∈X.ex∨X.s₀.heap.objs.size<=b)∧b≠X.env.locals∧(∀ x c,X.env.cells.lookup x=some c->c≠b)∧∀ p∈X.pn++pins,p.1≠b) :
  Inv X pins σ H' { s with heap:=h',gens:=g',drawn:=d',toks:=t' }:=by
 obtain ⟨m,⟨o,es,ep,ho,r⟩,_⟩:=id I.loc
 obtain ⟨sl,hL⟩:=u.any ho I.free fun z=>(hch _ z).2.1 rfl
 exact I.step (ch:=ch) hch (fun b o hL hb hc e n=>u.keep b o e n (fun z=>(List.mem_cons.mp (I.stkSub b z)).elim hL hb) hc) (fun b o _ _ hc e n=>u.any e n hc) (fun b o hc e n=>u.free b o e n hc) (fun b o hc e=>u.there b o e hc) u.tups u.frzs u.tbls (fun m' hm=>by
  obtain ⟨o',es',ep',ho',r'⟩:=hm
  rw [ho] at ho';cases ho'
  exact ⟨_,es',ep',hL,r'⟩) hok hg
theorem Inv.turned {t':Nat} {it:Addr} (I:Inv X pins σ H s) (k:∀ b o,b≠it->s.heap.get? b=some o->h'.get? b=some o) (hn:H it=none) (hL:it≠X.env.locals)
  (h1:it∈X.ex∨X.s₀.heap.objs.size<=it) (h2:∀ x c,X.env.cells.lookup x=some c->c≠it) (h3:∀ p∈X.pn++pins,p.1≠it):Inv X pins σ H { s with heap:=h',toks:=t' }:=by
 have nit:∀ b u,H b=some u->b≠it:=fun b u e z=>by rw [z,hn] at e;cases e
 refine I.step (g':=s.gens) (d':=s.drawn) (ch:=[it]) (fun b hb=>?_) (fun b o _ _ hc e _=>k b o (fun z=>hc (by simp [z])) e) (fun b o _ _ hc e _=>⟨o.slots,k b o (fun z=>hc (by simp [z])) e⟩) (fun _ _ _ _ n=>n)
  (fun b o hc e=>⟨o,k b o (fun z=>hc (by simp [z])) e⟩) (fun _ _ e=>e) (fun _ _ _ e=>e) (fun b ps e=>⟨#[],by rw [e];simp⟩) (fun m hm=>?_) (fun b u e=>?_) I.bare
 ·have e:b=it:=by simpa using hb
  subst e
  exact ⟨h1,hL,h2,h3⟩
 ·obtain ⟨o,es,ep,ho,r⟩:=hm
  exact ⟨o,es,ep,k _ o (Ne.symm hL) ho,r⟩
 ·refine (I.hok b u e).stay (fun c v hc q=>k c v ?_ q) (fun _ q=>q) fun _ _ q=>q
  rcases hc with z | z
  ·rw [z];exact nit b u e
  ·exact nit c _ z
theorem Inv.tok (I:Inv X pins σ H s) (t:Nat):Inv X pins σ H { s with toks:=t }:=I.un (h':=s.heap) (t':=t) Un.refl I.hok
theorem Inv.kept {t':Nat} (I:Inv X pins σ H s) (k:∀ b u,s.heap.get? b=some u->h'.get? b=some u):Inv X pins σ H { s with heap:=h',toks:=t' }:=I.un (Un.kept k) (I.hok.kept k)
theorem Inv.laid {a:Addr} {o:HO} {t':Nat} (I:Inv X pins σ H s) (k:∀ b u,s.heap.get? b=some u->h'.get? b=some u) (hp:s.heap.objs.size<=a) (new:ObjOk X.prog X.w (upd H a o) h' a o) :
  Inv X pins σ (upd H a o) { s with heap:=h',toks:=t' }:=I.un (Un.laid k hp (I.hok.fresh hp)) (I.hok.laid k hp new)
theorem Inv.write {x e:Addr} {o:HO} {t':Nat} (I:Inv X pins σ H s) (mu:Mut (H x)) (he:e=x∨H e=some (.own x)) (k:∀ b u,b≠e->s.heap.get? b=some u->h'.get? b=some u) (heo:∃ u,h'.get? e=some u)
  (new:ObjOk X.prog X.w (upd H x o) h' x o):Inv X pins σ (upd H x o) { s with heap:=h',toks:=t' }:=I.un (Un.write mu he k heo) (I.hok.write mu he k heo new)
theorem Inv.pins_of {pins':List (Addr×Obj)} (I:Inv X pins σ H s) (h:∀ p∈pins',s.heap.get? p.1=some p.2∧H p.1=none∧p.1≠X.env.locals∧p.1∉X.fs∧∀ v,p.2.data≠.cell v):Inv X pins' σ H s:=
 ⟨I.ok,I.os,I.bare,I.base,I.loc,I.cell,I.free,I.freeC,fun p hp=>(List.mem_append.mp hp).elim (fun z=>I.pin p (List.mem_append_left _ z)) (h p),I.hok,I.len⟩
theorem ZEW {N:List Str} (hN:N.Nodup) {i j:Nat} {x:Str} (a:N[i]? = some x) (b:N[j]? = some x):i=j:=by
 obtain ⟨h1,e1⟩:=List.getElem?_eq_some_iff.mp a
 obtain ⟨h2,e2⟩:=List.getElem?_eq_some_iff.mp b
 exact (List.getElem_inj hN).mp (e1.trans e2.symm)
theorem ZFX {M:Model} {A:Around} {E:Value->Shared->Prop} {i:Nat} {x:Str} {v:V} {u:Value} {Q:Unit->Shared->Prop} (I:Inv X pins σ H s) (hN:X.N.Nodup) (hi:X.N[i]? = some x) (hx:Loc X.env.scope x) (r:RelV v u)
  (h:∀ s',Inv X pins (σ.set i (some v)) H s'->(∃ a,Heap.SameBut a s.heap s'.heap∧(a=X.env.locals∨X.env.cells.lookup x=some a))->Q () s') (hf:X.fn x=true∨X.env.scope.names.lookup x=some .local:=by first | exact .inl rfl | exact .inr rfl | assumption):wpAny M A (storeName X.env x u) Q E s:=by
 obtain ⟨m,hn,hl⟩:=id I.loc
 have hcls:(X.env.scope.kind==.class || (X.env.scope.kind==.module&&X.env.locals != X.env.globals))=false:=by rw [I.ok.kind];rfl
 have hiσ:i<σ.length:=by rw [I.len];exact (List.getElem?_eq_some_iff.mp hi).1
 have cne:=I.cne
 have tracked:∀ {a:Addr} {h':Heap},(∃ o,s.heap.get? a=some o∧H a=none)->Heap.SameBut a s.heap h'->HOk X.prog X.w H h':=fun {a h'} ha hs b ob e=>by
  obtain ⟨_,_,hfree⟩:=ha
  refine (I.hok b ob e).stay (fun c w' hc q=>(hs.2 c ?_).trans q) (fun _ q=>q) fun _ _ q=>q
  rintro rfl
  rcases hc with rfl | hc
  ·rw [hfree] at e;cases e
  ·rw [hfree] at hc;cases hc
 rcases hx with hk | hk
 ·refine wpAny_storeName_local hk hn (fun h' hn' hs=>?_) hcls
  obtain ⟨oL,_,_,hoL,_⟩:=id hn
  refine h _ ⟨I.ok,I.os,I.bare,⟨fun b o e n hb hx=>?_,fun b o e n hb hx=>?_,I.base.free,fun b o e hx=>?_,I.base.tups,I.base.frzs,I.base.tbls⟩,⟨_,hn',fun j y v' e1 e2 e3=>?_⟩,fun y c e=>?_,I.free,I.freeC,fun p hp=>?_,tracked ⟨oL,hoL,I.free⟩ hs,by simpa using I.len⟩ ⟨_,hs,.inl rfl⟩
  ·exact (hs.2 b (Nat.ne_of_lt (Nat.lt_of_lt_of_le (Heap.lt_size e) I.ok.above))).trans (I.base.keep b o e n hb hx)
  ·obtain ⟨sl,e1⟩:=I.base.slot b o e n hb hx
   exact ⟨sl,(hs.2 b (Nat.ne_of_lt (Nat.lt_of_lt_of_le (Heap.lt_size e) I.ok.above))).trans e1⟩
  ·obtain ⟨o',e1⟩:=I.base.there b o e hx
   exact ⟨o',(hs.2 b (Nat.ne_of_lt (Nat.lt_of_lt_of_le (Heap.lt_size e) I.ok.above))).trans e1⟩
  ·by_cases hj:j=i
   ·subst hj
    rw [hi] at e1;cases e1
    rw [List.getElem?_set_self hiσ] at e2
    cases e2
    exact ⟨u,r,.inl ⟨hk,by simp⟩⟩
   ·rw [List.getElem?_set_ne (Ne.symm hj)] at e2
    obtain ⟨u',r',q⟩:=hl j y v' e1 e2 e3
    refine ⟨u',r',?_⟩
    rcases q with ⟨k,e⟩ | ⟨k,c,e,z⟩
    ·refine .inl ⟨k,?_⟩
     have:y≠x:=fun e=>hj (ZEW hN e1 (e ▸ hi))
     simp [this,e]
    ·exact .inr ⟨k,c,e,z.sameBut hs (cne y c e)⟩
  ·obtain ⟨w',z⟩:=I.cell y c e
   exact ⟨w',z.sameBut hs (cne y c e)⟩
  ·obtain ⟨e,n,ne,nf,d⟩:=I.pin p hp
   exact ⟨(hs.2 p.1 ne).trans e,n,ne,nf,d⟩
 ·have hfn:X.fn x=true:=by
   rcases hf with z | z
   ·exact z
   ·rw [z] at hk;cases hk
  obtain ⟨c,hc⟩:=I.ok.has x (.inl hk)
  obtain ⟨w',z⟩:=I.cell x c hc
  refine wpAny_storeName_cell I.ok.kind hk hc z (fun h' hc' hs=>?_)
  obtain ⟨oc,hoc,hocd⟩:=id z
  refine h { s with heap:=h' } ⟨I.ok,I.os,I.bare,⟨fun b o e n hb hx=>?_,fun b o e n hb hx=>?_,I.base.free,fun b o e hx=>?_,I.base.tups,I.base.frzs,I.base.tbls⟩,⟨m,hn.sameBut hs (Ne.symm (cne x c hc)),fun j y v' e1 e2 e3=>?_⟩,fun y c' e=>?_,I.free,I.freeC,fun p hp=>?_,tracked ⟨oc,hoc,I.freeC x c hc⟩ hs,by simpa using I.len⟩ ⟨c,hs,.inr hc⟩
  ·exact (hs.2 b (Nat.ne_of_lt (Nat.lt_of_lt_of_le (Heap.lt_size e) (I.ok.cab x c hfn hc)))).trans (I.base.keep b o e n hb hx)
  ·obtain ⟨sl,e1⟩:=I.base.slot b o e n hb hx
   exact ⟨sl,(hs.2 b (Nat.ne_of_lt (Nat.lt_of_lt_of_le (Heap.lt_size e) (I.ok.cab x c hfn hc)))).trans e1⟩
  ·obtain ⟨o',e1⟩:=I.base.there b o e hx
   exact ⟨o',(hs.2 b (Nat.ne_of_lt (Nat.lt_of_lt_of_le (Heap.lt_size e) (I.ok.cab x c hfn hc)))).trans e1⟩
  ·by_cases hj:j=i
   ·subst hj
    rw [hi] at e1;cases e1
    rw [List.getElem?_set_self hiσ] at e2
    cases e2
    exact ⟨u,r,.inr ⟨.inl hk,c,hc,hc'⟩⟩
   ·rw [List.getElem?_set_ne (Ne.symm hj)] at e2
    obtain ⟨u',r',q⟩:=hl j y v' e1 e2 e3
    refine ⟨u',r',?_⟩
    rcases q with q | ⟨k,c',e,z'⟩
    ·exact .inl q
    ·refine .inr ⟨k,c',e,z'.sameBut hs ?_⟩
     rintro rfl
     exact hj (ZEW hN e1 (I.ok.inj _ _ _ e hc ▸ hi))
  ·by_cases hcc:c'=c
   ·subst hcc;exact ⟨_,hc'⟩
   ·obtain ⟨w2,z2⟩:=I.cell y c' e
    exact ⟨w2,z2.sameBut hs hcc⟩
  ·obtain ⟨e,n,ne,nf,d⟩:=I.pin p hp
   refine ⟨(hs.2 p.1 ?_).trans e,n,ne,nf,d⟩
   intro q
   rw [q,hoc] at e
   have q':oc=p.2:=Option.some.inj e
   exact d w' (by rw [<-q'];exact hocd)
theorem ZDA {M:Model} {A:Around} {E:Value->Shared->Prop} {i:Nat} {x:Str} {v:V} {u:Value} {Q:Unit->Shared->Prop} (I:Inv X pins σ H s) (hN:X.N.Nodup) (hi:X.N[i]? = some x) (hx:Loc X.env.scope x) (r:RelV v u)
  (h:∀ s',Inv X pins (σ.set i (some v)) H s'->Q () s') (hf:X.fn x=true∨X.env.scope.names.lookup x=some .local:=by first | exact .inl rfl | exact .inr rfl | assumption):wpAny M A (storeName X.env x u) Q E s:=
 ZFX I hN hi hx r (fun s' I' _=>h s' I') hf
theorem Inv.call' {s':Shared} {ch:List Addr} (I:Inv X pins σ H s) (ho:s'.os=s.os) (u:Un (frs X.stack) ch H H' s.heap s'.heap) (hok:HOk X.prog X.w H' s'.heap) (hg:AllBare s'.gens)
  (hch:∀ b∈ch,(b∈X.ex∨X.s₀.heap.objs.size<=b)∧b≠X.env.locals∧(∀ x c,X.env.cells.lookup x=some c->c≠b)∧∀ p∈X.pn++pins,p.1≠b):Inv X pins σ H' s':=by
 obtain ⟨h',g',d',t',o'⟩:=s'
 have e:o'=s.os:=ho
 subst e
 exact I.call (g':=g') (t':=t') (d':=d') u hok hg hch
end
abbrev XK:=Value->Option Addr->Hp->Prop
abbrev St:=List (Option V)
abbrev VK:=V->Hp->Prop
abbrev TE:=St->Hp->VK->Prop
abbrev TT:=St->Hp->(Bool->Hp->Prop)->Prop
abbrev TA:=St->Hp->(List V->Hp->Prop)->Prop
structure Ends where
 nx:St->Hp->Prop
 rt:VK
 bk:St->Hp->Prop:=fun _ _=>False
 ct:St->Hp->Prop:=fun _ _=>False
abbrev TS:=Ends->St->Hp->Prop
def EP (X:Cx) (pins:List (Addr×Obj)) (σ:St) (Q:VK) (u:Value) (s':Shared):Prop:=∃ v H',Inv X pins σ H' s'∧RelV v u∧Q v H'
def TP (X:Cx) (pins:List (Addr×Obj)) (σ:St) (Q:Bool->Hp->Prop) (b:Bool) (s':Shared):Prop:=∃ H',Inv X pins σ H' s'∧Q b H'
def AP (X:Cx) (pins:List (Addr×Obj)) (σ:St) (Q:List V->Hp->Prop) (us:List Value) (s':Shared):Prop:=∃ vs H',Inv X pins σ H' s'∧Vals vs us∧Q vs H'
def SP (X:Cx) (pins:List (Addr×Obj)) (D:Ends) (f:Flow) (s':Shared):Prop:=
 match f with
 | .next=>∃ σ' H',Inv X pins σ' H' s'∧D.nx σ' H'
 | .brk=>∃ σ' H',Inv X pins σ' H' s'∧D.bk σ' H'
 | .cont=>∃ σ' H',Inv X pins σ' H' s'∧D.ct σ' H'
 | .ret u=>∃ v σ' H',Inv X pins σ' H' s'∧RelV v u∧D.rt v H'
def PE (X:Cx) (e:Expr) (t:TE):Prop:=
 ∀ (pins:List (Addr×Obj)) (s:Shared) (σ:St) (H:Hp) (Q:VK),Inv X pins σ H s->t σ H Q->wpAny (model X.prog X.w) X.A (eval e X.env) (EP X pins σ Q) X.xe s
def PT (X:Cx) (e:Expr) (t:TT):Prop:=
 ∀ (pins:List (Addr×Obj)) (s:Shared) (σ:St) (H:Hp) (Q:Bool->Hp->Prop),Inv X pins σ H s->t σ H Q->wpAny (model X.prog X.w) X.A (isTrue e X.env (eval e X.env)) (TP X pins σ Q) X.xe s
def PW (X:Cx) (e:Expr) (t:TT):Prop:=
 ∀ (whole:Sem Value) (pins:List (Addr×Obj)) (s:Shared) (σ:St) (H:Hp) (Q:Bool->Hp->Prop),Inv X pins σ H s->t σ H Q->wpAny (model X.prog X.w) X.A (isTrue e X.env whole) (TP X pins σ Q) X.xe s
theorem PW.pt {X:Cx} {e:Expr} {t:TT} (h:PW X e t):PT X e t:=h _
def PA (X:Cx) (es:List Expr) (t:TA):Prop:=
 ∀ (pos:Pos) (pins:List (Addr×Obj)) (s:Shared) (σ:St) (H:Hp) (Q:List V->Hp->Prop),Inv X pins σ H s->t σ H Q->wpAny (model X.prog X.w) X.A (spliced (backTo pos (starEach es X.env))) (AP X pins σ Q) X.xe s
def PS (X:Cx) (st:Stmt) (t:TS):Prop:=
 ∀ (pins:List (Addr×Obj)) (s:Shared) (σ:St) (H:Hp) (D:Ends),Inv X pins σ H s->t D σ H->wpAny (model X.prog X.w) X.A (exec st X.env) (SP X pins D) X.xe s
def PSs (X:Cx) (st:List Stmt) (t:TS):Prop:=
 ∀ (pins:List (Addr×Obj)) (s:Shared) (σ:St) (H:Hp) (D:Ends),Inv X pins σ H s->t D σ H->wpAny (model X.prog X.w) X.A (execs st X.env) (SP X pins D) X.xe s
theorem thn {α:Type} {t:Sem α} {Q Q':α->Shared->Prop} {M:Model} {A:Around} {E:Value->Shared->Prop} {s:Shared} (h:wpAny M A t Q E s) (hQ:∀ a s,Q a s->Q' a s):wpAny M A t Q' E s:=wpAny_mono h hQ fun _ _ x=>x
section
variable {X:Cx}
def ZM7 (i:Nat):TE:=fun σ H Q=>∃ v,σ[i]? = some (some v)∧Q v H
def tC (v:V):TE:=fun _ H Q=>Q v H
theorem ZLB {i:Nat} {x:Str} {pos:Pos} (hN:X.N[i]? = some x) (hv:Vis X.env.scope x) (hd:(x==("__debug__" : Str))=false:=by decide) (hcd:(x==("__classdict__" : Str))=false:=by decide):PE X (.Name x pos) (ZM7 i):=by
 intro pins s σ H Q I h
 obtain ⟨v,e,h⟩:=h
 obtain ⟨m,hn,hl⟩:=I.loc
 obtain ⟨u,r,l⟩:=hl i x v hN e hv
 have fin:EP X pins σ Q u s:=⟨v,H,I,r,h⟩
 rcases l with ⟨hk,hm⟩ | ⟨hk,c,hc,hcell⟩
 ·exact wpAny_Name (wpAny_loadName_local I.ok.kind hk hn hm fin) hd
 ·rcases hk with hk | hk
  ·exact wpAny_Name (wpAny_loadName_cell I.ok.kind hk hc hcell fin) hd
  ·exact wpAny_Name (wpAny_loadName_free I.ok.kind hk hc hcell fin hcd) hd
theorem ZAF {i j pos}:PE X (.Constant (.int i) j pos) (tC (.int i)):=fun _ _ _ H _ I h=>wpAny_Constant_int ⟨.int i,H,I.tok _,⟨_,rfl⟩,h⟩
theorem ZDQ {b j pos}:PE X (.Constant (.bool b) j pos) (tC (.bl b)):=fun _ _ _ H _ I h=>Constant_bool ⟨.bl b,H,I,rfl,h⟩
theorem ZFT {j pos}:PE X (.Constant .none j pos) (tC .non):=fun _ _ _ H _ I h=>Constant_none ⟨.non,H,I,rfl,h⟩
theorem ZAl {x j pos}:PE X (.Constant (.str x) j pos) (tC (.str x)):=fun _ _ _ H _ I h=>Calls.Constant_str ⟨.str x,H,I.tok _,⟨_,rfl⟩,h⟩
def Gl (X:Cx) (x:Str):Prop:=X.env.kindOf x=some .globalImplicit
theorem ZBs {E:Value->Shared->Prop} {pins:List (Addr×Obj)} {s:Shared} {σ:St} {H:Hp} {x:Str} {u:Value} {pos:Pos} {Q:Value->Shared->Prop} (I:Inv X pins σ H s) (hg:Gl X x) (hm:X.mg x=some u) (h:Q u s)
  (hd:(x==("__debug__" : Str))=false:=by decide):wpAny (model X.prog X.w) X.A (eval (.Name x pos) X.env) Q E s:=
 Calls.Name_function_global I.ok.kind hg (Calls.loadGlobal_global (by rw [I.ok.glob];exact I.mod.glob.keeps I.bk) hm h) hd
theorem ZC3 {E:Value->Shared->Prop} {pins:List (Addr×Obj)} {s:Shared} {σ:St} {H:Hp} {x:Str} {u:Value} {pos:Pos} {Q:Value->Shared->Prop} (I:Inv X pins σ H s) (hg:Gl X x) (hm:X.mg x=none) (hv:bootBuiltins x=some u) (h:Q u s)
  (hn:x ≠ "__name__" :=by decide) (hd:(x==("__debug__" : Str))=false:=by decide):wpAny (model X.prog X.w) X.A (eval (.Name x pos) X.env) Q E s:=by
 obtain ⟨mb,h1,h2⟩:=I.mod.blt
 exact Calls.Name_function_global I.ok.kind hg (Calls.loadGlobal_builtin (by rw [I.ok.glob];exact I.mod.glob.keeps I.bk) hm (by rw [I.ok.blt];exact h1.keeps I.bk) ((h2 x hn).trans hv) h) hd
theorem ZAr {x:Str} {v:V} {u:Value} {pos:Pos} (hg:Gl X x) (hm:X.mg x=some u) (r:RelV v u) (hd:(x==("__debug__" : Str))=false:=by decide):PE X (.Name x pos) (tC v):=
 fun _ _ _ H _ I h=>ZBs I hg hm ⟨v,H,I,r,h⟩ hd
theorem ZAi {x:Str} {v:V} {u:Value} {pos:Pos} (hg:Gl X x) (hm:X.mg x=none) (hv:bootBuiltins x=some u) (r:RelV v u) (hn:x ≠ "__name__" :=by decide) (hd:(x==("__debug__" : Str))=false:=by decide):PE X (.Name x pos) (tC v):=
 fun _ _ _ H _ I h=>ZC3 I hg hm hv ⟨v,H,I,r,h⟩ hn hd
variable {a b:Expr} {ta tb:TE} {pos:Pos}
def PC (X:Cx) (op:CmpOp) (a b:Expr) (t:TE):Prop:=
 ∀ (pins:List (Addr×Obj)) (s:Shared) (σ:St) (H:Hp) (Q:VK),Inv X pins σ H s->t σ H Q ->
  wpAny (model X.prog X.w) X.A (eval a X.env) (fun v s₁=>wpAny (model X.prog X.w) X.A (eval b X.env) (fun u s₂=>wpAny (model X.prog X.w) X.A (compareOp op v u) (EP X pins σ Q) X.xe s₂) X.xe s₁) X.xe s
theorem ZHA (b:Expr) {op:CmpOp} (h:op≠.In) (h2:op≠.NotIn):behindInMarks op b=false:=by
 have e1:(op==CmpOp.In)=false:=by cases op <;> first | rfl | exact absurd rfl h
 have e2:(op==CmpOp.NotIn)=false:=by cases op <;> first | rfl | exact absurd rfl h2
 cases b <;> simp [behindInMarks,e1,e2]
def ZPO (ta:TE):TE:=fun σ H Q=>ta σ H fun x H1=>Q (.bl (decide (x=.non))) H1
def ZOa (ta:TE):TE:=fun σ H Q=>ta σ H fun x H1=>Q (.bl (!decide (x=.non))) H1
theorem RelV.none_iff {x:V} {v:Value} (r:RelV x v):(v==Value.none)=decide (x=.non):=by
 cases x with
 | non=>cases r;rfl
 | bl _=>cases r;rfl
 | int _=>obtain ⟨t,rfl⟩:=r;rfl
 | str _=>obtain ⟨t,rfl⟩:=r;rfl
 | byt _=>obtain ⟨t,rfl⟩:=r;rfl
 | flt _=>obtain ⟨t,rfl⟩:=r;rfl
 | ref _=>cases r;rfl
 | ty _=>cases r;rfl
theorem ZH2 {j pos'} (ha:PE X a ta):PC X .Is a (.Constant .none j pos') (ZPO ta):=by
 intro pins s σ H Q I h
 refine thn (ha pins s σ H _ I h) fun v s1 ⟨x,H1,I1,r1,q1⟩=>?_
 exact Constant_none (is_none_gen ⟨.bl _,H1,I1,by rw [r1.none_iff];rfl,q1⟩)
theorem ZJd {j pos'} (ha:PE X a ta):PC X .IsNot a (.Constant .none j pos') (ZOa ta):=by
 intro pins s σ H Q I h
 refine thn (ha pins s σ H _ I h) fun v s1 ⟨x,H1,I1,r1,q1⟩=>?_
 exact Constant_none (isnot_none_gen ⟨.bl _,H1,I1,by rw [r1.none_iff];rfl,q1⟩)
def tB (t:TE):TT:=fun σ H Q=>t σ H fun x H1=>∃ c,x=.bl c∧Q c H1
theorem ZNp {op:CmpOp} {t:TE} (h:PC X op a b t) (h1:behindInMarks op b=false:=by first | exact ZHA _ (by decide) (by decide) | rfl):PE X (.Compare a [op] [b] pos) t:=fun pins s σ H Q I hw=>wpAny_Compare1 (h pins s σ H Q I hw) h1
theorem ZDB {op:CmpOp} {t:TE} (h:PC X op a b t) (h1:behindInMarks op b=false:=by first | exact ZHA _ (by decide) (by decide) | rfl):PT X (.Compare a [op] [b] pos) (tB t):=by
 intro pins s σ H Q I hw
 refine wpAny_isTrue_Compare1 (thn (h pins s σ H _ I hw) fun v s1 h1=>thn h1 fun u s2 h2=>thn h2 fun c s3 ⟨x,H1,I1,r1,q1⟩=>?_) h1
 obtain ⟨d,rfl,q⟩:=q1
 cases r1
 exact wpAny_truthy_bool ⟨H1,I1,q⟩
theorem ZAg {e:Expr} {t:TE} (h:PE X e t) (he:∀ whole,isTrue e X.env whole=(do let v<-whole;standAt e.pos;holding [v] (truthy v)):=by intro _;rfl):PT X e (tB t):=by
 intro pins s σ H Q I hw
 refine isTrue_plain (thn (h pins s σ H _ I hw) fun v s1 ⟨x,H1,I1,r1,q1⟩=>?_) (he _)
 obtain ⟨d,rfl,q⟩:=q1
 cases r1
 exact wpAny_truthy_bool ⟨H1,I1,q⟩
variable {tA tB':TT} {rest:List Expr}
def ZPW (t u:TT):TT:=fun σ H Q=>t σ H fun c H1=>if c=true then u σ H1 Q else Q false H1
def tOr (t u:TT):TT:=fun σ H Q=>t σ H fun c H1=>if c=true then Q true H1 else u σ H1 Q
def ZPH (t:TT):TT:=fun σ H Q=>t σ H fun c H1=>Q (!c) H1
theorem ZEf (ha:PT X a tA):PW X (.BoolOp .And [a] pos) tA:=by
 intro wh pins s σ H Q I h
 refine isTrue_and (thn (ha pins s σ H Q I h) fun c s1 e=>?_)
 cases c with
 | true=>exact isTrue_and_nil e
 | false=>exact e
theorem ZB0 (ha:PT X a tA):PW X (.BoolOp .Or [a] pos) tA:=by
 intro wh pins s σ H Q I h
 refine isTrue_or (thn (ha pins s σ H Q I h) fun c s1 e=>?_)
 cases c with
 | false=>exact isTrue_or_nil e
 | true=>exact e
theorem ZGs (ha:PT X a tA) (hb:PW X (.BoolOp .And (b :: rest) pos) tB'):PW X (.BoolOp .And (a :: b :: rest) pos) (ZPW tA tB'):=by
 intro wh pins s σ H Q I h
 refine isTrue_and (thn (ha pins s σ H _ I h) fun c s1 ⟨H1,I1,q1⟩=>?_)
 cases c with
 | true=>exact hb wh pins s1 σ H1 Q I1 q1
 | false=>exact ⟨H1,I1,q1⟩
theorem ZB9 (ha:PT X a tA) (hb:PW X (.BoolOp .Or (b :: rest) pos) tB'):PW X (.BoolOp .Or (a :: b :: rest) pos) (tOr tA tB'):=by
 intro wh pins s σ H Q I h
 refine isTrue_or (thn (ha pins s σ H _ I h) fun c s1 ⟨H1,I1,q1⟩=>?_)
 cases c with
 | true=>exact ⟨H1,I1,q1⟩
 | false=>exact hb wh pins s1 σ H1 Q I1 q1
theorem ZAy (ha:PT X a tA):PT X (.UnaryOp .Not a pos) (ZPH tA):=by
 intro pins s σ H Q I h
 exact isTrue_not (ha pins s σ H (fun c H1=>Q (!c) H1) I h)
def ZOp (ta tb:TE):TE:=fun σ H Q=>ta σ H fun x H1=>∃ c,x=.bl c∧if c=true then tb σ H1 Q else Q (.bl false) H1
def ZOb (ta:TE):TE:=fun σ H Q=>ta σ H fun x H1=>∃ c,x=.bl c∧Q (.bl (!c)) H1
theorem ZDI {op} {t:TE} (h:PE X a t):PE X (.BoolOp op [a] pos) t:=fun pins s σ H Q I hw=>BoolOp_one (h pins s σ H Q I hw)
theorem ZCB (ha:PE X a ta) (hb:PE X (.BoolOp .And (b :: rest) pos) tb):PE X (.BoolOp .And (a :: b :: rest) pos) (ZOp ta tb):=by
 intro pins s σ H Q I h
 refine BoolOp_and (thn (ha pins s σ H _ I h) fun v s1 ⟨x,H1,I1,r1,q1⟩=>?_)
 obtain ⟨c,rfl,q1⟩:=q1
 cases r1
 refine wpAny_truthy_bool ?_
 cases c with
 | true=>exact hb pins s1 σ H1 Q I1 q1
 | false=>exact ⟨.bl false,H1,I1,rfl,q1⟩
theorem ZK7 (ha:PE X a ta):PE X (.UnaryOp .Not a pos) (ZOb ta):=by
 intro pins s σ H Q I h
 refine UnaryOp_ (thn (ha pins s σ H _ I h) fun v s1 ⟨x,H1,I1,r1,q1⟩=>?_)
 obtain ⟨c,rfl,q1⟩:=q1
 cases r1
 exact not_of (wpAny_truthy_bool ⟨.bl (!c),H1,I1,rfl,q1⟩)
end
def SqL (K:PySem.W.Frag) (H:Hp) (a:Addr) (xs:List V):Prop:=
 Rd H a (.lst xs) ∨
  ∃ (o:Obj) (its:Array Value) (n:Nat),K.lookup a=some o∧o.cls=.type "list" ∧ o.dict=none∧o.data=.seq its n∧its.size<=sizeLine∧Vals xs its.toList
def SqT (K:PySem.W.Frag) (H:Hp) (a:Addr) (xs:List V):Prop:=
 Rd H a (.tup xs) ∨
  ∃ (o:Obj) (its:Array Value) (n:Nat),K.lookup a=some o∧o.cls=.type "tuple" ∧ o.data=.seq its n∧its.size<=sizeLine∧Vals xs its.toList
def ZPC:Value->Option V
 | .none=>some .non
 | .bool b=>some (.bl b)
 | .int i _=>some (.int i)
 | .str x _=>some (.str x)
 | .bytes b _=>some (.byt b)
 | .float b _=>some (.flt b)
 | .ref a=>some (.ref a)
 | .type n=>some (.ty n)
 | _=>none
theorem RelV.abs {x:V} {u:Value} (r:RelV x u):ZPC u=some x:=by
 cases x with
 | non=>cases r;rfl
 | bl _=>cases r;rfl
 | int _=>obtain ⟨t,rfl⟩:=r;rfl
 | str _=>obtain ⟨t,rfl⟩:=r;rfl
 | byt _=>obtain ⟨t,rfl⟩:=r;rfl
 | flt _=>obtain ⟨t,rfl⟩:=r;rfl
 | ref _=>cases r;rfl
 | ty _=>cases r;rfl
theorem RelV.inj {x y:V} {u:Value} (r:RelV x u) (q:RelV y u):x=y:=Option.some.inj (r.abs.symm.trans q.abs)
theorem Vals.inj:∀ {xs ys:List V} {us:List Value},Vals xs us->Vals ys us->xs=ys
 | _,_,_,.nil,.nil=>rfl
 | _,_,_,.cons r t,.cons r' t'=>by rw [r.inj r',Vals.inj t t']
section
variable {X:Cx} {pins:List (Addr×Obj)} {σ:St} {H:Hp} {s:Shared} {a:Addr} {xs ys:List V}
theorem SqL.of {K:PySem.W.Frag} (h:H a=some (.lst xs)):SqL K H a xs:=.inl (.inl h)
theorem SqT.of {K:PySem.W.Frag} (h:H a=some (.tup xs)):SqT K H a xs:=.inl (.inl h)
theorem Inv.list (I:Inv X pins σ H s) (h:SqL X.K H a xs):∃ its:List Value,Vals xs its∧PlainL s.heap a its.toArray∧xs.length<=sizeLine:=by
 rcases h with h | ⟨o,its,n,hk,hc,hd,hs,hz,r⟩
 ·obtain ⟨z,its,n,r,e⟩:=h.ok I.hok
  exact ⟨its,r,⟨_,n,e,rfl,rfl,rfl⟩,z⟩
 ·refine ⟨its.toList,r,⟨o,n,I.kIn a o hk,hc,hd,by simpa using hs⟩,?_⟩
  have e:=r.length
  simp only [Array.length_toList] at e
  omega
theorem Inv.tuple (I:Inv X pins σ H s) (h:SqT X.K H a xs):∃ its:List Value,Vals xs its∧IsTup s.heap a its.toArray∧xs.length<=sizeLine:=by
 rcases h with h | ⟨o,its,n,hk,hc,hs,hz,r⟩
 ·obtain ⟨z,its,r,p⟩:=h.ok I.hok
  exact ⟨its,r,p,z⟩
 ·refine ⟨its.toList,r,⟨o,I.kIn a o hk,hc,n,by simpa using hs⟩,?_⟩
  have e:=r.length
  simp only [Array.length_toList] at e
  omega
theorem Inv.list_inj (I:Inv X pins σ H s) (h:SqL X.K H a xs) (h':SqL X.K H a ys):xs=ys:=by
 obtain ⟨its,r,⟨o,n,e,_,_,d⟩,_⟩:=I.list h
 obtain ⟨its',r',⟨o',n',e',_,_,d'⟩,_⟩:=I.list h'
 rw [e] at e';cases e'
 rw [d] at d'
 injection d' with d1 _
 have:its=its':=by simpa using congrArg Array.toList d1
 subst this
 exact r.inj r'
theorem Inv.tuple_inj (I:Inv X pins σ H s) (h:SqT X.K H a xs) (h':SqT X.K H a ys):xs=ys:=by
 obtain ⟨its,r,⟨o,e,_,n,d⟩,_⟩:=I.tuple h
 obtain ⟨its',r',⟨o',e',_,n',d'⟩,_⟩:=I.tuple h'
 rw [e] at e';cases e'
 rw [d] at d'
 injection d' with d1 _
 have:its=its':=by simpa using congrArg Array.toList d1
 subst this
 exact r.inj r'
end
abbrev Cx.wish (X:Cx) (E:Value->Shared->Prop):Cx:={ X with xe:=E }
abbrev Cx.nox (X:Cx):Cx:=X.wish fun _ _=>False
theorem Cx.Ok.wish {X:Cx} (ok:X.Ok) (E:Value->Shared->Prop):(X.wish E).Ok:=
 ⟨ok.mod,ok.kind,ok.glob,ok.blt,ok.above,ok.inj,ok.has,ok.cab,ok.hd,ok.frames,ok.stk,ok.exf,ok.bs,ok.bsz,ok.noex,ok.exfs,ok.funs,ok.frf⟩
theorem Cx.Ok.unwish {X:Cx} {E:Value->Shared->Prop} (ok:(X.wish E).Ok):X.Ok:=
 ⟨ok.mod,ok.kind,ok.glob,ok.blt,ok.above,ok.inj,ok.has,ok.cab,ok.hd,ok.frames,ok.stk,ok.exf,ok.bs,ok.bsz,ok.noex,ok.exfs,ok.funs,ok.frf⟩
section
variable {X:Cx} {pins:List (Addr×Obj)} {σ:St} {H:Hp} {s:Shared} {E:Value->Shared->Prop}
theorem Inv.wish (I:Inv X pins σ H s) (E:Value->Shared->Prop):Inv (X.wish E) pins σ H s:=⟨I.ok.wish E,I.os,I.bare,I.base,I.loc,I.cell,I.free,I.freeC,I.pin,I.hok,I.len⟩
theorem Inv.unwish (I:Inv (X.wish E) pins σ H s):Inv X pins σ H s:=⟨I.ok.unwish,I.os,I.bare,I.base,I.loc,I.cell,I.free,I.freeC,I.pin,I.hok,I.len⟩
theorem SP.unwish {D:Ends} {f:Flow} {s':Shared} (h:SP (X.wish E) pins D f s'):SP X pins D f s':=by
 cases f with
 | next=>obtain ⟨σ',H',I,q⟩:=h;exact ⟨σ',H',I.unwish,q⟩
 | brk=>obtain ⟨σ',H',I,q⟩:=h;exact ⟨σ',H',I.unwish,q⟩
 | cont=>obtain ⟨σ',H',I,q⟩:=h;exact ⟨σ',H',I.unwish,q⟩
 | ret u=>obtain ⟨v,σ',H',I,r,q⟩:=h;exact ⟨v,σ',H',I.unwish,r,q⟩
theorem PSs.nox {st:List Stmt} {t:TS} (h:PSs X.nox st t):PSs X st t:=fun pins s σ H D I hw=>
 wpAny_mono (h pins s σ H D (I.wish _) hw) (fun _ _ q=>q.unwish) fun _ _ z=>False.elim z
end
section
variable {X:Cx} {st:Stmt} {rest:List Stmt} {t u:TS} {e:Expr} {te:TE} {pos:Pos}
def ZOf:TS:=fun D σ H=>D.nx σ H
def ZPQ (t u:TS):TS:=fun D σ H=>t { D with nx:=u D } σ H
theorem ZAR:PSs X [] ZOf:=fun _ _ σ H _ I h=>wpAny_execs_nil ⟨σ,H,I,h⟩
theorem ZAD (h1:PS X st t) (h2:PSs X rest u):PSs X (st :: rest) (ZPQ t u):=by
 intro pins s σ H D I h
 refine wpAny_execs_cons (thn (h1 pins s σ H { D with nx:=u D } I h) fun f s1 q=>?_)
 cases f with
 | next=>
  obtain ⟨σ',H',I',q⟩:=q
  exact h2 pins s1 σ' H' D I' q
 | ret v=>exact q
 | brk=>exact q
 | cont=>exact q
theorem ZAH (h1:PS X st t):PSs X [st] t:=by
 intro pins s σ H D I h
 refine wpAny_execs_cons (thn (h1 pins s σ H D I h) fun f s1 q=>?_)
 cases f with
 | next=>exact wpAny_execs_nil q
 | ret v=>exact q
 | brk=>exact q
 | cont=>exact q
theorem Inv.quiet {pins:List (Addr×Obj)} {σ:St} {H:Hp} {s:Shared} (I:Inv X pins σ H s):interactive X.env=false:=by simp [interactive,I.ok.kind]
def ZOk (te:TE):TS:=fun D σ H=>te σ H fun _ H1=>D.nx σ H1
theorem ZA2 (he:PE X e te) (hs:swapsWith e none pos.line X.env=pure false:=by rfl):PS X (.Expr e pos) (ZOk te):=by
 intro pins s σ H D I h
 exact wpAny_Expr_any (thn (he pins s σ H _ I h) fun v s1 ⟨x,H1,I1,r1,q1⟩=>⟨σ,H1,I1,q1⟩) I.quiet hs
def ZPR (te:TE):TS:=fun D σ H=>te σ H D.rt
theorem ZAQ (he:PE X e te):PS X (.Return (some e) pos) (ZPR te):=by
 intro pins s σ H D I h
 exact wpAny_Return_some (thn (he pins s σ H _ I h) fun v s1 ⟨x,H1,I1,r1,q1⟩=>⟨x,σ,H1,I1,r1,q1⟩)
def ZPD (c:TT) (t u:TS):TS:=fun D σ H=>c σ H fun b H1=>if b=true then t D σ H1 else u D σ H1
theorem ZAf {c:Expr} {a b:List Stmt} {tc:TT} (hc:PT X c tc) (ha:PSs X a t) (hb:PSs X b u):PS X (.If c a b pos) (ZPD tc t u):=by
 intro pins s σ H D I h
 refine wpAny_If (thn (hc pins s σ H _ I h) fun d s1 ⟨H1,I1,q1⟩=>?_)
 cases d with
 | true=>exact ha pins s1 σ H1 D I1 q1
 | false=>exact hb pins s1 σ H1 D I1 q1
def ZMv:TS:=fun _ _ _=>False
theorem ZAd {sts:List Stmt}:PSs X sts ZMv:=fun _ _ _ _ _ _ h=>h.elim
end
abbrev TG:=V->St->Hp->(St->Hp->Prop)->Prop
abbrev TGs:=List V->St->Hp->(St->Hp->Prop)->Prop
def PG (X:Cx) (target:Expr) (t:TG):Prop:=
 ∀ (pins:List (Addr×Obj)) (s:Shared) (σ:St) (H:Hp) (v:V) (u:Value) (Q:St->Hp->Prop),Inv X pins σ H s->RelV v u->t v σ H Q ->
  wpAny (model X.prog X.w) X.A (assign target X.env u) (fun _ s'=>∃ σ' H',Inv X pins σ' H' s'∧Q σ' H') X.xe s
def PGs (X:Cx) (ts:List Expr) (t:TGs):Prop:=
 ∀ (pins:List (Addr×Obj)) (s:Shared) (σ:St) (H:Hp) (vs:List V) (us:List Value) (Q:St->Hp->Prop),Inv X pins σ H s->Vals vs us->t vs σ H Q ->
  wpAny (model X.prog X.w) X.A (assignInOrder ((assignEach ts X.env).map (·.2)) us) (fun _ s'=>∃ σ' H',Inv X pins σ' H' s'∧Q σ' H') X.xe s
abbrev ZOB:=V->V->V->Hp->(Hp->Prop)->Prop
def ZO4 (X:Cx) (t:ZOB):Prop:=
 ∀ (pins:List (Addr×Obj)) (s:Shared) (σ:St) (H:Hp) (o i v:V) (ov iv u:Value) (Q:Hp->Prop),Inv X pins σ H s->RelV o ov->RelV i iv->RelV v u->t o i v H Q ->
  wpAny (model X.prog X.w) X.A (setItem ov iv u) (fun _ s'=>∃ H',Inv X pins σ H' s'∧Q H') X.xe s
section
variable {X:Cx} {pos:Pos}
def ZEb (i:Nat):TG:=fun v σ H Q=>Q (σ.set i (some v)) H
theorem ZAZ {i:Nat} {x:Str} (hN:X.N.Nodup) (hi:X.N[i]? = some x) (hx:Loc X.env.scope x) (hf:X.fn x=true∨X.env.scope.names.lookup x=some .local:=by first | exact .inl rfl | exact .inr rfl | assumption):PG X (.Name x pos) (ZEb i):=by
 intro pins s σ H v u Q I r h
 exact wpAny_assign_Name (ZDA I hN hi hx r (fun s' I'=>⟨_,H,I',h⟩) hf)
def ZO3:TGs:=fun vs σ H Q=>vs=[]∧Q σ H
def ZLb (t:TG) (u:TGs):TGs:=fun vs σ H Q=>∃ v r,vs=v :: r∧t v σ H fun σ' H'=>u r σ' H' Q
theorem ZCp:PGs X [] ZO3:=by
 intro pins s σ H vs us Q I r h
 obtain ⟨e,h⟩:=h
 subst e
 cases r
 exact assignInOrder_nil ⟨σ,H,I,h⟩
theorem ZAj {e:Expr} {es:List Expr} {t:TG} {u:TGs} (h1:PG X e t) (h2:PGs X es u)
  (hs:(assignEach (e :: es) X.env).map (·.2)=assign e X.env :: (assignEach es X.env).map (·.2):=by rfl):PGs X (e :: es) (ZLb t u):=by
 intro pins s σ H vs us Q I r h
 obtain ⟨v,vr,e1,h⟩:=h
 subst e1
 cases r with
 | cons r rr=>
  rw [hs]
  refine assignInOrder_cons (thn (h1 pins s σ H _ _ _ I r h) fun _ s1 ⟨σ1,H1,I1,q1⟩=>?_)
  exact h2 pins s1 σ1 H1 _ _ Q I1 rr q1
def ZOz (K:PySem.W.Frag) (n:Nat) (t:TGs):TG:=fun v σ H Q=>∃ a xs,v=.ref a∧SqT K H a xs∧xs.length=n∧t xs σ H Q
theorem ZDu {es:List Expr} {k:Nat} {t:TGs} {n:Nat} (hc:X.calm=true) (h:PGs X es t)
  (hn:(assignEach es X.env).length=n:=by rfl) (hst:(assignEach es X.env).findIdx? (·.1)=none:=by rfl):PG X (.Tuple es k pos) (ZOz X.K n t):=by
 intro pins s σ H v u Q I r hw
 obtain ⟨a,xs,e1,hq,hl,hw⟩:=hw
 subst e1
 cases r
 obtain ⟨its,rv,ht,hz⟩:=I.tuple hq
 refine assign_Tuple_tuple (I.ok.hd hc) ht (by simp [hn,<-hl,rv.length]) hst fun h' hx=>?_
 have I1:Inv X pins σ H { s with heap:=h' }:=I.kept (t':=s.toks) fun b o e=>hx b o (Nat.ne_of_lt (Heap.lt_size e)) e
 exact h pins _ σ H xs _ Q I1 (by simpa using rv) hw
def ZPS (to ti:TE) (t:ZOB):TG:=fun v σ H Q=>to σ H fun o H1=>ti σ H1 fun i H2=>t o i v H2 fun H3=>Q σ H3
theorem ZJV {o i:Expr} {to ti:TE} {t:ZOB} (ho:PE X o to) (hi:PE X i ti) (hs:ZO4 X t)
  (ha:∀ v,assign (.Subscript o i pos) X.env v=(do
   let ov<-holding [v] (eval o X.env)
   let iv<-holding [v,ov] (eval i X.env)
   standAt pos
   holding [v,ov,iv] (setItem ov iv v)
   release [v,ov,iv] []):=by intro _;rfl):PG X (.Subscript o i pos) (ZPS to ti t):=by
 intro pins s σ H v u Q I r h
 rw [ha]
 refine wpAny_bind (wpAny_holding (thn (ho pins s σ H _ I h) fun ov s1 ⟨x,H1,I1,r1,q1⟩=>?_))
 refine wpAny_bind (wpAny_holding (thn (hi pins s1 σ H1 _ I1 q1) fun iv s2 ⟨y,H2,I2,r2,q2⟩=>?_))
 refine wpAny_bind (wpAny_standAt (wpAny_bind (wpAny_holding (thn (hs pins s2 σ H2 x y v ov iv u _ I2 r1 r2 r q2) fun _ s3 ⟨H3,I3,q3⟩=>?_))))
 exact wpAny_release ⟨σ,H3,I3,q3⟩
def ZO7 (te:TE) (g:TG):TS:=fun D σ H=>te σ H fun x H1=>g x σ H1 D.nx
theorem ZDK {tg e:Expr} {te:TE} {g:TG} (he:PE X e te) (hg:PG X tg g) (hs:swapsWithSole [tg] e pos.line X.env=pure false:=by rfl) (hw:swappedStores [tg] e X.env=pure none:=by rfl)
  (h1:(assignEach [tg] X.env).map (·.2)=[assign tg X.env]:=by rfl):PS X (.Assign [tg] e pos) (ZO7 te g):=by
 intro pins s σ H D I h
 refine wpAny_Assign_stores (thn (he pins s σ H _ I h) fun v s1 ⟨x,H1,I1,r1,q1⟩=>?_) hs hw
 rw [h1]
 exact thn (hg pins s1 σ H1 x v _ I1 r1 q1) fun _ s2 q=>q
theorem ZAU {i:Nat} {x:Str} {e:Expr} {te:TE} {pos':Pos} (hN:X.N.Nodup) (hi:X.N[i]? = some x) (hx:Loc X.env.scope x) (he:PE X e te) (hs:swapsWith e (some (.Name x pos')) pos.line X.env=pure false:=by rfl) (hf:X.fn x=true∨X.env.scope.names.lookup x=some .local:=by first | exact .inl rfl | exact .inr rfl | assumption) :
  PS X (.Assign [.Name x pos'] e pos) (ZO7 te (ZEb i)):=by
 intro pins s σ H D I h
 refine wpAny_Assign_Name (thn (he pins s σ H _ I h) fun v s1 ⟨y,H1,I1,r1,q1⟩=>?_) hs
 exact ZDA I1 hN hi hx r1 (fun s2 I2=>⟨_,H1,I2,q1⟩) hf
end
section
variable {X:Cx} {pos:Pos}
def ZNT (c:TT) (tb:TS):TS:=fun D σ H=>∃ W:Nat->St->Hp->Prop,(∃ m,W m σ H)∧∀ m σ H,W m σ H ->
 c σ H fun b H1=>if b=true then ∃ N:St->Hp->Prop,(∀ σ' H',N σ' H'->∃ m',m'<m∧W m' σ' H')∧tb { D with nx:=N,ct:=N,bk:=D.nx } σ H1 else D.nx σ H1
theorem ZC7 {c:Expr} {body:List Stmt} {tc:TT} {tb:TS} (hp:PassesOwn (model X.prog X.w) X.A X.env X.xe) (hc:PT X c tc) (hb:PSs X body tb):PS X (.While c body [] pos) (ZNT tc tb):=by
 intro pins s σ H D I h
 obtain ⟨W,⟨m0,w0⟩,turn⟩:=h
 refine wpAny_While (codeAny_whileLoop (fun n s'=>∃ σ' H',Inv X pins σ' H' s'∧W n σ' H') ?_ m0 ⟨σ,H,I,w0⟩)
 rintro n s1 ⟨σ1,H1,I1,w1⟩
 refine wpAny_passesOwn hp (thn (hc pins s1 σ1 H1 _ I1 (turn n σ1 H1 w1)) fun b s2 ⟨H2,I2,q2⟩=>?_)
 cases b with
 | true=>
  obtain ⟨N,hN,q2⟩:=q2
  rw [if_pos rfl]
  refine wpAny_passesOwn hp (thn (hb pins s2 σ1 H2 _ I2 q2) fun f s3 q3=>?_)
  cases f with
  | next=>
   obtain ⟨σ3,H3,I3,n3⟩:=q3
   obtain ⟨m',hm,w3⟩:=hN σ3 H3 n3
   exact ⟨m',hm,σ3,H3,I3,w3⟩
  | cont=>
   obtain ⟨σ3,H3,I3,n3⟩:=q3
   obtain ⟨m',hm,w3⟩:=hN σ3 H3 n3
   exact ⟨m',hm,σ3,H3,I3,w3⟩
  | brk=>exact q3
  | ret v=>exact q3
 | false=>
  rw [if_neg Bool.false_ne_true]
  exact wpAny_execs_nil ⟨σ1,H2,I2,q2⟩
end
structure It where
 go:Nat->Hp->Prop
 yld:Nat->Hp->V->Hp->Prop
 stop:Nat->Hp->Prop
def ZEE (X:Cx) (pins:List (Addr×Obj)) (H:Hp) (b:Addr):Prop:=
 H b=none∧b≠X.env.locals∧b∉X.fs∧(b∈X.ex∨X.s₀.heap.objs.size<=b)∧(∀ x c,X.env.cells.lookup x=some c->c≠b)∧∀ p∈X.pn++pins,p.1≠b
theorem Inv.fpOk {X:Cx} {pins:List (Addr×Obj)} {σ:St} {H H':Hp} {s:Shared} {b:Addr} (I:Inv X pins σ H s) (hb:s.heap.objs.size<=b) (hn:H' b=none):ZEE X pins H' b:=by
 refine ⟨hn,Nat.ne_of_gt (Nat.lt_of_lt_of_le I.lt hb),I.nofs hb,.inr (Nat.le_trans I.sz hb),fun x c e z=>?_,fun p hp z=>?_⟩
 ·obtain ⟨v,q⟩:=I.cell x c e
  exact absurd (Nat.lt_of_lt_of_le q.lt (by rw [z];exact hb)) (Nat.lt_irrefl _)
 ·exact absurd (Nat.lt_of_lt_of_le (Heap.lt_size (I.pin p hp).1) (by rw [z];exact hb)) (Nat.lt_irrefl _)
structure Turn (P:Program) (w:World) (K:PySem.W.Frag) (tg:Expr) (J:It) (fp:List Addr) (it:Addr) (tn:Nat->Heap->Prop):Prop where
 mem:it∈fp
 obj:∀ i h,tn i h->∀ b∈fp,∃ o,h.get? b=some o∧∀ v,o.data≠.cell v
 keep:∀ i h h',tn i h->(∀ b∈fp,∀ o,h.get? b=some o->h'.get? b=some o)->tn i h'
 item:∀ (X:Cx),X.prog=P->X.w=w->X.K=K->X.calm=true->∀ (i:Nat) (pins:List (Addr×Obj)) (s:Shared) (σ:St) (H:Hp) (E:Value->Shared->Prop),Inv X pins σ H s->(∀ b∈fp,ZEE X pins H b)->tn i s.heap->J.go i H ->
  wpAny (model P w) X.A (pyNext (.ref it)) (fun r s1=>∃ u,r=some u ∧
   wpAny (model P w) X.A (letOwnedTupleGo tg (.ref it) u) (fun _ s2=>∃ x H',Inv X pins σ H' s2∧RelV x u∧J.yld i H x H'∧tn (i+1) s2.heap∧∀ b∈fp,H' b=none) E s1) E s
 done:∀ (X:Cx),X.prog=P->X.w=w->X.K=K->X.calm=true->∀ (i:Nat) (pins:List (Addr×Obj)) (s:Shared) (σ:St) (H:Hp) (E:Value->Shared->Prop),Inv X pins σ H s->(∀ b∈fp,ZEE X pins H b)->tn i s.heap->J.stop i H ->
  wpAny (model P w) X.A (pyNext (.ref it)) (fun r s1=>r=none∧Inv X pins σ H s1) E s
 self:∀ (A:Around) (i:Nat) (s:Shared) (Q:Value->Shared->Prop) (E:Value->Shared->Prop),tn i s.heap->Q (.ref it) s->wpAny (model P w) A (pyIter (.ref it)) Q E s
abbrev TI:=St->Hp->(It->Hp->Prop)->Prop
def PIE (X:Cx) (pins:List (Addr×Obj)) (σ:St) (tg:Expr) (R:It->Hp->Prop) (itv:Value) (s2:Shared):Prop:=
 ∃ (it:Addr) (fp:List Addr) (tn:Nat->Heap->Prop) (J:It) (H':Hp),itv=.ref it∧Inv X pins σ H' s2∧Turn X.prog X.w X.K tg J fp it tn∧tn 0 s2.heap∧(∀ b∈fp,ZEE X pins H' b)∧R J H'
def PI (X:Cx) (tg iter:Expr) (wi:TI):Prop:=
 ∀ (pins:List (Addr×Obj)) (s:Shared) (σ:St) (H:Hp) (R:It->Hp->Prop),Inv X pins σ H s->wi σ H R ->
  wpAny (model X.prog X.w) X.A (eval iter X.env) (fun v s1=>wpAny (model X.prog X.w) X.A (pyIter v) (PIE X pins σ tg R) X.xe s1) X.xe s
theorem ZJq {M:Model} {A:Around} {E:Value->Shared->Prop} {s:Shared} {tg:Expr} {it:Addr} {u:Value} {o:Obj} {n:String} {vs:Array Value} {Q:Unit->Shared->Prop} (ho:s.heap.get? it=some o) (hc:o.cls=.type n) (hd:o.data=.fields vs)
  (hn:["enumerate","zip","dict_itemiterator","dict_reverseitemiterator","odict_iterator","itertools.zip_longest","itertools.pairwise"].contains n=false) (hQ:Q () s):wpAny M A (letOwnedTupleGo tg (.ref it) u) Q E s:=by
 unfold letOwnedTupleGo
 cases tg <;> first
  | exact wpAny_pure hQ
  | (cases u <;> first
    | exact wpAny_pure hQ
    | (refine wpAny_bind (wpAny_load ho ?_);rw [hc,hd];show wpAny M A (if (["enumerate","zip","dict_itemiterator","dict_reverseitemiterator","odict_iterator","itertools.zip_longest","itertools.pairwise"].contains n&&vs[0]? == some (rawInt _))=true then _ else _) Q E s;rw [if_neg (by intro h;rw [hn,Bool.false_and] at h;cases h)];exact wpAny_pure hQ))
def Itl (K:PySem.W.Frag) (a:Addr):It:=
 ⟨fun i H=>∃ xs x,SqL K H a xs∧xs[i]? = some x,fun i H x H'=>H'=H∧∀ xs,SqL K H a xs->xs[i]? = some x,fun i H=>∃ xs,SqL K H a xs∧xs.length<=i⟩
def Itt (K:PySem.W.Frag) (a:Addr):It:=
 ⟨fun i H=>∃ xs x,SqT K H a xs∧xs[i]? = some x,fun i H x H'=>H'=H∧∀ xs,SqT K H a xs->xs[i]? = some x,fun i H=>∃ xs,SqT K H a xs∧xs.length<=i⟩
def Itr (lo:Int) (n:Nat):It:=⟨fun i _=>i<n,fun i H x H'=>H'=H∧x=.int (lo+i),fun i _=>n<=i⟩
theorem ZIU {P:Program} {w:World} {K:PySem.W.Frag} {tg:Expr} (a it:Addr):Turn P w K tg (Itl K a) [it] it (fun i h=>h.IsListIter it a i) where
 mem:=by simp
 obj:=fun i h st b hb=>by
  have e:b=it:=by simpa using hb
  subst e
  obtain ⟨o,e,c,d⟩:=st
  exact ⟨o,e,fun v z=>by rw [d] at z;cases z⟩
 keep:=fun i h h' st k=>st.at fun o e=>k it (by simp) o e
 item:=by
  intro X hP hw hK hc i pins s σ H E I hf st hg
  subst hP hw hK
  obtain ⟨xs,x,hq,hx⟩:=hg
  obtain ⟨its,rv,p,hz⟩:=I.list hq
  obtain ⟨u,hu,ru⟩:=rv.get hx
  obtain ⟨f0,f1,f2,f3,f4,f5⟩:=hf it (by simp)
  refine wpAny_pyNext_list_item st p.isList (x:=u) (by simpa using hu) fun h' st' sb=>?_
  have I1:Inv X pins σ H { s with heap:=h' }:=I.turned (t':=s.toks) (fun b o hb e=>(sb.2 b hb).trans e) f0 f1 f3 f4 f5
  obtain ⟨o,e,c,d⟩:=id st'
  exact ⟨u,rfl,ZJq (s:={ s with heap:=h' }) e c d (by decide) ⟨x,H,I1,ru,⟨rfl,fun ys hy=>by rw [I.list_inj hy hq];exact hx⟩,st',fun b hb=>(hf b hb).1⟩⟩
 done:=by
  intro X hP hw hK hc i pins s σ H E I hf st hg
  subst hP hw hK
  obtain ⟨xs,hq,hx⟩:=hg
  obtain ⟨its,rv,p,hz⟩:=I.list hq
  obtain ⟨f0,f1,f2,f3,f4,f5⟩:=hf it (by simp)
  have hl:=rv.length
  exact wpAny_pyNext_list_end (I.ok.hd hc) st p.isList (by simp;omega) fun h' eb=>⟨rfl,I.turned (t':=s.toks) (fun b o hb e=>eb b o hb e) f0 f1 f3 f4 f5⟩
 self:=fun _ _ _ _ _ st h=>wpAny_pyIter_listiter st h
theorem ZHN {P:Program} {w:World} {K:PySem.W.Frag} {tg:Expr} (a it:Addr):Turn P w K tg (Itt K a) [it] it (fun i h=>h.IsTupleIter it a i) where
 mem:=by simp
 obj:=fun i h st b hb=>by
  have e:b=it:=by simpa using hb
  subst e
  obtain ⟨o,e,c,d⟩:=st
  exact ⟨o,e,fun v z=>by rw [d] at z;cases z⟩
 keep:=fun i h h' st k=>st.at fun o e=>k it (by simp) o e
 item:=by
  intro X hP hw hK hc i pins s σ H E I hf st hg
  subst hP hw hK
  obtain ⟨xs,x,hq,hx⟩:=hg
  obtain ⟨its,rv,p,hz⟩:=I.tuple hq
  obtain ⟨u,hu,ru⟩:=rv.get hx
  obtain ⟨f0,f1,f2,f3,f4,f5⟩:=hf it (by simp)
  refine wpAny_pyNext_tuple_item st (show s.heap.IsTuple a its.toArray from p) (x:=u) (by simpa using hu) fun h' st' sb=>?_
  have I1:Inv X pins σ H { s with heap:=h' }:=I.turned (t':=s.toks) (fun b o hb e=>(sb.2 b hb).trans e) f0 f1 f3 f4 f5
  obtain ⟨o,e,c,d⟩:=id st'
  exact ⟨u,rfl,ZJq (s:={ s with heap:=h' }) e c d (by decide) ⟨x,H,I1,ru,⟨rfl,fun ys hy=>by rw [I.tuple_inj hy hq];exact hx⟩,st',fun b hb=>(hf b hb).1⟩⟩
 done:=by
  intro X hP hw hK hc i pins s σ H E I hf st hg
  subst hP hw hK
  obtain ⟨xs,hq,hx⟩:=hg
  obtain ⟨its,rv,p,hz⟩:=I.tuple hq
  obtain ⟨f0,f1,f2,f3,f4,f5⟩:=hf it (by simp)
  have hl:=rv.length
  exact wpAny_pyNext_tuple_end (I.ok.hd hc) st (show s.heap.IsTuple a its.toArray from p) (by simp;omega) fun h' eb=>⟨rfl,I.turned (t':=s.toks) (fun b o hb e=>eb b o hb e) f0 f1 f3 f4 f5⟩
 self:=fun _ _ _ _ _ st h=>wpAny_pyIter_tupleiter st h
theorem ZHb {P:Program} {w:World} {K:PySem.W.Frag} {tg:Expr} (it:Addr) (lo:Int) (n:Nat):Turn P w K tg (Itr lo n) [it] it (fun i h=>IsRangeIter h it (lo+(i:Nat) * 1) ((n:Int) - (i:Nat)) 1) where
 mem:=by simp
 obj:=fun i h st b hb=>by
  have e:b=it:=by simpa using hb
  subst e
  exact ⟨_,st,fun v z=>by
   have z':Data.fields _=Data.cell v:=z
   cases z'⟩
 keep:=fun i h h' st k=>k it (by simp) _ st
 item:=by
  intro X hP hw hK hc i pins s σ H E I hf st hg
  subst hP hw hK
  obtain ⟨f0,f1,f2,f3,f4,f5⟩:=hf it (by simp)
  have W:=Walks.range (prog:=X.prog) (w:=X.w) (I.ok.hd hc) it lo 1 n
  refine W.item i s _ _ hg st fun v h' tk hv st' kk=>?_
  obtain ⟨t,rfl⟩:=hv
  have I1:Inv X pins σ H { s with heap:=h',toks:=tk }:=I.turned (fun b o hb e=>kk b o (by simpa using hb) e) f0 f1 f3 f4 f5
  refine ⟨_,rfl,ZJq (s:={ s with heap:=h',toks:=tk }) (n:= "range_iterator") st' rfl rfl (by decide) ⟨.int (lo+i),H,I1,⟨t,?_⟩,⟨rfl,rfl⟩,st',fun b hb=>(hf b hb).1⟩⟩
  rw [Int.mul_one]
 done:=by
  intro X hP hw hK hc i pins s σ H E I hf st hg
  subst hP hw hK
  obtain ⟨f0,f1,f2,f3,f4,f5⟩:=hf it (by simp)
  exact wpAny_pyNext_range_end (I.ok.hd hc) st (by have:n<=i:=hg;omega) fun h' eb=>⟨rfl,I.turned (t':=s.toks) (fun b o hb e=>eb b o hb e) f0 f1 f3 f4 f5⟩
 self:=fun _ _ _ _ _ st h=>wpAny_pyIter_rangeiter st h
section
variable {X:Cx} {tg:Expr}
def ZN6 (K:PySem.W.Frag) (tl:TE):TI:=fun σ H R=>tl σ H fun x H1=>∃ a,x=.ref a∧(∃ xs,SqL K H1 a xs)∧R (Itl K a) H1
def ZPB (K:PySem.W.Frag) (tl:TE):TI:=fun σ H R=>tl σ H fun x H1=>∃ a,x=.ref a∧(∃ xs,SqT K H1 a xs)∧R (Itt K a) H1
theorem ZA5 {l:Expr} {tl:TE} (hl:PE X l tl):PI X tg l (ZN6 X.K tl):=by
 intro pins s σ H R I h
 refine thn (hl pins s σ H _ I h) fun v s1 ⟨x,H1,I1,r1,q1⟩=>?_
 obtain ⟨a,e,⟨xs,hq⟩,q⟩:=q1
 subst e
 cases r1
 obtain ⟨its,rv,p,hz⟩:=I1.list hq
 refine wpAny_pyIter_list p.isList ?_
 refine ⟨s1.heap.objs.size,[s1.heap.objs.size],_,_,H1,rfl,I1.kept (t':=s1.toks) fun b o e=>Heap.get?_push_of_some _ e,ZIU a _,⟨_,Heap.get?_push_size _ rfl,rfl,rfl⟩,fun b hb=>?_,q⟩
 have e:b=s1.heap.objs.size:=by simpa using hb
 subst e
 exact I1.fpOk (Nat.le_refl _) (I1.hok.fresh (Nat.le_refl _))
theorem ZHu {l:Expr} {tl:TE} (hl:PE X l tl):PI X tg l (ZPB X.K tl):=by
 intro pins s σ H R I h
 refine thn (hl pins s σ H _ I h) fun v s1 ⟨x,H1,I1,r1,q1⟩=>?_
 obtain ⟨a,e,⟨xs,hq⟩,q⟩:=q1
 subst e
 cases r1
 obtain ⟨its,rv,p,hz⟩:=I1.tuple hq
 refine wpAny_pyIter_tuple (show s1.heap.IsTuple a its.toArray from p) ?_
 refine ⟨s1.heap.objs.size,[s1.heap.objs.size],_,_,H1,rfl,I1.kept (t':=s1.toks) fun b o e=>Heap.get?_push_of_some _ e,ZHN a _,⟨_,Heap.get?_push_size _ rfl,rfl,rfl⟩,fun b hb=>?_,q⟩
 have e:b=s1.heap.objs.size:=by simpa using hb
 subst e
 exact I1.fpOk (Nat.le_refl _) (I1.hok.fresh (Nat.le_refl _))
theorem ZG3 {pins:List (Addr×Obj)} {σ:St} {H:Hp} {s:Shared} {R:It->Hp->Prop} {E:Value->Shared->Prop} {lo hi:Int} {t u v:Tok} {tk:Nat} (I:Inv X pins σ H s) (h1 : -(2 ^ 62)<=lo) (h2:lo<2 ^ 62) (h3 : -(2 ^ 62)<=hi) (h4:hi<2 ^ 62)
  (q:R (Itr lo (hi - lo).toNat) H):wpAny (model X.prog X.w) X.A (pyIter (.ref s.heap.objs.size)) (PIE X pins σ tg R) E { s with heap:=s.heap.push { cls:=.type "range",data:=.fields #[.int lo t,.int hi u,.int 1 v] },toks:=tk }:=by
 refine wpAny_pyIter_range (IsRange.new ..) (small_one h1 h2 h3 h4) ?_
 have I1:Inv X pins σ H { s with heap:=s.heap.push { cls:=.type "range",data:=.fields #[.int lo t,.int hi u,.int 1 v] },toks:=tk }:=I.kept fun b o e=>Heap.get?_push_of_some _ e
 refine ⟨(s.heap.push { cls:=.type "range",data:=.fields #[.int lo t,.int hi u,.int 1 v] }).objs.size,[(s.heap.push { cls:=.type "range",data:=.fields #[.int lo t,.int hi u,.int 1 v] }).objs.size],_,_,H,rfl,
  I1.kept (t':=tk) fun b o e=>Heap.get?_push_of_some _ e,ZHb _ lo (hi - lo).toNat,?_,fun b hb=>?_,q⟩
 ·have e1:lo+((0:Nat):Int) * 1=lo:=by simp
  have e2:(((hi - lo).toNat:Nat):Int) - ((0:Nat):Int)=Builtin.Range.rangeSize lo hi 1:=by rw [rangeSize_one];split <;> omega
  show IsRangeIter _ _ (lo+((0:Nat):Int) * 1) ((((hi - lo).toNat:Nat):Int) - ((0:Nat):Int)) 1
  rw [e1,e2]
  exact Heap.get?_push_size _ rfl
 ·have e:b=(s.heap.push { cls:=.type "range",data:=.fields #[.int lo t,.int hi u,.int 1 v] }).objs.size:=by simpa using hb
  subst e
  exact I1.fpOk (Nat.le_refl _) (I1.hok.fresh (Nat.le_refl _))
def ZOU (ta:TA):TI:=fun σ H R=>ta σ H fun vs H1=>∃ j:Int,vs=[.int j] ∧ -(2 ^ 62)<=j∧j<2 ^ 62∧R (Itr 0 j.toNat) H1
def ZOX (ta:TA):TI:=fun σ H R=>ta σ H fun vs H1=>∃ i j:Int,vs=[.int i,.int j]∧(-(2 ^ 62)<=i∧i<2 ^ 62 ∧ -(2 ^ 62)<=j∧j<2 ^ 62)∧R (Itr i (j - i).toNat) H1
theorem ZBm {a:Expr} {ta:TA} {p pos:Pos} (hg:Gl X "range") (hm:X.mg "range" = none) (ha:PA X [a] ta) (hs:starEach [a] X.env=[(false,eval a X.env)]:=by rfl):PI X tg (.Call (.Name "range" p) [a] [] pos) (ZOU ta):=by
 intro pins s σ H R I h
 refine Call_ (ZC3 I hg hm boot_range (PyProof.Rows.callWith_type1 (thn (ha pos pins s σ H _ I h) fun us s1 ⟨vs,H1,I1,r1,q1⟩=>?_) hs rfl))
 obtain ⟨j,e,q1,q2,q⟩:=q1
 subst e
 cases r1 with
 | cons r rr=>
  cases rr
  obtain ⟨t,rfl⟩:=r
  exact call_range_1 (ZG3 I1 (by omega) (by omega) q1 q2 (by simpa using q))
theorem ZCb {a b:Expr} {ta:TA} {p pos:Pos} (hg:Gl X "range") (hm:X.mg "range" = none) (ha:PA X [a,b] ta) (hs:starEach [a,b] X.env=[(false,eval a X.env),(false,eval b X.env)]:=by rfl) (hs2:starEach [b] X.env=[(false,eval b X.env)]:=by rfl) :
  PI X tg (.Call (.Name "range" p) [a,b] [] pos) (ZOX ta):=by
 intro pins s σ H R I h
 refine Call_ (ZC3 I hg hm boot_range (PyProof.Rows.callWith_type1 (thn (ha pos pins s σ H _ I h) fun us s1 ⟨vs,H1,I1,r1,q1⟩=>?_) (by rw [hs,hs2]) (by rw [hs2];rfl)))
 obtain ⟨i,j,e,⟨q1,q2,q3,q4⟩,q⟩:=q1
 subst e
 cases r1 with
 | cons r rr=>
  cases rr with
  | cons r' rr=>
   cases rr
   obtain ⟨t,rfl⟩:=r
   obtain ⟨t',rfl⟩:=r'
   exact call_range_2 (ZG3 I1 q1 q2 q3 q4 q)
def ZPY (wi:TI) (g:TG) (tb:TS):TS:=fun D σ H=>wi σ H fun J H1=>∃ W:Nat->Nat->St->Hp->Prop,(∃ m,W 0 m σ H1)∧∀ i m σ H,W i m σ H ->
 (J.stop i H∧D.nx σ H)∨(J.go i H∧∃ N:St->Hp->Prop,(∀ σ' H',N σ' H'->∃ m',m'<m∧W (i+1) m' σ' H')∧∀ x H',J.yld i H x H'->g x σ H' fun σ2 H2=>tb { D with nx:=N,ct:=N,bk:=D.nx } σ2 H2)
def ZD0 (fp:List Addr) (h:Heap):List (Addr×Obj):=fp.filterMap fun b=>(h.get? b).map fun o=>(b,o)
theorem ZBV {fp:List Addr} {h:Heap} {b:Addr} {o:Obj} (hb:b∈fp) (e:h.get? b=some o):(b,o)∈ZD0 fp h:=List.mem_filterMap.mpr ⟨b,hb,by rw [e];rfl⟩
theorem ZIQ {fp:List Addr} {h:Heap} {p:Addr×Obj} (hp:p∈ZD0 fp h):p.1∈fp∧h.get? p.1=some p.2:=by
 obtain ⟨b,hb,e⟩:=List.mem_filterMap.mp hp
 cases q:h.get? b with
 | none=>rw [q] at e;cases e
 | some o=>
  rw [q] at e
  have e':(b,o)=p:=Option.some.inj e
  subst e'
  exact ⟨hb,q⟩
theorem Inv.pinned {pins:List (Addr×Obj)} {σ:St} {H:Hp} {s:Shared} {fp:List Addr} (I:Inv X pins σ H s) (hf:∀ b∈fp,ZEE X pins H b) (ho:∀ b∈fp,∃ o,s.heap.get? b=some o∧∀ v,o.data≠.cell v):Inv X (pins++ZD0 fp s.heap) σ H s:=
 I.pins_of fun p hp=>(List.mem_append.mp hp).elim (fun z=>I.pin p (List.mem_append_right _ z)) fun z=>by
  obtain ⟨hb,e⟩:=ZIQ z
  obtain ⟨f0,f1,f2,_⟩:=hf p.1 hb
  obtain ⟨o,e',d⟩:=ho p.1 hb
  rw [e] at e';cases e'
  exact ⟨e,f0,f1,f2,d⟩
theorem Inv.unpinned {pins pl:List (Addr×Obj)} {σ:St} {H:Hp} {s:Shared} (I:Inv X (pins++pl) σ H s):Inv X pins σ H s:=I.pins_of fun p hp=>I.pin p (List.mem_append_right _ (List.mem_append_left _ hp))
theorem ZBe {iter:Expr} {body:List Stmt} {wi:TI} {g:TG} {tb:TS} {pos:Pos} (hp:PassesOwn (model X.prog X.w) X.A X.env X.xe) (hc:X.calm=true) (hi:PI X tg iter wi) (hg:PG X tg g) (hb:PSs X body tb)
  (hs:∀ x,foldedSetIterable iter X.env x=pure x:=by intro _;rfl):PS X (.For tg iter body [] pos) (ZPY wi g tb):=by
 intro pins s σ H D I h
 refine wpAny_For (thn (hi pins s σ H _ I h) fun v s1 h1=>thn h1 fun itv s2 h2=>?_) hs
 obtain ⟨it,fp,tn,J,H2,e,I2,T,st2,f2,W,⟨m0,w0⟩,turn⟩:=h2
 subst e
 have stat:∀ {H':Hp},(∀ b∈fp,H' b=none)->∀ b∈fp,ZEE X pins H' b:=fun hn b hb=>⟨hn b hb,(f2 b hb).2⟩
 refine codeAny_forLoop_any (fun n s'=>∃ i σ' H',Inv X pins σ' H' s'∧tn i s'.heap∧(∀ b∈fp,H' b=none)∧W i n σ' H') ?_ m0 ⟨0,σ,H2,I2,st2,fun b hb=>(f2 b hb).1,w0⟩
 rintro n s3 ⟨i,σ3,H3,I3,st3,fr3,w3⟩
 rcases turn i n σ3 H3 w3 with ⟨stop,qn⟩ | ⟨go,N,hN,step⟩
 ·refine wpAny_passesOwn hp (thn (T.done X rfl rfl rfl hc i pins s3 σ3 H3 X.xe I3 (stat fr3) st3 stop) fun r s4 ⟨hr,I4⟩=>?_)
  subst hr
  exact wpAny_execs_nil ⟨σ3,H3,I4,qn⟩
 ·refine wpAny_passesOwn hp (thn (T.item X rfl rfl rfl hc i pins s3 σ3 H3 X.xe I3 (stat fr3) st3 go) fun r s4 ⟨u,hr,h4⟩=>?_)
  subst hr
  refine wpAny_passesOwn hp (thn h4 fun _ s5 ⟨x,H5,I5,r5,y5,st5,fr5⟩=>?_)
  have I5':=I5.pinned (stat fr5) (T.obj _ _ st5)
  refine wpAny_passesOwn hp (thn (hg _ s5 σ3 H5 x u _ I5' r5 (step x H5 y5)) fun _ s6 ⟨σ6,H6,I6,q6⟩=>?_)
  refine wpAny_passesOwn hp (thn (hb _ s6 σ6 H6 _ I6 q6) fun f s7 q7=>?_)
  have again:∀ {σ7:St} {H7:Hp},Inv X (pins++ZD0 fp s5.heap) σ7 H7 s7->N σ7 H7->∃ m,m<n∧∃ i σ' H',Inv X pins σ' H' s7∧tn i s7.heap∧(∀ b∈fp,H' b=none)∧W i m σ' H':=fun {σ7 H7} I7 n7=>by
   obtain ⟨m',hm,w7⟩:=hN σ7 H7 n7
   refine ⟨m',hm,i+1,σ7,H7,I7.unpinned,T.keep _ _ _ st5 fun b hb o e=>(I7.pin (b,o) (List.mem_append_right _ (List.mem_append_right _ (ZBV hb e)))).1,fun b hb=>?_,w7⟩
   obtain ⟨o,e,d⟩:=T.obj _ _ st5 b hb
   exact (I7.pin (b,o) (List.mem_append_right _ (List.mem_append_right _ (ZBV hb e)))).2.1
  cases f with
  | next=>obtain ⟨σ7,H7,I7,n7⟩:=q7;exact again I7 n7
  | cont=>obtain ⟨σ7,H7,I7,n7⟩:=q7;exact again I7 n7
  | brk=>obtain ⟨σ7,H7,I7,q7⟩:=q7;exact ⟨σ7,H7,I7.unpinned,q7⟩
  | ret v=>obtain ⟨x7,σ7,H7,I7,r7,q7⟩:=q7;exact ⟨x7,σ7,H7,I7.unpinned,r7,q7⟩
end
theorem ZBo {K:PySem.W.Frag} {a:Addr} {xs:List V} {g:TG} {tb:TS} {D:Ends} {σ:St} {H:Hp} (Pv:Nat->St->Hp->Prop) (h0:Pv 0 σ H) (hl:∀ i σ H,i<=xs.length->Pv i σ H->SqL K H a xs)
  (hs:∀ i x σ H,xs[i]? = some x->Pv i σ H->g x σ H fun σ2 H2=>tb { D with nx:=Pv (i+1),ct:=Pv (i+1),bk:=D.nx } σ2 H2) (hd:∀ σ H,Pv xs.length σ H->D.nx σ H) :
  ∃ W:Nat->Nat->St->Hp->Prop,(∃ m,W 0 m σ H)∧∀ i m σ H,W i m σ H ->
   ((Itl K a).stop i H∧D.nx σ H)∨((Itl K a).go i H∧∃ N:St->Hp->Prop,(∀ σ' H',N σ' H'->∃ m',m'<m∧W (i+1) m' σ' H')∧∀ x H',(Itl K a).yld i H x H'->g x σ H' fun σ2 H2=>tb { D with nx:=N,ct:=N,bk:=D.nx } σ2 H2):=by
 refine ⟨fun i m σ H=>m=xs.length - i∧i<=xs.length∧Pv i σ H,⟨xs.length,by simp,Nat.zero_le _,h0⟩,?_⟩
 rintro i m σ H ⟨rfl,hi,p⟩
 have q:=hl i σ H hi p
 by_cases hlt:i<xs.length
 ·refine .inr ⟨⟨xs,xs[i],q,by simp [hlt]⟩,Pv (i+1),fun σ' H' p'=>⟨xs.length - (i+1),by omega,rfl,hlt,p'⟩,fun x H' y=>?_⟩
  obtain ⟨e,y⟩:=y
  subst e
  exact hs i x σ _ (y xs q) p
 ·have e:i=xs.length:=by omega
  subst e
  exact .inl ⟨⟨xs,q,Nat.le_refl _⟩,hd σ H p⟩
theorem ZBW {lo:Int} {n:Nat} {g:TG} {tb:TS} {D:Ends} {σ:St} {H:Hp} (Pv:Nat->St->Hp->Prop) (h0:Pv 0 σ H)
  (hs:∀ i σ H,i<n->Pv i σ H->g (.int (lo+i)) σ H fun σ2 H2=>tb { D with nx:=Pv (i+1),ct:=Pv (i+1),bk:=D.nx } σ2 H2) (hd:∀ σ H,Pv n σ H->D.nx σ H) :
  ∃ W:Nat->Nat->St->Hp->Prop,(∃ m,W 0 m σ H)∧∀ i m σ H,W i m σ H ->
   ((Itr lo n).stop i H∧D.nx σ H)∨((Itr lo n).go i H∧∃ N:St->Hp->Prop,(∀ σ' H',N σ' H'->∃ m',m'<m∧W (i+1) m' σ' H')∧∀ x H',(Itr lo n).yld i H x H'->g x σ H' fun σ2 H2=>tb { D with nx:=N,ct:=N,bk:=D.nx } σ2 H2):=by
 refine ⟨fun i m σ H=>m=n - i∧i<=n∧Pv i σ H,⟨n,by simp,Nat.zero_le _,h0⟩,?_⟩
 rintro i m σ H ⟨rfl,hi,p⟩
 by_cases hlt:i<n
 ·refine .inr ⟨hlt,Pv (i+1),fun σ' H' p'=>⟨n - (i+1),by omega,rfl,hlt,p'⟩,fun x H' y=>?_⟩
  obtain ⟨e,y⟩:=y
  subst e y
  exact hs i σ _ hlt p
 ·have e:i=n:=by omega
  subst e
  exact .inl ⟨Nat.le_refl _,hd σ H p⟩
abbrev R2:=V->V->Hp->VK->Prop
def OpR (X:Cx) (f:Value->Value->Sem Value) (r:R2):Prop:=
 ∀ (pins:List (Addr×Obj)) (s:Shared) (σ:St) (H:Hp) (x y:V) (v u:Value) (Q:VK),Inv X pins σ H s->RelV x v->RelV y u->r x y H Q ->
  wpAny (model X.prog X.w) X.A (f v u) (EP X pins σ Q) X.xe s
def UnR (X:Cx) (f:Value->Sem Value) (r:V->Hp->VK->Prop):Prop:=
 ∀ (pins:List (Addr×Obj)) (s:Shared) (σ:St) (H:Hp) (x:V) (v:Value) (Q:VK),Inv X pins σ H s->RelV x v->r x H Q ->
  wpAny (model X.prog X.w) X.A (f v) (EP X pins σ Q) X.xe s
def ZBt (X:Cx) (f:Value) (r:List V->Hp->VK->Prop):Prop:=
 ∀ (pins:List (Addr×Obj)) (s:Shared) (σ:St) (H:Hp) (xs:List V) (us:List Value) (Q:VK),Inv X pins σ H s->Vals xs us->r xs H Q ->
  wpAny (model X.prog X.w) X.A (call f us) (EP X pins σ Q) X.xe s
def tOp (r:R2) (ta tb:TE):TE:=fun σ H Q=>ta σ H fun x H1=>tb σ H1 fun y H2=>r x y H2 Q
def tUn (r:V->Hp->VK->Prop) (ta:TE):TE:=fun σ H Q=>ta σ H fun x H1=>r x H1 Q
def rI (C:Int->Int->Prop) (g:Int->Int->V):R2:=fun x y H Q=>∃ i j,x=.int i∧y=.int j∧C i j∧Q (g i j) H
def rI0 (g:Int->Int->V):R2:=fun x y H Q=>∃ i j,x=.int i∧y=.int j∧Q (g i j) H
def rU (g:Int->V):V->Hp->VK->Prop:=fun x H Q=>∃ i,x=.int i∧Q (g i) H
section
variable {X:Cx} {a b c:Expr} {ta tb tc:TE} {pos:Pos}
theorem ZN8 (ha:PE X a ta) (hb:PE X b tb) {pins:List (Addr×Obj)} {s:Shared} {σ:St} {H:Hp} {R:V->V->Hp->Prop} (I:Inv X pins σ H s)
  (h:ta σ H fun x H1=>tb σ H1 fun y H2=>R x y H2) {Q:Value->Shared->Prop} {f:Value->Value->Sem Value}
  (hf:∀ v u s2 x y H2,Inv X pins σ H2 s2->RelV x v->RelV y u->R x y H2->wpAny (model X.prog X.w) X.A (f v u) Q X.xe s2) :
  wpAny (model X.prog X.w) X.A (eval a X.env) (fun v s₁=>wpAny (model X.prog X.w) X.A (eval b X.env) (fun u s₂=>wpAny (model X.prog X.w) X.A (f v u) Q X.xe s₂) X.xe s₁) X.xe s:=by
 refine thn (ha pins s σ H _ I h) fun v s1 ⟨x,H1,I1,r1,q1⟩=>?_
 refine thn (hb pins s1 σ H1 _ I1 q1) fun u s2 ⟨y,H2,I2,r2,q2⟩=>?_
 exact hf v u s2 x y H2 I2 r1 r2 q2
theorem ZAb {op:Operator} {r:R2} (ho:OpR X (binaryOp op) r) (ha:PE X a ta) (hb:PE X b tb):PE X (.BinOp a op b pos) (tOp r ta tb):=by
 intro pins s σ H Q I h
 exact wpAny_BinOp (ZN8 ha hb I h fun v u s2 x y H2 I2 rx ry q=>ho pins s2 σ H2 x y v u Q I2 rx ry q)
theorem ZGS {op:UnaryOp} {r:V->Hp->VK->Prop} (ho:UnR X (unaryOp op) r) (ha:PE X a ta):PE X (.UnaryOp op a pos) (tUn r ta):=by
 intro pins s σ H Q I h
 exact UnaryOp_ (thn (ha pins s σ H _ I h) fun v s1 ⟨x,H1,I1,r1,q1⟩=>ho pins s1 σ H1 x v Q I1 r1 q1)
theorem opI {f:Value->Value->Sem Value} {C:Int->Int->Prop} {g:Int->Int->Int}
  (rule:∀ (i j:Int) (t u:Tok) (s:Shared) (Q:Value->Shared->Prop) (E:Value->Shared->Prop),C i j->Q (.int (g i j) s.toks) { s with toks:=s.toks+1 }->wpAny (model X.prog X.w) X.A (f (.int i t) (.int j u)) Q E s) :
  OpR X f (rI C fun i j=>.int (g i j)):=by
 intro pins s σ H x y v u Q I rx ry h
 obtain ⟨i,j,rfl,rfl,hc,q⟩:=h
 obtain ⟨t,rfl⟩:=rx
 obtain ⟨t',rfl⟩:=ry
 exact rule i j t t' s _ _ hc ⟨.int (g i j),H,I.tok _,⟨_,rfl⟩,q⟩
theorem ZOw {f:Value->Value->Sem Value} {g:Int->Int->Int}
  (rule:∀ (i j:Int) (t u:Tok) (s:Shared) (Q:Value->Shared->Prop) (E:Value->Shared->Prop),Q (.int (g i j) s.toks) { s with toks:=s.toks+1 }->wpAny (model X.prog X.w) X.A (f (.int i t) (.int j u)) Q E s) :
  OpR X f (rI0 fun i j=>.int (g i j)):=by
 intro pins s σ H x y v u Q I rx ry h
 obtain ⟨i,j,rfl,rfl,q⟩:=h
 obtain ⟨t,rfl⟩:=rx
 obtain ⟨t',rfl⟩:=ry
 exact rule i j t t' s _ _ ⟨.int (g i j),H,I.tok _,⟨_,rfl⟩,q⟩
theorem ZN5 {f:Value->Value->Sem Value} {g:Int->Int->Bool}
  (rule:∀ (i j:Int) (t u:Tok) (s:Shared) (Q:Value->Shared->Prop) (E:Value->Shared->Prop),Q (.bool (g i j)) s->wpAny (model X.prog X.w) X.A (f (.int i t) (.int j u)) Q E s) :
  OpR X f (rI0 fun i j=>.bl (g i j)):=by
 intro pins s σ H x y v u Q I rx ry h
 obtain ⟨i,j,rfl,rfl,q⟩:=h
 obtain ⟨t,rfl⟩:=rx
 obtain ⟨t',rfl⟩:=ry
 exact rule i j t t' s _ _ ⟨.bl (g i j),H,I,rfl,q⟩
def ZPF (i j:Int):Prop:=0<j∧j<1073741824
def ZPM (i j:Int):Prop:=0<=j∧j<=1000000∧i.natAbs<2 ^ 64
def CMul (i j:Int):Prop:=(-(2 ^ 64)<i∧i<2 ^ 64)∨(-(2 ^ 64)<j∧j<2 ^ 64)
theorem CMul.ok {i j:Int} (h:CMul i j):IntMulOk i j:=by
 rcases h with ⟨h1,h2⟩ | ⟨h1,h2⟩
 ·exact .of_left (intBits_le_64 h1 h2)
 ·exact .of_right (intBits_le_64 h1 h2)
theorem ZBE:OpR X (binaryOp .Add) (rI0 fun i j=>.int (i+j)):=ZOw fun _ _ _ _ _ _ _ q=>add_int q
theorem ZCV:OpR X (binaryOp .Sub) (rI0 fun i j=>.int (i - j)):=ZOw fun _ _ _ _ _ _ _ q=>sub_int q
theorem ZDG:OpR X (binaryOp .Mult) (rI CMul fun i j=>.int (i * j)):=opI fun _ _ _ _ _ _ _ hc q=>mul_int q hc.ok
theorem ZFo:OpR X (binaryOp .FloorDiv) (rI ZPF fun i j=>.int (i / j)):=opI fun i j _ _ _ _ _ hc q=>by
 have h1:(0:Int)<j:=hc.1
 have h2:j<1073741824:=hc.2
 exact floordiv_int (by omega) (by rw [Int.fdiv_eq_ediv_of_nonneg i (by omega)];exact q) (.inl (PyProof.noPylong_small (by omega)))
theorem ZBy:OpR X (binaryOp .Mod) (rI (fun _ j=>0<j) fun i j=>.int (i % j)):=opI fun i j _ _ _ _ _ hc q=>by
 have h1:(0:Int)<j:=hc
 exact mod_int' (by omega) (by rw [Int.fmod_eq_emod_of_nonneg i (by omega)];exact q)
theorem ZKx:OpR X (binaryOp .Pow) (rI ZPM fun i j=>.int (i ^ j.toNat)):=opI fun _ _ _ _ _ _ _ hc q=>pow_int_small hc.1 hc.2.1 hc.2.2 q
theorem unI {f:Value->Sem Value} {g:Int->Int}
  (rule:∀ (i:Int) (t:Tok) (s:Shared) (Q:Value->Shared->Prop) (E:Value->Shared->Prop),Q (.int (g i) s.toks) { s with toks:=s.toks+1 }->wpAny (model X.prog X.w) X.A (f (.int i t)) Q E s) :
  UnR X f (rU fun i=>.int (g i)):=by
 intro pins s σ H x v Q I rx h
 obtain ⟨i,rfl,q⟩:=h
 obtain ⟨t,rfl⟩:=rx
 exact rule i t s _ _ ⟨.int (g i),H,I.tok _,⟨_,rfl⟩,q⟩
theorem ZDP:UnR X (unaryOp .USub) (rU fun i=>.int (-i)):=unI fun _ _ _ _ _ q=>neg_int q
end
def ZO0:V->V->Bool
 | .non,.non=>true | .non,.int _=>true | .int _,.non=>true | .non,.bl _=>true | .bl _,.non=>true | .non,.str _=>true | .str _,.non=>true
 | .int _,.int _=>true | .bl _,.bl _=>true | .str _,.str _=>true | .byt _,.byt _=>true
 | .int _,.str _=>true | .str _,.int _=>true | .bl _,.str _=>true | .str _,.bl _=>true
 | _,_=>false
def rEq:R2:=fun x y H Q=>ZO0 x y=true∧Q (.bl (decide (x=y))) H
def rNe:R2:=fun x y H Q=>ZO0 x y=true∧Q (.bl (!decide (x=y))) H
theorem ZIx {i j:Int}:decide (V.int i=V.int j)=(i==j):=by
 rw [Bool.eq_iff_iff]
 simp
theorem ZLE {i j:Bool}:decide (V.bl i=V.bl j)=(i==j):=by
 rw [Bool.eq_iff_iff]
 simp
theorem ZJR {i j:Str}:decide (V.str i=V.str j)=(i==j):=by
 rw [Bool.eq_iff_iff]
 simp
theorem ZIZ {i j:Array UInt8}:decide (V.byt i=V.byt j)=(i.toList==j.toList):=by
 rw [Bool.eq_iff_iff]
 cases i
 cases j
 simp
section
variable {X:Cx} {a b c:Expr} {ta tb tc:TE} {pos:Pos}
theorem ZAh {pins:List (Addr×Obj)} {σ:St} {H:Hp} {s:Shared} {Q:VK} {k k':Bool} (I:Inv X pins σ H s) (q:Q (.bl k) H) (e:k=k'):EP X pins σ Q (.bool k') s:=by
 subst e
 exact ⟨.bl k,H,I,rfl,q⟩
theorem ZCA:OpR X (compareOp .Eq) rEq:=by
 intro pins s σ H x y v u Q I rx ry h
 obtain ⟨hs,q⟩:=h
 cases x with
 | non=>
  cases rx
  cases y with
  | non=>cases ry;exact PySem.EqNone.eq_none_none (ZAh I q (by simp))
  | bl j=>cases ry;exact PySem.EqNone.eq_none_bool (ZAh I q (by simp))
  | int j=>obtain ⟨t',rfl⟩:=ry;exact PySem.EqNone.eq_none_int (ZAh I q (by simp))
  | str j=>obtain ⟨t',rfl⟩:=ry;exact PySem.EqNone.eq_none_str (ZAh I q (by simp))
  | _=>exact absurd (show false=true from hs) Bool.false_ne_true
 | bl i=>
  cases rx
  cases y with
  | non=>cases ry;exact PySem.EqNone.eq_bool_none (ZAh I q (by simp))
  | bl j=>cases ry;exact eq_bool (ZAh I q ZLE)
  | str j=>obtain ⟨t',rfl⟩:=ry;exact PySem.EqMixed.eq_bool_str (ZAh I q (by simp))
  | _=>exact absurd (show false=true from hs) Bool.false_ne_true
 | int i=>
  obtain ⟨t,rfl⟩:=rx
  cases y with
  | non=>cases ry;exact PySem.EqNone.eq_int_none (ZAh I q (by simp))
  | int j=>obtain ⟨t',rfl⟩:=ry;exact eq_int (ZAh I q ZIx)
  | str j=>obtain ⟨t',rfl⟩:=ry;exact PySem.EqMixed.eq_int_str (ZAh I q (by simp))
  | _=>exact absurd (show false=true from hs) Bool.false_ne_true
 | str i=>
  obtain ⟨t,rfl⟩:=rx
  cases y with
  | non=>cases ry;exact PySem.EqNone.eq_str_none (ZAh I q (by simp))
  | bl j=>cases ry;exact PySem.EqMixed.eq_str_bool (ZAh I q (by simp))
  | int j=>obtain ⟨t',rfl⟩:=ry;exact PySem.EqMixed.eq_str_int (ZAh I q (by simp))
  | str j=>obtain ⟨t',rfl⟩:=ry;exact eq_str (ZAh I q ZJR)
  | _=>exact absurd (show false=true from hs) Bool.false_ne_true
 | byt i=>
  obtain ⟨t,rfl⟩:=rx
  cases y with
  | byt j=>obtain ⟨t',rfl⟩:=ry;exact PySem.W.eq_bytes (ZAh I q ZIZ)
  | _=>exact absurd (show false=true from hs) Bool.false_ne_true
 | _=>cases y <;> exact absurd (show false=true from hs) Bool.false_ne_true
theorem ZEN:OpR X (compareOp .NotEq) rNe:=by
 intro pins s σ H x y v u Q I rx ry h
 obtain ⟨hs,q⟩:=h
 cases x with
 | non=>
  cases rx
  cases y with
  | non=>cases ry;exact PySem.EqNone.ne_none_none (ZAh I q (by simp))
  | bl j=>cases ry;exact PySem.EqNone.ne_none_bool (ZAh I q (by simp))
  | int j=>obtain ⟨t',rfl⟩:=ry;exact PySem.EqNone.ne_none_int (ZAh I q (by simp))
  | str j=>obtain ⟨t',rfl⟩:=ry;exact PySem.EqNone.ne_none_str (ZAh I q (by simp))
  | _=>exact absurd (show false=true from hs) Bool.false_ne_true
 | bl i=>
  cases rx
  cases y with
  | non=>cases ry;exact PySem.EqNone.ne_bool_none (ZAh I q (by simp))
  | bl j=>cases ry;exact ne_bool (ZAh I q (congrArg not ZLE))
  | str j=>obtain ⟨t',rfl⟩:=ry;exact PySem.EqMixed.ne_bool_str (ZAh I q (by simp))
  | _=>exact absurd (show false=true from hs) Bool.false_ne_true
 | int i=>
  obtain ⟨t,rfl⟩:=rx
  cases y with
  | non=>cases ry;exact PySem.EqNone.ne_int_none (ZAh I q (by simp))
  | int j=>obtain ⟨t',rfl⟩:=ry;exact ne_int (ZAh I q (congrArg not ZIx))
  | str j=>obtain ⟨t',rfl⟩:=ry;exact PySem.EqMixed.ne_int_str (ZAh I q (by simp))
  | _=>exact absurd (show false=true from hs) Bool.false_ne_true
 | str i=>
  obtain ⟨t,rfl⟩:=rx
  cases y with
  | non=>cases ry;exact PySem.EqNone.ne_str_none (ZAh I q (by simp))
  | bl j=>cases ry;exact PySem.EqMixed.ne_str_bool (ZAh I q (by simp))
  | int j=>obtain ⟨t',rfl⟩:=ry;exact PySem.EqMixed.ne_str_int (ZAh I q (by simp))
  | str j=>obtain ⟨t',rfl⟩:=ry;exact ne_str (ZAh I q (congrArg not ZJR))
  | _=>exact absurd (show false=true from hs) Bool.false_ne_true
 | byt i=>
  obtain ⟨t,rfl⟩:=rx
  cases y with
  | byt j=>obtain ⟨t',rfl⟩:=ry;exact PySem.W.ne_bytes (ZAh I q (congrArg not ZIZ))
  | _=>exact absurd (show false=true from hs) Bool.false_ne_true
 | _=>cases y <;> exact absurd (show false=true from hs) Bool.false_ne_true
theorem ZHG:OpR X (compareOp .Lt) (rI0 fun i j=>.bl (decide (i<j))):=ZN5 fun _ _ _ _ _ _ _ q=>lt_int q
theorem ZDt:OpR X (compareOp .LtE) (rI0 fun i j=>.bl (decide (i<=j))):=ZN5 fun _ _ _ _ _ _ _ q=>le_int q
theorem ZGI:OpR X (compareOp .Gt) (rI0 fun i j=>.bl (decide (j<i))):=ZN5 fun _ _ _ _ _ _ _ q=>gt_int q
theorem ZOn:OpR X (compareOp .GtE) (rI0 fun i j=>.bl (decide (j<=i))):=ZN5 fun _ _ _ _ _ _ _ q=>ge_int q
theorem ZAW (b:Expr) {op:CmpOp} (h:op≠.In:=by decide) (h2:op≠.NotIn:=by decide):behindInMarks op b=false:=by
 have e1:(op==CmpOp.In)=false:=by cases op <;> first | rfl | exact absurd rfl h
 have e2:(op==CmpOp.NotIn)=false:=by cases op <;> first | rfl | exact absurd rfl h2
 cases b <;> simp [behindInMarks,e1,e2]
theorem ZBB {op:CmpOp} {r:R2} (ho:OpR X (compareOp op) r) (ha:PE X a ta) (hb:PE X b tb) (hm:behindInMarks op b=false):PE X (.Compare a [op] [b] pos) (tOp r ta tb):=by
 intro pins s σ H Q I h
 exact wpAny_Compare1 (ZN8 ha hb I h fun v u s2 x y H2 I2 rx ry q=>ho pins s2 σ H2 x y v u Q I2 rx ry q) hm
def ZNF (t:TE):TT:=fun σ H Q=>t σ H fun x H'=>∃ k,x=.bl k∧Q k H'
theorem ZAX {op:CmpOp} {r:R2} (ho:OpR X (compareOp op) r) (ha:PE X a ta) (hb:PE X b tb) (hm:behindInMarks op b=false):PT X (.Compare a [op] [b] pos) (ZNF (tOp r ta tb)):=by
 intro pins s σ H Q I h
 refine wpAny_isTrue_Compare1 (thn (ha pins s σ H _ I h) fun v s1 ⟨x,H1,I1,r1,q1⟩=>thn (hb pins s1 σ H1 _ I1 q1) fun u s2 ⟨y,H2,I2,r2,q2⟩=>
  thn (ho pins s2 σ H2 x y v u _ I2 r1 r2 q2) fun c s3 ⟨z,H3,I3,r3,k,e,q3⟩=>?_) hm
 subst e
 cases r3
 exact wpAny_truthy_bool ⟨H3,I3,q3⟩
def ZK1 (r r':R2) (ta tb tc:TE):TE:=fun σ H Q=>ta σ H fun x H1=>tb σ H1 fun y H2=>r x y H2 fun z H3=>∃ k,z=.bl k ∧
 (if k=true then tc σ H3 fun w' H4=>r' y w' H4 Q else Q (.bl false) H3)
theorem ZJj {op op':CmpOp} {r r':R2} (ho:OpR X (compareOp op) r) (ho':OpR X (compareOp op') r') (ha:PE X a ta) (hb:PE X b tb) (hc:PE X c tc)
  (hm:lastMarks [op,op'] [b,c]=false:=by with_unfolding_all rfl):PE X (.Compare a [op,op'] [b,c] pos) (ZK1 r r' ta tb tc):=by
 intro pins s σ H Q I h
 refine Compare_chain (thn (ha pins s σ H _ I h) fun v s1 ⟨x,H1,I1,r1,q1⟩=>chain_link (thn (hb pins s1 σ H1 _ I1 q1) fun u s2 ⟨y,H2,I2,r2,q2⟩=>
  thn (ho pins s2 σ H2 x y v u _ I2 r1 r2 q2) fun d s3 ⟨z,H3,I3,r3,k,e,q3⟩=>?_)) hm
 subst e
 cases r3
 refine wpAny_truthy_bool ?_
 cases k with
 | false=>exact ite_ff ⟨.bl false,H3,I3,rfl,q3⟩
 | true=>exact ite_tt (chain_last (thn (hc pins s3 σ H3 _ I3 q3) fun w' s4 ⟨z',H4,I4,r4,q4⟩=>ho' pins s4 σ H4 y z' u w' Q I4 r2 r4 q4))
theorem ZEw {op op':CmpOp} {r r':R2} (ho:OpR X (compareOp op) r) (ho':OpR X (compareOp op') r') (ha:PE X a ta) (hb:PE X b tb) (hc:PE X c tc)
  (hm:lastMarks [op,op'] [b,c]=false:=by with_unfolding_all rfl):PT X (.Compare a [op,op'] [b,c] pos) (ZNF (ZK1 r r' ta tb tc)):=by
 intro pins s σ H Q I h
 refine isTrue_chain (thn (ha pins s σ H _ I h) fun v s1 ⟨x,H1,I1,r1,q1⟩=>test_link (thn (hb pins s1 σ H1 _ I1 q1) fun u s2 ⟨y,H2,I2,r2,q2⟩=>
  thn (ho pins s2 σ H2 x y v u _ I2 r1 r2 q2) fun d s3 ⟨z,H3,I3,r3,k,e,q3⟩=>?_)) hm
 subst e
 cases r3
 refine wpAny_truthy_bool ?_
 cases k with
 | false=>
  obtain ⟨k',e',q'⟩:=q3
  cases e'
  exact ite_ff ⟨H3,I3,q'⟩
 | true=>
  refine ite_tt (test_last (thn (hc pins s3 σ H3 _ I3 q3) fun w' s4 ⟨z',H4,I4,r4,q4⟩=>thn (ho' pins s4 σ H4 y z' u w' _ I4 r2 r4 q4) fun d' s5 ⟨z2,H5,I5,r5,k2,e2,q5⟩=>?_))
  subst e2
  cases r5
  exact wpAny_truthy_bool ⟨H5,I5,q5⟩
theorem ZD2:(sizeLine:Nat)<2 ^ 63:=by rw [sizeLine_eq];decide
theorem ZCg:OpR X (binaryOp .Add) (fun x y H Q=>∃ i j,x=.str i∧y=.str j∧i.length+j.length<=sizeLine∧Q (.str (i++j)) H):=by
 intro pins s σ H x y v u Q I rx ry h
 obtain ⟨i,j,rfl,rfl,hz,q⟩:=h
 obtain ⟨t,rfl⟩:=rx
 obtain ⟨t',rfl⟩:=ry
 exact add_str (fun t' tk=>⟨.str (i++j),H,I.tok _,⟨_,rfl⟩,q⟩) hz
theorem ZB8 {x:V} {us:List Value} (r:Vals [x] us):∃ u,us=[u]∧RelV x u:=by
 cases r with
 | cons r1 r2=>cases r2;exact ⟨_,rfl,r1⟩
theorem ZKq {x y:V} {us:List Value} (r:Vals [x,y] us):∃ u w',us=[u,w']∧RelV x u∧RelV y w':=by
 cases r with
 | cons r1 r2=>
  cases r2 with
  | cons r3 r4=>cases r4;exact ⟨_,_,rfl,r1,r3⟩
theorem ZEy:ZBt X (.builtin "abs") (fun xs H Q=>∃ i,xs=[.int i]∧Q (.int (if i<0 then -i else i)) H):=by
 intro pins s σ H xs us Q I r h
 obtain ⟨i,rfl,q⟩:=h
 obtain ⟨u,rfl,t,rfl⟩:=ZB8 r
 exact call_abs_int fun u tk=>⟨.int (if i<0 then -i else i),H,I.tok _,⟨_,rfl⟩,q⟩
theorem ZE6 (hc:X.calm=true):ZBt X (.builtin "max") (fun xs H Q=>∃ i j,xs=[.int i,.int j]∧Q (.int (if j > i then j else i)) H):=by
 intro pins s σ H xs us Q I r h
 obtain ⟨i,j,rfl,q⟩:=h
 obtain ⟨u,w',rfl,⟨t,rfl⟩,⟨t',rfl⟩⟩:=ZKq r
 refine max_two_ints (I.ok.hd hc) fun h' tk k=>⟨_,H,I.kept k,?_,q⟩
 by_cases hj:j > i
 ·rw [if_pos hj,if_pos hj];exact ⟨_,rfl⟩
 ·rw [if_neg hj,if_neg hj];exact ⟨_,rfl⟩
theorem ZJJ (hc:X.calm=true):ZBt X (.builtin "min") (fun xs H Q=>∃ i j,xs=[.int i,.int j]∧Q (.int (if j<i then j else i)) H):=by
 intro pins s σ H xs us Q I r h
 obtain ⟨i,j,rfl,q⟩:=h
 obtain ⟨u,w',rfl,⟨t,rfl⟩,⟨t',rfl⟩⟩:=ZKq r
 refine min_two_ints (I.ok.hd hc) fun h' tk k=>⟨_,H,I.kept k,?_,q⟩
 by_cases hj:j<i
 ·rw [if_pos hj,if_pos hj];exact ⟨_,rfl⟩
 ·rw [if_neg hj,if_neg hj];exact ⟨_,rfl⟩
theorem ZFe:ZBt X (.type "int") (fun xs H Q=>(∃ i,xs=[.int i]∧Q (.int i) H)∨∃ k,xs=[.bl k]∧Q (.int (if k then 1 else 0)) H):=by
 intro pins s σ H xs us Q I r h
 rcases h with ⟨i,rfl,q⟩ | ⟨k,rfl,q⟩
 ·obtain ⟨u,rfl,t,rfl⟩:=ZB8 r
  exact call_int_int ⟨.int i,H,I,⟨_,rfl⟩,q⟩
 ·obtain ⟨u,rfl,r1⟩:=ZB8 r
  cases r1
  exact call_int_bool ⟨.int (if k then 1 else 0),H,I.tok _,⟨_,rfl⟩,q⟩
end
structure ObjM (h:Heap) (x dx C:Addr) (mA:Str->Option Value):Prop where
 obj:h.get? x=some (PySem.W.instObj C dx)
 ns:h.Ns1 dx mA
 ne:dx≠x
theorem ZFC {h:Heap} {dx:Addr} {mA:Str->Option Value} (n:h.Ns1 dx mA):∃ od,h.get? dx=some od∧∀ name,PySem.W.lookIn name od=some (mA name):=by
 obtain ⟨o,es,ep,ho,hd,hk,_,hm⟩:=n
 refine ⟨o,ho,fun name=>?_⟩
 have e:=hm name
 unfold nsFind findBy at e
 rw [<-Array.find?_toList] at e
 unfold PySem.W.lookIn
 rw [hd]
 dsimp only
 split
 ·rename_i y q
  rw [q] at e
  exact congrArg some e
 ·rename_i q
  rw [q] at e
  have a:es.toList.any (·.refKey)=false:=by
   rw [List.any_eq_false]
   intro y hy
   obtain ⟨z,t,hkey⟩:=hk y (Array.mem_toList_iff.mp hy)
   simp [DictEntry.refKey,hkey]
  have a':¬ es.toList.any (·.refKey)=true:=by rw [a];exact Bool.false_ne_true
  rw [if_neg a']
  exact congrArg some e
theorem ObjM.look {h:Heap} {x dx C:Addr} {mA:Str->Option Value} (I:ObjM h x dx C mA):∃ od,PySem.W.InstAt h x (PySem.W.instObj C dx) C (some od)∧∀ name,PySem.W.lookIn name od=some (mA name):=
 let ⟨od,ho,hl⟩:=ZFC I.ns
 ⟨od,⟨I.obj,rfl,rfl,ho⟩,hl⟩
section
variable {prog:Program} {w:World} {A:Around} {E:Value->Shared->Prop} {s:Shared} {K:PySem.W.Frag} {x dx C f:Addr} {mA:Str->Option Value} {name:Str} {v:Value}
theorem ZMF {expr:Bool} {Q:Value->Shared->Prop} (X:K.In s.heap) (I:ObjM s.heap x dx C mA) (hg:PySem.W.plainGet K C name=true) (hh:PySem.W.hasDictIn K C=true)
  (ha:PySem.W.findIn K (.ref C) name=some none) (hv:mA name=some v) (hv':PySem.W.handedIn v=true) (h:Q v { s with toks:=s.toks+1 }) :
  wpAny (model prog w) A (getAttr (.ref x) name expr) Q E s:=by
 obtain ⟨od,J,hl⟩:=I.look
 exact PySem.W.get_value X J (PySem.W.plainGet_of hg).1 (PySem.W.findObj_own hh ha rfl (by rw [hl,hv])) hv' h
theorem ZKo {pl:Sem Bool} {Q:Value×List Value->Shared->Prop} (X:K.In s.heap) (I:ObjM s.heap x dx C mA) (hg:PySem.W.plainGet K C name=true)
  (hf:PySem.W.findIn K (.ref C) name=some (some (.ref f))) (ht:PySem.W.isFn K (.ref f)=true) (hv:mA name=none) (h:Q (.ref f,[.ref x]) s) :
  wpAny (model prog w) A (getMethod (.ref x) name pl) Q E s:=by
 obtain ⟨od,J,hl⟩:=I.look
 exact PySem.W.method_fn X J (PySem.W.plainGet_of hg).1 (PySem.W.plainGet_of hg).2 hf (beq_iff_eq.mp ht) (by show (PySem.W.lookIn name od).map (·.isSome)=some false;rw [hl,hv];rfl) h
theorem ZLm {ns:List Str} {Q:Unit->Shared->Prop} (X:K.In s.heap) (I:ObjM s.heap x dx C mA)
  (hs:PySem.W.findIn K (.ref C) "__setattr__" = some (some (.builtin "object.__setattr__"))) (hp:PySem.W.plainOver K C=true) (ht:PySem.W.takerIn K C name=some none) (hh:PySem.W.hasDictIn K C=true)
  (hw:PySem.Within mA ns) (hsz:ns.length<=sizeLine)
  (h:∀ h',ObjM h' x dx C (fun y=>if y=name then some v else mA y)->Heap.SameBut dx s.heap h'->Q () { s with heap:=h',toks:=s.toks+2 }) :
  wpAny (model prog w) A (setAttr (.ref x) name v) Q E s:=by
 obtain ⟨od,J,hl⟩:=I.look
 refine PySem.W.set_plain X J hs (PySem.W.osa_open (s:={ s with toks:=s.toks+1 }) (r:=none) X J hp ht fun b=>?_)
 obtain ⟨cd,hc,hd'⟩:=PySem.W.any_some hh
 have hx:s.heap.get? x=some ⟨.ref C,some dx,.plain,#[]⟩:=I.obj
 refine wpAny_bind (wpAny_pure (wpAny_bind (wpAny_bind (wpAny_loadPart hx (wpAny_bind (PySem.W.Looks.here (s:={ s with toks:=s.toks+1 }) (PySem.W.looks_clsIn X hc) ?_))))))
 rw [hd']
 refine wpAny_pure (a:=some dx) (wpAny_bind (wpAny_pure (wpAny_bind ?_)))
 refine wpAny_nsSet1 (s:={ s with toks:=s.toks+1 }) I.ns fun h' hn2 hs2=>?_
 obtain ⟨oD,esD,epD,hoD,hdD,hcD⟩:=hn2.count (PySem.Within.cons name v hw)
 refine wpAny_bind (wpAny_lookBehind hoD (by rw [hdD];exact pastItsLine_dict (Nat.le_trans hcD (by rw [List.length_cons];omega))) ?_)
 exact wpAny_pure (h _ ⟨(hs2.2 _ (Ne.symm I.ne)).trans I.obj,hn2,I.ne⟩ hs2)
theorem ZKL {R:Result->Shared->Prop} {vs:List Value} {kw:List (Str×Value)} (X:K.In s.heap) (hm:PySem.W.makesIn K C=true)
  (hi:PySem.W.findIn K (.ref C) "__init__" = some (some (.ref f))) (hf:PySem.W.typeIn K (.ref f)=some (.type "function"))
  (h:codeAny (model prog w) (A.under (.builtin "type.__call__" ⟨.ref C :: vs,kw⟩)) (.call (.ref f) ⟨.ref (s.heap.objs.size+1) :: vs,kw⟩) (PySem.W.InitBack (s.heap.objs.size+1) R)
   { s with heap:=(s.heap.push PySem.W.emptyDict).push (PySem.W.instObj C s.heap.objs.size) }) :
  codeAny (model prog w) A (.call (.ref C) ⟨vs,kw⟩) R s:=by
 obtain ⟨hh,g,d,t,os⟩:=s
 exact PySem.W.make_core (PySem.W.makes_of X hm) (PySem.W.looks_findIn X hi) (fun self=>PySem.W.bind_fn X self hf) (.inl rfl) h
end
def ZCK (f:Str) (v:V):List (Str×V)->List (Str×V)
 | []=>[(f,v)]
 | (g,x) :: r=>if g=f then (g,v) :: r else (g,x) :: ZCK f v r
theorem ZDM (f g:Str) (v:V):∀ fs:List (Str×V),(ZCK f v fs).lookup g=if g=f then some v else fs.lookup g
 | []=>by
  show List.lookup g [(f,v)]=_
  by_cases h:g=f
  ·have hb:(g==f)=true:=beq_iff_eq.mpr h
   simp only [List.lookup,hb,if_pos h]
  ·have hb:(g==f)=false:=beq_eq_false_iff_ne.mpr h
   simp only [List.lookup,hb,if_neg h]
 | (k,x) :: r=>by
  have ih:=ZDM f g v r
  rw [show ZCK f v ((k,x) :: r)=(if k=f then (k,v) :: r else (k,x) :: ZCK f v r) from rfl]
  by_cases hk:k=f
  ·rw [if_pos hk]
   by_cases h:g=k
   ·have hb:(g==k)=true:=beq_iff_eq.mpr h
    simp only [List.lookup,hb,if_pos (h.trans hk)]
   ·have hb:(g==k)=false:=beq_eq_false_iff_ne.mpr h
    simp only [List.lookup,hb,if_neg (fun e:g=f=>h (e.trans hk.symm))]
  ·rw [if_neg hk]
   by_cases h:g=k
   ·have hb:(g==k)=true:=beq_iff_eq.mpr h
    simp only [List.lookup,hb,if_neg (fun e:g=f=>hk (h.symm.trans e))]
   ·have hb:(g==k)=false:=beq_eq_false_iff_ne.mpr h
    simp only [List.lookup,hb]
    exact ih
theorem ZDV (f:Str) (v:V):∀ fs:List (Str×V),f∈(ZCK f v fs).map (·.1)∧∀ g,g∈fs.map (·.1)->g∈(ZCK f v fs).map (·.1)
 | []=>⟨by simp [ZCK],fun g h=>by simp at h⟩
 | (k,x) :: r=>by
  obtain ⟨i1,i2⟩:=ZDV f v r
  rw [show ZCK f v ((k,x) :: r)=(if k=f then (k,v) :: r else (k,x) :: ZCK f v r) from rfl]
  by_cases hk:k=f
  ·rw [if_pos hk]
   subst hk
   exact ⟨by simp,fun g h=>by simpa using h⟩
  ·rw [if_neg hk]
   refine ⟨?_,fun g h=>?_⟩
   ·rw [List.map_cons]
    exact List.mem_cons_of_mem _ i1
   ·rw [List.map_cons] at h ⊢
    rcases List.mem_cons.mp h with e | e
    ·exact List.mem_cons.mpr (.inl e)
    ·exact List.mem_cons_of_mem _ (i2 g e)
theorem ZDj (f:Str) (v:V):∀ fs:List (Str×V),(ZCK f v fs).length<=fs.length+1
 | []=>by simp [ZCK]
 | (k,x) :: r=>by
  have ih:=ZDj f v r
  rw [show ZCK f v ((k,x) :: r)=(if k=f then (k,v) :: r else (k,x) :: ZCK f v r) from rfl]
  by_cases hk:k=f
  ·rw [if_pos hk,List.length_cons,List.length_cons];omega
  ·rw [if_neg hk,List.length_cons,List.length_cons];omega
theorem RelO.some_of {v:V} {o:Option Value} (r:RelO (some v) o):∃ u,o=some u∧RelV v u:=by
 cases o with
 | none=>exact (show False from r).elim
 | some u=>exact ⟨u,rfl,r⟩
theorem RelO.none_of {o:Option Value} (r:RelO none o):o=none:=by
 cases o with
 | none=>rfl
 | some u=>exact (show False from r).elim
theorem ZFI {v:V} {u:Value} (r:RelV v u):PySem.W.handedIn u=true:=by
 cases v with
 | non=>cases (show u=Value.none from r);rfl
 | bl b=>cases (show u=Value.bool b from r);rfl
 | int i=>obtain ⟨t,e⟩:=(show ∃ t,u=Value.int i t from r);cases e;rfl
 | str x=>obtain ⟨t,e⟩:=(show ∃ t,u=Value.str x t from r);cases e;rfl
 | byt b=>obtain ⟨t,e⟩:=(show ∃ t,u=Value.bytes b t from r);cases e;rfl
 | flt b=>obtain ⟨t,e⟩:=(show ∃ t,u=Value.float b t from r);cases e;rfl
 | ref a=>cases (show u=Value.ref a from r);rfl
 | ty n=>cases (show u=Value.type n from r);rfl
section
variable {P:Program} {w:World} {H H':Hp} {h h':Heap} {a C dx:Addr} {fs fs':List (Str×V)}
theorem ZEx (hok:HOk P w H h) (e:H a=some (.ins C dx fs)):∃ mA,ObjM h a dx C mA∧(∀ f,RelO (fs.lookup f) (mA f))∧PySem.Within mA (fs.map (·.1))∧fs.length<=1000∧H dx=some (.own a):=by
 obtain ⟨d,z,ne,ob,mA,n,r,q⟩:=(show ObjOk P w H h a (.ins C dx fs) from hok a _ e)
 exact ⟨mA,⟨ob,n,ne⟩,r,q,z,d⟩
end
structure Cls (K:PySem.W.Frag) (C:Addr):Prop where
 pg:PySem.W.plainGet K C Str.empty=true
 hd:PySem.W.hasDictIn K C=true
 po:PySem.W.plainOver K C=true
 sa:PySem.W.findIn K (.ref C) "__setattr__" = some (some (.builtin "object.__setattr__"))
theorem Cls.get {K:PySem.W.Frag} {C:Addr} (c:Cls K C) (f:Str):PySem.W.plainGet K C f=true:=c.pg
def NoAttr (K:PySem.W.Frag) (C:Addr) (f:Str):Prop:=PySem.W.findIn K (.ref C) f=some none
theorem NoAttr.taker {K:PySem.W.Frag} {C:Addr} {f:Str} (n:NoAttr K C f):PySem.W.takerIn K C f=some none:=by
 unfold PySem.W.takerIn
 rw [show PySem.W.findIn K (.ref C) f=some none from n]
 rfl
structure Meth (K:PySem.W.Frag) (C:Addr) (m:Str) (f:Addr):Prop where
 at_:PySem.W.findIn K (.ref C) m=some (some (.ref f))
 fn:PySem.W.isFn K (.ref f)=true
 kp:PySem.W.keepIn K (.ref f)=true
section
variable {X:Cx} {pins:List (Addr×Obj)} {σ:St} {H:Hp} {s:Shared} {a C dx:Addr} {fs:List (Str×V)} {f:Str} {v:V} {A:Around} {E:Value->Shared->Prop}
theorem ZDv {b:Bool} {Q:Value->Shared->Prop} (I:Inv X pins σ H s) (e:H a=some (.ins C dx fs)) (c:Cls X.K C) (n:NoAttr X.K C f) (l:fs.lookup f=some v)
  (h:∀ u s',Inv X pins σ H s'->RelV v u->Q u s'):wpAny (model X.prog X.w) A (getAttr (.ref a) f b) Q E s:=by
 obtain ⟨mA,O,r,_,_,_⟩:=ZEx I.hok e
 obtain ⟨u,hu,ru⟩:=RelO.some_of (v:=v) (o:=mA f) (by rw [<-l];exact r f)
 exact ZMF I.kIn O (c.get f) c.hd n hu (ZFI ru) (h u _ (I.tok _) ru)
theorem ZCk {m:Str} {g:Addr} {pl:Sem Bool} {Q:Value×List Value->Shared->Prop} (I:Inv X pins σ H s) (e:H a=some (.ins C dx fs)) (c:Cls X.K C) (k:Meth X.K C m g) (l:fs.lookup m=none)
  (h:Q (.ref g,[.ref a]) s):wpAny (model X.prog X.w) A (getMethod (.ref a) m pl) Q E s:=by
 obtain ⟨mA,O,r,_,_,_⟩:=ZEx I.hok e
 have hn:mA m=none:=RelO.none_of (by rw [<-l];exact r m)
 exact ZKo I.kIn O (c.get m) k.at_ k.fn hn h
theorem ZD4 {y:V} {u:Value} {Q:Unit->Shared->Prop} (I:Inv X pins σ H s) (e:H a=some (.ins C dx fs)) (c:Cls X.K C) (n:NoAttr X.K C f) (hl:fs.length<1000) (ry:RelV y u)
  (h:∀ s',Inv X pins σ (upd H a (.ins C dx (ZCK f y fs))) s'->Q () s'):wpAny (model X.prog X.w) A (setAttr (.ref a) f u) Q E s:=by
 obtain ⟨mA,O,r,wi,_,ho⟩:=ZEx I.hok e
 have hz:(fs.map (·.1)).length<=sizeLine:=by rw [List.length_map,sizeLine_eq];omega
 refine ZLm I.kIn O c.sa c.po n.taker c.hd wi hz fun h' O' sb=>h _ ?_
 have hd:∃ o,h'.get? dx=some o:=let ⟨o,_,_,e',_⟩:=O'.ns;⟨o,e'⟩
 refine I.write (x:=a) (e:=dx) (by rw [e];exact True.intro) (.inr ho) (fun b q hb z=>(sb.2 b hb).trans z) hd ?_
 refine ⟨by rw [ZAG O.ne];exact ho,?_,O.ne,O'.obj,_,O'.ns,fun g=>?_,fun g hg=>?_⟩
 ·have:=ZDj f y fs;omega
 ·show RelO ((ZCK f y fs).lookup g) (if g=f then some u else mA g)
  rw [ZDM]
  by_cases q:g=f
  ·rw [if_pos q,if_pos q];exact ry
  ·rw [if_neg q,if_neg q];exact r g
 ·by_cases q:g=f
  ·rw [q];exact (ZDV f y fs).1
  ·refine (ZDV f y fs).2 g (wi g fun z=>hg ?_)
   show (if g=f then some u else mA g)=none
   rw [if_neg q];exact z
theorem Inv.made (I:Inv X pins σ H s):Inv X pins σ (upd (upd H s.heap.objs.size (.own (s.heap.objs.size+1))) (s.heap.objs.size+1) (.ins C s.heap.objs.size []))
  { s with heap:=(s.heap.push PySem.W.emptyDict).push (PySem.W.instObj C s.heap.objs.size) }:=by
 have e1:(s.heap.push PySem.W.emptyDict).get? s.heap.objs.size=some PySem.W.emptyDict:=Heap.get?_push_size s.heap rfl
 have e2:((s.heap.push PySem.W.emptyDict).push (PySem.W.instObj C s.heap.objs.size)).get? (s.heap.objs.size+1)=some (PySem.W.instObj C s.heap.objs.size):=by
  have:=Heap.get?_push_size (s.heap.push PySem.W.emptyDict) (o:=PySem.W.instObj C s.heap.objs.size) rfl
  rwa [Heap.size_push] at this
 have e3:(s.heap.push PySem.W.emptyDict).Ns s.heap.objs.size (fun _=>none):=⟨PySem.W.emptyDict,#[],_,e1,rfl,(fun e he=>absurd he (by simp)),fun _=>rfl⟩
 have I1:=I.laid (a:=s.heap.objs.size) (o:=.own (s.heap.objs.size+1)) (h':=s.heap.push PySem.W.emptyDict) (t':=s.toks) (fun b u q=>Heap.get?_push_of_some _ q) (Nat.le_refl _) ⟨_,e1⟩
 refine I1.laid (a:=s.heap.objs.size+1) (o:=.ins C s.heap.objs.size []) (t':=s.toks) (fun b u q=>Heap.get?_push_of_some _ q) (Nat.le_of_eq (Heap.size_push _ _)) ?_
 have ne:s.heap.objs.size≠s.heap.objs.size+1:=Nat.ne_of_lt (Nat.lt_succ_self _)
 refine ⟨by rw [ZAG ne,ZAA],Nat.zero_le _,ne,e2,fun _=>none,(Heap.Ns1.of_empty e3).at fun o q=>Heap.get?_push_of_some _ q,fun _=>True.intro,fun y hy=>absurd rfl hy⟩
theorem ZIO {prog:Program} {w:World} {env:Env} {e:Expr} {f:Str} {pos:Pos} {s:Shared} {Q:Value->Shared->Prop} (hb:attributeBase e f env (eval e env)=eval e env)
  (h:wpAny (model prog w) A (eval e env) (fun o s₁=>wpAny (model prog w) A (getAttr o f true) Q E s₁) E s):wpAny (model prog w) A (eval (.Attribute e f pos) env) Q E s:=
 Attribute_any_ h (by rw [arm_eval_Attribute,hb])
end
def ZPb (K:PySem.W.Frag) (ta:TE) (f:Str):TE:=fun σ H Q=>ta σ H fun x H1=>∃ a C dx fs v,x=.ref a∧H1 a=some (.ins C dx fs)∧Cls K C∧NoAttr K C f∧fs.lookup f=some v∧Q v H1
def ZPV (K:PySem.W.Frag) (ta tv:TE) (f:Str):TS:=fun D σ H=>tv σ H fun y H1=>ta σ H1 fun x H2=>∃ a C dx fs,x=.ref a∧H2 a=some (.ins C dx fs)∧Cls K C∧NoAttr K C f∧fs.length<1000 ∧
 D.nx σ (upd H2 a (.ins C dx (ZCK f y fs)))
def ZO1 (X:Cx) (op:Operator) (rd:V->V->Hp->VK->Prop):Prop:=
 ∀ (pins:List (Addr×Obj)) (s:Shared) (σ:St) (H:Hp) (x y:V) (u v:Value) (Q:VK),Inv X pins σ H s->RelV x u->RelV y v->rd x y H Q->wpAny (model X.prog X.w) X.A (inplaceOp op u v) (EP X pins σ Q) X.xe s
def ZLd (K:PySem.W.Frag) (ta tv:TE) (rd:V->V->Hp->VK->Prop) (f:Str):TS:=fun D σ H=>ta σ H fun x H1=>∃ a C dx fs v,x=.ref a∧H1 a=some (.ins C dx fs)∧Cls K C∧NoAttr K C f∧fs.lookup f=some v ∧
 tv σ H1 fun y H2=>rd v y H2 fun z H3=>∃ dx' fs',H3 a=some (.ins C dx' fs')∧fs'.length<1000∧D.nx σ (upd H3 a (.ins C dx' (ZCK f z fs')))
section
variable {X:Cx} {o e value:Expr} {f:Str} {pos pos' tpos:Pos} {ta tv:TE}
theorem ZBG (he:PE X e ta) (hb:attributeBase e f X.env (eval e X.env)=eval e X.env):PE X (.Attribute e f pos) (ZPb X.K ta f):=by
 intro pins s σ H Q I h
 refine ZIO hb (thn (he pins s σ H _ I h) fun u s1 ⟨x,H1,I1,rx,a,C,dx,fs,v,ex,ea,c,n,l,q⟩=>?_)
 subst ex
 obtain rfl:u=Value.ref a:=rx
 exact ZDv I1 ea c n l fun u' s2 I2 ru=>⟨v,H1,I2,ru,q⟩
theorem ZCR (ha:PE X o ta) (hv:PE X value tv) (hs:swapsWith value (some (.Attribute o f pos')) pos.line X.env=pure false):PS X (.Assign [.Attribute o f pos'] value pos) (ZPV X.K ta tv f):=by
 intro pins s σ H D I h
 refine plainObj_wpAny_Assign_Attribute (thn (hv pins s σ H _ I h) fun u s1 ⟨y,H1,I1,ry,q⟩=>thn (ha pins s1 σ H1 _ I1 q) fun ov s2 ⟨x,H2,I2,rx,a,C,dx,fs,ex,ea,c,n,l,q2⟩=>?_) hs
 subst ex
 obtain rfl:ov=Value.ref a:=rx
 exact ZD4 I2 ea c n l ry fun s3 I3=>⟨σ,_,I3,q2⟩
theorem ZIs {op:Operator} {rd:V->V->Hp->VK->Prop} (ha:PE X o ta) (hv:PE X value tv) (hop:ZO1 X op rd):PS X (.AugAssign (.Attribute o f tpos) op value pos) (ZLd X.K ta tv rd f):=by
 intro pins s σ H D I h
 refine wpAny_AugAssign_AttributeAny (thn (ha pins s σ H _ I h) fun ov s1 ⟨x,H1,I1,rx,a,C,dx,fs,v,ex,ea,c,n,l,q⟩=>?_)
 subst ex
 obtain rfl:ov=Value.ref a:=rx
 refine ZDv I1 ea c n l fun u s2 I2 ru=>thn (hv pins s2 σ H1 _ I2 q) fun w3 s3 ⟨y,H2,I3,ry,q3⟩=>thn (hop pins s3 σ H2 v y u w3 _ I3 ru ry q3) fun w4 s4 ⟨z,H3,I4,rz,dx',fs',ea',l',q4⟩=>?_
 exact ZD4 I4 ea' c n l' rz fun s5 I5=>⟨σ,_,I5,q4⟩
def ZPT:V->V->Hp->VK->Prop:=fun x y H Q=>∃ i j,x=.int i∧y=.int j∧Q (.int (i - j)) H
theorem ZM0:ZO1 X .Sub ZPT:=by
 rintro pins s σ H x y u v Q I rx ry ⟨i,j,rfl,rfl,q⟩
 obtain ⟨t,rfl⟩:=(show ∃ t,u=Value.int i t from rx)
 obtain ⟨t',rfl⟩:=(show ∃ t',v=Value.int j t' from ry)
 exact PyProof.Rows.isub_int ⟨.int (i - j),H,I.tok _,⟨_,rfl⟩,q⟩
end
section
variable {X:Cx} {pins:List (Addr×Obj)} {σ:St} {H:Hp} {s:Shared} {A:Around} {E:Value->Shared->Prop} {Q:Value->Shared->Prop} {c:Value} {b:Bool}
inductive TyOf (K:PySem.W.Frag) (H:Hp):V->Value->Prop where
 | non:TyOf K H .non (.type "NoneType")
 | bl (x:Bool):TyOf K H (.bl x) (.type "bool")
 | int (i:Int):TyOf K H (.int i) (.type "int")
 | str (x:Str):TyOf K H (.str x) (.type "str")
 | flt (x:UInt64):TyOf K H (.flt x) (.type "float")
 | lst {a:Addr} {xs:List V} (e:H a=some (.lst xs)):TyOf K H (.ref a) (.type "list")
 | frz {a:Addr} {o:Obj} {xs:List V} (e:H a=some (.frz o (.lst xs))):TyOf K H (.ref a) (.type "list")
 | tup {a:Addr} {xs:List V} (e:H a=some (.tup xs)):TyOf K H (.ref a) (.type "tuple")
 | dK {a:Addr} {kvs:List (Key×V)} (e:H a=some (.dK kvs)):TyOf K H (.ref a) (.type "dict")
 | dT {a:Addr} {kvs:List (List Key×V)} (e:H a=some (.dT kvs)):TyOf K H (.ref a) (.type "dict")
 | ins {a C dx:Addr} {fs:List (Str×V)} (e:H a=some (.ins C dx fs)) (cl:Cls K C) (ha:PySem.W.findIn K (.ref C) "__class__" = some (some (.builtin "object.__class__")))
   (hn:PySem.W.specialIn K (.builtin "object.__class__") "__get__" = some (some (.builtin "getset_descriptor.__get__"))) (htk:PySem.W.takesIn K (.builtin "object.__class__")=some true)
   (hm:PySem.W.mroIn K C (.type "object")=some true):TyOf K H (.ref a) (.ref C)
theorem ZIn {x:V} {u t:Value} (I:Inv X pins σ H s) (rx:RelV x u) (ty:TyOf X.K H x t) (e:PySem.W.kitOne X.K t c=some b) (h:∀ tk,Q (.bool b) { s with toks:=tk }) :
  wpAny (model X.prog X.w) A (call (.builtin "isinstance") [u,c]) Q E s:=by
 cases ty with
 | non=>cases (show u=Value.none from rx);exact PySem.W.kia_one PySem.W.kitx_none I.kIn True.intro e (fun z=>nomatch z) h
 | bl y=>cases (show u=Value.bool y from rx);exact PySem.W.kia_one PySem.W.kitx_bool I.kIn True.intro e (fun z=>nomatch z) h
 | int i=>obtain ⟨t,q⟩:=(show ∃ t,u=Value.int i t from rx);cases q;exact PySem.W.kia_one PySem.W.kitx_int I.kIn True.intro e (fun z=>nomatch z) h
 | str y=>obtain ⟨t,q⟩:=(show ∃ t,u=Value.str y t from rx);cases q;exact PySem.W.kia_one PySem.W.kitx_str I.kIn True.intro e (fun z=>nomatch z) h
 | flt y=>obtain ⟨t,q⟩:=(show ∃ t,u=Value.float y t from rx);cases q;exact PySem.W.kia_one PySem.W.kitx_float I.kIn True.intro e (fun z=>nomatch z) h
 | @lst a xs ea=>
  cases (show u=Value.ref a from rx)
  obtain ⟨_,_,n,_,h1⟩:=(show ObjOk X.prog X.w H s.heap a (.lst xs) from I.hok a _ ea)
  exact PySem.W.kia_one PySem.W.kitx_list I.kIn ⟨_,h1,rfl⟩ e (fun z=>nomatch z) h
 | @frz a ob xs ea=>
  cases (show u=Value.ref a from rx)
  obtain ⟨_,_,_,n,_,h1⟩:=(show ObjOk X.prog X.w H s.heap a (.frz ob (.lst xs)) from I.hok a _ ea)
  exact PySem.W.kia_one PySem.W.kitx_list I.kIn ⟨_,h1,rfl⟩ e (fun z=>nomatch z) h
 | @tup a xs ea=>
  cases (show u=Value.ref a from rx)
  obtain ⟨_,_,_,p⟩:=(show ObjOk X.prog X.w H s.heap a (.tup xs) from I.hok a _ ea)
  obtain ⟨o,h1,h2,_⟩:=p
  exact PySem.W.kia_one PySem.W.kitx_tuple I.kIn ⟨o,h1,h2⟩ e (fun z=>nomatch z) h
 | @dK a kvs ea=>
  cases (show u=Value.ref a from rx)
  obtain ⟨_,_,vs,_,p⟩:=(show ObjOk X.prog X.w H s.heap a (.dK kvs) from I.hok a _ ea)
  obtain ⟨o,es,ep,h1,h2,_⟩:=p
  exact PySem.W.kia_one PySem.W.kitx_dict I.kIn ⟨o,h1,h2.1⟩ e (fun z=>nomatch z) h
 | @dT a kvs ea=>
  cases (show u=Value.ref a from rx)
  obtain ⟨_,_,xs,_,o,es,ep,h1,h2,_⟩:=(show ObjOk X.prog X.w H s.heap a (.dT kvs) from I.hok a _ ea)
  exact PySem.W.kia_one PySem.W.kitx_dict I.kIn ⟨o,h1,h2.1⟩ e (fun z=>nomatch z) h
 | @ins a C dx fs ea cl ha hn htk hm=>
  cases (show u=Value.ref a from rx)
  obtain ⟨mA,O,_⟩:=ZEx I.hok ea
  obtain ⟨od,J,_⟩:=O.look
  exact PySem.W.kia_one (PySem.W.kitx_own (cl.get _) cl.hd ha hn htk hm) I.kIn J e (fun z=>nomatch z) h
end
structure Room (k:Nat) (A:Around):Prop where
 hd:A.handled=none
 dp:A.depth+3 * k+5<recursionLimit
 un:A.units+16 * k+200<cLine
theorem Room.mono {j k:Nat} {A:Around} (r:Room k A) (h:j<=k):Room j A:=⟨r.hd,by have:=r.dp;omega,by have:=r.un;omega⟩
theorem Room.deeper {k:Nat} {A:Around} (r:Room (k+1) A) (env:Env):Room k (A.deeper env):=
 ⟨r.hd,by have:=r.dp;show A.depth+1+3 * k+5<_;omega,by have:=r.un;show A.units+3+16 * k+200<_;omega⟩
theorem Room.in1 {k:Nat} {A:Around} (r:Room (k+1) A):Room k A.in1:=
 ⟨r.hd,by have:=r.dp;show A.depth+3 * k+5<_;omega,by have:=r.un;show A.units+1+16 * k+200<_;omega⟩
theorem ZHR {A:Around} {C:Addr} {us:List Value} {kw:List (Str×Value)}:(A.under (.builtin "type.__call__" ⟨.ref C :: us,kw⟩)).depth=A.depth+1:=by
 first | rfl | simp [Around.under,Code.weight,Code.isCreation,Code.isGuard,Code.isCaller,Code.frames,Code.isFrame,guardIds]
theorem ZHH {A:Around} {C:Addr} {us:List Value} {kw:List (Str×Value)}:(A.under (.builtin "type.__call__" ⟨.ref C :: us,kw⟩)).units=A.units+1:=by
 first | rfl | simp [Around.under,Code.cUnits,Code.frames,Code.isFrame]
theorem Room.make {k:Nat} {A:Around} (r:Room (k+1) A) (C:Addr) (us:List Value) (kw:List (Str×Value)):Room k (A.under (.builtin "type.__call__" ⟨.ref C :: us,kw⟩)):=
 ⟨r.hd,by have:=r.dp;rw [ZHR];omega,by have:=r.un;rw [ZHH];omega⟩
theorem Room.depth {k:Nat} {A:Around} (r:Room k A):A.depth<recursionLimit:=by have:=r.dp;omega
theorem Room.units {k:Nat} {A:Around} (r:Room k A):A.units+64<cLine:=by have:=r.un;omega
theorem Room.units0 {k:Nat} {A:Around} (r:Room k A):A.units<cLine:=by have:=r.un;omega
def ZHO:TA:=fun _ H Q=>Q [] H
def ZBT (ta:TE) (tr:TA):TA:=fun σ H Q=>ta σ H fun x H1=>tr σ H1 fun xs H2=>Q (x :: xs) H2
section
variable {X:Cx} {e:Expr} {es:List Expr} {te:TE} {t:TA} {pos:Pos}
theorem ZAC:PA X [] ZHO:=fun _ _ _ _ H Q I h=>Calls.spliced_nil ⟨[],H,I,.nil,h⟩
theorem ZAL (ha:PE X e te) (hr:PA X es t) (hs:starEach (e :: es) X.env=(false,eval e X.env) :: starEach es X.env:=by rfl):PA X (e :: es) (ZBT te t):=by
 intro pos pins s σ H Q I h
 rw [hs]
 show wpAny _ _ (spliced ((false,eval e X.env) :: backTo pos (starEach es X.env))) _ _ s
 refine Calls.spliced_cons (thn (ha pins s σ H _ I h) fun u s1 ⟨x,H1,I1,r1,q1⟩=>?_)
 exact thn (hr pos pins s1 σ H1 _ I1 q1) fun us s2 ⟨xs,H2,I2,r2,q2⟩=>⟨x :: xs,H2,I2,.cons r1 r2,q2⟩
def ZPX (t:TA):TE:=fun σ H Q=>t σ H fun xs H1=>xs.length<=sizeLine∧∀ p,H1 p=none->Q (.ref p) (upd H1 p (.tup xs))
def ZPL (t:TA):TE:=fun σ H Q=>t σ H fun xs H1=>xs.length<=sizeLine∧∀ p,H1 p=none->Q (.ref p) (upd H1 p (.lst xs))
theorem ZAk {x1} (h:PA X es t):PE X (.Tuple es x1 pos) (ZPX t):=by
 intro pins s σ H Q I hq
 refine wpAny_Tuple_spliced (thn (h pos pins s σ H _ I hq) fun us s1 ⟨xs,H1,I1,r,z,q⟩=>⟨by rw [<-r.length];exact z,?_⟩)
 have hf:H1 s1.heap.objs.size=none:=I1.hok.fresh (Nat.le_refl _)
 refine ⟨.ref s1.heap.objs.size,upd H1 s1.heap.objs.size (.tup xs),I1.laid (t':=s1.toks) (fun b u e=>Heap.get?_push_of_some _ e) (Nat.le_refl _) ?_,rfl,q _ hf⟩
 exact ⟨z,us,r,⟨_,Heap.get?_push_size _ rfl,rfl,_,rfl⟩⟩
theorem ZAx (h:PA X es t):PE X (.List es pos) (ZPL t):=by
 intro pins s σ H Q I hq
 refine wpAny_List_spliced (thn (h pos pins s σ H _ I hq) fun us s1 ⟨xs,H1,I1,r,z,q⟩=>⟨by rw [<-r.length];exact z,?_⟩)
 have hf:H1 s1.heap.objs.size=none:=I1.hok.fresh (Nat.le_refl _)
 refine ⟨.ref s1.heap.objs.size,upd H1 s1.heap.objs.size (.lst xs),I1.laid (t':=s1.toks) (fun b u e=>Heap.get?_push_of_some _ e) (Nat.le_refl _) ?_,rfl,q _ hf⟩
 exact ⟨z,us,0,r,Heap.get?_push_size _ rfl⟩
end
abbrev Sp:=List V->Hp->VK->XK->Prop
abbrev CXT:=List Env->Hp->Shared->XK->Value->Shared->Prop
structure Env0 (P:Program) (w:World) (K:PySem.W.Frag) (mg:Str->Option Value) (base:Heap) (A:Around) (outer:List Env) (s:Shared) (H:Hp):Prop where
 frames:A.frames=some outer
 mod:Mod K mg base
 bs:∀ b o,base.get? b=some o->s.heap.get? b=some o∧H b=none
 bsz:base.objs.size<=s.heap.objs.size
 funs:s.heap.FunFrames base outer
 frf:∀ b∈frs outer,H b=none
 hok:HOk P w H s.heap
 bare:AllBare s.gens
def CE (outer:List Env) (P:Program) (w:World) (H:Hp) (s:Shared) (Q:VK) (u:Value) (s':Shared):Prop:=
 ∃ v H',s'.os=s.os∧AllBare s'.gens∧Un (frs outer) [] H H' s.heap s'.heap∧HOk P w H' s'.heap∧RelV v u∧Q v H'
def CR (CX:CXT) (outer:List Env) (P:Program) (w:World) (H:Hp) (s:Shared) (Q:VK) (E:XK) (r:Result) (s':Shared):Prop:=
 match r with
 | .ok (.ret u)=>CE outer P w H s Q u s'
 | .ok _=>False
 | .error e=>CX outer H s E e s'
structure FnOk (P:Program) (w:World) (K:PySem.W.Frag) (mg:Str->Option Value) (base:Heap) (CX:CXT) (k:Nat) (f:Addr) (fd:FuncData) (ps:List Str) (sp:Sp):Prop where
 len:∀ vs H Q E,sp vs H Q E->vs.length=ps.length
 run:∀ (A:Around) (outer:List Env) (s:Shared) (H:Hp) (args:Args) (us:List Value) (vs:List V) (Q:VK) (E:XK),Room k A->Env0 P w K mg base A outer s H->BindsTo s fd args (ps.zip us)->Vals vs us->sp vs H Q E ->
  codeAny (model P w) A (.call (.ref f) args) (CR CX outer P w H s Q E) s
theorem Env0.make {P:Program} {w:World} {K:PySem.W.Frag} {mg:Str->Option Value} {base:Heap} {A:Around} {outer:List Env} {s:Shared} {H:Hp} (e:Env0 P w K mg base A outer s H) (C:Addr) (us:List Value) (kw:List (Str×Value)) :
  Env0 P w K mg base (A.under (.builtin "type.__call__" ⟨.ref C :: us,kw⟩)) outer s H:=⟨by first | exact e.frames | (simpa [Around.under,Code.envs,Code.isFrame,pushEnvs] using e.frames),e.mod,e.bs,e.bsz,e.funs,e.frf,e.hok,e.bare⟩
section
variable {X:Cx} {pins:List (Addr×Obj)} {σ:St} {H:Hp} {s s':Shared}
theorem Inv.env0 (I:Inv X pins σ H s):Env0 X.prog X.w X.K X.mg X.base X.A X.stack s H:=
 ⟨I.ok.frames,I.ok.mod,I.bs,Nat.le_trans I.ok.bsz I.sz,I.stack,I.stkFree,I.hok,I.bare⟩
theorem Inv.after {Q:VK} {u:Value} (I:Inv X pins σ H s) (h:CE X.stack X.prog X.w H s Q u s'):EP X pins σ Q u s':=by
 obtain ⟨v,H',os,bare,un,hok,r,q⟩:=h
 obtain ⟨hh,g,d,t,os'⟩:=s'
 obtain rfl:os'=s.os:=os
 exact ⟨v,H',I.call (h':=hh) (g':=g) (d':=d) (t':=t) (ch:=[]) un hok bare (fun b z=>absurd z (by simp)),r,q⟩
end
def ZMA (sp:Sp) (dvs:List V) (E:XK) (t:TA):TE:=fun σ H Q=>t σ H fun vs H1=>sp (vs++dvs) H1 Q E
def ZKi (C:Addr) (m:Str) (sp:Sp) (dvs:List V) (E:XK) (ta:TE) (t:TA):TE:=fun σ H Q=>ta σ H fun x H1=>∃ a dx fs,x=.ref a∧H1 a=some (.ins C dx fs)∧fs.lookup m=none ∧
 t σ H1 fun vs H2=>sp (x :: (vs++dvs)) H2 Q E
def ZJx (C:Addr) (sp:Sp) (dvs:List V) (E:XK) (t:TA):TE:=fun σ H Q=>t σ H fun vs H1=>∀ x dx,H1 x=none->H1 dx=none->dx≠x ->
 sp (.ref x :: (vs++dvs)) (upd (upd H1 dx (.own x)) x (.ins C dx [])) (fun v H2=>v=.non∧Q (.ref x) H2) E
def Binds (K:PySem.W.Frag) (fd:FuncData) (ps:List Str) (ds:List Value):Prop:=
 ∀ (s:Shared) (us:List Value),K.In s.heap->(us++ds).length=ps.length->BindsTo s fd ⟨us,[]⟩ (ps.zip (us++ds))
theorem Binds.all {K:PySem.W.Frag} {fd:FuncData} {ps:List Str} (h:∀ us:List Value,us.length=ps.length->bindArgs fd ⟨us,[]⟩=pure (ps.zip us)):Binds K fd ps []:=fun s us _ hl=>by
 rw [List.append_nil] at hl ⊢
 exact .of_eq (h us hl)
def ZBP (CX:CXT) (X:Cx) (E:XK):Prop:=∀ (pins:List (Addr×Obj)) (σ:St) (H:Hp) (s:Shared) (e:Value) (s':Shared),Inv X pins σ H s->CX X.stack H s E e s'->X.xe e s'
section
variable {X:Cx} {CX:CXT} {k:Nat} {f C:Addr} {fd:FuncData} {ps:List Str} {sp:Sp} {dvs:List V} {ds:List Value} {E:XK} {x m:Str} {p pos apos:Pos} {e o:Expr} {es:List Expr} {ta:TE} {t:TA}
theorem ZHr {pins:List (Addr×Obj)} {σ:St} {H:Hp} {s:Shared} {Q:VK} {us:List Value} {vs:List V} (F:FnOk X.prog X.w X.K X.mg X.base CX k f fd ps sp) (hr:Room k X.A) (hb:Binds X.K fd ps ds) (hd:Vals dvs ds) (hx:ZBP CX X E)
  (I:Inv X pins σ H s) (r:Vals vs us) (h:sp (vs++dvs) H Q E):wpAny (model X.prog X.w) X.A (call (.ref f) us) (EP X pins σ Q) X.xe s:=by
 have r2:Vals (vs++dvs) (us++ds):=r.append hd
 have hl:(us++ds).length=ps.length:=by rw [<-r2.length];exact F.len _ _ _ _ h
 refine wpAny_call (codeAny_mono (F.run X.A X.stack s H ⟨us,[]⟩ (us++ds) (vs++dvs) Q E hr I.env0 (hb s us I.kIn hl) r2 h) fun r s' hq=>?_)
 cases r with
 | error e=>exact hx pins σ H s e s' I hq
 | ok fl=>
  cases fl with
  | ret u=>exact I.after hq
  | next=>exact False.elim hq
  | brk=>exact False.elim hq
  | cont=>exact False.elim hq
theorem ZJD (F:FnOk X.prog X.w X.K X.mg X.base CX k f fd ps sp) (hr:Room k X.A) (hg:Gl X x) (hm:X.mg x=some (.ref f)) (hk:PySem.W.keepIn X.K (.ref f)=true) (hb:Binds X.K fd ps ds) (hd:Vals dvs ds) (hx:ZBP CX X E)
  (ha:PA X (e :: es) t) (hdb:(x==("__debug__" : Str))=false:=by decide) (he:starEach (e :: es) X.env=(false,eval e X.env) :: starEach es X.env:=by rfl) (hpl:(backTo pos (starEach es X.env)).any (·.1)=false:=by rfl) :
  PE X (.Call (.Name x p) (e :: es) [] pos) (ZMA sp dvs E t):=by
 intro pins s σ H Q I h
 refine wpAny_Call_Name_kw (ZBs I hg hm ?_ hdb)
 refine PySem.W.callWith_K (h₀:=X.base) I.ok.mod.kin hk (thn (ha pos pins s σ H _ I h) fun us s1 ⟨vs,H1,I1,r,q⟩=>⟨I1.kIn,?_⟩) he hpl
 exact ZHr F hr hb hd hx I1 r q
theorem ZMa {pl:Sem Bool} (he:PE X o ta) (c:Cls X.K C) (hm:Meth X.K C m f) (F:FnOk X.prog X.w X.K X.mg X.base CX k f fd ps sp) (hr:Room k X.A) (hb:Binds X.K fd ps ds) (hd:Vals dvs ds) (hx:ZBP CX X E) (ha:PA X (e :: es) t)
  (hst:starEach (e :: es) X.env=(false,eval e X.env) :: starEach es X.env:=by rfl) (hpl:(backTo pos (starEach es X.env)).any (·.1)=false:=by rfl)
  (ht:eval (.Call (.Attribute o m apos) (e :: es) [] pos) X.env=(do
   let ov<-eval o X.env
   standAt apos.atName
   let (f,first)<-holding [ov] (getMethod ov m pl)
   callWith pos f first (backTo pos (starEach (e :: es) X.env)) (backToKw pos (keywordEach [] X.env))):=by rfl) :
  PE X (.Call (.Attribute o m apos) (e :: es) [] pos) (ZKi C m sp dvs E ta t):=by
 intro pins s σ H Q I h
 refine PySem.W.methodCall_KW (pl:=pl) (thn (he pins s σ H _ I h) fun u s1 ⟨x,H1,I1,rx,a,dx,fs,ex,ea,l,q⟩=>?_) ht
 subst ex
 obtain rfl:u=Value.ref a:=rx
 refine ZCk I1 ea c hm l ?_
 refine PySem.W.callWith_K (first:=[.ref a]) (h₀:=X.base) I.ok.mod.kin hm.kp (thn (ha pos pins s1 σ H1 _ I1 q) fun us s2 ⟨vs,H2,I2,r,q2⟩=>⟨I2.kIn,?_⟩) hst hpl
 exact ZHr (us:=.ref a :: us) (vs:=.ref a :: vs) F hr hb hd hx I2 (.cons rfl r) q2
theorem ZKE {pl:Sem Bool} (he:PE X o ta) (c:Cls X.K C) (hm:Meth X.K C m f) (F:FnOk X.prog X.w X.K X.mg X.base CX k f fd ps sp) (hr:Room k X.A) (hb:Binds X.K fd ps ds) (hd:Vals dvs ds) (hx:ZBP CX X E)
  (ht:eval (.Call (.Attribute o m apos) [] [] pos) X.env=(do
   let ov<-eval o X.env
   standAt apos.atName
   let (f,first)<-holding [ov] (getMethod ov m pl)
   callWith pos f first (backTo pos (starEach [] X.env)) (backToKw pos (keywordEach [] X.env))):=by rfl) :
  PE X (.Call (.Attribute o m apos) [] [] pos) (ZKi C m sp dvs E ta ZHO):=by
 intro pins s σ H Q I h
 refine PySem.W.methodCall_KW (pl:=pl) (thn (he pins s σ H _ I h) fun u s1 ⟨x,H1,I1,rx,a,dx,fs,ex,ea,l,q⟩=>?_) ht
 subst ex
 obtain rfl:u=Value.ref a:=rx
 refine ZCk I1 ea c hm l ?_
 exact PySem.W.callWith_K0 (first:=[.ref a]) I1.kIn hm.kp (ZHr (us:=[.ref a]) (vs:=[.ref a]) F hr hb hd hx I1 (.cons rfl .nil) q)
structure Mk (K:PySem.W.Frag) (C f:Addr):Prop where
 makes:PySem.W.makesIn K C=true
 init:PySem.W.findIn K (.ref C) "__init__" = some (some (.ref f))
 fn:PySem.W.isFn K (.ref f)=true
 kp:PySem.W.keepIn K (.ref C)=true
theorem ZGn {pins:List (Addr×Obj)} {σ:St} {H:Hp} {s:Shared} {Q:VK} {us:List Value} {vs:List V} (M:Mk X.K C f) (F:FnOk X.prog X.w X.K X.mg X.base CX k f fd ps sp) (hr:Room (k+1) X.A) (hb:Binds X.K fd ps ds) (hd:Vals dvs ds)
  (hx:ZBP CX X E) (I:Inv X pins σ H s) (r:Vals vs us)
  (h:∀ x dx,H x=none->H dx=none->dx≠x->sp (.ref x :: (vs++dvs)) (upd (upd H dx (.own x)) x (.ins C dx [])) (fun v H2=>v=.non∧Q (.ref x) H2) E) :
  wpAny (model X.prog X.w) X.A (call (.ref C) us) (EP X pins σ Q) X.xe s:=by
 have hq:=h (s.heap.objs.size+1) s.heap.objs.size (I.hok.fresh (Nat.le_succ _)) (I.hok.fresh (Nat.le_refl _)) (Nat.ne_of_lt (Nat.lt_succ_self _))
 have I2:=Inv.made (C:=C) I
 have r2:Vals (V.ref (s.heap.objs.size+1) :: (vs++dvs)) (Value.ref (s.heap.objs.size+1) :: (us++ds)):=.cons rfl (r.append hd)
 have hl:(Value.ref (s.heap.objs.size+1) :: us++ds).length=ps.length:=by
  have e:=r2.length
  rw [F.len _ _ _ _ hq] at e
  exact e.symm
 refine wpAny_call (ZKL (f:=f) I.kIn M.makes M.init (beq_iff_eq.mp M.fn) (codeAny_mono (F.run _ X.stack _ _ ⟨Value.ref (s.heap.objs.size+1) :: us,[]⟩ (Value.ref (s.heap.objs.size+1) :: (us++ds)) _ _ E (hr.make C us [])
  (I2.env0.make C us []) (hb _ (Value.ref (s.heap.objs.size+1) :: us) I2.kIn hl) r2 hq) fun r s' hq'=>?_))
 cases r with
 | error e=>exact hx pins σ _ _ e s' I2 hq'
 | ok fl=>
  cases fl with
  | ret u=>
   obtain ⟨v,H',I3,rv,ev,q3⟩:=I2.after hq'
   subst ev
   exact ⟨rv,⟨V.ref (s.heap.objs.size+1),H',I3,rfl,q3⟩⟩
  | next=>exact False.elim hq'
  | brk=>exact False.elim hq'
  | cont=>exact False.elim hq'
theorem ZL1 (M:Mk X.K C f) (F:FnOk X.prog X.w X.K X.mg X.base CX k f fd ps sp) (hr:Room (k+1) X.A) (hg:Gl X x) (hm:X.mg x=some (.ref C)) (hb:Binds X.K fd ps ds) (hd:Vals dvs ds) (hx:ZBP CX X E)
  (ha:PA X (e :: es) t) (hdb:(x==("__debug__" : Str))=false:=by decide) (he:starEach (e :: es) X.env=(false,eval e X.env) :: starEach es X.env:=by rfl) (hpl:(backTo pos (starEach es X.env)).any (·.1)=false:=by rfl) :
  PE X (.Call (.Name x p) (e :: es) [] pos) (ZJx C sp dvs E t):=by
 intro pins s σ H Q I h
 refine wpAny_Call_Name_kw (ZBs I hg hm ?_ hdb)
 refine PySem.W.callWith_K (h₀:=X.base) I.ok.mod.kin M.kp (thn (ha pos pins s σ H _ I h) fun us s1 ⟨vs,H1,I1,r,q⟩=>⟨I1.kIn,?_⟩) he hpl
 exact ZGn M F hr hb hd hx I1 r q
theorem ZKU (M:Mk X.K C f) (F:FnOk X.prog X.w X.K X.mg X.base CX k f fd ps sp) (hr:Room (k+1) X.A) (hg:Gl X x) (hm:X.mg x=some (.ref C)) (hb:Binds X.K fd ps ds) (hd:Vals dvs ds) (hx:ZBP CX X E)
  (hdb:(x==("__debug__" : Str))=false:=by decide):PE X (.Call (.Name x p) [] [] pos) (ZJx C sp dvs E ZHO):=by
 intro pins s σ H Q I h
 refine wpAny_Call_Name_kw (ZBs I hg hm ?_ hdb)
 exact PySem.W.callWith_K0 I.kIn M.kp (ZGn (us:=[]) M F hr hb hd hx I .nil h)
end
def PK (X:Cx) (kws:List Keyword) (t:TA):Prop:=
 ∀ (pos:Pos) (pins:List (Addr×Obj)) (s:Shared) (σ:St) (H:Hp) (Q:List V->Hp->Prop),Inv X pins σ H s->t σ H Q->wpAny (model X.prog X.w) X.A (evalAll ((backToKw pos (keywordEach kws X.env)).map (·.2))) (AP X pins σ Q) X.xe s
section
variable {X:Cx} {CX:CXT} {k:Nat} {f C:Addr} {fd:FuncData} {ps ks:List Str} {sp:Sp} {E:XK} {x m:Str} {p pos apos kpos:Pos} {e o:Expr} {es:List Expr} {kws:List Keyword} {te ta:TE} {t tk:TA} {nm:Option Str}
theorem ZNH:PK X [] ZHO:=fun _ _ _ _ H Q I h=>wpAny_evalAll_nil ⟨[],H,I,.nil,h⟩
theorem ZLj (ha:PE X e te) (hr:PK X kws t):PK X (⟨nm,e,kpos⟩ :: kws) (ZBT te t):=by
 intro pos pins s σ H Q I h
 show wpAny _ _ (evalAll ((do let v<-eval e X.env;standAt pos;pure v) :: (backToKw pos (keywordEach kws X.env)).map (·.2))) _ _ s
 refine wpAny_evalAll_cons (wpAny_bind (thn (ha pins s σ H _ I h) fun u s1 ⟨x,H1,I1,r1,q1⟩=>wpAny_bind (wpAny_standAt (wpAny_pure ?_))))
 exact thn (hr pos pins s1 σ H1 _ I1 q1) fun us s2 ⟨xs,H2,I2,r2,q2⟩=>⟨x :: xs,H2,I2,.cons r1 r2,q2⟩
variable {g:List Value->List Value->List Value} {gV:List V->List V->List V}
end
structure FnScope (N P:List Str) (sc:Scope):Prop where
 kind:sc.kind=.function
 co:sc.isCoroutine=false
 gen:sc.isGenerator=false
 nd:N.Nodup
 pre:N.take P.length=P
 par:∀ x∈P,sc.names.lookup x=some .local∨sc.names.lookup x=some .cell
 nofree:∀ y∈sc.names,y.2≠.free
theorem ZFN {kindOf:Str->Option NameKind} {x:Str}:∀ {binds:List (Str×Value)} {m:Str->Option Value},(∀ v,(x,v)∉binds)->bindL kindOf binds m x=m x
 | [],_,_=>rfl
 | (n,v) :: r,m,h=>by
  unfold bindL
  rw [ZFN fun w hw=>h w (List.mem_cons_of_mem _ hw)]
  split
  ·have:x≠n:=by rintro rfl;exact h v List.mem_cons_self
   simp [this]
  ·rfl
theorem ZFh {kindOf:Str->Option NameKind} {x:Str}:∀ {binds:List (Str×Value)} {m:Str->Option Value},(∀ v,(x,v)∉binds)->bindC kindOf binds m x=m x
 | [],_,_=>rfl
 | (n,v) :: r,m,h=>by
  unfold bindC
  rw [ZFh fun w hw=>h w (List.mem_cons_of_mem _ hw)]
  split
  ·rfl
  ·have:x≠n:=by rintro rfl;exact h v List.mem_cons_self
   simp [this]
theorem ZFb {kindOf:Str->Option NameKind} {x:Str} {v:Value}:∀ {P:List Str} {vs:List Value} {i:Nat} {m:Str->Option Value},P.Nodup->P[i]? = some x->vs[i]? = some v->kindOf x=some .local ->
  bindL kindOf (P.zip vs) m x=some v
 | [],_,_,_,_,h,_,_=>by simp at h
 | _ :: _,[],_,_,_,_,h,_=>by simp at h
 | p :: P,w :: vs,0,m,nd,h1,h2,hk=>by
  simp at h1 h2;subst h1;subst h2
  show bindL kindOf ((p,w) :: P.zip vs) m p=_
  unfold bindL
  rw [ZFN fun v hv=>(List.nodup_cons.mp nd).1 (List.of_mem_zip hv).1,if_pos hk]
  simp
 | p :: P,w :: vs,i+1,m,nd,h1,h2,hk=>by
  show bindL kindOf ((p,w) :: P.zip vs) m x=_
  unfold bindL
  exact ZFb (i:=i) (List.nodup_cons.mp nd).2 (by simpa using h1) (by simpa using h2) hk
theorem ZFd {kindOf:Str->Option NameKind} {x:Str} {v:Value}:∀ {P:List Str} {vs:List Value} {i:Nat} {m:Str->Option Value},P.Nodup->P[i]? = some x->vs[i]? = some v->kindOf x≠some .local ->
  bindC kindOf (P.zip vs) m x=some v
 | [],_,_,_,_,h,_,_=>by simp at h
 | _ :: _,[],_,_,_,_,h,_=>by simp at h
 | p :: P,w :: vs,0,m,nd,h1,h2,hk=>by
  simp at h1 h2;subst h1;subst h2
  show bindC kindOf ((p,w) :: P.zip vs) m p=_
  unfold bindC
  rw [ZFh fun v hv=>(List.nodup_cons.mp nd).1 (List.of_mem_zip hv).1,if_neg hk]
  simp
 | p :: P,w :: vs,i+1,m,nd,h1,h2,hk=>by
  show bindC kindOf ((p,w) :: P.zip vs) m x=_
  unfold bindC
  exact ZFd (i:=i) (List.nodup_cons.mp nd).2 (by simpa using h1) (by simpa using h2) hk
def ZDs (N:List Str) (vs:List V):St:=vs.map some++List.replicate (N.length - vs.length) none
def ZFp (CX:CXT) (P:Program) (w:World) (K:PySem.W.Frag) (mg:Str->Option Value) (base:Heap) (N:List Str) (qual:Str) (scope:Scope) (f:Addr) (cd:Value) (A:Around) (outer:List Env) (s:Shared) (H:Hp) (E:XK):Cx where
 prog:=P
 w:=w
 K:=K
 mg:=mg
 base:=base
 A:=A.deeper (envOfC qual scope s.heap.objs.size f cd)
 N:=N
 s₀:=s
 H₀:=H
 env:=envOfC qual scope s.heap.objs.size f cd
 outer:=outer
 stack:=envOfC qual scope s.heap.objs.size f cd :: outer
 ex:=[]
 calm:=true
 fn:=fun _=>true
 pn:=[]
 xe:=fun e s'=>wpAny (model P w) (A.deeper (envOfC qual scope s.heap.objs.size f cd)) (leaving (envOfC qual scope s.heap.objs.size f cd) e) (fun _ s''=>CX outer H s E e s'') (fun e' s''=>CX outer H s E e' s'') s'
theorem ZG9 {sc:Scope} {n:Nat} {x:Str} (h:sc.names.lookup x=some .cell):∃ c,(cellsFrom n sc.names []).lookup x=some c:=by
 have q:=PySem.W.cellsFrom_some sc.names n [] (.inl h)
 exact Option.isSome_iff_exists.mp q
theorem ZJQ {CX:CXT} {P:Program} {w:World} {K:PySem.W.Frag} {mg:Str->Option Value} {base:Heap} {N ps:List Str} {qual:Str} {scope:Scope} {f:Addr} {cd:Value} {A:Around} {outer:List Env} {s s1:Shared} {H:Hp} {E:XK} {us:List Value} {vs:List V}
  (S:FnScope N ps scope) (hd:A.handled=none) (e0:Env0 P w K mg base A outer s H) (hl:vs.length=ps.length) (r:Vals vs us)
  (x:InCallC s s.heap.objs.size (bindL (envOfC qual scope s.heap.objs.size f cd).kindOf (ps.zip us) fun _=>none) (cellsFrom (s.heap.objs.size+1) scope.names []) (bindC (envOfC qual scope s.heap.objs.size f cd).kindOf (ps.zip us) fun _=>none) s1) :
  Inv (ZFp CX P w K mg base N qual scope f cd A outer s H E) [] (ZDs N vs) H s1:=by
 have hpl:ps.length<=N.length:=by have:=congrArg List.length S.pre;rw [List.length_take] at this;omega
 obtain ⟨h1,tk,rfl,hk⟩:=x.done
 have noA:∀ b:Addr,b∉(ZFp CX P w K mg base N qual scope f cd A outer s H E).ex:=fun b z=>absurd (show b∈([]:List Addr) from z) (by simp)
 refine ⟨⟨e0.mod,S.kind,rfl,rfl,Nat.le_refl _,fun y z c h1 h2=>?_,fun y hy=>?_,fun y c _ h=>?_,fun _=>hd,Around.frames_deeper e0.frames,.inr ⟨rfl,rfl⟩,fun b z=>absurd z (noA b),e0.bs,e0.bsz,fun b _ _=>noA b,fun b z=>absurd z (noA b),e0.funs,e0.frf⟩,
  rfl,e0.bare,Un.kept hk,⟨_,x.toInCall.ns,fun i y v h1 h2 h3=>?_⟩,fun y c h=>⟨_,x.cell y c h⟩,e0.hok.fresh (Nat.le_refl _),fun y c h=>?_,fun p hp=>absurd (show p∈([]:List (Addr×Obj)) from hp) (by simp),e0.hok.kept hk,?_⟩
 ·exact name_of_addr x.apart (PySem.mem_of_lookup h1) (PySem.mem_of_lookup h2)
 ·have hy:scope.names.lookup y=some .cell∨scope.names.lookup y=some .free:=hy
  rcases hy with hy | hy
  ·exact ZG9 hy
  ·exact absurd rfl (S.nofree _ (PySem.mem_of_lookup hy))
 ·exact Nat.le_of_lt (x.above y c (PySem.mem_of_lookup h))
 ·have hi:i<vs.length:=by
   unfold ZDs at h2
   by_cases hi:i<vs.length
   ·exact hi
   ·rw [List.getElem?_append_right (by simpa using hi)] at h2
    rw [List.getElem?_replicate] at h2
    split at h2 <;> cases h2
  have ha:vs[i]? = some v:=by
   unfold ZDs at h2
   rw [List.getElem?_append_left (by simpa using hi),List.getElem?_map] at h2
   cases e:vs[i]? with
   | none=>rw [e] at h2;cases h2
   | some a=>rw [e] at h2;cases h2;rfl
  obtain ⟨u,hu,rv⟩:=r.get ha
  have hp:ps[i]? = some y:=by
   rw [<-S.pre,List.getElem?_take_of_lt (by omega)];exact h1
  have ndP:ps.Nodup:=by rw [<-S.pre];exact S.nd.sublist (List.take_sublist _ _)
  refine ⟨u,rv,?_⟩
  rcases S.par y (List.mem_of_getElem? hp) with k | k
  ·exact .inl ⟨k,ZFb ndP hp hu k⟩
  ·obtain ⟨c,e⟩:=ZG9 (n:=s.heap.objs.size+1) k
   refine .inr ⟨.inl k,c,e,?_⟩
   have q:=x.cell y c e
   rw [ZFd ndP hp hu (by show scope.names.lookup y≠_;rw [k];decide)] at q
   exact q
 ·exact e0.hok.fresh (Nat.le_of_lt (x.above y c (PySem.mem_of_lookup h)))
 ·unfold ZDs
  show _=N.length
  rw [List.length_append,List.length_map,List.length_replicate]
  omega
theorem ZLo {CX:CXT} {P:Program} {w:World} {K:PySem.W.Frag} {mg:Str->Option Value} {base:Heap} {k:Nat} {f:Addr} {name qual:Str} {params:Arguments} {body:List Stmt} {scope:Scope} {dV kV doc pm cdv ct oc:Value} {an od:Option Addr}
  {osl:Array (Option Value)} {N ps:List Str} {sp:Sp} (lk:K.lookup f=some ⟨oc,od,.func (PySem.W.fnOf name qual params body scope dV kV doc pm an cdv ct),osl⟩) (hcd:PySem.W.codeIn K cdv qual=true) (S:FnScope N ps scope)
  (len:∀ vs H Q E,sp vs H Q E->vs.length=ps.length)
  (hbody:∀ (A:Around) (outer:List Env) (s:Shared) (H:Hp) (vs:List V) (Q:VK) (E:XK),Room k (A.deeper (envOfC qual scope s.heap.objs.size f cdv))->sp vs H Q E ->
   ∃ t,PSs (ZFp CX P w K mg base N qual scope f cdv A outer s H E) body t∧t { nx:=fun _ H'=>Q .non H',rt:=Q } (ZDs N vs) H) :
  FnOk P w K mg base CX (k+1) f (PySem.W.fnOf name qual params body scope dV kV doc pm an cdv ct) ps sp:=by
 refine ⟨len,fun A outer s H args us vs Q E hr e0 hb r hsp=>?_⟩
 have hl:=len _ _ _ _ hsp
 have KX:K.In s.heap:=e0.mod.kin.keeps fun b o e=>(e0.bs b o e).1
 have lim:s.heap.NoLimit:=e0.mod.nolimit.keeps fun b o e=>(e0.bs b o e).1
 have hkind:∀ y∈ps.zip us,scope.names.lookup y.1=some .local∨(scope.names.lookup y.1=some .cell∧((cellsFrom (s.heap.objs.size+1) scope.names []).lookup y.1).isSome=true):=fun ⟨n,v⟩ hy=>by
  rcases S.par n (List.of_mem_zip hy).1 with q | q
  ·exact .inl q
  ·exact .inr ⟨q,PySem.W.cellsFrom_some _ _ _ (.inl q)⟩
 refine codeAny_call_function hr.depth (KX _ _ lk) rfl S.co S.gen rfl (PySem.W.codeRec_of KX hcd) (hb _ _ _ _ ?_)
 refine wpAny_newFunctionEnv_cells S.kind hkind fun env he s1 x=>?_
 subst he
 refine ⟨lim.keeps x.toInCall.keep,codeAny_func ?_⟩
 obtain ⟨t,ht,hq⟩:=hbody A outer s H vs Q E (hr.deeper _) hsp
 have I:Inv (ZFp CX P w K mg base N qual scope f cdv A outer s H E) [] (ZDs N vs) H s1:=ZJQ S hr.hd e0 hl r x
 refine wpAny_mono (ht [] s1 (ZDs N vs) H _ I hq) (fun fl s' hs=>?_) fun e s' hs=>hs
 have fin:∀ {σ':St} {H':Hp} {v:V} {u:Value},Inv (ZFp CX P w K mg base N qual scope f cdv A outer s H E) [] σ' H' s'->RelV v u->Q v H'->CE outer P w H s Q u s':=
  fun {σ' H' v u} J rv q=>⟨v,H',J.os,J.bare,J.base,J.hok,rv,q⟩
 cases fl with
 | ret u=>
  obtain ⟨v,σ',H',J,rv,q⟩:=hs
  exact fin J rv q
 | next=>
  obtain ⟨σ',H',J,q⟩:=hs
  exact fin (v:=V.non) (u:=Value.none) J rfl q
 | brk=>
  obtain ⟨_,_,_,q⟩:=hs
  exact False.elim q
 | cont=>
  obtain ⟨_,_,_,q⟩:=hs
  exact False.elim q
section
variable {X:Cx} {x:Str} {p pos:Pos} {e:Expr} {es:List Expr} {t:TA} {id T:String} {r:List V->Hp->VK->Prop}
def tCB (r:List V->Hp->VK->Prop) (t:TA):TE:=fun σ H Q=>t σ H fun vs H1=>r vs H1 Q
theorem ZAK (hc:ZBt X (.builtin id) r) (hg:Gl X x) (hm:X.mg x=none) (hv:bootBuiltins x=some (.builtin id)) (ha:PA X (e :: es) t) (hn:x ≠ "__name__" :=by decide) (hdb:(x==("__debug__" : Str))=false:=by decide)
  (he:starEach (e :: es) X.env=(false,eval e X.env) :: starEach es X.env:=by rfl) (hpl:(backTo pos (starEach es X.env)).any (·.1)=false:=by rfl):PE X (.Call (.Name x p) (e :: es) [] pos) (tCB r t):=by
 intro pins s σ H Q I h
 refine wpAny_Call_Name_kw (ZC3 I hg hm hv ?_ hn hdb)
 exact PyProof.Rows.callWith_builtin1 (thn (ha pos pins s σ H _ I h) fun us s1 ⟨vs,H1,I1,r1,q1⟩=>hc pins s1 σ H1 vs us Q I1 r1 q1) he hpl
theorem ZAm (hc:ZBt X (.type T) r) (hg:Gl X x) (hm:X.mg x=none) (hv:bootBuiltins x=some (.type T)) (ha:PA X (e :: es) t) (hn:x ≠ "__name__" :=by decide) (hdb:(x==("__debug__" : Str))=false:=by decide)
  (he:starEach (e :: es) X.env=(false,eval e X.env) :: starEach es X.env:=by rfl) (hpl:(backTo pos (starEach es X.env)).any (·.1)=false:=by rfl):PE X (.Call (.Name x p) (e :: es) [] pos) (tCB r t):=by
 intro pins s σ H Q I h
 refine wpAny_Call_Name_kw (ZC3 I hg hm hv ?_ hn hdb)
 exact PyProof.Rows.callWith_type1 (thn (ha pos pins s σ H _ I h) fun us s1 ⟨vs,H1,I1,r1,q1⟩=>hc pins s1 σ H1 vs us Q I1 r1 q1) he hpl
end
end L2
namespace HT
open PySem PyProof.Rows
theorem rcLt_int (A:Around) (s:Shared) (a:Int) (t:Tok) (c:Int) (u:Tok) (prog:Program) (w:World) (E:Value->Shared->Prop) (Q:Value->Shared->Prop) (h:Q (.bool (decide (a<c))) s) :
  wpAny (model prog w) A (richCompare .Lt (.int a t) (.int c u)) Q E s:=
 (PyProof.Rows.lt_int h:wpAny (model prog w) A (compareOp .Lt (.int a t) (.int c u)) Q E s)
section
open PySem.SeqAt
open PySem.AutoSeq1 (wpAny_loadPart')
open PySem.MeetsSeq PySem.MeetsSeq2 PySem.MeetsSeq3
end
section
variable {prog:Program} {w:World} {A:Around} {E:Value->Shared->Prop} {s:Shared}
theorem cat_tup {t b:Addr} {vs ws:List Value} {Q:Value->Shared->Prop} (ht:IsTup s.heap t vs.toArray) (hb:IsTup s.heap b ws.toArray) (hv:vs≠[])
  (h1:ws=[]->Q (.ref t) s) (h2:ws≠[]->Q (.ref s.heap.objs.size) { s with heap:=s.heap.push { cls:=.type "tuple",data:=.seq (vs++ws).toArray } })
  (hsz:vs.length+ws.length<=sizeLine):wpAny (model prog w) A (binaryOp .Add (.ref t) (.ref b)) Q E s:=by
 obtain ⟨⟨cls,dd,data,sl⟩,ho,hc,n,hd⟩:=id ht
 obtain ⟨⟨cls2,dd2,data2,sl2⟩,ho2,hc2,n2,hd2⟩:=id hb
 simp only at hc hd hc2 hd2
 subst hc hd hc2 hd2
 have e:vs.toArray++ws.toArray=(vs++ws).toArray:=by simp
 by_cases hw:ws=[]
 ·exact concat_meets ⟨_,ho,rfl⟩ ⟨_,ho2,rfl⟩ noFill_tuple_add seq_tuple_add PySem.F.slot_tuple_add PySem.F.entry_tuple_add (PySem.F.args_tuple_add_2 _ _)
   (tuple_addW1 t b vs.toArray ws.toArray n n2 dd dd2 sl sl2 (by simpa using hv) (by simp [hw])) ⟨ho,ho2,h1 hw⟩
 ·refine concat_meets ⟨_,ho,rfl⟩ ⟨_,ho2,rfl⟩ noFill_tuple_add seq_tuple_add PySem.F.slot_tuple_add PySem.F.entry_tuple_add (PySem.F.args_tuple_add_2 _ _)
   (tuple_addW2 t b vs.toArray ws.toArray n n2 dd dd2 sl sl2 (by simpa using hv) (by simpa using hw) (by rw [List.size_toArray,List.size_toArray];exact hsz)) ⟨ho,ho2,?_⟩
  rw [e]
  exact h2 hw
end
end HT
namespace L2
open PySem PySem.Spec PyProof.Rows
abbrev TO:=St->Hp->(Option Int->Hp->Prop)->Prop
theorem ZCo {ns:List Int}:∀ {us:List Value},Vals (ns.map V.int) us->IntsAre us ns:=by
 induction ns with
 | nil=>intro us r;rw [List.map_nil] at r;cases r;exact .nil
 | cons n ns ih=>
  intro us r
  rw [List.map_cons] at r
  cases r with
  | cons r1 r2=>
   obtain ⟨t,e⟩:=r1
   subst e
   exact .cons n t (ih r2)
section
variable {X:Cx} {e:Expr} {te:TE} {lo hi:Option Expr} {tl th:TO} {pos p2:Pos}
def ZOe (K:PySem.W.Frag):R2:=fun x y H Q=>∃ a b xs ys,x=.ref a∧y=.ref b∧SqT K H a xs∧SqT K H b ys∧xs≠[]∧xs.length+ys.length<=sizeLine ∧
 (ys=[]->Q (.ref a) H)∧(ys≠[]->∀ p,H p=none->Q (.ref p) (upd H p (.tup (xs++ys))))
theorem Vals.nil_iff {xs:List V} {us:List Value} (r:Vals xs us):us=[] ↔ xs=[]:=by
 cases r with
 | nil=>simp
 | cons _ _=>simp
theorem ZMl:OpR X (binaryOp .Add) (ZOe X.K):=by
 intro pins s σ H x y v u Q I rx ry h
 obtain ⟨a,b,xs,ys,rfl,rfl,ha,hb,hx,hz,q1,q2⟩:=h
 cases rx
 cases ry
 obtain ⟨its,r1,p1,_⟩:=I.tuple ha
 obtain ⟨its2,r2,p2,_⟩:=I.tuple hb
 refine HT.cat_tup p1 p2 (fun z=>hx (r1.nil_iff.mp z)) (fun z=>⟨.ref a,H,I,rfl,q1 (r2.nil_iff.mp z)⟩) (fun z=>?_) (by rw [<-r1.length,<-r2.length];exact hz)
 refine ⟨.ref s.heap.objs.size,_,I.laid (t':=s.toks) (o:=.tup (xs++ys)) (fun b ob q=>Heap.get?_push_of_some _ q) (Nat.le_refl _) ?_,rfl,q2 (fun w=>z (r2.nil_iff.mpr w)) _ (I.hok.fresh (Nat.le_refl _))⟩
 exact ⟨by rw [List.length_append];exact hz,_,r1.append r2,IsTup.new _ _⟩
end
def ixN (n:Nat) (i:Int):Option Nat:=if 0<=i then (if i<n then some i.toNat else none) else if -(n:Int)<=i then some (i+n).toNat else none
def atI {α:Type} (xs:List α) (i:Int):Option α:=(ixN xs.length i).bind fun j=>xs[j]?
theorem ZIr {n:Nat} {i:Int} {j:Nat} (h:ixN n i=some j):seqIndex? i n=some j∧j<n ∧ -(n:Int)<=i∧i<n:=by
 unfold ixN at h
 by_cases h0:0<=i
 ·rw [if_pos h0] at h
  by_cases h1:i<n
  ·rw [if_pos h1] at h
   have e:i.toNat=j:=Option.some.inj h
   exact ⟨by rw [seqIndex_of h0 h1,e],by omega,by omega,h1⟩
  ·rw [if_neg h1] at h;cases h
 ·rw [if_neg h0] at h
  by_cases h1 : -(n:Int)<=i
  ·rw [if_pos h1] at h
   have e:(i+n).toNat=j:=Option.some.inj h
   exact ⟨by rw [seqIndex_neg (by omega) h1,e],by omega,h1,by omega⟩
  ·rw [if_neg h1] at h;cases h
theorem ZF2 {α:Type} {xs:List α} {i:Int} {v:α} (h:atI xs i=some v):∃ j,seqIndex? i xs.length=some j∧xs[j]? = some v∧j<xs.length ∧ -(xs.length:Int)<=i∧i<xs.length:=by
 unfold atI at h
 cases e:ixN xs.length i with
 | none=>rw [e] at h;cases h
 | some j=>
  rw [e] at h
  obtain ⟨h1,h2,h3,h4⟩:=ZIr e
  exact ⟨j,h1,h,h2,h3,h4⟩
theorem ZAn {α:Type} {xs:List α} {j:Nat} {v:α} (h:xs[j]? = some v):atI xs (j:Int)=some v:=by
 have hj:j<xs.length:=(List.getElem?_eq_some_iff.mp h).1
 have e:ixN xs.length (j:Int)=some j:=by
  unfold ixN
  rw [if_pos (by omega),if_pos (by omega)];simp
 unfold atI;rw [e];exact h
theorem ZE1 {α:Type} (xs:List α) (v:α):atI (xs++[v]) (-1)=some v:=by
 have hl:(xs++[v]).length=xs.length+1:=by simp
 have e:ixN (xs++[v]).length (-1)=some xs.length:=by
  unfold ixN
  rw [hl,if_neg (by decide),if_pos (by omega)]
  congr 1
  omega
 unfold atI
 rw [e]
 show (xs++[v])[xs.length]? = some v
 simp
def ZL4 (b:Expr):Prop:=∀ o i,subscripted b false o i=operate [o,i] (getItem o i)
def IxR (X:Cx) (r:R2):Prop:=
 ∀ (value slice:Expr) (pins:List (Addr×Obj)) (s:Shared) (σ:St) (H:Hp) (x y:V) (v u:Value) (Q:VK),Inv X pins σ H s->RelV x v->RelV y u->r x y H Q ->
  subscripted slice false v u=operate [v,u] (getItem v u)->wpAny (model X.prog X.w) X.A (subscriptTail value slice v u) (EP X pins σ Q) X.xe s
def MtR (X:Cx) (id:String) (r:V->List V->Hp->VK->Prop):Prop:=
 ∀ (pins:List (Addr×Obj)) (s:Shared) (σ:St) (H:Hp) (x:V) (xs:List V) (v:Value) (us:List Value) (Q:VK),Inv X pins σ H s->RelV x v->Vals xs us->r x xs H Q ->
  wpAny (model X.prog X.w) X.A (call (.builtin id) (v :: us)) (EP X pins σ Q) X.xe s
section
variable {X:Cx} {a b:Expr} {ta tb:TE} {pos:Pos}
theorem IxR.or {r r':R2} (h:IxR X r) (h':IxR X r'):IxR X (fun x y H Q=>r x y H Q∨r' x y H Q):=by
 intro value slice pins s σ H x y v u Q I rx ry q hs
 rcases q with q | q
 ·exact h value slice pins s σ H x y v u Q I rx ry q hs
 ·exact h' value slice pins s σ H x y v u Q I rx ry q hs
theorem ZAV {r:R2} (hr:IxR X r) (ha:PE X a ta) (hb:PE X b tb) (hs:ZL4 b):PE X (.Subscript a b pos) (tOp r ta tb):=by
 intro pins s σ H Q I h
 exact Subscript_ (ZN8 ha hb I h fun v u s2 x y H2 I2 rx ry q=>hr a b pins s2 σ H2 x y v u Q I2 rx ry q (hs _ _))
def ZOy (K:PySem.W.Frag):R2:=fun x y H Q=>∃ p xs i v,x=.ref p∧y=.int i∧SqL K H p xs∧atI xs i=some v∧Q v H
def ZO2 (K:PySem.W.Frag):R2:=fun x y H Q=>∃ p xs i v,x=.ref p∧y=.int i∧SqT K H p xs∧atI xs i=some v∧Q v H
def ZOv:R2:=fun x y H Q=>∃ z i c,x=.str z∧y=.int i∧z.length<=sizeLine∧atI z.cps.toList i=some c∧Q (.str ⟨#[c]⟩) H
theorem ix_list:IxR X (ZOy X.K):=by
 intro value slice pins s σ H x y v u Q I rx ry h hs
 obtain ⟨p,xs,i,z,rfl,rfl,hq,he,q⟩:=h
 cases rx
 obtain ⟨t,rfl⟩:=ry
 obtain ⟨its,r,pl,hz⟩:=I.list hq
 obtain ⟨j,h1,h2,h3,h4,h5⟩:=ZF2 he
 obtain ⟨w,ew,rw'⟩:=r.get h2
 have hl:=r.length
 have hn:=ZD2
 have fin:EP X pins σ Q w s:=⟨z,H,I,rw',q⟩
 by_cases h0:0<=i
 ·have hj:i.toNat=j:=by
   rw [seqIndex_of h0 h5] at h1
   exact Option.some.inj h1
  exact item_listR pl.isList h0 (by omega) (by rw [hj];simpa using ew) fin hs
 ·have hj:(i+(its.toArray.size:Int)).toNat=j:=by
   rw [seqIndex_neg (by omega) h4] at h1
   rw [List.size_toArray,<-hl]
   exact Option.some.inj h1
  exact subscriptTail_builtinR (x:=w) pl.isList.typeIs slot_list_getitem.lookup
   (wpAny_getItem_list_neg (Q:=fun r s'=>r=w∧EP X pins σ Q r s') pl.isList (by omega) (by rw [List.size_toArray] <;> omega) (by omega) (by rw [hj];simpa using ew) ⟨rfl,fin⟩) hs
theorem ix_tup:IxR X (ZO2 X.K):=by
 intro value slice pins s σ H x y v u Q I rx ry h hs
 obtain ⟨p,xs,i,z,rfl,rfl,hq,he,q⟩:=h
 cases rx
 obtain ⟨t,rfl⟩:=ry
 obtain ⟨its,r,pl,hz⟩:=I.tuple hq
 obtain ⟨j,h1,h2,h3,h4,h5⟩:=ZF2 he
 obtain ⟨w,ew,rw'⟩:=r.get h2
 have hl:=r.length
 have hn:=ZD2
 have fin:EP X pins σ Q w s:=⟨z,H,I,rw',q⟩
 exact subscriptTail_builtinR (x:=w) pl.typeIs slot_tuple_getitem.lookup
  (getItem_tuple (j:=j) (Q:=fun r s'=>r=w∧EP X pins σ Q r s') pl (by omega) (by omega) (by rw [List.size_toArray,<-hl];exact h1) (by simpa using ew) ⟨rfl,fin⟩) hs
theorem ZNz:IxR X ZOv:=by
 intro value slice pins s σ H x y v u Q I rx ry h hs
 obtain ⟨z,i,c,rfl,rfl,hz,he,q⟩:=h
 obtain ⟨t,rfl⟩:=rx
 obtain ⟨t',rfl⟩:=ry
 obtain ⟨j,h1,h2,h3,h4,h5⟩:=ZF2 he
 have hl:z.cps.toList.length=z.length:=by simp [Str.length]
 rw [hl] at h1 h4 h5
 have hn:=ZD2
 exact tail_any (typeIs_str s z t) slot_str_getitem.lookup (getItem_str (c:=c) (by
  have e1:decide (i < -(2 ^ 63:Int))=false:=decide_eq_false (by omega)
  have e2:decide (i ≥ 2 ^ 63)=false:=decide_eq_false (by omega)
  rw [e1,e2,Bool.or_false]) (by rw [h1];simpa using h2) ⟨.str ⟨#[c]⟩,H,I.tok _,⟨_,rfl⟩,q⟩) hs
def rIx (K:PySem.W.Frag):R2:=fun x y H Q=>ZOy K x y H Q∨ZO2 K x y H Q∨ZOv x y H Q
theorem ZAP:IxR X (rIx X.K):=ix_list.or (ix_tup.or ZNz)
theorem ZHl (its:List Value) (n j:Nat) (u:Value):Obj.mapSeq (·.setIfInBounds j u) { cls:=.type "list",data:=.seq its.toArray n }={ cls:=.type "list",data:=.seq (its.set j u).toArray n }:=by
 simp [Obj.mapSeq]
theorem Inv.lst {pins:List (Addr×Obj)} {σ:St} {H:Hp} {s:Shared} {p:Addr} {xs:List V} (I:Inv X pins σ H s) (h:H p=some (.lst xs)) :
  ∃ (its:List Value) (n:Nat),Vals xs its∧s.heap.get? p=some { cls:=.type "list",data:=.seq its.toArray n }∧xs.length<=sizeLine:=by
 obtain ⟨z,its,n,r,e⟩:=I.hok p _ h
 exact ⟨its,n,r,e,z⟩
theorem Inv.lstUpd {pins:List (Addr×Obj)} {σ:St} {H:Hp} {s:Shared} {p:Addr} {xs ys:List V} {its its':List Value} {n n':Nat} {f:Obj->Obj} (I:Inv X pins σ H s) (h:H p=some (.lst xs))
  (ho:s.heap.get? p=some { cls:=.type "list",data:=.seq its.toArray n }) (hf:f { cls:=.type "list",data:=.seq its.toArray n }={ cls:=.type "list",data:=.seq its'.toArray n' }) (r:Vals ys its') (hz:ys.length<=sizeLine) (t:Nat) :
  Inv X pins σ (upd H p (.lst ys)) { s with heap:=s.heap.update p f,toks:=t }:=by
 have e:(s.heap.update p f).get? p=some { cls:=.type "list",data:=.seq its'.toArray n' }:=by
  rw [Heap.get?_update_self f ho (by rw [hf] <;> rfl),hf]
 refine I.write (x:=p) (e:=p) (by rw [h];trivial) (.inl rfl) (fun b u hb q=>(Heap.get?_update_other _ _ (Ne.symm hb)).trans q) ⟨_,e⟩ ?_
 exact ⟨hz,its',n',r,e⟩
def ZOs:V->V->V->Hp->(Hp->Prop)->Prop:=fun o i v H Q=>∃ p xs k j,o=.ref p∧i=.int k∧H p=some (.lst xs)∧ixN xs.length k=some j∧Q (upd H p (.lst (xs.set j v)))
theorem ZEQ:ZO4 X ZOs:=by
 intro pins s σ H o i v ov iv u Q I ro ri rv h
 obtain ⟨p,xs,k,j,rfl,rfl,hp,hj,q⟩:=h
 cases ro
 obtain ⟨t,rfl⟩:=ri
 obtain ⟨its,n,r,ho,hz⟩:=I.lst hp
 obtain ⟨h1,h2,h3,h4⟩:=ZIr hj
 have hl:=r.length
 have hn:=ZD2
 have I':Inv X pins σ (upd H p (.lst (xs.set j v))) { s with heap:=s.heap.update p (Obj.mapSeq (·.setIfInBounds j u)) }:=
  I.lstUpd hp ho (ZHl its n j u) (r.set rv j) (by rw [List.length_set];exact hz) s.toks
 by_cases h0:0<=k
 ·have hk:k.toNat=j:=by
   rw [seqIndex_of h0 h4] at h1
   exact Option.some.inj h1
  exact PySem.W.ki_setAt ho h0 (by omega) (by rw [List.size_toArray,<-hl];exact h4) (by rw [hk];exact ⟨_,I',q⟩)
 ·have hk:(k+(its.toArray.size:Int)).toNat=j:=by
   rw [seqIndex_neg (by omega) h3] at h1
   rw [List.size_toArray,<-hl]
   exact Option.some.inj h1
  exact PySem.W.ki_setBack ho (by omega) (by rw [List.size_toArray,<-hl];exact h3) (by omega) (by rw [hk];exact ⟨_,I',q⟩)
def ZEG:V->Bool
 | .non=>true
 | .bl _=>true
 | .int _=>true
 | .str _=>true
 | _=>false
def eqV:V->V->Bool
 | .non,.non=>true
 | .bl a,.bl b=>a==b
 | .bl a,.int b=>(if a then 1 else 0)==b
 | .int a,.bl b=>a==(if b then 1 else 0)
 | .int a,.int b=>a==b
 | .str a,.str b=>a==b
 | _,_=>false
theorem ZFJ {A:Around} {s:Shared} {y x:V} {u v:Value} (ry:RelV y u) (rx:RelV x v) (fy:ZEG y=true) (fx:ZEG x=true):SeqAt.EqAt A s u v (eqV y x):=by
 cases y with
 | non=>
  cases ry
  cases x with
  | non=>cases rx;exact SeqAt.EqAt.same _
  | bl b=>cases rx;exact SeqAt.EqAt.none_bool b
  | int b=>obtain ⟨t,rfl⟩:=rx;exact SeqAt.EqAt.none_int b t
  | str b=>obtain ⟨t,rfl⟩:=rx;exact SeqAt.EqAt.none_str b t
  | _=>exact absurd (show false=true from fx) Bool.false_ne_true
 | bl a=>
  cases ry
  cases x with
  | non=>cases rx;exact SeqAt.EqAt.bool_none a
  | bl b=>cases rx;exact SeqAt.EqAt.bool_bool a b
  | int b=>obtain ⟨t,rfl⟩:=rx;exact SeqAt.EqAt.bool_int a b t
  | str b=>obtain ⟨t,rfl⟩:=rx;exact SeqAt.EqAt.bool_str a b t
  | _=>exact absurd (show false=true from fx) Bool.false_ne_true
 | int a=>
  obtain ⟨t',rfl⟩:=ry
  cases x with
  | non=>cases rx;exact SeqAt.EqAt.int_none a t'
  | bl b=>cases rx;exact SeqAt.EqAt.int_bool a t' b
  | int b=>obtain ⟨t,rfl⟩:=rx;exact SeqAt.EqAt.int_int a t' b t
  | str b=>obtain ⟨t,rfl⟩:=rx;exact SeqAt.EqAt.int_str a t' b t
  | _=>exact absurd (show false=true from fx) Bool.false_ne_true
 | str a=>
  obtain ⟨t',rfl⟩:=ry
  cases x with
  | non=>cases rx;exact SeqAt.EqAt.str_none a t'
  | bl b=>cases rx;exact SeqAt.EqAt.str_bool a t' b
  | int b=>obtain ⟨t,rfl⟩:=rx;exact SeqAt.EqAt.str_int a t' b t
  | str b=>obtain ⟨t,rfl⟩:=rx;exact SeqAt.EqAt.str_str a t' b t
  | _=>exact absurd (show false=true from fx) Bool.false_ne_true
 | _=>exact absurd (show false=true from fy) Bool.false_ne_true
def eqU (x:V) (u:Value):Bool:=match u with
 | .none=>eqV .non x
 | .bool b=>eqV (.bl b) x
 | .int i _=>eqV (.int i) x
 | .str z _=>eqV (.str z) x
 | _=>false
theorem ZK9 {x y:V} {u:Value} (r:RelV y u) (f:ZEG y=true):eqU x u=eqV y x:=by
 cases y with
 | non=>cases r;rfl
 | bl b=>cases r;rfl
 | int i=>obtain ⟨t,rfl⟩:=r;rfl
 | str z=>obtain ⟨t,rfl⟩:=r;rfl
 | _=>exact absurd (show false=true from f) Bool.false_ne_true
theorem ZGF {x:V}:∀ {xs:List V} {us:List Value},Vals xs us->xs.all ZEG=true->us.any (eqU x)=xs.any fun y=>eqV y x
 | _,_,.nil,_=>rfl
 | y :: xs,u :: us,.cons r t,f=>by
  rw [List.all_cons,Bool.and_eq_true] at f
  rw [List.any_cons,List.any_cons,ZK9 r f.1,ZGF t f.2]
theorem ZEd {A:Around} {s:Shared} {x:V} {v:Value} (rx:RelV x v) (fx:ZEG x=true):∀ {xs:List V} {us:List Value},Vals xs us->xs.all ZEG=true->∀ u∈us,SeqAt.EqAt A s u v (eqU x u)
 | _,_,.nil,_=>fun u hu=>by cases hu
 | y :: xs,u :: us,.cons r t,f=>fun u' hu=>by
  rw [List.all_cons,Bool.and_eq_true] at f
  rcases List.mem_cons.mp hu with rfl | hu
  ·rw [ZK9 r f.1];exact ZFJ r rx f.1 fx
  ·exact ZEd rx fx t f.2 u' hu
def inV (x:V) (xs:List V):Bool:=xs.any fun y=>eqV y x
def rIn (K:PySem.W.Frag) (neg:Bool):R2:=fun x y H Q=>∃ p xs,y=.ref p∧(SqL K H p xs∨SqT K H p xs)∧ZEG x=true∧xs.all ZEG=true∧Q (.bl (if neg then !inV x xs else inV x xs)) H
theorem ZIK:OpR X (compareOp .In) (rIn X.K false):=by
 intro pins s σ H x y v u Q I rx ry h
 obtain ⟨p,xs,rfl,hq,fx,fs,q⟩:=h
 cases ry
 rcases hq with hq | hq
 ·obtain ⟨its,r,pl,hz⟩:=I.list hq
  refine SeqAt.in_listAt (eqU x) pl.isList (fun w hw=>ZEd rx fx r fs w (by simpa using hw)) ⟨.bl _,H,I,rfl,?_⟩
  rw [show its.toArray.any (eqU x)=its.any (eqU x) by simp,ZGF r fs]
  exact q
 ·obtain ⟨its,r,pl,hz⟩:=I.tuple hq
  refine SeqAt.in_tupleAt (eqU x) pl (fun w hw=>ZEd rx fx r fs w (by simpa using hw)) ⟨.bl _,H,I,rfl,?_⟩
  rw [show its.toArray.any (eqU x)=its.any (eqU x) by simp,ZGF r fs]
  exact q
theorem ZAS:ZBt X (.builtin "len") (fun xs H Q=>∃ p ys,xs=[.ref p]∧(SqL X.K H p ys∨SqT X.K H p ys)∧Q (.int ys.length) H):=by
 intro pins s σ H xs us Q I r h
 obtain ⟨p,ys,rfl,hq,q⟩:=h
 obtain ⟨u,rfl,rx⟩:=ZB8 r
 cases rx
 have hn:=ZD2
 rcases hq with hq | hq
 ·obtain ⟨its,r',pl,hz⟩:=I.list hq
  have hlen:=r'.length
  exact Calls.call_len_list pl.isList (by simp only [List.size_toArray] <;> omega) ⟨.int ys.length,H,I.tok _,⟨s.toks+1,by rw [List.size_toArray,hlen]⟩,q⟩
 ·obtain ⟨its,r',pl,hz⟩:=I.tuple hq
  have hlen:=r'.length
  exact len_tuple pl (by simp only [List.size_toArray] <;> omega) ⟨.int ys.length,H,I.tok _,⟨s.toks+1,by rw [List.size_toArray,hlen]⟩,q⟩
theorem ZFL:ZBt X (.builtin "len") (fun xs H Q=>∃ z,xs=[.str z]∧z.length<=sizeLine∧Q (.int z.length) H):=by
 intro pins s σ H xs us Q I r h
 obtain ⟨z,rfl,hz,q⟩:=h
 obtain ⟨u,rfl,t,rfl⟩:=ZB8 r
 have hn:=ZD2
 exact len_str (by omega) ⟨.int z.length,H,I.tok _,⟨_,rfl⟩,q⟩
theorem ZA0:ZBt X (.type "list") (fun xs H Q=>∃ p ys,xs=[.ref p]∧(SqL X.K H p ys∨SqT X.K H p ys)∧∀ l,H l=none->Q (.ref l) (upd H l (.lst ys))):=by
 intro pins s σ H xs us Q I r h
 obtain ⟨p,ys,rfl,hq,q⟩:=h
 obtain ⟨u,rfl,rx⟩:=ZB8 r
 cases rx
 have fin:∀ (its:List Value),Vals ys its->ys.length<=sizeLine->∀ (h':Heap) (c':Nat),(∀ b o',s.heap.get? b=some o'->h'.get? b=some o') ->
   h'.get? s.heap.objs.size=some { cls:=.type "list",dict:=none,data:=.seq its.toArray c',slots:=#[] }->EP X pins σ Q (.ref s.heap.objs.size) { s with heap:=h' }:=fun its r' hz h' c' kp e=>
  ⟨.ref s.heap.objs.size,_,I.laid (t':=s.toks) kp (Nat.le_refl _) (show ObjOk X.prog X.w _ h' _ (.lst ys) from ⟨hz,its,c',r',e⟩),rfl,q _ (I.hok.fresh (Nat.le_refl _))⟩
 rcases hq with hq | hq
 ·obtain ⟨its,r',pl,hz⟩:=I.list hq
  have hlen:=r'.length
  obtain ⟨o,ho,hc,n,hd⟩:=pl.isList
  exact call_list_seq p (.inl rfl) ho hc hd (fun h' c' kp e=>fin its r' hz h' c' kp e) (by simp only [List.size_toArray] <;> omega)
 ·obtain ⟨its,r',pl,hz⟩:=I.tuple hq
  have hlen:=r'.length
  obtain ⟨o,ho,hc,n,hd⟩:=pl
  exact call_list_seq p (.inr rfl) ho hc hd (fun h' c' kp e=>fin its r' hz h' c' kp e) (by simp only [List.size_toArray] <;> omega)
theorem ZA4:ZBt X (.type "tuple") (fun xs H Q=>∃ p ys,xs=[.ref p]∧((SqL X.K H p ys∧∀ l,H l=none->Q (.ref l) (upd H l (.tup ys)))∨(SqT X.K H p ys∧Q (.ref p) H))):=by
 intro pins s σ H xs us Q I r h
 obtain ⟨p,ys,rfl,h⟩:=h
 obtain ⟨u,rfl,rx⟩:=ZB8 r
 cases rx
 rcases h with ⟨hq,q⟩ | ⟨hq,q⟩
 ·obtain ⟨its,r',pl,hz⟩:=I.list hq
  have hlen:=r'.length
  refine call_tuple_list pl.isList (fun h' kp=>?_) (by simp only [List.size_toArray] <;> omega)
  have I1:Inv X pins σ H { s with heap:=h' }:=I.kept (t':=s.toks) kp
  have I2:Inv X pins σ (upd H h'.objs.size (.tup ys)) { s with heap:=h'.push { cls:=.type "tuple",data:=.seq its.toArray } }:=
   I1.laid (t':=s.toks) (fun b o e=>Heap.get?_push_of_some _ e) (Nat.le_refl _) (show ObjOk X.prog X.w _ _ _ (.tup ys) from ⟨hz,its,r',IsTup.new _ _⟩)
  exact ⟨.ref h'.objs.size,_,I2,rfl,q _ (I1.hok.fresh (Nat.le_refl _))⟩
 ·obtain ⟨its,r',pl,hz⟩:=I.tuple hq
  exact call_tuple_same pl ⟨.ref p,H,I,rfl,q⟩
def tyV (K:PySem.W.Frag) (T:String) (x:V) (H:Hp):Prop:=match x with
 | .str _=>T = "str"
 | .int _=>T = "int"
 | .ref p=>(T = "list" ∧ ∃ xs,SqL K H p xs)∨(T = "tuple" ∧ ∃ o,K.lookup p=some o∧o.cls=.type "tuple" ∧ o.dict=none) ∨
   (T = "dict" ∧ ((∃ kvs,H p=some (.dK kvs))∨∃ kvs,H p=some (.dT kvs)))∨(T = "set" ∧ ∃ S n,H p=some (.set S n))
 | _=>False
theorem ZLA {pins:List (Addr×Obj)} {σ:St} {H:Hp} {s:Shared} {T:String} {x:V} {v:Value} (I:Inv X pins σ H s) (r:RelV x v) (ty:tyV X.K T x H) :
  s.TypeIs v T∧∀ a,v=.ref a->∃ ob,s.heap.get? a=some ob∧ob.dict=none:=by
 cases x with
 | str z=>
  obtain ⟨t,rfl⟩:=r
  cases (show T = "str" from ty)
  exact ⟨typeIs_str s z t,fun _ e=>nomatch e⟩
 | int i=>
  obtain ⟨t,rfl⟩:=r
  cases (show T = "int" from ty)
  exact ⟨typeIs_int s i t,fun _ e=>nomatch e⟩
 | ref p=>
  cases r
  rcases ty with ⟨rfl,xs,hq⟩ | ⟨rfl,o,hk,hc,hd⟩ | ⟨rfl,hk⟩ | ⟨rfl,S,n,hk⟩
  ·obtain ⟨its,_,pl,_⟩:=I.list hq
   refine ⟨pl.isList.typeIs,fun a e=>?_⟩
   cases e
   obtain ⟨o,n,e,c,hd,_⟩:=pl
   exact ⟨o,e,hd⟩
  ·refine ⟨⟨o,I.kIn p o hk,hc⟩,fun a e=>?_⟩
   cases e
   exact ⟨o,I.kIn _ o hk,hd⟩
  ·have z:∃ o,s.heap.get? p=some o∧o.ExactDict:=by
    rcases hk with ⟨kvs,hk⟩ | ⟨kvs,hk⟩
    ·obtain ⟨_,_,_,_,o,_,_,e,ex,_⟩:=I.hok p _ hk
     exact ⟨o,e,ex⟩
    ·obtain ⟨_,_,_,_,o,_,_,e,ex,_⟩:=I.hok p _ hk
     exact ⟨o,e,ex⟩
   obtain ⟨o,e,ex⟩:=z
   refine ⟨⟨o,e,ex.1⟩,fun a e2=>?_⟩
   cases e2
   exact ⟨o,e,ex.2.1⟩
  ·obtain ⟨o,_,_,_,e,ex,_⟩:=I.hok p _ hk
   refine ⟨⟨o,e,ex.1⟩,fun a e2=>?_⟩
   cases e2
   exact ⟨o,e,ex.2.1⟩
 | _=>exact False.elim ty
def ZO9 (K:PySem.W.Frag) (T:String) (r:V->List V->Hp->VK->Prop) (to:TE):TE:=fun σ H Q=>to σ H fun x H1=>tyV K T x H1∧r x [] H1 Q
def tBM (K:PySem.W.Frag) (T:String) (r:V->List V->Hp->VK->Prop) (to:TE) (t:TA):TE:=fun σ H Q=>to σ H fun x H1=>tyV K T x H1∧t σ H1 fun xs H2=>r x xs H2 Q
variable {o e:Expr} {es:List Expr} {to:TE} {t:TA} {name:Str} {apos cpos:Pos} {T id:String} {r:V->List V->Hp->VK->Prop}
theorem ZGW (pa:PlainAttrs T) (slot:Slot T name id) (hty:typeOf (.builtin id)=pure (.type "method_descriptor")) (hm:MtR X id r) (ho:PE X o to)
  (hbase:attributeBase o name X.env (eval o X.env)=eval o X.env:=by rfl) (hline:(apos.endLine==cpos.line)=true:=by rfl):PE X (.Call (.Attribute o name apos) [] [] cpos) (ZO9 X.K T r to):=by
 intro pins s σ H Q I h
 refine wpAny_Call_method0_late hbase hline (thn (ho pins s σ H _ I h) fun v s1 ⟨x,H1,I1,r1,ty,q1⟩=>?_)
 obtain ⟨h1,h2⟩:=ZLA I1 r1 ty
 exact ⟨T,id,pa,slot,hty,h1,h2,Calls.callWith_builtin rfl (PySem.evalArgs_none (hm pins s1 σ H1 x [] v [] Q I1 r1 .nil q1))⟩
theorem ZCX (pa:PlainAttrs T) (slot:Slot T name id) (hty:typeOf (.builtin id)=pure (.type "method_descriptor")) (hm:MtR X id r) (ho:PE X o to) (ha:PA X (e :: es) t)
  (hbase:attributeBase o name X.env (eval o X.env)=eval o X.env:=by rfl)
  (hfew:((backTo cpos (starEach (e :: es) X.env)).all (fun x=>!x.1)&&(backToKw cpos (keywordEach [] X.env)).all (fun x=>x.1.isSome)
   && decide ((e :: es).length+([]:List Keyword).length+(if ([]:List Keyword).isEmpty then 0 else 1)<30))=true:=by rfl)
  (hline:(apos.endLine==cpos.line)=true:=by rfl) (hs:starEach (e :: es) X.env=(false,eval e X.env) :: starEach es X.env:=by rfl) (hplain:(backTo cpos (starEach es X.env)).any (·.1)=false:=by rfl) :
  PE X (.Call (.Attribute o name apos) (e :: es) [] cpos) (tBM X.K T r to t):=by
 intro pins s σ H Q I h
 refine wpAny_Call_method_late hbase hfew hline rfl (thn (ho pins s σ H _ I h) fun v s1 ⟨x,H1,I1,r1,ty,q1⟩=>?_)
 obtain ⟨h1,h2⟩:=ZLA I1 r1 ty
 refine ⟨T,id,pa,slot,hty,h1,h2,?_⟩
 have hA:=ha cpos pins s1 σ H1 _ I1 q1
 rw [hs] at hA ⊢
 refine Calls.callWith_builtin (by show (false || (backTo cpos (starEach es X.env)).any (·.1))=false;rw [hplain] <;> rfl) (Calls.evalArgs_plain ?_)
 exact thn hA fun us s2 ⟨vs,H2,I2,r2,q2⟩=>hm pins s2 σ H2 x vs v us Q I2 r1 r2 q2
end
def MtM (X:Cx) (id:String) (r:V->List V->Hp->VK->Prop):Prop:=
 ∀ (pins:List (Addr×Obj)) (s:Shared) (σ:St) (H:Hp) (x:V) (xs:List V) (v:Value) (us:List Value) (Q:VK),Inv X pins σ H s->RelV x v->Vals xs us->r x xs H Q ->
  wpAny (model X.prog X.w) X.A (call (.builtin id) (v :: us)) (EP X pins σ Q) X.xe s
theorem Vals.one:∀ {x:V} {us:List Value},Vals [x] us->∃ u,us=[u]∧RelV x u
 | _,_,.cons r .nil=>⟨_,rfl,r⟩
theorem Vals.zero:∀ {us:List Value},Vals [] us->us=[]
 | _,.nil=>rfl
theorem Vals.dropLast {xs:List V} {us:List Value} (h:Vals xs us):Vals xs.dropLast us.dropLast:=by
 induction h with
 | nil=>exact .nil
 | cons r t ih=>
  cases t with
  | nil=>exact .nil
  | cons q t'=>exact .cons r ih
theorem ZHK {α:Type} (l:List α):l.eraseIdx (l.length - 1)=l.dropLast:=by
 induction l with
 | nil=>rfl
 | cons a r ih=>
  cases r with
  | nil=>rfl
  | cons b r=>
   have e:(a :: b :: r).length - 1=((b :: r).length - 1)+1:=by
    have h1:(a :: b :: r).length=r.length+2:=rfl
    have h2:(b :: r).length=r.length+1:=rfl
    omega
   rw [e,List.eraseIdx_cons_succ,ih]
   all_goals rfl
section
variable {X:Cx} {pins:List (Addr×Obj)} {σ:St} {H:Hp} {s:Shared} {l b:Addr} {xs ys zs:List V}
theorem Inv.lset {its its':List Value} {n:Nat} {f:Array Value->Array Value} {t':Nat} (I:Inv X pins σ H s) (hH:H l=some (.lst xs))
  (e:s.heap.get? l=some { cls:=.type "list",data:=.seq its.toArray n }) (hf:f its.toArray=its'.toArray) (hv:Vals ys its') (hz:ys.length<=sizeLine) :
  Inv X pins σ (upd H l (.lst ys)) { s with heap:=s.heap.update l (Obj.mapSeq f),toks:=t' }:=by
 have q:=PySem.IsL.update e f
 rw [hf] at q
 refine I.write (x:=l) (e:=l) (by rw [hH];exact trivial) (.inl rfl) (fun b' u hb hu=>(Heap.get?_update_other s.heap (Obj.mapSeq f) (Ne.symm hb)).trans hu) ⟨_,q⟩ ?_
 exact ⟨hz,its',_,hv,q⟩
theorem Inv.lnew {its:List Value} {t':Nat} (I:Inv X pins σ H s) (hv:Vals ys its) (hz:ys.length<=sizeLine) :
  Inv X pins σ (upd H s.heap.objs.size (.lst ys)) { s with heap:=s.heap.push { cls:=.type "list",data:=.seq its.toArray },toks:=t' }:=
 I.laid (fun _ _ q=>Heap.get?_push_of_some _ q) (Nat.le_refl _) ⟨hz,its,0,hv,Heap.get?_push_size _ rfl⟩
theorem Inv.fresh (I:Inv X pins σ H s):H s.heap.objs.size=none:=I.hok.fresh (Nat.le_refl _)
theorem Inv.lstM (I:Inv X pins σ H s) (hH:H l=some (.lst xs)):xs.length<=sizeLine∧∃ (its:List Value) (n:Nat),Vals xs its∧xs.length=its.length∧s.heap.get? l=some { cls:=.type "list",data:=.seq its.toArray n }:=by
 obtain ⟨z,its,n,r,e⟩:=I.hok l _ hH
 exact ⟨z,its,n,r,r.length,e⟩
end
section
variable {X:Cx}
def ZMX:V->List V->Hp->VK->Prop:=fun x vs H Q=>∃ l xs y,x=.ref l∧vs=[y]∧H l=some (.lst xs)∧xs.length<sizeLine∧Q .non (upd H l (.lst (xs++[y])))
theorem ZAu:MtM X "list.append" ZMX:=by
 intro pins s σ H x vs v us Q I rx rv h
 obtain ⟨l,xs,y,rfl,rfl,hH,hz,q⟩:=h
 cases rx
 obtain ⟨u,rfl,ru⟩:=rv.one
 obtain ⟨z,its,n,r,hl,e⟩:=I.lstM hH
 refine call_meets F.slot_list_append ⟨_,e,rfl⟩ F.entry_list_append (F.args_list_append_2 _ _) (PySem.list_append l its.toArray n u (by rw [List.size_toArray];omega)) ⟨e,?_⟩
 refine ⟨.non,_,I.lset (its':=its++[u]) hH e (by simp) (r.append (.cons ru .nil)) ?_,rfl,q⟩
 rw [List.length_append,List.length_singleton]
 omega
def ZPZ:V->List V->Hp->VK->Prop:=fun x vs H Q=>∃ l xs y,x=.ref l∧vs=[]∧H l=some (.lst xs)∧xs[xs.length - 1]? = some y∧Q y (upd H l (.lst xs.dropLast))
theorem ZNV:MtM X "list.pop" ZPZ:=by
 intro pins s σ H x vs v us Q I rx rv h
 obtain ⟨l,xs,y,rfl,rfl,hH,hy,q⟩:=h
 cases rx
 have hus:=rv.zero
 subst hus
 obtain ⟨z,its,n,r,hl,e⟩:=I.lstM hH
 obtain ⟨u,hu,ru⟩:=r.get hy
 have hy':its.toArray[its.toArray.size - 1]? = some u:=by
  show its.toArray[its.length - 1]? = some u
  rw [<-Array.getElem?_toList,<-hl]
  exact hu
 refine call_meets F.slot_list_pop ⟨_,e,rfl⟩ F.entry_list_pop (F.args_list_pop_1 _) (MeetsSeq.list_pop_last l its.toArray n u hy' (by rw [List.size_toArray];omega)) ⟨e,?_⟩
 refine ⟨y,_,I.lset (its':=its.dropLast) hH e ?_ r.dropLast ?_,ru,q⟩
 ·show its.toArray.eraseIdxIfInBounds (its.toArray.size - 1)=its.dropLast.toArray
  rw [List.size_toArray,List.eraseIdxIfInBounds_toArray,ZHK]
 ·rw [List.length_dropLast]
  omega
def ZMy:V->List V->Hp->VK->Prop:=fun x vs H Q=>∃ l xs,x=.ref l∧vs=[]∧H l=some (.lst xs)∧Q .non (upd H l (.lst []))
theorem ZET:MtM X "list.clear" ZMy:=by
 intro pins s σ H x vs v us Q I rx rv h
 obtain ⟨l,xs,rfl,rfl,hH,q⟩:=h
 cases rx
 have hus:=rv.zero
 subst hus
 obtain ⟨z,its,n,r,hl,e⟩:=I.lstM hH
 refine call_meets F.slot_list_clear ⟨_,e,rfl⟩ F.entry_list_clear (F.args_list_clear_1 _) (AutoSeq1.list_clear_list_0 l its.toArray n (by rw [List.size_toArray];omega)) ⟨e,?_⟩
 exact ⟨.non,_,I.lset (its':=[]) (ys:=[]) hH e rfl .nil (Nat.zero_le _),rfl,q⟩
def ZPN:R2:=fun x y H Q=>∃ l b xs zs,x=.ref l∧y=.ref b∧H l=some (.lst xs)∧H b=some (.lst zs)∧xs.length+zs.length<=sizeLine∧∀ p,H p=none->Q (.ref p) (upd H p (.lst (xs++zs)))
theorem ZFP:OpR X (binaryOp .Add) ZPN:=by
 intro pins s σ H x y v u Q I rx ry h
 obtain ⟨l,b,xs,zs,rfl,rfl,hH,hB,hz,q⟩:=h
 cases rx
 cases ry
 obtain ⟨z,its,n,r,hl,e⟩:=I.lstM hH
 obtain ⟨z2,its2,n2,r2,hl2,e2⟩:=I.lstM hB
 refine PySem.P.add_list e e2 ?_ (by rw [List.size_toArray,List.size_toArray];omega)
 have ea:its.toArray++its2.toArray=(its++its2).toArray:=by simp
 rw [ea]
 exact ⟨.ref _,_,I.lnew (t':=s.toks) (r.append r2) (by rw [List.length_append];omega),rfl,q _ I.fresh⟩
end
section
variable {prog:Program} {w:World} {A:Around} {E:Value->Shared->Prop} {s:Shared}
set_option maxRecDepth 100000 in
end
section
variable {X:Cx}
end
end L2
namespace Att
open PySem PySem.W PySem.Calls PyProof.Rows
theorem ZDF {P:Params} {h:Heap}:∀ (ns:List Int) (vs:List Value),WellAll P h vs (ns.map WData.int)->IntsAre vs ns:=by
 intro ns
 induction ns with
 | nil=>
  intro vs w
  rw [List.map_nil] at w
  cases w
  exact .nil
 | cons n ns ih=>
  intro vs w
  rw [List.map_cons] at w
  cases w with
  | cons a b=>
   cases a
   exact .cons _ _ (ih _ b)
theorem ZJX {l:OpenLaw} {n:Nat} (hn:l.most=some n) {P:Params} {h:Heap} {args:List WData} {vals:List Value}
  (hpre:l.row.toRowW.claim.pre args=true) (hwl:WellAll P h vals args) :
  ∃ a vs ns,vals=[Value.ref a]∧args=[WData.list (ns.map WData.int)]∧h.get? a=some { cls:=.type "list",data:=.seq vs.toArray }∧IntsAre vs ns∧ns.length<=n:=by
 have hsh:WShape.hasAll [] args [.list .int]=true:=(pre_splitW hpre).1
 have hc:l.pre.holds [] { args:=args }=true:=(pre_splitW hpre).2
 obtain ⟨d,r,rfl,h1,h2⟩:=hasAllW_cons hsh
 obtain rfl:=hasAllW_nil h2
 obtain ⟨xs,rfl,h3⟩:=hasW_list h1
 obtain ⟨ns,rfl⟩:=items_int h3
 have hlen:ns.length<=n:=by
  unfold OpenLaw.pre at hc
  have h4:(WTm.not (.lt (.lit (.int (n:Int))) (.len (.arg 0)))).holds [] { args:=[.list (ns.map .int)] }=true:=by
   have h4:=(holds_andW hc).1
   rw [hn] at h4
   exact h4
  have h5:=condW_of h4 (w_not (w_lt w_lit (w_len_list (w_arg rfl))))
  rw [List.length_map] at h5
  refine Nat.le_of_not_lt fun q=>?_
  have q':(n:Int)<((ns.length:Nat):Int):=by omega
  first
   | (rw [decide_eq_true q'] at h5;exact absurd h5 (by decide))
   | (simp at h5;omega)
 cases hwl with
 | cons w1 w2=>
  cases w2
  cases w1 with
  | list ho hall=>exact ⟨_,_,ns,rfl,rfl,ho,ZDF ns _ hall,hlen⟩
theorem ZH6 (l:OpenLaw) (args:List WData):l.row.toRowW.claim.post args (.bool true) args=true:=
 postW_of (r:=l.row.toRowW) (X:=(true==true))
  (show WShape.has [] (.bool true) .bool=true by first | rfl | decide | simp [WShape.has,WShape.arms,WShape.armsAll])
  (show (WTm.eq .res (.lit (.bool true))).value [] { args:=args,res:=some (.bool true),after:=args }=some (.bool (true==true)) from w_eq_bool (w_res rfl) w_lit) rfl
theorem attach_call {l:OpenLaw} {n:Nat} {q:Program} {loose:List Str} {XP:(Str->Option Value)->Heap->Prop} {YP:World->Heap->Prop} {d:DefRec}
  (hn:l.most=some n) (hdf:d.params.defaults=[])
  (call:∀ (w:World) (s₀ s₁:Shared) (mg mb:Str->Option Value) (fa:Addr) (o:Obj) (pm cd doc:Value) (a:Addr) (vs:List Value) (ns:List Int),
   Ground q loose [] XP w s₀ mg mb s₁.heap->YP w s₁.heap ->
   s₁.heap.get? fa=some o->o.data=.func (docDef d.name d.params d.body d.scope pm cd doc)->s₁.heap.CodeRec cd d.name->mg d.name=some (.ref fa) ->
   s₁.heap.get? a=some { cls:=.type "list",data:=.seq vs.toArray }->IntsAre vs ns->ns.length<=n->s₁.gens=#[] ->
   codeAny (model l.prog w) callerA (.call (.ref fa) ⟨[.ref a],[]⟩) (fun r s'=>r=.ok (.ret (.bool true))∧OldK s₁.heap s'.heap∧s'.os=s₁.os∧AllBare s'.gens) s₁) :
  WalkO q loose XP YP l.row.toRowW d [] (fun f vs=>PySem.call f vs):=by
 intro w s₀ s₁ mg mb G Y fa o pm cd doc dV kV ho hd hcd hD hmg hg args vals as hpre hlay hrd hwl hlo
 obtain rfl:dV=.none:=Dflts.none hD hdf
 obtain rfl:kV=.none:=Dflts.noKw hD
 obtain ⟨a,vs,ns,rfl,rfl,hobj,hints,hlen⟩:=ZJX hn hpre hwl
 refine enter_call (codeAny_mono (call w s₀ s₁ mg mb fa o pm cd doc a vs ns G Y ho (fd_plain hd) hcd hmg hobj hints hlen hg) fun r s' hq=>?_)
 obtain ⟨rfl,h2,h3,h4⟩:=hq
 exact ⟨.inl ⟨.bool true,.bool true,[],rfl,fun _=>rfl,.bool true,ZH6 l _,fun _=>⟨List.Pairwise.nil,fun _ hm=>(nomatch hm)⟩⟩,h2,h3,h4⟩
section
variable {prog:Program} {w:World} {A:Around} {E:Value->Shared->Prop} {s:Shared} {K:Frag}
def ZO8 (h:Heap) (L d:Addr):List (Addr×Obj):=(List.range h.objs.size).filterMap fun a=>if a=L∨a=d then none else (h.get? a).map fun o=>(a,o)
end
end Att
namespace L2
open PySem PySem.Spec PyProof.Rows
theorem ZCd:∀ {vs:List Value} {ns:List Int},IntsAre vs ns->Vals (ns.map V.int) vs
 | _,_,.nil=>.nil
 | _,_,.cons n t h=>.cons ⟨t,rfl⟩ (ZCd h)
def ZPc (H:Hp):Prop:=∀ b,H b=none∨∃ o xs,H b=some (.frz o (.lst xs))
abbrev KOf {K:PySem.W.Frag} {h:Heap} (_:K.In h):PySem.W.Frag:=K
def ZAq (s:Stmt) (j:Nat):Stmt:=match s with
 | .ClassDef _ _ _ body _ _ _ _ _ _ _=>body.getD j (.Pass ⟨0,0,0,0⟩)
 | _=>.Pass ⟨0,0,0,0⟩
def ZA6 (s:Stmt):Arguments:=match s with
 | .FunctionDef _ a _ _ _ _ _ _ _ _=>a
 | _=>{ posonlyargs:=[],args:=[],vararg:=none,kwonlyargs:=[],kw_defaults:=[],kwarg:=none,defaults:=[] }
def ZAp (s:Stmt):List Stmt:=match s with
 | .FunctionDef _ _ b _ _ _ _ _ _ _=>b
 | _=>[]
def ZAI (s:Stmt):Scope:=match s with
 | .FunctionDef _ _ _ _ _ _ sc _ _ _=>sc
 | _=>{ kind:=.function,names:=[],isGenerator:=false,isCoroutine:=false }
abbrev CX0:CXT:=fun _ _ _ _ _ _=>False
abbrev E0:XK:=fun _ _ _=>False
theorem ZBQ {X:Cx}:ZBP CX0 X E0:=fun _ _ _ _ _ _ _ h=>h.elim
structure Fun (K:PySem.W.Frag) (x qual:Str) (st:Stmt) (f:Addr) (fd:FuncData):Prop where
 ex:∃ (oc:Value) (od:Option Addr) (kV doc pm:Value) (an:Option Addr) (cdv ct:Value) (osl:Array (Option Value)),
  fd=PySem.W.fnOf x qual (ZA6 st) (ZAp st) (ZAI st) .none kV doc pm an cdv ct∧K.lookup f=some ⟨oc,od,.func fd,osl⟩∧PySem.W.codeIn K cdv qual=true
 kp:PySem.W.keepIn K (.ref f)=true
section
variable {P:Program} {w:World} {K:PySem.W.Frag} {mg:Str->Option Value} {base:Heap}
theorem Fun.ok {x qual:Str} {st:Stmt} {f:Addr} {fd:FuncData} {N ps:List Str} {k:Nat} {sp:Sp} (F:Fun K x qual st f fd) (S:FnScope N ps (ZAI st)) (len:∀ vs H Q E,sp vs H Q E->vs.length=ps.length)
  (hbody:∀ (cdv:Value) (A:Around) (outer:List Env) (s:Shared) (H:Hp) (vs:List V) (Q:VK) (E:XK),Room k (A.deeper (envOfC qual (ZAI st) s.heap.objs.size f cdv))->sp vs H Q E ->
   ∃ t,PSs (ZFp CX0 P w K mg base N qual (ZAI st) f cdv A outer s H E).nox (ZAp st) t∧t { nx:=fun _ H'=>Q .non H',rt:=Q } (ZDs N vs) H):FnOk P w K mg base CX0 (k+1) f fd ps sp:=by
 obtain ⟨oc,od,kV,doc,pm,an,cdv,ct,osl,rfl,lk,hcd⟩:=F.ex
 refine ZLo lk hcd S len fun A outer s H vs Q E hr hsp=>?_
 obtain ⟨t,h,q⟩:=hbody cdv A outer s H vs Q E hr hsp
 exact ⟨t,h.nox,q⟩
theorem Fun.binds {x qual:Str} {st:Stmt} {f:Addr} {fd:FuncData} {ps:List Str} (F:Fun K x qual st f fd)
  (h:∀ (kV doc pm:Value) (an:Option Addr) (cdv ct:Value) (us:List Value),us.length=ps.length->bindArgs (PySem.W.fnOf x qual (ZA6 st) (ZAp st) (ZAI st) .none kV doc pm an cdv ct) ⟨us,[]⟩=pure (ps.zip us)):Binds K fd ps []:=by
 obtain ⟨oc,od,kV,doc,pm,an,cdv,ct,osl,rfl,lk,hcd⟩:=F.ex
 exact .all (h kV doc pm an cdv ct)
theorem ZBZ {x qual:Str} {st:Stmt} {f:Addr} {oc:Value} {od an:Option Addr} {osl:Array (Option Value)} {kV doc pm cdv ct:Value} (l:K.lookup f=some ⟨oc,od,.func (PySem.W.fnOf x qual (ZA6 st) (ZAp st) (ZAI st) .none kV doc pm an cdv ct),osl⟩)
  (c:PySem.W.codeIn K cdv qual=true) (k:PySem.W.keepIn K (.ref f)=true):Fun K x qual st f (PySem.W.fnOf x qual (ZA6 st) (ZAp st) (ZAI st) .none kV doc pm an cdv ct):=⟨⟨oc,od,kV,doc,pm,an,cdv,ct,osl,rfl,l,c⟩,k⟩
end
theorem ZCW {A:Around} {k:Nat} (hr:Room k A):A.units+1<cLine:=Nat.lt_of_le_of_lt (Nat.add_le_add_left (by decide:1<=64) _) hr.units
theorem ZAO {n:Nat} (h:n<=1000):n<sizeLine:=Nat.lt_of_le_of_lt h (by decide)
section
variable {X:Cx}
theorem pv (i:Nat) {x:Str} {pos:Pos} (hN:X.N[i]? = some x:=by rfl) (hv:Vis X.env.scope x:=by first | exact Or.inl rfl | exact Or.inr (Or.inl rfl) | exact Or.inr (Or.inr rfl)) (hd:(x==("__debug__" : Str))=false:=by decide)
  (hcd:(x==("__classdict__" : Str))=false:=by decide):PE X (.Name x pos) (ZM7 i):=ZLB hN hv hd hcd
end
theorem ZAz {A B:Prop} (h:B):if false=true then A else B:=by
 rw [if_neg Bool.false_ne_true]
 exact h
theorem ZBb {A B:Prop} (h:A):if true=true then A else B:=by
 rw [if_pos rfl]
 exact h
theorem ZFO {c A B:Prop} [Decidable c] (h1:c->A) (h2:¬ c->B):if c then A else B:=by
 by_cases h:c
 ·rw [if_pos h]
  exact h1 h
 ·rw [if_neg h]
  exact h2 h
theorem ZHh {c A B:Prop} [Decidable c] (hc:c) (h:B):if (!decide c)=true then A else B:=by
 rw [decide_eq_true hc]
 exact ZAz h
def Same (H H':Hp):Prop:=∀ b o,H b=some o->H' b=some o
theorem Same.refl (H:Hp):Same H H:=fun _ _ h=>h
theorem Same.trans {H H1 H2:Hp} (a:Same H H1) (b:Same H1 H2):Same H H2:=fun c o h=>b c o (a c o h)
theorem Same.free {H H':Hp} (e:Same H H') {l:Addr} (h:H' l=Option.none):H l=Option.none:=by
 cases q:H l with
 | none=>rfl
 | some o=>
  rw [e l o q] at h
  cases h
theorem Same.seq {K:PySem.W.Frag} {H H':Hp} {a:Addr} {xs:List V} (e:Same H H') (h:SqL K H a xs):SqL K H' a xs:=by
 rcases h with (h | ⟨o,h⟩) | h
 ·exact .inl (.inl (e _ _ h))
 ·exact .inl (.inr ⟨o,e _ _ h⟩)
 ·exact .inr h
section
variable {prog:Program} {w:World} {A:Around} {R:Result->Shared->Prop} {s:Shared}
theorem ZDl {elt target iter:Expr} {ifs:List Expr} {scope:Scope} {pos:Pos} {it acc:Value} {env:Env} (I:Nat->Shared->Prop)
  (turn:∀ n s,I n s->wpAny (model prog w) A (pyNext it) (fun r s₁=>match r with
   | none=>R (.ok .next) s₁
   | some v=>wpAny (model prog w) A (letOwnedTupleGo target it v) (fun _ s₀=>wpAny (model prog w) A (assign target env v) (fun _ s₂=>
     wpAny (model prog w) A (forIn ifs true fun c r=>if r=true then do let ok<-isTrue c env (eval c env);pure (ForInStep.yield ok) else pure (ForInStep.yield r)) (fun ok s₃=>
      if ok=true then wpAny (model prog w) A (eval elt env) (fun x s₄=>
       wpAny (model prog w) A (call (.builtin "list.append") [acc,x]) (fun _ s₅=>∃ m,m<n∧I m s₅) (notedBy (model prog w) A env fun e s'=>R (.error e) s') s₄) (notedBy (model prog w) A env fun e s'=>R (.error e) s') s₃
      else ∃ m,m<n∧I m s₃) (notedBy (model prog w) A env fun e s'=>R (.error e) s') s₂) (notedBy (model prog w) A env fun e s'=>R (.error e) s') s₀) (notedBy (model prog w) A env fun e s'=>R (.error e) s') s₁) (notedBy (model prog w) A env fun e s'=>R (.error e) s') s)
  (n:Nat) (h:I n s) :
  codeAny (model prog w) A (.compLoop (.ListComp elt [⟨target,iter,ifs,0⟩] scope pos) 0 it acc env) R s:=by
 refine codeAny_loop rfl I (fun n s hI=>?_) n h
 show wpAny _ A ((compTurn (.ListComp elt [⟨target,iter,ifs,0⟩] scope pos) 0 it acc env).onRaise (fun x=>do noteFrame x env;theTreesLotGoes x)) _ _ s
 refine wpAny_noted ?_
 rw [compTurn_list]
 refine wpAny_bind (wpAny_standAt (wpAny_bind (wpAny_mono (turn n s hI) (fun r s₁ h₁=>?_) fun _ _ h'=>h')))
 cases r with
 | none=>exact wpAny_pure h₁
 | some v=>
  refine wpAny_bind (wpAny_mono h₁ (fun _ s₀ h₀=>?_) fun _ _ h'=>h')
  refine wpAny_bind (wpAny_mono h₀ (fun _ s₂ h₂=>wpAny_bind (wpAny_mono h₂ (fun ok s₃ h₃=>?_) fun _ _ h'=>h')) fun _ _ h'=>h')
  cases ok with
  | false=>exact wpAny_pure ⟨rfl,h₃⟩
  | true=>
   exact wpAny_bind (wpAny_bind (wpAny_mono h₃ (fun x s₄ h₄=>wpAny_bind (wpAny_mono h₄ (fun _ s₅ h₅=>wpAny_pure (wpAny_pure ⟨rfl,h₅⟩)) fun _ _ h'=>h')) fun _ _ h'=>h'))
end
def ZBR (env:Env) (l:List (Str×NameKind)):List (Str×Addr)->List (Str×Addr):=fun cs=>l.foldl (fun cs p=>if p.2==.free then (p.1,(env.cells.lookup p.1).getD 0) :: cs else cs) cs
def ZFE (env:Env) (l:List (Str×NameKind)):Prop:=∀ p∈l,p.2=.free->∃ c,env.cells.lookup p.1=some c
theorem ZCr {env:Env} {scope:Scope} (h:ZFE env scope.names):closureFor scope env=pure (ZBR env scope.names []):=by
 have all:∀ (l:List (Str×NameKind)) (cs:List (Str×Addr)),ZFE env l->(forIn l cs fun x r=>if (x.2==.free)=true then do let a<-cellOf env x.1;pure (ForInStep.yield ((x.1,a) :: r)) else pure (ForInStep.yield r):Sem (List (Str×Addr)))=pure (ZBR env l cs):=by
  intro l
  induction l with
  | nil=>intro cs _;rfl
  | cons p r ih=>
   intro cs hf
   have e:ZBR env (p :: r) cs=ZBR env r (if p.2==.free then (p.1,(env.cells.lookup p.1).getD 0) :: cs else cs):=rfl
   rw [List.forIn_cons,e]
   cases hk:(p.2==NameKind.free) with
   | true=>
    obtain ⟨c,hc⟩:=hf p List.mem_cons_self (eq_of_beq hk)
    have hcell:cellOf env p.1=pure c:=by unfold cellOf;rw [hc]
    simp only [if_true,hcell,pure_bind]
    rw [ih _ fun q hq=>hf q (List.mem_cons_of_mem _ hq),hc]
    rfl
   | false=>
    simp only [Bool.false_eq_true,if_false,pure_bind]
    exact ih _ fun q hq=>hf q (List.mem_cons_of_mem _ hq)
 have:=all scope.names [] h
 simpa [closureFor] using this
theorem ZG0 {env:Env}:∀ {l:List (Str×NameKind)} {cs:List (Str×Addr)} {x:Str} {c:Addr},ZFE env l->(ZBR env l cs).lookup x=some c->cs.lookup x=some c∨env.cells.lookup x=some c
 | [],_,_,_,_,h=>.inl h
 | p :: r,cs,x,c,hf,h=>by
  have h':(ZBR env r (if p.2==.free then (p.1,(env.cells.lookup p.1).getD 0) :: cs else cs)).lookup x=some c:=h
  rcases ZG0 (fun q hq=>hf q (List.mem_cons_of_mem _ hq)) h' with q | q
  ·cases hk:(p.2==NameKind.free) with
   | true=>
    rw [hk,if_pos rfl,List.lookup_cons] at q
    cases e:x==p.1 with
    | true=>
     rw [e] at q
     obtain ⟨d,hd⟩:=hf p List.mem_cons_self (eq_of_beq hk)
     refine .inr ?_
     rw [eq_of_beq e,hd]
     rw [hd] at q
     exact q
    | false=>
     rw [e] at q
     exact .inl q
   | false=>
    rw [hk,if_neg Bool.false_ne_true] at q
    exact .inl q
  ·exact .inr q
theorem ZFR {env:Env} {x:Str}:∀ {l:List (Str×NameKind)} {cs:List (Str×Addr)},(cs.lookup x).isSome=true->((ZBR env l cs).lookup x).isSome=true
 | [],_,h=>h
 | p :: r,cs,h=>by
  show ((ZBR env r (if p.2==.free then (p.1,(env.cells.lookup p.1).getD 0) :: cs else cs)).lookup x).isSome=true
  refine ZFR ?_
  cases hk:(p.2==NameKind.free) with
  | true=>
   rw [if_pos rfl,List.lookup_cons]
   cases e:x==p.1 with
   | true=>rfl
   | false=>exact h
  | false=>rw [if_neg Bool.false_ne_true];exact h
theorem ZGU {env:Env} {x:Str}:∀ {l:List (Str×NameKind)} {cs:List (Str×Addr)},(x,NameKind.free)∈l->((ZBR env l cs).lookup x).isSome=true
 | [],_,h=>by cases h
 | p :: r,cs,h=>by
  show ((ZBR env r (if p.2==.free then (p.1,(env.cells.lookup p.1).getD 0) :: cs else cs)).lookup x).isSome=true
  rcases List.mem_cons.mp h with e | h
  ·subst e
   refine ZFR ?_
   show (List.lookup x ((x,(env.cells.lookup x).getD 0) :: cs)).isSome=true
   rw [List.lookup_cons,beq_self_eq_true]
   rfl
  ·exact ZGU h
def SubCells (env:Env) (cl:List (Str×Addr)):Prop:=∀ x c,cl.lookup x=some c->env.cells.lookup x=some c
theorem SubCells.get {env:Env} {cl:List (Str×Addr)} {x:Str} {c:Addr} (h:SubCells env cl) (e:cl.lookup x=some c):env.cells.lookup x=some c:=h x c e
theorem ZEZ {env:Env} {l:List (Str×NameKind)} (h:ZFE env l):SubCells env (ZBR env l []):=fun x c e=>by
 rcases ZG0 h e with q | q
 ·cases q
 ·exact q
theorem ZC1 {env:Env}:∀ {names:List (Str×NameKind)} {x:Str},names.lookup x=some .free ->
  (names.map fun (n,k)=>if (k==NameKind.free&&env.scope.kind==.function&&env.kindOf n==some .cell) then (n,NameKind.cell) else (n,k)).lookup x=some .cell ∨
  (names.map fun (n,k)=>if (k==NameKind.free&&env.scope.kind==.function&&env.kindOf n==some .cell) then (n,NameKind.cell) else (n,k)).lookup x=some .free
 | [],_,h=>by simp at h
 | (n,k) :: r,x,h=>by
  rw [List.lookup_cons] at h
  simp only [List.map_cons]
  cases hx:x==n with
  | true=>
   rw [hx] at h
   cases h
   split
   ·exact .inl (by rw [List.lookup_cons,hx])
   ·exact .inr (by rw [List.lookup_cons,hx])
  | false=>
   rw [hx] at h
   have ih:=ZC1 (env:=env) h
   split
   ·rw [List.lookup_cons,hx];exact ih
   ·rw [List.lookup_cons,hx];exact ih
theorem ZCz {env:Env}:∀ {names:List (Str×NameKind)} {x:Str},(∀ y∈names,y.2≠.cell) ->
  ((names.map fun (n,k)=>if (k==NameKind.free&&env.scope.kind==.function&&env.kindOf n==some .cell) then (n,NameKind.cell) else (n,k)).lookup x=some .cell ∨
  (names.map fun (n,k)=>if (k==NameKind.free&&env.scope.kind==.function&&env.kindOf n==some .cell) then (n,NameKind.cell) else (n,k)).lookup x=some .free)->(x,NameKind.free)∈names
 | [],_,_,h=>by simp at h
 | (n,k) :: r,x,hc,h=>by
  have hr:∀ y∈r,y.2≠.cell:=fun y hy=>hc y (List.mem_cons_of_mem _ hy)
  simp only [List.map_cons] at h
  cases hx:x==n with
  | true=>
   have en:=eq_of_beq hx
   subst en
   by_cases hk:k=.free
   ·subst hk;exact List.mem_cons_self
   ·have hb:(k==NameKind.free)=false:=by simpa using hk
    simp only [hb,Bool.false_and,Bool.false_eq_true,if_false,List.lookup_cons,beq_self_eq_true] at h
    rcases h with h | h
    ·exact absurd (Option.some.inj h) (hc _ List.mem_cons_self)
    ·exact absurd (Option.some.inj h) hk
  | false=>
   refine List.mem_cons_of_mem _ (ZCz (env:=env) hr ?_)
   split at h
   ·simpa only [List.lookup_cons,hx] using h
   ·simpa only [List.lookup_cons,hx] using h
def FreeOk (X:Cx) (scope:Scope):List Nat->List Str->Prop
 | [],[]=>True
 | i :: is,y :: ys=>X.N[i]? = some y∧(X.env.kindOf y=some .cell∨X.env.kindOf y=some .free)∧scope.names.lookup y=some .free∧FreeOk X scope is ys
 | _,_=>False
theorem FreeOk.len {X:Cx} {scope:Scope}:∀ {is:List Nat} {ys:List Str},FreeOk X scope is ys->is.length=ys.length
 | [],[],_=>rfl
 | _ :: _,_ :: _,h=>congrArg (· + 1) h.2.2.2.len
theorem FreeOk.get {X:Cx} {scope:Scope}:∀ {is:List Nat} {ys:List Str} {j:Nat} {y:Str},FreeOk X scope is ys->ys[j]? = some y ->
  ∃ i,is[j]? = some i∧X.N[i]? = some y∧(X.env.kindOf y=some .cell∨X.env.kindOf y=some .free)∧scope.names.lookup y=some .free
 | [],[],_,_,_,h=>by simp at h
 | i :: _,z :: _,0,y,f,h=>by
  simp at h
  subst h
  exact ⟨i,rfl,f.1,f.2.1,f.2.2.1⟩
 | _ :: is,_ :: ys,j+1,y,f,h=>by
  obtain ⟨i,e,r⟩:=FreeOk.get (j:=j) f.2.2.2 (by simpa using h)
  exact ⟨i,by simpa using e,r⟩
def ZAc (X:Cx) (N:List Str) (scope:Scope) (cl:List (Str×Addr)) (C:Addr) (s:Shared) (H:Hp) (fp:List Addr) (E:Value->Shared->Prop):Cx where
 prog:=X.prog
 w:=X.w
 K:=X.K
 mg:=X.mg
 base:=X.base
 A:=X.A
 N:=N
 s₀:=s
 H₀:=H
 env:=compEnvC scope cl C X.env
 outer:=X.stack
 stack:=X.stack
 ex:=fp
 fn:=fun _=>false
 calm:=X.calm
 pn:=[]
 xe:=E
def ZIH (σ:St) (ix:List Nat):St:=none :: ix.map fun i=>(σ[i]?).join
def ZDw (σ:St) (ix:List Nat) (x:V):St:=some x :: ix.map fun i=>(σ[i]?).join
def PTs (X:Cx) (ifs:List Expr) (tt:TT):Prop:=
 ∀ (pins:List (Addr×Obj)) (s:Shared) (σ:St) (H:Hp) (Q:Bool->Hp->Prop),Inv X pins σ H s->tt σ H Q ->
  wpAny (model X.prog X.w) X.A (forIn ifs true fun c r=>if r=true then do let ok<-isTrue c X.env (eval c X.env);pure (ForInStep.yield ok) else pure (ForInStep.yield r)) (TP X pins σ Q) X.xe s
def ZLO:TT:=fun _ H Q=>Q true H
theorem ZBM {X:Cx}:PTs X [] ZLO:=fun _ _ _ H _ I h=>wpAny_tests_nil ⟨H,I,h⟩
theorem ZGJ {X:Cx} {c:Expr} {t:TT} (h:PT X c t):PTs X [c] t:=fun pins s σ H Q I hw=>wpAny_tests_one (h pins s σ H Q I hw)
def cEnd (J:It) (σ:St) (ix:List Nat) (tt:TT) (te:TE) (H1:Hp) (Q:VK):Prop:=
 ∀ D,H1 D=none->∃ W:Nat->Nat->Hp->Prop,(∃ m,W 0 m (upd H1 D (.lst [])))∧∀ i m H,W i m H ->
  (J.stop i H∧Q (.ref D) H)∨(J.go i H∧∀ x H',J.yld i H x H'->tt (ZDw σ ix x) H' fun c H2=>
   if c=true then te (ZDw σ ix x) H2 fun y H3=>∃ ys m',H3 D=some (.lst ys)∧ys.length<sizeLine∧m'<m∧W (i+1) m' (upd H3 D (.lst (ys++[y])))
   else ∃ m',m'<m∧W (i+1) m' H2)
def ZL2 (wi:TI) (ix:List Nat) (tt:TT) (te:TE):TE:=fun σ H Q=>wi σ H fun J H1=>cEnd J σ ix tt te H1 Q
section
variable {X:Cx} {pins:List (Addr×Obj)} {σ:St} {H:Hp} {s:Shared}
theorem ZIk {ix:List Nat} {j:Nat} {v:V} (h:(ix.map fun i=>(σ[i]?).join)[j]? = some (some v)):∃ i,ix[j]? = some i∧σ[i]? = some (some v):=by
 rw [List.getElem?_map] at h
 cases e:ix[j]? with
 | none=>rw [e] at h;cases h
 | some i=>
  rw [e] at h
  have h':(σ[i]?).join=some v:=Option.some.inj h
  refine ⟨i,rfl,?_⟩
  cases q:σ[i]? with
  | none=>rw [q] at h';cases h'
  | some o=>
   rw [q] at h'
   cases o with
   | none=>cases h'
   | some z=>cases h';rfl
def ZCl (env:Env) (l:List (Str×NameKind)):Bool:=l.all fun p=>!(p.2==.free) || env.kindOf p.1==some .cell || env.kindOf p.1==some .free
theorem ZCe {X:Cx} {l:List (Str×NameKind)} (ok:X.Ok) (h:ZCl X.env l=true):ZFE X.env l:=fun p hp hk=>by
 have q:=List.all_eq_true.mp h p hp
 rw [hk] at q
 have q':(X.env.kindOf p.1==some .cell || X.env.kindOf p.1==some .free)=true:=by simpa using q
 rcases Bool.or_eq_true_iff.mp q' with q | q
 ·exact ok.has p.1 (.inl (eq_of_beq q))
 ·exact ok.has p.1 (.inr (eq_of_beq q))
def ZCF (scope:Scope) (x:Str):Bool:=scope.kind==.function&&scope.names.lookup x==some .local&&scope.names.all (fun p=>!(p.2==.cell))&&scope.names.all (fun p=>!(p.2==.local) || scope.names.lookup p.1==some .local)
structure BlockOk (scope:Scope) (x:Str):Prop where
 kind:scope.kind=.function
 own:scope.names.lookup x=some .local
 cell:∀ y∈scope.names,y.2≠.cell
 names:∀ y∈scope.names,y.2=.local->scope.names.lookup y.1=some .local
theorem ZCT {scope:Scope} {x:Str} (h:ZCF scope x=true):BlockOk scope x:=by
 unfold ZCF at h
 rw [Bool.and_eq_true,Bool.and_eq_true,Bool.and_eq_true] at h
 obtain ⟨⟨⟨h1,h2⟩,h3⟩,h4⟩:=h
 refine ⟨eq_of_beq h1,eq_of_beq h2,fun y hy z=>?_,fun y hy z=>?_⟩
 ·have:=List.all_eq_true.mp h3 y hy
  rw [z] at this
  cases this
 ·have:=List.all_eq_true.mp h4 y hy
  rw [z] at this
  have q:(scope.names.lookup y.1==some NameKind.local)=true:=by simpa using this
  exact eq_of_beq q
theorem ZJY {scope:Scope} {env:Env} (hcell:∀ y∈scope.names,y.2≠.cell) (y:Str) (h:(relabel scope env).names.lookup y=some .cell∨(relabel scope env).names.lookup y=some .free):∃ c,(ZBR env scope.names []).lookup y=some c:=
 Option.isSome_iff_exists.mp (ZGU (ZCz hcell h))
def ZHE (i:Nat) (t:TE):TS:=fun D σ H=>t σ H fun v H1=>D.nx (σ.set i (some v)) H1
end
def ZEH (xs:List Str) (σ:St) (ix:List Nat):St:=xs.map (fun _=>(none:Option V))++ix.map fun i=>(σ[i]?).join
def ZKO (J:It) (k:Nat) (g:TG) (σ:St) (ix:List Nat) (tt:TT) (te:TE) (H1:Hp) (Q:VK):Prop:=
 ∀ D,H1 D=none->∃ W:Nat->Nat->Hp->Prop,(∃ m,W 0 m (upd H1 D (.lst [])))∧∀ i m H,W i m H ->
  (J.stop i H∧Q (.ref D) H)∨(J.go i H∧∀ x H',J.yld i H x H'->∀ os:St,os.length=k->g x (os++ix.map fun i=>(σ[i]?).join) H' fun σ6 H6=>(∃ os':St,os'.length=k∧σ6=os'++ix.map fun i=>(σ[i]?).join)∧tt σ6 H6 fun c H2=>
   if c=true then te σ6 H2 fun y H3=>∃ ys m',H3 D=some (.lst ys)∧ys.length<sizeLine∧m'<m∧W (i+1) m' (upd H3 D (.lst (ys++[y])))
   else ∃ m',m'<m∧W (i+1) m' H2)
def ZLC (k:Nat) (g:TG) (wi:TI) (ix:List Nat) (tt:TT) (te:TE):TE:=fun σ H Q=>wi σ H fun J H1=>ZKO J k g σ ix tt te H1 Q
section
variable {X:Cx} {pins:List (Addr×Obj)} {σ:St} {H:Hp} {s:Shared}
theorem ZFZ {xs:List Str} {ys:List Str} {ix:List Nat} {scope:Scope} {cl:List (Str×Addr)} {fp:List Addr} {E:Value->Shared->Prop} {h₁:Heap} {D C n:Nat} {tk:Nat} {m:Str->Option Value}
  (I:Inv X pins σ H s) (hf:∀ b∈fp,ZEE X pins H b∧b<s.heap.objs.size) (sub:SubCells X.env cl) (hkind:scope.kind=.function)
  (hhas:∀ y,((relabel scope X.env).names.lookup y=some .cell∨(relabel scope X.env).names.lookup y=some .free)->∃ c,cl.lookup y=some c) (fo:FreeOk X scope ix ys)
  (hD:s.heap.objs.size<=D) (hC:s.heap.objs.size<=C) (hDC:D≠C) (hns:h₁.Ns C m) (k:∀ b o,s.heap.get? b=some o->h₁.get? b=some o)
  (hd:h₁.get? D=some { cls:=.type "list",data:=.seq ([]:List Value).toArray n }) :
  Inv (ZAc X (xs++ys) scope cl C s H fp E) [] (ZEH xs σ ix) (upd H D (.lst [])) { s with heap:=h₁,toks:=tk }:=by
 have lt_of_cell:∀ y c,cl.lookup y=some c->c<s.heap.objs.size:=fun y c e=>by
  obtain ⟨v,q⟩:=I.cell y c (sub.get e)
  exact q.lt
 refine ⟨⟨I.ok.mod,hkind,I.ok.glob,I.ok.blt,hC,fun y z c h1 h2=>I.ok.inj y z c (sub.get h1) (sub.get h2),hhas,fun y c h _=>absurd h (by simp [ZAc]),I.ok.hd,I.ok.frames,.inl rfl,fun b hb=>⟨?_,fun y c e=>?_⟩,I.bs,Nat.le_trans I.ok.bsz I.sz,fun b o e hb=>?_,fun b hb z=>?_,I.stack,I.stkFree⟩,
  rfl,I.bare,Un.laid k hD (I.hok.fresh hD),⟨m,hns,fun j y v e1 e2 e3=>?_⟩,fun y c e=>?_,?_,fun y c e=>?_,fun p hp=>absurd (show p∈([]:List (Addr×Obj)) from hp) (by simp),I.hok.laid k hD ?_,?_⟩
 ·exact Nat.ne_of_lt (Nat.lt_of_lt_of_le (hf b hb).2 hC)
 ·exact (hf b hb).1.2.2.2.2.1 y c (sub.get e)
 ·obtain ⟨_,_,_,z,_⟩:=(hf b hb).1
  rcases z with z | z
  ·exact I.ok.noex b o e z
  ·exact absurd (Nat.lt_of_lt_of_le (Heap.lt_size (I.ok.bs b o e).1) z) (Nat.lt_irrefl _)
 ·obtain ⟨_,z1,z2,_⟩:=(hf b hb).1
  rcases List.mem_cons.mp (I.stkSub b z) with q | q
  ·exact z1 q
  ·exact z2 q
 ·by_cases hj:j<xs.length
  ·exfalso
   have e3:(xs.map (fun _=>(none:Option V))++ix.map fun i=>(σ[i]?).join)[j]? = some (some v):=e2
   rw [List.getElem?_append_left (by rw [List.length_map];exact hj),List.getElem?_map,List.getElem?_eq_getElem hj] at e3
   cases e3
  ·have e0:(xs++ys)[j]? = some y:=e1
   have e1':ys[j - xs.length]? = some y:=by rw [List.getElem?_append_right (Nat.le_of_not_lt hj)] at e0;exact e0
   have e3:(xs.map (fun _=>(none:Option V))++ix.map fun i=>(σ[i]?).join)[j]? = some (some v):=e2
   have e2':(ix.map fun i=>(σ[i]?).join)[j - xs.length]? = some (some v):=by
    rw [List.getElem?_append_right (by rw [List.length_map];exact Nat.le_of_not_lt hj),List.length_map] at e3
    exact e3
   obtain ⟨i,q1,q2⟩:=ZIk e2'
   obtain ⟨i',p1,p2,p3,p4'⟩:=fo.get e1'
   rw [q1] at p1
   cases p1
   have p4:(relabel scope X.env).names.lookup y=some .cell∨(relabel scope X.env).names.lookup y=some .free:=ZC1 p4'
   obtain ⟨c,p5⟩:=hhas y p4
   obtain ⟨m0,hn0,hl⟩:=I.loc
   obtain ⟨u,r,l⟩:=hl i y v p2 q2 (.inr p3)
   refine ⟨u,r,.inr ⟨p4,c,p5,?_⟩⟩
   rcases l with ⟨l1,_⟩ | ⟨_,c',l2,l3⟩
   ·rcases p3 with p3 | p3
    ·rw [l1] at p3;cases p3
    ·rw [l1] at p3;cases p3
   ·rw [sub.get p5] at l2
    cases l2
    obtain ⟨o,ho,hd'⟩:=l3
    exact ⟨o,k _ _ ho,hd'⟩
 ·obtain ⟨v,o,ho,hd'⟩:=I.cell y c (sub.get e)
  exact ⟨v,o,k _ _ ho,hd'⟩
 ·show upd H D (.lst []) C=none
  rw [ZAG (Ne.symm hDC)]
  exact I.hok.fresh hC
 ·show upd H D (.lst []) c=none
  rw [ZAG (Nat.ne_of_lt (Nat.lt_of_lt_of_le (lt_of_cell y c e) hD))]
  exact I.freeC y c (sub.get e)
 ·exact ⟨Nat.zero_le _,[],n,.nil,hd⟩
 ·show (ZEH xs σ ix).length=(xs++ys).length
  unfold ZEH
  rw [List.length_append,List.length_map,List.length_map,fo.len,List.length_append]
theorem ZDH {elt iter tg:Expr} {xs:List Str} {g:TG} {ifs:List Expr} {scope:Scope} {cl:List (Str×Addr)} {pos:Pos} {ix:List Nat} {ys:List Str} {tt:TT} {te:TE} {it:Addr} {fp:List Addr} {tn:Nat->Heap->Prop} {J:It} {Q:VK} {E:Value->Shared->Prop}
  {RR:Value->Addr->Result->Shared->Prop}
  (hc:X.calm=true) (hg:∀ C s H fp E,PG (ZAc X (xs++ys) scope cl C s H fp E) tg g) (ht:∀ C s H fp E,PTs (ZAc X (xs++ys) scope cl C s H fp E) ifs tt) (he:∀ C s H fp E,PE (ZAc X (xs++ys) scope cl C s H fp E) elt te)
  (sub:SubCells X.env cl) (hkind:scope.kind=.function) (hcell:∀ y∈scope.names,y.2≠.cell)
  (hhas:∀ y,((relabel scope X.env).names.lookup y=some .cell∨(relabel scope X.env).names.lookup y=some .free)->∃ c,cl.lookup y=some c) (fo:FreeOk X scope ix ys)
  (I:Inv X pins σ H s) (T:Turn X.prog X.w X.K tg J fp it tn) (st:tn 0 s.heap) (hf:∀ b∈fp,ZEE X pins H b) (q:ZKO J xs.length g σ ix tt te H Q)
  (hRR:∀ D C s' H' m,s.heap.objs.size<=C->Inv X pins σ H' s'->ZEE X pins H' C->s'.heap.Ns C m->Q (.ref D) H'->RR (.ref D) C (.ok .next) s') :
  wpAny (model X.prog X.w) X.A (newList []) (fun acc s₃=>wpAny (model X.prog X.w) X.A (newFunctionEnv scope X.env.globals cl [] X.env.qual none .none (some X.env)) (fun cenv s₄=>
   codeAny (model X.prog X.w) X.A (.compStart (.ListComp elt [⟨tg,iter,ifs,0⟩] scope pos) 0 (.ref it) acc { cenv with scope:=relabel scope X.env }) (RR acc cenv.locals) s₄) E s₃) E s:=by
 refine wpAny_newObj_type (wpAny_newFunctionEnv hcell (by intro y hy;simp at hy) (fun h₁ hns₁ hsb₁=>?_) hkind)
 dsimp only at hns₁ hsb₁ ⊢
 generalize hH2:s.heap.push { cls:=.type "list",dict:=none,data:=.seq ([]:List Value).toArray }=H2 at hns₁ hsb₁ ⊢
 have hC:H2.objs.size=s.heap.objs.size+1:=by rw [<-hH2,Heap.size_push]
 have hDC:s.heap.objs.size≠H2.objs.size:=by rw [hC];exact Nat.ne_of_lt (Nat.lt_succ_self _)
 have hCle:s.heap.objs.size<=H2.objs.size:=by rw [hC];exact Nat.le_succ _
 have below:∀ b,b<s.heap.objs.size->b≠H2.objs.size∧b≠s.heap.objs.size:=fun b hb=>⟨by rw [hC];exact Nat.ne_of_lt (Nat.lt_succ_of_lt hb),Nat.ne_of_lt hb⟩
 have old:∀ b o,s.heap.get? b=some o->h₁.get? b=some o:=fun b o e=>hsb₁.extBut b o (below b (Heap.lt_size e)).1 (Heap.get?_push_of_some _ (hH2 ▸ Heap.get?_push_of_some _ e))
 have hacc:∃ n,h₁.get? s.heap.objs.size=some { cls:=.type "list",data:=.seq ([]:List Value).toArray n }:=⟨_,hsb₁.extBut _ _ hDC (Heap.get?_push_of_some _ (hH2 ▸ Heap.get?_push_size _ rfl))⟩
 obtain ⟨nD,hacc⟩:=hacc
 have hf':∀ b∈fp,ZEE X pins H b∧b<s.heap.objs.size:=fun b hb=>⟨hf b hb,by obtain ⟨o,e,_⟩:=T.obj 0 _ st b hb;exact Heap.lt_size e⟩
 have hDn:H s.heap.objs.size=none:=I.hok.fresh (Nat.le_refl _)
 obtain ⟨W,⟨m0,w0⟩,turn⟩:=q _ hDn
 generalize hE:notedBy (model X.prog X.w) X.A (compEnvC scope cl H2.objs.size X.env) (fun e s'=>RR (.ref s.heap.objs.size) H2.objs.size (.error e) s')=EE
 have I0:Inv (ZAc X (xs++ys) scope cl H2.objs.size s H fp EE) [] (ZEH xs σ ix) (upd H s.heap.objs.size (.lst [])) { s with heap:=h₁,toks:=s.toks+([]:List (Str×Value)).length }:=
  ZFZ I hf' sub hkind hhas fo (Nat.le_refl _) hCle hDC hns₁ old hacc
 have st1:tn 0 h₁:=T.keep _ _ _ st fun b _ o e=>old b o e
 have fr1:∀ b∈fp,upd H s.heap.objs.size (.lst []) b=none:=fun b hb=>by rw [ZAG (below b (hf' b hb).2).2];exact (hf b hb).1
 have stat:∀ {H':Hp},(∀ b∈fp,H' b=none)->∀ b∈fp,ZEE (ZAc X (xs++ys) scope cl H2.objs.size s H fp EE) [] H' b:=fun hn b hb=>
  ⟨hn b hb,(I0.ok.exf b hb).1,I0.ok.exfs b hb,.inl hb,(I0.ok.exf b hb).2,fun p hp=>absurd (show p∈([]:List (Addr×Obj)) from hp) (by simp)⟩
 have loop:∀ s₃:Shared,s₃={ s with heap:=h₁,toks:=s.toks+([]:List (Str×Value)).length } ->
   codeAny (model X.prog X.w) X.A (.compLoop (.ListComp elt [⟨tg,iter,ifs,0⟩] scope pos) 0 (.ref it) (.ref s.heap.objs.size) (compEnvC scope cl H2.objs.size X.env)) (RR (.ref s.heap.objs.size) H2.objs.size) s₃:=by
  rintro s₃ rfl
  refine ZDl (fun n s'=>∃ i σ' H',Inv (ZAc X (xs++ys) scope cl H2.objs.size s H fp EE) [] σ' H' s'∧(∃ os:St,os.length=xs.length∧σ'=os++ix.map fun i=>(σ[i]?).join)∧tn i s'.heap∧(∀ b∈fp,H' b=none)∧W i n H') ?_ m0 ⟨0,_,_,I0,⟨_,List.length_map _,rfl⟩,st1,fr1,w0⟩
  rintro n s3 ⟨i,σ3,H3,I3,⟨o3,ho3,hσ3⟩,st3,fr3,w3⟩
  rw [hE]
  rcases turn i n H3 w3 with ⟨stop,qn⟩ | ⟨go,step⟩
  ·refine thn (T.done (ZAc X (xs++ys) scope cl H2.objs.size s H fp EE) rfl rfl rfl hc i [] s3 σ3 H3 EE I3 (stat fr3) st3 stop) fun r s4 ⟨hr,I4⟩=>?_
   subst hr
   obtain ⟨m4,hn4,_⟩:=I4.loc
   have Ix:Inv X pins σ H3 s4:=I.call' (s':=s4) (ch:=fp) I4.os I4.base I4.hok I4.bare fun b hb=>by
    obtain ⟨_,z1,_,z3,z4,z5⟩:=hf b hb
    exact ⟨z3,z1,z4,z5⟩
   exact hRR _ _ s4 H3 m4 hCle Ix (I.fpOk hCle I4.free) hn4 qn
  ·refine thn (T.item (ZAc X (xs++ys) scope cl H2.objs.size s H fp EE) rfl rfl rfl hc i [] s3 σ3 H3 EE I3 (stat fr3) st3 go) fun r s4 ⟨u,hr,h4⟩=>?_
   subst hr
   refine thn h4 fun _ s5 ⟨xv,H5,I5,r5,y5,st5,fr5⟩=>?_
   have I5':=I5.pinned (stat fr5) (T.obj _ _ st5)
   have again:∀ {σ7:St} {H7:Hp} {s7:Shared} {m':Nat},Inv (ZAc X (xs++ys) scope cl H2.objs.size s H fp EE) ([]++ZD0 fp s5.heap) σ7 H7 s7->(∃ os:St,os.length=xs.length∧σ7=os++ix.map fun i=>(σ[i]?).join)->m'<n->W (i+1) m' H7 ->
     ∃ m,m<n∧∃ i σ' H',Inv (ZAc X (xs++ys) scope cl H2.objs.size s H fp EE) [] σ' H' s7∧(∃ os:St,os.length=xs.length∧σ'=os++ix.map fun i=>(σ[i]?).join)∧tn i s7.heap∧(∀ b∈fp,H' b=none)∧W i m H':=fun {σ7 H7 s7 m'} I7 e7 hm w7=>by
    refine ⟨m',hm,i+1,σ7,H7,I7.unpinned,e7,T.keep _ _ _ st5 fun b hb o e=>(I7.pin (b,o) (List.mem_append_right _ (List.mem_append_right _ (ZBV hb e)))).1,fun b hb=>?_,w7⟩
    obtain ⟨o,e,d⟩:=T.obj _ _ st5 b hb
    exact (I7.pin (b,o) (List.mem_append_right _ (List.mem_append_right _ (ZBV hb e)))).2.1
   have stp:=step xv _ y5 o3 ho3
   rw [<-hσ3] at stp
   refine thn (hg _ _ _ _ _ _ s5 σ3 H5 xv u _ I5' r5 stp) fun _ s6 ⟨σ6,H6,I6,e6,q6⟩=>?_
   refine thn (ht _ _ _ _ _ _ s6 _ _ _ I6 q6) fun ok s7 ⟨H7,I7,q7⟩=>?_
   cases ok with
   | false=>
    rw [if_neg Bool.false_ne_true] at q7 ⊢
    obtain ⟨m',hm,w7⟩:=q7
    exact again I7 e6 hm w7
   | true=>
    rw [if_pos rfl] at q7 ⊢
    refine thn (he _ _ _ _ _ _ s7 _ _ _ I7 q7) fun y s8 ⟨yv,H8,I8,r8,ys8,m',e8,z8,hm,w8⟩=>?_
    refine thn (ZAu _ s8 _ H8 (.ref s.heap.objs.size) [yv] (.ref s.heap.objs.size) [y] (fun _ H9=>W (i+1) m' H9) I8 rfl (.cons r8 .nil) ⟨_,ys8,yv,rfl,rfl,e8,z8,w8⟩) fun _ s9 ⟨_,H9,I9,_,w9⟩=>?_
    exact again I9 e6 hm w9
 exact codeAny_compStart_list (loop _ rfl) (T.self _ 0 _ _ _ st1 (loop _ rfl))
theorem ZKl {elt iter tg:Expr} (xs:List Str) (x:Str) {g:TG} {ifs:List Expr} {scope:Scope} {pos:Pos} {wi:TI} {tt:TT} {te:TE} (ix:List Nat) (ys:List Str)
  (hc:X.calm=true) (hg:∀ C s H fp E,PG (ZAc X (xs++ys) scope (ZBR X.env scope.names []) C s H fp E) tg g) (hi:PI X tg iter wi) (ht:∀ C s H fp E,PTs (ZAc X (xs++ys) scope (ZBR X.env scope.names []) C s H fp E) ifs tt) (he:∀ C s H fp E,PE (ZAc X (xs++ys) scope (ZBR X.env scope.names []) C s H fp E) elt te)
  (fo:FreeOk X scope ix ys) (hk:ZCl X.env scope.names=true:=by rfl) (hb:ZCF scope x=true:=by rfl)
  (hs:∀ x,foldedSetIterable iter X.env x=pure x:=by intro _;rfl) :
  PE X (.ListComp elt [⟨tg,iter,ifs,0⟩] scope pos) (ZLC xs.length g wi ix tt te):=by
 intro pins s σ H Q I h
 have B:=ZCT hb
 have F:=ZCe I.ok hk
 rw [eval_ListComp]
 refine wpAny_comprehension_free (use:=none) rfl hs (ZCr F) B.kind B.names (thn (hi pins s σ H _ I h) fun v s1 h1=>thn h1 fun itv s2 h2=>?_)
 obtain ⟨it,fp,tn,J,H2,e,I2,T,st2,f2,q2⟩:=h2
 subst e
 refine ZDH (RR:=fun acc C=>compPost (model X.prog X.w) X.A X.xe none (EP X pins σ Q) acc C) hc hg ht he (ZEZ F) B.kind B.cell (ZJY B.cell) fo I2 T st2 f2 q2 ?_
 intro D C s' H' m hC Ix fC hn q
 refine ⟨m,hn,fun h' sb=>⟨.ref D,H',?_,rfl,q⟩⟩
 obtain ⟨f0,f1,_,f3,f4,f5⟩:=fC
 exact Ix.turned (t':=s'.toks) (fun b o hb e=>(sb.2 b hb).trans e) f0 f1 f3 f4 f5
theorem ZDc {elt iter tg:Expr} (xs:List Str) (x:Str) {g:TG} {y:Str} {py:Pos} {ifs:List Expr} {scope:Scope} {pos spos:Pos} {wi:TI} {tt:TT} {te:TE} {i:Nat} (ix:List Nat) (ys:List Str)
  (hN:X.N.Nodup) (hiN:X.N[i]? = some y) (hy:X.env.scope.names.lookup y=some .local)
  (hc:X.calm=true) (hg:∀ C s H fp E,PG (ZAc X (xs++ys) scope (ZBR X.env scope.names []) C s H fp E) tg g) (hi:PI X tg iter wi) (ht:∀ C s H fp E,PTs (ZAc X (xs++ys) scope (ZBR X.env scope.names []) C s H fp E) ifs tt) (he:∀ C s H fp E,PE (ZAc X (xs++ys) scope (ZBR X.env scope.names []) C s H fp E) elt te)
  (fo:FreeOk X scope ix ys)
  (hsw:swapsWith (.ListComp elt [⟨tg,iter,ifs,0⟩] scope pos) (some (.Name y py)) spos.line X.env=pure true:=by rfl)
  (hk:ZCl X.env scope.names=true:=by rfl) (hb:ZCF scope x=true:=by rfl)
  (hs:∀ x,foldedSetIterable iter X.env x=pure x:=by intro _;rfl) :
  PS X (.Assign [.Name y py] (.ListComp elt [⟨tg,iter,ifs,0⟩] scope pos) spos) (ZHE i (ZLC xs.length g wi ix tt te)):=by
 intro pins s σ H D I h
 have B:=ZCT hb
 have F:=ZCe I.ok hk
 rw [exec_Assign_Name_used _ _ _ _ hsw]
 refine wpAny_bind (wpAny_standAt (wpAny_bind ?_))
 show wpAny _ X.A (do let _<-comprehension (.ListComp elt [⟨tg,iter,ifs,0⟩] scope pos) scope X.env _ (newList []) false (eval iter X.env) (some (assign (.Name y py) X.env))) _ _ s
 refine wpAny_bind (wpAny_mono (wpAny_comprehension_free (use:=some (assign (.Name y py) X.env)) (Q:=fun _ s'=>SP X pins D .next s') rfl hs (ZCr F) B.kind B.names
  (thn (hi pins s σ H _ I h) fun v s1 h1=>thn h1 fun itv s2 h2=>?_)) (fun _ s' hq=>wpAny_pure (wpAny_pure hq)) fun _ _ e=>e)
 obtain ⟨it,fp,tn,J,H2,e,I2,T,st2,f2,q2⟩:=h2
 subst e
 refine ZDH (RR:=fun acc C=>compPost (model X.prog X.w) X.A X.xe (some (assign (.Name y py) X.env)) (fun _ s'=>SP X pins D .next s') acc C) hc hg ht he (ZEZ F) B.kind B.cell (ZJY B.cell) fo I2 T st2 f2 q2 ?_
 intro Dd C s' H' m hC Ix fC hn q
 obtain ⟨f0,f1,_,f3,f4,f5⟩:=fC
 show wpAny _ X.A (assign (.Name y py) X.env (.ref Dd)) _ _ _
 refine wpAny_assign_Name (ZFX Ix hN hiN (.inl hy) (v:=.ref Dd) rfl (fun s3 I3 ⟨a,sb,ha⟩=>?_) (.inr hy))
 have ne:C≠a:=by
  rcases ha with ha | ha
  ·rw [ha];exact f1
  ·exact fun z=>f4 y a ha z.symm
 refine ⟨m,hn.sameBut sb ne,fun h' sb'=>⟨_,H',?_,q⟩⟩
 exact I3.turned (t':=s3.toks) (fun b o hb e=>(sb'.2 b hb).trans e) f0 f1 f3 f4 f5
def ZML (K:PySem.W.Frag):TG:=ZOz K 2 (ZLb (ZEb 0) (ZLb (ZEb 1) ZO3))
theorem ZLY {x y:Str} {px py pos:Pos} {k:Nat} (hc:X.calm=true) (hN:X.N.Nodup) (h0:X.N[0]? = some x) (h1:X.N[1]? = some y) (lx:X.env.scope.names.lookup x=some .local) (ly:X.env.scope.names.lookup y=some .local):PG X (.Tuple [.Name x px,.Name y py] k pos) (ZML X.K):=
 ZDu hc (ZAj (ZAZ hN h0 (.inl lx) (.inr lx)) (ZAj (ZAZ hN h1 (.inl ly) (.inr ly)) ZCp))
end
section
variable {X:Cx} {pins:List (Addr×Obj)} {σ:St} {H:Hp} {s:Shared}
theorem ZJ5 {x:Str} {ys:List Str} {ix:List Nat} {scope:Scope} {cl:List (Str×Addr)} {fp:List Addr} {E:Value->Shared->Prop} {h₁:Heap} {D C n:Nat} {tk:Nat} {m:Str->Option Value}
  (I:Inv X pins σ H s) (hf:∀ b∈fp,ZEE X pins H b∧b<s.heap.objs.size) (sub:SubCells X.env cl) (hkind:scope.kind=.function)
  (hhas:∀ y,((relabel scope X.env).names.lookup y=some .cell∨(relabel scope X.env).names.lookup y=some .free)->∃ c,cl.lookup y=some c) (fo:FreeOk X scope ix ys)
  (hD:s.heap.objs.size<=D) (hC:s.heap.objs.size<=C) (hDC:D≠C) (hns:h₁.Ns C m) (k:∀ b o,s.heap.get? b=some o->h₁.get? b=some o)
  (hd:h₁.get? D=some { cls:=.type "list",data:=.seq ([]:List Value).toArray n }) :
  Inv (ZAc X (x :: ys) scope cl C s H fp E) [] (ZIH σ ix) (upd H D (.lst [])) { s with heap:=h₁,toks:=tk }:=
 ZFZ (xs:=[x]) I hf sub hkind hhas fo hD hC hDC hns k hd
theorem cEnd.toT {J:It} {ix:List Nat} {tt:TT} {te:TE} {Q:VK} (h:cEnd J σ ix tt te H Q):ZKO J 1 (ZEb 0) σ ix tt te H Q:=fun D hD=>by
 obtain ⟨W,h0,hs⟩:=h D hD
 refine ⟨W,h0,fun i m H hw=>(hs i m H hw).imp id fun q=>⟨q.1,fun x H' y os ho=>?_⟩⟩
 match os,ho with
 | [_],_=>exact ⟨⟨[some x],rfl,rfl⟩,q.2 x H' y⟩
def ZOc (wi:TI):TI:=fun σ H K=>∃ K0:It->Hp->Prop,wi σ H K0∧∀ J H1,K0 J H1->K J H1
theorem PI.more {tg iter:Expr} {wi:TI} (h:PI X tg iter wi):PI X tg iter (ZOc wi):=fun pins s σ H R I ⟨K0,hw,f⟩=>
 wpAny_mono (h pins s σ H K0 I hw) (fun _ _ z=>wpAny_mono z (fun _ _ ⟨it,fp,tn,J,H',a,b,c,d,e,r⟩=>⟨it,fp,tn,J,H',a,b,c,d,e,f _ _ r⟩) fun _ _ z=>z) fun _ _ z=>z
theorem ZBk {elt iter:Expr} {x:Str} {px:Pos} {ifs:List Expr} {scope:Scope} {pos:Pos} {wi:TI} {tt:TT} {te:TE} (ix:List Nat) (ys:List Str)
  (hc:X.calm=true) (hi:PI X (.Name x px) iter wi) (ht:∀ C s H fp E,PTs (ZAc X (x :: ys) scope (ZBR X.env scope.names []) C s H fp E) ifs tt) (he:∀ C s H fp E,PE (ZAc X (x :: ys) scope (ZBR X.env scope.names []) C s H fp E) elt te)
  (fo:FreeOk X scope ix ys) (hk:ZCl X.env scope.names=true:=by rfl) (hb:ZCF scope x=true:=by rfl) (hnd:(x :: ys).Nodup:=by decide +kernel)
  (hs:∀ x,foldedSetIterable iter X.env x=pure x:=by intro _;rfl) :
  PE X (.ListComp elt [⟨.Name x px,iter,ifs,0⟩] scope pos) (ZL2 wi ix tt te):=by
 intro pins s σ H Q I h
 have hl:(relabel scope X.env).names.lookup x=some .local:=lookup_relabel_local (ZCT hb).own
 exact ZKl [x] x (g:=ZEb 0) ix ys hc (fun _ _ _ _ _=>ZAZ (i:=0) hnd rfl (Or.inl hl) (Or.inr hl)) (PI.more hi) ht he fo hk hb hs pins s σ H Q I ⟨_,h,fun _ _ z=>cEnd.toT z⟩
theorem ZB3 {elt iter:Expr} {x y:Str} {px py:Pos} {ifs:List Expr} {scope:Scope} {pos spos:Pos} {wi:TI} {tt:TT} {te:TE} {i:Nat} (ix:List Nat) (ys:List Str)
  (hN:X.N.Nodup) (hiN:X.N[i]? = some y) (hy:X.env.scope.names.lookup y=some .local)
  (hc:X.calm=true) (hi:PI X (.Name x px) iter wi) (ht:∀ C s H fp E,PTs (ZAc X (x :: ys) scope (ZBR X.env scope.names []) C s H fp E) ifs tt) (he:∀ C s H fp E,PE (ZAc X (x :: ys) scope (ZBR X.env scope.names []) C s H fp E) elt te)
  (fo:FreeOk X scope ix ys)
  (hsw:swapsWith (.ListComp elt [⟨.Name x px,iter,ifs,0⟩] scope pos) (some (.Name y py)) spos.line X.env=pure true:=by rfl)
  (hk:ZCl X.env scope.names=true:=by rfl) (hb:ZCF scope x=true:=by rfl) (hnd:(x :: ys).Nodup:=by decide +kernel)
  (hs:∀ x,foldedSetIterable iter X.env x=pure x:=by intro _;rfl) :
  PS X (.Assign [.Name y py] (.ListComp elt [⟨.Name x px,iter,ifs,0⟩] scope pos) spos) (ZHE i (ZL2 wi ix tt te)):=by
 intro pins s σ H D I h
 have hl:(relabel scope X.env).names.lookup x=some .local:=lookup_relabel_local (ZCT hb).own
 exact ZDc [x] x (g:=ZEb 0) ix ys hN hiN hy hc (fun _ _ _ _ _=>ZAZ (i:=0) hnd rfl (Or.inl hl) (Or.inr hl)) (PI.more hi) ht he fo hsw hk hb hs pins s σ H D I ⟨_,h,fun _ _ z=>cEnd.toT z⟩
end
section
variable {X:Cx}
def ZPK (K:PySem.W.Frag):List V->Hp->VK->Prop:=fun xs H Q=>∃ x n t b,xs=[x,.ty n]∧TyOf K H x t∧PySem.W.kitOne K t (.type n)=some b∧Q (.bl b) H
theorem ZAY:ZBt X (.builtin "isinstance") (ZPK X.K):=by
 intro pins s σ H xs us Q I r h
 obtain ⟨x,n,t,b,rfl,ty,e,q⟩:=h
 obtain ⟨u,w',rfl,rx,rn⟩:=ZKq r
 cases (show w'=Value.type n from rn)
 exact ZIn I rx ty e fun tk=>⟨.bl b,H,I.tok tk,rfl,q⟩
theorem ZNR {K:PySem.W.Frag}:PySem.W.kitOne K (.type "bool") (.type "bool")=some true:=by kernel_rfl
theorem ZFD {K:PySem.W.Frag}:PySem.W.kitOne K (.type "int") (.type "bool")=some false:=by kernel_rfl
theorem ZNy {K:PySem.W.Frag}:PySem.W.kitOne K (.type "str") (.type "bool")=some false:=by kernel_rfl
theorem ZNJ {K:PySem.W.Frag}:PySem.W.kitOne K (.type "tuple") (.type "bool")=some false:=by kernel_rfl
theorem ZDE {K:PySem.W.Frag}:PySem.W.kitOne K (.type "int") (.type "int")=some true:=by kernel_rfl
theorem ZHw {K:PySem.W.Frag}:PySem.W.kitOne K (.type "str") (.type "int")=some false:=by kernel_rfl
theorem ZH4 {K:PySem.W.Frag}:PySem.W.kitOne K (.type "tuple") (.type "int")=some false:=by kernel_rfl
theorem kit_is' {K:PySem.W.Frag}:PySem.W.kitOne K (.type "int") (.type "str")=some false:=by kernel_rfl
theorem ZFc {K:PySem.W.Frag}:PySem.W.kitOne K (.type "str") (.type "str")=some true:=by kernel_rfl
theorem ZIS {K:PySem.W.Frag}:PySem.W.kitOne K (.type "tuple") (.type "str")=some false:=by kernel_rfl
theorem ZNo {K:PySem.W.Frag}:PySem.W.kitOne K (.type "int") (.type "tuple")=some false:=by kernel_rfl
theorem ZNW {K:PySem.W.Frag}:PySem.W.kitOne K (.type "str") (.type "tuple")=some false:=by kernel_rfl
theorem ZG6 {K:PySem.W.Frag}:PySem.W.kitOne K (.type "tuple") (.type "tuple")=some true:=by kernel_rfl
theorem ZAM:bootBuiltins "isinstance" = some (.builtin "isinstance"):=by decide +kernel
theorem ZGz:bootBuiltins "all" = some (.builtin "all"):=by decide +kernel
theorem ZFW:bootBuiltins "max" = some (.builtin "max"):=by decide +kernel
theorem ZNI:bootBuiltins "min" = some (.builtin "min"):=by decide +kernel
theorem ZHo:bootBuiltins "abs" = some (.builtin "abs"):=by decide +kernel
theorem ZAv:bootBuiltins "len" = some (.builtin "len"):=by decide +kernel
theorem ZCj:bootBuiltins "bool" = some (.type "bool"):=by decide +kernel
theorem ZCN:bootBuiltins "int" = some (.type "int"):=by decide +kernel
theorem ZE3:bootBuiltins "str" = some (.type "str"):=by decide +kernel
theorem ZBO:bootBuiltins "tuple" = some (.type "tuple"):=by decide +kernel
theorem ZBi:bootBuiltins "list" = some (.type "list"):=by decide +kernel
theorem ZE7:OpR X (compareOp .LtE) (fun x y H Q=>∃ i j,x=.str i∧y=.str j∧Q (.bl (!decide (j.cps.toList<i.cps.toList))) H):=by
 intro pins s σ H x y v u Q I rx ry h
 obtain ⟨i,j,rfl,rfl,q⟩:=h
 obtain ⟨t,rfl⟩:=rx
 obtain ⟨t',rfl⟩:=ry
 exact PySem.P.le_str (ZAh I q (by simp))
theorem ZCc (hu:X.A.units<cLine):OpR X (compareOp .Eq) (fun x y H Q=>∃ p b xs,x=.ref p∧y=.ref b∧SqL X.K H p xs∧SqL X.K H b []∧Q (.bl xs.isEmpty) H):=by
 intro pins s σ H x y v u Q I rx ry h
 obtain ⟨p,b,xs,rfl,rfl,h1,h2,q⟩:=h
 cases rx
 cases ry
 obtain ⟨its,r1,p1,z1⟩:=I.list h1
 obtain ⟨its2,r2,p2,z2⟩:=I.list h2
 have l1:=r1.length
 have l2:=r2.length
 have e2:its2=[]:=List.eq_nil_of_length_eq_zero (by rw [<-l2];rfl)
 subst e2
 cases xs with
 | nil=>
  have e1:its=[]:=List.eq_nil_of_length_eq_zero (by rw [<-l1];rfl)
  subst e1
  exact PySem.SeqAt.eq_listAt (e:=fun _=>true) p1.isList p2.isList rfl hu (fun j h1 _=>absurd h1 (by simp)) (ZAh I q (by simp))
 | cons x r=>exact PySem.SeqAt.eq_list_lengthsAt p1.isList p2.isList (by simp;intro e;subst e;simp at l1) hu (ZAh I q rfl)
def ZOg (i j:Int):Prop:=0<j∧j.natAbs.log2<9000
theorem ZLa:OpR X (binaryOp .FloorDiv) (rI ZOg fun i j=>.int (i / j)):=opI fun i j _ _ _ _ _ hc q=>by
 have h1:(0:Int)<j:=hc.1
 exact floordiv_int (by omega) (by rw [Int.fdiv_eq_ediv_of_nonneg i (by omega)];exact q) (.inl (PyProof.noPylong_of_log2 hc.2))
theorem ZG1 (hc:X.calm=true):ZBt X (.builtin "all") (fun xs H Q=>∃ (p:Addr) (bs:List Bool),xs=[.ref p]∧SqL X.K H p (bs.map V.bl)∧Q (.bl (bs.all id)) H):=by
 intro pins s σ H xs us Q I r h
 obtain ⟨p,bs,rfl,hq,q⟩:=h
 obtain ⟨u,rfl,rx⟩:=ZB8 r
 cases rx
 obtain ⟨its,rv,pl,hz⟩:=I.list hq
 have hl:=rv.length
 have hlt:p<s.heap.objs.size:=by obtain ⟨_,e,_⟩:=pl.isList;exact Heap.lt_size e
 have hne:p≠s.heap.objs.size:=Nat.ne_of_lt hlt
 have hh:=I.ok.hd hc
 have tr:∀ (i:Nat) (v:Value),its.toArray[i]? = some v->v=.bool (bs.getD i true):=fun i v hv=>by
  have hv':its[i]? = some v:=by simpa using hv
  have hi:i<its.length:=(List.getElem?_eq_some_iff.mp hv').1
  have hb:i<bs.length:=by rw [List.length_map] at hl;omega
  obtain ⟨u,e1,e2⟩:=rv.get (i:=i) (x:=.bl bs[i]) (by rw [List.getElem?_map,List.getElem?_eq_getElem hb];rfl)
  rw [hv'] at e1
  cases e1
  rw [show v=Value.bool bs[i] from e2,List.getD_eq_getElem?_getD,List.getElem?_eq_getElem hb]
  rfl
 refine call_all_walk (wpAny_pyIter_list pl.isList ?_)
 refine ⟨_,_,_,_,_,_,(fun i=>bs.getD i true),rfl,Walks.list (A:=X.A.in1) hh s.heap.objs.size p hne its.toArray,⟨⟨_,Heap.get?_push_size _ rfl,rfl,rfl⟩,pl.isList.push _⟩,fun i v s' Q' E' hP hQ=>?_,fun h' tk hk=>?_⟩
 ·rw [tr i v hP]
  exact wpAny_truthy_bool hQ
 ·have e:(List.range its.toArray.size).all (fun i=>bs.getD i true)=bs.all id:=by
   rw [List.size_toArray,<-hl,List.length_map]
   have e2:bs.all id=((List.range bs.length).map fun i=>bs.getD i true).all id:=by rw [range_getD]
   rw [e2,List.all_map]
   rfl
  rw [e]
  refine ⟨.bl (bs.all id),H,I.kept (t':=tk) fun b o eb=>hk b o ?_ (Heap.get?_push_of_some _ eb),rfl,q⟩
  intro hm
  exact absurd (Heap.lt_size eb) (by rw [List.mem_singleton.mp hm];exact Nat.lt_irrefl _)
end
def ZIR (b:Int) (l:List Int):Int:=l.foldl (fun a c=>if c > a then c else a) b
def ZN1 (d:Int):List Int->Int
 | []=>d
 | x :: r=>ZIR x r
section
variable {prog:Program} {w:World} {A:Around} {R:Result->Shared->Prop}
theorem ZIL (hh:A.handled=none) {I l S:Addr} {its:List Value} {ns:List Int} {kw:List (Str×Value)} (hSI:S≠I) (hSl:S≠l) (hlI:l≠I) (hi:IntsAre its ns) :
  ∀ (k j:Nat) (s:Shared) (b:Int) (tb:Tok) (c:Nat),its.length - j=k->j<=its.length->s.heap.IsListIter I l j->s.heap.IsList l its.toArray->s.heap.get? S=some { cls:=.type "list",dict:=none,data:=.seq #[.int b tb,.int b tb] c,slots:=#[] } ->
   (∀ t h' tk,(∀ a o,a≠I->a≠S->s.heap.get? a=some o->h'.get? a=some o)->R (.ok (.ret (.int (ZIR b (ns.drop j)) t))) { s with heap:=h',toks:=tk }) ->
   codeAny (model prog w) A (.builtin "max.loop" ⟨[.ref I,.none,.ref S],kw⟩) R s:=by
 have nm:(toString "max" ++ toString ".loop" : String) = "max.loop" :=by decide
 have W:=Walks.list (prog:=prog) (w:=w) (A:=A.in1) hh I l hlI its.toArray
 have hlen:=IntsAre.length hi
 intro k
 induction k with
 | zero=>
  intro j s b tb c hk hj st hl hS hR
  have hn:j=its.toArray.size:=by rw [List.size_toArray];omega
  refine codeAny_builtin PySem.F.entry_max_loop ?_;rw [Around.under_plainId PySem.F.plain_max_loop _]
  show wpAny _ A.in1 (seqItems? (.ref S) >>= _) _ _ s;refine wpAny_bind (wpAny_seqItems hS rfl ?_)
  show wpAny _ A.in1 (tryCatch (pyNext (.ref I)) _ >>= _) _ _ s;refine wpAny_bind (wpAny_tryCatch (W.done s _ _ (by rw [<-hn];exact ⟨st,hl⟩) fun h' tk hk'=>?_))
  have hS':=hk' S _ (by simpa using hSI) hS
  show wpAny _ A.in1 (updateSeq S (fun _=>#[]) >>= _) _ _ _;refine wpAny_bind (wpAny_updateSeq hS' rfl (wpAny_bind (wpAny_letGo (wpAny_pure ?_))))
  have q:=hR tb (h'.update S (Obj.mapSeq fun _=>#[])) tk fun a o ha hb e=>(Heap.get?_update_other _ _ (Ne.symm hb)).trans (hk' a o (by simpa using ha) e)
  rw [List.drop_eq_nil_of_le (by rw [<-hlen];rw [List.size_toArray] at hn;omega)] at q
  exact q
 | succ k ih=>
  intro j s b tb c hk hj st hl hS hR
  have hn:j<its.toArray.size:=by rw [List.size_toArray];omega
  refine codeAny_builtin PySem.F.entry_max_loop ?_;rw [Around.under_plainId PySem.F.plain_max_loop _]
  show wpAny _ A.in1 (seqItems? (.ref S) >>= _) _ _ s;refine wpAny_bind (wpAny_seqItems hS rfl ?_)
  show wpAny _ A.in1 (tryCatch (pyNext (.ref I)) _ >>= _) _ _ s;refine wpAny_bind (wpAny_tryCatch (W.item j s _ _ hn ⟨st,hl⟩ fun v h' tk hP st' hk'=>?_))
  have hS':=hk' S _ (by simpa using hSI) hS
  have hjl:j<ns.length:=by rw [<-hlen];rw [List.size_toArray] at hn;exact hn
  obtain ⟨tv,hv⟩:∃ t,v=.int ns[j] t:=by
   have r:Vals (ns.map V.int) its:=ZCd hi
   obtain ⟨u,e1,t,e2⟩:=r.get (i:=j) (x:=.int ns[j]) (by rw [List.getElem?_map,List.getElem?_eq_getElem hjl];rfl)
   have hP':its[j]? = some v:=by simpa using hP
   rw [hP'] at e1
   cases e1
   exact ⟨t,e2⟩
  subst hv
  have hd:ns.drop j=ns[j] :: ns.drop (j+1):=List.drop_eq_getElem_cons hjl
  show wpAny _ A.in1 (tryCatch (holding [_,_] (richCompare .Gt (.int ns[j] tv) (.int b tb) >>= _)) _ >>= _) _ _ _
  refine wpAny_bind (wpAny_tryCatch (wpAny_holding (wpAny_bind (CmpOf.ints_gt (P:=fun i v=>(i=0∧v=.int ns[j] tv)∨(i=1∧v=.int b tb)) (fun i=>if i=0 then ns[j] else b) (fun i v hv=>?_) 0 1 _ _ _ _ _ (.inl ⟨rfl,rfl⟩) (.inr ⟨rfl,rfl⟩) ?_))))
  ·rcases hv with ⟨rfl,rfl⟩ | ⟨rfl,rfl⟩
   ·exact ⟨tv,rfl⟩
   ·exact ⟨tb,rfl⟩
  refine wpAny_bind (wpAny_holding (wpAny_truthy_bool (wpAny_bind (wpAny_letGo (wpAny_pure ?_)))))
  by_cases hb:ns[j] > b
  ·simp only [if_pos,hb,decide_true,Nat.one_ne_zero,if_false,↓reduceIte]
   refine wpAny_bind (wpAny_updateSeq hS' rfl (wpAny_bind (wpAny_letGo ?_)))
   rw [nm]
   refine wpAny_pure ⟨plainId_quiet PySem.F.plain_max_loop _,ih (j+1) _ ns[j] tv _ (by omega) (by omega) ?_ ?_ (Heap.get?_update_self _ hS' rfl) fun t h2 tk2 hk2=>?_⟩
   ·obtain ⟨o,e,r⟩:=st'.1
    exact ⟨o,(Heap.get?_update_other _ _ hSI).trans e,r⟩
   ·obtain ⟨o,e,r⟩:=st'.2
    exact ⟨o,(Heap.get?_update_other _ _ hSl).trans e,r⟩
   ·have q:=hR t h2 tk2 fun a o ha hs e=>hk2 a o ha hs ((Heap.get?_update_other _ _ (Ne.symm hs)).trans (hk' a o (by simpa using ha) e))
    rw [hd] at q
    have e2:ZIR b (ns[j] :: ns.drop (j+1))=ZIR ns[j] (ns.drop (j+1)):=by unfold ZIR;rw [List.foldl_cons,if_pos hb]
    rw [e2] at q
    exact q
  ·simp only [hb,decide_false,Nat.one_ne_zero,if_false,Bool.false_eq_true,↓reduceIte]
   refine wpAny_bind (wpAny_letGo ?_)
   rw [nm]
   refine wpAny_pure ⟨plainId_quiet PySem.F.plain_max_loop _,ih (j+1) _ b tb c (by omega) (by omega) st'.1 st'.2 hS' fun t h2 tk2 hk2=>?_⟩
   have q:=hR t h2 tk2 fun a o ha hs e=>hk2 a o ha hs (hk' a o (by simpa using ha) e)
   rw [hd] at q
   have e2:ZIR b (ns[j] :: ns.drop (j+1))=ZIR b (ns.drop (j+1)):=by unfold ZIR;rw [List.foldl_cons,if_neg hb]
   rw [e2] at q
   exact q
end
theorem ZIb (a v:Value):argsOk "max" ⟨[a],[(Str.ofString "default",v)]⟩:=by unfold argsOk;kernel_rfl
section
variable {X:Cx}
theorem ZF6 (hc:X.calm=true) {pins:List (Addr×Obj)} {σ:St} {H:Hp} {s:Shared} {Q:VK} {l:Addr} {ns:List Int} {d:Int} {td:Tok} (I:Inv X pins σ H s) (hq:SqL X.K H l (ns.map V.int)) (q:Q (.int (ZN1 d ns)) H) :
  wpAny (model X.prog X.w) X.A (call (.builtin "max") [.ref l] [(Str.ofString "default",.int d td)]) (EP X pins σ Q) X.xe s:=by
 have nm:(toString "max" ++ toString ".loop" : String) = "max.loop" :=by decide
 obtain ⟨its,rv,pl,hz⟩:=I.list hq
 have hi:IntsAre its ns:=ZCo rv
 have hlen:=IntsAre.length hi
 have hh:=I.ok.hd hc
 have hlt:l<s.heap.objs.size:=by obtain ⟨_,e,_⟩:=pl.isList;exact Heap.lt_size e
 refine PyProof.Rows.kmk_tree PySem.F.kind_max PySem.F.plain_max PySem.F.entry_max (ZIb _ _) ?_
 show wpAny _ X.A.in1 (Builtin.Builtins.bindParams "max" ["key","default"] 0 ⟨[],[(Str.ofString "default",.int d td)]⟩ >>= _) _ _ s
 refine wpAny_bind (wpAny_of_eq (show Builtin.Builtins.bindParams "max" ["key","default"] 0 ⟨[],[(Str.ofString "default",.int d td)]⟩=pure [none,some (.int d td)] from rfl) ?_)
 refine wpAny_bind (wpAny_pure (wpAny_bind (wpAny_pyIter_list pl.isList (wpAny_bind (wpAny_newList ?_ (Nat.zero_le _))))))
 rw [nm]
 have szI:(s.heap.push { cls:=.type "list_iterator",data:=.fields #[.ref l,.int 0 0] }).objs.size=s.heap.objs.size+1:=Heap.size_push ..
 have hlI:l≠s.heap.objs.size:=Nat.ne_of_lt hlt
 have hSI:(s.heap.push { cls:=.type "list_iterator",data:=.fields #[.ref l,.int 0 0] }).objs.size≠s.heap.objs.size:=by rw [szI];exact Nat.ne_of_gt (Nat.lt_succ_self _)
 have hSl:(s.heap.push { cls:=.type "list_iterator",data:=.fields #[.ref l,.int 0 0] }).objs.size≠l:=by rw [szI];exact Nat.ne_of_gt (Nat.lt_succ_of_lt hlt)
 generalize hS:(s.heap.push { cls:=.type "list_iterator",data:=.fields #[.ref l,.int 0 0] }).objs.size=S at *
 have old:∀ a o,s.heap.get? a=some o->((s.heap.push { cls:=.type "list_iterator",data:=.fields #[.ref l,.int 0 0] }).push { cls:=.type "list",data:=.seq ([]:List Value).toArray }).get? a=some o:=fun a o e=>Heap.get?_push_of_some _ (Heap.get?_push_of_some _ e)
 have gI:((s.heap.push { cls:=.type "list_iterator",data:=.fields #[.ref l,.int 0 0] }).push { cls:=.type "list",data:=.seq ([]:List Value).toArray }).IsListIter s.heap.objs.size l 0:=⟨_,Heap.get?_push_of_some _ (Heap.get?_push_size _ rfl),rfl,rfl⟩
 have gL:((s.heap.push { cls:=.type "list_iterator",data:=.fields #[.ref l,.int 0 0] }).push { cls:=.type "list",data:=.seq ([]:List Value).toArray }).IsList l its.toArray:=(pl.isList.push _).push _
 have gS:((s.heap.push { cls:=.type "list_iterator",data:=.fields #[.ref l,.int 0 0] }).push { cls:=.type "list",data:=.seq ([]:List Value).toArray }).get? S=some { cls:=.type "list",dict:=none,data:=.seq #[] 0,slots:=#[] }:=by
  rw [<-hS]
  exact Heap.get?_push_size _ rfl
 generalize ((s.heap.push { cls:=.type "list_iterator",data:=.fields #[.ref l,.int 0 0] }).push { cls:=.type "list",data:=.seq ([]:List Value).toArray })=h2 at *
 refine wpAny_pure ⟨plainId_quiet PySem.F.plain_max_loop _,?_⟩
 have W:=Walks.list (prog:=X.prog) (w:=X.w) (A:=X.A.in1) hh s.heap.objs.size l hlI its.toArray
 refine codeAny_builtin PySem.F.entry_max_loop ?_;rw [Around.under_plainId PySem.F.plain_max_loop _]
 show wpAny _ X.A.in1 (seqItems? (.ref S) >>= _) _ _ _;refine wpAny_bind (wpAny_seqItems gS rfl ?_)
 show wpAny _ X.A.in1 (tryCatch (pyNext (.ref s.heap.objs.size)) _ >>= _) _ _ _
 have nS:∀ a o,s.heap.get? a=some o->a≠S:=fun a o e z=>by
  have h:=Heap.lt_size e
  rw [z,szI] at h
  exact absurd h (Nat.not_lt.mpr (Nat.le_succ _))
 have keepI:∀ {h':Heap} {tk:Nat} {v:Int} {t:Tok},(∀ a o,a≠s.heap.objs.size->a≠S->h2.get? a=some o->h'.get? a=some o)->v=ZN1 d ns->EP X pins σ Q (.int v t) { s with heap:=h',toks:=tk }:=fun {h' tk v t} k e=>by
  subst e
  exact ⟨.int (ZN1 d ns),H,I.kept (t':=tk) fun a o e=>k a o (Nat.ne_of_lt (Heap.lt_size e)) (nS a o e) (old a o e),⟨t,rfl⟩,q⟩
 cases ns with
 | nil=>
  have z:its=[]:=List.eq_nil_of_length_eq_zero hlen
  subst z
  refine wpAny_bind (wpAny_tryCatch (W.done _ _ _ ⟨gI,gL⟩ fun h' tk hk'=>?_))
  show wpAny _ X.A.in1 (rule _ >>= _) _ _ _
  refine wpAny_bind (wpAny_rule (wpAny_pure ?_))
  exact keepI (fun a o ha hs e=>hk' a o (by simpa using ha) e) rfl
 | cons x r=>
  have zl:0<its.toArray.size:=by rw [List.size_toArray,hlen];exact Nat.succ_pos _
  refine wpAny_bind (wpAny_tryCatch (W.item 0 _ _ _ zl ⟨gI,gL⟩ fun v h' tk hP st' hk'=>?_))
  have hS':=hk' S _ (by simpa using hSI) gS
  obtain ⟨tv,hv⟩:∃ t,v=.int x t:=by
   obtain ⟨u,e1,t,e2⟩:=rv.get (i:=0) (x:=.int x) rfl
   have hP':its[0]? = some v:=by simpa using hP
   rw [hP'] at e1
   cases e1
   exact ⟨t,e2⟩
  subst hv
  show wpAny _ X.A.in1 (updateSeq S (fun _=>#[.int x tv,.int x tv]) >>= _) _ _ _
  refine wpAny_bind (wpAny_updateSeq hS' rfl ?_)
  rw [nm]
  refine wpAny_pure ⟨plainId_quiet PySem.F.plain_max_loop _,ZIL hh hSI hSl hlI hi _ 1 _ x tv _ rfl (by rw [hlen];exact Nat.succ_le_succ (Nat.zero_le _)) ?_ ?_ (Heap.get?_update_self _ hS' rfl) fun t h3 tk3 hk3=>?_⟩
  ·obtain ⟨o,e,r⟩:=st'.1
   exact ⟨o,(Heap.get?_update_other _ _ hSI).trans e,r⟩
  ·obtain ⟨o,e,r⟩:=st'.2
   exact ⟨o,(Heap.get?_update_other _ _ hSl).trans e,r⟩
  ·exact keepI (fun a o ha hs e=>hk3 a o ha hs ((Heap.get?_update_other _ _ (Ne.symm hs)).trans (hk' a o (by simpa using ha) e))) rfl
def ZOD (t tk:TA) (K:PySem.W.Frag):TE:=fun σ H Q=>t σ H fun vs H1=>tk σ H1 fun zs H2=>∃ (l:Addr) (ns:List Int) (d:Int),vs=[.ref l]∧zs=[.int d]∧SqL K H2 l (ns.map V.int)∧Q (.int (ZN1 d ns)) H2
theorem ZL7 {p pos kp:Pos} {e dv:Expr} {t tk:TA} (hc:X.calm=true) (hg:Gl X "max") (hm:X.mg "max" = none) (ha:PA X [e] t) (hk:PK X [⟨some (Str.ofString "default"),dv,kp⟩] tk)
  (he:backTo pos (starEach [e] X.env)=(false,eval e X.env) :: backTo pos (starEach [] X.env):=by rfl) (hplain:(backTo pos (starEach [e] X.env)).any (·.1)=false:=by rfl) :
  PE X (.Call (.Name "max" p) [e] [⟨some (Str.ofString "default"),dv,kp⟩] pos) (ZOD t tk X.K):=by
 intro pins s σ H Q I h
 refine wpAny_Call_Name_kw (ZC3 I hg hm ZFW (callWith_kw (thn (ha pos pins s σ H _ I h) fun us s1 ⟨vs,H1,I1,r,q⟩=>?_) he hplain))
 refine thn (hk pos pins s1 σ H1 _ I1 q) fun ws s2 ⟨zs,H2,I2,rz,l,ns,d,e1,e2,hq,q2⟩=>?_
 subst e1 e2
 obtain ⟨u,rfl,ru⟩:=ZB8 r
 obtain ⟨u2,rfl,t2,rfl⟩:=ZB8 rz
 cases ru
 exact ZF6 hc I2 hq q2
end
def Its (x:Str):It:=⟨fun i _=>i<x.cps.size,fun i H v H'=>H'=H∧∃ c,x.cps[i]? = some c∧v=.str ⟨#[c]⟩,fun i _=>i=x.cps.size⟩
theorem ZD1 {P:Program} {w:World} {K:PySem.W.Frag} {tg:Expr} (ty:String) (hty:["enumerate","zip","dict_itemiterator","dict_reverseitemiterator","odict_iterator","itertools.zip_longest","itertools.pairwise"].contains ty=false) (x:Str) (t:Tok) (it:Addr)
  (W:∀ A:Around,A.handled=none->Walks P w A it [it] [it] x.cps.size (SignAt x) (fun i h=>h.IsStrIter it ty x t i))
  (self:∀ (A:Around) (i:Nat) (s:Shared) (Q:Value->Shared->Prop) (E:Value->Shared->Prop),s.heap.IsStrIter it ty x t i->Q (.ref it) s->wpAny (model P w) A (pyIter (.ref it)) Q E s) :
  Turn P w K tg (Its x) [it] it (fun i h=>h.IsStrIter it ty x t i) where
 mem:=by simp
 obj:=fun i h st b hb=>by
  have e:b=it:=by simpa using hb
  subst e
  obtain ⟨o,e,c,d⟩:=st
  exact ⟨o,e,fun v z=>by rw [d] at z;cases z⟩
 keep:=fun i h h' ⟨o,e,r⟩ k=>⟨o,k it (by simp) o e,r⟩
 item:=by
  intro X hP hw hK hc i pins s σ H E I hf st hg
  subst hP hw hK
  obtain ⟨f0,f1,f2,f3,f4,f5⟩:=hf it (by simp)
  refine (W X.A (I.ok.hd hc)).item i s _ _ hg st fun v h' tk hv st' kk=>?_
  obtain ⟨c,u,hx,rfl⟩:=hv
  have I1:Inv X pins σ H { s with heap:=h',toks:=tk }:=I.turned (fun b o hb e=>kk b o (by simpa using hb) e) f0 f1 f3 f4 f5
  obtain ⟨o,e,cl,d⟩:=id st'
  exact ⟨_,rfl,ZJq (s:={ s with heap:=h',toks:=tk }) e cl d hty ⟨.str ⟨#[c]⟩,H,I1,⟨u,rfl⟩,⟨rfl,c,hx,rfl⟩,st',fun b hb=>(hf b hb).1⟩⟩
 done:=by
  intro X hP hw hK hc i pins s σ H E I hf st hg
  subst hP hw hK
  obtain ⟨f0,f1,f2,f3,f4,f5⟩:=hf it (by simp)
  have hi:i=x.cps.size:=hg
  subst hi
  exact (W X.A (I.ok.hd hc)).done s _ _ st fun h' tk kk=>⟨rfl,I.turned (fun b o hb e=>kk b o (by simpa using hb) e) f0 f1 f3 f4 f5⟩
 self:=self
section
variable {X:Cx} {tg:Expr}
def ZPJ (tl:TE):TI:=fun σ H R=>tl σ H fun v H1=>∃ x,v=.str x∧R (Its x) H1
theorem ZNu {l:Expr} {tl:TE} (hl:PE X l tl):PI X tg l (ZPJ tl):=by
 intro pins s σ H R I h
 refine thn (hl pins s σ H _ I h) fun v s1 ⟨z,H1,I1,r1,x,e,q⟩=>?_
 subst e
 obtain ⟨t,rfl⟩:=r1
 have fp:∀ b∈[s1.heap.objs.size],ZEE X pins H1 b:=fun b hb=>by
  rw [List.mem_singleton.mp hb]
  exact I1.fpOk (Nat.le_refl _) (I1.hok.fresh (Nat.le_refl _))
 cases ha:x.cps.all (· < 128)
 ·exact wpAny_pyIter_wide ha ⟨s1.heap.objs.size,[s1.heap.objs.size],_,_,H1,rfl,I1.kept (t':=s1.toks) fun b o e=>Heap.get?_push_of_some _ e,
   ZD1 "str_iterator" (by decide) x t _ (fun A hA=>Walks.strWide hA _ x t) (fun A i s Q E st h=>wpAny_pyIter_striter_wide st h),⟨_,Heap.get?_push_size _ rfl,rfl,rfl⟩,fp,q⟩
 ·exact wpAny_pyIter_ascii ha ⟨s1.heap.objs.size,[s1.heap.objs.size],_,_,H1,rfl,I1.kept (t':=s1.toks) fun b o e=>Heap.get?_push_of_some _ e,
   ZD1 "str_ascii_iterator" (by decide) x t _ (fun A hA=>Walks.strAscii hA _ x t) (fun A i s Q E st h=>wpAny_pyIter_striter_ascii st h),⟨_,Heap.get?_push_size _ rfl,rfl,rfl⟩,fp,q⟩
end
section
variable {σ:St} {H:Hp} {ix:List Nat} {te:TE} {Q:VK} {K:PySem.W.Frag}
theorem ZA3 {J:It} {n:Nat} (item:Nat->V->Prop) (Pv:Addr->Nat->List V->Hp->Prop) (hn:n<sizeLine)
  (hgo:∀ D i ys H,i<n->Pv D i ys H->J.go i H) (hy:∀ D i ys H x H',i<n->Pv D i ys H->J.yld i H x H'->H'=H∧item i x) (hstop:∀ D ys H,Pv D n ys H->J.stop n H)
  (h0:∀ D,H D=none->Pv D 0 [] (upd H D (.lst [])))
  (step:∀ D i ys H x,H D=some (.lst ys)->ys.length<=i->i<n->item i x->Pv D i ys H->∀ R:VK,(∀ y H3,H3 D=some (.lst ys)->Pv D (i+1) (ys++[y]) (upd H3 D (.lst (ys++[y])))->R y H3)->te (ZDw σ ix x) H R)
  (fin:∀ D ys H,H D=some (.lst ys)->Pv D n ys H->Q (.ref D) H):cEnd J σ ix ZLO te H Q:=by
 intro D hD
 refine ⟨fun i m H=>m=n - i∧i<=n∧∃ ys,H D=some (.lst ys)∧ys.length<=i∧Pv D i ys H,⟨n,rfl,Nat.zero_le _,[],ZAA,Nat.le_refl _,h0 D hD⟩,?_⟩
 rintro i m H ⟨rfl,hi,ys,e,hl,p⟩
 by_cases hlt:i<n
 ·refine .inr ⟨hgo D i ys H hlt p,fun x H' y=>?_⟩
  obtain ⟨rfl,it⟩:=hy D i ys H x H' hlt p y
  unfold ZLO
  dsimp only
  rw [if_pos rfl]
  refine step D i ys _ x e hl hlt it p _ fun y H3 e3 p3=>?_
  exact ⟨ys,n - (i+1),e3,by omega,by omega,rfl,hlt,ys++[y],ZAA,by rw [List.length_append,List.length_singleton];omega,p3⟩
 ·have e':i=n:=by omega
  subst e'
  exact .inl ⟨hstop D ys H p,fin D ys H e p⟩
theorem ZGA {J:It} {n:Nat} {tt:TT} (item:Nat->V->Prop) (keep:V->Bool) (Pv:Addr->Nat->List V->Hp->Prop) (hn:n<sizeLine)
  (hgo:∀ D i ys H,i<n->Pv D i ys H->J.go i H) (hy:∀ D i ys H x H',i<n->Pv D i ys H->J.yld i H x H'->H'=H∧item i x) (hstop:∀ D ys H,Pv D n ys H->J.stop n H)
  (h0:∀ D,H D=none->Pv D 0 [] (upd H D (.lst [])))
  (test:∀ D i ys H x,i<n->item i x->Pv D i ys H->∀ R:Bool->Hp->Prop,R (keep x) H->tt (ZDw σ ix x) H R)
  (yes:∀ D i ys H x,H D=some (.lst ys)->i<n->item i x->keep x=true->Pv D i ys H->Pv D (i+1) (ys++[x]) (upd H D (.lst (ys++[x])))) (no:∀ D i ys H x,H D=some (.lst ys)->i<n->item i x->keep x=false->Pv D i ys H->Pv D (i+1) ys H)
  (fin:∀ D ys H,H D=some (.lst ys)->Pv D n ys H->Q (.ref D) H):cEnd J σ ix tt (ZM7 0) H Q:=by
 intro D hD
 refine ⟨fun i m H=>m=n - i∧i<=n∧∃ ys,H D=some (.lst ys)∧ys.length<=i∧Pv D i ys H,⟨n,rfl,Nat.zero_le _,[],ZAA,Nat.le_refl _,h0 D hD⟩,?_⟩
 rintro i m H ⟨rfl,hi,ys,e,hl,p⟩
 by_cases hlt:i<n
 ·refine .inr ⟨hgo D i ys H hlt p,fun x H' y=>?_⟩
  obtain ⟨rfl,it⟩:=hy D i ys H x H' hlt p y
  refine test D i ys _ x hlt it p _ ?_
  cases hk:keep x with
  | true=>
   rw [if_pos rfl]
   exact ⟨x,rfl,ys,n - (i+1),e,by omega,by omega,rfl,hlt,ys++[x],ZAA,by rw [List.length_append,List.length_singleton];omega,yes D i ys _ x e hlt it hk p⟩
  | false=>
   rw [if_neg Bool.false_ne_true]
   exact ⟨n - (i+1),by omega,rfl,hlt,ys,e,Nat.le_succ_of_le hl,no D i ys _ x e hlt it hk p⟩
 ·have e':i=n:=by omega
  subst e'
  exact .inl ⟨hstop D ys H p,fin D ys H e p⟩
end
theorem ObjOk.there {P:Program} {w:World} {H:Hp} {h:Heap} {a:Addr}:∀ {o:HO},ObjOk P w H h a o->∃ ob,h.get? a=some ob:=by
 intro o x
 induction o with
 | lst xs=>obtain ⟨z,its,n,r,e⟩:=x;exact ⟨_,e⟩
 | tup xs=>obtain ⟨z,its,r,ob,e,c⟩:=x;exact ⟨_,e⟩
 | dK kvs=>obtain ⟨z,y,vs,r,ob,es,ep,e,c⟩:=x;exact ⟨_,e⟩
 | dT kvs=>obtain ⟨z,y,xs,r,ob,es,ep,e,c⟩:=x;exact ⟨_,e⟩
 | set S n=>obtain ⟨ob,es,ep,t,e,c⟩:=x;exact ⟨_,e⟩
 | ins C dx fs=>obtain ⟨d,z,ne,e,_⟩:=x;exact ⟨_,e⟩
 | own y=>exact x
 | xd fs=>obtain ⟨mA,⟨od,es,ep,e,c⟩,r⟩:=x;exact ⟨_,e⟩
 | rng lo hi=>obtain ⟨t,u,v,e⟩:=x;exact ⟨_,e⟩
 | frz ob u ih=>exact ⟨_,x.1⟩
 | tbl ps=>exact ⟨_,x⟩
 | met f y=>exact ⟨_,x⟩
 | ext φ=>exact x.2.1
theorem HOk.there {P:Program} {w:World} {H:Hp} {h:Heap} {a:Addr} (x:HOk P w H h) (n:H a≠none):∃ ob,h.get? a=some ob:=by
 cases e:H a with
 | none=>exact absurd e n
 | some o=>exact ObjOk.there (x a o e)
theorem HOk.keptT {P:Program} {w:World} {H:Hp} {h h':Heap} (x:HOk P w H h) (k:∀ b u,h.get? b=some u->H b≠none->h'.get? b=some u):HOk P w H h':=fun a o e=>
 (x a o e).stay (fun b u hb q=>k b u q (by
  rcases hb with rfl | hb
  ·rw [e];exact fun z=>nomatch z
  ·rw [hb];exact fun z=>nomatch z)) (fun _ q=>q) fun _ _ q=>q
section
variable {X:Cx} {pins:List (Addr×Obj)} {σ:St} {H H':Hp} {s s':Shared} {E:XK}
theorem Inv.noloc (I:Inv X pins σ H s):X.s₀.heap.get? X.env.locals=none:=Heap.get?_none_of_le I.ok.above
theorem ZDa (I:Inv X pins σ H s):∀ b∈frs X.stack,∀ o,s.heap.get? b=some o->∀ vs,o.data≠.fields vs:=fun b hb o q vs z=>by
 obtain ⟨_,o',e,d⟩:=I.stack.mem hb
 rw [q] at e
 cases e
 exact d vs z
end
end L2
namespace L2
open PySem PySem.Spec PySem.W PyProof.Rows
def IsOf (x C:Addr) (h:Heap):Prop:=∃ o,h.get? x=some o∧o.cls=.ref C
theorem IsOf.ty {x C:Addr} {h:Heap} (I:IsOf x C h) (M:Model):Looks M h (typeOf (.ref x)) (.ref C):=by
 obtain ⟨o,e,c⟩:=I
 rw [<-c]
 exact Looks.andThen (Looks.ld e) Looks.now
structure ExcC (K:Frag) (C:Addr):Prop where
 ga:findIn K (.ref C) "__getattribute__" = some (some (.builtin "BaseException.__getattribute__"))
 hk:findIn K (.ref C) "__getattr__" = some none
 mB:mroIn K C (.type "BaseException")=some true
 mO:mroIn K C (.type "object")=some true
 ca:findIn K (.ref C) "__class__" = some (some (.builtin "object.__class__"))
 hn:specialIn K (.builtin "object.__class__") "__get__" = some (some (.builtin "getset_descriptor.__get__"))
 tk:takesIn K (.builtin "object.__class__")=some true
section
variable {prog:Program} {w:World} {A:Around} {E:Value->Shared->Prop} {s:Shared} {K:Frag} {x C:Addr}
theorem ZIy {nv:Value} {Q:Unit->Shared->Prop} (X:K.In s.heap) (I:IsOf x C s.heap) (hm:mroIn K C (.type "BaseException")=some true) (hq:Q () s) :
  wpAny (model prog w) A (checkBuiltinCall "BaseException.__getattribute__" ⟨[.ref x,nv],[]⟩) Q E s:=by
 obtain ⟨hh,g,d,t,os⟩:=s
 have k1:builtinKind "BaseException.__getattribute__" = some .slot:=by decide +kernel
 have k2:splitId "BaseException.__getattribute__" = some ("BaseException","__getattribute__"):=by decide +kernel
 have la:=I.ty (model prog w)
 have lb:=looks_mroIn (M:=model prog w) X hm
 have lc:=F.args_bexc_ga (.ref x) nv
 simp only [checkBuiltinCall,k1,k2]
 refine wpAny_bind ?_
 unfold isInstance
 repeat lk
 exact hq
theorem ZJh {name:Str} {tk:Tok} {r:Builtin.ObjectAttr.Found} {Q:Fin->Shared->Prop} (X:K.In s.heap) (I:IsOf x C s.heap) (fd:Looks (model prog w) s.heap (Builtin.ObjectAttr.find (.ref x) (.ref C) name) r)
  (h:match r with
   | .value v=>Q (.done (.ret v)) s
   | .bind g a=>wpAny (model prog w) A (call g [a,.ref x,.ref C]) (fun v s'=>Q (.done (.ret v)) s') E s
   | .missing=>False):wpAny (model prog w) A (Builtin.«object.__getattribute__» ⟨[.ref x,.str name tk],[]⟩) Q E s:=by
 obtain ⟨hh,g,d,t,os⟩:=s
 have la:=I.ty (model prog w)
 unfold Builtin.«object.__getattribute__»
 refine wpAny_bind (wpAny_pure ?_)
 refine wpAny_bind (wpAny_pure ?_)
 refine wpAny_bind (la.at ?_)
 refine wpAny_bind (fd.at ?_)
 cases r with
 | value v=>exact wpAny_pure h
 | bind g a=>
  show wpAny _ _ (holding [a] (call g [a,.ref x,.ref C]) >>= ret) _ _ _
  exact wpAny_bind (wpAny_holding (wpAny_mono h (fun v s' z=>wpAny_pure z) fun _ _ z=>z))
 | missing=>exact h.elim
theorem ZG2 {name:Str} {r:Builtin.ObjectAttr.Found} {expr fill:Bool} {tk:Tok} {Q:Value->Shared->Prop} (X:K.In s.heap) (I:IsOf x C s.heap) (e:ExcC K C) (fd:Looks (model prog w) s.heap (Builtin.ObjectAttr.find (.ref x) (.ref C) name) r)
  (h:match r with
   | .value v=>handedIn v=true∧Q v s
   | .bind g a=>wpAny (model prog w) A.in1 (call g [a,.ref x,.ref C]) (fun v s'=>handedIn v=true∧Q v s') (fun _ _=>False) s
   | .missing=>False):wpAny (model prog w) A (getAttrBy (.ref x) (.str name tk) fill expr) Q E s:=by
 have FA:=F.excAttr_ValueError
 have la:=I.ty (model prog w)
 have lb:=looks_findIn (M:=model prog w) X e.ga
 have lc:=looks_findIn (M:=model prog w) X e.hk
 have ne:(Value.builtin "BaseException.__getattribute__" == Value.builtin "object.__getattribute__")=false:=by decide +kernel
 obtain ⟨hh,g,d,t,os⟩:=s
 unfold getAttrBy
 refine wpAny_holding (wpAny_bind (la.at (wpAny_bind (lb.at ?_))))
 show wpAny _ _ (if (true&&(Value.builtin "BaseException.__getattribute__" == Value.builtin "object.__getattribute__"))=true then _ else getAttrByItsOwn (.ref x) (.str name tk) (.ref C) (.builtin "BaseException.__getattribute__") fill expr) _ _ _
 rw [ne,if_neg (by decide)]
 unfold getAttrByItsOwn hookBefore
 refine wpAny_bind (lc.at ?_)
 refine wpAny_bind (wpAny_attempt (wpAny_holding ?_))
 unfold callGetattribute
 rw [if_neg (by cases expr <;> decide)]
 unfold boundAndCalled
 rw [FA.ga.bind (.ref x)]
 refine wpAny_bind (wpAny_pure ?_)
 refine wpAny_call (codeAny_call_builtin FA.ga.plain F.entry_bexc_ga (ZIy X I e.mB (ZJh X I fd ?_)))
 cases r with
 | value v=>exact handed_on h.1 h.2
 | bind g a=>exact wpAny_mono h (fun v s' z=>handed_on z.1 z.2) fun _ _ z=>z.elim
 | missing=>exact h.elim
theorem ZMd {R:Result->Shared->Prop} {tp:Value} (X:K.In s.heap) (I:IsOf x C s.heap) (e:ExcC K C) (h:R (.ok (.ret (.ref C))) s) :
  codeAny (model prog w) A (.call (.builtin "getset_descriptor.__get__") ⟨[.builtin "object.__class__",.ref x,tp],[]⟩) R s:=by
 obtain ⟨hh,gs,dr,tt,oss⟩:=s
 have la:=I.ty (model prog w)
 have lb:=looks_mroIn (M:=model prog w) X e.mO
 refine codeAny_call_builtin KF.slot_gs.plain KF.entry_gs ?_
 refine KF.slot_gs.check _ _ _ _ _ _ _ _ KF.type_class (KF.args_gs _ _ _) ?_
 unfold Builtin.«getset_descriptor.__get__»
 unfold Builtin.Getset_descriptor.descrGet
 rw [dga_obj]
 refine wpAny_bind (wpAny_pure ?_)
 unfold Builtin.Getset_descriptor.descrGetter
 unfold Builtin.Getset_descriptor.descrCheckInstance
 unfold Builtin.Getset_descriptor.descrNameAndClass
 unfold isInstance
 simp only [KF.owner_class]
 repeat lk
 refine ⟨Code.quiet_builtin _ (by decide +kernel),?_⟩
 refine codeAny_builtin KF.entry_class ?_
 unfold Builtin.«object.__class__»
 unfold shownTypeOf
 repeat lk
 exact h
theorem ZKR (X:K.In s.heap) (e:ExcC K C) (M:Model):Looks M s.heap (Builtin.ObjectAttr.find (.ref x) (.ref C) "__class__") (.bind (.builtin "getset_descriptor.__get__") (.builtin "object.__class__")):=by
 have la:=looks_findIn (M:=M) X e.ca
 have lb:=looks_specialIn (M:=M) X e.hn
 have lc:=looks_takesIn (M:=M) X e.tk
 refine Looks.andThen la (Looks.andThen lb ?_)
 exact Looks.andThen (show Looks M s.heap (Builtin.ObjectAttr.dataDescriptor? (some (.builtin "object.__class__")) (some (.builtin "getset_descriptor.__get__"))) (some (_,_)) from Looks.andThen lc Looks.now) (Looks.tag Looks.now)
end
theorem ExcC.cls {K:Frag} {C:Addr} (e:ExcC K C):∃ cl d cd sl,K.lookup C=some ⟨cl,d,.cls cd,sl⟩:=by
 obtain ⟨cd,h,_⟩:=Option.bind_eq_some_iff.mp e.mB
 unfold clsIn at h
 split at h
 ·rename_i c' d' cd' sl' ho
  exact ⟨c',d',cd',sl',ho⟩
 ·cases h
theorem ZJv {K:Frag} {x C:Addr} (e:ExcC K C):KitX K (.ref x) (.ref C) (IsOf x C) where
 ty:=fun M _ _ I=>I.ty M
 it:=fun _ _ X _=>by
  obtain ⟨cl,d,cd,sl,ho⟩:=e.cls
  intro A' Q' E' s' k q
  unfold isType loadHead
  have z:=k _ _ (X _ _ ho)
  exact wpAny_bind (wpAny_loadPart z (wpAny_pure q))
 ne:=fun h tp dd its n sl X htp=>by
  obtain ⟨cl,d,cd,sl',ho⟩:=e.cls
  cases q:(Value.ref C==Value.ref tp) with
  | false=>rfl
  | true=>
   have e2:C=tp:=Value.ref.inj (eq_of_beq q)
   rw [<-e2,X _ _ ho] at htp
   cases htp
 ca:=fun {prog w A E Q s} X I k=>by
  unfold getAttr? getAttrBy?
  refine wpAny_bind (wpAny_mkText (wpAny_bind (wpAny_attempt ?_)))
  refine ZG2 (s:={ s with toks:=s.toks+1 }) X I e (ZKR (s:={ s with toks:=s.toks+1 }) X e _) ?_
  exact wpAny_call (ZMd (s:={ s with toks:=s.toks+1 }) X I e ⟨rfl,wpAny_pure k⟩)
end L2
namespace L2
open PySem PySem.Spec PyProof.Rows
def Cx.held (X:Cx) (ea:Addr) (E:Value->Shared->Prop):Cx:={ X with A:=X.A.mark (some (.ref ea)),calm:=false,xe:=E }
section
variable {X:Cx} {pins:List (Addr×Obj)} {σ:St} {H H':Hp} {s s':Shared} {ea:Addr} {E:Value->Shared->Prop}
theorem Inv.held (I:Inv X pins σ H s) (ea:Addr) (E:Value->Shared->Prop):Inv (X.held ea E) pins σ H s:=
 ⟨⟨I.ok.mod,I.ok.kind,I.ok.glob,I.ok.blt,I.ok.above,I.ok.inj,I.ok.has,I.ok.cab,fun z=>absurd z Bool.false_ne_true,I.ok.frames,I.ok.stk,I.ok.exf,I.ok.bs,I.ok.bsz,I.ok.noex,I.ok.exfs,I.ok.funs,I.ok.frf⟩,
  I.os,I.bare,I.base,I.loc,I.cell,I.free,I.freeC,I.pin,I.hok,I.len⟩
theorem Inv.unheld (ok:X.Ok) (I:Inv (X.held ea E) pins σ H s):Inv X pins σ H s:=⟨ok,I.os,I.bare,I.base,I.loc,I.cell,I.free,I.freeC,I.pin,I.hok,I.len⟩
theorem Inv.track {a:Addr} {o:HO} (I:Inv X pins σ H s) (h0:X.s₀.heap.get? a=none) (hl:a≠X.env.locals) (hc:∀ x c,X.env.cells.lookup x=some c->c≠a) (hp:∀ p∈X.pn++pins,p.1≠a) (hn:H a=none)
  (new:ObjOk X.prog X.w (upd H a o) s.heap a o):Inv X pins σ (upd H a o) s:=by
 have nt:∀ {b:Addr} {u:HO},H b=some u->b≠a:=fun {b u} e z=>by rw [z,hn] at e;cases e
 refine ⟨I.ok,I.os,I.bare,⟨I.base.keep,I.base.slot,fun b ob q n hx=>?_,I.base.there,fun b xs q=>?_,fun b ob u q=>?_,fun b ps q=>?_⟩,I.loc,I.cell,?_,fun x c e=>?_,fun p hp'=>?_,fun b u e=>?_,I.len⟩
 ·rw [ZAG (fun z=>by rw [z,h0] at q;cases q)]
  exact I.base.free b ob q n hx
 ·have e:=I.base.tups b xs q
  rw [ZAG (nt e)];exact e
 ·have e:=I.base.frzs b ob u q
  rw [ZAG (nt e)];exact e
 ·obtain ⟨more,e⟩:=I.base.tbls b ps q
  exact ⟨more,by rw [ZAG (nt e)];exact e⟩
 ·rw [ZAG (Ne.symm hl)];exact I.free
 ·rw [ZAG (hc x c e)];exact I.freeC x c e
 ·obtain ⟨e,n,r⟩:=I.pin p hp'
  exact ⟨e,by rw [ZAG (hp p hp')];exact n,r⟩
 ·by_cases hb:b=a
  ·subst hb
   rw [ZAA] at e
   cases e
   exact new
  ·rw [ZAG hb] at e
   exact (I.hok b u e).stay (fun _ _ _ q=>q) (fun c q=>by rw [ZAG (nt q)];exact q) fun c xs q=>by rw [ZAG (nt q)];exact q
theorem Inv.goes {i:Nat} {n:Str} {M:Model} {A:Around} {Q:Unit->Shared->Prop} {pos:Pos} (I:Inv X pins σ H s) (hN:X.N.Nodup) (hi:X.N[i]? = some n) (hx:X.env.scope.names.lookup n=some .local)
  (h:∀ s',Inv X pins (σ.set i none) H s'->Q () s'):wpAny M A (do bindName X.env n .none;unbindBehindTheSuite X.env n pos) Q E s:=by
 obtain ⟨m,hn,hl⟩:=id I.loc
 have hcls:(X.env.scope.kind==.class || (X.env.scope.kind==.module&&X.env.locals != X.env.globals))=false:=by rw [I.ok.kind];rfl
 have hiσ:i<σ.length:=by rw [I.len];exact (List.getElem?_eq_some_iff.mp hi).1
 refine wpAny_nameGoes_keeps hx hn hcls fun h' v hn' hs=>h _ ?_
 obtain ⟨oL,_,_,hoL,_⟩:=id hn
 have neL:∀ b o,X.s₀.heap.get? b=some o->b≠X.env.locals:=fun b o e=>Nat.ne_of_lt (Nat.lt_of_lt_of_le (Heap.lt_size e) I.ok.above)
 refine ⟨I.ok,I.os,I.bare,⟨fun b o e n hb hx=>?_,fun b o e n hb hx=>?_,I.base.free,fun b o e hx=>?_,I.base.tups,I.base.frzs,I.base.tbls⟩,⟨_,hn',fun j y v' e1 e2 e3=>?_⟩,fun y c e=>?_,I.free,I.freeC,fun p hp=>?_,fun b ob e=>?_,by simpa using I.len⟩
 ·exact (hs.2 b (neL b o e)).trans (I.base.keep b o e n hb hx)
 ·obtain ⟨sl,e1⟩:=I.base.slot b o e n hb hx
  exact ⟨sl,(hs.2 b (neL b o e)).trans e1⟩
 ·obtain ⟨o',e1⟩:=I.base.there b o e hx
  exact ⟨o',(hs.2 b (neL b o e)).trans e1⟩
 ·by_cases hj:j=i
  ·subst hj
   rw [List.getElem?_set_self hiσ] at e2
   cases e2
  ·rw [List.getElem?_set_ne (Ne.symm hj)] at e2
   obtain ⟨u',r',q⟩:=hl j y v' e1 e2 e3
   refine ⟨u',r',?_⟩
   rcases q with ⟨k,e⟩ | ⟨k,c,e,z⟩
   ·refine .inl ⟨k,?_⟩
    have:y≠n:=fun e=>hj (ZEW hN e1 (e ▸ hi))
    simp [this,e]
   ·exact .inr ⟨k,c,e,z.sameBut hs (I.cne y c e)⟩
 ·obtain ⟨w',z⟩:=I.cell y c e
  exact ⟨w',z.sameBut hs (I.cne y c e)⟩
 ·obtain ⟨e,n,ne,nf,d⟩:=I.pin p hp
  exact ⟨(hs.2 p.1 ne).trans e,n,ne,nf,d⟩
 ·refine (I.hok b ob e).stay (fun c w' hc q=>(hs.2 c ?_).trans q) (fun _ q=>q) fun _ _ q=>q
  rintro rfl
  rcases hc with rfl | hc
  ·rw [I.free] at e;cases e
  ·rw [I.free] at hc;cases hc
end
section
variable {prog:Program} {w:World} {A:Around} {E:Value->Shared->Prop} {s:Shared} {K:PySem.W.Frag} {x C CB:Addr}
theorem ZDW {b:Bool} {Q:Bool->Shared->Prop} (X:K.In s.heap) (I:IsOf x C s.heap) (ht:PySem.W.typeIn K (.ref CB)=some (.type "type")) (hB:PySem.W.mroIn K CB (.type "BaseException")=some true)
  (hC:PySem.W.mroIn K C (.ref CB)=some b) (h:Q b s):wpAny (model prog w) A (excMatches (.ref x) (.ref CB)) Q E s:=by
 obtain ⟨hh,g,d,t,os⟩:=s
 have L0:=I.ty (model prog w)
 have L1:=PySem.W.looks_mroIn (M:=model prog w) X hB
 have L2:=PySem.W.looks_mroIn (M:=model prog w) X hC
 have L3:=PySem.W.looks_typeIn (M:=model prog w) X ht
 have f:=tc_notTuple
 have L4:PySem.W.Looks (model prog w) hh (isType (.ref CB)) true:=by
  obtain ⟨cdD,hcD,_⟩:=Option.bind_eq_some_iff.mp hB
  unfold PySem.W.clsIn at hcD
  split at hcD
  ·rename_i c' d' cd' sl' ho
   intro A' Q' E' s' k q
   unfold isType loadHead
   exact wpAny_bind (wpAny_loadPart (k _ _ (X _ _ ho)) (wpAny_pure q))
  ·cases hcD
 unfold excMatches isInstance isExcClass
 refine wpAny_bind (wpAny_bind (L3.at ?_))
 rw [f]
 refine wpAny_pure ?_
 rw [if_neg Bool.false_ne_true]
 refine wpAny_bind (wpAny_pure ?_)
 simp only [List.forIn_cons,List.forIn_nil]
 cases b with
 | true=>
  repeat (first | lk | wp_step)
  all_goals first | exact h | trace_state
 | false=>
  repeat (first | lk | wp_step)
  all_goals first | exact h | trace_state
end
end L2
namespace Tw
open PySem
inductive KT where
 | int (i:Int)
 | str (x:Str)
 | tup (l:List KT)
mutual
def KT.depth:KT->Nat
 | .int _=>0
 | .str _=>0
 | .tup l=>1+depthL l
def depthL:List KT->Nat
 | []=>0
 | t :: r=>max t.depth (depthL r)
end
mutual
def KT.size:KT->Nat
 | .int _=>1
 | .str _=>1
 | .tup l=>1+sizeL l
def sizeL:List KT->Nat
 | []=>0
 | t :: r=>t.size+sizeL r
end
def ZBw (c:Nat):Bool:=decide (32<=c)&&decide (c<=126)
def ZDb (x:Str):Bool:=decide (x.length<=40)&&x.cps.toList.all ZBw
mutual
def KT.fits:KT->Nat->Bool
 | .int i,_=>decide (i.natAbs<10 ^ 60)
 | .str x,_=>ZDb x
 | .tup l,r=>decide (0<r)&&(decide (l.length<=4)&&fitsL l (r - 1))
def fitsL:List KT->Nat->Bool
 | [],_=>true
 | t :: l,r=>t.fits r&&fitsL l r
end
theorem ZB1 (r:Nat):∀ l:List KT,fitsL l r=l.all fun t=>t.fits r
 | []=>by simp [fitsL]
 | t :: l=>by rw [fitsL,List.all_cons,ZB1 r l]
mutual
theorem ZBD:∀ (t:KT) (r:Nat),t.fits r=true->t.depth<=r
 | .int _,r,_=>by rw [KT.depth];exact Nat.zero_le _
 | .str _,r,_=>by rw [KT.depth];exact Nat.zero_le _
 | .tup l,r,h=>by
  rw [KT.fits,Bool.and_eq_true,Bool.and_eq_true] at h
  obtain ⟨h1,_,h3⟩:=h
  have h1':0<r:=of_decide_eq_true h1
  have:=fitsL_depth l (r - 1) h3
  rw [KT.depth]
  omega
theorem fitsL_depth:∀ (l:List KT) (r:Nat),fitsL l r=true->depthL l<=r
 | [],r,_=>by rw [depthL];exact Nat.zero_le _
 | t :: l,r,h=>by
  rw [fitsL,Bool.and_eq_true] at h
  have a:=ZBD t r h.1
  have b:=fitsL_depth l r h.2
  rw [depthL]
  omega
end
mutual
theorem ZDf:∀ (t:KT) (r q:Nat),t.fits r=true->t.depth<=q->t.fits q=true
 | .int _,r,q,h,_=>by rw [KT.fits] at h ⊢;exact h
 | .str _,r,q,h,_=>by rw [KT.fits] at h ⊢;exact h
 | .tup l,r,q,h,hd=>by
  rw [KT.fits,Bool.and_eq_true,Bool.and_eq_true] at h ⊢
  obtain ⟨h1,h2,h3⟩:=h
  rw [KT.depth] at hd
  exact ⟨decide_eq_true (by omega),h2,fitsL_more l (r - 1) (q - 1) h3 (by omega)⟩
theorem fitsL_more:∀ (l:List KT) (r q:Nat),fitsL l r=true->depthL l<=q->fitsL l q=true
 | [],r,q,_,_=>by rw [fitsL]
 | t :: l,r,q,h,hd=>by
  rw [fitsL,Bool.and_eq_true] at h ⊢
  rw [depthL] at hd
  exact ⟨ZDf t r q h.1 (by omega),fitsL_more l r q h.2 (by omega)⟩
end
def KT.things:KT->List KT
 | .tup l=>l
 | _=>[]
def below (l:List KT):List KT:=l.flatMap KT.things
mutual
def KT.eqb:KT->KT->Bool
 | .int i,.int j=>i==j
 | .str x,.str y=>x==y
 | .tup l,.tup m=>eqbL l m
 | _,_=>false
def eqbL:List KT->List KT->Bool
 | [],[]=>true
 | a :: l,b :: m=>a.eqb b&&eqbL l m
 | _,_=>false
end
mutual
def KT.plt:KT->KT->Bool
 | .int i,.int j=>decide (i<j)
 | .str x,.str y=>decide (x.cps.toList<y.cps.toList)
 | .tup l,.tup m=>pltL l m
 | _,_=>false
def pltL:List KT->List KT->Bool
 | [],[]=>false
 | [],_ :: _=>true
 | _ :: _,[]=>false
 | a :: l,b :: m=>if a.eqb b=true then pltL l m else a.plt b
end
mutual
def KT.cmp:KT->KT->Bool
 | .int _,.int _=>true
 | .str _,.str _=>true
 | .tup l,.tup m=>cmpL l m
 | _,_=>false
def cmpL:List KT->List KT->Bool
 | [],_=>true
 | _ :: _,[]=>true
 | a :: l,b :: m=>if a.eqb b=true then cmpL l m else a.cmp b
end
def KT.kind:KT->Nat
 | .int _=>0
 | .str _=>1
 | .tup _=>2
mutual
def KT.lt:KT->KT->Bool
 | .int i,.int j=>decide (i<j)
 | .int _,.str _=>true
 | .int _,.tup _=>true
 | .str _,.int _=>false
 | .str x,.str y=>decide (x.cps.toList<y.cps.toList)
 | .str _,.tup _=>true
 | .tup _,.int _=>false
 | .tup _,.str _=>false
 | .tup l,.tup m=>ltL l m
def ltL:List KT->List KT->Bool
 | [],[]=>false
 | [],_ :: _=>true
 | _ :: _,[]=>false
 | a :: l,b :: m=>if a.eqb b=true then ltL l m else a.lt b
end
mutual
def KT.st:KT->KT
 | .int i=>.tup [.int 0,.int i]
 | .str x=>.tup [.int 1,.str x]
 | .tup l=>.tup [.int 2,.tup (stL l)]
def stL:List KT->List KT
 | []=>[]
 | t :: l=>t.st :: stL l
end
theorem ZJO:∀ l:List KT,stL l=l.map KT.st
 | []=>by rw [stL];rfl
 | t :: l=>by rw [stL,ZJO l];rfl
mutual
theorem ZGw:∀ (a b:KT),a.eqb b=true->a=b
 | .int i,.int j,h=>by rw [KT.eqb] at h;rw [eq_of_beq h]
 | .str x,.str y,h=>by rw [KT.eqb] at h;rw [eq_of_beq h]
 | .tup l,.tup m,h=>by rw [KT.eqb] at h;rw [eqbL_eq l m h]
 | .int _,.str _,h=>by simp [KT.eqb] at h
 | .int _,.tup _,h=>by simp [KT.eqb] at h
 | .str _,.int _,h=>by simp [KT.eqb] at h
 | .str _,.tup _,h=>by simp [KT.eqb] at h
 | .tup _,.int _,h=>by simp [KT.eqb] at h
 | .tup _,.str _,h=>by simp [KT.eqb] at h
theorem eqbL_eq:∀ (l m:List KT),eqbL l m=true->l=m
 | [],[],_=>rfl
 | a :: l,b :: m,h=>by
  rw [eqbL,Bool.and_eq_true] at h
  rw [ZGw a b h.1,eqbL_eq l m h.2]
 | [],_ :: _,h=>by simp [eqbL] at h
 | _ :: _,[],h=>by simp [eqbL] at h
end
mutual
theorem ZCY:∀ a:KT,a.eqb a=true
 | .int i=>by rw [KT.eqb];exact beq_self_eq_true i
 | .str x=>by rw [KT.eqb];exact beq_self_eq_true x
 | .tup l=>by rw [KT.eqb];exact eqbL_self l
theorem eqbL_self:∀ l:List KT,eqbL l l=true
 | []=>by rw [eqbL]
 | a :: l=>by rw [eqbL,ZCY a,eqbL_self l];rfl
end
theorem eqb_iff {a b:KT}:a.eqb b=true ↔ a=b:=⟨ZGw a b,fun e=>by rw [e];exact ZCY b⟩
mutual
theorem ZLH:∀ a b:KT,a.st.eqb b.st=a.eqb b
 | .int i,.int j=>by simp [KT.st,KT.eqb,eqbL]
 | .str x,.str y=>by simp [KT.st,KT.eqb,eqbL]
 | .tup l,.tup m=>by simp [KT.st,KT.eqb,eqbL,eqbL_st l m]
 | .int _,.str _=>by simp [KT.st,KT.eqb,eqbL]
 | .int _,.tup _=>by simp [KT.st,KT.eqb,eqbL]
 | .str _,.int _=>by simp [KT.st,KT.eqb,eqbL]
 | .str _,.tup _=>by simp [KT.st,KT.eqb,eqbL]
 | .tup _,.int _=>by simp [KT.st,KT.eqb,eqbL]
 | .tup _,.str _=>by simp [KT.st,KT.eqb,eqbL]
theorem eqbL_st:∀ l m:List KT,eqbL (stL l) (stL m)=eqbL l m
 | [],[]=>by simp [stL,eqbL]
 | a :: l,b :: m=>by simp [stL,eqbL,ZLH a b,eqbL_st l m]
 | [],_ :: _=>by simp [stL,eqbL]
 | _ :: _,[]=>by simp [stL,eqbL]
end
theorem ZGY:∀ l:List KT,ltL l l=false
 | []=>by rw [ltL]
 | a :: l=>by rw [ltL,ZCY a,if_pos rfl,ZGY l]
theorem ZI5 {l m:List KT} (h:eqbL l m=true):ltL l m=false:=by
 rw [eqbL_eq l m h];exact ZGY m
mutual
theorem ZKt:∀ a b:KT,a.st.cmp b.st=true
 | .int i,.int j=>by simp [KT.st,KT.eqb,KT.cmp,cmpL]
 | .str x,.str y=>by simp [KT.st,KT.eqb,KT.cmp,cmpL]
 | .tup l,.tup m=>by simp [KT.st,KT.eqb,KT.cmp,cmpL,cmpL_st l m]
 | .int _,.str _=>by simp [KT.st,KT.eqb,KT.cmp,cmpL]
 | .int _,.tup _=>by simp [KT.st,KT.eqb,KT.cmp,cmpL]
 | .str _,.int _=>by simp [KT.st,KT.eqb,KT.cmp,cmpL]
 | .str _,.tup _=>by simp [KT.st,KT.eqb,KT.cmp,cmpL]
 | .tup _,.int _=>by simp [KT.st,KT.eqb,KT.cmp,cmpL]
 | .tup _,.str _=>by simp [KT.st,KT.eqb,KT.cmp,cmpL]
theorem cmpL_st:∀ l m:List KT,cmpL (stL l) (stL m)=true
 | [],_=>by simp [stL,cmpL]
 | _ :: _,[]=>by simp [stL,cmpL]
 | a :: l,b :: m=>by
  rw [stL,stL,cmpL,cmpL_st l m,ZKt a b]
  split <;> rfl
end
mutual
theorem ZLD:∀ a b:KT,a.st.plt b.st=a.lt b
 | .int i,.int j=>by
  simp only [KT.st,KT.eqb,KT.plt,pltL,KT.lt,beq_self_eq_true,if_true]
  by_cases h:i=j
  ·subst h;simp
  ·simp [h]
 | .str x,.str y=>by
  simp only [KT.st,KT.eqb,KT.plt,pltL,KT.lt,beq_self_eq_true,if_true]
  by_cases h:x=y
  ·subst h;simp
  ·simp [h]
 | .tup l,.tup m=>by
  simp only [KT.st,KT.eqb,KT.plt,pltL,KT.lt,beq_self_eq_true,if_true,eqbL_st,pltL_st l m]
  cases h:eqbL l m with
  | true=>rw [if_pos rfl,ZI5 h]
  | false=>rw [if_neg Bool.false_ne_true]
 | .int _,.str _=>by simp [KT.st,KT.eqb,KT.plt,pltL,KT.lt]
 | .int _,.tup _=>by simp [KT.st,KT.eqb,KT.plt,pltL,KT.lt]
 | .str _,.int _=>by simp [KT.st,KT.eqb,KT.plt,pltL,KT.lt]
 | .str _,.tup _=>by simp [KT.st,KT.eqb,KT.plt,pltL,KT.lt]
 | .tup _,.int _=>by simp [KT.st,KT.eqb,KT.plt,pltL,KT.lt]
 | .tup _,.str _=>by simp [KT.st,KT.eqb,KT.plt,pltL,KT.lt]
theorem pltL_st:∀ l m:List KT,pltL (stL l) (stL m)=ltL l m
 | [],[]=>by simp [stL,pltL,ltL]
 | [],_ :: _=>by simp [stL,pltL,ltL]
 | _ :: _,[]=>by simp [stL,pltL,ltL]
 | a :: l,b :: m=>by rw [stL,stL,pltL,ltL,ZLH a b,pltL_st l m,ZLD a b]
end
mutual
theorem ZGe:∀ t:KT,t.st.depth<=2 * t.depth+1
 | .int i=>by simp [KT.st,KT.depth,depthL]
 | .str x=>by simp [KT.st,KT.depth,depthL]
 | .tup l=>by
  have:=depthL_st l
  simp only [KT.st,KT.depth,depthL]
  omega
theorem depthL_st:∀ l:List KT,depthL (stL l)<=2 * depthL l+1
 | []=>by simp [stL,depthL]
 | t :: l=>by
  have a:=ZGe t
  have b:=depthL_st l
  rw [stL,depthL,depthL]
  omega
end
theorem ZJA {l:List KT} (h1:l.length<=4) (h2:fitsL l 2=true):(KT.tup l).fits 3=true:=by
 rw [KT.fits,Bool.and_eq_true,Bool.and_eq_true]
 exact ⟨rfl,decide_eq_true h1,h2⟩
theorem ZMu {x:Str} (h1:x.cps.size<=40) (h2:x.cps.toList.all ZBw=true):ZDb x=true:=by
 unfold ZDb
 rw [Bool.and_eq_true]
 exact ⟨decide_eq_true h1,h2⟩
inductive TG where
 | int (i:Int)
 | str (x:Str)
 | tup (l:List TG)
 | odd (n:String)
mutual
def TG.fits:TG->Nat->Bool
 | .int i,_=>decide (i.natAbs<10 ^ 60)
 | .str x,_=>ZDb x
 | .tup l,r=>decide (0<r)&&(decide (l.length<=4)&&gfitsL l (r - 1))
 | .odd _,_=>false
def gfitsL:List TG->Nat->Bool
 | [],_=>true
 | t :: l,r=>t.fits r&&gfitsL l r
end
end Tw
namespace Tw
open PySem PySem.Spec L2
structure DefOk (P:Program) (w:World) (K:PySem.W.Frag) (mg:Str->Option Value) (base:Heap) (k:Nat) (x:Str) (ps:List Str) (sp:Sp):Prop where
 ex:∃ f fd,FnOk P w K mg base CX0 k f fd ps sp∧Binds K fd ps []∧PySem.W.keepIn K (.ref f)=true∧mg x=some (.ref f)
theorem ZAT {X:Cx} {k:Nat} {x:Str} {ps:List Str} {sp:Sp} {e:Expr} {es:List Expr} {t:TA} {p pos:Pos} (D:DefOk X.prog X.w X.K X.mg X.base k x ps sp) (hr:Room k X.A) (ha:PA X (e :: es) t) (hg:Gl X x:=by rfl)
  (hdb:(x==("__debug__" : Str))=false:=by decide) (he:starEach (e :: es) X.env=(false,eval e X.env) :: starEach es X.env:=by rfl) (hpl:(backTo pos (starEach es X.env)).any (·.1)=false:=by rfl) :
  PE X (.Call (.Name x p) (e :: es) [] pos) (ZMA sp [] E0 t):=by
 obtain ⟨f,fd,F,b,kp,m⟩:=D.ex
 exact ZJD F hr hg m kp b .nil ZBQ ha hdb he hpl
mutual
def KeyAt (H:Hp):KT->V->Prop
 | .int i,v=>v=.int i
 | .str x,v=>v=.str x
 | .tup l,v=>∃ a vs,v=.ref a∧H a=some (.tup vs)∧KeysAt H l vs
def KeysAt (H:Hp):List KT->List V->Prop
 | [],vs=>vs=[]
 | t :: l,vs=>∃ v r,vs=v :: r∧KeyAt H t v∧KeysAt H l r
end
def ZBn (H H':Hp):Prop:=∀ b xs,H b=some (.tup xs)->H' b=some (.tup xs)
mutual
theorem KeyAt.mono {H H':Hp} (m:ZBn H H'):∀ (t:KT) (v:V),KeyAt H t v->KeyAt H' t v
 | .int _,_,h=>by rw [KeyAt] at h ⊢;exact h
 | .str _,_,h=>by rw [KeyAt] at h ⊢;exact h
 | .tup l,_,h=>by
  rw [KeyAt] at h ⊢
  obtain ⟨a,vs,e,h1,h2⟩:=h
  exact ⟨a,vs,e,m a vs h1,KeysAt.mono m l vs h2⟩
theorem KeysAt.mono {H H':Hp} (m:ZBn H H'):∀ (l:List KT) (vs:List V),KeysAt H l vs->KeysAt H' l vs
 | [],_,h=>by rw [KeysAt] at h ⊢;exact h
 | t :: l,_,h=>by
  rw [KeysAt] at h ⊢
  obtain ⟨v,r,e,h1,h2⟩:=h
  exact ⟨v,r,e,KeyAt.mono m t v h1,KeysAt.mono m l r h2⟩
end
theorem KeysAt.nil {H:Hp}:KeysAt H [] []:=by rw [KeysAt]
theorem KeysAt.cons {H:Hp} {t:KT} {l:List KT} {v:V} {r:List V} (h:KeyAt H t v) (hr:KeysAt H l r):KeysAt H (t :: l) (v :: r):=by
 rw [KeysAt]
 exact ⟨v,r,rfl,h,hr⟩
theorem KeyAt.tup {H:Hp} {a:Addr} {vs:List V} {l:List KT} (e:H a=some (.tup vs)) (h:KeysAt H l vs):KeyAt H (.tup l) (.ref a):=by
 rw [KeyAt]
 exact ⟨a,vs,rfl,e,h⟩
theorem KeyAt.int {H:Hp} (i:Int):KeyAt H (.int i) (.int i):=by rw [KeyAt]
theorem KeyAt.str {H:Hp} (x:Str):KeyAt H (.str x) (.str x):=by rw [KeyAt]
theorem KeysAt.append {H:Hp}:∀ {l m:List KT} {vs ws:List V},KeysAt H l vs->KeysAt H m ws->KeysAt H (l++m) (vs++ws)
 | [],m,vs,ws,h,g=>by rw [KeysAt] at h;subst h;exact g
 | t :: l,m,vs,ws,h,g=>by
  rw [KeysAt] at h
  obtain ⟨v,r,rfl,h1,h2⟩:=h
  exact .cons h1 (h2.append g)
theorem KeysAt.length {H:Hp}:∀ {l:List KT} {vs:List V},KeysAt H l vs->l.length=vs.length
 | [],vs,h=>by rw [KeysAt] at h;subst h;rfl
 | t :: l,vs,h=>by
  rw [KeysAt] at h
  obtain ⟨v,r,rfl,_,h2⟩:=h
  rw [List.length_cons,List.length_cons,h2.length]
theorem KeysAt.get {H:Hp}:∀ {l:List KT} {vs:List V} {i:Nat} {v:V},KeysAt H l vs->vs[i]? = some v->∃ t,l[i]? = some t∧KeyAt H t v
 | [],vs,i,v,h,e=>by rw [KeysAt] at h;subst h;simp at e
 | t :: l,vs,0,v,h,e=>by
  rw [KeysAt] at h
  obtain ⟨v',r,rfl,h1,_⟩:=h
  simp at e
  subst e
  exact ⟨t,rfl,h1⟩
 | t :: l,vs,i+1,v,h,e=>by
  rw [KeysAt] at h
  obtain ⟨v',r,rfl,_,h2⟩:=h
  obtain ⟨t',e1,e2⟩:=h2.get (i:=i) (by simpa using e)
  exact ⟨t',by simpa using e1,e2⟩
def KT.ty:KT->Value
 | .int _=>.type "int"
 | .str _=>.type "str"
 | .tup _=>.type "tuple"
theorem KeyAt.ty {H:Hp} {K:PySem.W.Frag} {t:KT} {v:V} (h:KeyAt H t v):TyOf K H v t.ty:=by
 cases t with
 | int i=>rw [KeyAt] at h;subst h;exact .int i
 | str x=>rw [KeyAt] at h;subst h;exact .str x
 | tup l=>rw [KeyAt] at h;obtain ⟨a,vs,rfl,e,_⟩:=h;exact .tup e
def SameX (p:Addr) (H H':Hp):Prop:=∀ b o,H b=some o->b≠p->H' b=some o
theorem SameX.refl (p:Addr) (H:Hp):SameX p H H:=fun _ _ h _=>h
theorem SameX.trans {p:Addr} {H H1 H2:Hp} (a:SameX p H H1) (b:SameX p H1 H2):SameX p H H2:=fun c o h n=>b c o (a c o h n) n
theorem SameX.upd {p:Addr} {H H':Hp} {o:HO} (a:SameX p H H'):SameX p H (L2.upd H' p o):=fun c u h n=>by rw [ZAG n];exact a c u h n
theorem SameX.of {p:Addr} {H H':Hp} (a:Same H H'):SameX p H H':=fun c o h _=>a c o h
theorem SameX.tups {p:Addr} {H H':Hp} {xs:List V} (a:SameX p H H') (h:H p=some (.lst xs)):ZBn H H':=fun b ys e=>a b _ e (ZAJ e h (by intro z;cases z))
theorem Same.tups {H H':Hp} (a:Same H H'):ZBn H H':=fun b ys e=>a b _ e
theorem ZAE {H:Hp} {p:Addr} (h:H p=none) (o:HO):Same H (L2.upd H p o):=fun b u q=>by rw [ZAG (ZAB q h)];exact q
structure WellAt (H:Hp) (p:Addr):Prop where
 ex:∃ a b c d:Int,H p=some (.lst [.int a,.int b,.int c,.int d])∧0<=a∧a<2147483647∧0<=c∧0<=d
theorem WellAt.same {H H':Hp} {p:Addr} (w:WellAt H p) (s:Same H H'):WellAt H' p:=by
 obtain ⟨a,b,c,d,e,r⟩:=w.ex
 exact ⟨a,b,c,d,s p _ e,r⟩
theorem WellAt.some {H:Hp} {p:Addr} (w:WellAt H p):∃ xs,H p=Option.some (.lst xs):=by
 obtain ⟨a,b,c,d,e,r⟩:=w.ex
 exact ⟨_,e⟩
theorem SameX.tupsW {p:Addr} {H H':Hp} (a:SameX p H H') (w:WellAt H p):ZBn H H':=by
 obtain ⟨xs,e⟩:=w.some
 exact a.tups e
def ZNE (m:Int):Prop:=0<m∧m.natAbs.log2<9000
def ZIV (K:PySem.W.Frag):Sp:=fun vs H Q _=>∃ (a:Addr) (ns:List Int) (k:Int),vs=[.ref a,.int k]∧SqL K H a (ns.map V.int)∧ns.length<=63∧0<=k∧k<=1000 ∧
 ∀ (p:Addr) (H':Hp),H p=none->Same H H'->WellAt H' p->Q (.ref p) H'
def ZCy:Sp:=fun vs H Q _=>∃ (p:Addr) (m:Int),vs=[.ref p,.int m]∧WellAt H p∧ZNE m∧∀ (r:Int) (H':Hp),0<=r->r<m->WellAt H' p->SameX p H H'->Q (.int r) H'
def ZD5 (n:Nat):Sp:=fun vs H Q _=>∃ (v:V) (t:KT) (r q:Nat),vs=[v,.int (r:Int)]∧KeyAt H t v∧t.fits q=true∧r<n∧∀ H',Same H H'->Q (.bl (t.fits r)) H'
def ZKb:Sp:=fun vs H Q _=>∃ i:Int,vs=[.int i]∧Q (.bl (decide (i.natAbs<10 ^ 60))) H
def ZGv:Sp:=fun vs H Q _=>∃ c:Nat,vs=[.str ⟨#[c]⟩]∧Q (.bl (ZBw c)) H
def ZFy:Sp:=fun vs H Q _=>∃ (v:V) (t:KT) (q:Nat),vs=[v]∧KeyAt H t v∧t.fits q=true∧∀ H',Same H H'->Q (.bl (t.fits 3)) H'
theorem nn {n:Nat} (h:n<=1000):n<=sizeLine:=Nat.le_of_lt (ZAO h)
theorem ZGt {α:Type} {xs:List α} {i:Int} (h0:0<=i) (h1:i<(xs.length:Int)):∃ v,atI xs i=some v∧v∈xs:=by
 have hk:i.toNat<xs.length:=by omega
 have e:i=((i.toNat:Nat):Int):=by omega
 rw [e]
 exact ⟨xs[i.toNat],ZAn (List.getElem?_eq_getElem hk),List.getElem_mem hk⟩
theorem ZAw {m:Int} (h0:0<m) (h1:m.natAbs<2 ^ 250):ZNE m:=by
 refine ⟨h0,?_⟩
 have:m.natAbs.log2<250:=(Nat.log2_lt (by omega)).mpr h1
 omega
theorem ZKP {i j:Int} (h:V.int i=V.int j):i=j:=by injection h
theorem ZKj (c:Nat):((!decide ([c]<[32])) && !decide ([126]<[c]))=ZBw c:=by
 unfold ZBw
 have a:([c]<[32]) ↔ c<32:=by simp [List.cons_lt_cons_iff]
 have b:([126]<[c]) ↔ 126<c:=by simp [List.cons_lt_cons_iff]
 rw [Bool.eq_iff_iff]
 simp only [Bool.and_eq_true,Bool.not_eq_true',decide_eq_false_iff_not,decide_eq_true_eq,a,b]
 omega
theorem ZN0 (i:Int):decide ((if i<0 then -i else i)<10 ^ (60:Int).toNat)=decide (i.natAbs<10 ^ 60):=by
 have e:((10:Int) ^ (60:Int).toNat)=((10 ^ 60:Nat):Int):=by decide +kernel
 rw [e]
 generalize (10 ^ 60:Nat)=N
 apply decide_eq_decide.mpr
 split <;> omega
end Tw
namespace Tw
open PySem PySem.Spec L2 PyProof.Rows
mutual
def KVal (h:Heap):KT->Value->Prop
 | .int i,v=>∃ t,v=.int i t
 | .str x,v=>∃ t,v=.str x t
 | .tup l,v=>∃ (a:Addr) (its:List Value),v=.ref a∧IsTup h a its.toArray∧KVals h l its
def KVals (h:Heap):List KT->List Value->Prop
 | [],vs=>vs=[]
 | t :: l,vs=>∃ v r,vs=v :: r∧KVal h t v∧KVals h l r
end
section
variable {X:Cx} {pins:List (Addr×Obj)} {σ:L2.St} {H:Hp} {s:Shared}
mutual
theorem ZEK (I:Inv X pins σ H s):∀ (t:KT) (x:V) (v:Value),KeyAt H t x->RelV x v->KVal s.heap t v
 | .int i,x,v,h,r=>by
  rw [KeyAt] at h
  subst h
  rw [KVal]
  exact r
 | .str y,x,v,h,r=>by
  rw [KeyAt] at h
  subst h
  rw [KVal]
  exact r
 | .tup l,x,v,h,r=>by
  rw [KeyAt] at h
  obtain ⟨a,vs,rfl,e,hk⟩:=h
  obtain ⟨its,rv,pl,_⟩:=I.tuple (SqT.of e)
  rw [KVal]
  exact ⟨a,its,r,pl,kvals_of I l vs its hk rv⟩
theorem kvals_of (I:Inv X pins σ H s):∀ (l:List KT) (vs:List V) (us:List Value),KeysAt H l vs->Vals vs us->KVals s.heap l us
 | [],vs,us,h,r=>by
  rw [KeysAt] at h
  subst h
  rw [KVals]
  cases r
  rfl
 | t :: l,vs,us,h,r=>by
  rw [KeysAt] at h
  obtain ⟨v,q,rfl,h1,h2⟩:=h
  cases r with
  | cons r1 r2=>
   rw [KVals]
   exact ⟨_,_,rfl,ZEK I t v _ h1 r1,kvals_of I l q _ h2 r2⟩
end
end
theorem ZIq {h:Heap} {a:Addr} {its its':List Value} (x:IsTup h a its.toArray) (y:IsTup h a its'.toArray):its=its':=by
 obtain ⟨o,e,_,n,d⟩:=x
 obtain ⟨o',e',_,n',d'⟩:=y
 rw [e] at e'
 cases e'
 rw [d] at d'
 injection d' with d1 _
 simpa using congrArg Array.toList d1
mutual
theorem KVal.inj {h:Heap}:∀ (a b:KT) (v:Value),KVal h a v->KVal h b v->a.eqb b=true
 | .int i,b,v,x,y=>by
  rw [KVal] at x
  obtain ⟨t,rfl⟩:=x
  cases b with
  | int j=>rw [KVal] at y;obtain ⟨u,e⟩:=y;injection e with e _;rw [KT.eqb,e];exact beq_self_eq_true j
  | str z=>rw [KVal] at y;obtain ⟨u,e⟩:=y;cases e
  | tup m=>rw [KVal] at y;obtain ⟨_,_,e,_⟩:=y;cases e
 | .str w,b,v,x,y=>by
  rw [KVal] at x
  obtain ⟨t,rfl⟩:=x
  cases b with
  | int j=>rw [KVal] at y;obtain ⟨u,e⟩:=y;cases e
  | str z=>rw [KVal] at y;obtain ⟨u,e⟩:=y;injection e with e _;rw [KT.eqb,e];exact beq_self_eq_true z
  | tup m=>rw [KVal] at y;obtain ⟨_,_,e,_⟩:=y;cases e
 | .tup l,b,v,x,y=>by
  rw [KVal] at x
  obtain ⟨p,its,rfl,px,kx⟩:=x
  cases b with
  | int j=>rw [KVal] at y;obtain ⟨u,e⟩:=y;cases e
  | str z=>rw [KVal] at y;obtain ⟨u,e⟩:=y;cases e
  | tup m=>
   rw [KVal] at y
   obtain ⟨q,its',e,py,ky⟩:=y
   cases e
   cases ZIq px py
   rw [KT.eqb]
   exact KVals.inj l m its kx ky
theorem KVals.inj {h:Heap}:∀ (l m:List KT) (us:List Value),KVals h l us->KVals h m us->eqbL l m=true
 | [],m,us,x,y=>by
  rw [KVals] at x
  subst x
  cases m with
  | nil=>rw [eqbL]
  | cons b m=>rw [KVals] at y;obtain ⟨_,_,e,_⟩:=y;cases e
 | a :: l,m,us,x,y=>by
  rw [KVals] at x
  obtain ⟨v,r,rfl,x1,x2⟩:=x
  cases m with
  | nil=>rw [KVals] at y;cases y
  | cons b m=>
   rw [KVals] at y
   obtain ⟨v',r',e,y1,y2⟩:=y
   injection e with e1 e2
   subst e1 e2
   rw [eqbL,KVal.inj a b v x1 y1,KVals.inj l m r x2 y2]
   rfl
end
theorem KVals.length {h:Heap}:∀ {l:List KT} {us:List Value},KVals h l us->l.length=us.length
 | [],us,x=>by rw [KVals] at x;subst x;rfl
 | a :: l,us,x=>by
  rw [KVals] at x
  obtain ⟨v,r,rfl,_,x2⟩:=x
  rw [List.length_cons,List.length_cons,x2.length]
theorem KVals.get {h:Heap}:∀ {l:List KT} {us:List Value} {j:Nat} {u:Value},KVals h l us->us[j]? = some u->∃ t,l[j]? = some t∧KVal h t u
 | [],us,j,u,x,e=>by rw [KVals] at x;subst x;simp at e
 | a :: l,us,0,u,x,e=>by
  rw [KVals] at x
  obtain ⟨v,r,rfl,x1,_⟩:=x
  simp at e
  subst e
  exact ⟨a,rfl,x1⟩
 | a :: l,us,j+1,u,x,e=>by
  rw [KVals] at x
  obtain ⟨v,r,rfl,_,x2⟩:=x
  obtain ⟨t,e1,e2⟩:=x2.get (j:=j) (by simpa using e)
  exact ⟨t,by simpa using e1,e2⟩
theorem ZB6:∀ {l:List KT} {t:KT},t∈l->t.depth<=depthL l
 | [],_,h=>by cases h
 | u :: l,t,h=>by
  rw [depthL]
  rcases List.mem_cons.mp h with e | h
  ·subst e;omega
  ·have:=ZB6 h;omega
theorem ZDx:∀ (l m:List KT),((List.range (min l.length m.length)).all (fun j=>(l.getD j (.int 0)).eqb (m.getD j (.int 0)))&&l.length==m.length)=eqbL l m
 | [],[]=>by simp [eqbL]
 | [],_ :: _=>by simp [eqbL]
 | _ :: _,[]=>by simp [eqbL]
 | a :: l,b :: m=>by
  have ih:=ZDx l m
  have e:min (a :: l).length (b :: m).length=min l.length m.length+1:=by simp only [List.length_cons];omega
  rw [e,List.range_succ_eq_map,List.all_cons,List.all_map,eqbL,<-ih,Bool.and_assoc]
  simp [Function.comp_def]
theorem ZEu {s:Shared}:∀ (n:Nat) (a b:KT) (A:Around) (v u:Value),a.depth<=n->KVal s.heap a v->KVal s.heap b u->A.units+a.depth<cLine->SeqAt.EqAt A s v u (a.eqb b)
 | n,.int i,b,A,v,u,_,x,y,hu=>by
  rw [KVal] at x
  obtain ⟨t,rfl⟩:=x
  have hu':A.units<cLine:=by omega
  cases b with
  | int j=>rw [KVal] at y;obtain ⟨t',rfl⟩:=y;rw [KT.eqb];exact SeqAt.EqAt.int_int i t j t'
  | str z=>rw [KVal] at y;obtain ⟨t',rfl⟩:=y;rw [show (KT.int i).eqb (.str z)=false by simp [KT.eqb]];exact SeqAt.EqAt.int_str i t z t'
  | tup m=>rw [KVal] at y;obtain ⟨p,its,rfl,py,_⟩:=y;rw [show (KT.int i).eqb (.tup m)=false by simp [KT.eqb]];exact SeqAt.EqAt.int_tuple i t py hu'
 | n,.str w,b,A,v,u,_,x,y,hu=>by
  rw [KVal] at x
  obtain ⟨t,rfl⟩:=x
  have hu':A.units<cLine:=by omega
  cases b with
  | int j=>rw [KVal] at y;obtain ⟨t',rfl⟩:=y;rw [show (KT.str w).eqb (.int j)=false by simp [KT.eqb]];exact SeqAt.EqAt.str_int w t j t'
  | str z=>rw [KVal] at y;obtain ⟨t',rfl⟩:=y;rw [KT.eqb];exact SeqAt.EqAt.str_str w t z t'
  | tup m=>rw [KVal] at y;obtain ⟨p,its,rfl,py,_⟩:=y;rw [show (KT.str w).eqb (.tup m)=false by simp [KT.eqb]];exact SeqAt.EqAt.str_tuple w t py hu'
 | 0,.tup l,b,A,v,u,hn,x,y,hu=>by
  rw [KT.depth] at hn
  omega
 | n+1,.tup l,b,A,v,u,hn,x,y,hu=>by
  have x':=x
  rw [KVal] at x
  obtain ⟨p,its,rfl,px,kx⟩:=x
  rw [KT.depth] at hn hu
  have hu':A.units<cLine:=by omega
  cases b with
  | int j=>rw [KVal] at y;obtain ⟨t',rfl⟩:=y;rw [show (KT.tup l).eqb (.int j)=false by simp [KT.eqb]];exact SeqAt.EqAt.tuple_int j t' px hu'
  | str z=>rw [KVal] at y;obtain ⟨t',rfl⟩:=y;rw [show (KT.tup l).eqb (.str z)=false by simp [KT.eqb]];exact SeqAt.EqAt.tuple_str z t' px hu'
  | tup m=>
   have y':=y
   rw [KVal] at y
   obtain ⟨q,its',rfl,py,ky⟩:=y
   by_cases hpq:p=q
   ·subst hpq
    rw [KVal.inj _ _ _ x' y']
    exact SeqAt.EqAt.same _
   ·have lx:=kx.length
    have ly:=ky.length
    have rc:=SeqAt.RcAt.tuples (A:=A) (s:=s) (e:=fun j=>(l.getD j (.int 0)).eqb (m.getD j (.int 0))) px py hu' (fun j h1 h2=>by
     have h1':j<its.length:=by simpa using h1
     have h2':j<its'.length:=by simpa using h2
     obtain ⟨t1,e1,k1⟩:=kx.get (j:=j) (u:=its[j]) (by simp [h1'])
     obtain ⟨t2,e2,k2⟩:=ky.get (j:=j) (u:=its'[j]) (by simp [h2'])
     have d1:=ZB6 (List.mem_of_getElem? e1)
     have g1:l.getD j (.int 0)=t1:=by rw [List.getD_eq_getElem?_getD,e1];rfl
     have g2:m.getD j (.int 0)=t2:=by rw [List.getD_eq_getElem?_getD,e2];rfl
     have:=ZEu n t1 t2 A.in1 its[j] its'[j] (by omega) k1 k2 (by show A.units+1+t1.depth<cLine;omega)
     show SeqAt.EqAt A.in1 s _ _ ((l.getD j (.int 0)).eqb (m.getD j (.int 0)))
     rw [g1,g2]
     simpa using this)
    have er:((List.range (min its.toArray.size its'.toArray.size)).all (fun j=>(l.getD j (.int 0)).eqb (m.getD j (.int 0)))&&its.toArray.size==its'.toArray.size)=(KT.tup l).eqb (.tup m):=by
     rw [List.size_toArray,List.size_toArray,<-lx,<-ly,KT.eqb]
     exact ZDx l m
    rw [er] at rc
    exact .of_refs hpq rc
def ZOx (A:Around) (s:Shared) (v u:Value) (b:Bool):Prop:=
 ∀ (prog:Program) (w:World) (E:Value->Shared->Prop) (Q:Value->Shared->Prop),Q (.bool b) s->wpAny (model prog w) A (richCompare .Lt v u) Q E s
section
open PySem.SeqAt
open PySem.AutoSeq1 (wpAny_loadPart')
open PySem.MeetsSeq PySem.MeetsSeq2 PySem.MeetsSeq3
theorem ZEM (l b:Addr) (items items2:Array Value) (n n2:Nat) (dd dd2:Option Addr) (sl sl2:Array (Option Value)) (ts us:List KT) :
  Meets (Builtin.«tuple.__lt__» ⟨[.ref l,.ref b],[]⟩)
   (fun A R s=>s.heap.get? l=some { cls:=.type "tuple",dict:=dd,data:=.seq items n,slots:=sl }∧s.heap.get? b=some { cls:=.type "tuple",dict:=dd2,data:=.seq items2 n2,slots:=sl2 } ∧
    KVals s.heap ts items.toList∧KVals s.heap us items2.toList∧cmpL ts us=true ∧
    (∀ x y v u,x∈ts->KVal s.heap x v->KVal s.heap y u->EqAt A.in1 s v u (x.eqb y))∧(∀ x y v u,x∈ts->KVal s.heap x v->KVal s.heap y u->x.cmp y=true->ZOx A.in1 s v u (x.plt y)) ∧
    R (.ok (.ret (.bool (pltL ts us)))) s):=
 .of_wp fun prog w A R s h=>by
  obtain ⟨hp,g,d,tk,os⟩:=s;obtain ⟨hl,hb,hi,hj,hc,hE,hL,h⟩:=h
  have f2:=AutoSeq1.sub_tuple_tuple
  have z1:items.size=ts.length:=by rw [hi.length];simp
  have z2:items2.size=us.length:=by rw [hj.length];simp
  wp_walk using wpAny_loadPart' hl,wpAny_loadPart' hb,wpAny_forIn_list _ (fun rest b s'=>b.1=none∧s'=⟨hp,g,d,tk,os⟩∧∃ (vs ws:List Value) (ts' us':List KT),rest=vs.zip ws ∧
   KVals hp ts' vs∧KVals hp us' ws∧(∀ x∈ts',x∈ts)∧cmpL ts' us'=true∧ts'.length+items2.size=us'.length+items.size∧R (.ok (.ret (.bool (pltL ts' us')))) ⟨hp,g,d,tk,os⟩) _
  case turn=>
   rintro ⟨y,x⟩ rest b s' ⟨hb',rfl,vs,ws,ts',us',hz,hvi,hwi,hin,hcm,hlen,hR⟩
   cases ts' with
   | nil=>rw [KVals] at hvi;subst hvi;rw [List.zip_nil_left] at hz;cases hz
   | cons a ts'=>
    cases us' with
    | nil=>rw [KVals] at hwi;subst hwi;rw [List.zip_nil_right] at hz;cases hz
    | cons c us'=>
     rw [KVals] at hvi hwi
     obtain ⟨v,vr,rfl,ka,hvi'⟩:=hvi
     obtain ⟨u,ur,rfl,kc,hwi'⟩:=hwi
     rw [List.zip_cons_cons] at hz
     injection hz with hyx hrest
     injection hyx with hy hx
     subst hy hx
     rw [pltL] at hR
     rw [cmpL] at hcm
     simp only [List.length_cons] at hlen
     have he:=hE a c y x (hin a List.mem_cons_self) ka kc
     refine wpAny_bind (he prog w _ _ ?_)
     cases hq:a.eqb c with
     | true=>
      rw [hq,if_pos rfl] at hR hcm
      wp_walk
      exact ⟨rfl,rfl,_,_,_,_,hrest,hvi',hwi',fun z hz=>hin z (List.mem_cons_of_mem _ hz),hcm,by omega,hR⟩
     | false=>
      rw [hq,if_neg Bool.false_ne_true] at hR hcm
      have hri:=hL a c y x (hin a List.mem_cons_self) ka kc hcm prog w
      wp_walk using hri
      exact ⟨_,rfl,by simpa using hR⟩
  case fin=>
   rintro ⟨b1,b2⟩ s' ⟨hb',rfl,vs,ws,ts',us',hz,hvi,hwi,hin,hcm,hlen,hR⟩
   simp only at hb'
   subst hb'
   have hv:pltL ts' us'=decide (items.size<items2.size):=by
    cases ts' with
    | nil=>
     cases us' with
     | nil=>
      simp only [List.length_nil] at hlen
      rw [pltL]
      exact (decide_eq_false (by omega)).symm
     | cons c us'=>
      simp only [List.length_nil,List.length_cons] at hlen
      rw [pltL]
      exact (decide_eq_true (by omega)).symm
    | cons a ts'=>
     cases us' with
     | nil=>
      simp only [List.length_nil,List.length_cons] at hlen
      rw [pltL]
      exact (decide_eq_false (by omega)).symm
     | cons c us'=>
      rw [KVals] at hvi hwi
      obtain ⟨v,vr,rfl,_,_⟩:=hvi
      obtain ⟨u,ur,rfl,_,_⟩:=hwi
      rw [List.zip_cons_cons] at hz
      cases hz
   rw [hv] at hR
   wp_walk
   exact ⟨_,rfl,by simpa [Builtin.Tuple.tupleCompareSizes] using hR⟩
  case h=>
   exact ⟨rfl,rfl,items.toList,items2.toList,ts,us,rfl,hi,hj,fun _ hx=>hx,hc,by omega,h⟩
end
theorem ZEs {s:Shared}:∀ (n:Nat) (a b:KT) (A:Around) (v u:Value),a.depth<=n->KVal s.heap a v->KVal s.heap b u->a.cmp b=true->A.units+a.depth<cLine->ZOx A s v u (a.plt b)
 | n,.int i,b,A,v,u,_,x,y,hc,hu=>by
  rw [KVal] at x
  obtain ⟨t,rfl⟩:=x
  cases b with
  | int j=>rw [KVal] at y;obtain ⟨t',rfl⟩:=y;rw [KT.plt];exact fun prog w E Q h=>HT.rcLt_int A s i t j t' prog w E Q h
  | str z=>simp [KT.cmp] at hc
  | tup m=>simp [KT.cmp] at hc
 | n,.str w,b,A,v,u,_,x,y,hc,hu=>by
  rw [KVal] at x
  obtain ⟨t,rfl⟩:=x
  cases b with
  | int j=>simp [KT.cmp] at hc
  | str z=>rw [KVal] at y;obtain ⟨t',rfl⟩:=y;rw [KT.plt];exact fun prog w' E Q h=>(lt_str h:wpAny (model prog w') A (compareOp .Lt (.str w t) (.str z t')) Q E s)
  | tup m=>simp [KT.cmp] at hc
 | 0,.tup l,b,A,v,u,hn,x,y,hc,hu=>by
  rw [KT.depth] at hn
  omega
 | n+1,.tup l,b,A,v,u,hn,x,y,hc,hu=>by
  rw [KVal] at x
  obtain ⟨p,its,rfl,px,kx⟩:=x
  rw [KT.depth] at hn hu
  have hu':A.units<cLine:=by omega
  cases b with
  | int j=>simp [KT.cmp] at hc
  | str z=>simp [KT.cmp] at hc
  | tup m=>
   rw [KVal] at y
   obtain ⟨q,its',rfl,py,ky⟩:=y
   rw [KT.cmp] at hc
   rw [KT.plt]
   intro prog w E Q h
   obtain ⟨⟨cls,dd,data,sl⟩,ho,hcl,nn1,hd⟩:=id px
   obtain ⟨⟨cls2,dd2,data2,sl2⟩,ho2,hcl2,nn2,hd2⟩:=id py
   simp only at hcl hd hcl2 hd2
   subst hcl hd hcl2 hd2
   refine richCompare_meets_room (op:=.Lt) ⟨_,ho,rfl⟩ ⟨_,ho2,rfl⟩ PySem.F.slot_tuple_lt PySem.F.entry_tuple_lt (PySem.F.args_tuple_lt_2 _ _) (ZEM p q its.toArray its'.toArray nn1 nn2 dd dd2 sl sl2 l m)
    ⟨ho,ho2,kx,ky,hc,fun x y v u hx k1 k2=>?_,fun x y v u hx k1 k2 k3=>?_,show Value.bool (pltL l m)≠Value.notImplemented∧Q (.bool (pltL l m)) s from ⟨(fun x=>nomatch x),h⟩⟩ hu'
   ·have d1:=ZB6 hx
    exact ZEu x.depth x y A.in1 v u (Nat.le_refl _) k1 k2 (by show A.units+1+x.depth<cLine;omega)
   ·have d1:=ZB6 hx
    exact ZEs n x y A.in1 v u (by omega) k1 k2 k3 (by show A.units+1+x.depth<cLine;omega)
section
variable {X:Cx}
theorem Room.key {k:Nat} {A:Around} (r:Room k A) {n:Nat} (h:n<=200):A.units+n<cLine:=by have:=r.un;omega
def ZPP:R2:=fun x y H Q=>∃ a b,KeyAt H a x∧KeyAt H b y∧a.cmp b=true∧a.depth<=200∧Q (.bl (a.plt b)) H
theorem ZK3 {k:Nat} (hr:Room k X.A):OpR X (compareOp .Lt) ZPP:=by
 intro pins s σ H x y v u Q I rx ry h
 obtain ⟨a,b,ha,hb,hc,hd,q⟩:=h
 exact ZEs a.depth a b X.A v u (Nat.le_refl _) (ZEK I a x v ha rx) (ZEK I b y u hb ry) hc (Room.key hr hd) X.prog X.w X.xe _ ⟨.bl _,H,I,rfl,q⟩
end
end Tw
namespace L2
open PySem PySem.Spec PyProof.Rows
section
variable {X:Cx}
theorem Inv.big {pins:List (Addr×Obj)} {σ:St} {H:Hp} {s:Shared} (I:Inv X pins σ H s):sysModules<s.heap.objs.size:=by
 have h:mainGlobals<s.heap.objs.size:=(I.mod.glob.keeps I.bk).lt
 exact Nat.lt_trans (by decide) h
theorem ZJ4 {P:Program} {w:World} {H:Hp} (h:Heap) (hb:sysModules<h.objs.size):ObjOk P w H (h.push { cls:=.type "dict",data:=.dict #[] }) h.objs.size (.dK []):=
 ⟨Nat.zero_le _,beq_eq_false_iff_ne.mpr (Ne.symm (Nat.ne_of_lt hb)),[],.nil,Heap.DictOf.new h⟩
def ZM1:TE:=fun _ H Q=>∀ p,H p=none->Q (.ref p) (upd H p (.dK []))
theorem ZEJ {pos:Pos}:PE X (.Dict [] [] pos) ZM1:=fun pins s σ H Q I h=>
 wpAny_Dict_empty ⟨.ref s.heap.objs.size,_,I.laid (a:=s.heap.objs.size) (o:=.dK []) (t':=s.toks) (fun _ _ q=>Heap.get?_push_of_some _ q) (Nat.le_refl _) (ZJ4 s.heap I.big),rfl,h _ (I.hok.fresh (Nat.le_refl _))⟩
def cV:V->Value
 | .ty n=>.type n
 | .ref a=>.ref a
 | _=>.none
def isC:V->Bool
 | .ty _=>true
 | .ref _=>true
 | _=>false
theorem ZM8 {c:V} {u:Value} (r:RelV c u) (h:isC c=true):u=cV c:=by
 cases c with
 | ty n=>exact r
 | ref a=>exact r
 | _=>cases h
theorem ZKw {K:PySem.W.Frag} {base:Heap} {mg:Str->Option Value} {x:Str} {C:Addr} {bmB:List Value} {newId:String} (kin:K.In base) (hb:mg x=some (.ref C)) (q:PySem.W.excIn K C bmB newId=true):OwnCls x C bmB newId mg base:=by
 refine ⟨hb,?_⟩
 unfold PySem.W.excIn at q
 split at q
 ·rename_i dd cd sl ho
  split at q
  ·rename_i C' bm k0 k1 k2 k3 n k5 hm hs
   rw [Bool.and_eq_true,Bool.and_eq_true,Bool.and_eq_true,Bool.and_eq_true,Bool.and_eq_true] at q
   obtain ⟨⟨⟨⟨⟨q1,q2⟩,q3⟩,q4⟩,q5⟩,q6⟩:=q
   cases eq_of_beq q1
   cases eq_of_beq q2
   have q3':cd.hasDel=false:=by simpa using q3
   have q6':=eq_of_beq q6
   obtain ⟨nm,bs,mro,ns,qn,hd,sn,sub,ab,col,del⟩:=cd
   dsimp only at hm q3' q5 q6'
   subst hm q3'
   have hsl:sl=#[k0,k1,k2,k3,some (.builtin newId),k5]:=by
    obtain ⟨l⟩:=sl
    simp only at hs
    rw [hs]
   subst hsl
   refine ⟨bm,ns,nm,qn,bs,hd,sn,sub,ab,col,dd,k0,k1,k2,k3,k5,base.nsMap ns,kin _ _ ho,?_⟩
   exact ⟨.of_isNs (PySem.W.isNs_of_in kin q5),PySem.W.nsMap_none_of_in kin q5 q6',PySem.W.tail_of_in kin q4⟩
  ·cases q
 ·cases q
end
end L2
namespace Tw
open PySem
theorem ZGh:∀ (l m:List Nat),l<m->¬ m<l
 | [],[],h,_=>absurd h (List.not_lt_nil _)
 | [],_ :: _,_,h=>absurd h (List.not_lt_nil _)
 | _ :: _,[],h,_=>absurd h (List.not_lt_nil _)
 | a :: l,b :: m,h,h'=>by
  rw [List.cons_lt_cons_iff] at h h'
  rcases h with h | ⟨rfl,h⟩
  ·rcases h' with h' | ⟨rfl,h'⟩
   ·omega
   ·omega
  ·rcases h' with h' | ⟨_,h'⟩
   ·omega
   ·exact ZGh l m h h'
theorem ZFQ:∀ (l m:List Nat),¬ l<m->¬ m<l->l=m
 | [],[],_,_=>rfl
 | [],_ :: _,h,_=>absurd (List.nil_lt_cons _ _) h
 | _ :: _,[],_,h=>absurd (List.nil_lt_cons _ _) h
 | a :: l,b :: m,h,h'=>by
  rw [List.cons_lt_cons_iff] at h h'
  have e:a=b:=by
   rcases Nat.lt_trichotomy a b with c | c | c
   ·exact absurd (.inl c) h
   ·exact c
   ·exact absurd (.inl c) h'
  subst e
  rw [ZFQ l m (fun z=>h (.inr ⟨rfl,z⟩)) fun z=>h' (.inr ⟨rfl,z⟩)]
theorem ZFA:∀ (l m k:List Nat),l<m->m<k->l<k
 | _,_,[],_,h=>absurd h (List.not_lt_nil _)
 | [],_,_ :: _,_,_=>List.nil_lt_cons _ _
 | _ :: _,[],_,h,_=>absurd h (List.not_lt_nil _)
 | a :: l,b :: m,c :: k,h,h'=>by
  rw [List.cons_lt_cons_iff] at h h' ⊢
  rcases h with h | ⟨rfl,h⟩
  ·rcases h' with h' | ⟨rfl,h'⟩
   ·exact .inl (Nat.lt_trans h h')
   ·exact .inl h
  ·rcases h' with h' | ⟨rfl,h'⟩
   ·exact .inl h'
   ·exact .inr ⟨rfl,ZFA l m k h h'⟩
theorem eqb_comm' (a b:KT):a.eqb b=b.eqb a:=by
 rw [Bool.eq_iff_iff,eqb_iff,eqb_iff]
 exact eq_comm
mutual
theorem ZDp:∀ (a b:KT),a.lt b=true->b.lt a=false
 | .int i,.int j,h=>by rw [KT.lt] at h ⊢;have:=of_decide_eq_true h;exact decide_eq_false (by omega)
 | .int _,.str _,_=>by rw [KT.lt]
 | .int _,.tup _,_=>by rw [KT.lt]
 | .str _,.int _,h=>by rw [KT.lt] at h;cases h
 | .str x,.str y,h=>by rw [KT.lt] at h ⊢;exact decide_eq_false (ZGh _ _ (of_decide_eq_true h))
 | .str _,.tup _,_=>by rw [KT.lt]
 | .tup _,.int _,h=>by rw [KT.lt] at h;cases h
 | .tup _,.str _,h=>by rw [KT.lt] at h;cases h
 | .tup l,.tup m,h=>by rw [KT.lt] at h ⊢;exact ltL_asym l m h
theorem ltL_asym:∀ (l m:List KT),ltL l m=true->ltL m l=false
 | [],[],h=>by rw [ltL] at h;cases h
 | [],_ :: _,_=>by rw [ltL]
 | _ :: _,[],h=>by rw [ltL] at h;cases h
 | a :: l,b :: m,h=>by
  rw [ltL] at h ⊢
  rw [eqb_comm' b a]
  cases e:a.eqb b with
  | true=>rw [e,if_pos rfl] at h;rw [if_pos rfl];exact ltL_asym l m h
  | false=>rw [e,if_neg Bool.false_ne_true] at h;rw [if_neg Bool.false_ne_true];exact ZDp a b h
end
mutual
theorem ZHD:∀ (a b:KT),a.lt b=false->b.lt a=false->a=b
 | .int i,.int j,h,h'=>by rw [KT.lt] at h h';have:=of_decide_eq_false h;have:=of_decide_eq_false h';rw [show i=j by omega]
 | .int _,.str _,h,_=>by rw [KT.lt] at h;cases h
 | .int _,.tup _,h,_=>by rw [KT.lt] at h;cases h
 | .str _,.int _,_,h=>by rw [KT.lt] at h;cases h
 | .str x,.str y,h,h'=>by
  rw [KT.lt] at h h'
  have e:=ZFQ _ _ (of_decide_eq_false h) (of_decide_eq_false h')
  obtain ⟨⟨x⟩⟩:=x
  obtain ⟨⟨y⟩⟩:=y
  dsimp only at e
  rw [e]
 | .str _,.tup _,h,_=>by rw [KT.lt] at h;cases h
 | .tup _,.int _,_,h=>by rw [KT.lt] at h;cases h
 | .tup _,.str _,_,h=>by rw [KT.lt] at h;cases h
 | .tup l,.tup m,h,h'=>by rw [KT.lt] at h h';rw [ltL_total l m h h']
theorem ltL_total:∀ (l m:List KT),ltL l m=false->ltL m l=false->l=m
 | [],[],_,_=>rfl
 | [],_ :: _,h,_=>by rw [ltL] at h;cases h
 | _ :: _,[],_,h=>by rw [ltL] at h;cases h
 | a :: l,b :: m,h,h'=>by
  rw [ltL] at h h'
  rw [eqb_comm' b a] at h'
  cases e:a.eqb b with
  | true=>rw [e,if_pos rfl] at h h';rw [eqb_iff.mp e,ltL_total l m h h']
  | false=>
   rw [e,if_neg Bool.false_ne_true] at h h'
   have:=ZHD a b h h'
   rw [this,ZCY] at e
   cases e
end
theorem ZF5 (a:KT):a.lt a=false:=by
 cases h:a.lt a with
 | false=>rfl
 | true=>have:=ZDp a a h;rw [h] at this;cases this
mutual
theorem lt_trans':∀ (a b c:KT),a.lt b=true->b.lt c=true->a.lt c=true
 | .int i,.int j,.int k,h,h'=>by rw [KT.lt] at h h' ⊢;have:=of_decide_eq_true h;have:=of_decide_eq_true h';exact decide_eq_true (by omega)
 | .int _,_,.str _,_,_=>by rw [KT.lt]
 | .int _,_,.tup _,_,_=>by rw [KT.lt]
 | .str _,_,.tup _,_,_=>by rw [KT.lt]
 | .int _,.str _,.int _,_,h=>by rw [KT.lt] at h;cases h
 | .int _,.tup _,.int _,_,h=>by rw [KT.lt] at h;cases h
 | .str _,.int _,_,h,_=>by rw [KT.lt] at h;cases h
 | .str x,.str y,.str z,h,h'=>by rw [KT.lt] at h h' ⊢;exact decide_eq_true (ZFA _ _ _ (of_decide_eq_true h) (of_decide_eq_true h'))
 | .str _,.str _,.int _,_,h=>by rw [KT.lt] at h;cases h
 | .str _,.tup _,.str _,_,h=>by rw [KT.lt] at h;cases h
 | .str _,.tup _,.int _,_,h=>by rw [KT.lt] at h;cases h
 | .tup _,.int _,_,h,_=>by rw [KT.lt] at h;cases h
 | .tup _,.str _,_,h,_=>by rw [KT.lt] at h;cases h
 | .tup l,.tup m,.tup k,h,h'=>by rw [KT.lt] at h h' ⊢;exact ltL_trans l m k h h'
 | .tup _,.tup _,.int _,_,h=>by rw [KT.lt] at h;cases h
 | .tup _,.tup _,.str _,_,h=>by rw [KT.lt] at h;cases h
theorem ltL_trans:∀ (l m k:List KT),ltL l m=true->ltL m k=true->ltL l k=true
 | _,[],[],_,h=>by rw [ltL] at h;cases h
 | _,_ :: _,[],_,h=>by rw [ltL] at h;cases h
 | [],_,_ :: _,_,_=>by rw [ltL]
 | _ :: _,[],_ :: _,h,_=>by rw [ltL] at h;cases h
 | a :: l,b :: m,c :: k,h,h'=>by
  rw [ltL] at h h' ⊢
  cases e:a.eqb b with
  | true=>
   rw [e,if_pos rfl] at h
   have ab:=eqb_iff.mp e
   subst ab
   cases e2:a.eqb c with
   | true=>rw [e2,if_pos rfl] at h';rw [if_pos rfl];exact ltL_trans l m k h h'
   | false=>rw [e2,if_neg Bool.false_ne_true] at h';rw [if_neg Bool.false_ne_true];exact h'
  | false=>
   rw [e,if_neg Bool.false_ne_true] at h
   cases e2:b.eqb c with
   | true=>
    have bc:=eqb_iff.mp e2
    subst bc
    rw [e,if_neg Bool.false_ne_true]
    exact h
   | false=>
    rw [e2,if_neg Bool.false_ne_true] at h'
    have ac:=lt_trans' a b c h h'
    cases e3:a.eqb c with
    | true=>
     have:=eqb_iff.mp e3
     subst this
     rw [ZF5] at ac
     cases ac
    | false=>rw [if_neg Bool.false_ne_true];exact ac
end
theorem le_trans' {a b c:KT} (h1:b.lt a=false) (h2:c.lt b=false):c.lt a=false:=by
 cases h:c.lt a with
 | false=>rfl
 | true=>
  cases h3:a.lt b with
  | true=>rw [lt_trans' c a b h h3] at h2;cases h2
  | false=>rw [ZHD a b h3 h1,h2] at h;cases h
end Tw
namespace L2
open PySem PySem.Spec PyProof.Rows
section
variable {P:Program} {w:World} {K:PySem.W.Frag} {mg:Str->Option Value} {base:Heap}
end
theorem ZJ9 {P:Program} {w:World} {K:PySem.W.Frag} {mg:Str->Option Value} {base:Heap} {CX:CXT} {N:List Str} {qual:Str} {scope:Scope} {f:Addr} {cdv:Value} {A:Around} {outer:List Env} {s:Shared} {H:Hp} {E:XK} :
  PassesOwn (model (ZFp CX P w K mg base N qual scope f cdv A outer s H E).prog (ZFp CX P w K mg base N qual scope f cdv A outer s H E).w) (ZFp CX P w K mg base N qual scope f cdv A outer s H E).A (ZFp CX P w K mg base N qual scope f cdv A outer s H E).env (ZFp CX P w K mg base N qual scope f cdv A outer s H E).xe:=by
 show PassesOwn (model P w) (A.deeper (envOfC qual scope s.heap.objs.size f cdv)) (envOfC qual scope s.heap.objs.size f cdv) _
 passes_own
def ZB2:Expr->Bool
 | .Starred _ _=>false
 | _=>true
theorem ZAa {e:Expr} {es:List Expr} {env:Env} (h:ZB2 e=true):starEach (e :: es) env=(false,eval e env) :: starEach es env:=by
 cases e <;> first | rfl | cases h
theorem ZAN {X:Cx} {e:Expr} {es:List Expr} {te:TE} {t:TA} (ha:PE X e te) (hr:PA X es t) (h:ZB2 e=true:=by rfl):PA X (e :: es) (ZBT te t):=ZAL ha hr (ZAa h)
theorem pa3 {X:Cx} {e0 e1 e2:Expr} {t0 t1 t2:TE} (g0:PE X e0 t0) (g1:PE X e1 t1) (g2:PE X e2 t2) (h:[e0,e1,e2].all ZB2=true:=by rfl):PA X [e0,e1,e2] (ZBT t0 (ZBT t1 (ZBT t2 ZHO))):=
 (ZAL g0 (ZAL g1 (ZAL g2 ZAC (ZAa (List.all_eq_true.mp h e2 (by simp)))) (ZAa (List.all_eq_true.mp h e1 (by simp)))) (ZAa (List.all_eq_true.mp h e0 (by simp))))
theorem pa4 {X:Cx} {e0 e1 e2 e3:Expr} {t0 t1 t2 t3:TE} (g0:PE X e0 t0) (g1:PE X e1 t1) (g2:PE X e2 t2) (g3:PE X e3 t3) (h:[e0,e1,e2,e3].all ZB2=true:=by rfl):PA X [e0,e1,e2,e3] (ZBT t0 (ZBT t1 (ZBT t2 (ZBT t3 ZHO)))):=
 (ZAL g0 (ZAL g1 (ZAL g2 (ZAL g3 ZAC (ZAa (List.all_eq_true.mp h e3 (by simp)))) (ZAa (List.all_eq_true.mp h e2 (by simp)))) (ZAa (List.all_eq_true.mp h e1 (by simp)))) (ZAa (List.all_eq_true.mp h e0 (by simp))))
theorem pa5 {X:Cx} {e0 e1 e2 e3 e4:Expr} {t0 t1 t2 t3 t4:TE} (g0:PE X e0 t0) (g1:PE X e1 t1) (g2:PE X e2 t2) (g3:PE X e3 t3) (g4:PE X e4 t4) (h:[e0,e1,e2,e3,e4].all ZB2=true:=by rfl):PA X [e0,e1,e2,e3,e4] (ZBT t0 (ZBT t1 (ZBT t2 (ZBT t3 (ZBT t4 ZHO))))):=
 (ZAL g0 (ZAL g1 (ZAL g2 (ZAL g3 (ZAL g4 ZAC (ZAa (List.all_eq_true.mp h e4 (by simp)))) (ZAa (List.all_eq_true.mp h e3 (by simp)))) (ZAa (List.all_eq_true.mp h e2 (by simp)))) (ZAa (List.all_eq_true.mp h e1 (by simp)))) (ZAa (List.all_eq_true.mp h e0 (by simp))))
theorem pa6 {X:Cx} {e0 e1 e2 e3 e4 e5:Expr} {t0 t1 t2 t3 t4 t5:TE} (g0:PE X e0 t0) (g1:PE X e1 t1) (g2:PE X e2 t2) (g3:PE X e3 t3) (g4:PE X e4 t4) (g5:PE X e5 t5) (h:[e0,e1,e2,e3,e4,e5].all ZB2=true:=by rfl):PA X [e0,e1,e2,e3,e4,e5] (ZBT t0 (ZBT t1 (ZBT t2 (ZBT t3 (ZBT t4 (ZBT t5 ZHO)))))):=
 (ZAL g0 (ZAL g1 (ZAL g2 (ZAL g3 (ZAL g4 (ZAL g5 ZAC (ZAa (List.all_eq_true.mp h e5 (by simp)))) (ZAa (List.all_eq_true.mp h e4 (by simp)))) (ZAa (List.all_eq_true.mp h e3 (by simp)))) (ZAa (List.all_eq_true.mp h e2 (by simp)))) (ZAa (List.all_eq_true.mp h e1 (by simp)))) (ZAa (List.all_eq_true.mp h e0 (by simp))))
end L2
namespace Tw
open PySem PySem.Spec L2
def ZOF (N:Addr->Prop) (H:Hp) (n:String) (v:V):Prop:=
 (n = "bool" ∧ ∃ b,v=.bl b)∨(n = "NoneType" ∧ v=.non)∨(n = "list" ∧ ∃ a xs,v=.ref a∧H a=some (.lst xs)∧¬ N a)∨(n = "dict" ∧ ∃ a kvs,v=.ref a∧H a=some (.dK kvs)∧¬ N a)
mutual
def ThAt (N:Addr->Prop) (H:Hp):TG->V->Prop
 | .int i,v=>v=.int i
 | .str x,v=>v=.str x
 | .tup l,v=>∃ a vs,v=.ref a∧H a=some (.tup vs)∧ThsAt N H l vs
 | .odd n,v=>ZOF N H n v
def ThsAt (N:Addr->Prop) (H:Hp):List TG->List V->Prop
 | [],vs=>vs=[]
 | t :: l,vs=>∃ v r,vs=v :: r∧ThAt N H t v∧ThsAt N H l r
end
structure Keeps (N:Addr->Prop) (H H':Hp):Prop where
 tup:ZBn H H'
 rest:∀ b o,H b=some o->¬ N b->H' b=some o
mutual
theorem ThAt.mono {N:Addr->Prop} {H H':Hp} (m:Keeps N H H'):∀ (t:TG) (v:V),ThAt N H t v->ThAt N H' t v
 | .int _,_,h=>by rw [ThAt] at h ⊢;exact h
 | .str _,_,h=>by rw [ThAt] at h ⊢;exact h
 | .tup l,_,h=>by
  rw [ThAt] at h ⊢
  obtain ⟨a,vs,e,h1,h2⟩:=h
  exact ⟨a,vs,e,m.tup a vs h1,ThsAt.mono m l vs h2⟩
 | .odd n,_,h=>by
  rw [ThAt] at h ⊢
  rcases h with h | h | ⟨e,a,xs,e1,e2,e3⟩ | ⟨e,a,xs,e1,e2,e3⟩
  ·exact .inl h
  ·exact .inr (.inl h)
  ·exact .inr (.inr (.inl ⟨e,a,xs,e1,m.rest _ _ e2 e3,e3⟩))
  ·exact .inr (.inr (.inr ⟨e,a,xs,e1,m.rest _ _ e2 e3,e3⟩))
theorem ThsAt.mono {N:Addr->Prop} {H H':Hp} (m:Keeps N H H'):∀ (l:List TG) (vs:List V),ThsAt N H l vs->ThsAt N H' l vs
 | [],_,h=>by rw [ThsAt] at h ⊢;exact h
 | t :: l,_,h=>by
  rw [ThsAt] at h ⊢
  obtain ⟨v,r,e,h1,h2⟩:=h
  exact ⟨v,r,e,ThAt.mono m t v h1,ThsAt.mono m l r h2⟩
end
mutual
theorem ThAt.less {N N':Addr->Prop} {H:Hp} (m:∀ b,N' b->N b):∀ (t:TG) (v:V),ThAt N H t v->ThAt N' H t v
 | .int _,_,h=>by rw [ThAt] at h ⊢;exact h
 | .str _,_,h=>by rw [ThAt] at h ⊢;exact h
 | .tup l,_,h=>by
  rw [ThAt] at h ⊢
  obtain ⟨a,vs,e,h1,h2⟩:=h
  exact ⟨a,vs,e,h1,ThsAt.less m l vs h2⟩
 | .odd n,_,h=>by
  rw [ThAt] at h ⊢
  rcases h with h | h | ⟨e,a,xs,e1,e2,e3⟩ | ⟨e,a,xs,e1,e2,e3⟩
  ·exact .inl h
  ·exact .inr (.inl h)
  ·exact .inr (.inr (.inl ⟨e,a,xs,e1,e2,fun z=>e3 (m a z)⟩))
  ·exact .inr (.inr (.inr ⟨e,a,xs,e1,e2,fun z=>e3 (m a z)⟩))
theorem ThsAt.less {N N':Addr->Prop} {H:Hp} (m:∀ b,N' b->N b):∀ (l:List TG) (vs:List V),ThsAt N H l vs->ThsAt N' H l vs
 | [],_,h=>by rw [ThsAt] at h ⊢;exact h
 | t :: l,_,h=>by
  rw [ThsAt] at h ⊢
  obtain ⟨v,r,e,h1,h2⟩:=h
  exact ⟨v,r,e,ThAt.less m t v h1,ThsAt.less m l r h2⟩
end
end Tw
namespace L2
open PySem PySem.Spec PyProof.Rows
abbrev ZB7 (a:Addr) (o:Obj):HO:=.ext fun h=>h.get? a=some o
theorem ZEz {P:Program} {w:World} {H:Hp} {h:Heap} {a:Addr} {o:Obj} (e:h.get? a=some o):ObjOk P w H h a (ZB7 a o):=⟨e,⟨o,e⟩,fun _ _ e1 k=>k o e1⟩
theorem HOk.obj {P:Program} {w:World} {H:Hp} {h:Heap} {a:Addr} {o:Obj} (x:HOk P w H h) (e:H a=some (ZB7 a o)):h.get? a=some o:=(x a _ e).1
def unT (cs:List Addr) (H:Hp):Hp:=fun b=>if b∈cs then none else H b
def reT (cs:List Addr) (H H2:Hp):Hp:=fun b=>if b∈cs then H b else H2 b
theorem ZBu {cs:List Addr} {H:Hp} {b:Addr} (h:b∈cs):unT cs H b=none:=if_pos h
theorem ZA7 {cs:List Addr} {H:Hp} {b:Addr} (h:b∉cs):unT cs H b=H b:=if_neg h
theorem ZE8 {cs:List Addr} {H H2:Hp} {b:Addr} (h:b∈cs):reT cs H H2 b=H b:=if_pos h
theorem ZA9 {cs:List Addr} {H H2:Hp} {b:Addr} (h:b∉cs):reT cs H H2 b=H2 b:=if_neg h
theorem ZC9 {cs:List Addr} {H:Hp} {b:Addr} {o:HO} (e:unT cs H b=some o):b∉cs∧H b=some o:=by
 by_cases h:b∈cs
 ·rw [ZBu h] at e;cases e
 ·rw [ZA7 h] at e;exact ⟨h,e⟩
theorem ZBq {cs:List Addr} {H:Hp} {b:Addr} (e:H b=none):unT cs H b=none:=by
 by_cases h:b∈cs
 ·exact ZBu h
 ·rw [ZA7 h];exact e
section
variable {P:Program} {w:World} {H H2:Hp} {h h':Heap} {cs fs ex:List Addr}
theorem HOk.unT (hok:HOk P w H h) (hc:∀ c∈cs,∃ o,H c=some (ZB7 c o)):HOk P w (L2.unT cs H) h:=fun a o e=>by
 obtain ⟨n,e⟩:=ZC9 e
 refine (hok a o e).stay (fun _ _ _ q=>q) (fun c q=>?_) fun c xs q=>?_
 ·rw [ZA7 fun z=>?_];exact q
  obtain ⟨o',e'⟩:=hc c z
  rw [q] at e';cases e'
 ·rw [ZA7 fun z=>?_];exact q
  obtain ⟨o',e'⟩:=hc c z
  rw [q] at e';cases e'
theorem HOk.reT (hok:HOk P w H2 h) (n2:∀ c∈cs,H2 c=none) (hc:∀ c∈cs,∃ o,H c=some (ZB7 c o)∧h.get? c=some o):HOk P w (L2.reT cs H H2) h:=fun a o e=>by
 by_cases ha:a∈cs
 ·rw [ZE8 ha] at e
  obtain ⟨o',e1,e2⟩:=hc a ha
  rw [e1] at e
  cases e
  exact ZEz e2
 ·rw [ZA9 ha] at e
  refine (hok a o e).stay (fun _ _ _ q=>q) (fun c q=>?_) fun c xs q=>?_
  ·rw [ZA9 fun z=>?_];exact q
   rw [n2 c z] at q;cases q
  ·rw [ZA9 fun z=>?_];exact q
   rw [n2 c z] at q;cases q
theorem ZLy {H':Hp} (u:Un fs ex H H' h h') (hok:HOk P w H h) (hok':HOk P w H' h') (hc:∀ c∈cs,∃ o,H c=some (ZB7 c o)∧H' c=some (ZB7 c o)):Un fs ex (unT cs H) (unT cs H') h h':=by
 have cell:∀ b∈cs,∀ o,h.get? b=some o->h'.get? b=some o:=fun b hb o q=>by
  obtain ⟨o',e1,e2⟩:=hc b hb
  have q1:=hok.obj e1
  rw [q] at q1;cases q1
  exact hok'.obj e2
 have out:∀ {b o},H b=some o->(∀ a ob,o≠ZB7 a ob)->b∉cs:=fun {b o} e n z=>by
  obtain ⟨o',e1,_⟩:=hc b z
  rw [e] at e1;cases e1
  exact n _ _ rfl
 refine ⟨fun b o q n hb hx=>?_,fun b o q n hb hx=>?_,fun b o q n hx=>?_,u.there,fun b xs q=>?_,fun b o v q=>?_,fun b ps q=>?_⟩
 ·by_cases z:b∈cs
  ·exact cell b z o q
  ·rw [ZA7 z] at n;exact u.keep b o q n hb hx
 ·by_cases z:b∈cs
  ·exact ⟨o.slots,cell b z o q⟩
  ·rw [ZA7 z] at n;exact u.slot b o q n hb hx
 ·by_cases z:b∈cs
  ·exact ZBu z
  ·rw [ZA7 z] at n ⊢;exact u.free b o q n hx
 ·obtain ⟨z,q⟩:=ZC9 q
  rw [ZA7 z];exact u.tups b xs q
 ·obtain ⟨z,q⟩:=ZC9 q
  rw [ZA7 z];exact u.frzs b o v q
 ·obtain ⟨z,q⟩:=ZC9 q
  rw [ZA7 z];exact u.tbls b ps q
theorem ZLI (u:Un fs ex (unT cs H) H2 h h') (hc:∀ c∈cs,∃ o,H c=some (ZB7 c o)):Un fs ex H (reT cs H H2) h h':=by
 have out:∀ {b},H b=none->b∉cs:=fun {b} n z=>by
  obtain ⟨o,e⟩:=hc b z
  rw [n] at e;cases e
 refine ⟨fun b o q n hb hx=>u.keep b o q (ZBq n) hb hx,fun b o q n hb hx=>u.slot b o q (ZBq n) hb hx,fun b o q n hx=>?_,u.there,fun b xs q=>?_,fun b o v q=>?_,fun b ps q=>?_⟩
 ·rw [ZA9 (out n)];exact u.free b o q (ZBq n) hx
 ·have z:b∉cs:=fun z=>by
   obtain ⟨o',e⟩:=hc b z
   rw [q] at e;cases e
  rw [ZA9 z];exact u.tups b xs (by rw [ZA7 z];exact q)
 ·have z:b∉cs:=fun z=>by
   obtain ⟨o',e⟩:=hc b z
   rw [q] at e;cases e
  rw [ZA9 z];exact u.frzs b o v (by rw [ZA7 z];exact q)
 ·have z:b∉cs:=fun z=>by
   obtain ⟨o',e⟩:=hc b z
   rw [q] at e;cases e
  rw [ZA9 z];exact u.tbls b ps (by rw [ZA7 z];exact q)
end
structure CellsAt (H:Hp) (cl:List (Str×Addr)) (N:List Str) (ws:List V):Prop where
 len:ws.length=N.length
 val:∀ (i:Nat) (x:Str) (v:V),N[i]? = some x->ws[i]? = some v->∃ c o u,cl.lookup x=some c∧c∈cl.map (·.2)∧H c=some (ZB7 c o)∧o.data=.cell (some u)∧RelV v u
 all:∀ c∈cl.map (·.2),∃ o v,H c=some (ZB7 c o)∧o.data=.cell v
def ZGx (o:Obj) (q:Str):Prop:=∃ vs t,o.data=.fields vs∧vs[1]? = some (.str q t)
section
variable {P:Program} {w:World} {K:PySem.W.Frag} {mg:Str->Option Value} {base:Heap}
end
def ZOJ (H:Hp) (q:Str) (ps:Array Value):Prop:=TriplesOk ps.toList∧∀ pos cv,PySem.codeAmong pos ps.toList=some cv->∃ c' co,cv=.ref c'∧H c'=some (ZB7 c' co)∧ZGx co q
def TabAt (H:Hp) (P:Addr) (q:Str):Prop:=∃ ps,H P=some (.tbl ps)∧ZOJ H q ps
theorem ZC0 {a b:Int} {t u:Tok} {c:Value}:∀ (l:List Value),TriplesOk l->TriplesOk (l++[.int a t,.int b u,c])
 | [],_=>trivial
 | .int _ _ :: .int _ _ :: _ :: r,h=>ZC0 r h
theorem ZDy {pos:Pos} {a b:Int} {t u:Tok} {c cv:Value}:∀ (l:List Value),TriplesOk l->PySem.codeAmong pos (l++[.int a t,.int b u,c])=some cv->PySem.codeAmong pos l=some cv∨cv=c
 | [],_,h=>by
  unfold PySem.codeAmong at h
  simp only [List.nil_append] at h
  split at h
  ·cases h;exact .inr rfl
  ·simp [PySem.codeAmong] at h
 | .int i _ :: .int j _ :: d :: r,hT,h=>by
  simp only [List.cons_append] at h
  unfold PySem.codeAmong at h ⊢
  split at h
  ·rename_i q
   rw [if_pos q];exact .inl h
  ·rename_i q
   rw [if_neg q];exact ZDy r hT h
def ZO6 (P:Addr) (params:Arguments) (body:Expr) (scope:Scope) (qual:Str) (cl:List (Str×Addr)):TE:=fun _ H Q=>
 TabAt H P qual∧∀ (H1:Hp) (f c':Addr) (co:Obj) (pm ctv:Value),ZGx co qual->H1 f=some (ZB7 f (PySem.W.kla_obj "<lambda>" qual params body scope cl pm c' ctv))->H1 c'=some (ZB7 c' co) ->
  (∀ b o,b≠P->H b=some o->H1 b=some o)->TabAt H1 P qual->(∀ b,b=f∨b=c'∨b=P∨H1 b=H b)->Q (.ref f) H1
theorem ZMw {X:Cx} {P c:Addr} {params:Arguments} {body:Expr} {scope:Scope} {cl:List (Str×Addr)} {pos:Pos} (hcode:X.env.code=.ref c) (C:PySem.W.CodeHd X.base c P) (hb:X.base.BuiltinsAt X.mg P)
  (hdef:defaultsOf params X.env=([],[])) (hcl:closureFor scope X.env=pure cl):PE X (.Lambda params body scope pos) (ZO6 P params body scope (X.env.qual ++ "<lambda>") cl):=by
 intro pins s σ H Q I h
 obtain ⟨⟨ps,hP,hT,hA⟩,h⟩:=h
 have gP:s.heap.get? P=some (PySem.W.tabObj ps):=I.hok P _ hP
 have nb:∀ {b o},X.base.get? b=some o->b≠P:=fun {b o} e z=>by
  have:=(I.bs b o e).2
  rw [z,hP] at this;cases this
 have hgP:mainGlobals≠P:=by
  obtain ⟨o,es,ep,e,_⟩:=I.mod.glob
  exact nb e
 have hg:s.heap.Ns mainGlobals X.mg:=I.mod.glob.keeps I.bk
 have hb':s.heap.BuiltinsAt X.mg P:=by
  obtain ⟨bm,o,b1,b2,b3,b4,b5,r⟩:=hb
  exact ⟨bm,o,b1,b2,b3,b4,I.bk _ _ b5,r⟩
 refine PySem.W.kla_eval hdef ?_
 cases hf:PySem.codeAmong pos ps.toList with
 | none=>
  refine PySem.W.kla_makeFunction hcl I.ok.glob hg hcode (C.keeps I.bk) gP hT hf hgP hb' fun c' ctv h' tk hx hge hlt hrec htb=>?_
  obtain ⟨c₂,co,vs,t,e2,hoc,hd,hv⟩:=hrec
  cases e2
  have kp:∀ b o,b≠P->s.heap.get? b=some o->(h'.push (PySem.W.kla_obj "<lambda>" (X.env.qual ++ "<lambda>") params body scope cl ((X.mg "__name__").getD .none) c' ctv)).get? b=some o:=fun b o n e=>Heap.get?_push_of_some _ (hx b o n e)
  have sz:s.heap.objs.size<=h'.objs.size:=Nat.le_of_lt (Nat.lt_of_le_of_lt hge hlt)
  have nc:H c'=none:=I.hok.fresh hge
  have nf:H h'.objs.size=none:=I.hok.fresh sz
  have cP:c'≠P:=fun z=>by rw [z,hP] at nc;cases nc
  have fP:h'.objs.size≠P:=fun z=>by rw [z,hP] at nf;cases nf
  have fc:h'.objs.size≠c':=Nat.ne_of_gt hlt
  let ps':Array Value:=ps++#[rawInt pos.line,rawInt pos.col,.ref c']
  let fo:Obj:=PySem.W.kla_obj "<lambda>" (X.env.qual ++ "<lambda>") params body scope cl ((X.mg "__name__").getD .none) c' ctv
  let H1:Hp:=upd (upd (upd H P (.tbl ps')) c' (ZB7 c' co)) h'.objs.size (ZB7 h'.objs.size fo)
  have e1:H1 h'.objs.size=some (ZB7 h'.objs.size fo):=ZAA
  have e2:H1 c'=some (ZB7 c' co):=by show upd _ _ _ _=_;rw [ZAG fc.symm];exact ZAA
  have e3:H1 P=some (.tbl ps'):=by show upd _ _ _ _=_;rw [ZAG fP.symm,ZAG cP.symm];exact ZAA
  have e4:∀ b,b≠P->b≠c'->b≠h'.objs.size->H1 b=H b:=fun b n1 n2 n3=>by show upd _ _ _ _=_;rw [ZAG n3,ZAG n2,ZAG n1]
  have e5:∀ b o,b≠P->H b=some o->H1 b=some o:=fun b o n e=>by
   rw [e4 b n (ZAB e nc) (ZAB e nf)];exact e
  have gc:(h'.push fo).get? c'=some co:=Heap.get?_push_of_some _ hoc
  have gf:(h'.push fo).get? h'.objs.size=some fo:=Heap.get?_push_size _ rfl
  have gP':(h'.push fo).get? P=some (PySem.W.tabObj ps'):=Heap.get?_push_of_some _ htb
  have hok:HOk X.prog X.w H1 (h'.push fo):=fun b u e=>by
   by_cases z1:b=h'.objs.size
   ·subst z1;rw [e1] at e;cases e;exact ZEz gf
   by_cases z2:b=c'
   ·subst z2;rw [e2] at e;cases e;exact ZEz gc
   by_cases z3:b=P
   ·subst z3;rw [e3] at e;cases e;exact gP'
   rw [e4 b z3 z2 z1] at e
   refine (I.hok b u e).stay (fun a ob ha q=>kp a ob ?_ q) (fun a q=>e5 a _ ?_ q) fun a xs q=>e5 a _ ?_ q
   ·rcases ha with rfl | ha
    ·exact z3
    ·intro z;rw [z,hP] at ha;cases ha
   ·intro z;rw [z,hP] at q;cases q
   ·intro z;rw [z,hP] at q;cases q
  have un:Un X.fs [] H H1 s.heap (h'.push fo):=by
   have neP:∀ b,H b=none->b≠P:=fun b n z=>by rw [z,hP] at n;cases n
   refine ⟨fun b o q n _ _=>kp b o (neP b n) q,fun b o q n _ _=>⟨o.slots,kp b o (neP b n) q⟩,fun b o q n _=>?_,fun b o q _=>?_,fun b xs q=>e5 b _ ?_ q,fun b o u q=>e5 b _ ?_ q,fun b qs q=>?_⟩
   ·rw [e4 b (neP b n) (Nat.ne_of_lt (Nat.lt_of_lt_of_le (Heap.lt_size q) hge)) (Nat.ne_of_lt (Nat.lt_of_lt_of_le (Heap.lt_size q) sz))];exact n
   ·by_cases z:b=P
    ·exact ⟨_,by rw [z];exact gP'⟩
    ·exact ⟨o,kp b o z q⟩
   ·intro z;rw [z,hP] at q;cases q
   ·intro z;rw [z,hP] at q;cases q
   ·by_cases z:b=P
    ·subst z
     rw [hP] at q;cases q
     exact ⟨_,e3⟩
    ·exact ⟨#[],by rw [e5 b _ z q];simp⟩
  refine ⟨.ref h'.objs.size,H1,I.un (t':=tk) un hok,rfl,h H1 h'.objs.size c' co _ ctv ⟨vs,t,hd,hv⟩ e1 e2 e5 ⟨ps',e3,?_,fun pos2 cv ha=>?_⟩ fun b=>?_⟩
  ·show TriplesOk (ps++#[rawInt pos.line,rawInt pos.col,.ref c']).toList
   rw [Array.toList_append]
   exact ZC0 _ hT
  ·have ha':PySem.codeAmong pos2 (ps.toList++[rawInt pos.line,rawInt pos.col,.ref c'])=some cv:=by
    have:ps'.toList=ps.toList++[rawInt pos.line,rawInt pos.col,.ref c']:=by show (ps++#[rawInt pos.line,rawInt pos.col,.ref c']).toList=_;rw [Array.toList_append]
    rw [<-this];exact ha
   rcases ZDy _ hT ha' with z | z
   ·obtain ⟨d,do',y1,y2,y3⟩:=hA pos2 cv z
    exact ⟨d,do',y1,e5 _ _ (fun z=>by rw [z,hP] at y2;cases y2) y2,y3⟩
   ·exact ⟨c',co,z,e2,vs,t,hd,hv⟩
  ·by_cases z1:b=h'.objs.size
   ·exact .inl z1
   by_cases z2:b=c'
   ·exact .inr (.inl z2)
   by_cases z3:b=P
   ·exact .inr (.inr (.inl z3))
   exact .inr (.inr (.inr (e4 b z3 z2 z1)))
 | some cv=>
  obtain ⟨c',co,rfl,hc',hco⟩:=hA pos cv hf
  refine PySem.W.kla_makeFunctionHit hcl I.ok.glob hg hcode (C.keeps I.bk) gP hT hf hb' fun ctv h' tk hk hsz=>?_
  have nf:H h'.objs.size=none:=I.hok.fresh hsz
  have e5:∀ b o,H b=some o->upd H h'.objs.size (ZB7 h'.objs.size (PySem.W.kla_obj "<lambda>" (X.env.qual ++ "<lambda>") params body scope cl ((X.mg "__name__").getD .none) c' ctv)) b=some o:=fun b o e=>by rw [ZAG (ZAB e nf)];exact e
  refine ⟨.ref h'.objs.size,_,I.laid (t':=tk) (a:=h'.objs.size) (o:=ZB7 h'.objs.size (PySem.W.kla_obj "<lambda>" (X.env.qual ++ "<lambda>") params body scope cl ((X.mg "__name__").getD .none) c' ctv)) (fun b o e=>Heap.get?_push_of_some _ (hk b o e)) hsz (ZEz (Heap.get?_push_size _ rfl)),rfl,
   h _ h'.objs.size c' co _ ctv hco ZAA (e5 _ _ hc') (fun b o _ e=>e5 b o e) ⟨ps,e5 _ _ hP,hT,fun pos2 cv ha=>?_⟩ fun b=>?_⟩
  ·obtain ⟨d,do',y1,y2,y3⟩:=hA pos2 cv ha
   exact ⟨d,do',y1,e5 _ _ y2,y3⟩
  ·by_cases z:b=h'.objs.size
   ·exact .inl z
   ·exact .inr (.inr (.inr (ZAG z)))
def ZKu (sp:Sp) (cl:List (Str×Addr)) (N:List Str) (NX:List Str) (t:TA):TE:=fun σ H Q=>t σ H fun vs H1=>∃ ws:List V,ws.length=N.length ∧
 (∀ (i:Nat) (x:Str) (v:V),N[i]? = some x->ws[i]? = some v->∃ j:Nat,NX[j]? = some x∧σ[j]? = some (some v)) ∧
 ∀ Hc:Hp,unT (cl.map (·.2)) Hc=H1->(∀ b,b∉cl.map (·.2)->Hc b=H1 b)->(∀ b o,H1 b=some o->Hc b=some o)->CellsAt Hc cl N ws->sp vs Hc (fun v H2=>(∀ c∈cl.map (·.2),H2 c=Hc c)∧Q v (unT (cl.map (·.2)) H2)) E0
theorem ZJp {X:Cx} {k:Nat} {f:Addr} {fd:FuncData} {ps:List Str} {sp:Sp} {x:Str} {p pos:Pos} {e:Expr} {es:List Expr} {t:TA} {cl:List (Str×Addr)} {N:List Str}
  (F:FnOk X.prog X.w X.K X.mg X.base CX0 k f fd ps sp) (hr:Room k X.A) (hg:Gl X x) (hm:X.mg x=some (.ref f)) (hk:PySem.W.keepIn X.K (.ref f)=true) (hb:Binds X.K fd ps [])
  (ha:PA X (e :: es) t) (hcl:∀ y c,cl.lookup y=some c->X.env.cells.lookup y=some c) (hmem:∀ c∈cl.map (·.2),∃ y,cl.lookup y=some c) (hN:∀ y∈N,X.env.scope.names.lookup y=some .cell∧∃ c,cl.lookup y=some c) (hfn:∀ y,X.fn y=true)
  (hdb:(x==("__debug__" : Str))=false:=by decide) (he:starEach (e :: es) X.env=(false,eval e X.env) :: starEach es X.env:=by rfl) (hpl:(backTo pos (starEach es X.env)).any (·.1)=false:=by rfl) :
  PE X (.Call (.Name x p) (e :: es) [] pos) (ZKu sp cl N X.N t):=by
 intro pins s σ H Q I h
 refine wpAny_Call_Name_kw (ZBs I hg hm ?_ hdb)
 refine PySem.W.callWith_K (h₀:=X.base) I.ok.mod.kin hk (thn (ha pos pins s σ H _ I h) fun us s1 ⟨vs,H1,I1,r,q⟩=>⟨I1.kIn,?_⟩) he hpl
 obtain ⟨ws,hl,hw,q⟩:=q
 let cs := cl.map (·.2)
 let Hv:Hp:=fun b=>(s1.heap.get? b).map (ZB7 b)
 have cell:∀ c∈cs,∃ y o v,cl.lookup y=some c∧X.env.cells.lookup y=some c∧s1.heap.get? c=some o∧o.data=.cell v∧Hv c=some (ZB7 c o)∧H1 c=none:=fun c hc=>by
  obtain ⟨y,e⟩:=hmem c hc
  have e':=hcl y c e
  obtain ⟨v,o,g,d⟩:=I1.cell y c e'
  exact ⟨y,o,v,e,e',g,d,by show Option.map _ _=_;rw [g];rfl,I1.freeC y c e'⟩
 have hok:HOk X.prog X.w (reT cs Hv H1) s1.heap:=I1.hok.reT (fun c hc=>by
  obtain ⟨y,o,v,_,_,g,d,a,n⟩:=cell c hc
  exact n) fun c hc=>by
  obtain ⟨y,o,v,_,_,g,d,a,n⟩:=cell c hc
  exact ⟨o,a,g⟩
 have hi:∀ c∈cs,X.s₀.heap.objs.size<=c:=fun c hc=>by
  obtain ⟨y,o,v,_,e',_⟩:=cell c hc
  exact I1.ok.cab y c (hfn y) e'
 have e0:Env0 X.prog X.w X.K X.mg X.base X.A X.stack s1 (reT cs Hv H1):=by
  have z:=I1.env0
  refine ⟨z.frames,z.mod,fun b o e=>⟨(z.bs b o e).1,?_⟩,z.bsz,z.funs,fun b hb=>?_,hok,z.bare⟩
  ·rw [ZA9 fun w=>?_];exact (z.bs b o e).2
   exact absurd (Heap.lt_size e) (Nat.not_lt.mpr (Nat.le_trans I1.ok.bsz (hi b w)))
  ·rw [ZA9 fun w=>?_];exact z.frf b hb
   rcases List.mem_cons.mp (I1.stkSub b hb) with y | y
   ·obtain ⟨y',o,v,_,e',_⟩:=cell b w
    exact I1.cne y' b e' y
   ·obtain ⟨_,o',g,_⟩:=I1.ok.funs.mem y
    exact absurd (Heap.lt_size g) (Nat.not_lt.mpr (hi b w))
 have eU:unT cs (reT cs Hv H1)=H1:=by
  funext b
  by_cases hb:b∈cs
  ·rw [ZBu hb]
   obtain ⟨y,o,v,_,_,g,d,a,n⟩:=cell b hb
   exact n.symm
  ·rw [ZA7 hb,ZA9 hb]
 have CA:CellsAt (reT cs Hv H1) cl N ws:=⟨hl,fun i y v h1 h2=>by
  obtain ⟨j,hj,hσ⟩:=hw i y v h1 h2
  obtain ⟨kc,c,ec⟩:=hN y (List.mem_of_getElem? h1)
  obtain ⟨m,_,hlk⟩:=I1.loc
  obtain ⟨u,ru,lk⟩:=hlk j y v hj hσ (.inr (.inl kc))
  have ec':=hcl y c ec
  have hcm:c∈cs:=by
   obtain ⟨p,hp,e⟩:∃ p∈cl,p.2=c:=⟨(y,c),PySem.mem_of_lookup ec,rfl⟩
   exact List.mem_map.mpr ⟨p,hp,e⟩
  rcases lk with ⟨kl,_⟩ | ⟨_,c2,e2,o,g,d⟩
  ·have:X.env.scope.names.lookup y=some .local:=kl
   rw [kc] at this;cases this
  ·rw [ec'] at e2;cases e2
   exact ⟨c,o,u,ec,hcm,by rw [ZE8 hcm];show Option.map _ _=_;rw [g];rfl,d,ru⟩,fun c hc=>by
  obtain ⟨y,o,v,_,_,g,d,a,n⟩:=cell c hc
  exact ⟨o,v,by rw [ZE8 hc];exact a,d⟩⟩
 have q2:=q (reT cs Hv H1) eU (fun b hb=>ZA9 hb) (fun b o e=>by
  rw [ZA9 fun w=>?_];exact e
  obtain ⟨y,o',v,_,_,g,d,a,n⟩:=cell b w
  rw [n] at e;cases e) CA
 have r2:Vals (vs++[]) (us++[]):=r.append .nil
 have hl2:(us++[]).length=ps.length:=by rw [<-r2.length,List.append_nil];exact F.len _ _ _ _ q2
 refine wpAny_call (codeAny_mono (F.run X.A X.stack s1 (reT cs Hv H1) ⟨us,[]⟩ (us++[]) vs _ E0 hr e0 (hb s1 us I1.kIn hl2) (by rw [List.append_nil];exact r) q2) fun rr s' hq=>?_)
 cases rr with
 | error ev=>exact hq.elim
 | ok fl=>
  cases fl with
  | ret u=>
   obtain ⟨v,H2,os,bare,un,hok2,rv,same,q3⟩:=hq
   have hcs:∀ c∈cs,∃ o,reT cs Hv H1 c=some (ZB7 c o)∧H2 c=some (ZB7 c o):=fun c hc=>by
    obtain ⟨y,o,v,_,_,g,d,a,n⟩:=cell c hc
    have z:reT cs Hv H1 c=some (ZB7 c o):=by rw [ZE8 hc];exact a
    exact ⟨o,z,by rw [same c hc];exact z⟩
   have un2:=ZLy un hok hok2 hcs
   rw [eU] at un2
   exact I1.after ⟨v,unT cs H2,os,bare,un2,hok2.unT (fun c hc=>by
    obtain ⟨o,_,z⟩:=hcs c hc
    exact ⟨o,z⟩),rv,q3⟩
  | next=>exact False.elim hq
  | brk=>exact False.elim hq
  | cont=>exact False.elim hq
section
variable {κ:Type} [DecidableEq κ]
def ZBj (kvs:List (κ×V)) (k:κ):Option V:=(kvs.find? fun kv=>decide (kv.1=k)).map (·.2)
def ZBS (kvs:List (κ×V)) (k:κ) (v:V):List (κ×V):=
 if (kvs.any fun kv=>decide (kv.1=k))=true then kvs.map (fun kv=>if kv.1=k then (kv.1,v) else kv) else kvs++[(k,v)]
theorem ZBH {p:κ×V} {r:List (κ×V)} {k:κ} (e:p.1=k):ZBj (p :: r) k=some p.2:=by simp [ZBj,List.find?_cons,e]
theorem ZBL {p:κ×V} {r:List (κ×V)} {k:κ} (e:¬ p.1=k):ZBj (p :: r) k=ZBj r k:=by simp [ZBj,List.find?_cons,e]
theorem ZB5 (k:κ):∀ kvs:List (κ×V),(kvs.any fun kv=>decide (kv.1=k))=(ZBj kvs k).isSome
 | []=>rfl
 | p :: r=>by
  rw [List.any_cons]
  by_cases e:p.1=k
  ·simp only [ZBH e,decide_eq_true e,Bool.true_or,Option.isSome_some]
  ·rw [ZBL e,decide_eq_false e,Bool.false_or];exact ZB5 k r
theorem ZGr (k j:κ) (y:V):∀ kvs:List (κ×V),ZBj (kvs.map fun kv=>if kv.1=k then (kv.1,y) else kv) j=(ZBj kvs j).map fun x=>if j=k then y else x
 | []=>rfl
 | p :: r=>by
  have ih:=ZGr k j y r
  rw [List.map_cons]
  by_cases h:p.1=k
  ·rw [if_pos h]
   by_cases e:p.1=j
   ·rw [ZBH (p:=(p.1,y)) e,ZBH e,Option.map_some,if_pos (e.symm.trans h)]
   ·rw [ZBL (p:=(p.1,y)) e,ZBL e,ih]
  ·rw [if_neg h]
   by_cases e:p.1=j
   ·rw [ZBH (p:=p) e,ZBH e,Option.map_some,if_neg (fun z=>h (e.trans z))]
   ·rw [ZBL (p:=p) e,ZBL e,ih]
theorem ZFj (k j:κ) (y:V):∀ kvs:List (κ×V),ZBj kvs k=none->ZBj (kvs++[(k,y)]) j=if j=k then some y else ZBj kvs j
 | [],_=>by
  by_cases e:k=j
  ·rw [if_pos e.symm];exact ZBH (p:=(k,y)) e
  ·rw [if_neg (fun z=>e z.symm)];exact ZBL (p:=(k,y)) e
 | p :: r,hn=>by
  rw [List.cons_append]
  have hk:¬ p.1=k:=fun z=>by rw [ZBH z] at hn;cases hn
  rw [ZBL hk] at hn
  have ih:=ZFj k j y r hn
  by_cases e:p.1=j
  ·rw [ZBH e,ZBH e,if_neg (fun z=>hk (e.trans z))]
  ·rw [ZBL e,ZBL e,ih]
theorem ZCQ (kvs:List (κ×V)) (k j:κ) (y:V):ZBj (ZBS kvs k y) j=if j=k then some y else ZBj kvs j:=by
 unfold ZBS
 by_cases a:(kvs.any fun kv=>decide (kv.1=k))=true
 ·rw [if_pos a,ZGr]
  rw [ZB5] at a
  by_cases e:j=k
  ·obtain ⟨x,hx⟩:=Option.isSome_iff_exists.mp a
   rw [if_pos e,e,hx,Option.map_some,if_pos rfl]
  ·rw [if_neg e]
   cases ZBj kvs j with
   | none=>rfl
   | some x=>rw [Option.map_some,if_neg e]
 ·rw [if_neg a]
  refine ZFj k j y kvs ?_
  rw [ZB5] at a
  cases q:ZBj kvs k with
  | none=>rfl
  | some x=>rw [q] at a;exact (a rfl).elim
theorem ZDD (kvs:List (κ×V)) (k:κ) (v:V):(ZBS kvs k v).length<=kvs.length+1:=by
 unfold ZBS
 split
 ·rw [List.length_map];omega
 ·rw [List.length_append,List.length_cons,List.length_nil];omega
theorem ZGb {kvs:List (κ×V)} {k:κ} (v:V) (h:ZBj kvs k=none):ZBS kvs k v=kvs++[(k,v)]:=by
 unfold ZBS
 rw [ZB5,h]
 exact if_neg (by decide)
theorem RelO.isSome_eq {o:Option V} {u:Option Value} (r:RelO o u):o.isSome=u.isSome:=by
 cases o with
 | none=>cases u with
  | none=>rfl
  | some _=>exact (show False from r).elim
 | some _=>cases u with
  | none=>exact (show False from r).elim
  | some _=>rfl
theorem KV.val {kvs:List (κ×V)} {vs:List (κ×Value)} (r:KV kvs vs) (k:κ):RelO (ZBj kvs k) (valueAt vs k):=by
 unfold KV at r
 induction r with
 | nil=>exact True.intro
 | @cons p q ps qs h t ih=>
  obtain ⟨h1,h2⟩:=h
  by_cases e:p.1=k
  ·have e':q.1=k:=h1.symm.trans e
   have b:valueAt (q :: qs) k=some q.2:=by simp [valueAt,List.find?_cons,e']
   rw [ZBH e,b];exact h2
  ·have e':¬ q.1=k:=fun z=>e (h1.trans z)
   have b:valueAt (q :: qs) k=valueAt qs k:=by simp [valueAt,List.find?_cons,e']
   rw [ZBL e,b];exact ih
theorem KV.any {kvs:List (κ×V)} {vs:List (κ×Value)} (r:KV kvs vs) (k:κ):(kvs.any fun kv=>decide (kv.1=k))=vs.any fun kv=>decide (kv.1=k):=by
 unfold KV at r
 induction r with
 | nil=>rfl
 | cons h t ih=>rw [List.any_cons,List.any_cons,ih,h.1]
theorem KV.repl {kvs:List (κ×V)} {vs:List (κ×Value)} (r:KV kvs vs) (k:κ) {y:V} {u:Value} (ry:RelV y u) :
  KV (kvs.map fun kv=>if kv.1=k then (kv.1,y) else kv) (vs.map fun kv=>if kv.1=k then (kv.1,u) else kv):=by
 unfold KV at r ⊢
 induction r with
 | nil=>exact .nil
 | @cons p q ps qs h t ih=>
  rw [List.map_cons,List.map_cons]
  refine .cons ?_ ih
  obtain ⟨h1,h2⟩:=h
  by_cases e:p.1=k
  ·rw [if_pos e,if_pos (h1.symm.trans e)];exact ⟨h1,ry⟩
  ·rw [if_neg e,if_neg (fun z=>e (h1.trans z))];exact ⟨h1,h2⟩
theorem KV.put {kvs:List (κ×V)} {vs:List (κ×Value)} (r:KV kvs vs) (k:κ) {y:V} {u:Value} (ry:RelV y u):KV (ZBS kvs k y) (stored vs k u):=by
 unfold ZBS stored
 rw [r.any k]
 by_cases e:(vs.any fun kv=>decide (kv.1=k))=true
 ·rw [if_pos e,if_pos e];exact r.repl k ry
 ·rw [if_neg e,if_neg e];exact Paired.snoc r ⟨rfl,ry⟩
theorem KV.keys {kvs:List (κ×V)} {vs:List (κ×Value)} (r:KV kvs vs):kvs.map (·.1)=vs.map (·.1):=by
 unfold KV at r
 induction r with
 | nil=>rfl
 | cons h t ih=>rw [List.map_cons,List.map_cons,ih,h.1]
theorem KV.length {kvs:List (κ×V)} {vs:List (κ×Value)} (r:KV kvs vs):kvs.length=vs.length:=Paired.length r
end
theorem ZJk {P:Program} {w:World} {k:Key} {u:Value} (r:RelV (kV k) u):(ZBF P w).is k u=true:=by
 cases k with
 | inl i=>obtain ⟨t,e⟩:=(show ∃ t,u=Value.int i t from r);subst e;exact ZGH P w i t
 | inr x=>obtain ⟨t,e⟩:=(show ∃ t,u=Value.str x t from r);subst e;exact ZGC P w x t
theorem ZE9 {P:Program} {w:World}:∀ {ks:List Key} {us:List Value},Vals (ks.map kV) us->ItemsAre (ZBF P w) ks us
 | [],_,r=>by rw [List.map_nil] at r;cases r;exact .nil
 | k :: ks,_,r=>by
  rw [List.map_cons] at r
  cases r with
  | cons h t=>exact .cons (ZJk h) (ZE9 t)
abbrev KT (H:Hp):List (List Key×V)->List (List Key×Addr×Value)->Prop:=Paired fun p q=>p.1=q.1∧H q.2.1=some (.tup (p.1.map kV))∧RelV p.2 q.2.2
theorem KT.val {H:Hp} {kvs:List (List Key×V)} {xs:List (List Key×Addr×Value)} (r:KT H kvs xs) (k:List Key):RelO (ZBj kvs k) ((atKey xs k).map (·.2)):=by
 induction r with
 | nil=>exact True.intro
 | @cons p q ps qs h t ih=>
  obtain ⟨h1,_,h2⟩:=h
  by_cases e:p.1=k
  ·have e':q.1=k:=h1.symm.trans e
   have b:atKey (q :: qs) k=some q.2:=by simp [atKey,List.find?_cons,e']
   rw [ZBH e,b];exact h2
  ·have e':¬ q.1=k:=fun z=>e (h1.trans z)
   have b:atKey (q :: qs) k=atKey qs k:=by simp [atKey,List.find?_cons,e']
   rw [ZBL e,b];exact ih
theorem KT.repl {H:Hp} {kvs:List (List Key×V)} {xs:List (List Key×Addr×Value)} (r:KT H kvs xs) (k:List Key) {y:V} {u:Value} (ry:RelV y u) :
  KT H (kvs.map fun kv=>if kv.1=k then (kv.1,y) else kv) (xs.map (putAt k u)):=by
 induction r with
 | nil=>exact .nil
 | @cons p q ps qs h t ih=>
  rw [List.map_cons,List.map_cons]
  refine .cons ?_ ih
  obtain ⟨h1,h2,h3⟩:=h
  unfold putAt
  by_cases e:p.1=k
  ·rw [if_pos e,if_pos (h1.symm.trans e)];exact ⟨h1,h2,ry⟩
  ·rw [if_neg e,if_neg (fun z=>e (h1.trans z))];exact ⟨h1,h2,h3⟩
theorem KT.put {H:Hp} {kvs:List (List Key×V)} {xs:List (List Key×Addr×Value)} (r:KT H kvs xs) (k:List Key) {b:Addr} {y:V} {u:Value} (hb:H b=some (.tup (k.map kV))) (ry:RelV y u) :
  KT H (ZBS kvs k y) (storedH xs k b u):=by
 have e:(kvs.any fun kv=>decide (kv.1=k))=(atKey xs k).isSome:=by
  rw [ZB5,(r.val k).isSome_eq,Option.isSome_map]
 unfold ZBS storedH
 rw [e]
 by_cases q:(atKey xs k).isSome=true
 ·rw [if_pos q,if_pos q];exact r.repl k ry
 ·rw [if_neg q,if_neg q];exact Paired.snoc r ⟨rfl,hb,ry⟩
theorem KT.keeps {H H':Hp} {kvs:List (List Key×V)} {xs:List (List Key×Addr×Value)} (r:KT H kvs xs) (ht:∀ b ys,H b=some (.tup ys)->H' b=some (.tup ys)):KT H' kvs xs:=
 Paired.mapP r fun _ _ z=>⟨z.1,ht _ _ z.2.1,z.2.2⟩
section
variable {P:Program} {w:World} {H:Hp} {h:Heap} {a:Addr}
theorem ZNP {u:HO} (ok:HOk P w H h) (e:Rd H a u):ObjOk P w H h a u:=e.ok ok
theorem ZJW {kvs:List (Key×V)} (ok:HOk P w H h) (e:Rd H a (.dK kvs)):kvs.length<=sizeLine∧(a==sysModules)=false∧∃ vs,KV kvs vs∧h.DictOf (ZBF P w) a vs:=
 show ObjOk P w H h a (.dK kvs) from ZNP ok e
theorem ZMx {kvs:List (Key×V)} (ok:HOk P w H h) (e:H a=some (.dK kvs)):kvs.length<=sizeLine∧(a==sysModules)=false∧∃ vs,KV kvs vs∧h.DictOf (ZBF P w) a vs:=ZJW ok (.inl e)
theorem ZG7 {ks:List Key} (ok:HOk P w H h) (e:H a=some (.tup (ks.map kV))):(tupleKind (ZBF P w)).is h ks a:=by
 obtain ⟨_,its,r,o,h1,h2,n,h3⟩:=(show ObjOk P w H h a (.tup (ks.map kV)) from ok a _ e)
 exact ⟨o,its.toArray,n,h1,h2,h3,by simpa using ZE9 r⟩
theorem ZKV {kvs:List (List Key×V)} (ok:HOk P w H h) (e:Rd H a (.dT kvs)):kvs.length<=sizeLine∧(a==sysModules)=false ∧
  ∃ xs,KT H kvs xs∧h.DictOfH (tupleKind (ZBF P w)) a xs:=by
 obtain ⟨z,y,xs,r,o,es,ep,h1,h2,h3,h4,h5⟩:=(show ObjOk P w H h a (.dT kvs) from ZNP ok e)
 refine ⟨z,y,xs,r,o,es,ep,h1,h2,h3,h4,fun x hx=>?_,h5⟩
 have all:∀ {l:List (List Key×V)} {m:List (List Key×Addr×Value)},KT H l m->∀ x∈m,(tupleKind (ZBF P w)).is h x.1 x.2.1:=by
  intro l m q
  induction q with
  | nil=>intro x hx;exact nomatch hx
  | @cons p q ps qs hq t ih=>
   intro x hx
   rcases List.mem_cons.mp hx with e | hx
   ·subst e
    exact ZG7 ok (by rw [<-hq.1];exact hq.2.1)
   ·exact ih x hx
 exact all r x hx
theorem ZOK {kvs:List (List Key×V)} (ok:HOk P w H h) (e:H a=some (.dT kvs)):kvs.length<=sizeLine∧(a==sysModules)=false ∧
  ∃ xs,KT H kvs xs∧h.DictOfH (tupleKind (ZBF P w)) a xs:=ZKV ok (.inl e)
end
def DGet (H:Hp) (a:Addr) (y:V) (r:Option V):Prop:=
 (∃ kvs k,Rd H a (.dK kvs)∧y=kV k∧r=ZBj kvs k)∨∃ kvs k b,Rd H a (.dT kvs)∧y=.ref b∧H b=some (.tup (k.map kV))∧r=ZBj kvs k
def DPut (H:Hp) (a:Addr) (y v:V) (H':Hp):Prop:=
 (∃ kvs k,H a=some (.dK kvs)∧y=kV k∧kvs.length<sizeLine∧H'=upd H a (.dK (ZBS kvs k v))) ∨
 ∃ kvs k b,H a=some (.dT kvs)∧y=.ref b∧H b=some (.tup (k.map kV))∧kvs.length<sizeLine∧H'=upd H a (.dT (ZBS kvs k v))
theorem DGet.k {H:Hp} {a:Addr} {kvs:List (Key×V)} {k:Key} (e:H a=some (.dK kvs)):DGet H a (kV k) (ZBj kvs k):=.inl ⟨kvs,k,.inl e,rfl,rfl⟩
theorem DPut.k {H:Hp} {a:Addr} {kvs:List (Key×V)} {k:Key} {v:V} (e:H a=some (.dK kvs)) (hl:kvs.length<sizeLine):DPut H a (kV k) v (upd H a (.dK (ZBS kvs k v))):=.inl ⟨kvs,k,e,rfl,hl,rfl⟩
section
variable {X:Cx} {pins:List (Addr×Obj)} {σ:St} {H:Hp} {s:Shared} {a:Addr} {y v:V} {u r:Value} {o:Option V} {A:Around} {E:Value->Shared->Prop}
theorem ZId {Q:Value->Shared->Prop} (hu:A.units+1<cLine) (I:Inv X pins σ H s) (g:DGet H a y (some v)) (ry:RelV y u) (h:∀ w' s',Inv X pins σ H s'->RelV v w'->Q w' s') :
  wpAny (model X.prog X.w) A (getItem (.ref a) u) Q E s:=by
 rcases g with ⟨kvs,k,e,ey,l⟩ | ⟨kvs,k,b,e,ey,eb,l⟩
 ·subst ey
  obtain ⟨z,hd,vs,rel,dd⟩:=ZJW I.hok e
  obtain ⟨w',hw,rw'⟩:=RelO.some_of (v:=v) (o:=valueAt vs k) (by rw [l];exact rel.val k)
  exact wpAny_getItem_of (ZJk ry) dd.mapOf hw (h w' _ (I.tok _) rw')
 ·subst ey
  cases (show u=Value.ref b from ry)
  obtain ⟨z,hd,xs,rel,dd⟩:=ZKV I.hok e
  obtain ⟨w',hw,rw'⟩:=RelO.some_of (v:=v) (o:=(atKey xs k).map (·.2)) (by rw [l];exact rel.val k)
  obtain ⟨p,hp,hp2⟩:=Option.map_eq_some_iff.mp hw
  refine wpAny_getItem_heap (tupleKind_room_in1 hu) (ZG7 I.hok eb) dd hp ?_
  rw [hp2]
  exact h w' _ (I.tok _) rw'
theorem ZLq {Q:Value->Shared->Prop} (hu:A.units+1<cLine) (I:Inv X pins σ H s) (g:DGet H a y o) (ry:RelV y u) (h:∀ s',Inv X pins σ H s'->Q (.bool (!o.isSome)) s') :
  wpAny (model X.prog X.w) A (compareOp .NotIn u (.ref a)) Q E s:=by
 rcases g with ⟨kvs,k,e,ey,l⟩ | ⟨kvs,k,b,e,ey,eb,l⟩
 ·subst ey
  obtain ⟨z,hd,vs,rel,dd⟩:=ZJW I.hok e
  refine wpAny_notIn_of (ZJk ry) hd dd.mapOf ?_
  rw [<-(rel.val k).isSome_eq,<-l]
  exact h _ (I.tok _)
 ·subst ey
  cases (show u=Value.ref b from ry)
  obtain ⟨z,hd,xs,rel,dd⟩:=ZKV I.hok e
  refine wpAny_notIn_heap (tupleKind_room_in1 hu) (ZG7 I.hok eb) hd dd ?_
  have q:=(rel.val k).isSome_eq
  rw [Option.isSome_map] at q
  rw [<-q,<-l]
  exact h _ (I.tok _)
theorem ZH0 {h':Heap} {t':Nat} {ob:HO} (I:Inv X pins σ H s) (mu:Mut (H a)) (hs:Heap.SameBut a s.heap h') (he:∃ q,h'.get? a=some q) (new:ObjOk X.prog X.w (upd H a ob) h' a ob) :
  Inv X pins σ (upd H a ob) { s with heap:=h',toks:=t' }:=
 I.write (x:=a) (e:=a) mu (.inl rfl) (fun b q hb z=>(hs.2 b hb).trans z) he new
theorem ZNq {P:Program} {w:World} {H':Hp} {h':Heap} {kvs:List (Key×V)} {vs:List (Key×Value)} (z:kvs.length<=sizeLine) (hd:(a==sysModules)=false) (rel:KV kvs vs) (dd:h'.DictOf (ZBF P w) a vs) :
  ObjOk P w H' h' a (.dK kvs):=⟨z,hd,vs,rel,dd⟩
theorem ZIA {H':Hp} {Q:Unit->Shared->Prop} (hu:A.units+1<cLine) (I:Inv X pins σ H s) (g:DPut H a y v H') (ry:RelV y u) (rv:RelV v r) (h:∀ s',Inv X pins σ H' s'->Q () s') :
  wpAny (model X.prog X.w) A (setItem (.ref a) u r) Q E s:=by
 rcases g with ⟨kvs,k,e,ey,l,eH⟩ | ⟨kvs,k,b,e,ey,eb,l,eH⟩
 ·subst ey eH
  obtain ⟨z,hd,vs,rel,dd⟩:=ZMx I.hok e
  have hz:vs.length<=sizeLine:=by rw [<-rel.length];exact z
  have hl:(ZBS kvs k v).length<=sizeLine:=by have:=ZDD kvs k v;omega
  refine wpAny_setItem_pairs (hsz:=hz) (ZJk ry) dd fun h' dd' hs=>h _ ?_
  have he:∃ q,h'.get? a=some q:=let ⟨q,_,_,hq,_⟩:=dd';⟨q,hq⟩
  exact ZH0 I (by rw [e];exact True.intro) hs he (ZNq hl hd (rel.put k rv) dd')
 ·subst ey eH
  cases (show u=Value.ref b from ry)
  obtain ⟨z,hd,xs,rel,dd⟩:=ZOK I.hok e
  have hz:xs.length<=sizeLine:=by rw [<-Paired.length rel];exact z
  have hl:(ZBS kvs k v).length<=sizeLine:=by have:=ZDD kvs k v;omega
  refine wpAny_setItem_heap (hsz:=hz) (tupleKind_room_in1 hu) (ZG7 I.hok eb) dd fun h' dd' hs=>h _ ?_
  obtain ⟨q,es,ep,hq,h2,h3,h4,_,h5⟩:=dd'
  refine ZH0 I (by rw [e];exact True.intro) hs ⟨q,hq⟩ ⟨hl,hd,_,(rel.put k eb rv).keeps fun c ys ec=>?_,q,es,ep,hq,h2,h3,h4,h5⟩
  rw [ZAG (ZAJ ec e (fun z=>nomatch z))]
  exact ec
end
section
variable {X:Cx} {pins:List (Addr×Obj)} {σ:St} {H:Hp} {s:Shared} {a:Addr} {kvs:List (Key×V)} {k:Key} {u:Value} {A:Around} {E:Value->Shared->Prop}
theorem ZOS {Q:Value->Shared->Prop} (I:Inv X pins σ H s) (e:Rd H a (.dK kvs)) (h:∀ t s',Inv X pins σ H s'->Q (.int kvs.length t) s'):wpAny (model X.prog X.w) A (call (.builtin "len") [.ref a]) Q E s:=by
 obtain ⟨z,hd,vs,rel,dd⟩:=ZJW I.hok e
 refine call_len_dict hd dd (by rw [<-rel.length];rw [sizeLine_eq] at z;omega) ?_
 rw [<-rel.length]
 exact h _ _ (I.tok _)
end
def ZO5 (i:Expr):Prop:=∀ ov iv,subscripted i false ov iv=operate [ov,iv] (getItem ov iv)
theorem ZLZ {prog:Program} {w:World} {A:Around} {E:Value->Shared->Prop} {s:Shared} {env:Env} {value slice:Expr} {pos:Pos} {T id:String} {Q:Value->Shared->Prop}
  (hl:typeLookup (.type T) "__getitem__" = pure (some (.builtin id))) (hs:ZO5 slice)
  (h:wpAny (model prog w) A (eval value env) (fun o s₁=>wpAny (model prog w) A (eval slice env) (fun i s₂=>s₂.TypeIs o T∧wpAny (model prog w) A (getItem o i) Q E s₂) E s₁) E s) :
  wpAny (model prog w) A (eval (.Subscript value slice pos) env) Q E s:=by
 refine Subscript_ (wpAny_mono h (fun o s₁ h₁=>wpAny_mono h₁ (fun i s₂ h₂=>?_) fun _ _ x=>x) fun _ _ x=>x)
 obtain ⟨hT,h₂⟩:=h₂
 unfold subscriptTail
 refine wpAny_bind ?_
 rw [getitemInPython_of_ne hT.not_modules]
 refine wpAny_bind (wpAny_specialOf hT hl ?_)
 have fin:wpAny (model prog w) A (subscripted slice false o i) (fun r s₃=>wpAny (model prog w) A (letTemporaryGo value o r >>= fun _=>pure r) Q E s₃) E s₂:=by
  rw [hs o i]
  exact wpAny_operating (wpAny_mono h₂ (fun r s₃ h₃=>wpAny_bind (wpAny_letTemporaryGo (wpAny_pure h₃))) fun _ _ x=>x)
 first
  | exact wpAny_pure (wpAny_bind fin)
  | exact wpAny_bind (wpAny_pure (wpAny_bind fin))
  | exact wpAny_bind fin
theorem ZF3 {X:Cx} {pins:List (Addr×Obj)} {σ:St} {H:Hp} {s:Shared} {a:Addr} {y:V} {o:Option V} (I:Inv X pins σ H s) (g:DGet H a y o):s.TypeIs (.ref a) "dict" :=by
 rcases g with ⟨kvs,k,e,_,_⟩ | ⟨kvs,k,b,e,_,_,_⟩
 ·obtain ⟨_,_,vs,_,dd⟩:=ZJW I.hok e
  exact dd.typeIs
 ·obtain ⟨_,_,xs,_,dd⟩:=ZKV I.hok e
  exact dd.typeIs
def ZOZ (td ty:TE):TE:=fun σ H Q=>td σ H fun x H1=>ty σ H1 fun y H2=>∃ a v,x=.ref a∧DGet H2 a y (some v)∧Q v H2
def ZMY (ty td:TE):TE:=fun σ H Q=>ty σ H fun y H1=>td σ H1 fun x H2=>∃ a o,x=.ref a∧DGet H2 a y o∧Q (.bl (!o.isSome)) H2
def ZOT (td ty tv:TE):TS:=fun D σ H=>tv σ H fun v H1=>td σ H1 fun x H2=>ty σ H2 fun y H3=>∃ a H4,x=.ref a∧DPut H3 a y v H4∧D.nx σ H4
section
variable {X:Cx} {o i e value:Expr} {pos pos' tpos:Pos} {td ty tv:TE}
theorem ZBJ (hu:X.A.units+1<cLine) (ho:PE X o td) (hi:PE X i ty) (hs:ZO5 i):PE X (.Subscript o i pos) (ZOZ td ty):=by
 intro pins s σ H Q I h
 refine ZLZ PySem.F.slot_dict_getitem.lookup hs (thn (ho pins s σ H _ I h) fun u s1 ⟨x,H1,I1,rx,q1⟩=>thn (hi pins s1 σ H1 _ I1 q1) fun iv s2 ⟨y,H2,I2,ry,a,v,ex,g,q2⟩=>?_)
 subst ex
 obtain rfl:u=Value.ref a:=rx
 exact ⟨ZF3 I2 g,ZId hu I2 g ry fun w' s3 I3 rw'=>⟨v,H2,I3,rw',q2⟩⟩
theorem ZDN (hu:X.A.units+1<cLine) (hi:PE X i ty) (ho:PE X o td):PC X .NotIn i o (ZMY ty td):=by
 intro pins s σ H Q I h
 refine thn (hi pins s σ H _ I h) fun iv s1 ⟨y,H1,I1,ry,q1⟩=>thn (ho pins s1 σ H1 _ I1 q1) fun u s2 ⟨x,H2,I2,rx,a,ov,ex,g,q2⟩=>?_
 subst ex
 obtain rfl:u=Value.ref a:=rx
 exact ZLq hu I2 g ry fun s3 I3=>⟨.bl (!ov.isSome),H2,I3,rfl,q2⟩
theorem ZCu (hu:X.A.units+1<cLine) (ho:PE X o td) (hi:PE X i ty) (hv:PE X value tv) (hs:swapsWith value (some (.Subscript o i pos')) pos.line X.env=pure false) :
  PS X (.Assign [.Subscript o i pos'] value pos) (ZOT td ty tv):=by
 intro pins s σ H D I h
 refine wpAny_Assign_Subscript (thn (hv pins s σ H _ I h) fun r s1 ⟨v,H1,I1,rv,q1⟩=>thn (ho pins s1 σ H1 _ I1 q1) fun u s2 ⟨x,H2,I2,rx,q2⟩=>thn (hi pins s2 σ H2 _ I2 q2) fun iv s3 ⟨y,H3,I3,ry,a,H4,ex,g,q3⟩=>?_) hs
 subst ex
 obtain rfl:u=Value.ref a:=rx
 exact ZIA hu I3 g ry rv fun s4 I4=>⟨σ,H4,I4,q3⟩
end
section
variable {X:Cx} {pos:Pos}
end
structure M1 (X:Cx) (o:Expr) (m:Str) (apos:Pos) (e:Expr) (cpos:Pos):Prop where
 base:attributeBase o m X.env (eval o X.env)=eval o X.env
 few:((backTo cpos (starEach [e] X.env)).all (fun x=>!x.1)&&(backToKw cpos (keywordEach [] X.env)).all (fun x=>x.1.isSome)
  && decide (([e]:List Expr).length+([]:List Keyword).length+(if ([]:List Keyword).isEmpty then 0 else 1)<30))=true
 line:(apos.endLine==cpos.line)=true
 trees:backTo cpos (starEach [e] X.env)=[(false,eval e X.env)]
section
variable {X:Cx} {pins:List (Addr×Obj)} {σ:St} {H:Hp} {s:Shared} {a:Addr} {y d:V} {u r:Value} {o:Option V} {A:Around} {E:Value->Shared->Prop}
end
section
variable {X:Cx} {o e f:Expr} {apos cpos:Pos} {td ty tx:TE}
end
section
variable {X:Cx} {pins:List (Addr×Obj)} {σ:St} {H:Hp} {s:Shared} {a:Addr} {kvs:List (Key×V)} {A:Around} {E:Value->Shared->Prop}
end
section
variable {X:Cx} {pins:List (Addr×Obj)} {σ:St} {H:Hp} {s:Shared} {a:Addr} {y:V} {u:Value} {A:Around} {E:Value->Shared->Prop}
end
section
variable {X:Cx}
theorem ZDm:ZBt X (.builtin "len") (fun xs H Q=>∃ a kvs,xs=[V.ref a]∧H a=some (.dK kvs)∧Q (.int kvs.length) H):=by
 intro pins s σ H xs us Q I r h
 obtain ⟨a,kvs,rfl,ha,q⟩:=h
 obtain ⟨u,rfl,ru⟩:=ZB8 r
 cases ru
 exact ZOS I (.inl ha) fun t s' I'=>⟨.int kvs.length,H,I',⟨t,rfl⟩,q⟩
end
section
variable {κ:Type} [DecidableEq κ]
theorem ZEi {kvs:List (κ×V)} {k:κ} {v:V} (h:ZBj kvs k=some v):k∈kvs.map (·.1):=by
 have q:(kvs.any fun kv=>decide (kv.1=k))=true:=by
  rw [ZB5,h]
  all_goals rfl
 obtain ⟨p,hp,e⟩:=List.any_eq_true.mp q
 exact List.mem_map.mpr ⟨p,hp,of_decide_eq_true e⟩
end
end L2
namespace Tw
open PySem PySem.Spec L2
def top (i:Nat):Stmt:=PySem.Challenge.pw_twigmap_k22_stems_put.main.body.getD i (.Pass ⟨0,0,0,0⟩)
abbrev ZHs:Stmt:=top 13
abbrev ZEn:Stmt:=top 14
abbrev ZKB:Stmt:=top 15
abbrev ZOo:Stmt:=top 16
abbrev ZLn:Stmt:=top 17
abbrev ZI3:Stmt:=top 18
abbrev ZCO:Stmt:=top 19
abbrev ZFw:Stmt:=top 29
abbrev ZEV:Stmt:=top 30
abbrev ZMB:Stmt:=top 31
abbrev ZED:Stmt:=top 32
abbrev ZD8:Stmt:=top 33
abbrev ZLt:Stmt:=top 34
abbrev ZFm:Stmt:=top 37
abbrev ZL6:Stmt:=top 39
abbrev ZMh:Stmt:=top 40
abbrev ZJs:Stmt:=top 41
abbrev ZMV:Stmt:=top 42
abbrev ZGX:Stmt:=top 43
abbrev ZMZ:Stmt:=top 44
abbrev ZDZ:Stmt:=top 45
abbrev ZGG:Stmt:=top 46
abbrev ZJS:Stmt:=top 47
abbrev ZIe:Stmt:=top 48
abbrev ZFu:Stmt:=top 49
abbrev ZIa:Stmt:=top 51
abbrev ZJK:Stmt:=top 52
abbrev ZJF:Stmt:=top 53
abbrev ZH3:Stmt:=top 54
abbrev ZGB:Stmt:=top 55
abbrev ZF1:Stmt:=top 57
abbrev ZOG:Stmt:=top 58
abbrev ZEp:Stmt:=top 59
abbrev ZAt:Stmt:=top 60
abbrev ZIE:Stmt:=top 61
abbrev ZKG:Stmt:=top 62
structure Txt (mg:Str->Option Value):Prop where
 isi:mg "isinstance" = none
 bool:mg "bool" = none
 int:mg "int" = none
 str:mg "str" = none
 tuple:mg "tuple" = none
 list:mg "list" = none
 len:mg "len" = none
 all:mg "all" = none
 abs:mg "abs" = none
 max:mg "max" = none
 min:mg "min" = none
 range:mg "range" = none
 sorted:mg "sorted" = none
 ValueError:mg "ValueError" = none
 sum:mg "sum" = none
 signs:∃ t,mg "MOST_SIGNS" = some (.int 40 t)
 things:∃ t,mg "MOST_THINGS" = some (.int 4 t)
 deep:∃ t,mg "MOST_DEEP" = some (.int 3 t)
 rows:∃ t,mg "MOST_ROWS" = some (.int 4 t)
 few:∃ t,mg "FEWEST_BRANCHES" = some (.int 2 t)
 most:∃ t,mg "MOST_BRANCHES" = some (.int 4 t)
 height:∃ t,mg "HEIGHT" = some (.int 0 t)
 least:∃ t,mg "LEAST" = some (.int 1 t)
 greatest:∃ t,mg "GREATEST" = some (.int 2 t)
 many:∃ t,mg "MANY" = some (.int 3 t)
section
variable {P:Program} {w:World} {K:PySem.W.Frag} {mg:Str->Option Value} {base:Heap} {f:Addr} {fd:FuncData}
theorem scPull:FnScope ["_law_well_here","_law_many","_law_found","_law_first","_law_second"] ["_law_well_here","_law_many"] (ZAI ZMh):=⟨rfl,rfl,rfl,by decide +kernel,rfl,by decide +kernel,by decide +kernel⟩
theorem ZMW (F:Fun K "_law_pull" "_law_pull" ZMh f fd):FnOk P w K mg base CX0 1 f fd ["_law_well_here","_law_many"] ZCy:=by
 refine F.ok scPull (fun vs H Q E h=>?_) (fun cdv A outer s H vs Q E hr h=>?_)
 ·obtain ⟨p,m,rfl,_⟩:=h
  rfl
 obtain ⟨p,m,rfl,W,⟨hm,hlog⟩,k⟩:=h
 obtain ⟨a,b,c,d,hw,ha0,ha1,hc,hd⟩:=W.ex
 have nd:=scPull.nd
 refine ⟨_,ZAD (ZAf (ZAX ZCA (ZAV ix_list (pv 0) ZAF (fun _ _=>rfl)) ZAF (ZAW _)) (ZAH (ZAQ ZAF)) ZAR)
  (ZAD (ZDK (ZAb ZCV (ZAV ix_list (pv 0) ZAF (fun _ _=>rfl)) ZAF) (ZJV (pv 0) ZAF ZEQ))
  (ZAD (ZAf (ZAX ZGI (ZAV ix_list (pv 0) ZAF (fun _ _=>rfl)) ZAF (ZAW _))
   (ZAD (ZAU (i:=2) nd rfl (Or.inl rfl) (ZAb ZBy (ZAV ix_list (pv 0) ZAF (fun _ _=>rfl)) (pv 1)))
   (ZAD (ZDK (ZAb ZLa (ZAV ix_list (pv 0) ZAF (fun _ _=>rfl)) (pv 1)) (ZJV (pv 0) ZAF ZEQ))
   (ZAH (ZAQ (pv 2))))) ZAR)
  (ZAD (ZDK (ZAb ZBE (ZAV ix_list (pv 0) ZAF (fun _ _=>rfl)) ZAF) (ZJV (pv 0) ZAF ZEQ))
  (ZAD (ZAU (i:=3) nd rfl (Or.inl rfl) (ZAb ZBy (ZAb ZDG (ZAb ZBE (ZAV ix_list (pv 0) ZAF (fun _ _=>rfl)) ZAF) (ZAb ZBE ZAF (ZAb ZDG ZAF (ZAV ix_list (pv 0) ZAF (fun _ _=>rfl))))) ZAF))
  (ZAD (ZAU (i:=4) nd rfl (Or.inl rfl) (ZAb ZBy (ZAb ZDG (ZAb ZBE (ZAb ZFo (pv 3) ZAF) ZAF) (ZAb ZBE (ZAb ZBy (pv 3) ZAF) ZAF)) ZAF))
  (ZAH (ZAQ (ZAb ZBy (ZAb ZFo (pv 4) ZAF) (pv 1))))))))),?_⟩
 refine ⟨_,rfl,p,_,_,_,rfl,rfl,SqL.of hw,rfl,rfl,_,rfl,?_⟩
 refine ZFO (fun _=>?_) (fun c0=>?_)
 ·exact k 0 H (Int.le_refl 0) hm W (SameX.refl p H)
 have d0:d≠0:=fun e=>c0 (decide_eq_true (by rw [e]))
 refine ⟨_,rfl,p,_,_,_,rfl,rfl,SqL.of hw,rfl,_,_,rfl,rfl,_,rfl,p,_,_,_,rfl,rfl,hw,rfl,?_⟩
 refine ⟨_,rfl,p,_,_,_,rfl,rfl,SqL.of ZAA,rfl,_,_,rfl,rfl,_,rfl,?_⟩
 refine ZFO (fun c1=>?_) (fun c1=>?_)
 ·refine ⟨_,rfl,p,_,_,_,rfl,rfl,SqL.of ZAA,rfl,_,rfl,_,_,rfl,rfl,hm,?_⟩
  refine ⟨_,rfl,p,_,_,_,rfl,rfl,SqL.of ZAA,rfl,_,rfl,_,_,rfl,rfl,⟨hm,hlog⟩,_,rfl,p,_,_,_,rfl,rfl,ZAA,rfl,?_⟩
  refine ⟨_,rfl,?_⟩
  refine k (c % m) _ (Int.emod_nonneg _ (by omega)) (Int.emod_lt_of_pos _ hm) ⟨a,b,c / m,d - 1,ZAA,ha0,ha1,Int.ediv_nonneg hc (by omega),by omega⟩ (SameX.refl p H).upd.upd
 ·refine ⟨_,rfl,p,_,_,_,rfl,rfl,SqL.of ZAA,rfl,_,_,rfl,rfl,_,rfl,p,_,_,_,rfl,rfl,ZAA,rfl,?_⟩
  refine ⟨_,rfl,p,_,_,_,rfl,rfl,SqL.of ZAA,rfl,_,_,rfl,rfl,_,rfl,p,_,_,_,rfl,rfl,SqL.of ZAA,rfl,_,_,rfl,rfl,.inl ⟨by decide,by decide⟩,_,_,rfl,rfl,_,_,rfl,rfl,.inl ⟨by omega,by omega⟩,_,_,rfl,rfl,(by show (0:Int)<2147483629;decide),?_⟩
  generalize hx:(a+1) * (48271+7919 * (b+1)) % 2147483629=x
  have x0:0<=x:=by rw [<-hx];exact Int.emod_nonneg _ (by decide)
  have x1:x<2147483629:=by rw [<-hx];exact Int.emod_lt_of_pos _ (by decide)
  refine ⟨_,rfl,_,_,rfl,rfl,⟨by decide,by decide⟩,_,_,rfl,rfl,_,rfl,_,_,rfl,rfl,(by show (0:Int)<1009;decide),_,_,rfl,rfl,_,_,rfl,rfl,.inl ⟨by omega,by omega⟩,_,_,rfl,rfl,(by show (0:Int)<1000000007;decide),?_⟩
  refine ⟨_,rfl,_,_,rfl,rfl,⟨by decide,by decide⟩,_,rfl,_,_,rfl,rfl,hm,?_⟩
  exact k _ _ (Int.emod_nonneg _ (by omega)) (Int.emod_lt_of_pos _ hm) ⟨a,b+1,c,d - 1,ZAA,ha0,ha1,hc,by omega⟩ (SameX.refl p H).upd.upd
end
section
variable {P:Program} {w:World} {K:PySem.W.Frag} {mg:Str->Option Value} {base:Heap} {f:Addr} {fd:FuncData}
abbrev ZOj:List Str:=["_law_script","_law_k","_law_left","_law_cell","_law_digits"]
theorem scWell:FnScope ZOj ["_law_script","_law_k"] (ZAI ZL6):=⟨rfl,rfl,rfl,by decide +kernel,rfl,by decide +kernel,by decide +kernel⟩
theorem ZLu (F:Fun K "_law_well" "_law_well" ZL6 f fd) (T:Txt mg):FnOk P w K mg base CX0 1 f fd ["_law_script","_law_k"] (ZIV K):=by
 refine F.ok scWell (fun vs H Q E h=>?_) (fun cdv A outer s H vs Q E hr h=>?_)
 ·obtain ⟨a,ns,k,rfl,_⟩:=h
  rfl
 obtain ⟨a,ns,k,rfl,hS,hn,k0,k1,q⟩:=h
 have nd:=scWell.nd
 refine ⟨_,ZAD (ZAU (i:=2) nd rfl (Or.inl rfl) (ZAV ix_list (ZAx (ZAL ZAF (ZAL ZAF ZAC))) (ZAm ZFe rfl T.int ZCN (ZAL (ZBB ZCA (pv 1) ZAF (ZAW _)) ZAC)) (fun _ _=>rfl)))
  (ZAD (ZAU (i:=3) nd rfl (Or.inl rfl) (ZAV ix_list (ZAb ZFP (ZAm ZA0 rfl T.list ZBi (ZAL (pv 0) ZAC)) (ZAx (ZAL ZAF ZAC))) (ZAb ZBy (pv 1) (ZAK (ZE6 rfl) rfl T.max ZFW (ZAL ZAF (ZAL (ZAK ZAS rfl T.len ZAv (ZAL (pv 0) ZAC)) ZAC)))) (fun _ _=>rfl)))
  (ZAD (ZAU (i:=4) nd rfl (Or.inl rfl) (ZAb ZDG (ZAK ZEy rfl T.abs ZHo (ZAL (pv 3) ZAC)) (ZAm ZFe rfl T.int ZCN (ZAL (ZCB (ZBB ZOn (ZAK ZEy rfl T.abs ZHo (ZAL (pv 3) ZAC)) (ZAb ZKx ZAF ZAF) (ZAW _)) (ZDI (ZBB ZHG (pv 1) (ZAK ZAS rfl T.len ZAv (ZAL (pv 0) ZAC)) (ZAW _)))) ZAC))))
  (ZAH (ZAQ (ZAx (ZAL (ZAb ZBy (pv 3) ZAF) (ZAL (ZAb ZDG ZAF (pv 1)) (ZAL (pv 4) (ZAL (pv 2) ZAC))))))))),?_⟩
 refine ⟨(by show 2<=sizeLine;decide),fun l1 hl1=>?_⟩
 have g1:=ZAE hl1 (.lst [V.int 240,V.int 2400])
 refine ⟨_,rfl,rfl,.inr ⟨_,rfl,?_⟩⟩
 obtain ⟨lv,elv,hlv⟩:∃ z:Int,atI [V.int 240,V.int 2400] (if decide (V.int k=V.int 0)=true then 1 else 0)=some (.int z)∧0<=z:=by
  split
  ·exact ⟨2400,rfl,by decide⟩
  ·exact ⟨240,rfl,by decide⟩
 refine ⟨l1,_,_,_,rfl,rfl,SqL.of ZAA,elv,?_⟩
 refine ⟨_,rfl,a,_,rfl,.inl (g1.seq hS),fun l2 hl2=>?_⟩
 have g2:=g1.trans (ZAE hl2 (.lst (ns.map V.int)))
 refine ⟨(by show 1<=sizeLine;decide),fun l3 hl3=>?_⟩
 have g3:=g2.trans (ZAE hl3 (.lst [V.int 0]))
 have n23:l2≠l3:=ZAB ZAA hl3
 refine ⟨l2,l3,_,_,rfl,rfl,(by rw [ZAG n23];exact ZAA),ZAA,(by rw [List.length_map];exact nn (by show ns.length+1<=1000;omega)),fun l4 hl4=>?_⟩
 have g4:=g3.trans (ZAE hl4 (.lst (ns.map V.int++[V.int 0])))
 refine ⟨_,rfl,_,rfl,a,_,rfl,.inl (g4.seq hS),_,_,rfl,?_⟩
 have hlm:(ns.map V.int).length=ns.length:=List.length_map _
 generalize hM:(if (((ns.map V.int).length:Nat):Int) > 1 then (((ns.map V.int).length:Nat):Int) else 1)=M
 have M1:1<=M∧M<=(ns.length:Int)+1:=by
  rw [hlm] at hM
  rw [<-hM]
  split <;> omega
 refine ⟨_,_,rfl,rfl,by omega,?_⟩
 have i0:0<=k % M:=Int.emod_nonneg _ (by omega)
 have i1:k % M<M:=Int.emod_lt_of_pos _ (by omega)
 obtain ⟨cv,ecv,mcv⟩:=ZGt (xs:=ns.map V.int++[V.int 0]) i0 (by rw [List.length_append,List.length_map,List.length_singleton];omega)
 obtain ⟨cell,rfl⟩:∃ z:Int,cv=.int z:=by
  rcases List.mem_append.mp mcv with m | m
  ·obtain ⟨z,_,e⟩:=List.mem_map.mp m
   exact ⟨z,e.symm⟩
  ·exact ⟨0,List.mem_singleton.mp m⟩
 refine ⟨l4,_,_,_,rfl,rfl,SqL.of ZAA,ecv,?_⟩
 have dig:∀ b:Bool,0<=(if cell<0 then -cell else cell) * (if b=true then 1 else 0):=fun b=>by
  cases b
  ·simp
  ·simp;split <;> omega
 have cm:∀ (x:Int) (b:Bool),CMul x (if b=true then 1 else 0):=fun x b=>.inr (by cases b <;> exact ⟨by decide,by decide⟩)
 have done:∀ (z:Int) (H5:Hp),0<=z->Same H H5->∀ l5,H5 l5=none->Q (.ref l5) (upd H5 l5 (.lst [.int (cell % 2147483647),.int (1000 * k),.int z,.int lv])):=fun z H5 z0 s5 l5 hl5=>
  q l5 _ (s5.free hl5) (s5.trans (ZAE hl5 _)) ⟨_,_,_,_,ZAA,Int.emod_nonneg _ (by decide),Int.emod_lt_of_pos _ (by decide),z0,hlv⟩
 refine ⟨_,rfl,_,rfl,_,rfl,_,rfl,_,_,rfl,rfl,⟨by decide,by decide,by decide⟩,_,_,rfl,rfl,_,rfl,?_⟩
 refine ZFO (fun _=>?_) (fun _=>?_)
 ·refine ⟨_,rfl,_,rfl,a,_,rfl,.inl (g4.seq hS),_,_,rfl,rfl,.inr ⟨_,rfl,_,_,rfl,rfl,cm _ _,?_⟩⟩
  refine ⟨_,rfl,_,_,rfl,rfl,(by show (0:Int)<2147483647;decide),_,rfl,_,_,rfl,rfl,.inl ⟨by decide,by decide⟩,_,rfl,_,rfl,(by show 4<=sizeLine;decide),fun l5 hl5=>?_⟩
  exact done _ _ (dig _) g4 l5 hl5
 ·refine .inr ⟨_,rfl,_,_,rfl,rfl,cm _ false,?_⟩
  refine ⟨_,rfl,_,_,rfl,rfl,(by show (0:Int)<2147483647;decide),_,rfl,_,_,rfl,rfl,.inl ⟨by decide,by decide⟩,_,rfl,_,rfl,(by show 4<=sizeLine;decide),fun l5 hl5=>?_⟩
  exact done _ _ (dig false) g4 l5 hl5
end
structure Laid (K:PySem.W.Frag) (mg:Str->Option Value) (x:Str) (st:Stmt) (ps:List Str):Prop where
 ex:∃ f fd,Fun K x x st f fd∧Binds K fd ps []∧mg x=some (.ref f)
theorem Laid.of {P:Program} {w:World} {K:PySem.W.Frag} {mg:Str->Option Value} {base:Heap} {x:Str} {st:Stmt} {ps:List Str} {k:Nat} {sp:Sp} (L:Laid K mg x st ps) (h:∀ f fd,Fun K x x st f fd->FnOk P w K mg base CX0 k f fd ps sp):DefOk P w K mg base k x ps sp:=by
 obtain ⟨f,fd,F,b,m⟩:=L.ex
 exact ⟨f,fd,h f fd F,b,F.kp,m⟩
theorem laid_mk {K:PySem.W.Frag} {h:Heap} {mg:Str->Option Value} {x:Str} {st:Stmt} {ps:List Str} {f:Addr} {od an:Option Addr} {sl:Array (Option Value)} {oc kV dc pm cd ct:Value} (X:K.In h) (G:h.Ns mainGlobals mg)
  (a:PySem.W.nsIn K mainGlobals x=some (some (.ref f))) (l:K.lookup f=some ⟨oc,od,.func (PySem.W.fnOf x x (ZA6 st) (ZAp st) (ZAI st) .none kV dc pm an cd ct),sl⟩) (c:PySem.W.codeIn K cd x=true) (k:PySem.W.keepIn K (.ref f)=true)
  (hb:∀ (kV doc pm:Value) (an:Option Addr) (cdv ct:Value) (us:List Value),us.length=ps.length->bindArgs (PySem.W.fnOf x x (ZA6 st) (ZAp st) (ZAI st) .none kV doc pm an cdv ct) ⟨us,[]⟩=pure (ps.zip us)):Laid K mg x st ps:=
 ⟨f,_,ZBZ (st:=st) l c k,(ZBZ (st:=st) l c k).binds hb,PySem.W.mg_of X G a⟩
def ZMp (n:Nat):Sp:=fun vs H Q _=>∃ (v:V) (t:KT) (q:Nat),vs=[v]∧KeyAt H t v∧t.fits q=true∧t.depth<n∧∀ (v':V) (H':Hp),KeyAt H' t.st v'->Same H H'->Q v' H'
def ZCH:Sp:=fun vs H Q _=>∃ (v u:V) (a b:KT),vs=[v,u]∧KeyAt H a v∧KeyAt H b u∧a.fits 3=true∧b.fits 3=true∧∀ H',Same H H'->Q (.bl (a.lt b)) H'
section
variable {P:Program} {w:World} {K:PySem.W.Frag} {mg:Str->Option Value} {base:Heap} {f:Addr} {fd:FuncData}
theorem ZHj:FnScope ["key"] ["key"] (ZAI ZCO):=⟨rfl,rfl,rfl,by decide +kernel,rfl,by decide +kernel,by decide +kernel⟩
theorem ZL3 {k:Nat}:FnOk P w K mg base CX0 k f fd ["key"] (ZMp 0):=by
 have no:∀ vs H Q E,¬ ZMp 0 vs H Q E:=fun vs H Q E h=>by
  obtain ⟨v,t,q,_,_,_,h1,_⟩:=h
  omega
 exact ⟨fun vs H Q E h=>absurd h (no vs H Q E),fun A outer s H args us vs Q E _ _ _ _ h=>absurd h (no vs H Q E)⟩
theorem ZGM {n:Nat} (F:Fun K "standing" "standing" ZCO f fd) (T:Txt mg) (DS:DefOk P w K mg base (n+1) "standing" ["key"] (ZMp n)):FnOk P w K mg base CX0 (n+2) f fd ["key"] (ZMp (n+1)):=by
 refine F.ok ZHj (fun vs H Q E h=>?_) (fun cdv A outer s H vs Q E hr h=>?_)
 ·obtain ⟨v,t,q,rfl,_⟩:=h
  rfl
 obtain ⟨v,t,q,rfl,hv,hq,hn,k⟩:=h
 refine ⟨_,ZAD (ZAf (ZAg (ZAK ZAY rfl T.isi ZAM (ZAL (pv 0) (ZAL (ZAi (v:=.ty "int") rfl T.int ZCN rfl) ZAC)))) (ZAH (ZAQ (ZAk (ZAL ZAF (ZAL (pv 0) ZAC))))) ZAR)
  (ZAD (ZAf (ZAg (ZAK ZAY rfl T.isi ZAM (ZAL (pv 0) (ZAL (ZAi (v:=.ty "str") rfl T.str ZE3 rfl) ZAC)))) (ZAH (ZAQ (ZAk (ZAL ZAF (ZAL (pv 0) ZAC))))) ZAR)
  (ZAH (ZAQ (ZAk (ZAL ZAF (ZAL (ZAm ZA4 rfl T.tuple ZBO (ZAL (ZBk [] [] rfl (ZHu (pv 0)) (fun _ _ _ _ _=>ZBM) (fun _ _ _ _ _=>ZAT DS hr (ZAL (pv 0) ZAC)) trivial) ZAC)) ZAC)))))),?_⟩
 cases t with
 | int i=>
  have ev:v=.int i:=by rw [KeyAt] at hv;exact hv
  subst ev
  refine ⟨_,rfl,_,_,_,_,rfl,hv.ty,ZDE,_,rfl,ZBb ?_⟩
  refine ⟨_,rfl,(by show 2<=sizeLine;decide),fun p hp=>?_⟩
  refine k _ _ ?_ (ZAE hp _)
  rw [KT.st]
  exact .tup ZAA (.cons (.int 0) (.cons (.int i) .nil))
 | str x=>
  have ev:v=.str x:=by rw [KeyAt] at hv;exact hv
  subst ev
  refine ⟨_,rfl,_,_,_,_,rfl,hv.ty,ZHw,_,rfl,ZAz ?_⟩
  refine ⟨_,rfl,_,_,_,_,rfl,hv.ty,ZFc,_,rfl,ZBb ?_⟩
  refine ⟨_,rfl,(by show 2<=sizeLine;decide),fun p hp=>?_⟩
  refine k _ _ ?_ (ZAE hp _)
  rw [KT.st]
  exact .tup ZAA (.cons (.int 1) (.cons (.str x) .nil))
 | tup l=>
  have hv':=hv
  rw [KeyAt] at hv'
  obtain ⟨a,vs,rfl,ea,hvs⟩:=hv'
  have hl:=hvs.length
  rw [KT.fits,Bool.and_eq_true,Bool.and_eq_true] at hq
  obtain ⟨hq0,hq1,hq2⟩:=hq
  have hl4:l.length<=4:=of_decide_eq_true hq1
  rw [KT.depth] at hn
  refine ⟨_,rfl,_,_,_,_,rfl,hv.ty,ZH4,_,rfl,ZAz ?_⟩
  refine ⟨_,rfl,_,_,_,_,rfl,hv.ty,ZIS,_,rfl,ZAz ?_⟩
  refine ⟨_,rfl,a,rfl,⟨vs,SqT.of ea⟩,?_⟩
  refine ZA3 (n:=vs.length) (fun i z=>vs[i]? = some z) (fun D i ys H3=>Same H H3∧H D=none∧KeysAt H3 ((l.take i).map KT.st) ys) (ZAO (by omega))
   (fun D i ys H3 hi hP=>⟨vs,vs[i],SqT.of (hP.1 _ _ ea),by simp [hi]⟩) (fun D i ys H3 z H4 hi hP hy=>⟨hy.1,hy.2 vs (SqT.of (hP.1 _ _ ea))⟩) (fun D ys H3 hP=>⟨vs,SqT.of (hP.1 _ _ ea),Nat.le_refl _⟩)
   (fun D hD=>⟨ZAE hD _,hD,.nil⟩) (fun D i ys H3 z eD hl' hi hz hP R hR=>?_) (fun D ys H3 eD hP=>?_)
  ·obtain ⟨s3,nD,hys⟩:=hP
   obtain ⟨t,et,kt⟩:=hvs.get hz
   have mt:=List.mem_of_getElem? et
   have htq:t.fits (q - 1)=true:=by
    rw [ZB1] at hq2
    exact List.all_eq_true.mp hq2 t mt
   have hdt:=ZB6 mt
   refine ⟨_,rfl,z,t,q - 1,rfl,kt.mono (Same.tups s3) _ _,htq,by omega,fun v' H4 k4 s4=>?_⟩
   have eD4:=s4 D _ eD
   have tD:ZBn H4 (upd H4 D (.lst (ys++[v']))):=(SameX.refl D H4).upd.tups eD4
   refine hR v' H4 eD4 ⟨fun b o e=>by rw [ZAG (ZAB e nD)];exact s4 b o (s3 b o e),nD,?_⟩
   rw [List.take_add_one,et,List.map_append]
   exact ((hys.mono (Same.tups s4) _ _).append (.cons k4 .nil)).mono tD _ _
  ·obtain ⟨s3,nD,hys⟩:=hP
   have et:l.take vs.length=l:=List.take_of_length_le (by omega)
   rw [et] at hys
   have hyl:=hys.length
   rw [List.length_map] at hyl
   refine ⟨D,ys,rfl,.inl ⟨SqL.of eD,fun p1 hp1=>?_⟩⟩
   have g1:=ZAE hp1 (.tup ys)
   refine ⟨(by show 2<=sizeLine;decide),fun p2 hp2=>?_⟩
   have g2:=ZAE hp2 (.tup [.int 2,.ref p1])
   refine k _ _ ?_ ((s3.trans g1).trans g2)
   rw [KT.st,ZJO]
   exact .tup ZAA (.cons (.int 2) (.cons (.tup (g2 _ _ ZAA) (hys.mono (Same.tups (g1.trans g2)) _ _)) .nil))
theorem ZCx (T:Txt mg) (L:Laid K mg "standing" ZCO ["key"]):∀ n:Nat,DefOk P w K mg base (n+1) "standing" ["key"] (ZMp n)
 | 0=>L.of fun _ _ _=>ZL3
 | n+1=>L.of fun _ _ F=>ZGM F T (ZCx T L n)
theorem ZLx:FnScope ["one","other"] ["one","other"] (ZAI ZI3):=⟨rfl,rfl,rfl,by decide +kernel,rfl,by decide +kernel,by decide +kernel⟩
theorem ZKM (F:Fun K "ahead" "ahead" ZI3 f fd) (DS:DefOk P w K mg base 6 "standing" ["key"] (ZMp 5)):FnOk P w K mg base CX0 7 f fd ["one","other"] ZCH:=by
 refine F.ok ZLx (fun vs H Q E h=>?_) (fun cdv A outer s H vs Q E hr h=>?_)
 ·obtain ⟨v,u,a,b,rfl,_⟩:=h
  rfl
 obtain ⟨v,u,a,b,rfl,ha,hb,fa,fb,k⟩:=h
 refine ⟨_,ZAH (ZAQ (ZBB (ZK3 hr) (ZAT DS hr (ZAL (pv 0) ZAC)) (ZAT DS hr (ZAL (pv 1) ZAC)) (ZAW _))),?_⟩
 have da:=ZBD a 3 fa
 have db:=ZBD b 3 fb
 have ds:=ZGe a
 refine ⟨_,rfl,v,a,3,rfl,ha,fa,by omega,fun v1 H1 k1 s1=>?_⟩
 refine ⟨_,rfl,u,b,3,rfl,hb.mono (Same.tups s1) _ _,fb,by omega,fun v2 H2 k2 s2=>?_⟩
 refine ⟨a.st,b.st,k1.mono (Same.tups s2) _ _,k2,ZKt a b,by omega,?_⟩
 rw [ZLD]
 exact k H2 (s1.trans s2)
end
mutual
def KT.wide:KT->Nat->Bool
 | .int _,_=>true
 | .str _,_=>true
 | .tup l,r=>decide (0<r)&&(decide (l.length<=100)&&wideL l (r - 1))
def wideL:List KT->Nat->Bool
 | [],_=>true
 | t :: l,r=>t.wide r&&wideL l r
end
theorem ZBl:∀ (l:List KT) (r:Nat),wideL l r=l.all (·.wide r)
 | [],r=>by rw [wideL];rfl
 | t :: l,r=>by rw [wideL,ZBl l r];rfl
mutual
theorem ZDS:∀ (t:KT) (r:Nat),t.fits r=true->t.wide r=true
 | .int _,_,_=>by rw [KT.wide]
 | .str _,_,_=>by rw [KT.wide]
 | .tup l,r,h=>by
  rw [KT.fits,Bool.and_eq_true,Bool.and_eq_true] at h
  rw [KT.wide,Bool.and_eq_true,Bool.and_eq_true]
  have:=of_decide_eq_true h.2.1
  exact ⟨h.1,decide_eq_true (by omega),wideL_of l (r - 1) h.2.2⟩
theorem wideL_of:∀ (l:List KT) (r:Nat),fitsL l r=true->wideL l r=true
 | [],_,_=>by rw [wideL]
 | t :: l,r,h=>by
  rw [fitsL,Bool.and_eq_true] at h
  rw [wideL,Bool.and_eq_true]
  exact ⟨ZDS t r h.1,wideL_of l r h.2⟩
end
def ZCJ (n:Nat):Sp:=fun vs H Q _=>∃ (v u:V) (t:KT) (r:Nat),vs=[v,u]∧KeyAt H t v∧KeyAt H t u∧t.wide r=true∧r<n∧∀ H',Same H H'->Q (.bl true) H'
section
variable {P:Program} {w:World} {K:PySem.W.Frag} {mg:Str->Option Value} {base:Heap} {f:Addr} {fd:FuncData}
theorem ZGg {sp:Sp} {k:Nat} {ps:List Str} (no:∀ vs H Q E,¬ sp vs H Q E):FnOk P w K mg base CX0 k f fd ps sp:=
 ⟨fun vs H Q E h=>absurd h (no vs H Q E),fun A outer s H args us vs Q E _ _ _ _ h=>absurd h (no vs H Q E)⟩
theorem ZMn:FnScope ["_law_found","_law_due"] ["_law_found","_law_due"] (ZAI ZGX):=⟨rfl,rfl,rfl,by decide +kernel,rfl,by decide +kernel,by decide +kernel⟩
theorem ZKD {n:Nat} (F:Fun K "_law_alike" "_law_alike" ZGX f fd) (T:Txt mg) (DA:DefOk P w K mg base (n+1) "_law_alike" ["_law_found","_law_due"] (ZCJ n)) :
  FnOk P w K mg base CX0 (n+2) f fd ["_law_found","_law_due"] (ZCJ (n+1)):=by
 refine F.ok ZMn (fun vs H Q E h=>?_) (fun cdv A outer s H vs Q E hr h=>?_)
 ·obtain ⟨v,u,t,r,rfl,_⟩:=h
  rfl
 obtain ⟨v,u,t,r,rfl,hv,hu,hf,hn,k⟩:=h
 refine ⟨_,ZAD (ZAf (ZAg (ZAK ZAY rfl T.isi ZAM (ZAL (pv 1) (ZAL (ZAi (v:=.ty "tuple") rfl T.tuple ZBO rfl) ZAC))))
   (ZAD (ZAf (PW.pt (ZB9 (ZAy (ZAg (ZAK ZAY rfl T.isi ZAM (ZAL (pv 0) (ZAL (ZAi (v:=.ty "tuple") rfl T.tuple ZBO rfl) ZAC)))))
    (ZB0 (ZAX ZEN (ZAK ZAS rfl T.len ZAv (ZAL (pv 0) ZAC)) (ZAK ZAS rfl T.len ZAv (ZAL (pv 1) ZAC)) (ZAW _))))) (ZAH (ZAQ ZDQ)) ZAR)
   (ZAH (ZAQ (ZAK (ZG1 rfl) rfl T.all ZGz (ZAL (ZBk [0,1] ["_law_found","_law_due"] rfl (ZBm rfl T.range (ZAL (ZAK ZAS rfl T.len ZAv (ZAL (pv 1) ZAC)) ZAC)) (fun _ _ _ _ _=>ZBM)
    (fun _ _ _ _ _=>ZAT DA hr (ZAL (ZAV (r:=rIx K) ZAP (pv 1) (pv 0) (fun _ _=>rfl)) (ZAL (ZAV (r:=rIx K) ZAP (pv 2) (pv 0) (fun _ _=>rfl)) ZAC))) ⟨rfl,.inl rfl,rfl,rfl,.inl rfl,rfl,trivial⟩) ZAC))))) ZAR)
  (ZAD (ZAf (ZAg (ZAK ZAY rfl T.isi ZAM (ZAL (pv 1) (ZAL (ZAi (v:=.ty "str") rfl T.str ZE3 rfl) ZAC))))
   (ZAH (ZAQ (ZCB (ZAK ZAY rfl T.isi ZAM (ZAL (pv 0) (ZAL (ZAi (v:=.ty "str") rfl T.str ZE3 rfl) ZAC))) (ZDI (ZBB ZCA (pv 0) (pv 1) (ZAW _)))))) ZAR)
  (ZAH (ZAQ (ZCB (ZAK ZAY rfl T.isi ZAM (ZAL (pv 0) (ZAL (ZAi (v:=.ty "int") rfl T.int ZCN rfl) ZAC)))
   (ZCB (ZK7 (ZAK ZAY rfl T.isi ZAM (ZAL (pv 0) (ZAL (ZAi (v:=.ty "bool") rfl T.bool ZCj rfl) ZAC)))) (ZDI (ZBB ZCA (pv 0) (pv 1) (ZAW _)))))))),?_⟩
 cases t with
 | int i=>
  have ev:v=.int i:=by rw [KeyAt] at hv;exact hv
  have eu:u=.int i:=by rw [KeyAt] at hu;exact hu
  subst ev eu
  refine ⟨_,rfl,_,_,_,_,rfl,.int i,ZNo,_,rfl,ZAz ?_⟩
  refine ⟨_,rfl,_,_,_,_,rfl,.int i,kit_is',_,rfl,ZAz ?_⟩
  refine ⟨_,rfl,_,_,_,_,rfl,.int i,ZDE,_,rfl,ZBb ?_⟩
  refine ⟨_,rfl,_,_,_,_,rfl,.int i,ZFD,_,rfl,_,rfl,ZBb ?_⟩
  refine ⟨_,rfl,_,rfl,rfl,?_⟩
  rw [decide_eq_true rfl]
  exact k H (Same.refl H)
 | str x=>
  have ev:v=.str x:=by rw [KeyAt] at hv;exact hv
  have eu:u=.str x:=by rw [KeyAt] at hu;exact hu
  subst ev eu
  refine ⟨_,rfl,_,_,_,_,rfl,.str x,ZNW,_,rfl,ZAz ?_⟩
  refine ⟨_,rfl,_,_,_,_,rfl,.str x,ZFc,_,rfl,ZBb ?_⟩
  refine ⟨_,rfl,_,_,_,_,rfl,.str x,ZFc,_,rfl,ZBb ?_⟩
  refine ⟨_,rfl,_,rfl,rfl,?_⟩
  rw [decide_eq_true rfl]
  exact k H (Same.refl H)
 | tup l=>
  rw [KeyAt] at hv hu
  obtain ⟨a,vs,rfl,ea,hvs⟩:=hv
  obtain ⟨b,us,rfl,eb,hus⟩:=hu
  have hl:=hvs.length
  have hl2:=hus.length
  rw [KT.wide,Bool.and_eq_true,Bool.and_eq_true] at hf
  obtain ⟨f0,f1,f2⟩:=hf
  have r0:=of_decide_eq_true f0
  have l4:=of_decide_eq_true f1
  have ty:TyOf K H (.ref a) (.type "tuple"):=.tup ea
  have ty2:TyOf K H (.ref b) (.type "tuple"):=.tup eb
  have luv:us.length=vs.length:=by omega
  refine ⟨_,rfl,_,_,_,_,rfl,ty2,ZG6,_,rfl,ZBb ?_⟩
  refine ⟨_,rfl,_,_,_,_,rfl,ty,ZG6,_,rfl,ZAz ?_⟩
  refine ⟨_,rfl,a,vs,rfl,.inr (SqT.of ea),_,rfl,b,us,rfl,.inr (SqT.of eb),rfl,_,rfl,ZHh (by rw [luv]) ?_⟩
  refine ⟨_,rfl,b,us,rfl,.inr (SqT.of eb),_,rfl,by omega,by omega,?_⟩
  rw [Int.toNat_natCast]
  refine ZA3 (n:=us.length) (fun i x=>x=.int (0+(i:Int))) (fun D i ys H3=>Same H H3∧H D=none∧ys=(List.replicate i true).map V.bl) (ZAO (by omega))
   (fun D i ys H3 hi _=>hi) (fun D i ys H3 x H4 hi _ hy=>hy) (fun D ys H3 _=>Nat.le_refl _) (fun D hD=>⟨ZAE hD _,hD,rfl⟩) (fun D i ys H3 x eD hl' hi hx hP R hR=>?_) (fun D ys H3 eD hP=>?_)
  ·subst hx
   obtain ⟨s3,nD,rfl⟩:=hP
   have hi':i<vs.length:=by omega
   have hiv:vs[i]? = some vs[i]:=by simp [hi']
   have hiu:us[i]? = some us[i]:=by simp [hi]
   obtain ⟨t,et,kt⟩:=hvs.get hiv
   obtain ⟨t',et',kt'⟩:=hus.get hiu
   have ett:t'=t:=by rw [et] at et';injection et' with et';exact et'.symm
   subst ett
   have ft:t'.wide (r - 1)=true:=by rw [ZBl] at f2;exact List.all_eq_true.mp f2 t' (List.mem_of_getElem? et)
   have av:atI vs (0+(i:Int))=some vs[i]:=by rw [Int.zero_add];exact ZAn hiv
   have au:atI us (0+(i:Int))=some us[i]:=by rw [Int.zero_add];exact ZAn hiu
   refine ⟨_,rfl,_,rfl,.inr (.inl ⟨a,vs,_,_,rfl,rfl,SqT.of (s3 _ _ ea),av,_,rfl,_,rfl,.inr (.inl ⟨b,us,_,_,rfl,rfl,SqT.of (s3 _ _ eb),au,vs[i],us[i],t',r - 1,rfl,kt.mono (Same.tups s3) _ _,kt'.mono (Same.tups s3) _ _,ft,by omega,fun H4 s4=>?_⟩)⟩)⟩
   refine hR _ H4 (s4 D _ eD) ⟨fun b o e=>by rw [ZAG (ZAB e nD)];exact s4 b o (s3 b o e),nD,?_⟩
   rw [List.replicate_succ']
   simp
  ·obtain ⟨s3,nD,rfl⟩:=hP
   refine ⟨D,_,rfl,SqL.of eD,?_⟩
   have e:(List.replicate us.length true).all id=true:=by simp
   rw [e]
   exact k H3 s3
theorem ZFK (T:Txt mg) (L:Laid K mg "_law_alike" ZGX ["_law_found","_law_due"]):∀ n:Nat,DefOk P w K mg base (n+1) "_law_alike" ["_law_found","_law_due"] (ZCJ n)
 | 0=>L.of fun _ _ _=>ZGg fun vs H Q E h=>by obtain ⟨v,u,t,r,_,_,_,_,h1,_⟩:=h;omega
 | n+1=>L.of fun _ _ F=>ZKD F T (ZFK T L n)
end
mutual
def KT.rk:KT->KT
 | .int i=>.tup [.int 0,.int i,.str "",.tup []]
 | .str x=>.tup [.int 1,.int 0,.str x,.tup []]
 | .tup l=>.tup [.int 2,.int 0,.str "",.tup (rkL l)]
def rkL:List KT->List KT
 | []=>[]
 | t :: l=>t.rk :: rkL l
end
theorem ZIo:∀ l:List KT,rkL l=l.map KT.rk
 | []=>by rw [rkL];rfl
 | t :: l=>by rw [rkL,ZIo l];rfl
mutual
theorem ZK5:∀ a b:KT,a.rk.eqb b.rk=a.eqb b
 | .int i,.int j=>by simp [KT.rk,KT.eqb,eqbL]
 | .str x,.str y=>by simp [KT.rk,KT.eqb,eqbL]
 | .tup l,.tup m=>by simp [KT.rk,KT.eqb,eqbL,eqbL_rk l m]
 | .int _,.str _=>by simp [KT.rk,KT.eqb,eqbL]
 | .int _,.tup _=>by simp [KT.rk,KT.eqb,eqbL]
 | .str _,.int _=>by simp [KT.rk,KT.eqb,eqbL]
 | .str _,.tup _=>by simp [KT.rk,KT.eqb,eqbL]
 | .tup _,.int _=>by simp [KT.rk,KT.eqb,eqbL]
 | .tup _,.str _=>by simp [KT.rk,KT.eqb,eqbL]
theorem eqbL_rk:∀ l m:List KT,eqbL (rkL l) (rkL m)=eqbL l m
 | [],[]=>by simp [rkL,eqbL]
 | a :: l,b :: m=>by simp [rkL,eqbL,ZK5 a b,eqbL_rk l m]
 | [],_ :: _=>by simp [rkL,eqbL]
 | _ :: _,[]=>by simp [rkL,eqbL]
end
mutual
theorem ZLG:∀ a b:KT,a.rk.cmp b.rk=true
 | .int i,.int j=>by simp [KT.rk,KT.eqb,KT.cmp,cmpL,eqbL]
 | .str x,.str y=>by simp [KT.rk,KT.eqb,KT.cmp,cmpL,eqbL]
 | .tup l,.tup m=>by simp [KT.rk,KT.eqb,KT.cmp,cmpL,cmpL_rk l m]
 | .int _,.str _=>by simp [KT.rk,KT.eqb,KT.cmp,cmpL]
 | .int _,.tup _=>by simp [KT.rk,KT.eqb,KT.cmp,cmpL]
 | .str _,.int _=>by simp [KT.rk,KT.eqb,KT.cmp,cmpL]
 | .str _,.tup _=>by simp [KT.rk,KT.eqb,KT.cmp,cmpL]
 | .tup _,.int _=>by simp [KT.rk,KT.eqb,KT.cmp,cmpL]
 | .tup _,.str _=>by simp [KT.rk,KT.eqb,KT.cmp,cmpL]
theorem cmpL_rk:∀ l m:List KT,cmpL (rkL l) (rkL m)=true
 | [],_=>by simp [rkL,cmpL]
 | _ :: _,[]=>by simp [rkL,cmpL]
 | a :: l,b :: m=>by
  rw [rkL,rkL,cmpL,cmpL_rk l m,ZLG a b]
  split <;> rfl
end
mutual
theorem ZLK:∀ a b:KT,a.rk.plt b.rk=a.lt b
 | .int i,.int j=>by
  simp only [KT.rk,KT.eqb,KT.plt,pltL,eqbL,KT.lt,beq_self_eq_true,if_true]
  by_cases h:i=j
  ·subst h;simp
  ·simp [h]
 | .str x,.str y=>by
  simp only [KT.rk,KT.eqb,KT.plt,pltL,eqbL,KT.lt,beq_self_eq_true,if_true]
  by_cases h:x=y
  ·subst h;simp
  ·simp [h]
 | .tup l,.tup m=>by
  simp only [KT.rk,KT.eqb,KT.plt,pltL,KT.lt,beq_self_eq_true,if_true,eqbL_rk,pltL_rk l m]
  cases h:eqbL l m with
  | true=>rw [if_pos rfl,ZI5 h]
  | false=>rw [if_neg Bool.false_ne_true]
 | .int _,.str _=>by simp [KT.rk,KT.eqb,KT.plt,pltL,KT.lt]
 | .int _,.tup _=>by simp [KT.rk,KT.eqb,KT.plt,pltL,KT.lt]
 | .str _,.int _=>by simp [KT.rk,KT.eqb,KT.plt,pltL,KT.lt]
 | .str _,.tup _=>by simp [KT.rk,KT.eqb,KT.plt,pltL,KT.lt]
 | .tup _,.int _=>by simp [KT.rk,KT.eqb,KT.plt,pltL,KT.lt]
 | .tup _,.str _=>by simp [KT.rk,KT.eqb,KT.plt,pltL,KT.lt]
theorem pltL_rk:∀ l m:List KT,pltL (rkL l) (rkL m)=ltL l m
 | [],[]=>by simp [rkL,pltL,ltL]
 | [],_ :: _=>by simp [rkL,pltL,ltL]
 | _ :: _,[]=>by simp [rkL,pltL,ltL]
 | a :: l,b :: m=>by rw [rkL,rkL,pltL,ltL,ZK5 a b,pltL_rk l m,ZLK a b]
end
mutual
theorem ZG8:∀ t:KT,t.rk.depth<=2 * t.depth+2
 | .int i=>by simp [KT.rk,KT.depth,depthL]
 | .str x=>by simp [KT.rk,KT.depth,depthL]
 | .tup l=>by
  have:=depthL_rk l
  simp only [KT.rk,KT.depth,depthL]
  omega
theorem depthL_rk:∀ l:List KT,depthL (rkL l)<=2 * depthL l+2
 | []=>by simp [rkL,depthL]
 | t :: l=>by
  have a:=ZG8 t
  have b:=depthL_rk l
  rw [rkL,depthL,depthL]
  omega
end
section
variable {P:Program} {w:World} {K:PySem.W.Frag} {mg:Str->Option Value} {base:Heap} {f:Addr} {fd:FuncData}
def ZGm (n:Nat):Sp:=fun vs H Q _=>∃ (v:V) (t:KT) (q:Nat),vs=[v]∧KeyAt H t v∧t.fits q=true∧t.depth<n∧∀ (v':V) (H':Hp),KeyAt H' t.rk v'->Same H H'->Q v' H'
theorem ZNx:FnScope ["_law_key"] ["_law_key"] (ZAI ZJs):=⟨rfl,rfl,rfl,by decide +kernel,rfl,by decide +kernel,by decide +kernel⟩
theorem ZLi {n:Nat} (F:Fun K "_law_rank" "_law_rank" ZJs f fd) (T:Txt mg) (DS:DefOk P w K mg base (n+1) "_law_rank" ["_law_key"] (ZGm n)):FnOk P w K mg base CX0 (n+2) f fd ["_law_key"] (ZGm (n+1)):=by
 refine F.ok ZNx (fun vs H Q E h=>(by obtain ⟨_,_,_,rfl,_⟩:=h;rfl)) (fun cdv A outer s H vs Q E hr h=>?_)
 obtain ⟨v,t,q,rfl,hv,hq,hn,k⟩:=h
 refine ⟨_,ZAD (ZAf (ZAg (ZAK ZAY rfl T.isi ZAM (ZAN (pv 0) (ZAN (ZAi (v:=.ty "int") rfl T.int ZCN rfl) ZAC)))) (ZAH (ZAQ (ZAk (pa4 ZAF (pv 0) ZAl (ZAk ZAC))))) ZAR)
  (ZAD (ZAf (ZAg (ZAK ZAY rfl T.isi ZAM (ZAN (pv 0) (ZAN (ZAi (v:=.ty "str") rfl T.str ZE3 rfl) ZAC)))) (ZAH (ZAQ (ZAk (pa4 ZAF ZAF (pv 0) (ZAk ZAC))))) ZAR)
  (ZAH (ZAQ (ZAk (pa4 ZAF ZAF ZAl (ZAm ZA4 rfl T.tuple ZBO (ZAN (ZBk [] [] rfl (ZHu (pv 0)) (fun _ _ _ _ _=>ZBM) (fun _ _ _ _ _=>ZAT DS hr (ZAN (pv 0) ZAC)) trivial) ZAC))))))),?_⟩
 cases t with
 | int i=>
  have ev:v=.int i:=by rw [KeyAt] at hv;exact hv
  subst ev
  refine ⟨_,rfl,_,_,_,_,rfl,hv.ty,ZDE,_,rfl,ZBb ?_⟩
  refine ⟨_,rfl,(by show 0<=sizeLine;decide),fun p0 h0=>⟨(by show 4<=sizeLine;decide),fun p hp=>?_⟩⟩
  have g0:=ZAE h0 (.tup [])
  have g1:=ZAE hp (.tup [.int 0,.int i,.str "",.ref p0])
  refine k _ _ ?_ (g0.trans g1)
  rw [KT.rk]
  exact .tup ZAA (.cons (.int 0) (.cons (.int i) (.cons (.str _) (.cons (.tup (g1 _ _ ZAA) .nil) .nil))))
 | str x=>
  have ev:v=.str x:=by rw [KeyAt] at hv;exact hv
  subst ev
  refine ⟨_,rfl,_,_,_,_,rfl,hv.ty,ZHw,_,rfl,ZAz ?_⟩
  refine ⟨_,rfl,_,_,_,_,rfl,hv.ty,ZFc,_,rfl,ZBb ?_⟩
  refine ⟨_,rfl,(by show 0<=sizeLine;decide),fun p0 h0=>⟨(by show 4<=sizeLine;decide),fun p hp=>?_⟩⟩
  have g0:=ZAE h0 (.tup [])
  have g1:=ZAE hp (.tup [.int 1,.int 0,.str x,.ref p0])
  refine k _ _ ?_ (g0.trans g1)
  rw [KT.rk]
  exact .tup ZAA (.cons (.int 1) (.cons (.int 0) (.cons (.str x) (.cons (.tup (g1 _ _ ZAA) .nil) .nil))))
 | tup l=>
  have hv':=hv
  rw [KeyAt] at hv'
  obtain ⟨a,vs,rfl,ea,hvs⟩:=hv'
  have hl:=hvs.length
  rw [KT.fits,Bool.and_eq_true,Bool.and_eq_true] at hq
  obtain ⟨hq0,hq1,hq2⟩:=hq
  have hl4:l.length<=4:=of_decide_eq_true hq1
  rw [KT.depth] at hn
  refine ⟨_,rfl,_,_,_,_,rfl,hv.ty,ZH4,_,rfl,ZAz ?_⟩
  refine ⟨_,rfl,_,_,_,_,rfl,hv.ty,ZIS,_,rfl,ZAz ?_⟩
  refine ⟨_,rfl,a,rfl,⟨vs,SqT.of ea⟩,?_⟩
  refine ZA3 (n:=vs.length) (fun i z=>vs[i]? = some z) (fun D i ys H3=>Same H H3∧H D=none∧KeysAt H3 ((l.take i).map KT.rk) ys) (ZAO (by omega))
   (fun D i ys H3 hi hP=>⟨vs,vs[i],SqT.of (hP.1 _ _ ea),by simp [hi]⟩) (fun D i ys H3 z H4 hi hP hy=>⟨hy.1,hy.2 vs (SqT.of (hP.1 _ _ ea))⟩) (fun D ys H3 hP=>⟨vs,SqT.of (hP.1 _ _ ea),Nat.le_refl _⟩)
   (fun D hD=>⟨ZAE hD _,hD,.nil⟩) (fun D i ys H3 z eD hl' hi hz hP R hR=>?_) (fun D ys H3 eD hP=>?_)
  ·obtain ⟨s3,nD,hys⟩:=hP
   obtain ⟨t,et,kt⟩:=hvs.get hz
   have mt:=List.mem_of_getElem? et
   have htq:t.fits (q - 1)=true:=by
    rw [ZB1] at hq2
    exact List.all_eq_true.mp hq2 t mt
   have hdt:=ZB6 mt
   refine ⟨_,rfl,z,t,q - 1,rfl,kt.mono (Same.tups s3) _ _,htq,by omega,fun v' H4 k4 s4=>?_⟩
   have eD4:=s4 D _ eD
   have tD:ZBn H4 (upd H4 D (.lst (ys++[v']))):=(SameX.refl D H4).upd.tups eD4
   refine hR v' H4 eD4 ⟨fun b o e=>by rw [ZAG (ZAB e nD)];exact s4 b o (s3 b o e),nD,?_⟩
   rw [List.take_add_one,et,List.map_append]
   exact ((hys.mono (Same.tups s4) _ _).append (.cons k4 .nil)).mono tD _ _
  ·obtain ⟨s3,nD,hys⟩:=hP
   have et:l.take vs.length=l:=List.take_of_length_le (by omega)
   rw [et] at hys
   have hyl:=hys.length
   rw [List.length_map] at hyl
   refine ⟨D,ys,rfl,.inl ⟨SqL.of eD,fun p1 hp1=>?_⟩⟩
   have g1:=ZAE hp1 (.tup ys)
   refine ⟨(by show 4<=sizeLine;decide),fun p2 hp2=>?_⟩
   have g2:=ZAE hp2 (.tup [.int 2,.int 0,.str "",.ref p1])
   refine k _ _ ?_ ((s3.trans g1).trans g2)
   rw [KT.rk,ZIo]
   exact .tup ZAA (.cons (.int 2) (.cons (.int 0) (.cons (.str _) (.cons (.tup (g2 _ _ ZAA) (hys.mono (Same.tups (g1.trans g2)) _ _)) .nil))))
theorem ZGq (T:Txt mg) (L:Laid K mg "_law_rank" ZJs ["_law_key"]):∀ n:Nat,DefOk P w K mg base (n+1) "_law_rank" ["_law_key"] (ZGm n)
 | 0=>L.of fun _ _ _=>ZGg fun vs H Q E h=>by obtain ⟨v,t,q,_,_,_,h1,_⟩:=h;omega
 | n+1=>L.of fun _ _ F=>ZLi F T (ZGq T L n)
theorem ZNt:FnScope ["_law_one","_law_other"] ["_law_one","_law_other"] (ZAI ZMV):=⟨rfl,rfl,rfl,by decide +kernel,rfl,by decide +kernel,by decide +kernel⟩
theorem ZMi (F:Fun K "_law_less" "_law_less" ZMV f fd) (DS:DefOk P w K mg base 6 "_law_rank" ["_law_key"] (ZGm 5)):FnOk P w K mg base CX0 7 f fd ["_law_one","_law_other"] ZCH:=by
 refine F.ok ZNt (fun vs H Q E h=>(by obtain ⟨_,_,_,_,rfl,_⟩:=h;rfl)) (fun cdv A outer s H vs Q E hr h=>?_)
 obtain ⟨v,u,a,b,rfl,ha,hb,fa,fb,k⟩:=h
 refine ⟨_,ZAH (ZAQ (ZBB (ZK3 hr) (ZAT DS hr (ZAN (pv 0) ZAC)) (ZAT DS hr (ZAN (pv 1) ZAC)) (ZAW _))),?_⟩
 have da:=ZBD a 3 fa
 have db:=ZBD b 3 fb
 have ds:=ZG8 a
 refine ⟨_,rfl,v,a,3,rfl,ha,fa,by omega,fun v1 H1 k1 s1=>?_⟩
 refine ⟨_,rfl,u,b,3,rfl,hb.mono (Same.tups s1) _ _,fb,by omega,fun v2 H2 k2 s2=>?_⟩
 refine ⟨a.rk,b.rk,k1.mono (Same.tups s2) _ _,k2,ZLG a b,by omega,?_⟩
 rw [ZLK]
 exact k H2 (s1.trans s2)
end
end Tw
namespace L2
open PySem PySem.Spec PyProof.Rows
section
variable {X:Cx}
theorem ZNX (hc:X.calm=true):ZBt X (.builtin "sum") (fun xs H Q=>∃ (p:Addr) (ns:List Int),xs=[.ref p]∧SqL X.K H p (ns.map V.int)∧Q (.int ns.sum) H):=by
 intro pins s σ H xs us Q I r h
 obtain ⟨p,ns,rfl,hq,q⟩:=h
 obtain ⟨u,rfl,ru⟩:=ZB8 r
 cases ru
 obtain ⟨its,rv,pl,hz⟩:=I.list hq
 have hi:=ZCo rv
 obtain ⟨ys,e⟩:=hi.allInts.items
 have hl:=pl.isList
 rw [e] at hl
 have en:ys.toList.map (·.1)=ns:=by
  rw [<-nums_intItems,<-e]
  exact hi.numsOf
 refine sum_intListG (I.ok.hd hc) hl fun h' tk t' hk=>⟨.int ns.sum,H,I.kept (t':=tk) hk,⟨t',?_⟩,q⟩
 rw [preSum_eq,List.take_of_length_le (by simp),en]
end
end L2
namespace Tw
open PySem PySem.Spec L2 PyProof.Rows
theorem ZNf:bootBuiltins "sum" = some (.builtin "sum"):=by decide +kernel
structure Lab where
 h:Int
 lo:KT
 hi:KT
 m:Int
def Lab.d:Lab:=⟨0,.int 0,.int 0,0⟩
def Lab.kt (L:Lab):KT:=.tup [.int L.h,L.lo,L.hi,.int L.m]
def LabAt (H:Hp) (L:Lab) (u:V):Prop:=∃ a vlo vhi,u=.ref a∧H a=some (.tup [.int L.h,vlo,vhi,.int L.m])∧KeyAt H L.lo vlo∧KeyAt H L.hi vhi
theorem LabAt.mono {H H':Hp} {L:Lab} {u:V} (x:LabAt H L u) (m:ZBn H H'):LabAt H' L u:=by
 obtain ⟨a,vlo,vhi,e,e1,k1,k2⟩:=x
 exact ⟨a,vlo,vhi,e,m _ _ e1,k1.mono m _ _,k2.mono m _ _⟩
theorem LabAt.key {H:Hp} {L:Lab} {u:V} (x:LabAt H L u):KeyAt H L.kt u:=by
 obtain ⟨a,vlo,vhi,rfl,e1,k1,k2⟩:=x
 exact .tup e1 (.cons (.int _) (.cons k1 (.cons k2 (.cons (.int _) .nil))))
def LabsAt (H:Hp) (ls:List Lab) (us:List V):Prop:=us.length=ls.length∧∀ i u,us[i]? = some u->LabAt H (ls.getD i .d) u
theorem LabsAt.mono {H H':Hp} {ls:List Lab} {us:List V} (x:LabsAt H ls us) (m:ZBn H H'):LabsAt H' ls us:=⟨x.1,fun i u e=>(x.2 i u e).mono m⟩
def Lab.fit (L:Lab):Prop:=L.lo.fits 3=true∧L.hi.fits 3=true
def okP (a b:Lab):Bool:=(a.h==b.h)&&a.hi.lt b.lo
def chk (ls:List Lab):Bool:=(List.range (ls.length - 1)).all fun j=>okP (ls.getD j .d) (ls.getD (j+1) .d)
def over (ls:List Lab):Option Lab:=if 2<=ls.length∧ls.length<=4∧chk ls=true then some ⟨(ls.getD 0 .d).h+1,(ls.getD 0 .d).lo,(ls.getD (ls.length - 1) .d).hi,(ls.map Lab.m).sum⟩ else none
theorem ZD3 {ls:List Lab} (h:¬ (2<=ls.length∧ls.length<=4)):over ls=none:=if_neg fun z=>h ⟨z.1,z.2.1⟩
theorem ZLs {ls:List Lab} {i:Nat} (hi:i+1<ls.length) (h:okP (ls.getD i .d) (ls.getD (i+1) .d)=false):over ls=none:=if_neg fun z=>by
 have:=List.all_eq_true.mp z.2.2 i (List.mem_range.mpr (by omega))
 rw [h] at this
 cases this
theorem ZKA {ls:List Lab} (h2:2<=ls.length) (h4:ls.length<=4) (h:∀ j,j<ls.length - 1->okP (ls.getD j .d) (ls.getD (j+1) .d)=true):over ls=some ⟨(ls.getD 0 .d).h+1,(ls.getD 0 .d).lo,(ls.getD (ls.length - 1) .d).hi,(ls.map Lab.m).sum⟩:=
 if_pos ⟨h2,h4,List.all_eq_true.mpr fun j hj=>h j (List.mem_range.mp hj)⟩
section
variable {P:Program} {w:World} {K:PySem.W.Frag} {mg:Str->Option Value} {base:Heap} {f:Addr} {fd:FuncData}
def ZIg:Sp:=fun vs H Q _=>∃ (v u:V) (a b:Lab),vs=[v,u]∧LabAt H a v∧LabAt H b u∧a.fit∧b.fit∧∀ H',Same H H'->Q (.bl (okP a b)) H'
theorem ZM5:FnScope ["label","following"] ["label","following"] (ZAI ZLt):=⟨rfl,rfl,rfl,by decide +kernel,rfl,by decide +kernel,by decide +kernel⟩
theorem ZLV (F:Fun K "stand_side_by_side" "stand_side_by_side" ZLt f fd) (T:Txt mg) (DA:DefOk P w K mg base 7 "ahead" ["one","other"] ZCH):FnOk P w K mg base CX0 8 f fd ["label","following"] ZIg:=by
 refine F.ok ZM5 (fun vs H Q E h=>(by obtain ⟨_,_,_,_,rfl,_⟩:=h;rfl)) (fun cdv A outer s H vs Q E hr h=>?_)
 obtain ⟨v,u,a,b,rfl,ha,hb,fa,fb,k⟩:=h
 obtain ⟨t0,m0⟩:=T.height
 obtain ⟨t1,m1⟩:=T.least
 obtain ⟨t2,m2⟩:=T.greatest
 obtain ⟨pa,alo,ahi,rfl,ea,ka1,ka2⟩:=ha
 obtain ⟨pb,blo,bhi,rfl,eb,kb1,kb2⟩:=hb
 refine ⟨_,ZAH (ZAQ (ZCB (ZBB ZCA (ZAV (r:=rIx K) ZAP (pv 0) (ZAr (v:=.int 0) rfl m0 ⟨_,rfl⟩) (fun _ _=>rfl)) (ZAV (r:=rIx K) ZAP (pv 1) (ZAr (v:=.int 0) rfl m0 ⟨_,rfl⟩) (fun _ _=>rfl)) (ZAW _))
  (ZDI (ZAT DA hr (ZAN (ZAV (r:=rIx K) ZAP (pv 0) (ZAr (v:=.int 2) rfl m2 ⟨_,rfl⟩) (fun _ _=>rfl)) (ZAN (ZAV (r:=rIx K) ZAP (pv 1) (ZAr (v:=.int 1) rfl m1 ⟨_,rfl⟩) (fun _ _=>rfl)) ZAC)))))),?_⟩
 refine ⟨_,rfl,.inr (.inl ⟨pa,_,_,.int a.h,rfl,rfl,SqT.of ea,rfl,?_⟩)⟩
 refine ⟨_,rfl,.inr (.inl ⟨pb,_,_,.int b.h,rfl,rfl,SqT.of eb,rfl,rfl,_,rfl,?_⟩)⟩
 by_cases hh:a.h=b.h
 ·rw [decide_eq_true (by rw [hh])]
  refine ZBb ?_
  refine ⟨_,rfl,.inr (.inl ⟨pa,_,_,ahi,rfl,rfl,SqT.of ea,rfl,?_⟩)⟩
  refine ⟨_,rfl,.inr (.inl ⟨pb,_,_,blo,rfl,rfl,SqT.of eb,rfl,ahi,blo,a.hi,b.lo,rfl,ka2,kb1,fa.2,fb.1,fun H' s'=>?_⟩)⟩
  have e:a.hi.lt b.lo=okP a b:=by unfold okP;rw [hh,beq_self_eq_true,Bool.true_and]
  rw [e]
  exact k H' s'
 ·rw [decide_eq_false (fun z=>hh (ZKP z))]
  refine ZAz ?_
  have e:false=okP a b:=by unfold okP;rw [beq_eq_false_iff_ne.mpr hh,Bool.false_and]
  rw [e]
  exact k H (Same.refl H)
end
abbrev bmV:List Value:=[.type "ValueError",.type "Exception",.type "BaseException",.type "object"]
theorem ZEB:bootBuiltins "ValueError" = some (.type "ValueError"):=by decide +kernel
section
variable {P:Program} {w:World} {K:PySem.W.Frag} {mg:Str->Option Value} {base:Heap} {f:Addr} {fd:FuncData} {CB CS CK CL CH CT:Addr}
def ZHt (CS:Addr):Sp:=fun vs H Q E=>∃ (l:Addr) (us:List V) (ls:List Lab),vs=[.ref l]∧H l=some (.lst us)∧LabsAt H ls us∧(∀ i,(ls.getD i .d).fit)∧us.length<=100∧∀ H',Same H H' ->
 (over ls=none->E (.ref CS) none H')∧∀ L v,over ls=some L->KeyAt H' L.kt v->Q v H'
abbrev ZOQ:List Str:=["labels","at","many"]
theorem scOver:FnScope ZOQ ["labels"] (ZAI ZD8):=⟨rfl,rfl,rfl,by decide +kernel,rfl,by decide +kernel,by decide +kernel⟩
end
end Tw
namespace L2
open PySem PySem.Spec PyProof.Rows
theorem ZC4:fillsNumberSlot (.type "tuple") "mul" = pure false:=
 PySem.fillsNumberSlot_seq (id:= "tuple.__mul__") (r:=some (.builtin "tuple.__rmul__")) PySem.F.slot_tuple_mul.lookup (by decide +kernel) PySem.F.slot_tuple_rmul.lookup (by decide +kernel)
theorem ZFM:seqRepeat? (.type "tuple")=pure (some (.builtin "tuple.__mul__")):=by
 unfold seqRepeat?
 rw [PySem.seqSlot_of (T:= "tuple") (name:= "__mul__") (id:= "tuple.__mul__") PySem.F.slot_tuple_mul.lookup (by decide +kernel),PySem.seqSlot_of (T:= "tuple") (name:= "__rmul__") (id:= "tuple.__rmul__") PySem.F.slot_tuple_rmul.lookup (by decide +kernel)]
 rfl
theorem ZKT (a:Int) (t:Tok) (l:Addr) (items:Array Value) (n:Nat) (dd:Option Addr) (sl:Array (Option Value)) :
  Meets (Builtin.«int.__rmul__» ⟨[.int a t,.ref l],[]⟩) (fun _ R s=>s.heap.get? l=some { cls:=.type "tuple",dict:=dd,data:=.seq items n,slots:=sl }∧R (.ok (.ret Value.notImplemented)) s):=
 .of_wp fun prog w A R s h=>by obtain ⟨hp,g,d,tk,os⟩:=s;obtain ⟨hl,h⟩:=h;wp_walk;exact ⟨_,rfl,h⟩
theorem ZOV (u:Tok) (l:Addr) (items:Array Value) (n:Nat) (dd:Option Addr) (sl:Array (Option Value)) :
  Meets (Builtin.«tuple.__mul__» ⟨[.ref l,.int 1 u],[]⟩) (fun _ R s=>s.heap.get? l=some { cls:=.type "tuple",dict:=dd,data:=.seq items n,slots:=sl }∧R (.ok (.ret (.ref l))) s):=
 .of_wp fun prog w A R s h=>by
  obtain ⟨hp,g,d,tk,os⟩:=s;obtain ⟨hl,h⟩:=h
  unfold Builtin.«tuple.__mul__»
  wp_walk
  exact ⟨_,rfl,h⟩
theorem ZOR (u:Tok) (l:Addr) (x:Value) (n:Nat) (dd:Option Addr) (sl:Array (Option Value)) :
  Meets (Builtin.«tuple.__mul__» ⟨[.ref l,.int 0 u],[]⟩) (fun _ R s=>s.heap.get? l=some { cls:=.type "tuple",dict:=dd,data:=.seq #[x] n,slots:=sl }∧R (.ok (.ret (.ref s.heap.objs.size))) { s with heap:=s.heap.push { cls:=.type "tuple",data:=.seq #[] } }):=
 .of_wp fun prog w A R s h=>by
  obtain ⟨hp,g,d,tk,os⟩:=s;obtain ⟨hl,h⟩:=h
  unfold Builtin.«tuple.__mul__»
  wp_walk
  exact ⟨_,rfl,h⟩
section
variable {X:Cx}
def ZOE (K:PySem.W.Frag):R2:=fun x y H Q=>∃ (a:Addr) (v:V) (n:Int),x=.ref a∧y=.int n∧SqT K H a [v]∧(n=1∧Q (.ref a) H∨n=0∧∀ p,H p=none->Q (.ref p) (upd H p (.tup [])))
theorem ZLQ:OpR X (binaryOp .Mult) (ZOE X.K):=by
 intro pins s σ H x y v u Q I rx ry h
 obtain ⟨a,z,n,rfl,rfl,ha,hc⟩:=h
 cases rx
 obtain ⟨t,rfl⟩:=ry
 obtain ⟨its,r1,p1,_⟩:=I.tuple ha
 obtain ⟨w',rfl,_⟩:=ZB8 r1
 obtain ⟨⟨cls,dd,data,sl⟩,ho,hcl,m,hd⟩:=id p1
 simp only at hcl hd
 subst hcl hd
 refine wpAny_binaryOp_repeat_ref (T:= "tuple") (U:= "int") (by decide) ⟨_,ho,rfl⟩ (fun s'=>typeIs_int s' n t) ZC4 PySem.F.fills_int_mul PySem.F.slot_int_rmul ZFM PySem.F.slot_int_index.lookup
  (call_meets PySem.F.slot_int_rmul (typeIs_int s n t) PySem.F.entry_int_rmul (PySem.F.args_int_rmul_2 _ _) (ZKT n t a _ m dd sl) ⟨ho,rfl,⟨_,ho,rfl⟩,?_⟩)
 rcases hc with ⟨rfl,q⟩ | ⟨rfl,q⟩
 ·exact call_meets PySem.F.slot_tuple_mul ⟨_,ho,rfl⟩ PySem.F.entry_tuple_mul (PySem.F.args_tuple_mul_2 _ _) (ZOV t a _ m dd sl) ⟨ho,⟨.ref a,H,I,rfl,q⟩⟩
 ·refine call_meets PySem.F.slot_tuple_mul ⟨_,ho,rfl⟩ PySem.F.entry_tuple_mul (PySem.F.args_tuple_mul_2 _ _) (ZOR t a _ m dd sl) ⟨ho,?_⟩
  have I1:=I.laid (a:=s.heap.objs.size) (o:=.tup []) (h':=s.heap.push { cls:=.type "tuple",data:=.seq #[] }) (t':=s.toks) (fun b u q=>Heap.get?_push_of_some _ q) (Nat.le_refl _)
   ⟨Nat.zero_le _,[],.nil,_,Heap.get?_push_size _ rfl,rfl,0,rfl⟩
  exact ⟨.ref s.heap.objs.size,_,I1,rfl,q _ (I.hok.fresh (Nat.le_refl _))⟩
theorem ZJr:OpR X (binaryOp .Mult) (fun x y H Q=>∃ i n,x=.str i∧y=.int n∧i.length=1∧(n=1∧Q (.str i) H∨n=0∧Q (.str "") H)):=by
 intro pins s σ H x y v u Q I rx ry h
 obtain ⟨i,n,rfl,rfl,hi,hc⟩:=h
 obtain ⟨t,rfl⟩:=rx
 obtain ⟨t',rfl⟩:=ry
 rcases hc with ⟨rfl,q⟩ | ⟨rfl,q⟩
 ·refine PySem.P.mul_str ?_ (fun _ _=>?_) (fun _ _=>?_) ?_
  ·decide
  ·rw [hi];decide
  ·rw [hi];decide
  ·rw [if_neg (by decide),if_pos (by simp)]
   exact ⟨.str i,H,I,⟨t,rfl⟩,q⟩
 ·refine PySem.P.mul_str ?_ (fun z _=>?_) (fun z _=>?_) ?_
  ·decide
  ·first | exact absurd z (by decide) | (rw [hi];decide)
  ·first | exact absurd z (by decide) | (rw [hi];decide)
  ·rw [if_pos (by decide)]
   exact ⟨Nat.zero_le _,⟨.str "",H,I.tok _,⟨_,rfl⟩,q⟩⟩
end
end L2
namespace Tw
open PySem PySem.Spec L2
def gridS:Str:= "!#$&()*+,-./0123456789:;<=>?@ABCDEFGHIJKLMNOPQRSTUVWXYZ"
theorem ZEC:gridS.cps.toList.length=55:=by decide +kernel
theorem ZLX:gridS.cps.toList.all ZBw=true:=by decide +kernel
theorem ZH9 {i:Int} (h0:0<=i) (h1:i<55):∃ c,atI gridS.cps.toList i=some c∧ZBw c=true:=by
 obtain ⟨c,e,m⟩:=ZGt (xs:=gridS.cps.toList) h0 (by rw [ZEC];exact h1)
 exact ⟨c,e,List.all_eq_true.mp ZLX c m⟩
def TextN (x:Str) (i:Nat):Prop:=x.cps.size<=i∧x.cps.toList.all ZBw=true
theorem TextN.ok {x:Str} {i:Nat} (h:TextN x i) (hi:i<=40):ZDb x=true:=ZMu (Nat.le_trans h.1 hi) h.2
theorem TextN.cat {x y:Str} {i j:Nat} (h:TextN x i) (g:TextN y j):TextN (x++y) (i+j):=by
 have e:(x++y).cps=x.cps++y.cps:=rfl
 refine ⟨?_,?_⟩
 ·rw [e,Array.size_append];exact Nat.add_le_add h.1 g.1
 ·rw [e,Array.toList_append,List.all_append,h.2,g.2];rfl
theorem TextN.one {c:Nat} (h:ZBw c=true):TextN ⟨#[c]⟩ 1:=⟨Nat.le_refl _,by simp [h]⟩
theorem TextN.k:TextN "k" 1:=by unfold TextN;decide +kernel
theorem TextN.a:TextN "a" 1:=by unfold TextN;decide +kernel
theorem TextN.e:TextN "" 0:=by unfold TextN;decide +kernel
theorem ZCi {n:Int} (h:n.natAbs<10 ^ 60) (r:Nat):(KT.int n).fits r=true:=by rw [KT.fits];exact decide_eq_true h
theorem ZEa {x:Str} {i:Nat} (h:TextN x i) (hi:i<=40) (r:Nat):(KT.str x).fits r=true:=by rw [KT.fits];exact h.ok hi
theorem ZLr {n:Int} (h:n.natAbs<10 ^ 60):(KT.tup [.str "",.int n]).fits 3=true:=ZJA (Nat.le_of_ble_eq_true rfl) (by
 rw [fitsL,fitsL,fitsL,ZCi h 2,ZEa TextN.e (by decide) 2];rfl)
theorem ZJe {n:Int} (h:n.natAbs<10 ^ 60):(KT.tup [.str "",.int n,.int 0]).fits 3=true:=ZJA (Nat.le_of_ble_eq_true rfl) (by
 rw [fitsL,fitsL,fitsL,fitsL,ZCi h 2,ZEa TextN.e (by decide) 2,ZCi (n:=0) (by decide) 2];rfl)
theorem ZC2 {n:Int} (h0 : -10000<=n) (h1:n<=10000):n.natAbs<10 ^ 60:=Nat.lt_of_le_of_lt (show n.natAbs<=10000 by omega) (by decide)
theorem ZKW:gridS.cps.toList.Pairwise (· < ·):=by decide +kernel
theorem ZIM {i j:Int} {c d:Nat} (h0:0<=i) (h:i<j) (hj:j<55) (ei:atI gridS.cps.toList i=some c) (ej:atI gridS.cps.toList j=some d):c<d:=by
 obtain ⟨a,rfl⟩:∃ a:Nat,i=(a:Int):=⟨i.toNat,by omega⟩
 obtain ⟨b,rfl⟩:∃ b:Nat,j=(b:Int):=⟨j.toNat,by omega⟩
 have la:a<gridS.cps.toList.length:=by rw [ZEC];omega
 have lb:b<gridS.cps.toList.length:=by rw [ZEC];omega
 rw [ZAn (List.getElem?_eq_getElem la)] at ei
 rw [ZAn (List.getElem?_eq_getElem lb)] at ej
 cases ei
 cases ej
 exact List.pairwise_iff_getElem.mp ZKW a b la lb (by omega)
inductive GK:KT->Nat->Int->Prop
 | int (sz:Int):GK (.int (sz - 700)) 0 sz
 | str {x:Str} {sz:Int} {c1 c2:Nat} {tl:List Nat} (h:x.cps.toList=107 :: c1 :: c2 :: tl) (h1:atI gridS.cps.toList (sz / 50)=some c1) (h2:atI gridS.cps.toList (sz % 50)=some c2):GK (.str x) 1 sz
 | tup (sz:Int) (l:List KT):GK (.tup (.str "" :: .int sz :: l)) 2 sz
theorem ZN7 {a b:KT} {c d:Nat} {s r:Int} (ha:GK a c s) (hb:GK b d r) (hc:c<=d) (h:s<r) (h0:0<=s) (hr:r<=1280):a.lt b=true:=by
 cases ha with
 | int=>
  cases hb with
  | int=>rw [KT.lt];exact decide_eq_true (by omega)
  | str=>rw [KT.lt]
  | tup=>rw [KT.lt]
 | str e1 e2 e3=>
  cases hb with
  | int=>omega
  | str f1 f2 f3=>
   rw [KT.lt,e1,f1]
   refine decide_eq_true ?_
   refine List.Lex.cons ?_
   rcases (show s / 50<r / 50∨(s / 50=r / 50∧s % 50<r % 50) by omega) with z | ⟨z1,z2⟩
   ·exact List.Lex.rel (ZIM (by omega) z (by omega) e2 f2)
   ·rw [z1,f2] at e2
    cases e2
    exact List.Lex.cons (List.Lex.rel (ZIM (by omega) z2 (by omega) e3 f3))
  | tup=>rw [KT.lt]
 | tup=>
  cases hb with
  | int=>omega
  | str=>omega
  | tup=>
   rw [KT.lt,ltL,if_pos (by rw [KT.eqb];exact beq_self_eq_true _),ltL,if_neg (by rw [KT.eqb];simp;omega),KT.lt]
   exact decide_eq_true h
def cls (o tw:Int) (i:Nat):Nat:=if (i:Int)<o then 0 else if (i:Int)<o+tw then 1 else 2
theorem ZKf (o tw:Int) (i:Nat) (h:0<=tw):cls o tw i<=cls o tw (i+1):=by
 unfold cls
 split
 ·split <;> (try split) <;> omega
 ·split
  ·rw [if_neg (by omega)]
   split <;> omega
  ·rw [if_neg (by omega),if_neg (by omega)]
   exact Nat.le_refl _
def GI (o tw:Int) (i:Nat) (sz:Int) (ts:List KT):Prop:=ts.Pairwise (fun a b=>a.lt b=true)∧∀ t∈ts,∃ c s,GK t c s∧c<=cls o tw i∧0<=s∧s<=sz
theorem ZL5 {o tw:Int} {i:Nat} {sz sz':Int} {ts:List KT} {t:KT} (ht:0<=tw) (h:GI o tw i sz ts) (h1:sz<sz') (h2:sz'<=1280) (h0:0<=sz) (hg:GK t (cls o tw i) sz'):GI o tw (i+1) sz' (ts++[t]):=by
 refine ⟨?_,fun x hx=>?_⟩
 ·rw [List.pairwise_append]
  refine ⟨h.1,List.pairwise_singleton _ _,fun a ha b hb=>?_⟩
  rw [List.mem_singleton.mp hb]
  obtain ⟨c,s,g,hc,s0,s1⟩:=h.2 a ha
  exact ZN7 g hg hc (by omega) s0 h2
 ·have:=ZKf o tw i ht
  rcases List.mem_append.mp hx with hx | hx
  ·obtain ⟨c,s,g,hc,s0,s1⟩:=h.2 x hx
   exact ⟨c,s,g,by omega,s0,by omega⟩
  ·rw [List.mem_singleton.mp hx]
   exact ⟨_,sz',hg,this,by omega,Int.le_refl _⟩
section
variable {P:Program} {w:World} {K:PySem.W.Frag} {mg:Str->Option Value} {base:Heap} {f:Addr} {fd:FuncData}
def ZJc:Sp:=fun vs H Q _=>∃ p:Addr,vs=[.ref p]∧WellAt H p∧∀ (D:Addr) (us:List V) (ts:List KT) (H':Hp),SameX p H H'->WellAt H' p->H D=none->H' D=some (.lst us)->KeysAt H' ts us->(∀ t∈ts,t.fits 3=true)->us.length=64->ts.Pairwise (fun a b=>a.lt b=true)->Q (.ref D) H'
abbrev ZOA:List Str:=["_law_well_here","_law_signs","_law_found","_law_size","_law_one","_law_two","_law_j"]
theorem scGrid:FnScope ZOA ["_law_well_here"] (ZAI ZMZ):=⟨rfl,rfl,rfl,by decide +kernel,rfl,by decide +kernel,by decide +kernel⟩
theorem ZL8 (F:Fun K "_law_grid" "_law_grid" ZMZ f fd) (T:Txt mg) (DP:DefOk P w K mg base 1 "_law_pull" ["_law_well_here","_law_many"] ZCy):FnOk P w K mg base CX0 2 f fd ["_law_well_here"] ZJc:=by
 refine F.ok scGrid (fun vs H Q E h=>(by obtain ⟨_,rfl,_⟩:=h;rfl)) (fun cdv A outer s H vs Q E hr h=>?_)
 obtain ⟨p,rfl,W,k⟩:=h
 have nd:=scGrid.nd
 refine ⟨_,ZAD (ZAU (i:=1) nd rfl (Or.inl rfl) ZAl)
  (ZAD (ZAU (i:=2) nd rfl (Or.inl rfl) (ZAx ZAC))
  (ZAD (ZAU (i:=3) nd rfl (Or.inl rfl) ZAF)
  (ZAD (ZAU (i:=4) nd rfl (Or.inl rfl) (ZAT DP hr (ZAN (pv 0) (ZAN ZAF ZAC))))
  (ZAD (ZAU (i:=5) nd rfl (Or.inl rfl) (ZAb ZBE (pv 4) (ZAT DP hr (ZAN (pv 0) (ZAN (ZAb ZCV ZAF (pv 4)) ZAC)))))
  (ZAD (ZBe PassesOwn.never rfl (ZBm rfl T.range (ZAN ZAF ZAC)) (ZAZ (i:=6) nd rfl (Or.inl rfl))
   (ZAD (ZAU (i:=3) nd rfl (Or.inl rfl) (ZAb ZBE (ZAb ZBE (pv 3) ZAF) (ZAT DP hr (ZAN (pv 0) (ZAN ZAF ZAC)))))
   (ZAH (ZAf (ZAX ZHG (pv 6) (pv 4) (ZAW _))
    (ZAH (ZA2 (ZCX PySem.F.plainAttrs_list PySem.F.slot_list_append PySem.F.type_list_append ZAu (pv 2) (ZAN (ZAb ZCV (pv 3) ZAF) ZAC))))
    (ZAH (ZAf (ZAX ZHG (pv 6) (pv 5) (ZAW _))
     (ZAH (ZA2 (ZCX PySem.F.plainAttrs_list PySem.F.slot_list_append PySem.F.type_list_append ZAu (pv 2) (ZAN (ZAb ZCg (ZAb ZCg (ZAb ZCg ZAl (ZAV (r:=rIx K) ZAP (pv 1) (ZAb ZFo (pv 3) ZAF) (fun _ _=>rfl))) (ZAV (r:=rIx K) ZAP (pv 1) (ZAb ZBy (pv 3) ZAF) (fun _ _=>rfl))) (ZAb ZJr ZAl (ZAb ZBy (pv 6) ZAF))) ZAC))))
     (ZAH (ZA2 (ZCX PySem.F.plainAttrs_list PySem.F.slot_list_append PySem.F.type_list_append ZAu (pv 2) (ZAN (ZAb ZMl (ZAk (ZAN ZAl (ZAN (pv 3) ZAC))) (ZAb ZLQ (ZAk (ZAN ZAF ZAC)) (ZAb ZBy (pv 6) ZAF))) ZAC))))))))))
  (ZAH (ZAQ (pv 2)))))))),?_⟩
 refine ⟨(by show 0<=sizeLine;decide),fun D nD=>?_⟩
 have g0:=ZAE nD (.lst [])
 have W0:=W.same g0
 have hDp:D≠p:=by obtain ⟨xs,e⟩:=W.some;exact (ZAB e nD).symm
 refine ⟨_,rfl,p,65,rfl,W0,ZAw (by decide) (by decide),fun o H1 o0 o1 W1 s1=>?_⟩
 refine ⟨_,rfl,_,rfl,_,rfl,_,_,rfl,rfl,p,_,rfl,W1,ZAw (by omega) (Nat.lt_of_le_of_lt (show (65 - o).natAbs<=65 by omega) (by decide)),fun tw H2 tw0 tw1 W2 s2=>?_⟩
 refine ⟨_,_,rfl,rfl,?_⟩
 have eD2:H2 D=some (.lst []):=s2 D _ (s1 D _ ZAA hDp) hDp
 have sH2:SameX p H H2:=((SameX.of g0).trans s1).trans s2
 refine ⟨64,rfl,by decide,by decide,ZBW (n:=64) (fun i σ H3=>∃ (sz:Int) (x:Option V) (us:List V) (ts:List KT),σ=[some (.ref p),some (.str gridS),some (.ref D),some (.int sz),some (.int o),some (.int (o+tw)),x]∧0<=sz∧sz<=20 * i∧SameX p H H3∧WellAt H3 p∧H3 D=some (.lst us)∧KeysAt H3 ts us∧(∀ t∈ts,t.fits 3=true)∧us.length=i∧GI o tw i sz ts)
  ⟨0,none,[],[],rfl,by decide,by decide,sH2,W2,eD2,.nil,fun t ht=>absurd ht (by simp),rfl,.nil,fun t ht=>absurd ht (by simp)⟩ ?_ ?_⟩
 ·rintro i σ H3 hi ⟨sz,x,us,ts,rfl,z0,z1,s3,W3,eD3,kU,fU,lU,gU⟩
  refine ⟨_,rfl,_,_,rfl,rfl,_,rfl,p,20,rfl,W3,ZAw (by decide) (by decide),fun r H4 r0 r1 W4 s4=>⟨_,_,rfl,rfl,?_⟩⟩
  have s34:SameX p H H4:=s3.trans s4
  have eD4:=s4 D _ eD3 hDp
  have kU4:=kU.mono (s4.tupsW W3) _ _
  obtain ⟨sz',esz,z0',z1'⟩:∃ sz':Int,sz+1+r=sz'∧0<=sz'∧sz'<=20 * (i+1:Nat):=⟨_,rfl,by omega,by omega⟩
  have szlt:sz<sz':=by omega
  show ZEb 3 (V.int (sz+1+r)) _ _ _
  rw [esz]
  have app:∀ (v:V) (t:KT) (H5:Hp),Same H4 H5->KeyAt H5 t v->t.fits 3=true->GK t (cls o tw i) sz'->∃ (sz:Int) (x:Option V) (us':List V) (ts':List KT),[some (V.ref p),some (.str gridS),some (.ref D),some (.int sz'),some (.int o),some (.int (o+tw)),some (.int (0+(i:Int)))]=[some (.ref p),some (.str gridS),some (.ref D),some (.int sz),some (.int o),some (.int (o+tw)),x]∧0<=sz∧sz<=20 * (i+1:Nat)∧SameX p H (upd H5 D (.lst (us++[v])))∧WellAt (upd H5 D (.lst (us++[v]))) p∧upd H5 D (.lst (us++[v])) D=some (.lst us')∧KeysAt (upd H5 D (.lst (us++[v]))) ts' us'∧(∀ t∈ts',t.fits 3=true)∧us'.length=i+1∧GI o tw (i+1) sz ts':=fun v t H5 s5 kv fv hgk=>by
   have eD5:=s5 _ _ eD4
   have tD:ZBn H5 (upd H5 D (.lst (us++[v]))):=(SameX.refl D H5).upd.tups eD5
   refine ⟨sz',_,us++[v],ts++[t],rfl,z0',z1',fun b u e n=>?_,?_,ZAA,((kU4.mono (Same.tups s5) _ _).append (.cons kv .nil)).mono tD _ _,fun z hz=>?_,by simp [lU],ZL5 tw0 gU szlt (by omega) z0 hgk⟩
   ·rw [ZAG (ZAB e nD)]
    exact s5 b u (s34 b u e n)
   ·obtain ⟨a1,b1,c1,d1,hw,rr⟩:=(W4.same s5).ex
    exact ⟨a1,b1,c1,d1,by rw [ZAG (Ne.symm hDp)];exact hw,rr⟩
   ·rcases List.mem_append.mp hz with h | h
    ·exact fU z h
    ·rw [List.mem_singleton.mp h];exact fv
  have bnd:sz'.natAbs<10 ^ 60:=ZC2 (by omega) (by omega)
  have bnd7:(sz' - 700).natAbs<10 ^ 60:=ZC2 (by omega) (by omega)
  refine ⟨_,rfl,_,rfl,_,_,rfl,rfl,_,rfl,?_⟩
  refine ZFO (fun c=>?_) (fun c=>?_)
  ·refine ⟨_,rfl,.inl ⟨rfl,_,SqL.of eD4⟩,_,rfl,_,_,rfl,rfl,D,us,_,rfl,rfl,eD4,ZAO (by omega),?_⟩
   exact app _ (.int (sz' - 700)) H4 (Same.refl _) (.int _) (ZCi bnd7 3) (by rw [show cls o tw i=0 from if_pos (by have:=of_decide_eq_true c;omega)];exact .int _)
  refine ⟨_,rfl,_,rfl,_,_,rfl,rfl,_,rfl,?_⟩
  refine ZFO (fun c2=>?_) (fun c2=>?_)
  ·have ec:cls o tw i=1:=by unfold cls;rw [if_neg (by have:=of_decide_eq_false (Bool.eq_false_iff.mpr c);omega),if_pos (by have:=of_decide_eq_true c2;omega)]
   obtain ⟨c1,ec1,oc1⟩:=ZH9 (i:=sz' / 50) (by omega) (by omega)
   obtain ⟨c3,ec3,oc3⟩:=ZH9 (i:=sz' % 50) (by omega) (by omega)
   refine ⟨_,rfl,.inl ⟨rfl,_,SqL.of eD4⟩,_,rfl,_,rfl,_,_,rfl,rfl,⟨by decide,by decide⟩,?_⟩
   refine .inr (.inr ⟨gridS,_,c1,rfl,rfl,(by decide +kernel),ec1,_,_,rfl,rfl,(by show 2<=sizeLine;decide),?_⟩)
   refine ⟨_,rfl,_,rfl,_,_,rfl,rfl,(show (0:Int)<50 by decide),.inr (.inr ⟨gridS,_,c3,rfl,rfl,(by decide +kernel),ec3,_,_,rfl,rfl,(by show 3<=sizeLine;decide),?_⟩)⟩
   have tx:TextN (("k" : Str)++⟨#[c1]⟩++⟨#[c3]⟩) 3:=(TextN.k.cat (.one oc1)).cat (.one oc3)
   rcases (show ((0:Int)+(i:Int)) % 2=1∨((0:Int)+(i:Int)) % 2=0 by omega) with e2 | e2
   ·refine ⟨_,rfl,_,_,rfl,rfl,(show (0:Int)<2 by decide),_,_,rfl,rfl,(by decide +kernel),.inl ⟨e2,?_⟩⟩
    refine ⟨_,_,rfl,rfl,nn (Nat.le_trans (Nat.add_le_add tx.1 TextN.a.1) (by decide)),D,us,_,rfl,rfl,eD4,ZAO (by omega),?_⟩
    exact app _ (.str _) H4 (Same.refl _) (.str _) (ZEa (tx.cat .a) (by decide) 3) (by rw [ec];exact .str (tl:=[97]) rfl ec1 ec3)
   ·refine ⟨_,rfl,_,_,rfl,rfl,(show (0:Int)<2 by decide),_,_,rfl,rfl,(by decide +kernel),.inr ⟨e2,?_⟩⟩
    refine ⟨_,_,rfl,rfl,nn (Nat.le_trans (Nat.add_le_add tx.1 TextN.e.1) (by decide)),D,us,_,rfl,rfl,eD4,ZAO (by omega),?_⟩
    exact app _ (.str _) H4 (Same.refl _) (.str _) (ZEa (tx.cat .e) (by decide) 3) (by rw [ec];exact .str (tl:=[]) rfl ec1 ec3)
  ·have ec:cls o tw i=2:=by unfold cls;rw [if_neg (by have:=of_decide_eq_false (Bool.eq_false_iff.mpr c);omega),if_neg (by have:=of_decide_eq_false (Bool.eq_false_iff.mpr c2);omega)]
   refine ⟨_,rfl,.inl ⟨rfl,_,SqL.of eD4⟩,_,rfl,nn (Nat.le_of_ble_eq_true rfl),fun t1 n1=>?_⟩
   have g1:=ZAE n1 (.tup [.str "",.int sz'])
   refine ⟨nn (Nat.le_of_ble_eq_true rfl),fun t2 n2=>?_⟩
   have g2:=ZAE n2 (.tup [.int 0])
   have g12:=g1.trans g2
   rcases (show ((0:Int)+(i:Int)) % 2=1∨((0:Int)+(i:Int)) % 2=0 by omega) with e2 | e2
   ·refine ⟨_,rfl,_,_,rfl,rfl,(show (0:Int)<2 by decide),t2,.int 0,_,rfl,rfl,SqT.of ZAA,.inl ⟨e2,?_⟩⟩
    refine ⟨t1,t2,_,_,rfl,rfl,SqT.of (g2 _ _ ZAA),SqT.of ZAA,(by simp),nn (Nat.le_of_ble_eq_true rfl),(fun z=>absurd z (by simp)),fun _ t3 n3=>?_⟩
    have g3:=ZAE n3 (.tup ([.str "",.int sz']++[.int 0]))
    have gA:=g12.trans g3
    refine ⟨D,us,_,rfl,rfl,gA _ _ eD4,ZAO (by omega),?_⟩
    exact app _ (.tup [.str "",.int sz',.int 0]) _ gA (.tup ZAA (.cons (.str _) (.cons (.int _) (.cons (.int _) .nil)))) (ZJe bnd) (by rw [ec];exact .tup _ _)
   ·refine ⟨_,rfl,_,_,rfl,rfl,(show (0:Int)<2 by decide),t2,.int 0,_,rfl,rfl,SqT.of ZAA,.inr ⟨e2,fun t3 n3=>?_⟩⟩
    have g3:=ZAE n3 (.tup [])
    have gA:=g12.trans g3
    refine ⟨t1,t3,_,_,rfl,rfl,SqT.of (g3 _ _ (g2 _ _ ZAA)),SqT.of ZAA,(by simp),nn (Nat.le_of_ble_eq_true rfl),(fun _=>?_),fun z=>absurd rfl z⟩
    refine ⟨D,us,_,rfl,rfl,gA _ _ eD4,ZAO (by omega),?_⟩
    exact app _ (.tup [.str "",.int sz']) _ gA (.tup (g3 _ _ (g2 _ _ ZAA)) (.cons (.str _) (.cons (.int _) .nil))) (ZLr bnd) (by rw [ec];exact .tup _ _)
 ·rintro σ H3 ⟨sz,x,us,ts,rfl,z0,z1,s3,W3,eD3,kU,fU,lU,gU⟩
  exact ⟨_,rfl,k D us ts H3 s3 W3 nD eD3 kU fU lU gU.1⟩
end
theorem ZE4 {H:Hp} {L:Lab} {u:V} (h:KeyAt H L.kt u):LabAt H L u:=by
 unfold Lab.kt at h
 rw [KeyAt] at h
 obtain ⟨a,vs,rfl,ea,ks⟩:=h
 rw [KeysAt] at ks
 obtain ⟨v1,r1,rfl,k1,ks⟩:=ks
 rw [KeysAt] at ks
 obtain ⟨v2,r2,rfl,k2,ks⟩:=ks
 rw [KeysAt] at ks
 obtain ⟨v3,r3,rfl,k3,ks⟩:=ks
 rw [KeysAt] at ks
 obtain ⟨v4,r4,rfl,k4,ks⟩:=ks
 rw [KeysAt] at ks
 subst ks
 rw [KeyAt] at k1 k4
 subst k1 k4
 exact ⟨a,v2,v3,rfl,ea,k2,k3⟩
theorem ZOr:Lab.d.fit:=⟨ZCi (n:=0) (by decide) 3,ZCi (n:=0) (by decide) 3⟩
def ZKy (H:Hp) (ks:List KT) (us:List V):Prop:=us.length=ks.length∧∀ i u,us[i]? = some u->∃ a vk vv,u=.ref a∧H a=some (.tup [vk,vv])∧KeyAt H (ks.getD i (.int 0)) vk
def ZN4 (ks:List KT):KT:=.tup [.int 0,ks.getD 0 (.int 0),ks.getD (ks.length - 1) (.int 0),.int ks.length]
theorem ZMq {us:List V} {u:V} (h:us[us.length - 1]? = some u):atI us (-1)=some u:=by
 have hne:us≠[]:=fun z=>by rw [z] at h;simp at h
 have e:us=us.dropLast++[u]:=by
  have hg:us.getLast hne=u:=by
   rw [List.getLast_eq_getElem]
   exact (List.getElem?_eq_some_iff.mp h).2
  rw [<-hg,List.dropLast_concat_getLast]
 rw [e]
 exact ZE1 _ _
section
variable {P:Program} {w:World} {K:PySem.W.Frag} {mg:Str->Option Value} {base:Heap} {f:Addr} {fd:FuncData}
def ZDk:Sp:=fun vs H Q _=>∃ (l:Addr) (us:List V) (ks:List KT),vs=[.ref l]∧H l=some (.lst us)∧ZKy H ks us∧0<us.length∧∀ (H':Hp) (v:V),Same H H'->KeyAt H' (ZN4 ks) v->Q v H'
theorem ZI6:FnScope ["rows"] ["rows"] (ZAI ZED):=⟨rfl,rfl,rfl,by decide +kernel,rfl,by decide +kernel,by decide +kernel⟩
theorem ZHi (F:Fun K "label_of_rows" "label_of_rows" ZED f fd) (T:Txt mg):FnOk P w K mg base CX0 1 f fd ["rows"] ZDk:=by
 refine F.ok ZI6 (fun vs H Q E h=>(by obtain ⟨_,_,_,rfl,_⟩:=h;rfl)) (fun cdv A outer s H vs Q E hr h=>?_)
 obtain ⟨l,us,ks,rfl,hl,hk,h0,k⟩:=h
 refine ⟨_,ZAH (ZAQ (ZAk (pa4 ZAF (ZAV (r:=rIx K) ZAP (ZAV (r:=rIx K) ZAP (pv 0) ZAF (fun _ _=>rfl)) ZAF (fun _ _=>rfl))
  (ZAV (r:=rIx K) ZAP (ZAV (r:=rIx K) ZAP (pv 0) (ZGS ZDP ZAF) (fun _ _=>rfl)) ZAF (fun _ _=>rfl)) (ZAK ZAS rfl T.len ZAv (ZAN (pv 0) ZAC))))),?_⟩
 have u0:us[0]? = some us[0]:=List.getElem?_eq_getElem h0
 have u1:us[us.length - 1]? = some (us[us.length - 1]'(by omega)):=List.getElem?_eq_getElem (by omega)
 obtain ⟨a,ak,av,ea,ta,ka⟩:=hk.2 0 _ u0
 obtain ⟨b,bk,bv,eb,tb,kb⟩:=hk.2 _ _ u1
 rw [ea] at u0
 rw [eb] at u1
 refine ⟨_,rfl,.inl ⟨l,us,_,.ref a,rfl,rfl,SqL.of hl,ZAn (j:=0) u0,.inr (.inl ⟨a,_,_,ak,rfl,rfl,SqT.of ta,rfl,?_⟩)⟩⟩
 refine ⟨_,rfl,1,rfl,.inl ⟨l,us,_,.ref b,rfl,rfl,SqL.of hl,ZMq u1,.inr (.inl ⟨b,_,_,bk,rfl,rfl,SqT.of tb,rfl,?_⟩)⟩⟩
 refine ⟨_,rfl,l,us,rfl,.inl (SqL.of hl),nn (Nat.le_of_ble_eq_true rfl),fun p hp=>?_⟩
 have g:=ZAE hp (.tup [.int 0,ak,bk,.int us.length])
 refine k _ _ g ?_
 unfold ZN4
 rw [<-hk.1]
 exact .tup ZAA (.cons (.int _) (.cons (ka.mono (Same.tups g) _ _) (.cons (kb.mono (Same.tups g) _ _) (.cons (.int _) .nil))))
end
section
variable {P:Program} {w:World} {K:PySem.W.Frag} {mg:Str->Option Value} {base:Heap} {f:Addr} {fd:FuncData}
abbrev Row:=KT×KT
def ZOY (r:Row):KT:=.tup [r.1,r.2]
def ZBA (rs:List Row):List KT:=rs.map ZOY
def Row.fit (r:Row):Prop:=r.1.fits 3=true∧r.2.fits 3=true
theorem ZLw {H:Hp} {t1 t2:Addr} {vv:V} (h1:H t1=some (.tup [])) (h2:H t2=some (.tup [.int 1,.str "a"])) (hm:vv∈[V.int 0,.int 1,.str "v",.str "",.ref t1,.ref t2]):∃ t:KT,KeyAt H t vv∧t.fits 3=true:=by
 simp only [List.mem_cons,List.not_mem_nil,or_false] at hm
 rcases hm with rfl | rfl | rfl | rfl | rfl | rfl
 ·exact ⟨.int 0,.int _,by decide +kernel⟩
 ·exact ⟨.int 1,.int _,by decide +kernel⟩
 ·exact ⟨.str "v",.str _,by decide +kernel⟩
 ·exact ⟨.str "",.str _,by decide +kernel⟩
 ·exact ⟨.tup [],.tup h1 .nil,by decide +kernel⟩
 ·exact ⟨.tup [.int 1,.str "a"],.tup h2 (.cons (.int _) (.cons (.str _) .nil)),by decide +kernel⟩
def ZCn:Sp:=fun vs H Q _=>∃ (p gl:Addr) (b:Int) (gs:List V) (gt:List KT),vs=[.ref p,.ref gl,.int b]∧WellAt H p∧gl≠p∧H gl=some (.lst gs)∧KeysAt H gt gs∧(∀ t∈gt,t.fits 3=true)∧gs.length=64∧0<=b∧b<16 ∧
 ∀ (D:Addr) (us:List V) (rs:List Row) (H':Hp),SameX p H H'->WellAt H' p->H D=none->H' D=some (.lst us)->KeysAt H' (ZBA rs) us->(∀ r∈rs,r.fit)->(rs.map (·.1)).Sublist gt->0<us.length->us.length<=4->Q (.ref D) H'
abbrev ZH8:List Str:=["_law_well_here","_law_grid_here","_law_block","_law_rows","_law_j"]
theorem scLeafRows:FnScope ZH8 ["_law_well_here","_law_grid_here","_law_block"] (ZAI ZDZ):=⟨rfl,rfl,rfl,by decide +kernel,rfl,by decide +kernel,by decide +kernel⟩
theorem ZFs (F:Fun K "_law_leaf_rows" "_law_leaf_rows" ZDZ f fd) (T:Txt mg) (DP:DefOk P w K mg base 1 "_law_pull" ["_law_well_here","_law_many"] ZCy):FnOk P w K mg base CX0 2 f fd ["_law_well_here","_law_grid_here","_law_block"] ZCn:=by
 refine F.ok scLeafRows (fun vs H Q E h=>(by obtain ⟨_,_,_,_,_,rfl,_⟩:=h;rfl)) (fun cdv A outer s H vs Q E hr h=>?_)
 obtain ⟨p,gl,b,gs,gt,rfl,W,ngl,hg,kg,fg,lg,b0,b1,k⟩:=h
 have nd:=scLeafRows.nd
 have hun:=hr.units0
 refine ⟨_,ZAD (ZAU (i:=3) nd rfl (Or.inl rfl) (ZAx ZAC))
  (ZAD (ZBe PassesOwn.never rfl (ZBm rfl T.range (ZAN ZAF ZAC)) (ZAZ (i:=4) nd rfl (Or.inl rfl))
   (ZAH (ZAf (ZAX ZGI (ZAT DP hr (ZAN (pv 0) (ZAN ZAF ZAC))) ZAF (ZAW _))
    (ZAH (ZA2 (ZCX PySem.F.plainAttrs_list PySem.F.slot_list_append PySem.F.type_list_append ZAu (pv 3) (ZAN (ZAk (ZAN (ZAV (r:=rIx K) ZAP (pv 1) (ZAb ZBE (ZAb ZDG ZAF (pv 2)) (pv 4)) (fun _ _=>rfl))
     (ZAN (ZAV (r:=rIx K) ZAP (ZAx (pa6 ZAF ZAF ZAl ZAl (ZAk ZAC) (ZAk (ZAN ZAF (ZAN ZAl ZAC))))) (ZAT DP hr (ZAN (pv 0) (ZAN ZAF ZAC))) (fun _ _=>rfl)) ZAC))) ZAC)))) ZAR)))
  (ZAD (ZAf (ZAX (ZCc hun) (pv 3) (ZAx ZAC) (ZAW _))
   (ZAH (ZA2 (ZCX PySem.F.plainAttrs_list PySem.F.slot_list_append PySem.F.type_list_append ZAu (pv 3) (ZAN (ZAk (ZAN (ZAV (r:=rIx K) ZAP (pv 1) (ZAb ZBE (ZAb ZDG ZAF (pv 2)) (ZAT DP hr (ZAN (pv 0) (ZAN ZAF ZAC)))) (fun _ _=>rfl)) (ZAN ZAl ZAC))) ZAC)))) ZAR)
  (ZAH (ZAQ (pv 3))))),?_⟩
 have well5:∀ {H5:Hp} {D:Addr} {o:HO},WellAt H5 p->D≠p->WellAt (upd H5 D o) p:=fun {H5 D o} W5 n=>by
  obtain ⟨a1,b1,c1,d1,hw,rr⟩:=W5.ex
  exact ⟨a1,b1,c1,d1,by rw [ZAG (Ne.symm n)];exact hw,rr⟩
 refine ⟨(by show 0<=sizeLine;decide),fun D nD=>?_⟩
 have g0:=ZAE nD (.lst [])
 have hDp:D≠p:=by obtain ⟨xs,e⟩:=W.some;exact (ZAB e nD).symm
 have hgD:gl≠D:=ZAB hg nD
 have key:∀ (H':Hp) (j:Nat),SameX p H H'->j<64->∃ (v:V) (t:KT),atI gs (j:Int)=some v∧KeyAt H' t v∧t.fits 3=true∧gt[j]? = some t:=fun H' j s' hj=>by
  have hv:gs[j]? = some (gs[j]'(by omega)):=List.getElem?_eq_getElem (by omega)
  obtain ⟨t,et,kt⟩:=kg.get hv
  exact ⟨_,t,ZAn hv,kt.mono (s'.tupsW W) _ _,fg t (List.mem_of_getElem? et),et⟩
 refine ⟨4,rfl,by decide,by decide,ZBW (n:=4) (fun i σ H3=>∃ (x:Option V) (us:List V) (rs:List Row),σ=[some (.ref p),some (.ref gl),some (.int b),some (.ref D),x]∧SameX p H H3∧WellAt H3 p∧H3 D=some (.lst us)∧KeysAt H3 (ZBA rs) us∧(∀ r∈rs,r.fit)∧(rs.map (·.1)).Sublist ((gt.drop (4 * b.toNat)).take i)∧us.length<=i)
  ⟨none,[],[],rfl,SameX.of g0,W.same g0,ZAA,.nil,(fun t ht=>absurd ht (by simp)),List.nil_sublist _,Nat.le_refl _⟩ ?_ ?_⟩
 ·rintro i σ H3 hi ⟨x,us,rs,rfl,s3,W3,eD3,kU,fU,sU,lU⟩
  refine ⟨_,rfl,p,3,rfl,W3,ZAw (by decide) (by decide),fun r H4 r0 r1 W4 s4=>⟨_,_,rfl,rfl,_,rfl,?_⟩⟩
  have s34:=s3.trans s4
  have eD4:=s4 D _ eD3 hDp
  have kU4:=kU.mono (s4.tupsW W3) _ _
  refine ZFO (fun c=>?_) (fun c=>?_)
  ·have ej:(4:Int) * b+(0+(i:Int))=((4 * b.toNat+i:Nat):Int):=by omega
   obtain ⟨v,t,av,kv,fv,et⟩:=key H4 (4 * b.toNat+i) s34 (by omega)
   have hg4:H4 gl=some (.lst gs):=s34 gl _ hg ngl
   refine ⟨_,rfl,.inl ⟨rfl,_,SqL.of eD4⟩,_,rfl,_,rfl,_,_,rfl,rfl,.inl ⟨by decide,by decide⟩,_,rfl,_,_,rfl,rfl,.inl ⟨gl,gs,_,v,rfl,rfl,SqL.of hg4,(by rw [ej];exact av),?_⟩⟩
   refine ⟨nn (Nat.le_of_ble_eq_true rfl),fun t1 n1=>?_⟩
   have g1:=ZAE n1 (.tup [])
   refine ⟨nn (Nat.le_of_ble_eq_true rfl),fun t2 n2=>?_⟩
   have g2:=ZAE n2 (.tup [.int 1,.str "a"])
   refine ⟨nn (Nat.le_of_ble_eq_true rfl),fun L nL=>?_⟩
   have g3:=ZAE nL (.lst [.int 0,.int 1,.str "v",.str "",.ref t1,.ref t2])
   have gA:=(g1.trans g2).trans g3
   have nLp:L≠p:=by obtain ⟨xs,e⟩:=(W4.same (g1.trans g2)).some;exact (ZAB e nL).symm
   refine ⟨_,rfl,p,6,rfl,W4.same gA,ZAw (by decide) (by decide),fun q H5 q0 q1 W5 s5=>?_⟩
   obtain ⟨vv,ev,mv⟩:=ZGt (xs:=[V.int 0,.int 1,.str "v",.str "",.ref t1,.ref t2]) q0 q1
   refine .inl ⟨L,_,_,vv,rfl,rfl,SqL.of (s5 L _ ZAA nLp),ev,nn (Nat.le_of_ble_eq_true rfl),fun R nR=>?_⟩
   have g6:=ZAE nR (.tup [v,vv])
   have f46:∀ b o,H4 b=some o->b≠p->upd H5 R (.tup [v,vv]) b=some o:=fun b o e n=>g6 b o (s5 b o (gA b o e) n)
   have t46:ZBn H4 (upd H5 R (.tup [v,vv])):=fun b ys e=>Same.tups g6 b ys (s5.tupsW (W4.same gA) b ys (Same.tups gA b ys e))
   have eD6:=f46 D _ eD4 hDp
   have n1p:t1≠p:=by obtain ⟨xs,e⟩:=W4.some;exact (ZAB e n1).symm
   have n2p:t2≠p:=by obtain ⟨xs,e⟩:=(W4.same g1).some;exact (ZAB e n2).symm
   obtain ⟨tv,ktv,ftv⟩:=ZLw (H:=upd H5 R (.tup [v,vv])) (g6 _ _ (s5 _ _ (g3 _ _ (g2 _ _ ZAA)) n1p)) (g6 _ _ (s5 _ _ (g3 _ _ ZAA) n2p)) mv
   refine ⟨D,us,_,rfl,rfl,eD6,ZAO (by omega),?_⟩
   have tD:ZBn (upd H5 R (.tup [v,vv])) (upd (upd H5 R (.tup [v,vv])) D (.lst (us++[.ref R]))):=(SameX.refl D _).upd.tups eD6
   refine ⟨_,us++[.ref R],rs++[(t,tv)],rfl,fun b o e n=>?_,well5 (W5.same g6) hDp,ZAA,?_,fun z hz=>?_,?_,by simp;omega⟩
   ·rw [ZAG (ZAB e nD)]
    exact f46 b o (s34 b o e n) n
   ·have e1:ZBA (rs++[(t,tv)])=ZBA rs++[ZOY (t,tv)]:=by unfold ZBA;rw [List.map_append];rfl
    rw [e1]
    exact ((kU4.mono t46 _ _).mono tD _ _).append (.cons (.tup (tD _ _ ZAA) (.cons ((kv.mono t46 _ _).mono tD _ _) (.cons (ktv.mono tD _ _) .nil))) .nil)
   ·rcases List.mem_append.mp hz with h | h
    ·exact fU z h
    ·rw [List.mem_singleton.mp h];exact ⟨fv,ftv⟩
   ·have e2:(gt.drop (4 * b.toNat))[i]? = some t:=by rw [List.getElem?_drop];exact et
    rw [List.map_append,List.take_add_one,e2]
    exact sU.append (List.Sublist.refl _)
  ·exact ⟨_,us,rs,rfl,s34,W4,eD4,kU4,fU,sU.trans (by rw [List.take_add_one];exact List.sublist_append_left _ _),by omega⟩
 ·rintro σ H3 ⟨x,us,rs,rfl,s3,W3,eD3,kU,fU,sU,lU⟩
  refine ⟨_,rfl,(by show 0<=sizeLine;decide),fun d nd'=>?_⟩
  have g1:=ZAE nd' (.lst [])
  refine ⟨D,d,us,rfl,rfl,SqL.of (g1 _ _ eD3),SqL.of ZAA,_,rfl,?_⟩
  have W4:=W3.same g1
  have s4:SameX p H (upd H3 d (.lst [])):=s3.trans (SameX.of g1)
  have eD4:=g1 _ _ eD3
  cases us with
  | cons u ur=>
   refine ZAz ⟨_,rfl,?_⟩
   exact k D _ rs _ s4 W4 nD eD4 (kU.mono (Same.tups g1) _ _) fU ((sU.trans (List.take_sublist _ _)).trans (List.drop_sublist _ _)) (by simp) lU
  | nil=>
   refine ZBb ?_
   have hg4:upd H3 d (.lst []) gl=some (.lst gs):=s4 gl _ hg ngl
   refine ⟨_,rfl,.inl ⟨rfl,_,SqL.of eD4⟩,_,rfl,_,rfl,_,_,rfl,rfl,.inl ⟨by decide,by decide⟩,_,rfl,p,4,rfl,W4,ZAw (by decide) (by decide),fun r H5 r0 r1 W5 s5=>⟨_,_,rfl,rfl,?_⟩⟩
   have s45:=s4.trans s5
   have ej:(4:Int) * b+r=((4 * b.toNat+r.toNat:Nat):Int):=by omega
   obtain ⟨v,t,av,kv,fv,et⟩:=key H5 (4 * b.toNat+r.toNat) s45 (by omega)
   refine .inl ⟨gl,gs,_,v,rfl,rfl,SqL.of (s45 gl _ hg ngl),(by rw [ej];exact av),nn (Nat.le_of_ble_eq_true rfl),fun R nR=>?_⟩
   have g6:=ZAE nR (.tup [v,.str "w"])
   have eD6:=g6 _ _ (s5 D _ eD4 hDp)
   refine ⟨D,[],_,rfl,rfl,eD6,ZAO (by decide),?_⟩
   have tD:ZBn (upd H5 R (.tup [v,.str "w"])) (upd (upd H5 R (.tup [v,.str "w"])) D (.lst ([]++[.ref R]))):=(SameX.refl D _).upd.tups eD6
   refine ⟨_,rfl,k D [.ref R] [(t,.str "w")] _ (fun b o e n=>?_) (well5 (W5.same g6) hDp) nD ZAA ?_ (fun z hz=>?_) (List.singleton_sublist.mpr (List.mem_of_getElem? et)) (by simp) (by simp)⟩
   ·rw [ZAG (ZAB e nD)]
    exact g6 b o (s45 b o e n)
   ·exact .cons (.tup (tD _ _ ZAA) (.cons ((kv.mono (Same.tups g6) _ _).mono tD _ _) (.cons (.str _) .nil))) .nil
   ·rw [List.mem_singleton.mp hz];exact ⟨fv,show (KT.str "w").fits 3=true by decide +kernel⟩
end
section
variable {P:Program} {w:World} {K:PySem.W.Frag} {mg:Str->Option Value} {base:Heap} {f:Addr} {fd:FuncData}
def ZFt:Sp:=fun vs H Q _=>∃ i:Int,vs=[.int i,.int i]∧∀ H',Same H H'->Q (.bl true) H'
theorem ZMj:FnScope ["_law_found","_law_due"] ["_law_found","_law_due"] (ZAI ZIa):=⟨rfl,rfl,rfl,by decide +kernel,rfl,by decide +kernel,by decide +kernel⟩
theorem ZKF (F:Fun K "_law_count" "_law_count" ZIa f fd) (T:Txt mg):FnOk P w K mg base CX0 1 f fd ["_law_found","_law_due"] ZFt:=by
 refine F.ok ZMj (fun vs H Q E h=>?_) (fun cdv A outer s H vs Q E hr h=>?_)
 ·obtain ⟨i,rfl,_⟩:=h
  rfl
 obtain ⟨i,rfl,k⟩:=h
 refine ⟨_,ZAH (ZAQ (ZCB (ZAK ZAY rfl T.isi ZAM (ZAL (pv 0) (ZAL (ZAi (v:=.ty "int") rfl T.int ZCN rfl) ZAC)))
   (ZCB (ZK7 (ZAK ZAY rfl T.isi ZAM (ZAL (pv 0) (ZAL (ZAi (v:=.ty "bool") rfl T.bool ZCj rfl) ZAC)))) (ZDI (ZBB ZCA (pv 0) (pv 1) (ZAW _)))))),?_⟩
 refine ⟨_,rfl,_,_,_,_,rfl,.int i,ZDE,_,rfl,ZBb ?_⟩
 refine ⟨_,rfl,_,_,_,_,rfl,.int i,ZFD,_,rfl,_,rfl,ZBb ?_⟩
 refine ⟨_,rfl,_,rfl,rfl,?_⟩
 rw [decide_eq_true rfl]
 exact k H (Same.refl H)
end
section
variable {P:Program} {w:World} {K:PySem.W.Frag} {mg:Str->Option Value} {base:Heap} {f:Addr} {fd:FuncData}
def ZCU:Sp:=fun vs H Q _=>∃ (p l:Addr) (xs:List V),vs=[.ref p,.ref l]∧WellAt H p∧l≠p∧H l=some (.lst xs)∧0<xs.length∧xs.length<=900 ∧
 ∀ (x:V) (H':Hp),SameX p H H'->WellAt H' p->x∈xs->Q x H'
theorem ZKZ:FnScope ["_law_well_here","_law_some"] ["_law_well_here","_law_some"] (ZAI ZF1):=⟨rfl,rfl,rfl,by decide +kernel,rfl,by decide +kernel,by decide +kernel⟩
theorem ZHn (F:Fun K "_law_picked" "_law_picked" ZF1 f fd) (T:Txt mg) (DP:DefOk P w K mg base 1 "_law_pull" ["_law_well_here","_law_many"] ZCy):FnOk P w K mg base CX0 2 f fd ["_law_well_here","_law_some"] ZCU:=by
 refine F.ok ZKZ (fun vs H Q E h=>(by obtain ⟨_,_,_,rfl,_⟩:=h;rfl)) (fun cdv A outer s H vs Q E hr h=>?_)
 obtain ⟨p,l,xs,rfl,W,nl,hl,l0,l1,k⟩:=h
 refine ⟨_,ZAH (ZAQ (ZAV (r:=rIx K) ZAP (pv 1) (ZAT DP hr (ZAN (pv 0) (ZAN (ZAK ZAS rfl T.len ZAv (ZAL (pv 1) ZAC)) ZAC))) (fun _ _=>rfl))),?_⟩
 refine ⟨_,rfl,_,rfl,_,rfl,l,xs,rfl,.inl (SqL.of hl),p,(xs.length:Int),rfl,W,ZAw (by omega) (Nat.lt_of_le_of_lt (show ((xs.length:Int)).natAbs<=900 by omega) (by decide)),fun r H4 r0 r1 W4 s4=>?_⟩
 obtain ⟨x,ex,mx⟩:=ZGt (xs:=xs) r0 r1
 exact .inl ⟨l,xs,r,x,rfl,rfl,SqL.of (s4 l _ hl nl),ex,k x H4 s4 W4 mx⟩
end
section
variable {P:Program} {w:World} {K:PySem.W.Frag} {mg:Str->Option Value} {base:Heap} {f:Addr} {fd:FuncData}
def ZC8:Sp:=fun vs H Q _=>∃ (d l:Addr) (kvs:List (Key×V)) (ns:List Int) (hc:Int->Int),vs=[.ref d,.ref l]∧H d=some (.dK kvs)∧H l=some (.lst (ns.map V.int))∧(∀ n∈ns,ZBj kvs (.inl n)=some (.int (hc n))) ∧
 (∀ n,ns.find? (fun m=>decide (hc m=0))=some n->∀ (t:Addr) (H':Hp),Same H H'->H' t=some (.tup [.str "held",.int n])->Q (.ref t) H') ∧
 (ns.find? (fun m=>decide (hc m=0))=none->∀ H':Hp,Same H H'->Q .non H')
theorem scUnheld:FnScope ["_law_holds","_law_numbers","_law_number"] ["_law_holds","_law_numbers"] (ZAI ZGB):=⟨rfl,rfl,rfl,by decide +kernel,rfl,by decide +kernel,by decide +kernel⟩
theorem ZBx {α:Type} {p:α->Bool} {x:α}:∀ {l:List α} {i:Nat},(l.take i).find? p=none->l[i]? = some x->(p x=true->l.find? p=some x)∧(p x=false->(l.take (i+1)).find? p=none)
 | [],i,_,e=>by simp at e
 | a :: l,0,_,e=>by
  simp at e
  subst e
  exact ⟨fun h=>by simp [List.find?_cons,h],fun h=>by simp [List.find?_cons,h]⟩
 | a :: l,i+1,h,e=>by
  simp only [List.take_succ_cons,List.find?_cons] at h ⊢
  cases hp:p a with
  | true=>rw [hp] at h;simp at h
  | false=>
   rw [hp] at h
   have:=ZBx (l:=l) (i:=i) (p:=p) h (by simpa using e)
   simpa using this
theorem ZI1 (F:Fun K "_law_unheld" "_law_unheld" ZGB f fd) (T:Txt mg):FnOk P w K mg base CX0 1 f fd ["_law_holds","_law_numbers"] ZC8:=by
 refine F.ok scUnheld (fun vs H Q E h=>(by obtain ⟨_,_,_,_,_,rfl,_⟩:=h;rfl)) (fun cdv A outer s H vs Q E hr h=>?_)
 obtain ⟨d,l,kvs,ns,hc,rfl,hd,hl,hv,k1,k2⟩:=h
 have nd:=scUnheld.nd
 have hu:=ZCW hr
 refine ⟨_,ZAD (ZBe PassesOwn.never rfl (ZA5 (pv 1)) (ZAZ (i:=2) nd rfl (Or.inl rfl))
   (ZAH (ZAf (ZAX ZCA (ZBJ hu (pv 0) (pv 2) (fun _ _=>rfl)) ZAF (ZAW _)) (ZAH (ZAQ (ZAk (ZAN ZAl (ZAN (pv 2) ZAC))))) ZAR)))
  (ZAH (ZAQ ZFT)),?_⟩
 refine ⟨_,rfl,l,rfl,⟨_,SqL.of hl⟩,ZBo (K:=K) (a:=l) (xs:=ns.map V.int) (fun i σ H2=>∃ x:Option V,σ=[some (.ref d),some (.ref l),x]∧Same H H2∧(ns.take i).find? (fun m=>decide (hc m=0))=none) ⟨_,rfl,Same.refl H,rfl⟩ (fun i σ H2 _ hP=>by obtain ⟨_,_,s2,_⟩:=hP;exact SqL.of (s2 _ _ hl)) ?_ ?_⟩
 ·rintro i u σ H2 hu2 ⟨x,rfl,s2,hn⟩
  obtain ⟨n,en,rfl⟩:∃ n,ns[i]? = some n∧V.int n=u:=by
   rw [List.getElem?_map] at hu2
   exact Option.map_eq_some_iff.mp hu2
  have hg:DGet H2 d (.int n) (some (.int (hc n))):=hv n (List.mem_of_getElem? en) ▸ DGet.k (k:=Sum.inl n) (s2 _ _ hd)
  obtain ⟨f1,f2⟩:=ZBx hn en
  refine ⟨_,rfl,_,rfl,d,.int (hc n),rfl,hg,?_⟩
  refine ⟨rfl,_,rfl,?_⟩
  have ed:decide (V.int (hc n)=V.int 0)=decide (hc n=0):=by simp
  rw [ed]
  cases c:decide (hc n=0) with
  | true=>exact ZBb ⟨_,rfl,nn (Nat.le_of_ble_eq_true rfl),fun t nt=>k1 n (f1 c) t _ (s2.trans (ZAE nt _)) ZAA⟩
  | false=>exact ZAz ⟨_,rfl,s2,f2 c⟩
 ·rintro σ H2 ⟨x,rfl,s2,hn⟩
  rw [List.take_of_length_le (by simp)] at hn
  exact k2 hn H2 s2
end
end Tw
namespace L2
open PySem PySem.Spec PyProof.Rows
section
variable {prog:Program} {w:World} {A:Around} {E:Value->Shared->Prop} {s:Shared} {T:String} {r d:Addr} {n:Nat} {P:Nat->Value->Prop} {OK:Heap->Prop}
theorem ZJz {R:Result->Shared->Prop} (K:PySem.W.KdlSrc prog w T r d n P OK) (hh:A.handled=none) (hok:OK s.heap) (S:Addr) (hSr:S≠r) (hSd:S≠d) (c₀:Nat) (hS:s.heap.get? S=some { cls:=.type "list",data:=.seq #[] c₀ })
  (hR:∀ h' tk acc' c',(∀ b o,b≠S->s.heap.get? b=some o->h'.get? b=some o)->h'.get? S=some { cls:=.type "list",dict:=none,data:=.seq acc' c',slots:=#[] }->ItemsOf P acc' n->R (.ok (.ret (.ref S))) { s with heap:=h',toks:=tk }) (hn:n<=sizeLine) :
  codeAny (model prog w) A (.builtin "list.__iadd__" ⟨[.ref S,.ref r],[]⟩) R s:=by
 refine codeAny_builtin PySem.F.entry_list_iadd ?_
 rw [Around.under_plainId PySem.F.plain_list_iadd _]
 exact PySem.W.kdl_extend (R:=R) K hh hok S hSr hSd (.ref S) c₀ hS hR hn
theorem ZFr {Q:List Value->Shared->Prop} (K:PySem.W.KdlSrc prog w T r d n P OK) (hh:A.handled=none) (hok:OK s.heap) (hn:n<=sizeLine)
  (hQ:∀ h' tk acc,(∀ b o,s.heap.get? b=some o->h'.get? b=some o)->s.heap.objs.size<h'.objs.size->ItemsOf P acc n->Q acc.toList { s with heap:=h',toks:=tk }):wpAny (model prog w) A (collect (.ref r)) Q E s:=by
 have hlt:=K.there _ hok
 unfold collect
 refine wpAny_bind (wpAny_runValue (codeAny_builtin PySem.F.entry_proto_collect ?_))
 rw [Around.under_plainId PySem.F.plain_proto_collect _]
 show wpAny _ A.in1 (newList [] >>= fun l=>again (.builtin "list.__iadd__" ⟨[l,.ref r],[]⟩)) _ _ s
 refine wpAny_bind (wpAny_newObj_type ?_)
 have hS:(s.heap.push { cls:=.type "list",data:=.seq ([]:List Value).toArray }).get? s.heap.objs.size=some { cls:=.type "list",data:=.seq #[] 0 }:=Heap.get?_push_size _ rfl
 refine wpAny_pure ⟨plainId_quiet PySem.F.plain_list_iadd _,ZJz (s:={ s with heap:=s.heap.push { cls:=.type "list",data:=.seq ([]:List Value).toArray } }) K hh (K.keep _ _ hok fun b _ o e=>Heap.get?_push_of_some _ e) s.heap.objs.size (Nat.ne_of_gt hlt.1) (Nat.ne_of_gt hlt.2) _ hS (fun h' tk acc' c' hk hS' hacc=>?_) hn⟩
 show wpAny _ A (load s.heap.objs.size >>= _) _ _ _
 refine wpAny_bind (wpAny_load hS' ?_)
 exact wpAny_pure (hQ h' tk acc' (fun b o e=>hk b o (Nat.ne_of_lt (Heap.lt_size e)) (Heap.get?_push_of_some _ e)) (Heap.lt_size hS') hacc)
theorem ZHX {Q:Value->Shared->Prop} {ns:List Int} (K:PySem.W.KdlSrc prog w T r d n P OK) (hh:A.handled=none) (hok:OK s.heap) (hn:n<=sizeLine) (hP:∀ acc,ItemsOf P acc n->IntsAre acc.toList ns) (h64:n<64)
  (hs:ns.Pairwise (· <= ·)) (hQ:∀ h' tk a out c,(∀ b o,s.heap.get? b=some o->h'.get? b=some o)->s.heap.objs.size<=a->IntsAre out ns->h'.get? a=some { cls:=.type "list",data:=.seq out.toArray c }->Q (.ref a) { s with heap:=h',toks:=tk }) :
  wpAny (model prog w) A (call (.builtin "sorted") [.ref r]) Q E s:=by
 refine Calls.call_function_entry kind_sorted plain_sorted entry_sorted (args_sorted1 _) ?_
 unfold Builtin.«sorted»
 refine wpAny_bind (m:=checkCount "sorted" 1 1 _) (wpAny_pure ?_)
 refine wpAny_bind (ZFr K hh hok hn fun h1 tk acc k1 hsz hacc=>?_)
 have hI:=hP acc hacc
 have hl64:acc.toList.length<64:=by rw [Array.length_toList,hacc.1];exact h64
 refine wpAny_bind (wpAny_newList ?_ (hsz:=Nat.le_of_lt (ZAO (by omega))))
 have hoL:(h1.push (seqObj "list" acc.toList.toArray 0)).get? h1.objs.size=some (seqObj "list" acc.toList.toArray 0):=Heap.get?_push_size _ rfl
 refine wpAny_bind (wpAny_holding (wpAny_call_entry slot_list_sort ⟨_,hoL,rfl⟩ entry_list_sort (list_sort_tree hoL hI hl64 fun out ns' a1 a2 a3=>⟨_,rfl,?_⟩) (args_list_sort _)))
 refine wpAny_pure ⟨_,rfl,?_⟩
 have e:ns'=ns:=List.Perm.eq_of_pairwise (le:=(· <= ·)) (fun a b _ _ h1 h2=>Int.le_antisymm h1 h2) a3 hs a2
 subst e
 obtain ⟨c,hc⟩:=sortedHeap_at (vs:=acc.toList) (out:=out) hoL
 refine hQ _ tk h1.objs.size out.toList c (fun b o e=>?_) (Nat.le_of_lt hsz) a1 (by rw [Array.toArray_toList];exact hc)
 have e1:=k1 b o e
 rw [sortedHeap_old (Nat.ne_of_lt (Heap.lt_size e1)) (by rw [size_push'];exact Nat.lt_succ_of_lt (Heap.lt_size e1))]
 exact Heap.get?_push_of_some _ e1
end
section
variable {X:Cx}
theorem ZJP:∀ {kvs:List (Key×V)} {vs:List (Key×Value)} {ns:List Int},KV kvs vs->kvs.map (·.1)=ns.map Sum.inl->∀ acc:List Value,acc.length=vs.length->(∀ (i:Nat) (v:Value),acc[i]? = some v->∃ (k:Key) (x:Value),vs[i]? = some (k,x)∧ZGP k v=true)->IntsAre acc ns:=by
 intro kvs vs ns h e acc hl hv
 have ek:=KV.keys h
 rw [e] at ek
 clear e h
 induction vs generalizing ns acc with
 | nil=>
  cases acc with
  | nil=>
   cases ns with
   | nil=>exact .nil
   | cons _ _=>simp at ek
  | cons _ _=>simp at hl
 | cons q r ih=>
  cases acc with
  | nil=>simp at hl
  | cons a acc=>
   cases ns with
   | nil=>simp at ek
   | cons n ns=>
    simp only [List.map_cons,List.cons.injEq] at ek
    obtain ⟨k,x,e1,e2⟩:=hv 0 a rfl
    simp only [List.getElem?_cons_zero,Option.some.injEq] at e1
    subst e1
    have ek1:Sum.inl n=k:=ek.1
    subst ek1
    obtain ⟨i,t,z1,z2⟩ | ⟨i,t,z1,z2⟩:=ZAs e2
    ·cases z1
     subst z2
     exact .cons _ _ (ih acc (by simpa using hl) (fun i v hi=>by simpa using hv (i+1) v (by simpa using hi)) ek.2)
    ·cases z1
theorem ZFg:∀ {vs:List Value} {ns:List Int},IntsAre vs ns->Vals (ns.map V.int) vs:=fun h=>ZCd h
theorem nn' {n:Nat} (h:n<64):n<=sizeLine:=Nat.le_of_lt (ZAO (by omega))
theorem ZBX:bootBuiltins "sorted" = some (.builtin "sorted"):=by decide +kernel
def ZM6:List V->Hp->VK->Prop:=fun xs H Q=>∃ (a:Addr) (kvs:List (Key×V)) (ns:List Int),xs=[.ref a]∧H a=some (.dK kvs)∧kvs.map (·.1)=ns.map Sum.inl∧ns.Pairwise (· <= ·)∧ns.length<64∧∀ p,H p=none->Q (.ref p) (upd H p (.lst (ns.map V.int)))
theorem ZBU (hc:X.calm=true):ZBt X (.builtin "sorted") ZM6:=by
 intro pins s σ H xs us Q I r h
 obtain ⟨a,kvs,ns,rfl,ha,hk,hs,h64,q⟩:=h
 obtain ⟨u,rfl,ru⟩:=ZB8 r
 cases ru
 obtain ⟨z,lo,vs,kv,hD⟩:=ZMx I.hok ha
 have ln:ns.length=kvs.length:=by have:=congrArg List.length hk;simpa using this.symm
 have lv:=KV.length kv
 obtain ⟨ep,hA⟩:=hD.dictAt
 refine ZHX (ns:=ns) (PySem.W.kdl_dict (knd:=ZBF X.prog X.w) (kvs:=vs) (ep:=ep) lo) (I.ok.hd hc) hA (by omega) (fun acc hacc=>ZJP kv hk acc.toList (by rw [Array.length_toList];exact hacc.1) fun i v e=>?_) (by omega) hs fun h' tk p out c k1 hp hI hg=>?_
 ·exact hacc.2 i v (by rw [<-Array.getElem?_toList];exact e)
 ·exact ⟨.ref p,_,I.laid (a:=p) (o:=.lst (ns.map V.int)) (t':=tk) k1 hp ⟨by rw [List.length_map];exact nn' h64,out,c,ZFg hI,hg⟩,rfl,q p (I.hok.fresh hp)⟩
end
section
variable {X:Cx}
end
section
variable {prog:Program} {w:World} {A:Around} {E:Value->Shared->Prop} {s:Shared}
end
section
variable {X:Cx} {pins:List (Addr×Obj)} {σ:St} {H:Hp} {s:Shared}
end
theorem ZMU:typeLookup (.type "list_reverseiterator") "__len__" = pure none:=by rw [typeLookup_type,builtinLookup_eq_fast];kernel_rfl
theorem ZJy:typeLookup (.type "list_reverseiterator") "__length_hint__" = pure (some (.builtin "list_reverseiterator.__length_hint__")):=by rw [typeLookup_type,builtinLookup_eq_fast];kernel_rfl
theorem ZMH:isSubtype (.type "list_reverseiterator") (.type "list_reverseiterator")=pure true:=by rw [isSubtype_type];kernel_rfl
section
variable {prog:Program} {w:World} {A:Around} {E:Value->Shared->Prop} {s:Shared}
theorem ZJt {r:Addr} {Q:Bool->Shared->Prop} (hT:s.TypeIs (.ref r) "list_reverseiterator") (h:Q false s):wpAny (model prog w) A (Builtin.List.listLengthHint (.ref r)) Q E s:=by
 unfold Builtin.List.listLengthHint
 refine wpAny_bind (wpAny_specialOf hT ZMU ?_)
 wp_delta
 refine wpAny_ite_split (fun hab=>absurd hab (by decide +kernel)) (fun _=>?_)
 refine wpAny_ite_split (fun hab=>absurd hab (by decide)) (fun _=>?_)
 refine wpAny_bind (wpAny_specialOf hT ZJy ?_)
 generalize hid:("list_reverseiterator.__length_hint__" : String)=id0
 wp_delta
 rw [show splitId id0=some ("list_reverseiterator","__length_hint__") from by subst hid;decide +kernel]
 subst hid
 refine wpAny_bind (wpAny_isInstance (T:= "list_reverseiterator") (b:=true) hT ZMH ?_)
 refine wpAny_ite_split (fun hab=>absurd hab (by decide)) (fun _=>?_)
 refine wpAny_ite_split (fun _=>?_) (fun hab=>absurd (by decide +kernel) hab)
 refine wpAny_ite_split (fun hab=>absurd hab (by decide)) (fun _=>?_)
 exact wpAny_pure h
theorem ZGD {l it:Addr} {items:Array Value} {Q:Value->Shared->Prop} (hh:A.handled=none) (hit:s.heap.IsRevIter it l ((items.size:Int) - 1)) (hl:s.heap.IsList l items) (hne:l≠it) (hn:items.size<=sizeLine)
  (hQ:∀ h' tk acc' c',(∀ b o,b≠it->s.heap.get? b=some o->h'.get? b=some o)->h'.get? s.heap.objs.size=some { cls:=.type "list",dict:=none,data:=.seq acc' c',slots:=#[] }->ItemsOf (fun i v=>items[items.size - 1 - i]? = some v) acc' items.size->Q (.ref s.heap.objs.size) { s with heap:=h',toks:=tk }) :
  wpAny (model prog w) A (call (.type "list") [.ref it]) Q E s:=by
 obtain ⟨oi,goi,roi⟩:=id hit
 obtain ⟨ol,gol,rol⟩:=id hl
 have lti:=Heap.lt_size goi
 have ltl:=Heap.lt_size gol
 refine callType_codes (Q₁:=fun obj s₁=>obj=.ref s.heap.objs.size∧s₁={ s with heap:=s.heap.push { cls:=.type "list",data:=.seq #[] } }) PySem.F.called_list (PySem.F.typeCall_list_1 _) PySem.F.entry_list_init
  (code_list_new _ ⟨rfl,rfl⟩) fun obj s₁ h₁=>?_
 obtain ⟨rfl,rfl⟩:=h₁
 have hS:(s.heap.push { cls:=.type "list",data:=.seq #[] }).get? s.heap.objs.size=some { cls:=.type "list",data:=.seq #[] }:=Heap.get?_push_size _ rfl
 refine ⟨⟨_,hS,rfl⟩,PySem.F.args_list_init_2 _ _,?_⟩
 show wpAny _ _ (do let old<-Builtin.List.listItems (.ref s.heap.objs.size);Builtin.List.listUpdate (.ref s.heap.objs.size) (fun _=>#[]);letGo old.toList.reverse;Builtin.List.listExtendWith (.ref s.heap.objs.size) (.ref it) .none) _ _ _
 refine wpAny_bind ?_
 unfold Builtin.List.listItems
 refine wpAny_bind (wpAny_seqItems hS rfl (wpAny_pure ?_))
 show wpAny _ _ (updateSeq s.heap.objs.size (fun _=>#[]) >>= fun _=>letGo (#[]:Array Value).toList.reverse >>= fun _=>Builtin.List.listExtendWith (.ref s.heap.objs.size) (.ref it) .none) _ _ _
 refine wpAny_bind (wpAny_updateSeq hS rfl ?_)
 have hS₂:=Heap.get?_update_self (Obj.mapSeq (fun _=>(#[]:Array Value))) hS rfl
 have oth:∀ b o,s.heap.get? b=some o->((s.heap.push { cls:=.type "list",data:=.seq #[] }).update s.heap.objs.size (Obj.mapSeq (fun _=>(#[]:Array Value)))).get? b=some o:=
  fun b o e=>(Heap.get?_update_other _ _ (Ne.symm (Nat.ne_of_lt (Heap.lt_size e)))).trans (Heap.get?_push_of_some _ e)
 refine wpAny_bind (wpAny_letGo ?_)
 generalize (s.heap.push { cls:=.type "list",data:=.seq #[] }).update s.heap.objs.size (Obj.mapSeq (fun _=>(#[]:Array Value)))=h2 at hS₂ oth ⊢
 have hit2:h2.IsRevIter it l ((items.size:Int) - 1):=⟨oi,oth _ _ goi,roi⟩
 have hl2:h2.IsList l items:=⟨ol,oth _ _ gol,rol⟩
 have hSi:s.heap.objs.size≠it:=Nat.ne_of_gt lti
 have hSl:s.heap.objs.size≠l:=Nat.ne_of_gt ltl
 have key:∀ (h:Heap) (c₁ tk:Nat),h.IsRevIter it l ((items.size:Int) - 1)->h.IsList l items->(∀ b o,s.heap.get? b=some o->h.get? b=some o) ->
   h.get? s.heap.objs.size=some { cls:=.type "list",data:=.seq #[] c₁ }->codeAny (model prog w) A.in1 (.builtin "list.extend.loop" ⟨[.ref s.heap.objs.size,.ref it,.none],[]⟩) (wants (fun r s₂=>r=Value.none∧Q (.ref s.heap.objs.size) s₂) E) { s with heap:=h,toks:=tk }:=by
  intro h c₁ tk k1 k2 k3 k4
  refine codeAny_extend_loopS (A:=A.in1) (Walks.listRev (A:=A.in1.in1) hh it l hne items).toS hn s.heap.objs.size (by simp [hSi,hSl]) .none items.size 0 _ #[] c₁ rfl (Nat.zero_le _) ⟨Nat.zero_le _,by simpa using k1,k2⟩ k4 (ItemsOf.nil _) fun s' acc' c' hm hS' hacc=>?_
  rw [Moved.eq_with hm]
  refine ⟨rfl,hQ s'.heap s'.toks acc' c' (fun b o hb e=>hm.heap b o (fun hmem=>?_) (k3 b o e)) hS' hacc⟩
  rcases List.mem_cons.mp hmem with e' | hmem
  ·exact absurd (Heap.lt_size e) (by rw [e'];exact Nat.lt_irrefl _)
  ·exact hb (List.mem_singleton.mp hmem)
 unfold Builtin.List.listExtendWith
 refine wpAny_bind (wpAny_typeOf (T:= "list_reverseiterator") hit2.typeIs ?_)
 have h1:Builtin.List.listSameRef (.ref s.heap.objs.size) (.ref it)=false:=by simp [Builtin.List.listSameRef,hSi]
 simp only [h1,show (Value.type "list_reverseiterator" == Value.type "list")=false from rfl,show (Value.type "list_reverseiterator" == Value.type "tuple")=false from rfl,Bool.or_false,Bool.false_eq_true,if_false]
 refine wpAny_bind (wpAny_pyIter_revIter hit2 ?_)
 refine wpAny_bind (wpAny_holding (ZJt hit2.typeIs ?_))
 refine wpAny_ite_split (fun hab=>absurd hab (by decide)) (fun _=>wpAny_pure ⟨plainId_quiet PySem.F.plain_extend_loop _,key _ _ _ hit2 hl2 oth hS₂⟩)
end
theorem ZGN:bootBuiltins "reversed" = some (.type "reversed"):=by decide +kernel
theorem ZIh {its:List Value}:∀ {acc:Array Value},ItemsOf (fun i v=>its.toArray[its.toArray.size - 1 - i]? = some v) acc its.toArray.size->acc.toList=its.reverse:=by
 intro acc h
 refine List.ext_getElem? fun i=>?_
 have hs:acc.size=its.length:=by simpa using h.1
 by_cases hi:i<its.length
 ·have e1:acc.toList[i]? = some acc[i]:=by simp [hs,hi]
  have e2:=h.2 i acc[i] (by simp [hs,hi])
  rw [e1,List.getElem?_reverse hi,<-e2]
  simp
 ·rw [List.getElem?_eq_none (by simp;omega),List.getElem?_eq_none (by simp;omega)]
section
variable {X:Cx}
def ZKI (K:PySem.W.Frag) (te:TE):TE:=fun σ H Q=>te σ H fun x H1=>∃ l xs,x=.ref l∧SqL K H1 l xs∧∀ q,H1 q=none->Q (.ref q) (upd H1 q (.lst xs.reverse))
theorem Vals.rev:∀ {xs:List V} {us:List Value},Vals xs us->Vals xs.reverse us.reverse:=by
 intro xs us r
 induction r with
 | nil=>exact .nil
 | cons a r ih=>rw [List.reverse_cons,List.reverse_cons];exact ih.append (.cons a .nil)
theorem ZHQ {e:Expr} {te:TE} {p1 p2 pos1 pos2:Pos} (hc:X.calm=true) (he:PE X e te) (hl:Gl X "list") (hr:Gl X "reversed") (ml:X.mg "list" = none) (mr:X.mg "reversed" = none)
  (hs1:starEach [.Call (.Name "reversed" p2) [e] [] pos2] X.env=(false,eval (.Call (.Name "reversed" p2) [e] [] pos2) X.env) :: starEach [] X.env:=by rfl) (hs2:starEach [e] X.env=(false,eval e X.env) :: starEach [] X.env:=by rfl) :
  PE X (.Call (.Name "list" p1) [.Call (.Name "reversed" p2) [e] [] pos2] [] pos1) (ZKI X.K te):=by
 intro pins s σ H Q I h
 refine wpAny_Call_Name_kw (ZC3 I hl ml ZBi ?_)
 refine PyProof.Rows.callWith_type1 ?_ hs1 rfl
 rw [hs1]
 refine Calls.spliced_cons (wpAny_Call_Name_kw (ZC3 I hr mr ZGN ?_))
 refine PyProof.Rows.callWith_type1 ?_ hs2 rfl
 rw [hs2]
 refine Calls.spliced_cons (thn (he pins s σ H _ I h) fun u s1 ⟨x,H1,I1,r1,l,xs,ex,hq,q⟩=>Calls.spliced_nil ?_)
 subst ex
 cases r1
 obtain ⟨its,rv,pl,hz⟩:=I1.list hq
 have il:=pl.isList
 have ll:=rv.length
 obtain ⟨ol,gol,rol⟩:=id il
 refine call_reversed_list il (Calls.spliced_nil ?_)
 have lt:=Heap.lt_size gol
 refine ZGD (s:={ s1 with heap:=s1.heap.push (revObj l ((its.toArray.size:Int) - 1)) }) (items:=its.toArray) (I1.ok.hd hc) ⟨_,Heap.get?_push_size _ rfl,rfl,rfl⟩ ⟨ol,Heap.get?_push_of_some _ gol,rol⟩ (Nat.ne_of_lt lt) (by simp;omega) fun h' tk acc c k1 k2 k3=>?_
 have sz:(s1.heap.push (revObj l ((its.toArray.size:Int) - 1))).objs.size=s1.heap.objs.size+1:=Heap.size_push _ _
 have ea:acc.toList=its.reverse:=ZIh k3
 refine ⟨.ref (s1.heap.push (revObj l ((its.toArray.size:Int) - 1))).objs.size,_,I1.laid (a:=(s1.heap.push (revObj l ((its.toArray.size:Int) - 1))).objs.size) (o:=.lst xs.reverse) (t':=tk) (fun b o eo=>k1 b o (Nat.ne_of_lt (Heap.lt_size eo)) (Heap.get?_push_of_some _ eo)) (by rw [sz];exact Nat.le_succ _) ⟨by rw [List.length_reverse];exact hz,acc.toList,c,by rw [ea];exact Vals.rev rv,by rw [Array.toArray_toList];exact k2⟩,rfl,q _ (I1.hok.fresh (by rw [sz];exact Nat.le_succ _))⟩
end
section
variable {X:Cx}
theorem ZKX (hu:X.A.units<cLine):OpR X (compareOp .NotEq) (fun x y H Q=>∃ p b xs,x=.ref p∧y=.ref b∧SqL X.K H p xs∧SqL X.K H b []∧Q (.bl (!xs.isEmpty)) H):=by
 intro pins s σ H x y v u Q I rx ry h
 obtain ⟨p,b,xs,rfl,rfl,h1,h2,q⟩:=h
 cases rx
 cases ry
 obtain ⟨its,r1,p1,z1⟩:=I.list h1
 obtain ⟨its2,r2,p2,z2⟩:=I.list h2
 have l1:=r1.length
 have l2:=r2.length
 have e2:its2=[]:=List.eq_nil_of_length_eq_zero (by rw [<-l2];rfl)
 subst e2
 cases xs with
 | nil=>
  have e1:its=[]:=List.eq_nil_of_length_eq_zero (by rw [<-l1];rfl)
  subst e1
  exact PySem.SeqAt.RcNeAt.lists (e:=fun _=>true) p1.isList p2.isList rfl hu (fun j h1 _=>absurd h1 (by simp)) X.prog X.w X.xe _ (ZAh I q (by simp))
 | cons x r=>exact PySem.SeqAt.RcNeAt.lists_lengths p1.isList p2.isList (by simp;intro e;subst e;simp at l1) hu X.prog X.w X.xe _ (ZAh I q rfl)
end
end L2
namespace Tw
open PySem PySem.Spec L2 PyProof.Rows
structure Twg where
 h:Nat
 rows:List Row
 bs:List Nat
def Twg.d:Twg:=⟨0,[],[]⟩
def gd (ts:List Twg) (i:Nat):Twg:=ts.getD i .d
theorem ZNe {ts:List Twg} {i:Nat} {t:Twg} (h:ts[i]? = some t):gd ts i=t:=by
 unfold gd
 rw [List.getD_eq_getElem?_getD,h]
 rfl
theorem ZA8 {ts:List Twg} {i:Nat} (h:i<ts.length):ts[i]? = some (gd ts i):=by
 unfold gd
 rw [List.getD_eq_getElem?_getD,List.getElem?_eq_getElem h]
 rfl
structure TwOk (gt:List KT) (ts:List Twg) (i:Nat) (t:Twg):Prop where
 ne:t.rows≠[]
 up:(t.rows.map (·.1)).Pairwise fun a b=>a.lt b=true
 inn:∀ r∈t.rows,r.1∈gt∧r.fit
 leaf:t.h=0->t.bs=[]∧t.rows.length<=4
 stem:t.h≠0->2<=t.bs.length∧t.bs.length<=4∧(∀ b∈t.bs,b<i∧(gd ts b).h+1=t.h)∧t.rows=t.bs.flatMap fun b=>(gd ts b).rows
def WF (gt:List KT) (ts:List Twg):Prop:=∀ i t,ts[i]? = some t->TwOk gt ts i t
theorem ZEF:∀ {gt l:List KT},gt.Pairwise (fun a b=>a.lt b=true)->l.Pairwise (fun a b=>a.lt b=true)->(∀ x∈l,x∈gt)->l.length<=gt.length
 | [],[],_,_,_=>Nat.le_refl _
 | [],x :: _,_,_,h=>absurd (h x List.mem_cons_self) (by simp)
 | g :: gt,l,hg,hl,h=>by
  have hg':=List.pairwise_cons.mp hg
  by_cases hm:g∈l
  ·cases l with
   | nil=>simp at hm
   | cons x l=>
    have hl':=List.pairwise_cons.mp hl
    have hx:x=g:=by
     rcases List.mem_cons.mp hm with e | e
     ·exact e.symm
     ·rcases List.mem_cons.mp (h x List.mem_cons_self) with e2 | e2
      ·exact e2
      ·have a1:=hl'.1 g e
       have a2:=hg'.1 x e2
       have:=ZDp _ _ a1
       rw [a2] at this
       cases this
    have:l.length<=gt.length:=ZEF hg'.2 hl'.2 fun y hy=>by
     rcases List.mem_cons.mp (h y (List.mem_cons_of_mem _ hy)) with e | e
     ·have:=hl'.1 y hy
      rw [hx,e] at this
      have z:=ZDp _ _ this
      rw [this] at z
      cases z
     ·exact e
    rw [List.length_cons,List.length_cons]
    omega
  ·have:l.length<=gt.length:=ZEF hg'.2 hl fun y hy=>by
    rcases List.mem_cons.mp (h y hy) with e | e
    ·exact absurd (e ▸ hy) hm
    ·exact e
   rw [List.length_cons]
   omega
theorem TwOk.len {gt:List KT} {ts:List Twg} {i:Nat} {t:Twg} (h:TwOk gt ts i t) (hg:gt.Pairwise fun a b=>a.lt b=true):t.rows.length<=gt.length:=by
 have:=ZEF hg h.up fun x hx=>by
  obtain ⟨r,hr,rfl⟩:=List.mem_map.mp hx
  exact (h.inn r hr).1
 rwa [List.length_map] at this
def kindOf (t:Twg):Str:=if t.h=0 then "leaf" else "stem"
def TwL (H:Hp) (t:Twg) (v:V):Prop:=∃ tp tl us,v=.ref tp∧H tp=some (.tup [.str (kindOf t),.ref tl])∧H tl=some (.lst us)∧(t.h=0->KeysAt H (ZBA t.rows) us)∧(t.h≠0->us=t.bs.map fun b=>V.int (b:Nat))
def TwsAt (H:Hp) (ts:List Twg) (kvs:List (Key×V)):Prop:=kvs.map (·.1)=(List.range ts.length).map (fun i:Nat=>(Sum.inl (i:Int):Key))∧∀ (i:Nat) (t:Twg),ts[i]? = some t->∃ v,ZBj kvs (Sum.inl (i:Int))=some v∧TwL H t v
theorem TwL.same {H H':Hp} {t:Twg} {v:V} (h:TwL H t v) (s:Same H H'):TwL H' t v:=by
 obtain ⟨tp,tl,us,e1,e2,e3,e4,e5⟩:=h
 exact ⟨tp,tl,us,e1,s _ _ e2,s _ _ e3,fun z=>(e4 z).mono (Same.tups s) _ _,e5⟩
theorem TwsAt.same {H H':Hp} {ts:List Twg} {kvs:List (Key×V)} (h:TwsAt H ts kvs) (s:Same H H'):TwsAt H' ts kvs:=⟨h.1,fun i t e=>by
 obtain ⟨v,e1,e2⟩:=h.2 i t e
 exact ⟨v,e1,e2.same s⟩⟩
def ZBI (ts:List Twg) (todo:List Nat):List Row:=todo.reverse.flatMap fun b=>(gd ts b).rows
def ZDO (ts:List Twg) (todo:List Nat):Nat:=(todo.map fun b=>5 ^ (gd ts b).h).sum
theorem ZGp {ts:List Twg} {gt:List KT} (hw:WF gt ts):∀ {l:List Nat},(∀ b∈l,b<ts.length)->l.length<=(l.flatMap fun b=>(gd ts b).rows).length
 | [],_=>Nat.le_refl _
 | b :: l,h=>by
  have ih:=ZGp hw (l:=l) fun x hx=>h x (List.mem_cons_of_mem _ hx)
  have hb:=hw b _ (ZA8 (h b List.mem_cons_self))
  have:1<=(gd ts b).rows.length:=List.length_pos_iff.mpr hb.ne
  rw [List.flatMap_cons,List.length_append,List.length_cons]
  omega
theorem ZNK {l:List Nat} {c:Nat} (f:Nat->Nat):(∀ b∈l,f b=c)->(l.map f).sum=l.length * c:=by
 induction l with
 | nil=>intro _;simp
 | cons b l ih=>
  intro h
  rw [List.map_cons,List.sum_cons,ih (fun x hx=>h x (List.mem_cons_of_mem _ hx)),h b List.mem_cons_self,List.length_cons,Nat.succ_mul]
  omega
theorem ZLW {ts:List Twg} {l:List Nat} {b:Nat}:ZDO ts l<ZDO ts (l++[b]):=by
 unfold ZDO
 rw [List.map_append,List.sum_append]
 have:0<5 ^ (gd ts b).h:=Nat.pow_pos (by decide)
 simp
 try omega
theorem ZMe {ts:List Twg} {gt:List KT} {l:List Nat} {b:Nat} (hw:WF gt ts) (hb:b<ts.length) (hh:(gd ts b).h≠0):ZDO ts (l++(gd ts b).bs.reverse)<ZDO ts (l++[b]):=by
 obtain ⟨h1,h2,h3,_⟩:=(hw b _ (ZA8 hb)).stem hh
 unfold ZDO
 rw [List.map_append,List.sum_append,List.map_append,List.sum_append]
 have e:((gd ts b).bs.reverse.map fun b=>5 ^ (gd ts b).h).sum=(gd ts b).bs.length * 5 ^ ((gd ts b).h - 1):=by
  have:=ZNK (l:=(gd ts b).bs.reverse) (c:=5 ^ ((gd ts b).h - 1)) (fun b=>5 ^ (gd ts b).h) fun c hc=>by
   have:=(h3 c (List.mem_reverse.mp hc)).2
   show 5 ^ (gd ts c).h=_
   congr 1
   omega
  rw [this,List.length_reverse]
 rw [e]
 have e2:5 ^ (gd ts b).h=5 * 5 ^ ((gd ts b).h - 1):=by
  have:(gd ts b).h=((gd ts b).h - 1)+1:=by omega
  rw [this,Nat.pow_succ,Nat.mul_comm]
  simp
 have pos:0<5 ^ ((gd ts b).h - 1):=Nat.pow_pos (by decide)
 simp only [List.map_cons,List.map_nil,List.sum_cons,List.sum_nil,Nat.add_zero]
 rw [e2]
 have:(gd ts b).bs.length * 5 ^ ((gd ts b).h - 1)<=4 * 5 ^ ((gd ts b).h - 1):=Nat.mul_le_mul_right _ h2
 omega
theorem ZBK {H H':Hp} {a:Addr} {o:HO} (s:Same H H') (n:H a=none):Same H (upd H' a o):=fun b u e=>by rw [ZAG (ZAB e n)];exact s b u e
abbrev iN (l:List Nat):List V:=l.map fun b=>V.int (b:Nat)
theorem ZE5 (a b:List Row):ZBA (a++b)=ZBA a++ZBA b:=List.map_append
section
variable {P:Program} {w:World} {K:PySem.W.Frag} {mg:Str->Option Value} {base:Heap} {f:Addr} {fd:FuncData}
structure LawT (gt:List KT) (H:Hp) (d:Addr) (ts:List Twg) (kvs:List (Key×V)):Prop where
 dict:H d=some (.dK kvs)
 tws:TwsAt H ts kvs
 wf:WF gt ts
 len:gt.length=64
 up:gt.Pairwise fun a b=>a.lt b=true
theorem LawT.same {gt:List KT} {H H':Hp} {d:Addr} {ts:List Twg} {kvs:List (Key×V)} (h:LawT gt H d ts kvs) (s:Same H H'):LawT gt H' d ts kvs:=⟨s _ _ h.dict,h.tws.same s,h.wf,h.len,h.up⟩
theorem LawT.get {gt:List KT} {H:Hp} {d:Addr} {ts:List Twg} {kvs:List (Key×V)} (h:LawT gt H d ts kvs) {i:Nat} (hi:i<ts.length):∃ tp tl us,DGet H d (.int (i:Nat)) (some (.ref tp))∧H tp=some (.tup [.str (kindOf (gd ts i)),.ref tl])∧H tl=some (.lst us)∧((gd ts i).h=0->KeysAt H (ZBA (gd ts i).rows) us)∧((gd ts i).h≠0->us=iN (gd ts i).bs):=by
 obtain ⟨v,e1,tp,tl,us,rfl,e2,e3,e4,e5⟩:=h.tws.2 i _ (ZA8 hi)
 exact ⟨tp,tl,us,e1 ▸ DGet.k (k:=Sum.inl (i:Int)) h.dict,e2,e3,e4,e5⟩
def ZEY (gt:List KT):Sp:=fun vs H Q _=>∃ (d:Addr) (n:Nat) (ts:List Twg) (kvs:List (Key×V)),vs=[.ref d,.int n]∧LawT gt H d ts kvs∧n<ts.length ∧
 ∀ (H':Hp) (D:Addr) (us:List V),Same H H'->H D=none->H' D=some (.lst us)->KeysAt H' (ZBA (gd ts n).rows) us->Q (.ref D) H'
abbrev ZMJ:List Str:=["_law_twigs","_law_number","_law_todo","_law_found","_law_kind","_law_what"]
theorem scRowsOf:FnScope ZMJ ["_law_twigs","_law_number"] (ZAI ZGG):=⟨rfl,rfl,rfl,by decide +kernel,rfl,by decide +kernel,by decide +kernel⟩
theorem ZIp {gt:List KT} (F:Fun K "_law_rows_of" "_law_rows_of" ZGG f fd) (T:Txt mg) (Tr:mg "reversed" = none):FnOk P w K mg base CX0 1 f fd ["_law_twigs","_law_number"] (ZEY gt):=by
 refine F.ok scRowsOf (fun vs H Q E h=>(by obtain ⟨_,_,_,_,rfl,_⟩:=h;rfl)) (fun cdv A outer s H vs Q E hr h=>?_)
 obtain ⟨d,n,ts,kvs,rfl,L,hn,k⟩:=h
 have nd:=scRowsOf.nd
 have hu:=ZCW hr
 refine ⟨_,ZAD (ZAU (i:=2) nd rfl (Or.inl rfl) (ZAx (ZAN (pv 1) ZAC))) (ZAD (ZAU (i:=3) nd rfl (Or.inl rfl) (ZAx ZAC))
  (ZAD (ZC7 PassesOwn.never (ZAX (ZKX hr.units0) (pv 2) (ZAx ZAC) (ZAW _))
   (ZAD (ZDK (ZBJ hu (pv 0) (ZGW PySem.F.plainAttrs_list PySem.F.slot_list_pop PySem.F.type_list_pop ZNV (pv 2)) (fun _ _=>rfl)) (ZDu rfl (ZAj (ZAZ (i:=4) nd rfl (Or.inl rfl)) (ZAj (ZAZ (i:=5) nd rfl (Or.inl rfl)) ZCp))))
   (ZAH (ZAf (ZAX ZCA (pv 4) ZAl (ZAW _))
    (ZAH (ZAU (i:=3) nd rfl (Or.inl rfl) (ZAb ZFP (pv 3) (ZAm ZA0 rfl T.list ZBi (ZAN (pv 5) ZAC)))))
    (ZAH (ZAU (i:=2) nd rfl (Or.inl rfl) (ZAb ZFP (pv 2) (ZHQ rfl (pv 5) rfl rfl T.list Tr))))))))
  (ZAH (ZAQ (pv 3))))),?_⟩
 refine ⟨_,rfl,nn (Nat.le_of_ble_eq_true rfl),fun ta nta=>⟨nn (Nat.le_of_ble_eq_true rfl),fun fa nfa=>?_⟩⟩
 have taf:ta≠fa:=fun z=>by rw [<-z,ZAA] at nfa;cases nfa
 have nfa':H fa=none:=by rw [ZAG (Ne.symm taf)] at nfa;exact nfa
 have l64:=(L.wf n _ (ZA8 hn)).len L.up
 rw [L.len] at l64
 refine ⟨fun m σ H'=>∃ (ta fa:Addr) (todo:List Nat) (found:List Row) (us:List V) (k4 k5:Option V),m=ZDO ts todo∧σ=[some (.ref d),some (.int n),some (.ref ta),some (.ref fa),k4,k5]∧Same H H'∧H ta=none∧H fa=none∧ta≠fa∧H' ta=some (.lst (iN todo))∧H' fa=some (.lst us)∧KeysAt H' (ZBA found) us∧(∀ b∈todo,b<ts.length)∧found++ZBI ts todo=(gd ts n).rows,
  ⟨_,ta,fa,[n],[],[],none,none,rfl,rfl,ZBK (ZAE nta _) nfa',nta,nfa',taf,by rw [ZAG taf];exact ZAA,ZAA,.nil,fun b hb=>by rw [List.mem_singleton.mp hb];exact hn,by simp [ZBI]⟩,?_⟩
 rintro m σ H1 ⟨ta,fa,todo,found,us,k4,k5,rfl,rfl,s1,nta,nfa,taf,hta,hfa,hk,hb,hr1⟩
 refine ⟨_,rfl,nn (Nat.le_of_ble_eq_true rfl),fun e0 he0=>?_⟩
 have g0:=ZAE he0 (.lst [])
 refine ⟨ta,e0,iN todo,rfl,rfl,SqL.of (g0 _ _ hta),SqL.of ZAA,_,rfl,?_⟩
 have hta1:=g0 _ _ hta
 have hfa1:=g0 _ _ hfa
 have hk1:=hk.mono (Same.tups g0) _ _
 have s2:=s1.trans g0
 generalize upd H1 e0 (.lst [])=H2 at hta1 hfa1 hk1 s2 ⊢
 have lf:found.length+(ZBI ts todo).length=(gd ts n).rows.length:=by rw [<-List.length_append,hr1]
 have lt:todo.length<=(ZBI ts todo).length:=by
  have:=ZGp L.wf (l:=todo.reverse) fun b h=>hb b (List.mem_reverse.mp h)
  rwa [List.length_reverse] at this
 rcases List.eq_nil_or_concat todo with z | ⟨rest,b,z⟩
 ·subst z
  refine ZAz ?_
  have e1:found=(gd ts n).rows:=by simpa [ZBI] using hr1
  rw [e1] at hk1
  exact ⟨_,rfl,k H2 fa us s2 nfa hfa1 hk1⟩
 ·rw [List.concat_eq_append] at z
  subst z
  have ene:(!(iN (rest++[b])).isEmpty)=true:=by simp [iN]
  rw [ene]
  refine ZBb ⟨_,fun _ _ z=>z,?_⟩
  have bl:b<ts.length:=hb b (by simp)
  have eI:iN (rest++[b])=iN rest++[.int (b:Nat)]:=by simp [iN]
  refine ⟨_,rfl,_,rfl,.inl ⟨rfl,_,SqL.of hta1⟩,ta,iN (rest++[b]),.int (b:Nat),rfl,rfl,hta1,by rw [eI];simp,?_⟩
  have hta3:upd H2 ta (.lst (iN (rest++[b])).dropLast) ta=some (.lst (iN rest)):=by rw [ZAA,eI,List.dropLast_concat]
  have hfa3:upd H2 ta (.lst (iN (rest++[b])).dropLast) fa=some (.lst us):=by rw [ZAG (Ne.symm taf)];exact hfa1
  have s3:Same H (upd H2 ta (.lst (iN (rest++[b])).dropLast)):=ZBK s2 nta
  have hk3:KeysAt (upd H2 ta (.lst (iN (rest++[b])).dropLast)) (ZBA found) us:=hk1.mono (fun c xs e=>by rw [ZAG (ZAJ e hta1 (by intro z;cases z))];exact e) _ _
  generalize upd H2 ta (.lst (iN (rest++[b])).dropLast)=H3 at hta3 hfa3 s3 hk3 ⊢
  obtain ⟨tp,tl,ws,g1,e2,e3,e4,e5⟩:=(L.same s3).get bl
  have er:ZBI ts (rest++[b])=(gd ts b).rows++ZBI ts rest:=by simp [ZBI]
  have lr:(ZBI ts (rest++[b])).length=(gd ts b).rows.length+(ZBI ts rest).length:=by rw [er,List.length_append]
  have lus:us.length=found.length:=by have:=hk3.length;rw [<-this];exact List.length_map _
  refine ⟨d,.ref tp,rfl,g1,tp,_,rfl,SqT.of e2,rfl,_,_,rfl,_,_,rfl,rfl,?_⟩
  refine ⟨_,rfl,rfl,_,rfl,?_⟩
  by_cases hh:(gd ts b).h=0
  ·have ek:decide (V.str (kindOf (gd ts b))=V.str "leaf")=true:=decide_eq_true (by unfold kindOf;rw [if_pos hh])
   rw [ek]
   have kk:=e4 hh
   have lw:ws.length=(gd ts b).rows.length:=by have:=kk.length;rw [<-this];exact List.length_map _
   refine ZBb ⟨_,rfl,_,rfl,tl,ws,rfl,.inl (SqL.of e3),fun q1 n1=>?_⟩
   have g4:=ZAE n1 (.lst ws)
   refine ⟨fa,q1,us,ws,rfl,rfl,g4 _ _ hfa3,ZAA,Nat.le_of_lt (ZAO (by omega)),fun q2 n2=>?_⟩
   have g5:=ZAE n2 (.lst (us++ws))
   have g45:=g4.trans g5
   have nq2:=Same.free (s3.trans g4) n2
   have tq:ta≠q2:=fun z=>by rw [<-z,g4 _ _ hta3] at n2;cases n2
   refine ⟨_,ZLW,ta,q2,rest,found++(gd ts b).rows,us++ws,_,_,rfl,rfl,s3.trans g45,nta,nq2,tq,g45 _ _ hta3,ZAA,?_,fun c hc=>hb c (List.mem_append_left _ hc),?_⟩
   ·rw [ZE5]
    exact (hk3.mono (Same.tups g45) _ _).append (kk.mono (Same.tups g45) _ _)
   ·rw [List.append_assoc,<-er]
    exact hr1
  ·have ek:decide (V.str (kindOf (gd ts b))=V.str "leaf")=false:=decide_eq_false (by unfold kindOf;rw [if_neg hh];decide)
   rw [ek]
   have ew:=e5 hh
   subst ew
   obtain ⟨h1,h2,h3,h4⟩:=(L.wf b _ (ZA8 bl)).stem hh
   refine ZAz ⟨_,rfl,_,rfl,tl,_,rfl,SqL.of e3,fun q1 n1=>?_⟩
   have g4:=ZAE n1 (.lst (iN (gd ts b).bs).reverse)
   refine ⟨ta,q1,iN rest,_,rfl,rfl,g4 _ _ hta3,ZAA,Nat.le_of_lt (ZAO (by simp [iN];simp at lt;omega)),fun q2 n2=>?_⟩
   have g5:=ZAE n2 (.lst (iN rest++(iN (gd ts b).bs).reverse))
   have g45:=g4.trans g5
   have nq2:=Same.free (s3.trans g4) n2
   have fq:q2≠fa:=fun z=>by rw [z,g4 _ _ hfa3] at n2;cases n2
   refine ⟨_,ZMe L.wf bl hh,q2,fa,rest++(gd ts b).bs.reverse,found,us,_,_,rfl,rfl,s3.trans g45,nq2,nfa,fq,?_,g45 _ _ hfa3,hk3.mono (Same.tups g45) _ _,fun c hc=>?_,?_⟩
   ·rw [ZAA]
    simp [iN]
   ·rcases List.mem_append.mp hc with hc | hc
    ·exact hb c (List.mem_append_left _ hc)
    ·have:=(h3 c (List.mem_reverse.mp hc)).1
     omega
   ·rw [<-hr1,er,h4]
    simp [ZBI]
end
theorem ZKS {xs:List V} {j:Nat} {v:V} (h1:1<=j) (h2:j<=xs.length) (h:xs[xs.length - j]? = some v):atI xs (-(j:Int))=some v:=by
 unfold atI
 have e:ixN xs.length (-(j:Int))=some (xs.length - j):=by
  unfold ixN
  rw [if_neg (by omega),if_pos (by omega)]
  congr 1
  omega
 rw [e]
 exact h
def rd:Row:=(.int 0,.int 0)
def ZA1 (t:Twg):Lab:=⟨t.h,(t.rows.getD 0 rd).1,(t.rows.getD (t.rows.length - 1) rd).1,t.rows.length⟩
theorem ZFY {H:Hp} {rs:List Row} {us:List V} {i:Nat} {u:V} (h:KeysAt H (ZBA rs) us) (e:us[i]? = some u):∃ a vk vv,rs[i]? = some (rs.getD i rd)∧u=.ref a∧H a=some (.tup [vk,vv])∧KeyAt H (rs.getD i rd).1 vk∧KeyAt H (rs.getD i rd).2 vv:=by
 obtain ⟨t,et,kt⟩:=h.get e
 unfold ZBA at et
 rw [List.getElem?_map] at et
 obtain ⟨r,er,rfl⟩:=Option.map_eq_some_iff.mp et
 have eg:rs.getD i rd=r:=by rw [List.getD_eq_getElem?_getD,er];rfl
 unfold ZOY at kt
 rw [KeyAt] at kt
 obtain ⟨a,vs,rfl,ha,hk⟩:=kt
 rw [KeysAt] at hk
 obtain ⟨v1,r1,rfl,k1,hk⟩:=hk
 rw [KeysAt] at hk
 obtain ⟨v2,r2,rfl,k2,hk⟩:=hk
 rw [KeysAt] at hk
 subst hk
 rw [eg]
 exact ⟨a,v1,v2,er,rfl,ha,k1,k2⟩
section
variable {P:Program} {w:World} {K:PySem.W.Frag} {mg:Str->Option Value} {base:Heap} {f:Addr} {fd:FuncData}
def ZCZ (gt:List KT):Sp:=fun vs H Q _=>∃ (d:Addr) (n:Nat) (ts:List Twg) (kvs:List (Key×V)),vs=[.ref d,.int n]∧LawT gt H d ts kvs∧n<ts.length ∧
 ∀ (H':Hp) (v:V),Same H H'->LabAt H' (ZA1 (gd ts n)) v->Q v H'
abbrev ZLg:List Str:=["_law_twigs","_law_number","_law_here","_law_high","_law_rows"]
theorem scLLabel:FnScope ZLg ["_law_twigs","_law_number"] (ZAI ZJS):=⟨rfl,rfl,rfl,by decide +kernel,rfl,by decide +kernel,by decide +kernel⟩
theorem ZJB {gt:List KT} (F:Fun K "_law_label" "_law_label" ZJS f fd) (T:Txt mg) (DR:DefOk P w K mg base 1 "_law_rows_of" ["_law_twigs","_law_number"] (ZEY gt)):FnOk P w K mg base CX0 2 f fd ["_law_twigs","_law_number"] (ZCZ gt):=by
 refine F.ok scLLabel (fun vs H Q E h=>(by obtain ⟨_,_,_,_,rfl,_⟩:=h;rfl)) (fun cdv A outer s H vs Q E hr h=>?_)
 obtain ⟨d,n,ts,kvs,rfl,L,hn,k⟩:=h
 have nd:=scLLabel.nd
 have hu:=ZCW hr
 refine ⟨_,ZAD (ZAU (i:=2) nd rfl (Or.inl rfl) (pv 1)) (ZAD (ZAU (i:=3) nd rfl (Or.inl rfl) ZAF)
  (ZAD (ZC7 PassesOwn.never (ZAX ZCA (ZAV (r:=rIx K) ZAP (ZBJ hu (pv 0) (pv 2) (fun _ _=>rfl)) ZAF (fun _ _=>rfl)) ZAl (ZAW _))
   (ZAD (ZAU (i:=2) nd rfl (Or.inl rfl) (ZAV (r:=rIx K) ZAP (ZAV (r:=rIx K) ZAP (ZBJ hu (pv 0) (pv 2) (fun _ _=>rfl)) ZAF (fun _ _=>rfl)) ZAF (fun _ _=>rfl)))
   (ZAH (ZAU (i:=3) nd rfl (Or.inl rfl) (ZAb ZBE (pv 3) ZAF)))))
  (ZAD (ZAU (i:=4) nd rfl (Or.inl rfl) (ZAT DR hr (ZAN (pv 0) (ZAN (pv 1) ZAC))))
  (ZAH (ZAQ (ZAk (pa4 (pv 3) (ZAV (r:=rIx K) ZAP (ZAV (r:=rIx K) ZAP (pv 4) ZAF (fun _ _=>rfl)) ZAF (fun _ _=>rfl)) (ZAV (r:=rIx K) ZAP (ZAV (r:=rIx K) ZAP (pv 4) (ZGS ZDP ZAF) (fun _ _=>rfl)) ZAF (fun _ _=>rfl)) (ZAK ZAS rfl T.len ZAv (ZAN (pv 4) ZAC))))))))),?_⟩
 refine ⟨_,rfl,?_⟩
 refine ⟨fun m σ H'=>∃ (b hi:Nat),m=(gd ts b).h∧σ=[some (.ref d),some (.int n),some (.int (b:Nat)),some (.int (hi:Nat)),none]∧H'=H∧b<ts.length∧hi+(gd ts b).h=(gd ts n).h,
  ⟨_,n,0,rfl,rfl,rfl,hn,by omega⟩,?_⟩
 rintro m σ H1 ⟨b,hi,rfl,rfl,rfl,bl,hh⟩
 obtain ⟨tp,tl,ws,g1,e2,e3,e4,e5⟩:=L.get bl
 refine ⟨_,rfl,_,rfl,d,.ref tp,rfl,g1,.inr (.inl ⟨tp,_,0,_,rfl,rfl,SqT.of e2,rfl,?_⟩)⟩
 refine ⟨rfl,_,rfl,?_⟩
 by_cases h0:(gd ts b).h=0
 ·have ek:decide (V.str (kindOf (gd ts b))=V.str "stem")=false:=decide_eq_false (by unfold kindOf;rw [if_pos h0];decide)
  rw [ek]
  refine ZAz ?_
  refine ⟨_,rfl,_,rfl,d,n,ts,kvs,rfl,L,hn,fun H2 D us s2 nD hD kD=>?_⟩
  have okn:=L.wf n _ (ZA8 hn)
  have lus:us.length=(gd ts n).rows.length:=by have:=kD.length;rw [<-this];exact List.length_map _
  have l64:=okn.len L.up
  rw [L.len] at l64
  have lpos:0<us.length:=by rw [lus];exact List.length_pos_iff.mpr okn.ne
  have f0:us[0]? = some us[0]:=List.getElem?_eq_getElem lpos
  have f1:us[us.length - 1]? = some (us[us.length - 1]'(by omega)):=List.getElem?_eq_getElem (by omega)
  obtain ⟨a0,k0,v0,r0,u0,t0,kk0,_⟩:=ZFY kD f0
  obtain ⟨a1,k1,v1,r1,u1,t1,kk1,_⟩:=ZFY kD f1
  rw [u0] at f0
  rw [u1] at f1
  refine ⟨_,rfl,_,rfl,.inl ⟨D,us,0,.ref a0,rfl,rfl,SqL.of hD,ZAn (j:=0) f0,.inr (.inl ⟨a0,_,0,k0,rfl,rfl,SqT.of t0,rfl,?_⟩)⟩⟩
  refine ⟨_,rfl,1,rfl,.inl ⟨D,us,-1,.ref a1,rfl,rfl,SqL.of hD,ZKS (j:=1) (Nat.le_refl _) lpos f1,.inr (.inl ⟨a1,_,0,k1,rfl,rfl,SqT.of t1,rfl,?_⟩)⟩⟩
  refine ⟨_,rfl,D,us,rfl,.inl (SqL.of hD),nn (Nat.le_of_ble_eq_true rfl),fun q nq=>?_⟩
  have g3:=ZAE nq (.tup [.int (hi:Nat),k0,k1,.int (us.length:Nat)])
  refine k _ _ (s2.trans g3) ⟨q,k0,k1,rfl,?_,kk0.mono (Same.tups g3) _ _,?_⟩
  ·rw [ZAA]
   have e1:(ZA1 (gd ts n)).h=(hi:Int):=by show ((gd ts n).h:Int)=_;omega
   have e2:(ZA1 (gd ts n)).m=(us.length:Int):=by show ((gd ts n).rows.length:Int)=_;omega
   rw [e1,e2]
  ·have ehi:(ZA1 (gd ts n)).hi=((gd ts n).rows.getD (us.length - 1) rd).1:=by rw [lus];rfl
   rw [ehi]
   exact kk1.mono (Same.tups g3) _ _
 ·have ek:decide (V.str (kindOf (gd ts b))=V.str "stem")=true:=decide_eq_true (by unfold kindOf;rw [if_neg h0])
  rw [ek]
  have ew:=e5 h0
  subst ew
  obtain ⟨h1,h2,h3,h4⟩:=(L.wf b _ (ZA8 bl)).stem h0
  obtain ⟨c,hc⟩:∃ c,(gd ts b).bs[0]? = some c:=⟨_,List.getElem?_eq_getElem (by omega)⟩
  have hc2:=h3 c (List.mem_of_getElem? hc)
  refine ZBb ⟨_,fun _ _ z=>z,?_⟩
  refine ⟨_,rfl,_,rfl,d,.ref tp,rfl,g1,.inr (.inl ⟨tp,_,1,_,rfl,rfl,SqT.of e2,rfl,.inl ⟨tl,_,0,.int (c:Nat),rfl,rfl,SqL.of e3,ZAn (j:=0) (by simp [iN,hc]),?_⟩⟩)⟩
  refine ⟨_,rfl,_,_,rfl,rfl,?_⟩
  exact ⟨(gd ts c).h,by omega,c,hi+1,rfl,by simp [List.set],rfl,by omega,by omega⟩
end
def abv (ts:List Twg) (i:Nat):List Nat:=(List.range ts.length).filter fun j=>decide (i∈(gd ts j).bs)
theorem ZOi (x:Nat) (l:List Nat):inV (.int (x:Nat)) (iN l)=decide (x∈l):=by
 unfold inV iN
 rw [List.any_map]
 induction l with
 | nil=>rfl
 | cons n l ih=>
  rw [List.any_cons,ih]
  have e:((fun y=>eqV y (V.int (x:Nat))) ∘ fun b:Nat=>V.int (b:Nat)) n=decide (n=x):=by
   show eqV (.int (n:Nat)) (.int (x:Nat))=_
   rw [Bool.eq_iff_iff]
   simp [eqV]
   omega
  rw [e]
  by_cases h:n=x
  ·subst h;simp
  ·have:¬ x=n:=fun z=>h z.symm
   simp [h,this]
theorem ZMg (l:List Nat):(iN l).all ZEG=true:=by
 unfold iN
 rw [List.all_map]
 exact List.all_eq_true.mpr fun _ _=>rfl
theorem ZG5 {J:It} {ix:List Nat} {σ:L2.St} {H:Hp} {tt:TT} {Q:VK} (ns:List Nat) (p:Nat->Bool) (hn:ns.length<=900)
  (hgo:∀ i H2,Same H H2->i<ns.length->J.go i H2) (hy:∀ i H2 x H3,Same H H2->i<ns.length->J.yld i H2 x H3->H3=H2∧(iN ns)[i]? = some x) (hstop:∀ H2,Same H H2->J.stop ns.length H2)
  (test:∀ H2 n (R:Bool->Hp->Prop),n∈ns->Same H H2->R (p n) H2->tt (ZDw σ ix (.int (n:Nat))) H2 R)
  (fin:∀ (D:Addr) (H2:Hp),Same H H2->H D=none->H2 D=some (.lst (iN (ns.filter p)))->Q (.ref D) H2):cEnd J σ ix tt (ZM7 0) H Q:=by
 refine ZGA (n:=ns.length) (fun i z=>(iN ns)[i]? = some z) (fun z=>match z with | .int n=>p n.toNat | _=>false) (fun D i ys H3=>Same H H3∧H D=none∧ys=iN ((ns.take i).filter p)) (ZAO (by omega))
  (fun D i ys H3 hi hP=>hgo i H3 hP.1 hi) (fun D i ys H3 z H4 hi hP hyy=>hy i H3 z H4 hP.1 hi hyy) (fun D ys H3 hP=>hstop H3 hP.1)
  (fun D hD=>⟨ZAE hD _,hD,rfl⟩) (fun D i ys H3 z hi hz hP R hR=>?_) (fun D i ys H3 z eD hi hz hk hP=>?_) (fun D i ys H3 z eD hi hz hk hP=>?_) (fun D ys H3 eD hP=>?_)
 ·unfold iN at hz
  rw [List.getElem?_map] at hz
  obtain ⟨n,en,rfl⟩:=Option.map_eq_some_iff.mp hz
  exact test H3 n R (List.mem_of_getElem? en) hP.1 hR
 ·obtain ⟨s3,nD,rfl⟩:=hP
  unfold iN at hz
  rw [List.getElem?_map] at hz
  obtain ⟨n,en,rfl⟩:=Option.map_eq_some_iff.mp hz
  refine ⟨ZBK s3 nD,nD,?_⟩
  have hk':p n=true:=hk
  rw [List.take_add_one,en,List.filter_append]
  simp [hk',iN]
 ·obtain ⟨s3,nD,rfl⟩:=hP
  unfold iN at hz
  rw [List.getElem?_map] at hz
  obtain ⟨n,en,rfl⟩:=Option.map_eq_some_iff.mp hz
  refine ⟨s3,nD,?_⟩
  have hk':p n=false:=hk
  rw [List.take_add_one,en,List.filter_append]
  simp [hk']
 ·obtain ⟨s3,nD,rfl⟩:=hP
  rw [List.take_of_length_le (Nat.le_refl _)] at eD
  exact fin D H3 s3 nD eD
theorem ZBf (n:Nat):((List.range n).map fun i:Nat=>(i:Int)).Pairwise (· <= ·):=by
 rw [List.pairwise_map]
 exact List.pairwise_lt_range.imp fun h=>by omega
section
variable {P:Program} {w:World} {K:PySem.W.Frag} {mg:Str->Option Value} {base:Heap} {f:Addr} {fd:FuncData}
def ZEh (gt:List KT):Sp:=fun vs H Q _=>∃ (d:Addr) (n:Nat) (ts:List Twg) (kvs:List (Key×V)),vs=[.ref d,.int n]∧LawT gt H d ts kvs∧ts.length<64 ∧
 ∀ (H':Hp) (D:Addr),Same H H'->H D=none->H' D=some (.lst (iN (abv ts n)))->Q (.ref D) H'
theorem scAbove:FnScope ["_law_twigs","_law_number"] ["_law_twigs","_law_number"] (ZAI ZIe):=⟨rfl,rfl,rfl,by decide +kernel,rfl,by decide +kernel,by decide +kernel⟩
theorem ZKH {gt:List KT} (F:Fun K "_law_above" "_law_above" ZIe f fd) (T:Txt mg):FnOk P w K mg base CX0 1 f fd ["_law_twigs","_law_number"] (ZEh gt):=by
 refine F.ok scAbove (fun vs H Q E h=>(by obtain ⟨_,_,_,_,rfl,_⟩:=h;rfl)) (fun cdv A outer s H vs Q E hr h=>?_)
 obtain ⟨d,n,ts,kvs,rfl,L,l64,k⟩:=h
 have nd:=scAbove.nd
 have hu:=ZCW hr
 refine ⟨_,ZAH (ZAQ (ZBk [0,1] ["_law_twigs","_law_number"] rfl (ZA5 (ZAK (ZBU rfl) rfl T.sorted ZBX (ZAN (pv 0) ZAC)))
  (fun _ _ _ _ _=>ZGJ (PW.pt (ZGs (ZAX ZCA (ZAV (r:=rIx K) ZAP (ZBJ hu (pv 1) (pv 0) (fun _ _=>rfl)) ZAF (fun _ _=>rfl)) ZAl (ZAW _)) (ZEf (ZAX (r:=rIn K false) ZIK (pv 2) (ZAV (r:=rIx K) ZAP (ZBJ hu (pv 1) (pv 0) (fun _ _=>rfl)) ZAF (fun _ _=>rfl)) rfl)))))
  (fun _ _ _ _ _=>pv 0) ⟨rfl,.inl rfl,rfl,rfl,.inl rfl,rfl,trivial⟩)),?_⟩
 refine ⟨_,rfl,d,kvs,(List.range ts.length).map fun i:Nat=>(i:Int),rfl,L.dict,(by rw [L.tws.1,List.map_map];rfl),ZBf _,by simpa using l64,fun p np=>?_⟩
 have eI:((List.range ts.length).map fun i:Nat=>(i:Int)).map V.int=iN (List.range ts.length):=by rw [List.map_map];rfl
 rw [eI]
 have g1:=ZAE np (.lst (iN (List.range ts.length)))
 have hp:upd H p (.lst (iN (List.range ts.length))) p=some (.lst (iN (List.range ts.length))):=ZAA
 generalize upd H p (.lst (iN (List.range ts.length)))=H1 at g1 hp ⊢
 refine ⟨p,rfl,⟨_,SqL.of hp⟩,ZG5 (List.range ts.length) (fun j=>decide (n∈(gd ts j).bs)) (by simp;omega) (fun i H3 s3 hi=>⟨_,.int (i:Nat),SqL.of (s3 _ _ hp),by simp [iN,List.getElem?_range (by simpa using hi)]⟩) (fun i H3 x H4 s3 hi hy=>⟨hy.1,hy.2 _ (SqL.of (s3 _ _ hp))⟩) (fun H3 s3=>⟨_,SqL.of (s3 _ _ hp),by simp [iN]⟩) (fun H2 j R hj s2 hR=>?_) (fun D H2 s2 nD hD=>?_)⟩
 ·have jl:j<ts.length:=List.mem_range.mp hj
  obtain ⟨tp,tl,ws,g2,e2,e3,e4,e5⟩:=(L.same (g1.trans s2)).get jl
  refine ⟨_,rfl,_,rfl,d,.ref tp,rfl,g2,.inr (.inl ⟨tp,_,0,_,rfl,rfl,SqT.of e2,rfl,?_⟩)⟩
  refine ⟨rfl,_,rfl,?_⟩
  by_cases h0:(gd ts j).h=0
  ·have ek:decide (V.str (kindOf (gd ts j))=V.str "stem")=false:=decide_eq_false (by unfold kindOf;rw [if_pos h0];decide)
   rw [ek]
   have eb:=((L.wf j _ (ZA8 jl)).leaf h0).1
   rw [eb,decide_eq_false (by simp)] at hR
   exact ZAz hR
  ·have ek:decide (V.str (kindOf (gd ts j))=V.str "stem")=true:=decide_eq_true (by unfold kindOf;rw [if_neg h0])
   rw [ek]
   have ew:=e5 h0
   subst ew
   refine ZBb ⟨_,rfl,_,rfl,_,rfl,d,.ref tp,rfl,g2,.inr (.inl ⟨tp,_,1,_,rfl,rfl,SqT.of e2,rfl,?_⟩)⟩
   refine ⟨tl,_,rfl,.inl (SqL.of e3),rfl,ZMg _,_,rfl,?_⟩
   rw [if_neg Bool.false_ne_true,ZOi]
   exact hR
 ·exact k H2 D (g1.trans s2) (Same.free g1 nD) hD
end
inductive Sh (ts:List Twg) (ho:Nat->Nat):Nat->Option Nat->Prop
 | here {i:Nat}:(abv ts i).length+ho i≠1->Sh ts ho i (some i)
 | top {i:Nat}:(abv ts i).length+ho i=1->abv ts i=[]->Sh ts ho i none
 | up {i j:Nat} {r:List Nat} {o:Option Nat}:(abv ts i).length+ho i=1->abv ts i=j :: r->Sh ts ho j o->Sh ts ho i o
theorem Sh.uniq {ts:List Twg} {ho:Nat->Nat} {i:Nat} {o p:Option Nat} (h:Sh ts ho i o) (g:Sh ts ho i p):o=p:=by
 induction h generalizing p with
 | here a=>
  cases g with
  | here=>rfl
  | top b=>exact absurd b a
  | up b=>exact absurd b a
 | top a b=>
  cases g with
  | here c=>exact absurd a c
  | top=>rfl
  | up _ c=>rw [b] at c;cases c
 | up a b _ ih=>
  cases g with
  | here c=>exact absurd a c
  | top _ c=>rw [b] at c;cases c
  | up _ c d=>
   rw [b] at c
   cases c
   exact ih d
def oV:Option Nat->V
 | none=>.non
 | some j=>.int (j:Nat)
theorem ZGc {gt:List KT} {ts:List Twg} (hw:WF gt ts) {i j:Nat} (h:j∈abv ts i):i<j∧j<ts.length:=by
 unfold abv at h
 rw [List.mem_filter,List.mem_range,decide_eq_true_iff] at h
 have ok:=hw j _ (ZA8 h.1)
 by_cases h0:(gd ts j).h=0
 ·rw [(ok.leaf h0).1] at h
  simp at h
 ·exact ⟨((ok.stem h0).2.2.1 i h.2).1,h.1⟩
theorem ZLz (ts:List Twg) (i:Nat):(abv ts i).length<=ts.length:=by
 unfold abv
 have:=List.length_filter_le (fun j=>decide (i∈(gd ts j).bs)) (List.range ts.length)
 rwa [List.length_range] at this
def ZJG (hvs:List (Key×V)) (n:Nat) (ho:Nat->Nat):Prop:=hvs.map (·.1)=(List.range n).map (fun i:Nat=>(Sum.inl (i:Int):Key))∧∀ i:Nat,i<n->ZBj hvs (Sum.inl (i:Int))=some (.int (ho i:Nat))
section
variable {P:Program} {w:World} {K:PySem.W.Frag} {mg:Str->Option Value} {base:Heap} {f:Addr} {fd:FuncData}
def ZEv (gt:List KT):Sp:=fun vs H Q _=>∃ (d dh:Addr) (n:Nat) (ts:List Twg) (kvs hvs:List (Key×V)) (ho:Nat->Nat),vs=[.ref d,.ref dh,.int n]∧LawT gt H d ts kvs∧ts.length<64∧n<ts.length∧H dh=some (.dK hvs)∧ZJG hvs ts.length ho ∧
 ∀ (H':Hp) (o:Option Nat),Same H H'->Sh ts ho n o->Q (oV o) H'
abbrev ZLv:List Str:=["_law_twigs","_law_holds","_law_number","_law_here","_law_stems"]
theorem scShared:FnScope ZLv ["_law_twigs","_law_holds","_law_number"] (ZAI ZFu):=⟨rfl,rfl,rfl,by decide +kernel,rfl,by decide +kernel,by decide +kernel⟩
theorem ZIj {gt:List KT} (F:Fun K "_law_shared" "_law_shared" ZFu f fd) (T:Txt mg) (DA:DefOk P w K mg base 1 "_law_above" ["_law_twigs","_law_number"] (ZEh gt)):FnOk P w K mg base CX0 2 f fd ["_law_twigs","_law_holds","_law_number"] (ZEv gt):=by
 refine F.ok scShared (fun vs H Q E h=>(by obtain ⟨_,_,_,_,_,_,_,rfl,_⟩:=h;rfl)) (fun cdv A outer s H vs Q E hr h=>?_)
 obtain ⟨d,dh,n,ts,kvs,hvs,ho,rfl,L,l64,hn,hh,hH,k⟩:=h
 have nd:=scShared.nd
 have hu:=ZCW hr
 refine ⟨_,ZAD (ZAU (i:=3) nd rfl (Or.inl rfl) (pv 2)) (ZAH (ZC7 PassesOwn.never (ZAg ZDQ)
  (ZAD (ZAU (i:=4) nd rfl (Or.inl rfl) (ZAT DA hr (ZAN (pv 0) (ZAN (pv 3) ZAC))))
  (ZAD (ZAf (ZAX ZEN (ZAb ZBE (ZAK ZAS rfl T.len ZAv (ZAN (pv 4) ZAC)) (ZBJ hu (pv 1) (pv 3) (fun _ _=>rfl))) ZAF (ZAW _)) (ZAH (ZAQ (pv 3))) ZAR)
  (ZAD (ZAf (ZAX (ZCc hr.units0) (pv 4) (ZAx ZAC) (ZAW _)) (ZAH (ZAQ ZFT)) ZAR)
  (ZAH (ZAU (i:=3) nd rfl (Or.inl rfl) (ZAV ix_list (pv 4) ZAF (fun _ _=>rfl))))))))),?_⟩
 refine ⟨_,rfl,?_⟩
 refine ⟨fun m σ H'=>∃ (b:Nat) (k4:Option V),m=ts.length - b∧σ=[some (.ref d),some (.ref dh),some (.int n),some (.int (b:Nat)),k4]∧Same H H'∧b<ts.length∧∀ o,Sh ts ho b o->Sh ts ho n o,
  ⟨_,n,none,rfl,rfl,Same.refl H,hn,fun _ z=>z⟩,?_⟩
 rintro m σ H1 ⟨b,k4,rfl,rfl,s1,bl,up⟩
 refine ⟨_,rfl,ZBb ⟨_,fun _ _ z=>z,?_⟩⟩
 refine ⟨_,rfl,_,rfl,d,b,ts,kvs,rfl,L.same s1,l64,fun H2 D s2 nD hD=>?_⟩
 have s12:=s1.trans s2
 have hg:DGet H2 dh (.int (b:Nat)) (some (.int (ho b:Nat))):=hH.2 b bl ▸ DGet.k (k:=Sum.inl (b:Int)) (s12 _ _ hh)
 have lI:(iN (abv ts b)).length=(abv ts b).length:=List.length_map _
 refine ⟨_,rfl,D,_,rfl,.inl (SqL.of hD),_,rfl,_,rfl,dh,.int (ho b:Nat),rfl,hg,_,_,rfl,rfl,?_⟩
 refine ⟨rfl,_,rfl,?_⟩
 refine ZFO (fun c=>?_) (fun c=>?_)
 ·have hc:(abv ts b).length+ho b≠1:=fun z=>by
   rw [Bool.not_eq_true',decide_eq_false_iff_not] at c
   refine c ?_
   show V.int (((iN (abv ts b)).length:Nat)+(ho b:Nat):Int)=V.int 1
   rw [lI]
   congr 1
   omega
  exact ⟨_,rfl,k H2 (some b) s12 (up _ (.here hc))⟩
 ·have hc:(abv ts b).length+ho b=1:=by
   rw [Bool.not_eq_true',decide_eq_false_iff_not,Decidable.not_not] at c
   have c':V.int (((iN (abv ts b)).length:Nat)+(ho b:Nat):Int)=V.int 1:=c
   rw [lI] at c'
   injection c' with c'
   omega
  refine ⟨_,rfl,nn (Nat.le_of_ble_eq_true rfl),fun e0 he0=>?_⟩
  have g3:=ZAE he0 (.lst [])
  refine ⟨D,e0,_,rfl,rfl,SqL.of (g3 _ _ hD),SqL.of ZAA,_,rfl,?_⟩
  have hD3:=g3 _ _ hD
  have s13:=s12.trans g3
  generalize upd H2 e0 (.lst [])=H3 at hD3 s13 ⊢
  cases ea:abv ts b with
  | nil=>
   rw [show (iN ([]:List Nat)).isEmpty=true from rfl]
   exact ZBb (k H3 none s13 (up _ (.top hc ea)))
  | cons j r=>
   rw [show (iN (j :: r)).isEmpty=false from rfl]
   rw [ea] at hD3
   have jl:=ZGc L.wf (i:=b) (j:=j) (by rw [ea];exact List.mem_cons_self)
   refine ZAz ⟨_,rfl,D,_,0,.int (j:Nat),rfl,rfl,SqL.of hD3,ZAn (j:=0) rfl,?_⟩
   exact ⟨ts.length - j,by omega,j,_,rfl,rfl,s13,jl.2,fun o ho'=>up o (.up hc ea ho')⟩
end
theorem LabsAt.snoc {H:Hp} {ls:List Lab} {us:List V} {L:Lab} {u:V} (h:LabsAt H ls us) (hu:LabAt H L u):LabsAt H (ls++[L]) (us++[u]):=by
 refine ⟨by rw [List.length_append,List.length_append,h.1];rfl,fun i w e=>?_⟩
 rcases Nat.lt_or_ge i us.length with hi | hi
 ·rw [List.getElem?_append_left hi] at e
  have:=h.2 i w e
  rw [List.getD_eq_getElem?_getD] at this ⊢
  rw [List.getElem?_append_left (by rw [<-h.1];exact hi)]
  exact this
 ·rw [List.getElem?_append_right hi] at e
  have hi0:i - us.length=0:=by
   rcases Nat.eq_zero_or_pos (i - us.length) with z | z
   ·exact z
   ·rw [List.getElem?_eq_none (by simp;omega)] at e;cases e
  rw [hi0] at e
  simp at e
  subst e
  have ei:i=ls.length:=by have:=h.1;omega
  rw [List.getD_eq_getElem?_getD,ei]
  simp
  exact hu
def inT (ts:List Twg) (x:Int):Bool:=decide (0<=x∧x<(ts.length:Int))
def ZOd (ls:List Lab):Prop:=∀ j,j+1<ls.length->(ls.getD (j+1) .d).h=(ls.getD 0 .d).h∧(ls.getD j .d).hi.lt (ls.getD (j+1) .d).lo=true
theorem lchk_iff {ls:List Lab}:ZOd ls ↔ chk ls=true:=by
 unfold ZOd chk okP
 rw [List.all_eq_true]
 constructor
 ·intro h j hj
  have hj':j<ls.length - 1:=List.mem_range.mp hj
  obtain ⟨a,b⟩:=h j (by omega)
  rw [Bool.and_eq_true]
  refine ⟨?_,b⟩
  rw [beq_iff_eq,a]
  cases j with
  | zero=>rfl
  | succ j=>exact (h j (by omega)).1
 ·intro h
  have hh:∀ j,j<ls.length->(ls.getD j .d).h=(ls.getD 0 .d).h:=fun j=>by
   induction j with
   | zero=>intro _;rfl
   | succ j ih=>
    intro hj
    have:=h j (List.mem_range.mpr (by omega))
    rw [Bool.and_eq_true,beq_iff_eq] at this
    rw [<-this.1]
    exact ih (by omega)
  intro j hj
  have:=h j (List.mem_range.mpr (by omega))
  rw [Bool.and_eq_true] at this
  exact ⟨hh (j+1) hj,this.2⟩
theorem ZFz {gt:List KT} {ts:List Twg} {i:Nat} {t:Twg} (h:TwOk gt ts i t):(ZA1 t).fit:=by
 have hp:0<t.rows.length:=List.length_pos_iff.mpr h.ne
 have m0:t.rows.getD 0 rd∈t.rows:=by rw [List.getD_eq_getElem?_getD,List.getElem?_eq_getElem hp];exact List.getElem_mem _
 have m1:t.rows.getD (t.rows.length - 1) rd∈t.rows:=by rw [List.getD_eq_getElem?_getD,List.getElem?_eq_getElem (show t.rows.length - 1<t.rows.length by omega)];exact List.getElem_mem _
 exact ⟨(h.inn _ m0).2.1,(h.inn _ m1).2.1⟩
section
variable {P:Program} {w:World} {K:PySem.W.Frag} {mg:Str->Option Value} {base:Heap} {f:Addr} {fd:FuncData}
def ZAe (ts:List Twg) (bs:List Nat):List Lab:=bs.map fun b=>ZA1 (gd ts b)
def ZEj (gt:List KT):Sp:=fun vs H Q _=>∃ (d l:Addr) (ns:List Int) (ts:List Twg) (kvs:List (Key×V)),vs=[.ref d,.ref l,.non]∧LawT gt H d ts kvs∧H l=some (.lst (ns.map V.int))∧ns.length<=100 ∧
 (∀ x,ns.find? (fun x=>!inT ts x)=some x->∀ (t:Addr) (H':Hp),Same H H'->H' t=some (.tup [.str "twig",.int x])->Q (.ref t) H') ∧
 (∀ bs:List Nat,ns=bs.map (fun b:Nat=>(b:Int))->(∀ b∈bs,b<ts.length)->over (ZAe ts bs)=none->∀ (t:Addr) (H':Hp),Same H H'->H' t=some (.tup [.str "stem"])->Q (.ref t) H') ∧
 (∀ bs:List Nat,ns=bs.map (fun b:Nat=>(b:Int))->(∀ b∈bs,b<ts.length)->over (ZAe ts bs)≠none->∀ H':Hp,Same H H'->Q .non H')
abbrev ZNm:List Str:=["_law_twigs","_law_numbers","_law_high","_law_number","_law_labels","_law_j"]
theorem scWrong:FnScope ZNm ["_law_twigs","_law_numbers","_law_high"] (ZAI ZH3):=⟨rfl,rfl,rfl,by decide +kernel,rfl,by decide +kernel,by decide +kernel⟩
theorem ZKn {gt:List KT} (F:Fun K "_law_wrong" "_law_wrong" ZH3 f fd) (T:Txt mg) (DL:DefOk P w K mg base 2 "_law_label" ["_law_twigs","_law_number"] (ZCZ gt)) (DS:DefOk P w K mg base 7 "_law_less" ["_law_one","_law_other"] ZCH) :
  FnOk P w K mg base CX0 8 f fd ["_law_twigs","_law_numbers","_law_high"] (ZEj gt):=by
 refine F.ok scWrong (fun vs H Q E h=>(by obtain ⟨_,_,_,_,_,rfl,_⟩:=h;rfl)) (fun cdv A outer s H vs Q E hr h=>?_)
 obtain ⟨d,l,ns,ts,kvs,rfl,L,hl,h100,q1,q2,q3⟩:=h
 have nd:=scWrong.nd
 have hu:=ZCW hr
 have hr2:=hr.mono (show 2<=7 by omega)
 refine ⟨_,ZAD (ZBe PassesOwn.never rfl (ZA5 (pv 1)) (ZAZ (i:=3) nd rfl (Or.inl rfl))
   (ZAH (ZAf (ZDB (ZDN hu (pv 3) (pv 0))) (ZAH (ZAQ (ZAk (ZAN ZAl (ZAN (pv 3) ZAC))))) ZAR)))
  (ZAD (ZB3 (i:=4) [0] ["_law_twigs"] nd rfl rfl rfl (ZA5 (pv 1)) (fun _ _ _ _ _=>ZBM) (fun _ _ _ _ _=>ZAT DL hr2 (ZAN (pv 1) (ZAN (pv 0) ZAC))) ⟨rfl,.inl rfl,rfl,trivial⟩)
  (ZAD (ZAf (PW.pt (ZB9 (ZAy (ZEw ZDt ZDt ZAF (ZAK ZAS rfl T.len ZAv (ZAN (pv 4) ZAC)) ZAF)) (ZB0 (PW.pt (ZGs (ZDB (ZJd (pv 2))) (ZEf (ZAX ZEN (ZAb ZBE (ZAV (r:=rIx K) ZAP (ZAV (r:=rIx K) ZAP (pv 4) ZAF (fun _ _=>rfl)) ZAF (fun _ _=>rfl)) ZAF) (pv 2) (ZAW _))))))))
   (ZAH (ZAQ (ZAk (ZAN ZAl ZAC)))) ZAR)
  (ZAD (ZBe PassesOwn.never rfl (ZCb rfl T.range (ZAN ZAF (ZAN (ZAK ZAS rfl T.len ZAv (ZAN (pv 4) ZAC)) ZAC))) (ZAZ (i:=5) nd rfl (Or.inl rfl))
   (ZAH (ZAf (PW.pt (ZB9 (ZAX ZEN (ZAV (r:=rIx K) ZAP (ZAV (r:=rIx K) ZAP (pv 4) (pv 5) (fun _ _=>rfl)) ZAF (fun _ _=>rfl)) (ZAV (r:=rIx K) ZAP (ZAV (r:=rIx K) ZAP (pv 4) ZAF (fun _ _=>rfl)) ZAF (fun _ _=>rfl)) (ZAW _))
     (ZB0 (ZAy (ZAg (ZAT DS hr (ZAN (ZAV (r:=rIx K) ZAP (ZAV (r:=rIx K) ZAP (pv 4) (ZAb ZCV (pv 5) ZAF) (fun _ _=>rfl)) ZAF (fun _ _=>rfl)) (ZAN (ZAV (r:=rIx K) ZAP (ZAV (r:=rIx K) ZAP (pv 4) (pv 5) (fun _ _=>rfl)) ZAF (fun _ _=>rfl)) ZAC))))))))
    (ZAH (ZAQ (ZAk (ZAN ZAl ZAC)))) ZAR)))
  (ZAH (ZAQ ZFT))))),?_⟩
 have vin:∀ {x:Int} {H2:Hp},Same H H2->∃ o,DGet H2 d (.int x) o∧(!o.isSome) = !inT ts x:=fun {x H2} s2=>by
  refine ⟨ZBj kvs (Sum.inl x),DGet.k (k:=Sum.inl x) (s2 _ _ L.dict),?_⟩
  congr 1
  unfold inT
  by_cases hx:0<=x∧x<(ts.length:Int)
  ·rw [decide_eq_true hx]
   obtain ⟨v,e,_⟩:=L.tws.2 x.toNat _ (ZA8 (by omega))
   have ex:((x.toNat:Nat):Int)=x:=by omega
   rw [ex] at e
   rw [e]
   rfl
  ·rw [decide_eq_false hx]
   cases z:ZBj kvs (Sum.inl x) with
   | none=>rfl
   | some v=>
    have:=ZEi z
    rw [L.tws.1] at this
    obtain ⟨i,hi,ei⟩:=List.mem_map.mp this
    have:=Sum.inl.inj ei
    have:=List.mem_range.mp hi
    omega
 refine ⟨_,rfl,l,rfl,⟨_,SqL.of hl⟩,ZBo (K:=K) (a:=l) (xs:=ns.map V.int) (fun i σ H2=>∃ x:Option V,σ=[some (.ref d),some (.ref l),some .non,x,none,none]∧Same H H2∧(ns.take i).find? (fun x=>!inT ts x)=none) ⟨_,rfl,Same.refl H,rfl⟩ (fun i σ H2 _ hP=>by obtain ⟨_,_,s2,_⟩:=hP;exact SqL.of (s2 _ _ hl)) ?_ ?_⟩
 ·rintro i u σ H2 hu2 ⟨x,rfl,s2,hn⟩
  rw [List.getElem?_map] at hu2
  obtain ⟨n,en,rfl⟩:=Option.map_eq_some_iff.mp hu2
  obtain ⟨o,ho,eo⟩:=vin (x:=n) s2
  obtain ⟨f1,f2⟩:=ZBx hn en
  refine ⟨_,rfl,_,rfl,d,o,rfl,ho,_,rfl,?_⟩
  rw [eo]
  cases c:!inT ts n with
  | true=>exact ZBb ⟨_,rfl,nn (Nat.le_of_ble_eq_true rfl),fun t nt=>q1 n (f1 c) t _ (s2.trans (ZAE nt _)) ZAA⟩
  | false=>exact ZAz ⟨_,rfl,s2,f2 c⟩
 rintro σ H2 ⟨x,rfl,s2,hn⟩
 rw [List.length_map,List.take_of_length_le (Nat.le_refl _),List.find?_eq_none] at hn
 obtain ⟨bs,eb,hb⟩:∃ bs:List Nat,ns=bs.map (fun b:Nat=>(b:Int))∧∀ b∈bs,b<ts.length:=by
  have hin:∀ y∈ns,0<=y∧y<(ts.length:Int):=fun y hy=>by
   have:=hn y hy
   unfold inT at this
   simpa using this
  refine ⟨ns.map Int.toNat,?_,fun b hb=>?_⟩
  ·rw [List.map_map]
   have:ns=ns.map id:=(List.map_id _).symm
   rw [this]
   simp only [List.map_map]
   refine List.map_congr_left fun y hy=>?_
   have:=hin y hy
   show y=((y.toNat:Nat):Int)
   omega
  ·obtain ⟨y,hy,rfl⟩:=List.mem_map.mp hb
   have:=hin y hy
   omega
 have lbs:ns.length=bs.length:=by rw [eb,List.length_map]
 have q2':=q2 bs eb hb
 have q3':=q3 bs eb hb
 clear q1 q2 q3 vin
 have hl2:=s2 _ _ hl
 refine ⟨_,rfl,l,rfl,⟨_,SqL.of hl2⟩,?_⟩
 refine ZA3 (n:=bs.length) (fun i z=>(ns.map V.int)[i]? = some z) (fun D i ys H3=>Same H2 H3∧H2 D=none∧LabsAt H3 ((ZAe ts bs).take i) ys) (ZAO (by omega))
  (fun D i ys H3 hi hP=>⟨_,.int (bs[i]:Nat),SqL.of (hP.1 _ _ hl2),by rw [eb];simp [hi]⟩) (fun D i ys H3 z H4 hi hP hy=>⟨hy.1,hy.2 _ (SqL.of (hP.1 _ _ hl2))⟩) (fun D ys H3 hP=>⟨_,SqL.of (hP.1 _ _ hl2),by simp [lbs]⟩)
  (fun D hD=>⟨ZAE hD _,hD,rfl,fun i u e=>by simp at e⟩) (fun D i ys H3 z eD hl' hi hz hP R hR=>?_) (fun D us H3 eD hP=>?_)
 ·obtain ⟨s3,nD,hk⟩:=hP
  have ez:z=.int (bs[i]:Nat):=by
   rw [eb,List.map_map,List.getElem?_map,List.getElem?_eq_getElem hi] at hz
   exact (Option.some.inj hz).symm
  subst ez
  refine ⟨_,rfl,_,rfl,d,bs[i],ts,kvs,rfl,L.same (s2.trans s3),hb _ (List.getElem_mem _),fun H4 v s4 hv=>?_⟩
  have eD4:=s4 _ _ eD
  have tD:ZBn H4 (upd H4 D (.lst (ys++[v]))):=fun b xs e=>by rw [ZAG (ZAJ e eD4 (by intro z;cases z))];exact e
  refine hR _ H4 eD4 ⟨ZBK (s3.trans s4) nD,nD,?_⟩
  have et:(ZAe ts bs)[i]? = some (ZA1 (gd ts bs[i])):=by unfold ZAe;rw [List.getElem?_map,List.getElem?_eq_getElem hi];rfl
  rw [List.take_add_one,et]
  exact ((hk.mono (Same.tups s4)).snoc hv).mono tD
 obtain ⟨s3,nD,hk⟩:=hP
 have ll:(ZAe ts bs).length=bs.length:=List.length_map _
 rw [List.take_of_length_le (by omega)] at hk
 have lus:us.length=bs.length:=by rw [hk.1,ll]
 have s03:=s2.trans s3
 generalize els:ZAe ts bs=ls at hk ll q2' q3'
 have hfit:∀ i,i<ls.length->(ls.getD i .d).fit:=fun i hi=>by
  have hi':i<bs.length:=by omega
  have e1:ls.getD i .d=ZA1 (gd ts bs[i]):=by rw [List.getD_eq_getElem?_getD,<-els];unfold ZAe;rw [List.getElem?_map,List.getElem?_eq_getElem hi'];rfl
  rw [e1]
  exact ZFz (L.wf _ _ (ZA8 (hb _ (List.getElem_mem _))))
 have stem:∀ (H4:Hp) (t:Addr),over ls=none->Same H H4->H4 t=none->Q (.ref t) (upd H4 t (.tup [.str "stem"])):=fun H4 t ho s4 nt=>q2' ho t _ (s4.trans (ZAE nt _)) ZAA
 have short:¬ (2<=ls.length∧ls.length<=4)->over ls=none:=fun z=>by unfold over;rw [if_neg fun y=>z ⟨y.1,y.2.1⟩]
 refine ⟨_,rfl,D,us,rfl,.inl (SqL.of eD),_,_,rfl,rfl,_,rfl,?_⟩
 rcases Nat.lt_or_ge us.length 2 with h2 | h2
 ·rw [decide_eq_false (show ¬ (2:Int)<=(us.length:Int) by omega)]
  refine ZAz ⟨_,rfl,ZBb (ZBb ?_)⟩
  exact ⟨nn (Nat.le_of_ble_eq_true rfl),fun t nt=>stem H3 t (short (by omega)) s03 nt⟩
 rw [decide_eq_true (show (2:Int)<=(us.length:Int) by omega)]
 refine ZBb ⟨_,_,rfl,rfl,_,rfl,?_⟩
 rcases Nat.lt_or_ge 4 us.length with h4 | h4
 ·rw [decide_eq_false (show ¬ (us.length:Int)<=4 by omega)]
  refine ZBb (ZBb ?_)
  exact ⟨nn (Nat.le_of_ble_eq_true rfl),fun t nt=>stem H3 t (short (by omega)) s03 nt⟩
 rw [decide_eq_true (show (us.length:Int)<=4 by omega)]
 refine ZAz ⟨_,rfl,_,rfl,ZAz (ZAz ?_)⟩
 refine ⟨_,rfl,D,us,rfl,.inl (SqL.of eD),1,(us.length:Int),rfl,⟨by omega,by omega,by omega,by omega⟩,?_⟩
 have lab:∀ (H':Hp) (i:Nat),Same H3 H'->i<us.length->∃ (a:Addr) (vlo vhi:V),us[i]? = some (.ref a)∧H' a=some (.tup [.int (ls.getD i .d).h,vlo,vhi,.int (ls.getD i .d).m])∧KeyAt H' (ls.getD i .d).lo vlo∧KeyAt H' (ls.getD i .d).hi vhi:=fun H' i s' hi=>by
  have hu:us[i]? = some us[i]:=List.getElem?_eq_getElem hi
  obtain ⟨a,vlo,vhi,e,e1,k1,k2⟩:=(hk.2 i _ hu).mono (Same.tups s')
  exact ⟨a,vlo,vhi,by rw [hu,e],e1,k1,k2⟩
 refine ZBW (lo:=1) (n:=((us.length:Int) - 1).toNat) (fun i σ H4=>∃ y:Option V,σ=[some (.ref d),some (.ref l),some .non,x,some (.ref D),y]∧Same H3 H4∧∀ j,j<i->(ls.getD (j+1) .d).h=(ls.getD 0 .d).h∧(ls.getD j .d).hi.lt (ls.getD (j+1) .d).lo=true) ⟨_,rfl,Same.refl H3,fun j hj=>absurd hj (by omega)⟩ ?_ ?_
 ·rintro i σ H4 hi ⟨y,rfl,s4,hok⟩
  have hi1:i+1<us.length:=by omega
  have e1:(1:Int)+(i:Int)=((i+1:Nat):Int):=by omega
  have e0:(1:Int)+(i:Int) - 1=((i:Nat):Int):=by omega
  obtain ⟨a,alo,ahi,ua,ta,kalo,kahi⟩:=lab H4 i s4 (by omega)
  obtain ⟨b,blo,bhi,ub,tb,kblo,kbhi⟩:=lab H4 (i+1) s4 hi1
  obtain ⟨c,clo,chi,uc,tc,kclo,kchi⟩:=lab H4 0 s4 (by omega)
  have no:¬ ((ls.getD (i+1) .d).h=(ls.getD 0 .d).h∧(ls.getD i .d).hi.lt (ls.getD (i+1) .d).lo=true)->over ls=none:=fun z=>by
   unfold over
   rw [if_neg fun y=>z (lchk_iff.mpr y.2.2 i (by omega))]
  have eD4:=s4 _ _ eD
  refine ⟨_,rfl,_,rfl,.inl ⟨D,us,_,.ref b,rfl,rfl,SqL.of eD4,by rw [e1];exact ZAn ub,.inr (.inl ⟨b,_,0,_,rfl,rfl,SqT.of tb,rfl,?_⟩)⟩⟩
  refine ⟨_,rfl,.inl ⟨D,us,0,.ref c,rfl,rfl,SqL.of eD4,ZAn (j:=0) uc,.inr (.inl ⟨c,_,0,_,rfl,rfl,SqT.of tc,rfl,rfl,_,rfl,?_⟩)⟩⟩
  have ene:(!decide (V.int (ls.getD (i+1) .d).h=V.int (ls.getD 0 .d).h)) = !decide ((ls.getD (i+1) .d).h=(ls.getD 0 .d).h):=by simp
  rw [ene]
  by_cases hh:(ls.getD (i+1) .d).h=(ls.getD 0 .d).h
  ·rw [decide_eq_true hh]
   refine ZAz ?_
   refine ⟨_,rfl,_,rfl,_,_,rfl,rfl,.inl ⟨D,us,_,.ref a,rfl,rfl,SqL.of eD4,by rw [e0];exact ZAn ua,.inr (.inl ⟨a,_,2,_,rfl,rfl,SqT.of ta,rfl,?_⟩)⟩⟩
   refine ⟨_,rfl,_,rfl,.inl ⟨D,us,_,.ref b,rfl,rfl,SqL.of eD4,by rw [e1];exact ZAn ub,.inr (.inl ⟨b,_,1,_,rfl,rfl,SqT.of tb,rfl,?_⟩)⟩⟩
   refine ⟨ahi,blo,_,_,rfl,kahi,kblo,(hfit i (by omega)).2,(hfit (i+1) (by omega)).1,fun H5 s5=>⟨_,rfl,?_⟩⟩
   cases hc:(ls.getD i .d).hi.lt (ls.getD (i+1) .d).lo with
   | false=>
    refine ZBb ⟨nn (Nat.le_of_ble_eq_true rfl),fun t nt=>stem H5 t (no fun z=>by rw [hc] at z;cases z.2) ((s03.trans s4).trans s5) nt⟩
   | true=>
    refine ZAz ⟨_,rfl,s4.trans s5,fun j hj=>?_⟩
    rcases Nat.lt_or_ge j i with z | z
    ·exact hok j z
    ·have:j=i:=by omega
     subst this
     exact ⟨hh,hc⟩
  ·rw [decide_eq_false hh]
   exact ZBb (ZBb ⟨nn (Nat.le_of_ble_eq_true rfl),fun t nt=>stem H4 t (no fun z=>hh z.1) (s03.trans s4) nt⟩)
 ·rintro σ H4 ⟨y,rfl,s4,hok⟩
  have hc:chk ls=true:=lchk_iff.mp fun j hj=>hok j (by omega)
  refine q3' ?_ H4 (s03.trans s4)
  unfold over
  rw [if_pos ⟨by omega,by omega,hc⟩]
  exact fun z=>nomatch z
end
end Tw
namespace L2
open PySem PySem.Spec PyProof.Rows
theorem ZKc {K:PySem.W.Frag} {x qual:Str} {st:Stmt} {f c P:Addr} {fd:FuncData} (F:Fun K x qual st f fd) (hf:PySem.W.nsIn K mainGlobals x=some (some (.ref f))) (ht:PySem.W.tabIn K x=some (c,P)):fd.code=.ref c:=by
 obtain ⟨oc,od,kV,doc,pm,an,cdv,ct,osl,rfl,lk,hcd⟩:=F.ex
 unfold PySem.W.tabIn at ht
 rw [hf] at ht
 simp only at ht
 rw [lk] at ht
 simp only at ht
 show cdv=.ref c
 cases cdv with
 | ref c2=>
  simp only at ht
  split at ht
  ·split at ht
   ·cases ht;rfl
   ·cases ht
  ·cases ht
 | _=>cases ht
theorem Fun.okC {P:Program} {w:World} {K:PySem.W.Frag} {mg:Str->Option Value} {base:Heap} {x qual:Str} {st:Stmt} {f c T:Addr} {fd:FuncData} {N ps:List Str} {k:Nat} {sp:Sp} (F:Fun K x qual st f fd) (hf:PySem.W.nsIn K mainGlobals x=some (some (.ref f))) (ht:PySem.W.tabIn K x=some (c,T))
  (S:FnScope N ps (ZAI st)) (len:∀ vs H Q E,sp vs H Q E->vs.length=ps.length)
  (hbody:∀ (A:Around) (outer:List Env) (s:Shared) (H:Hp) (vs:List V) (Q:VK) (E:XK),Room k (A.deeper (envOfC qual (ZAI st) s.heap.objs.size f (.ref c)))->sp vs H Q E ->
   ∃ t,PSs (ZFp CX0 P w K mg base N qual (ZAI st) f (.ref c) A outer s H E) (ZAp st) t∧t { nx:=fun _ H'=>Q .non H',rt:=Q } (ZDs N vs) H):FnOk P w K mg base CX0 (k+1) f fd ps sp:=by
 have e:=ZKc F hf ht
 obtain ⟨oc,od,kV,doc,pm,an,cdv,ct,osl,rfl,lk,hcd⟩:=F.ex
 have e':cdv=.ref c:=e
 subst e'
 exact ZLo lk hcd S len fun A outer s H vs Q E hr hsp=>hbody A outer s H vs Q E hr hsp
theorem ZIi {P:Program} {w:World} {K:PySem.W.Frag} {mg mb:Str->Option Value} {k:Nat} {fa a c T:Addr} {fd:FuncData} {x:Str} {sp:Sp} {s₁:Shared} {vs:List Value} {ns:List Int}
  (KX:K.In s₁.heap) (hns:s₁.heap.Ns mainGlobals mg) (hb:s₁.heap.Ns builtinsNs mb) (hbb:∀ x:Str,x ≠ "__name__"->mb x=bootBuiltins x) (hlim:s₁.heap.NoLimit) (hg:s₁.gens=#[])
  (hbm:∃ bm ob,mg "__builtins__" = some (.ref bm)∧bm≠builtinsNs∧s₁.heap.get? bm=some ob∧ob.cls=.type "module" ∧ ob.dict=some builtinsNs∧ob.data=.plain)
  (hC:PySem.W.CodeHd s₁.heap c T) (hT:s₁.heap.get? T=some (PySem.W.tabObj #[])) (noT:PySem.W.noTabs K=true)
  (ha:s₁.heap.get? a=some { cls:=.type "list",data:=.seq vs.toArray }) (hi:IntsAre vs ns) (hl:ns.length<=sizeLine) (hr:Room k callerA)
  (F:∀ base:Heap,K.In base->base.Ns mainGlobals mg->PySem.W.CodeHd base c T->base.BuiltinsAt mg T->FnOk P w K mg base CX0 k fa fd [x] sp) (hbind:∀ (s:Shared) (u:Value),BindsTo s fd ⟨[u],[]⟩ [(x,u)])
  (hsp:∀ H:Hp,H T=some (.tbl #[])->SqL K H a (ns.map V.int)->sp [.ref a] H (fun v _=>v=.bl true) fun _ _ _=>False) :
  codeAny (model P w) callerA (.call (.ref fa) ⟨[.ref a],[]⟩) (fun r s'=>r=.ok (.ret (.bool true))∧OldK s₁.heap s'.heap∧s'.os=s₁.os∧AllBare s'.gens) s₁:=by
 have rv:=ZCd hi
 have lenV:=hi.length
 have aT:a≠T:=fun z=>by rw [z,hT] at ha;cases ha
 have core:∀ H:Hp,H T=some (.tbl #[])->SqL K H a (ns.map V.int)->HOk P w H s₁.heap->(∀ b,H b≠none->b=a∨b=T)->(H a≠none->K.lookup a=none∧∃ o xs,H a=some (.frz o (.lst xs))) ->
   codeAny (model P w) callerA (.call (.ref fa) ⟨[.ref a],[]⟩) (fun r s'=>r=.ok (.ret (.bool true))∧OldK s₁.heap s'.heap∧s'.os=s₁.os∧AllBare s'.gens) s₁:=by
  intro H hO hS hok hA hK
  have base_of:∀ {b:Addr} {o:Obj},s₁.heap.get? b=some o->H b=none->(ZIT s₁.heap H).get? b=some o:=fun e n=>ZKC e n
  have noA:∀ {b:Addr} {o:Obj},s₁.heap.get? b=some o->(∀ its n,o.data≠.seq its n)->(∀ v,o≠PySem.W.tabObj v)->H b=none:=fun {b o} e d1 d2=>by
   cases q:H b with
   | none=>rfl
   | some u=>
    rcases hA b (by rw [q];simp) with e' | e'
    ·subst e'
     rw [ha] at e;cases e
     exact absurd rfl (d1 _ _)
    ·subst e'
     rw [hT] at e;cases e
     exact absurd rfl (d2 _)
  have nsK:∀ {b:Addr} {m:Str->Option Value},s₁.heap.Ns b m->(ZIT s₁.heap H).Ns b m:=fun {b m} ⟨o,es,ep,e,d,r⟩=>⟨o,es,ep,base_of e (noA e (fun _ _ z=>by rw [d] at z;cases z) (fun _ z=>by rw [z] at d;cases d)),d,r⟩
  have hKb:K.In (ZIT s₁.heap H):=fun b o e=>base_of (KX b o e) (by
   cases q:H b with
   | none=>rfl
   | some u=>
    rcases hA b (by rw [q];simp) with e' | e'
    ·subst e'
     rw [(hK (by rw [q];simp)).1] at e;cases e
    ·subst e'
     have e2:=KX _ _ e
     rw [hT] at e2;cases e2
     have h2:=List.all_eq_true.mp noT _ (PySem.W.mem_of_lookupK e)
     exact absurd (show false=true from h2) Bool.false_ne_true)
  have hM:Mod K mg (ZIT s₁.heap H):=⟨hKb,nsK hns,⟨mb,nsK hb,hbb⟩,let ⟨mc,h1,h2⟩:=hlim;⟨mc,nsK h1,h2⟩⟩
  have hCb:PySem.W.CodeHd (ZIT s₁.heap H) c T:=by
   obtain ⟨o,vs,file,tf,flags,tg,inF,text,tt,e1,e2,e3,r⟩:=hC
   exact ⟨o,vs,file,tf,flags,tg,inF,text,tt,base_of e1 (noA e1 (fun _ _ z=>by rw [e3] at z;cases z) (fun _ z=>by rw [z] at e2;cases e2)),e2,e3,r⟩
  have hBb:(ZIT s₁.heap H).BuiltinsAt mg T:=by
   obtain ⟨bm,ob,b1,b2,b3,b4,b5,b6⟩:=hbm
   refine ⟨bm,ob,b1,b2,fun z=>?_,fun z=>?_,base_of b3 (noA b3 (fun _ _ z=>by rw [b6] at z;cases z) (fun _ z=>by rw [z] at b4;cases b4)),b4,b5,b6⟩
   ·obtain ⟨o,es,ep,e,d,_⟩:=hns
    rw [z,e] at b3;cases b3;rw [d] at b6;cases b6
   ·rw [z,hT] at b3;cases b3;cases b4
  have e0:Env0 P w K mg (ZIT s₁.heap H) callerA [] s₁ H:=⟨rfl,hM,fun b o e=>ZMD e,Nat.le_of_eq (ZHz _ _),trivial,fun b hb=>absurd (show b∈([]:List Addr) from hb) (by simp),hok,.of_eq hg⟩
  refine codeAny_mono ((F _ hKb (nsK hns) hCb hBb).run callerA [] s₁ H ⟨[.ref a],[]⟩ [.ref a] [.ref a] _ _ hr e0 (hbind s₁ (.ref a)) (.cons rfl .nil) (hsp H hO hS)) fun r s' h=>?_
  cases r with
  | error e=>exact h.elim
  | ok fl=>
   cases fl with
   | next=>exact False.elim h
   | brk=>exact False.elim h
   | cont=>exact False.elim h
   | ret u=>
    obtain ⟨v,H',os,bare,un,hok',r',q⟩:=h
    have q':v=.bl true:=q
    subst q'
    obtain rfl:u=Value.bool true:=r'
    obtain ⟨more,hT'⟩:=un.tbls T #[] hO
    have gT':s'.heap.get? T=some (PySem.W.tabObj (#[]++more)):=hok' T _ hT'
    have keep:∀ b o,b≠T->s₁.heap.get? b=some o->s'.heap.get? b=some o:=fun b o n e=>by
     cases q:H b with
     | none=>exact un.keep b o e q (by intro z;exact absurd (show b∈([]:List Addr) from z) (by simp)) (by simp)
     | some u=>
      have e':b=a:=(hA b (by rw [q];simp)).resolve_right n
      subst e'
      obtain ⟨_,ob,xs,z⟩:=hK (by rw [q];simp)
      have z2:=un.frzs b ob _ z
      obtain ⟨e1,_⟩:=hok b _ z
      obtain ⟨e2,_⟩:=hok' b _ z2
      rw [e] at e1;cases e1
      exact e2
    refine ⟨rfl,⟨fun b o e=>?_,fun b o e=>?_⟩,os,bare⟩
    ·by_cases z:b=T
     ·subst z
      rw [hT] at e;cases e
      exact .inr (.inl ⟨(hC.tab hT).isCodeTable,rfl,#[],more,rfl,gT'⟩)
     ·exact .inl (keep b o z e)
    ·by_cases z:b=T
     ·subst z;exact ⟨_,gT'⟩
     ·exact ⟨o,keep b o z e⟩
 cases hk:K.lookup a with
 | some o=>
  have e:=KX a o hk
  rw [ha] at e
  cases e
  refine core (fun b=>if b=T then some (.tbl #[]) else none) (if_pos rfl) (.inr ⟨_,vs.toArray,_,hk,rfl,rfl,rfl,by rw [List.size_toArray,lenV];exact hl,by simpa using rv⟩) (fun b u z=>?_) (fun b z=>?_) fun z=>absurd (if_neg aT) z
  ·by_cases hb:b=T
   ·have z':=(if_pos hb).symm.trans z
    cases z'
    subst hb
    exact hT
   ·have z':=(if_neg hb).symm.trans z
    cases z'
  ·by_cases hb:b=T
   ·exact .inr hb
   ·exact absurd (if_neg hb) z
 | none=>
  refine core (fun b=>if b=T then some (.tbl #[]) else if b=a then some (.frz { cls:=.type "list",data:=.seq vs.toArray } (.lst (ns.map V.int))) else none) (if_pos rfl) (.inl (.inr ⟨{ cls:=.type "list",data:=.seq vs.toArray },(if_neg aT).trans (if_pos rfl)⟩)) (fun b u z=>?_) (fun b z=>?_) fun _=>⟨hk,_,_,(if_neg aT).trans (if_pos rfl)⟩
  ·by_cases hb:b=T
   ·have z':=(if_pos hb).symm.trans z
    cases z'
    subst hb
    exact hT
   ·have z:=(if_neg hb).symm.trans z
    by_cases hb:b=a
    ·have z':=(if_pos hb).symm.trans z
     cases z'
     subst hb
     exact ⟨ha,by rw [List.length_map];exact hl,vs,_,rv,ha⟩
    ·have z':=(if_neg hb).symm.trans z
     cases z'
  ·by_cases hb:b=T
   ·exact .inr hb
   ·by_cases hb2:b=a
    ·exact .inl hb2
    ·exact absurd ((if_neg hb).trans (if_neg hb2)) z
theorem walk_ofT {l:PySem.W.OpenLaw} {n k:Nat} {q:Program} {loose:List Str} {XP:(Str->Option Value)->Heap->Prop} {YP:World->Heap->Prop} {d d':DefRec} {K:Params->PySem.W.Frag} {sp:Addr->PySem.W.Frag->Sp} {x px:Str}
  (hn:l.most=some n) (hn2:n<=sizeLine) (hdf:d.params.defaults=[]) (hr:Room k callerA)
  (hY:∀ (w:World) (h:Heap),YP w h->(K w.params).In h) (hrec:(recsOf q).find? (fun e=>e.name==px)=some d') (htab:∀ w:World,∃ c T,PySem.W.tabIn (K w.params) px=some (c,T)) (hnt:∀ w:World,PySem.W.noTabs (K w.params)=true)
  (F:∀ (w:World) (mg:Str->Option Value) (fa:Addr) (h:Heap) (c T:Addr),(K w.params).In h->h.Ns mainGlobals mg->mg d.name=some (.ref fa)->PySem.W.tabIn (K w.params) px=some (c,T) ->
   ∃ fd:FuncData,(∀ (s:Shared) (u:Value),BindsTo s fd ⟨[u],[]⟩ [(x,u)]) ∧
    ∀ base:Heap,(K w.params).In base->base.Ns mainGlobals mg->PySem.W.CodeHd base c T->base.BuiltinsAt mg T->FnOk l.prog w (K w.params) mg base CX0 k fa fd [x] (sp T (K w.params)))
  (hsp:∀ (w:World) (T:Addr) (H:Hp) (a:Addr) (ns:List Int),ns.length<=n->H T=some (.tbl #[])->SqL (K w.params) H a (ns.map V.int)->sp T (K w.params) [.ref a] H (fun v _=>v=.bl true) fun _ _ _=>False) :
  PySem.W.WalkO q loose XP YP l.row.toRowW d [] (fun f vs=>PySem.call f vs):=by
 refine Att.attach_call hn hdf fun w s₀ s₁ mg mb fa o pm cd doc a vs ns G Y ho hd hcd hmg hobj hints hlen hg=>?_
 have KX:=hY w _ Y
 obtain ⟨c,T,ht⟩:=htab w
 obtain ⟨hC,hT⟩:=PySem.W.tab_of G.T KX hrec ht
 obtain ⟨fd,hb,hF⟩:=F w mg fa _ c T KX G.T.g hmg ht
 exact ZIi KX G.T.g G.T.b G.T.builtins G.T.nolimit hg G.T.bmain hC hT (hnt w) hobj hints (Nat.le_trans hlen hn2) hr hF hb (fun H hO hS=>hsp w T H a ns hlen hO hS)
section
variable {P:Program} {w:World} {K:PySem.W.Frag} {mg:Str->Option Value} {base:Heap}
def ZK2 (f c':Addr) (fo co:Obj) (cl:List (Str×Addr)) (N:List Str) (spB:Sp):Sp:=fun vs H Q E=>
 vs=[]∧H f=some (ZB7 f fo)∧H c'=some (ZB7 c' co)∧∃ ws:List V,CellsAt H cl N ws ∧
  spB ws (unT (cl.map (·.2)) H) (fun v H2=>(∀ c∈cl.map (·.2),H2 c=none)->Q v (reT (cl.map (·.2)) H H2)) (fun c o H2=>(∀ c∈cl.map (·.2),H2 c=none)->E c o (reT (cl.map (·.2)) H H2))
end
def ExcD (g:Array Value->Prop) (x C:Addr) (od:Option Addr) (h:Heap):Prop:=∃ o vs,h.get? x=some o∧o.cls=.ref C∧o.data=.fields vs∧o.dict=od∧g vs
def ZJg:Array Value->Prop:=fun vs=>vs[1]? = some .none
def ZJl:Array Value->Prop:=fun _=>True
def XO (g:Array Value->Prop) (x C:Addr) (od:Option Addr):HO:=.ext (ExcD g x C od)
theorem ExcD.is {g:Array Value->Prop} {x C:Addr} {od:Option Addr} {h:Heap} (e:ExcD g x C od h):IsOf x C h:=let ⟨o,_,a,b,_⟩:=e;⟨o,a,b⟩
theorem ZLT {P:Program} {w:World} {H:Hp} {h:Heap} {g:Array Value->Prop} {x C:Addr} {od:Option Addr} (e:ExcD g x C od h):ObjOk P w H h x (XO g x C od):=by
 obtain ⟨o,vs,a,b,c,d⟩:=id e
 exact ⟨e,⟨o,a⟩,fun h1 h2 ⟨o1,vs1,a1,b1,c1,d1⟩ k=>⟨o1,vs1,k o1 a1,b1,c1,d1⟩⟩
abbrev bmV:List Value:=[.type "ValueError",.type "Exception",.type "BaseException",.type "object"]
def ZEL:List Value->Bool
 | .ref _ :: r=>ZEL r
 | l=>l==bmV
theorem ZDU (self:Value):∀ {l:List Value},ZEL l=true->PySem.refuseLoop self "__setattr__" l=pure ()
 | .ref c :: r,e=>(refuseLoop_ref _ _ _ _).trans (ZDU self (l:=r) e)
 | .type n :: r,e=>by rw [show (Value.type n :: r)=bmV from beq_iff_eq.mp e];exact PySem.F.store_ValueError.passes self
 | [],e=>by cases e
 | .none :: r,e | .bool _ :: r,e | .int _ _ :: r,e | .str _ _ :: r,e | .bytes _ _ :: r,e | .float _ _ :: r,e | .builtin _ :: r,e=>by cases (beq_iff_eq.mp e)
def ZNj (K:PySem.W.Frag) (C:Addr):Bool:=(PySem.W.clsIn K C).any fun cd=>ZEL cd.mro
def ZOC (K:PySem.W.Frag) (C:Addr):Bool:=
 match K.lookup C with
 | some ⟨.type t,_,.cls cd,sl⟩=>
  (match sl.toList,cd.mro with
  | [_,_,_,_,some (.builtin made),_],.ref D :: up=>t == "type" && (D==C&&(made == "ValueError.__new__" && (PySem.W.tailIn K bmV up && !cd.hasDel)))
  | _,_=>false)
 | _=>false
structure ExcF (K:PySem.W.Frag) (C fI:Addr) (f:Str):Prop where
 exc:ExcC K C
 made:ZOC K C=true
 init:PySem.W.findIn K (.ref C) "__init__" = some (some (.ref fI))
 fn:PySem.W.isFn K (.ref fI)=true
 kp:PySem.W.keepIn K (.ref C)=true
 sa:PySem.W.findIn K (.ref C) "__setattr__" = some (some (.builtin "object.__setattr__"))
 no:PySem.W.findIn K (.ref C) f=some none
 hd:PySem.W.hasDictIn K C=true
 over:ZNj K C=true
section
variable {g:Array Value->Prop} {X:Cx} {pins:List (Addr×Obj)} {σ:St} {H:Hp} {s:Shared} {a C fI:Addr} {f:Str} {v:V} {A:Around} {E:Value->Shared->Prop}
theorem ZIX {y:V} {u:Value} {Q:Unit->Shared->Prop} (I:Inv X pins σ H s) (e:H a=some (XO g a C none)) (c:ExcF X.K C fI f) (ry:RelV y u)
  (h:∀ dx s',H dx=none->dx≠a->Inv X pins σ (upd (upd H dx (.xd [(f,y)])) a (XO g a C (some dx))) s'->Q () s'):wpAny (model X.prog X.w) A (setAttr (.ref a) f u) Q E s:=by
 obtain ⟨o,vs,hx,hc,hda,hdi,hgv⟩:=(I.hok a _ e).1
 obtain ⟨oc,od,oda,osl⟩:=o
 dsimp only at hc hda hdi
 subst hc hda hdi
 have J:PySem.W.InstAt s.heap a ⟨.ref C,none,.fields vs,osl⟩ C none:=⟨hx,rfl,rfl,True.intro⟩
 refine PySem.W.set_plain I.kIn J c.sa ?_
 have SF:=PySem.F.store_ValueError
 obtain ⟨cd,hcd,ho⟩:=PySem.W.any_some c.over
 have sub:PySem.W.Looks (model X.prog X.w) s.heap (isInstance (.ref a) (.type "object")) true:=J.type.andThen (PySem.W.looks_mroIn I.kIn c.exc.mO)
 refine codeAny_call_builtin SF.slot.plain SF.entry (@PySem.W.check_slot (model X.prog X.w) _ _ { s with toks:=s.toks+1 } "object.__setattr__" "object" "__setattr__" (.ref a) [.str f s.toks,u] [] _ SF.kind SF.split sub (SF.args (.ref a) (.str f s.toks) u) ?_)
 have hm:PySem.W.Looks (model X.prog X.w) s.heap (mroOf (.ref C)) cd.mro:=(PySem.W.looks_clsIn I.kIn hcd).andThen .now
 rw [PySem.W.osa_eq,PySem.refuse_eq]
 refine wpAny_bind (wpAny_bind (PySem.W.Looks.here (s:={ s with toks:=s.toks+1 }) J.type (wpAny_bind (PySem.W.Looks.here (s:={ s with toks:=s.toks+1 }) hm ?_))))
 rw [ZDU _ ho]
 refine wpAny_pure (wpAny_bind (PySem.W.Looks.here (s:={ s with toks:=s.toks+1 }) J.type (wpAny_bind (PySem.W.Looks.here (s:={ s with toks:=s.toks+1 }) (PySem.W.looks_findIn I.kIn c.no) (wpAny_bind (wpAny_pure ?_))))))
 obtain ⟨cd2,hcd2,hd2⟩:=PySem.W.any_some c.hd
 refine wpAny_bind (wpAny_pure (wpAny_bind (wpAny_bind (wpAny_loadPart hx (wpAny_bind (PySem.W.Looks.here (s:={ s with toks:=s.toks+1 }) (PySem.W.looks_clsIn I.kIn hcd2) ?_))))))
 rw [hd2]
 dsimp only
 have hsz:s.heap.get? s.heap.objs.size=none:=Heap.get?_none_of_le (Nat.le_refl _)
 have hda:a≠s.heap.objs.size:=Nat.ne_of_lt (Heap.lt_size hx)
 have hHd:H s.heap.objs.size=none:=I.hok.fresh (Nat.le_refl _)
 rw [if_neg (by simp),if_neg (by simp [typeHasDict])]
 have hx1:=Heap.get?_push_of_some { cls:=.type "dict",data:=.dict #[] } hx
 refine wpAny_bind (wpAny_alloc' (wpAny_bind (wpAny_update' hx1 (wpAny_pure ?_))))
 generalize eh:((s.heap.push { cls:=.type "dict",data:=.dict #[] }).update a fun o=>{ cls:=o.cls,dict:=some s.heap.objs.size,data:=o.data,slots:=o.slots })=h2
 have ga:h2.get? a=some ⟨.ref C,some s.heap.objs.size,.fields vs,osl⟩:=by
  rw [<-eh]
  exact Heap.get?_update_self _ hx1 rfl
 have gd:h2.get? s.heap.objs.size=some { cls:=.type "dict",data:=.dict #[] }:=by
  rw [<-eh]
  exact (Heap.get?_update_ne _ _ _ _ hda.symm).trans (Heap.get?_push_at rfl rfl)
 have go:∀ b o,b≠a->s.heap.get? b=some o->h2.get? b=some o:=fun b o n q=>by
  rw [<-eh]
  exact (Heap.get?_update_ne _ _ _ _ n).trans (Heap.get?_push_of_some _ q)
 have hnd:h2.Ns s.heap.objs.size (fun _=>none):=⟨_,#[],_,gd,rfl,fun e he=>absurd he (by simp),fun _=>rfl⟩
 show wpAny _ _ (Builtin.ObjectAttr.storeInDict s.heap.objs.size (.str f s.toks) f u) _ _ _
 unfold Builtin.ObjectAttr.storeInDict Builtin.ObjectAttr.newKeyGuard
 refine wpAny_bind (wpAny_pure (wpAny_bind (wpAny_nsSet1 (Heap.Ns1.of_empty hnd) fun h' hn' hs=>?_)))
 obtain ⟨oD,esD,epD,hoD,hdD,hcD⟩:=hn'.count (Within.cons f u Within.nil)
 refine wpAny_bind (wpAny_lookBehind hoD (by rw [hdD];exact pastItsLine_dict (Nat.le_trans hcD (by rw [List.length_cons,List.length_nil,sizeLine_eq];omega))) ?_)
 have ga':h'.get? a=some ⟨.ref C,some s.heap.objs.size,.fields vs,osl⟩:=(hs.2 a hda).trans ga
 have go':∀ b o,b≠a->s.heap.get? b=some o->h'.get? b=some o:=fun b o n q=>(hs.2 b (Nat.ne_of_lt (Heap.lt_size q))).trans (go b o n q)
 have nt:∀ {b:Addr} {o:HO},H b=some o->b≠s.heap.objs.size:=fun {b o} q z=>by rw [z,hHd] at q;cases q
 have na:∀ {b:Addr},H b=none->b≠a:=fun {b} q z=>by rw [z,e] at q;cases q
 refine wpAny_pure (h s.heap.objs.size _ hHd hda.symm (I.call' (s':={ s with heap:=h',toks:=_ }) (ch:=[]) rfl ⟨fun b o q n _ _=>go' b o (na n) q,fun b o q n _ _=>⟨o.slots,go' b o (na n) q⟩,fun b o q n _=>?_,fun b o q _=>?_,fun b xs q=>?_,fun b o u q=>?_,fun b ps q=>?_⟩ (fun b ob q=>?_) I.bare (fun b hb=>absurd hb (by simp))))
 ·rw [ZAG (na n),ZAG (Nat.ne_of_lt (Heap.lt_size q))];exact n
 ·by_cases z:b=a
  ·rw [z];exact ⟨_,ga'⟩
  ·exact ⟨o,go' b o z q⟩
 ·rw [ZAG (fun z=>by rw [z,e] at q;cases q),ZAG (nt q)];exact q
 ·rw [ZAG (fun z=>by rw [z,e] at q;cases q),ZAG (nt q)];exact q
 ·exact ⟨#[],by rw [ZAG (fun z=>by rw [z,e] at q;cases q),ZAG (nt q),q];simp⟩
 ·by_cases z:b=a
  ·rw [z,ZAA] at q
   cases q
   rw [z]
   exact ZLT ⟨_,_,ga',rfl,rfl,rfl,hgv⟩
  ·rw [ZAG z] at q
   by_cases z2:b=s.heap.objs.size
   ·rw [z2,ZAA] at q
    cases q
    rw [z2]
    refine ⟨_,hn',fun g=>?_⟩
    show RelO (List.lookup g [(f,y)]) (if g=f then some u else none)
    by_cases hg:g=f
    ·rw [hg,if_pos rfl];simp only [List.lookup,beq_self_eq_true];exact ry
    ·rw [if_neg hg];simp only [List.lookup,beq_eq_false_iff_ne.mpr hg];exact True.intro
   ·rw [ZAG z2] at q
    have oc:∀ {c:Addr},H c=some (.own b)->c≠a:=fun {c} hc z=>by rw [z,e] at hc;cases hc
    refine (I.hok b ob q).stay (fun c u hc r=>go' c u ?_ r) (fun c hc=>?_) (fun c xs hc=>?_)
    ·rcases hc with rfl | hc
     ·exact z
     ·exact oc hc
    ·rw [ZAG (oc hc),ZAG (nt hc)];exact hc
    ·rw [ZAG (fun z=>by rw [z,e] at hc;cases hc),ZAG (nt hc)];exact hc
theorem ZIl {b:Bool} {dx:Addr} {fs:List (Str×V)} {Q:Value->Shared->Prop} (I:Inv X pins σ H s) (e:H a=some (XO g a C (some dx))) (d:H dx=some (.xd fs)) (c:ExcF X.K C fI f) (l:fs.lookup f=some v)
  (h:∀ u s',Inv X pins σ H s'->RelV v u->Q u s'):wpAny (model X.prog X.w) A (getAttr (.ref a) f b) Q E s:=by
 obtain ⟨o,vs,hx,hc,hda,hdi,hgv⟩:=id (I.hok a _ e).1
 obtain ⟨mA,hns,hrel⟩:=I.hok dx _ d
 obtain ⟨u,hu,ru⟩:=RelO.some_of (v:=v) (o:=mA f) (by rw [<-l];exact hrel f)
 obtain ⟨od,hod,hlk⟩:=ZFC hns
 have J:PySem.W.InstAt s.heap a o C (some od):=⟨hx,hc,by unfold PySem.W.notCls;rw [hda],by rw [hdi];exact hod⟩
 obtain ⟨cd,hcd,hhd⟩:=PySem.W.any_some c.hd
 have L:PySem.W.Looks (model X.prog X.w) s.heap (Builtin.ObjectAttr.inOwnDict f (.ref a)) (some u):=PySem.W.looks_own I.kIn J hcd (by unfold PySem.W.ownOf;rw [hhd,if_pos rfl];show PySem.W.lookIn f od=_;rw [hlk,hu])
 have F:PySem.W.Looks (model X.prog X.w) s.heap (Builtin.ObjectAttr.find (.ref a) (.ref C) f) (.value u):=by
  refine PySem.W.Looks.andThen (PySem.W.looks_findIn I.kIn c.no) (PySem.W.Looks.andThen .now (PySem.W.Looks.andThen .now ?_))
  exact PySem.W.Looks.andThen L (PySem.W.Looks.tag PySem.W.Looks.now)
 refine wpAny_bind (wpAny_mkText ?_)
 refine ZG2 (s:={ s with toks:=s.toks+1 }) I.kIn (I.hok a _ e).1.is c.exc F ⟨ZFI ru,h u _ (I.tok _) ru⟩
end
section
variable {prog:Program} {w:World} {A:Around} {E:Value->Shared->Prop} {s:Shared} {K:PySem.W.Frag} {C fI:Addr} {f:Str}
abbrev ZEI (h:Heap) (C:Addr) (us:List Value):Heap:=(h.push { cls:=.type "tuple",data:=.seq us.toArray }).push { cls:=.ref C,data:=.fields #[.ref h.objs.size,.none,.none,.none,.bool false,.none] }
theorem ZJ7 {us:List Value} {Q:Value->Shared->Prop} (X:K.In s.heap) (c:ExcF K C fI f) (hus:us.length<=sizeLine)
  (h:wpAny (model prog w) (A.under (.builtin "type.__call__" ⟨.ref C :: us,[]⟩)) (call (.ref fI) (.ref (s.heap.objs.size+1) :: us)) (fun r s'=>r=.none∧Q (.ref (s.heap.objs.size+1)) s') E { s with heap:=ZEI s.heap C us }) :
  wpAny (model prog w) A (call (.ref C) us) Q E s:=by
 obtain ⟨hh,g,d,t,os⟩:=s
 have n:=c.made
 unfold ZOC at n
 split at n
 next tt dd cd sl ho=>
  split at n
  next k0 k1 k2 k3 made k5 D up hs hm=>
   simp only [Bool.and_eq_true,beq_iff_eq,Bool.not_eq_true'] at n
   obtain ⟨rfl,rfl,rfl,ht,hdel⟩:=n
   obtain ⟨nm,bs,mro,ns,qn,hd,sn,sub,ab,col,del⟩:=cd
   dsimp only at hm hdel
   subst hm hdel
   obtain ⟨sll⟩:=sl
   dsimp only at hs
   subst hs
   have hC:hh.get? D=some (excClassObj nm qn D ns bs up hd sn sub ab col dd k0 k1 k2 k3 k5 "ValueError.__new__"):=X _ _ ho
   have T:OwnTail hh bmV up:=PySem.W.tail_of_in X ht
   have FB:=PySem.F.excBase_ValueError
   have f1:=tc_lookup
   have f2:=tc_bind (.ref D)
   have hT:(⟨hh,g,d,t,os⟩:Shared).TypeIs (.ref D) "type" :=⟨_,hC,rfl⟩
   refine wpAny_call (codeAny_of_tree (show wpAny _ _ (callAny (.ref D) _) _ _ _ from ?_))
   repeat (any_goals (first | assumption | with_reducible refine wpAny_loadPart_at hC ?_ | wp_step))
   refine ⟨rfl,codeAny_call_builtin_at (Code.quiet_builtin _ (by decide +kernel)) entry_typeCall (wpAny_check_type_call_sub hC ?_)⟩
   repeat (first | with_reducible refine wpAny_loadPart_at hC ?_ | with_reducible refine wpAny_madeBy_exc hC ?_ | wp_step)
   refine codeAny_call_builtin_code (Code.quiet_builtin _ FB.quiet) (wpAny_check_new_subU FB FB.hasB T hC (codeAny_exc_new_subU FB FB.hasB FB T hC ?_ hus))
   show wpAny _ _ _ _ _ _
   have e1:(ZEI hh D us).get? (hh.objs.size+1)=some { cls:=.ref D,data:=.fields #[.ref hh.objs.size,.none,.none,.none,.bool false,.none] }:=by heap_get
   have kk:∀ b o,hh.get? b=some o->(ZEI hh D us).get? b=some o:=fun b o q=>Heap.get?_push_of_some _ (Heap.get?_push_of_some _ q)
   have hC1:=kk _ _ hC
   have hin:(Value.ref D :: up).contains (.ref D)=true:=by simp
   unfold isInstance
   show wpAny _ _ _ _ _ ⟨ZEI hh D us,g,d,t,os⟩
   repeat (first | with_reducible refine wpAny_loadPart_at e1 ?_ | wp_step)
   refine wpAny_isSubtype_exc (C:=D) (h:=ZEI hh D us) hC1 ?_
   rw [hin]
   repeat wp_step
   have X1:K.In (ZEI hh D us):=fun b o q=>kk b o (X b o q)
   show wpAny _ _ (typeLookup (.ref D) _) _ _ _
   refine (PySem.W.looks_findIn X1 c.init).at ?_
   refine wpAny_holding (wpAny_bind ((PySem.W.bind_fn X1 _ (beq_iff_eq.mp c.fn)).at ?_))
   refine wpAny_bind (wpAny_mono h (fun r s' hr=>?_) fun _ _ z=>z)
   obtain ⟨rfl,hQ⟩:=hr
   wp_walk
   exact hQ
  next=>cases n
 next=>cases n
end
def IsX (H:Hp) (ea C:Addr):Prop:=∃ φ,H ea=some (.ext φ)∧∀ h,φ h->IsOf ea C h
theorem ZOu {g:Array Value->Prop} {H:Hp} {ea C:Addr} {od:Option Addr} (e:H ea=some (XO g ea C od)):IsX H ea C:=⟨_,e,fun _ h=>h.is⟩
theorem IsX.mono {H H':Hp} {ea C:Addr} (x:IsX H ea C) (s:Same H H'):IsX H' ea C:=let ⟨φ,e,k⟩:=x;⟨φ,s _ _ e,k⟩
def ZFS (K:PySem.W.Frag):List V->Hp->VK->Prop:=fun xs H Q=>∃ ea C c b,xs=[.ref ea,c]∧IsX H ea C∧ExcC K C∧isC c=true∧PySem.W.kitOne K (.ref C) (cV c)=some b∧Q (.bl b) H
def ZOl (K:PySem.W.Frag) (ta tv:TE) (f:Str):TS:=fun D σ H=>tv σ H fun y H1=>ta σ H1 fun x H2=>∃ g a C fI,x=.ref a∧H2 a=some (XO g a C none)∧ExcF K C fI f∧∀ dx,H2 dx=none->dx≠a->D.nx σ (upd (upd H2 dx (.xd [(f,y)])) a (XO g a C (some dx)))
def ZNM (K:PySem.W.Frag) (ta:TE) (f:Str):TE:=fun σ H Q=>ta σ H fun x H1=>∃ g a C dx fs v fI,x=.ref a∧H1 a=some (XO g a C (some dx))∧H1 dx=some (.xd fs)∧ExcF K C fI f∧fs.lookup f=some v∧Q v H1
def ZCw (K:PySem.W.Frag) (C fI:Addr) (f:Str):Sp:=fun vs H Q _=>ExcF K C fI f∧∃ ea y,vs=[.ref ea,y]∧H ea=some (XO ZJg ea C none)∧∀ dx,H dx=none->dx≠ea->Q .non (upd (upd H dx (.xd [(f,y)])) ea (XO ZJg ea C (some dx)))
section
variable {X:Cx}
theorem ZGT:ZBt X (.builtin "isinstance") (ZFS X.K):=by
 intro pins s σ H xs us Q I r h
 obtain ⟨ea,C,c,b,rfl,⟨φ,e,of⟩,EC,hc,hk,q⟩:=h
 obtain ⟨u,w',rfl,ru,rw'⟩:=ZKq r
 cases (show u=Value.ref ea from ru)
 rw [ZM8 rw' hc]
 exact PySem.W.kia_one (ZJv EC) I.kIn (of _ (I.hok ea _ e).1) hk (fun z=>nomatch z) fun tk=>⟨.bl b,H,I.tok tk,rfl,q⟩
variable {C fI:Addr} {f:Str} {e o value:Expr} {es:List Expr} {ta tv:TE} {t:TA} {pos pos' p:Pos} {x:Str}
theorem ZGE (ha:PE X o ta) (hv:PE X value tv) (hs:swapsWith value (some (.Attribute o f pos')) pos.line X.env=pure false):PS X (.Assign [.Attribute o f pos'] value pos) (ZOl X.K ta tv f):=by
 intro pins s σ H D I h
 refine plainObj_wpAny_Assign_Attribute (thn (hv pins s σ H _ I h) fun u s1 ⟨y,H1,I1,ry,q⟩=>thn (ha pins s1 σ H1 _ I1 q) fun ov s2 ⟨x,H2,I2,rx,g,a,C,fI,ex,ea,c,q2⟩=>?_) hs
 subst ex
 obtain rfl:ov=Value.ref a:=rx
 exact ZIX I2 ea c ry fun dx s' hd hn I3=>⟨σ,_,I3,q2 dx hd hn⟩
theorem ZLe (he:PE X e ta) (hb:attributeBase e f X.env (eval e X.env)=eval e X.env):PE X (.Attribute e f pos) (ZNM X.K ta f):=by
 intro pins s σ H Q I h
 refine ZIO hb (thn (he pins s σ H _ I h) fun u s1 ⟨x,H1,I1,rx,g,a,C,dx,fs,v,fI,ex,ea,ed,c,l,q⟩=>?_)
 subst ex
 obtain rfl:u=Value.ref a:=rx
 exact ZIl I1 ea ed c l fun u s' I2 ru=>⟨v,H1,I2,ru,q⟩
theorem Inv.newx {pins:List (Addr×Obj)} {σ:St} {H:Hp} {s:Shared} {h':Heap} {ea:Addr} (I:Inv X pins σ H s) (keeps:∀ b o,s.heap.get? b=some o->h'.get? b=some o) (n:s.heap.get? ea=none) (hx:ExcD ZJg ea C none h'):Inv X pins σ (upd H ea (XO ZJg ea C none)) { s with heap:=h' }:=by
 have hn:H ea=none:=by
  cases z:H ea with
  | none=>rfl
  | some o=>
   obtain ⟨o',q⟩:=I.hok.there (a:=ea) (by rw [z];exact fun y=>nomatch y)
   rw [n] at q
   cases q
 have nt:∀ {b:Addr} {o:HO},H b=some o->b≠ea:=fun {b o} q z=>by rw [z,hn] at q;cases q
 refine I.call' (s':={ s with heap:=h' }) (ch:=[]) rfl ⟨fun b o q _ _ _=>keeps b o q,fun b o q _ _ _=>⟨o.slots,keeps b o q⟩,fun b o q z _=>?_,fun b o q _=>⟨o,keeps b o q⟩,fun b xs q=>?_,fun b o u q=>?_,fun b ps q=>⟨#[],?_⟩⟩ (fun b ob q=>?_) I.bare (fun b hb=>absurd hb (by simp))
 ·rw [ZAG (fun y=>by rw [y,n] at q;cases q)];exact z
 ·rw [ZAG (nt q)];exact q
 ·rw [ZAG (nt q)];exact q
 ·rw [ZAG (nt q),q];simp
 ·by_cases z:b=ea
  ·rw [z,ZAA] at q
   cases q
   rw [z]
   exact ZLT hx
  ·rw [ZAG z] at q
   exact (I.hok b ob q).stay (fun c u _ r=>keeps c u r) (fun c hc=>by rw [ZAG (nt hc)];exact hc) (fun c xs hc=>by rw [ZAG (nt hc)];exact hc)
end
theorem ZH1 (f:Array Value->Array Value) (o:Obj):(Obj.mapFields f o).dict=o.dict:=by
 obtain ⟨c,d,da,sl⟩:=o
 cases da <;> rfl
def ZOH (h B:Heap) (e:Addr) (cls:Value) (od:Option Addr) (fl:Value):Prop:=
 ∃ oe vs T oT ts,(h.get? e=some oe∧oe.cls=cls∧oe.dict=od∧oe.data=.fields vs∧vs[1]? = some (.ref T))∧B.get? T=none∧T≠e∧h.get? T=some oT∧oT.data=.fields ts∧ts[3]? = some fl
def Fly (B:Heap) (l:List Env) (e:Addr) (cls:Value) (od:Option Addr) (fl:Value) (h:Heap):Prop:=B.StaysIn h∧B.get? e=none∧h.FunFrames B l∧ZOH h B e cls od fl
theorem Fly.at {B h:Heap} {l:List Env} {e C:Addr} {od:Option Addr} {fl:Value} (x:Fly B l e (.ref C) od fl h):ExcD ZJl e C od h:=by
 obtain ⟨_,_,_,oe,vs,T,oT,ts,⟨a,b,c,d,_⟩,_⟩:=x
 exact ⟨oe,vs,a,b,d,c,trivial⟩
section
variable {M:Model} {A:Around} {E:Value->Shared->Prop} {s:Shared} {B:Heap} {env:Env} {outer l:List Env} {L e:Addr} {cls:Value} {od:Option Addr} {Q:Unit->Shared->Prop}
theorem ZDe {oe:Obj} {vs:Array Value} {first:Value} {nx:Bool} (fr:A.frames=some (env :: outer)) (ff:s.heap.FunFrames B (env :: outer)) (eL:env.frame=some L) (ge:s.heap.get? e=some oe) (sb:B.StaysIn s.heap) (eB:B.get? e=none)
  (dd:oe.data=.fields vs) (two:1<vs.size) (h:∀ h',Fly B (env :: outer) e oe.cls oe.dict (rawInt L) h'->s.heap.UpToSlots h'->Q () { s with heap:=h' }) :
  wpAny M A (frameOf env >>= fun a=>entryPlaceOf L nx >>= fun pl=>EntryCells.newEntry first a .none (rawInt L) .none pl >>= fun b=>setField (.ref e) 1 b) Q E s:=by
 have en:e∉(env :: outer).filterMap (·.frame):=fun z=>by
  obtain ⟨_,o,g1,g2⟩:=ff.mem z
  rw [ge] at g1
  cases g1
  exact g2 vs dd
 refine wpAny_bind (wpAny_frameOf_fun fr ff eL fun h1 k1=>wpAny_bind (wpAny_entryPlaceOf fun pl kp=>?_))
 unfold EntryCells.newEntry newFields
 refine wpAny_bind (wpAny_newObj_type ?_ (kp.sizeOk5 _ _ _ _ _))
 have t3:([first,Value.ref L,.none,rawInt L,.none]++(if pl.isEmpty then List.replicate 6 Value.none else pl)).toArray[3]? = some (rawInt L):=by
  first | (simp;done) | (rcases kp with rfl | ⟨_,_,_,_,_,_,_,rfl⟩ <;> simp)
 generalize ([first,Value.ref L,.none,rawInt L,.none]++(if pl.isEmpty then List.replicate 6 Value.none else pl)).toArray=ts at t3 ⊢
 have g1:h1.get? e=some oe:=(k1.2.1 e en).trans ge
 have sb1:B.StaysIn h1:=fun b o q=>(k1.2.1 b fun z=>by rw [(ff.mem z).1] at q;cases q).trans (sb b o q)
 have eT:h1.objs.size≠e:=fun z=>Nat.lt_irrefl _ (by have:=Heap.lt_size g1;rw [<-z] at this;exact this)
 have g2:=Heap.get?_push_of_some (h:=h1) ({ cls:=.type "traceback",dict:=none,data:=.fields ts }:Obj) g1
 have d3:=Obj.data_mapFields dd (·.setIfInBounds 1 (Value.ref h1.objs.size))
 have g3:=Heap.get?_update_self (Obj.mapFields (·.setIfInBounds 1 (Value.ref h1.objs.size))) g2 (Obj.isFreed_of_fields d3)
 have gT:=(Heap.get?_update_other (h1.push ({ cls:=.type "traceback",dict:=none,data:=.fields ts }:Obj)) (Obj.mapFields (·.setIfInBounds 1 (Value.ref h1.objs.size))) eT.symm).trans (Heap.get?_push_size h1 rfl)
 have stay:∀ b o,b≠e->h1.get? b=some o->((h1.push ({ cls:=.type "traceback",dict:=none,data:=.fields ts }:Obj)).update e (Obj.mapFields (·.setIfInBounds 1 (Value.ref h1.objs.size)))).get? b=some o:=fun b o n q=>
  (Heap.get?_update_other _ _ n.symm).trans (Heap.get?_push_of_some _ q)
 have notE:∀ b o,s.heap.get? b=some o->(∀ ws,o.data≠.fields ws)->b≠e:=fun b o q nf z=>by
  rw [z,ge] at q
  cases q
  exact nf vs dd
 refine wpAny_setField g2 dd two (h _ ⟨fun b o q=>stay b o (fun z=>by rw [z,eB] at q;cases q) (sb1 b o q),eB,ff.of_keeps fun b o q nf=>?_,_,_,h1.objs.size,_,_,⟨g3,Obj.cls_mapFields _ _,ZH1 _ _,d3,by simp [two]⟩,sb1.fresh,eT,gT,rfl,t3⟩ fun b o q nf=>?_)
 ·obtain ⟨sl,z⟩:=k1.2.2 b o q
  exact ⟨_,stay b _ (notE b o q nf) z,rfl⟩
 ·obtain ⟨sl,z⟩:=k1.2.2 b o q
  exact ⟨sl,stay b _ (notE b o q nf) z⟩
theorem ZBg {fl:Value} (x:Fly B l e cls od fl s.heap) (h:∀ h',Fly B l e cls od .none h'->s.heap.UpToSlots h'->Q () { s with heap:=h' }):wpAny M A (setFlight (.ref e) none) Q E s:=by
 obtain ⟨sb,eB,ff,oe,vs,T,oT,ts,⟨ge,c1,c2,dd,v1⟩,TB,Te,gT,dT,t3⟩:=x
 have n3:3<ts.size:=(Array.getElem?_eq_some_iff.mp t3).1
 have far:∀ b,b≠T->(s.heap.update T (Obj.mapFields (·.setIfInBounds 3 ((none:Option Addr).elim Value.none fun f=>rawInt f)))).get? b=s.heap.get? b:=fun b n=>Heap.get?_update_other _ _ n.symm
 have notT:∀ b o,s.heap.get? b=some o->(∀ ws,o.data≠.fields ws)->b≠T:=fun b o q nf z=>by
  rw [z,gT] at q
  cases q
  exact nf ts dT
 unfold setFlight
 refine wpAny_bind (wpAny_field ge dd v1 ?_)
 rw [if_pos (show (Value.ref T != Value.none)=true by simp)]
 refine wpAny_setField gT dT n3 (h _ ⟨fun b o q=>(far b fun z=>by rw [z,TB] at q;cases q).trans (sb b o q),eB,ff.of_keeps fun b o q nf=>⟨o,(far b (notT b o q nf)).trans q,rfl⟩,?_⟩ fun b o q nf=>⟨o.slots,(far b (notT b o q nf)).trans q⟩)
 exact ⟨oe,vs,T,_,_,⟨(far e Te.symm).trans ge,c1,c2,dd,v1⟩,TB,Te,Heap.get?_update_self _ gT (Obj.isFreed_of_fields (Obj.data_mapFields dT _)),Obj.data_mapFields dT _,by simp [n3]⟩
theorem ZI9 {oe:Obj} {vs:Array Value} (fr:A.frames=some (env :: outer)) (ff:s.heap.FunFrames B (env :: outer)) (eL:env.frame=some L) (ge:s.heap.get? e=some oe) (sb:B.StaysIn s.heap) (eB:B.get? e=none)
  (dd:oe.data=.fields vs) (v1:vs[1]? = some .none) (h:∀ h',Fly B (env :: outer) e oe.cls oe.dict (rawInt L) h'->s.heap.UpToSlots h'->Q () { s with heap:=h' }):wpAny M A (noteFrame (.ref e) env) Q E s:=by
 unfold noteFrame
 simp only [eL]
 refine wpAny_bind (wpAny_field ge dd v1 ?_)
 rw [if_neg (by decide)]
 exact ZDe fr ff eL ge sb eB dd (Array.getElem?_eq_some_iff.mp v1).1 h
theorem ZC6 (fr:A.frames=some (env :: outer)) (eL:env.frame=some L) (x:Fly B (env :: outer) e cls od .none s.heap) (h:∀ h',Fly B (env :: outer) e cls od (rawInt L) h'->s.heap.UpToSlots h'->Q () { s with heap:=h' }) :
  wpAny M A (noteFrame (.ref e) env) Q E s:=by
 obtain ⟨sb,eB,ff,oe,vs,T,oT,ts,⟨ge,c1,c2,dd,v1⟩,TB,Te,gT,dT,t3⟩:=x
 subst c1 c2
 have n3:3<ts.size:=(Array.getElem?_eq_some_iff.mp t3).1
 have far:∀ b,b≠T->(s.heap.update T (Obj.mapFields (·.setIfInBounds 3 Value.none))).get? b=s.heap.get? b:=fun b n=>Heap.get?_update_other _ _ n.symm
 have notT:∀ b o,s.heap.get? b=some o->(∀ ws,o.data≠.fields ws)->b≠T:=fun b o q nf z=>by
  rw [z,gT] at q
  cases q
  exact nf ts dT
 unfold noteFrame
 simp only [eL]
 refine wpAny_bind (wpAny_field ge dd v1 ?_)
 rw [if_pos (show (Value.ref T != Value.none)=true by simp)]
 refine wpAny_bind (wpAny_field gT dT t3 ?_)
 rw [if_neg (show ¬ ((Value.none==rawInt L)=true) by simp [rawInt])]
 refine wpAny_bind (wpAny_setField gT dT n3 ?_)
 refine ZDe (s:={ s with heap:=_ }) fr (ff.of_keeps fun b o q nf=>⟨o,(far b (notT b o q nf)).trans q,rfl⟩) eL ((far e Te.symm).trans ge) (fun b o q=>(far b fun z=>by rw [z,TB] at q;cases q).trans (sb b o q)) eB dd (Array.getElem?_eq_some_iff.mp v1).1 fun h' f' u'=>h h' f' fun b o q nf=>?_
 exact u' b o ((far b (notT b o q nf)).trans q) nf
theorem Fly.less {fl:Value} {h:Heap} (x:Fly B (env :: outer) e cls od fl h):Fly B outer e cls od fl h:=by
 obtain ⟨a,b,⟨_,_,c⟩,d⟩:=x
 exact ⟨a,b,c,d⟩
theorem ZHc (fr:A.frames=some (env :: outer)) (eL:env.frame=some L) (x:Fly B (env :: outer) e cls od .none s.heap) (h:∀ h',Fly B outer e cls od .none h'->s.heap.UpToSlots h'->Q () { s with heap:=h' }):wpAny M A (leaving env (.ref e)) Q E s:=by
 unfold leaving
 exact wpAny_bind (ZC6 fr eL x fun h1 f1 u1=>ZBg (s:={ s with heap:=h1 }) f1 fun h2 f2 u2=>h h2 f2.less (u1.trans u2))
theorem ZHm {oe:Obj} {vs:Array Value} (fr:A.frames=some (env :: outer)) (ff:s.heap.FunFrames B (env :: outer)) (eL:env.frame=some L) (ge:s.heap.get? e=some oe) (sb:B.StaysIn s.heap) (eB:B.get? e=none)
  (dd:oe.data=.fields vs) (v1:vs[1]? = some .none) (h:∀ h',Fly B outer e oe.cls oe.dict .none h'->s.heap.UpToSlots h'->Q () { s with heap:=h' }):wpAny M A (leaving env (.ref e)) Q E s:=by
 unfold leaving
 exact wpAny_bind (ZI9 fr ff eL ge sb eB dd v1 fun h1 f1 u1=>ZBg (s:={ s with heap:=h1 }) f1 fun h2 f2 u2=>h h2 f2.less (u1.trans u2))
end
theorem ZD6 {prog:Program} {w:World} {A:Around} {E:Value->Shared->Prop} {s:Shared} {env:Env} {K:PySem.W.Frag} {C:Addr} {x:Sem Value} {Q:Flow->Shared->Prop} (hh:A.handled=none) (mB:PySem.W.mroIn K C (.type "BaseException")=some true)
  (ht:PySem.W.typeIn K (.ref C)=some (.type "type"))
  (h:wpAny (model prog w) A x (fun v s1=>∃ e od,v=.ref e∧K.In s1.heap∧ExcD ZJg e C od s1.heap∧E (.ref e) s1) E s):wpAny (model prog w) A (raiseStmt env (some x) none) Q E s:=by
 unfold raiseStmt
 refine wpAny_bind (wpAny_mono h (fun v s1 h1=>?_) fun _ _ z=>z)
 obtain ⟨e,od,rfl,KX,⟨⟨oc,od',oda,osl⟩,vs,ge,c1,c2,c3,v1⟩,hE⟩:=h1
 dsimp only at c1 c2 c3
 subst c1 c2 c3
 obtain ⟨hp,g,d,tk,os⟩:=s1
 have L0:PySem.W.Looks (model prog w) hp (typeOf (.ref e)) (.ref C):=IsOf.ty ⟨_,ge,rfl⟩ _
 have L1:=PySem.W.looks_mroIn (M:=model prog w) KX mB
 have L3:=PySem.W.looks_typeIn (M:=model prog w) KX ht
 have ge':hp.get? e=some ⟨.ref C,od',.fields vs,osl⟩:=ge
 unfold excFromValue isExcClass isInstance isType raisedInstance setFlight
 repeat (first | with_reducible refine wpAny_loadPart_at ge' ?_ | with_reducible refine L1.at ?_ | with_reducible refine L0.at ?_ | with_reducible refine L3.at ?_ | wp_step)
 rw [show vs[1]? = some Value.none from v1]
 repeat wp_step
 all_goals first | exact wpAny_raiseNew_none hh hE | trace_state
structure FlownD (P:Program) (w:World) (outer:List Env) (H:Hp) (s:Shared) (ea:Addr) (cls:Value) (od:Option Addr) (H':Hp) (s':Shared):Prop where
 ex:∃ B:Heap,Fly B outer ea cls od .none s'.heap∧(∀ b o,s'.heap.get? b=some o->H' b≠none->B.get? b=some o)∧(∀ b o,s.heap.get? b=some o->H b=none->b∉frs outer->B.get? b=some o)∧(∀ b o,s.heap.get? b=some o->b∉frs outer->∃ o',B.get? b=some o')
 os:s'.os=s.os
 bare:AllBare s'.gens
 un:Un (frs outer) [] H H' s.heap s'.heap
 hok:HOk P w H' s'.heap
 new:s.heap.get? ea=none
 free:H' ea=none
def CXd (P:Program) (w:World):CXT:=fun outer H s E e s'=>∃ ea cls od H',e=.ref ea∧FlownD P w outer H s ea cls od H' s'∧E cls od H'
structure FnD (X:Cx) (E:XK):Prop where
 stack:X.stack=X.env :: X.outer
 frame:X.env.frame=some X.env.locals
 ex:X.ex=[]
 calm:X.calm=true
 xe:∀ e s',wpAny (model X.prog X.w) X.A (leaving X.env e) (fun _ s''=>CXd X.prog X.w X.outer X.H₀ X.s₀ E e s'') (fun e' s''=>CXd X.prog X.w X.outer X.H₀ X.s₀ E e' s'') s'->X.xe e s'
theorem ZCC {P:Program} {w:World} {K:PySem.W.Frag} {mg:Str->Option Value} {base:Heap} {N:List Str} {qual:Str} {scope:Scope} {f:Addr} {cdv:Value} {A:Around} {outer:List Env} {s:Shared} {H:Hp} {E:XK} :
  FnD (ZFp (CXd P w) P w K mg base N qual scope f cdv A outer s H E) E:=⟨rfl,rfl,rfl,rfl,fun _ _ h=>h⟩
section
variable {X:Cx} {pins:List (Addr×Obj)} {σ:St} {H H':Hp} {s s':Shared} {E:XK}
theorem FnD.frs (F:FnD X E):frs X.stack=X.env.locals :: X.fs:=by
 rw [F.stack]
 show List.filterMap _ (X.env :: X.outer)=_
 rw [List.filterMap_cons,F.frame]
 rfl
theorem FnD.off (F:FnD X E) (I:Inv X pins σ H s) {b:Addr} {o:Obj} (q:X.s₀.heap.get? b=some o) (n:b∉L2.frs X.outer):b∉L2.frs X.stack:=fun z=>by
 rw [F.frs] at z
 rcases List.mem_cons.mp z with z | z
 ·rw [z,I.noloc] at q;cases q
 ·exact n z
theorem FnD.on (F:FnD X E) {b:Addr} (n:b∈L2.frs X.outer):b∈L2.frs X.stack:=by
 rw [F.frs]
 exact List.mem_cons_of_mem _ n
theorem ZNh {B h3:Heap} {ea:Addr} (F:FnD X E) (J:Inv X pins σ H s) (st:B.StaysIn h3) (inB:∀ b o,b≠ea->s.heap.get? b=some o->b∉L2.frs X.stack->B.get? b=some o) (sm:s.heap.UpToSlots h3) (new:X.s₀.heap.get? ea=none) :
  Un (L2.frs X.outer) [] X.H₀ H X.s₀.heap h3:=by
 have bb:=J.base
 rw [F.ex] at bb
 have ne:∀ {b:Addr} {o:Obj},X.s₀.heap.get? b=some o->b≠ea:=fun q z=>by rw [z,new] at q;cases q
 have nf:∀ {b:Addr} {o:Obj},b∈L2.frs X.stack->s.heap.get? b=some o->∀ vs,o.data≠.fields vs:=fun hb q=>ZDa J _ hb _ q
 refine ⟨fun b o q n hb _=>st b o (inB b o (ne q) (bb.keep b o q n hb (by simp)) (F.off J q hb)),fun b o q n hb _=>?_,bb.free,fun b o q _=>?_,bb.tups,bb.frzs,bb.tbls⟩
 ·obtain ⟨sl,e1⟩:=bb.slot b o q n hb (by simp)
  obtain ⟨sl2,e2⟩:=sm b _ e1 (nf (F.on hb) e1)
  exact ⟨sl2,e2⟩
 ·obtain ⟨o',q'⟩:=bb.there b o q (by simp)
  by_cases hb:b∈L2.frs X.stack
  ·obtain ⟨sl,e1⟩:=sm b o' q' (nf hb q')
   exact ⟨_,e1⟩
  ·exact ⟨o',st b o' (inB b o' (ne q) q' hb)⟩
theorem Inv.untrack {a:Addr} {φ:Heap->Prop} (I:Inv X pins σ (upd H a (.ext φ)) s) (hn:H a=none):Inv X pins σ H s:=by
 have nt:∀ {b:Addr} {u:HO},H b=some u->b≠a:=fun {b u} e z=>by rw [z,hn] at e;cases e
 have dn:∀ {b:Addr},upd H a (.ext φ) b=none->H b=none:=fun {b} e=>by
  by_cases z:b=a
  ·rw [z];exact hn
  ·rw [ZAG z] at e;exact e
 have dt:∀ {b:Addr} {u:HO},upd H a (.ext φ) b=some u->(∀ ψ,u≠.ext ψ)->H b=some u:=fun {b u} e k=>by
  by_cases z:b=a
  ·rw [z,ZAA] at e
   exact absurd (Option.some.inj e).symm (k φ)
  ·rw [ZAG z] at e;exact e
 refine ⟨I.ok,I.os,I.bare,⟨I.base.keep,I.base.slot,fun b ob q n hx=>dn (I.base.free b ob q n hx),I.base.there,fun b xs q=>dt (I.base.tups b xs q) (fun _ z=>nomatch z),fun b ob u q=>dt (I.base.frzs b ob u q) (fun _ z=>nomatch z),fun b ps q=>?_⟩,I.loc,I.cell,dn I.free,fun x c e=>dn (I.freeC x c e),fun p hp'=>?_,fun b u e=>?_,I.len⟩
 ·obtain ⟨more,e⟩:=I.base.tbls b ps q
  exact ⟨more,dt e (fun _ z=>nomatch z)⟩
 ·obtain ⟨e,n,r⟩:=I.pin p hp'
  exact ⟨e,dn n,r⟩
 ·have e2:upd H a (.ext φ) b=some u:=by rw [ZAG (nt e)];exact e
  exact (I.hok b u e2).stay (fun _ _ _ q=>q) (fun c q=>dt q (fun _ z=>nomatch z)) fun c xs q=>dt q (fun _ z=>nomatch z)
theorem ZJT {ea C:Addr} {od:Option Addr} (F:FnD X E) (J:Inv X pins σ H s) (new:X.s₀.heap.get? ea=none) (hn:H ea=none) (hx:ExcD ZJg ea C od s.heap) (hE:E (.ref C) od H):X.xe (.ref ea) s:=by
 obtain ⟨oe,vs,ge,c1,c2,c3,v1⟩:=hx
 have fr:X.A.frames=some (X.env :: X.outer):=by rw [J.ok.frames,F.stack]
 have ff:s.heap.FunFrames (PySem.W.hideAll s.heap (ea :: L2.frs X.stack)) (X.env :: X.outer):=by
  have:=PySem.W.funFrames_hide (as:=ea :: L2.frs X.stack) J.stack (fun env he a ha=>List.mem_cons_of_mem _ (List.mem_filterMap.mpr ⟨env,he,ha⟩))
  rw [F.stack] at this ⊢
  exact this
 have inB:∀ b o,b≠ea->s.heap.get? b=some o->b∉L2.frs X.stack->(PySem.W.hideAll s.heap (ea :: L2.frs X.stack)).get? b=some o:=fun b o n q hb=>PySem.W.hideAll_get _ q (fun z=>by
  rcases List.mem_cons.mp z with z | z
  ·exact n z
  ·exact hb z)
 have inT:∀ b o,s.heap.get? b=some o->H b≠none->(PySem.W.hideAll s.heap (ea :: L2.frs X.stack)).get? b=some o:=fun b o q n=>inB b o (fun z=>n (by rw [z];exact hn)) q fun z=>n (J.stkFree b z)
 have eB:(PySem.W.hideAll s.heap (ea :: L2.frs X.stack)).get? ea=none:=PySem.W.hideAll_none _ (by simp)
 refine F.xe _ _ (ZHm fr ff F.frame ge (fun b o q=>PySem.W.of_hideAll _ q) eB c2 v1 fun h3 fl sm=>?_)
 rw [c1,c3] at fl
 refine ⟨ea,_,od,H,rfl,⟨⟨_,fl,fun b o q n=>?_,fun b o q n hb=>?_,fun b o q hb=>?_⟩,J.os,J.bare,ZNh F J fl.1 inB sm new,J.hok.keptT fun b o q n=>fl.1 b o (inT b o q n),new,hn⟩,hE⟩
 ·obtain ⟨o',q'⟩:=J.hok.there n
  have q2:=fl.1 b o' (inT b o' q' n)
  have q3:h3.get? b=some o:=q
  rw [q2] at q3
  rw [<-Option.some.inj q3]
  exact inT b o' q' n
 ·have bb:=J.base
  rw [F.ex] at bb
  exact inB b o (fun z=>by rw [z,new] at q;cases q) (bb.keep b o q n hb (by simp)) (F.off J q hb)
 ·obtain ⟨o',q'⟩:=J.base.there b o q (by rw [F.ex];simp)
  exact ⟨o',inB b o' (fun z=>by rw [z,new] at q;cases q) q' (F.off J q hb)⟩
theorem ZCa {E1:XK} (F:FnD X E) (hE:∀ cls o H,E1 cls o H->E cls o H):ZBP (CXd X.prog X.w) X E1:=by
 intro pins σ H s e s' I h
 obtain ⟨ea,cls,od,H',rfl,W,q⟩:=h
 obtain ⟨B,fl,inT,inB,inA⟩:=W.ex
 have fr:X.A.frames=some (X.env :: X.outer):=by rw [I.ok.frames,F.stack]
 refine F.xe _ _ (ZHc fr F.frame (by rw [<-F.stack];exact fl) fun h2 fl2 sm=>?_)
 have bb:=I.base
 rw [F.ex] at bb
 have nf:∀ {b:Addr} {o:Obj},b∈L2.frs X.stack->s.heap.get? b=some o->∀ vs,o.data≠.fields vs:=fun hb q=>ZDa I _ hb _ q
 have toB:∀ b o,X.s₀.heap.get? b=some o->X.H₀ b=none->b∉L2.frs X.outer->B.get? b=some o:=fun b o q n hb=>inB b o (bb.keep b o q n hb (by simp)) (bb.free b o q n (by simp)) (F.off I q hb)
 have sl2:∀ b o,s.heap.get? b=some o->b∈L2.frs X.stack->∃ sl,h2.get? b=some { o with slots:=sl }:=fun b o q hb=>by
  obtain ⟨sl,e1⟩:=W.un.slot b o q (I.stkFree b hb) hb (by simp)
  obtain ⟨sl2,e2⟩:=sm b _ e1 (fun vs z=>nf hb q vs z)
  exact ⟨sl2,e2⟩
 have u:Un (L2.frs X.outer) [] X.H₀ H' X.s₀.heap h2:=by
  refine ⟨fun b o q n hb _=>fl2.1 b o (toB b o q n hb),fun b o q n hb _=>?_,fun b o q n _=>?_,fun b o q _=>?_,fun b xs q=>W.un.tups b xs (bb.tups b xs q),fun b o u q=>W.un.frzs b o u (bb.frzs b o u q),fun b ps q=>?_⟩
  ·obtain ⟨sl,e1⟩:=bb.slot b o q n hb (by simp)
   obtain ⟨sl3,e3⟩:=sl2 b _ e1 (F.on hb)
   exact ⟨sl3,e3⟩
  ·obtain ⟨o',q'⟩:=bb.there b o q (by simp)
   exact W.un.free b o' q' (bb.free b o q n (by simp)) (by simp)
  ·obtain ⟨o',q'⟩:=bb.there b o q (by simp)
   by_cases hb:b∈L2.frs X.stack
   ·obtain ⟨sl,e1⟩:=sl2 b o' q' hb
    exact ⟨_,e1⟩
   ·obtain ⟨o2,e2⟩:=inA b o' q' hb
    exact ⟨o2,fl2.1 b o2 e2⟩
  ·obtain ⟨m1,e1⟩:=bb.tbls b ps q
   obtain ⟨m2,e2⟩:=W.un.tbls b _ e1
   exact ⟨m1++m2,by rw [e2,Array.append_assoc]⟩
 refine ⟨ea,cls,od,H',rfl,⟨⟨B,fl2,fun b o q2 n=>?_,toB,fun b o q2 hb=>?_⟩,W.os.trans I.os,W.bare,u,W.hok.keptT fun b o q2 n=>fl2.1 b o (inT b o q2 n),?_,W.free⟩,hE _ _ _ q⟩
 ·obtain ⟨o',q'⟩:=W.hok.there n
  have q3:=fl2.1 b o' (inT b o' q' n)
  have q4:h2.get? b=some o:=q2
  rw [q3] at q4
  rw [<-Option.some.inj q4]
  exact inT b o' q' n
 ·obtain ⟨o',q'⟩:=bb.there b o q2 (by simp)
  exact inA b o' q' (F.off I q2 hb)
 ·cases z:X.s₀.heap.get? ea with
  | none=>rfl
  | some o=>
   obtain ⟨o',q'⟩:=bb.there ea o z (by simp)
   rw [W.new] at q'
   cases q'
def ZHv (C:Addr) (f:Str) (E:XK) (t:TA):TS:=fun _ σ H=>t σ H fun vs H1=>∃ y,vs=[y]∧∀ dx,H1 dx=none->E (.ref C) (some dx) (upd H1 dx (.xd [(f,y)]))
theorem ZJZ {k:Nat} {C fI:Addr} {f x:Str} {fd:FuncData} {ps:List Str} {e:Expr} {es:List Expr} {t:TA} {p cpos pos:Pos} (F:FnD X E) (c:ExcF X.K C fI f) (ht:PySem.W.typeIn X.K (.ref C)=some (.type "type"))
  (FI:FnOk X.prog X.w X.K X.mg X.base CX0 k fI fd ps (ZCw X.K C fI f)) (hr:Room (k+1) X.A) (hg:Gl X x) (hm:X.mg x=some (.ref C)) (hb:Binds X.K fd ps [])
  (ha:PA X (e :: es) t) (hdb:(x==("__debug__" : Str))=false:=by decide) (he:starEach (e :: es) X.env=(false,eval e X.env) :: starEach es X.env:=by rfl) (hpl:(backTo cpos (starEach es X.env)).any (·.1)=false:=by rfl) :
  PS X (.Raise (some (.Call (.Name x p) (e :: es) [] cpos)) none pos) (ZHv C f E t):=by
 intro pins s σ H D I h
 have hh:=I.ok.hd F.calm
 rw [arm_exec_Raise]
 refine wpAny_bind (wpAny_standAt ?_)
 refine ZD6 hh c.exc.mB ht (wpAny_bind (wpAny_mono ?_ (fun v s3 h3=>wpAny_bind (wpAny_standAt (wpAny_pure h3))) fun _ _ z=>z))
 refine wpAny_Call_Name_kw (ZBs I hg hm ?_ hdb)
 refine PySem.W.callWith_K (h₀:=X.base) I.ok.mod.kin c.kp (thn (ha cpos pins s σ H _ I h) fun us s1 ⟨vs,H1,I1,r,y,ey,q⟩=>⟨I1.kIn,?_⟩) he hpl
 subst ey
 obtain ⟨u,rfl,ry⟩:∃ u,us=[u]∧RelV y u:=by
  cases r with
  | cons ry r0=>cases r0;exact ⟨_,rfl,ry⟩
 refine ZJ7 I1.kIn c (by show 1<=sizeLine;rw [sizeLine_eq];omega) ?_
 have kk:∀ b o,s1.heap.get? b=some o->(ZEI s1.heap C [u]).get? b=some o:=fun b o q=>Heap.get?_push_of_some _ (Heap.get?_push_of_some _ q)
 have e1:(ZEI s1.heap C [u]).get? (s1.heap.objs.size+1)=some { cls:=.ref C,data:=.fields #[.ref s1.heap.objs.size,.none,.none,.none,.bool false,.none] }:=by heap_get
 have e0:s1.heap.get? (s1.heap.objs.size+1)=none:=Heap.get?_none_of_le (Nat.le_succ _)
 have h0:H1 (s1.heap.objs.size+1)=none:=I1.hok.fresh (Nat.le_succ _)
 have new0:X.s₀.heap.get? (s1.heap.objs.size+1)=none:=by
  cases z:X.s₀.heap.get? (s1.heap.objs.size+1) with
  | none=>rfl
  | some o=>
   obtain ⟨o',q'⟩:=I1.base.there _ o z (by rw [F.ex];simp)
   rw [e0] at q'
   cases q'
 have J:=I1.newx (C:=C) (ea:=s1.heap.objs.size+1) (h':=ZEI s1.heap C [u]) kk e0 ⟨_,_,e1,rfl,rfl,rfl,rfl⟩
 generalize hea:s1.heap.objs.size+1=ea at *
 have r2:Vals [V.ref ea,y] [Value.ref ea,u]:=.cons rfl (.cons ry .nil)
 have hsp:ZCw X.K C fI f [V.ref ea,y] (upd H1 ea (XO ZJg ea C none)) (fun v H2=>v=.non∧∃ dx,H2=upd (upd H1 dx (.xd [(f,y)])) ea (XO ZJg ea C (some dx))∧H1 dx=none∧dx≠ea) E0:=by
  refine ⟨c,_,y,rfl,ZAA,fun dx hd hne=>⟨rfl,dx,?_,?_,hne⟩⟩
  ·funext b
   by_cases z:b=ea
   ·rw [z,ZAA,ZAA]
   ·rw [ZAG z,ZAG z]
    by_cases z2:b=dx
    ·rw [z2,ZAA,ZAA]
    ·rw [ZAG z2,ZAG z2,ZAG z]
  ·rw [ZAG hne] at hd;exact hd
 have hl:([Value.ref ea,u]++([]:List Value)).length=ps.length:=by
  have e:=r2.length
  rw [FI.len _ _ _ _ hsp] at e
  exact e.symm
 refine wpAny_call (codeAny_mono (FI.run _ X.stack _ _ ⟨[Value.ref ea,u],[]⟩ _ _ _ E0 (hr.make C [u] []) (J.env0.make C [u] []) (hb _ [Value.ref ea,u] J.kIn hl) r2 hsp) fun r s' hq'=>?_)
 cases r with
 | error e=>exact (ZBQ pins σ _ _ e s' J hq')
 | ok fl=>
  cases fl with
  | ret u2=>
   obtain ⟨v,H',I3,rv,ev,dx,eH,nd,ne⟩:=J.after hq'
   subst ev eH
   refine ⟨rv,ea,some dx,rfl,I3.kIn,(I3.hok ea _ ZAA).1,?_⟩
   have hn:upd H1 dx (.xd [(f,y)]) ea=none:=by rw [ZAG (Ne.symm ne)];exact h0
   exact ZJT F (I3.untrack hn) new0 hn (I3.hok ea _ ZAA).1 (q dx nd)
  | next=>exact False.elim hq'
  | brk=>exact False.elim hq'
  | cont=>exact False.elim hq'
end
def ZNk (K:PySem.W.Frag) (CB:Addr) (i:Nat) (ts:TS) (D:Ends) (σ:St):XK:=fun cls od H2=>∃ C,cls=.ref C∧PySem.W.mroIn K C (.ref CB)=some true∧∀ ea,H2 ea=none ->
 ts { nx:=fun σ' H'=>D.nx (σ'.set i none) H',rt:=D.rt,bk:=fun σ' H'=>D.bk (σ'.set i none) H',ct:=fun σ' H'=>D.ct (σ'.set i none) H' } (σ.set i (some (.ref ea))) (upd H2 ea (XO ZJl ea C od))
theorem ZKp {X:Cx} {pins:List (Addr×Obj)} {σ:St} {H H':Hp} {s s':Shared} {ea:Addr} {od:Option Addr} {B h2:Heap} {cls:Value} (I:Inv X pins σ H s) (W:FlownD X.prog X.w X.stack H s ea cls od H' s') (inT:∀ b o,s'.heap.get? b=some o->H' b≠none->B.get? b=some o)
  (inB:∀ b o,s.heap.get? b=some o->H b=none->b∉frs X.stack->B.get? b=some o) (inA:∀ b o,s.heap.get? b=some o->b∉frs X.stack->∃ o',B.get? b=some o') (st:B.StaysIn h2) (sm:s'.heap.UpToSlots h2) :
  Inv X pins σ H' { s' with heap:=h2 }:=by
 have sl2:∀ b o,s.heap.get? b=some o->b∈frs X.stack->∃ sl,h2.get? b=some { o with slots:=sl }:=fun b o q hb=>by
  obtain ⟨sl,e1⟩:=W.un.slot b o q (I.stkFree b hb) hb (by simp)
  obtain ⟨sl2,e2⟩:=sm b _ e1 (fun vs z=>ZDa I b hb o q vs z)
  exact ⟨sl2,e2⟩
 refine I.call' (s':={ s' with heap:=h2 }) W.os ⟨fun b o q n hb _=>st b o (inB b o q n hb),fun b o q n hb _=>sl2 b o q hb,W.un.free,fun b o q _=>?_,W.un.tups,W.un.frzs,W.un.tbls⟩ (W.hok.keptT fun b o q n=>st b o (inT b o q n)) W.bare (fun b hb=>absurd hb (by simp))
 by_cases hb:b∈frs X.stack
 ·obtain ⟨sl,e1⟩:=sl2 b o q hb
  exact ⟨_,e1⟩
 ·obtain ⟨o',e1⟩:=inA b o q hb
  exact ⟨o',st b o' e1⟩
section
variable {P:Program} {w:World} {K:PySem.W.Frag} {mg:Str->Option Value} {base:Heap}
theorem Fun.okD {x qual:Str} {st:Stmt} {f:Addr} {fd:FuncData} {N ps:List Str} {k:Nat} {sp:Sp} (F:Fun K x qual st f fd) (S:FnScope N ps (ZAI st)) (len:∀ vs H Q E,sp vs H Q E->vs.length=ps.length)
  (hbody:∀ (cdv:Value) (A:Around) (outer:List Env) (s:Shared) (H:Hp) (vs:List V) (Q:VK) (E:XK),Room k (A.deeper (envOfC qual (ZAI st) s.heap.objs.size f cdv))->sp vs H Q E ->
   ∃ t,PSs (ZFp (CXd P w) P w K mg base N qual (ZAI st) f cdv A outer s H E) (ZAp st) t∧t { nx:=fun _ H'=>Q .non H',rt:=Q } (ZDs N vs) H):FnOk P w K mg base (CXd P w) (k+1) f fd ps sp:=by
 obtain ⟨oc,od,kV,doc,pm,an,cdv,ct,osl,rfl,lk,hcd⟩:=F.ex
 exact ZLo lk hcd S len fun A outer s H vs Q E hr hsp=>hbody cdv A outer s H vs Q E hr hsp
end
def ZGo (P:Program) (w:World) (K:PySem.W.Frag) (mg:Str->Option Value) (base:Heap) (N:List Str) (qual:Str) (scope:Scope) (f:Addr) (cd:Value) (cl:List (Str×Addr)) (A:Around) (outer:List Env) (s:Shared) (H:Hp) (E:XK):Cx where
 prog:=P
 w:=w
 K:=K
 mg:=mg
 base:=base
 A:=A.deeper (PySem.W.envX qual scope s.heap.objs.size f cd cl)
 N:=N
 s₀:=s
 H₀:=H
 env:=PySem.W.envX qual scope s.heap.objs.size f cd cl
 outer:=outer
 stack:=PySem.W.envX qual scope s.heap.objs.size f cd cl :: outer
 ex:=[]
 calm:=true
 fn:=fun _=>false
 pn:=[]
 xe:=fun e s'=>wpAny (model P w) (A.deeper (PySem.W.envX qual scope s.heap.objs.size f cd cl)) (leaving (PySem.W.envX qual scope s.heap.objs.size f cd cl) e) (fun _ s''=>CXd P w outer H s E e s'') (fun e' s''=>CXd P w outer H s E e' s'') s'
section
variable {P:Program} {w:World} {K:PySem.W.Frag} {mg:Str->Option Value} {base:Heap}
theorem ZMf {N:List Str} {qual:Str} {scope:Scope} {f:Addr} {cd:Value} {cl:List (Str×Addr)} {A:Around} {outer:List Env} {s:Shared} {H:Hp} {E:XK}:FnD (ZGo P w K mg base N qual scope f cd cl A outer s H E) E:=⟨rfl,rfl,rfl,rfl,fun _ _ h=>h⟩
theorem ZIN {outer:List Env} {cs:List Addr} {H:Hp} {s s':Shared} {E:XK} {e:Value} (e0:Env0 P w K mg base A outer s H) (hc:∀ c∈cs,∃ o,H c=some (ZB7 c o))
  (h:CXd P w outer (unT cs H) s (fun c o H2=>(∀ c'∈cs,H2 c'=none)->E c o (reT cs H H2)) e s'):CXd P w outer H s E e s':=by
 obtain ⟨ea,cls,od,H',rfl,W,q⟩:=h
 obtain ⟨B,fl,inT,inB,inA⟩:=W.ex
 have nfr:∀ c∈cs,c∉frs outer:=fun c hc' z=>by
  obtain ⟨o,e⟩:=hc c hc'
  rw [e0.frf c z] at e;cases e
 have old:∀ c∈cs,∃ o,H c=some (ZB7 c o)∧s.heap.get? c=some o∧s'.heap.get? c=some o:=fun c hc'=>by
  obtain ⟨o,e⟩:=hc c hc'
  have g:=e0.hok.obj e
  exact ⟨o,e,g,W.un.keep c o g (ZBu hc') (nfr c hc') (by simp)⟩
 have n2:∀ c∈cs,H' c=none:=fun c hc'=>by
  obtain ⟨o,e1,g1,g2⟩:=old c hc'
  exact W.un.free c o g1 (ZBu hc') (by simp)
 refine ⟨ea,cls,od,reT cs H H',rfl,⟨⟨B,fl,fun b o q2 n=>?_,fun b o q2 n hb=>inB b o q2 (ZBq n) hb,inA⟩,W.os,W.bare,ZLI W.un hc,W.hok.reT (fun c hc'=>?_) (fun c hc'=>?_),W.new,?_⟩,q n2⟩
 ·by_cases z:b∈cs
  ·obtain ⟨o',e1,g1,g2⟩:=old b z
   rw [q2] at g2;cases g2
   exact inB b o g1 (ZBu z) (nfr b z)
  ·rw [ZA9 z] at n
   exact inT b o q2 n
 ·obtain ⟨o,e1,g1,g2⟩:=old c hc'
  exact W.un.free c o g1 (ZBu hc') (by simp)
 ·obtain ⟨o,e1,g1,g2⟩:=old c hc'
  exact ⟨o,e1,g2⟩
 ·rw [ZA9 fun z=>?_];exact W.free
  obtain ⟨o,e1,g1,g2⟩:=old ea z
  rw [W.new] at g1;cases g1
theorem ZLf {k:Nat} {f c':Addr} {co:Obj} {qual:Str} {params:Arguments} {body:Expr} {scope:Scope} {cl:List (Str×Addr)} {pm ctv:Value} {N:List Str} {spB:Sp}
  (hinj:∀ x y c,cl.lookup x=some c->cl.lookup y=some c->x=y) (hhas:∀ x,(scope.names.lookup x=some .cell∨scope.names.lookup x=some .free)->∃ c,cl.lookup x=some c) (hin:∀ x c,cl.lookup x=some c->c∈cl.map (·.2)) (hvis:∀ x∈N,scope.names.lookup x=some .free)
  (hkind:scope.kind=.function) (hco:scope.isCoroutine=false) (hgen:scope.isGenerator=false) (hnc:∀ x∈scope.names,x.2≠.cell) (hcd:ZGx co qual)
  (hbody:∀ (A:Around) (outer:List Env) (s:Shared) (H:Hp) (ws:List V) (Q:VK) (E:XK),Room k (A.deeper (PySem.W.envX qual scope s.heap.objs.size f (.ref c') cl))->spB ws H Q E ->
   ∃ t,PE (ZGo P w K mg base N qual scope f (.ref c') cl A outer s H E) body t∧t (ws.map some) H Q) :
  FnOk P w K mg base (CXd P w) (k+1) f (PySem.W.kla_fn "<lambda>" qual params body scope cl pm (.ref c') ctv) []
   (ZK2 f c' (PySem.W.kla_obj "<lambda>" qual params body scope cl pm c' ctv) co cl N spB):=by
 refine ⟨fun vs H Q E h=>by rw [h.1];rfl,fun A outer s H args us vs Q E hr e0 hb r hsp=>?_⟩
 obtain ⟨rfl,hf,hc,ws,hcl,hB⟩:=hsp
 cases Vals.zero r
 have KX:K.In s.heap:=e0.mod.kin.keeps fun b o e=>(e0.bs b o e).1
 have lim:s.heap.NoLimit:=e0.mod.nolimit.keeps fun b o e=>(e0.bs b o e).1
 have hcs:∀ c∈cl.map (·.2),∃ o,H c=some (ZB7 c o):=fun c hc=>by
  obtain ⟨o,v,e,_⟩:=hcl.all c hc
  exact ⟨o,e⟩
 have hrec:s.heap.CodeRec (.ref c') qual:=by
  obtain ⟨vs',t,d,v1⟩:=hcd
  exact ⟨c',co,vs',t,rfl,e0.hok.obj hc,d,v1⟩
 refine PySem.W.kla_callFunE hr.depth (e0.hok.obj hf) rfl hco hgen rfl hrec (hb _ _ _ _ ?_)
 refine wpAny_newFunctionEnv hnc (fun x hx=>absurd hx (by simp)) (fun h₁ hns hsb=>⟨lim.fresh _ hsb,?_⟩) hkind
 have hk₁:∀ b o,s.heap.get? b=some o->h₁.get? b=some o:=fun b o e=>hsb.extBut b o (Nat.ne_of_lt (Heap.lt_size e)) (Heap.get?_push_of_some _ e)
 obtain ⟨t,ht,hq⟩:=hbody A outer s (unT (cl.map (·.2)) H) ws _ _ (hr.deeper _) hB
 have noA:∀ b:Addr,b∉(ZGo P w K mg base N qual scope f (.ref c') cl A outer s (unT (cl.map (·.2)) H) (fun c o H2=>(∀ c∈cl.map (·.2),H2 c=none)->E c o (reT (cl.map (·.2)) H H2))).ex:=fun b z=>absurd (show b∈([]:List Addr) from z) (by simp)
 have I:Inv (ZGo P w K mg base N qual scope f (.ref c') cl A outer s (unT (cl.map (·.2)) H) (fun c o H2=>(∀ c∈cl.map (·.2),H2 c=none)->E c o (reT (cl.map (·.2)) H H2))) [] (ws.map some) (unT (cl.map (·.2)) H) { s with heap:=h₁,toks:=s.toks+0 }:=by
  refine ⟨⟨e0.mod,hkind,rfl,rfl,Nat.le_refl _,hinj,hhas,fun _ _ z=>absurd z Bool.false_ne_true,fun _=>hr.hd,Around.frames_deeper e0.frames,.inr ⟨rfl,rfl⟩,fun b z=>absurd z (noA b),fun b o e=>⟨(e0.bs b o e).1,ZBq (e0.bs b o e).2⟩,e0.bsz,fun b _ _=>noA b,fun b z=>absurd z (noA b),e0.funs,fun b hb=>ZBq (e0.frf b hb)⟩,
   rfl,e0.bare,Un.kept hk₁,⟨_,hns,fun i x v h1 h2 h3=>?_⟩,fun x c e=>?_,ZBq (e0.hok.fresh (Nat.le_refl _)),fun x c e=>ZBu (hin x c e),fun p hp=>absurd (show p∈([]:List (Addr×Obj)) from hp) (by simp),(e0.hok.unT hcs).kept hk₁,?_⟩
  ·have h2':ws[i]? = some v:=by
    rw [List.getElem?_map] at h2
    cases e:ws[i]? with
    | none=>rw [e] at h2;cases h2
    | some a=>rw [e] at h2;cases h2;rfl
   obtain ⟨c,o,u,e1,e2,e3,e4,rv⟩:=hcl.val i x v h1 h2'
   exact ⟨u,rv,.inr ⟨.inr (hvis x (List.mem_of_getElem? h1)),c,e1,o,hk₁ _ _ (e0.hok.obj e3),e4⟩⟩
  ·obtain ⟨o,v,e3,e4⟩:=hcl.all c (hin x c e)
   exact ⟨v,o,hk₁ _ _ (e0.hok.obj e3),e4⟩
  ·show (ws.map some).length=N.length
   rw [List.length_map];exact hcl.len
 refine PySem.W.kla_codeExpr (wpAny_mono (ht [] _ _ _ _ I hq) (fun u s' hs=>?_) fun e s' hs=>?_)
 ·obtain ⟨v,H2,J,rv,q⟩:=hs
  have u2:Un (frs outer) [] (unT (cl.map (·.2)) H) H2 s.heap s'.heap:=J.base
  have nfr:∀ c∈cl.map (·.2),c∉frs outer:=fun c hc' z=>by
   obtain ⟨o,e⟩:=hcs c hc'
   rw [e0.frf c z] at e;cases e
  have n2:∀ c∈cl.map (·.2),H2 c=none:=fun c hc'=>by
   obtain ⟨o,e⟩:=hcs c hc'
   exact u2.free c o (e0.hok.obj e) (ZBu hc') (by simp)
  exact ⟨v,_,J.os,J.bare,ZLI u2 hcs,J.hok.reT n2 (fun c hc'=>by
   obtain ⟨o,e⟩:=hcs c hc'
   exact ⟨o,e,u2.keep c o (e0.hok.obj e) (ZBu hc') (nfr c hc') (by simp)⟩),rv,q n2⟩
 ·exact wpAny_mono hs (fun _ s'' z=>ZIN e0 hcs z) fun e' s'' z=>ZIN e0 hcs z
end
def ZNl (K:PySem.W.Frag) (CB:Addr) (sp:Sp) (q:Nat) (f:Addr) (j i:Nat) (ts:TS):TS:=fun D σ H=>σ[q]? = some (some (.ref f))∧(∃ fd:FuncData,H f=some (ZB7 f { cls:=.type "function",data:=.func fd }))∧sp [] H (fun v H2=>D.nx (σ.set j (some v)) H2) (ZNk K CB i ts D σ)
theorem ZHk {X:Cx} {k:Nat} {f CB:Addr} {fd:FuncData} {sp:Sp} {x y n:Str} {p pos1 pos2 py ph pos:Pos} {j i q:Nat} {n0:Str} {p0:Pos} {b₀:Stmt} {suite:List Stmt} {ts:TS}
  (F:FnOk X.prog X.w X.K X.mg X.base (CXd X.prog X.w) k f fd [] sp) (hr:Room k X.A) (hb:∀ s,BindsTo s fd ⟨[],[]⟩ []) (hq:X.N[q]? = some x) (hv:Vis X.env.scope x)
  (hst:X.stack=X.env :: X.outer) (hfm:X.env.frame=some X.env.locals) (hex:X.ex=[])
  (hy:Gl X y) (hyC:X.mg y=some (.ref CB)) (hN:X.N.Nodup) (hi:X.N[i]? = some n) (hn:X.env.scope.names.lookup n=some .local)
  (ht:PySem.W.typeIn X.K (.ref CB)=some (.type "type")) (hB:PySem.W.mroIn X.K CB (.type "BaseException")=some true) (hs:∀ ea E',PSs (X.held ea E') (b₀ :: suite) ts) (hj:X.N[j]? = some n0) (hn0:X.env.scope.names.lookup n0=some .local)
  (hdb:(x==("__debug__" : Str))=false:=by decide) (hcd:(x==("__classdict__" : Str))=false:=by decide) (hdy:(y==("__debug__" : Str))=false:=by decide)
  (hsw:swapsWith (.Call (.Name x p) [] [] pos1) (some (.Name n0 p0)) pos2.line X.env=pure false:=by rfl) :
  PS X (.Try [.Assign [.Name n0 p0] (.Call (.Name x p) [] [] pos1) pos2] [.ExceptHandler (some (.Name y py)) (some n) (b₀ :: suite) ph] [] [] pos) (ZNl X.K CB sp q f j i ts):=by
 intro pins s σ H D I h
 refine wpAny_Try_except ?_
 have hfr:X.A.frames=some (X.env :: X.outer):=by rw [I.ok.frames,hst]
 have lands:∀ (H1:Hp) (s1:Shared) (ev:Value) (s':Shared),Inv X pins σ H1 s1->CXd X.prog X.w X.stack H1 s1 (ZNk X.K CB i ts D σ) ev s' ->
   wpAny (model X.prog X.w) X.A (noteFrame ev X.env) (fun _ s₂=>wpAny (model X.prog X.w) X.A (setFlight ev none) (fun _ s₃=>wpAny (model X.prog X.w) X.A (handleBy ev X.env [.ExceptHandler (some (.Name y py)) (some n) (b₀ :: suite) ph]) (SP X pins D) X.xe s₃) X.xe s₂) X.xe s':=by
  intro H1 s1 ev s' I1 hx
  obtain ⟨ea,cls,od,H',rfl,W,C,rfl,mC,q⟩:=hx
  obtain ⟨B,fl,inT,inB,inA⟩:=W.ex
  have fl':Fly B (X.env :: X.outer) ea (.ref C) od .none s'.heap:=by rw [<-hst];exact fl
  refine ZC6 hfr hfm fl' fun h4 held4 sm4=>?_
  refine ZBg (s:={ s' with heap:=h4 }) held4 fun h5 fl5 sm5=>?_
  have J5:Inv X pins σ H' { s' with heap:=h5 }:=ZKp I1 W inT inB inA fl5.1 (sm4.trans sm5)
  refine wpAny_handleBy_cons (codeAny_handlers_test ?_) (by intro q;cases q)
  refine ZBs (J5.held ea (fun _ _=>False)) hy hyC ?_ hdy
  refine ZDW (s:={ s' with heap:=h5 }) J5.kIn fl5.at.is ht hB mC ?_
  refine codeAny_handlers_suite_as ?_
  refine ZBg (s:={ s' with heap:=h5 }) fl5 fun h6 fl6 sm6=>?_
  have J6:Inv X pins σ H' { s' with heap:=h6 }:=ZKp I1 W inT inB inA fl6.1 ((sm4.trans sm5).trans sm6)
  have n0:X.s₀.heap.get? ea=none:=by
   cases z:X.s₀.heap.get? ea with
   | none=>rfl
   | some o=>
    obtain ⟨o',q'⟩:=I1.base.there ea o z (by rw [hex];simp)
    rw [W.new] at q'
    cases q'
  have n1:ea≠X.env.locals:=fun z=>by
   obtain ⟨m,⟨o,_,_,ho,_⟩,_⟩:=I1.loc
   rw [<-z,W.new] at ho
   cases ho
  have n2:∀ x c,X.env.cells.lookup x=some c->c≠ea:=fun x c e z=>by
   obtain ⟨v,o,ho,_⟩:=I1.cell x c e
   rw [z,W.new] at ho
   cases ho
  have n3:∀ p∈X.pn++pins,p.1≠ea:=fun p hp z=>by
   have ho:=(I1.pin p hp).1
   rw [z,W.new] at ho
   cases ho
  have K6:Inv X pins σ (upd H' ea (XO ZJl ea C od)) { s' with heap:=h6 }:=J6.track n0 n1 n2 n3 W.free (ZLT fl6.at)
  refine ZDA K6 hN hi (.inl hn) (v:=.ref ea) rfl (fun s7 I7=>?_) (.inr hn)
  refine wpAny_mono (hs ea _ pins s7 _ _ _ (I7.held ea _) (q ea W.free)) (fun fl s8 h8=>?_) fun _ _ z=>z
  cases fl with
  | next=>
   obtain ⟨σ8,H8,J8,q8⟩:=h8
   exact (J8.unheld I1.ok).goes hN hi hn fun s9 I9=>⟨_,H8,I9,q8⟩
  | brk=>
   obtain ⟨σ8,H8,J8,q8⟩:=h8
   exact (J8.unheld I1.ok).goes hN hi hn fun s9 I9=>⟨_,H8,I9,q8⟩
  | cont=>
   obtain ⟨σ8,H8,J8,q8⟩:=h8
   exact (J8.unheld I1.ok).goes hN hi hn fun s9 I9=>⟨_,H8,I9,q8⟩
  | ret u=>
   obtain ⟨v8,σ8,H8,J8,r8,q8⟩:=h8
   exact (J8.unheld I1.ok).goes hN hi hn fun s9 I9=>⟨v8,_,H8,I9,r8,q8⟩
 obtain ⟨hσ,⟨fd',hf⟩,hsp⟩:=h
 refine wpAny_execs_cons (wpAny_Assign_Name ?_ hsw)
 have I':=I.wish (fun ev s'=>wpAny (model X.prog X.w) X.A (noteFrame ev X.env) (fun _ s₂=>wpAny (model X.prog X.w) X.A (setFlight ev none) (fun _ s₃=>wpAny (model X.prog X.w) X.A (handleBy ev X.env [.ExceptHandler (some (.Name y py)) (some n) (b₀ :: suite) ph]) (SP X pins D) X.xe s₃) X.xe s₂) X.xe s')
 have pvv:∀ E',PE (X.wish E') (.Name x p) (ZM7 q):=fun E'=>ZLB (X:=X.wish E') hq hv hdb hcd
 refine wpAny_Call_Name_kw (thn (pvv _ pins s σ H (fun v H1=>v=.ref f∧H1=H) I' ⟨_,hσ,rfl,rfl⟩) fun u s1 ⟨v,H1,I1,r,ev,eH⟩=>?_)
 subst ev
 subst eH
 cases r
 have gf:=I1.hok.obj hf
 refine PySem.W.callWith_F0 ⟨_,_,_,_,gf⟩ ?_
 refine wpAny_call (codeAny_mono (F.run X.A X.stack s1 H1 ⟨[],[]⟩ [] [] _ _ hr I1.unwish.env0 (hb s1) .nil hsp) fun rr s' hq=>?_)
 cases rr with
 | error ev=>exact lands H1 s1 ev s' I1.unwish hq
 | ok fl=>
  cases fl with
  | ret u=>
   obtain ⟨v,H2,J,rv,q2⟩:=I1.unwish.after hq
   exact ZDA J hN hj (.inl hn0) rv (fun s2 I2=>wpAny_execs_nil (wpAny_execs_nil ⟨_,H2,I2,q2⟩)) (.inr hn0)
  | next=>exact False.elim hq
  | brk=>exact False.elim hq
  | cont=>exact False.elim hq
theorem ZHe {e:Value} {env env':Env} (h:env.frame=env'.frame):noteFrame e env=noteFrame e env':=by
 unfold noteFrame PySem.frameOf
 rw [h]
section
variable {M:Model} {A:Around} {E:Value->Shared->Prop} {s:Shared}
end
theorem ZCP {base h h':Heap}:∀ {l:List Env},h.FunFrames base l->(∀ b∈frs l,h'.get? b=h.get? b)->h'.FunFrames base l
 | [],_,_=>trivial
 | env :: l,⟨hk,⟨L,o,hf,hn,ho,hd⟩,hr⟩,k=>⟨hk,⟨L,o,hf,hn,(k L (List.mem_filterMap.mpr ⟨env,List.mem_cons_self,hf⟩)).trans ho,hd⟩,ZCP hr fun b hb=>k b (by
   obtain ⟨e,he,hb⟩:=List.mem_filterMap.mp hb
   exact List.mem_filterMap.mpr ⟨e,List.mem_cons_of_mem _ he,hb⟩)⟩
section
variable {X:Cx} {pins:List (Addr×Obj)} {σ:St} {H:Hp} {s:Shared} {E E1:XK}
end
section
variable {M:Model} {A:Around} {E:Value->Shared->Prop} {s:Shared} {B:Heap} {env:Env} {outer l:List Env} {L e:Addr} {cls:Value} {od:Option Addr} {Q:Unit->Shared->Prop}
theorem ZMR {fl:Value} {fr:Option Addr} (x:Fly B l e cls od fl s.heap) (h:∀ h',Fly B l e cls od (fr.elim .none fun f=>rawInt f) h'->s.heap.UpToSlots h'->Q () { s with heap:=h' }):wpAny M A (setFlight (.ref e) fr) Q E s:=by
 obtain ⟨sb,eB,ff,oe,vs,T,oT,ts,⟨ge,c1,c2,dd,v1⟩,TB,Te,gT,dT,t3⟩:=x
 have n3:3<ts.size:=(Array.getElem?_eq_some_iff.mp t3).1
 have far:∀ b,b≠T->(s.heap.update T (Obj.mapFields (·.setIfInBounds 3 (fr.elim Value.none fun f=>rawInt f)))).get? b=s.heap.get? b:=fun b n=>Heap.get?_update_other _ _ n.symm
 have notT:∀ b o,s.heap.get? b=some o->(∀ ws,o.data≠.fields ws)->b≠T:=fun b o q nf z=>by
  rw [z,gT] at q
  cases q
  exact nf ts dT
 unfold setFlight
 refine wpAny_bind (wpAny_field ge dd v1 ?_)
 rw [if_pos (show (Value.ref T != Value.none)=true by simp)]
 refine wpAny_setField gT dT n3 (h _ ⟨fun b o q=>(far b fun z=>by rw [z,TB] at q;cases q).trans (sb b o q),eB,ff.of_keeps fun b o q nf=>⟨o,(far b (notT b o q nf)).trans q,rfl⟩,?_⟩ fun b o q nf=>⟨o.slots,(far b (notT b o q nf)).trans q⟩)
 exact ⟨oe,vs,T,_,_,⟨(far e Te.symm).trans ge,c1,c2,dd,v1⟩,TB,Te,Heap.get?_update_self _ gT (Obj.isFreed_of_fields (Obj.data_mapFields dT _)),Obj.data_mapFields dT _,by simp [n3]⟩
theorem ZEl {fl:Value} (fr:A.frames=some (env :: outer)) (eL:env.frame=some L) (x:Fly B (env :: outer) e cls od fl s.heap) (h:∀ h',Fly B outer e cls od .none h'->s.heap.UpToSlots h'->Q () { s with heap:=h' }):wpAny M A (leaving env (.ref e)) Q E s:=by
 by_cases hL:fl=rawInt L
 ·subst hL
  have x0:=x
  obtain ⟨sb,eB,ff,oe,vs,T,oT,ts,⟨ge,c1,c2,dd,v1⟩,TB,Te,gT,dT,t3⟩:=x
  unfold leaving noteFrame
  simp only [eL]
  refine wpAny_bind (wpAny_bind (wpAny_field ge dd v1 ?_))
  rw [if_pos (show (Value.ref T != Value.none)=true by simp)]
  refine wpAny_bind (wpAny_field gT dT t3 ?_)
  rw [if_pos (by simp)]
  exact wpAny_pure (ZBg x0 fun h' f2 u2=>h h' f2.less u2)
 ·obtain ⟨sb,eB,ff,oe,vs,T,oT,ts,⟨ge,c1,c2,dd,v1⟩,TB,Te,gT,dT,t3⟩:=x
  subst c1 c2
  have n3:3<ts.size:=(Array.getElem?_eq_some_iff.mp t3).1
  have far:∀ b,b≠T->(s.heap.update T (Obj.mapFields (·.setIfInBounds 3 Value.none))).get? b=s.heap.get? b:=fun b n=>Heap.get?_update_other _ _ n.symm
  have notT:∀ b o,s.heap.get? b=some o->(∀ ws,o.data≠.fields ws)->b≠T:=fun b o q nf z=>by
   rw [z,gT] at q
   cases q
   exact nf ts dT
  unfold leaving noteFrame
  simp only [eL]
  refine wpAny_bind (wpAny_bind (wpAny_field ge dd v1 ?_))
  rw [if_pos (show (Value.ref T != Value.none)=true by simp)]
  refine wpAny_bind (wpAny_field gT dT t3 ?_)
  rw [if_neg (show ¬ ((fl==rawInt L)=true) from fun z=>hL (eq_of_beq z))]
  refine wpAny_bind (wpAny_setField gT dT n3 ?_)
  refine ZDe (s:={ s with heap:=_ }) fr (ff.of_keeps fun b o q nf=>⟨o,(far b (notT b o q nf)).trans q,rfl⟩) eL ((far e Te.symm).trans ge) (fun b o q=>(far b fun z=>by rw [z,TB] at q;cases q).trans (sb b o q)) eB dd (Array.getElem?_eq_some_iff.mp v1).1 fun h' f' u'=>?_
  refine ZBg (s:={ s with heap:=h' }) f' fun h2 f2 u2=>h h2 f2.less fun b o q nf=>?_
  obtain ⟨sl,e1⟩:=u' b o ((far b (notT b o q nf)).trans q) nf
  obtain ⟨sl2,e2⟩:=u2 b { o with slots:=sl } e1 nf
  exact ⟨sl2,e2⟩
end
section
variable {X:Cx} {pins:List (Addr×Obj)} {σ:St} {H:Hp} {s:Shared} {E E1:XK}
theorem ZFU {N:List Str} {scope:Scope} {cl:List (Str×Addr)} {fp:List Addr} {acc:Value} {Q:Value->Shared->Prop} {use:Option (Value->Sem Unit)} {C:Addr} (F:FnD X E) (hE:∀ cls o H,E1 cls o H->E cls o H) (I:Inv X pins σ H s) (hf:∀ b∈fp,ZEE X pins H b) (hC:s.heap.objs.size<=C) :
  ZBP (CXd X.prog X.w) (ZAc X N scope cl C s H fp (notedBy (model X.prog X.w) X.A (compEnvC scope cl C X.env) (fun e s'=>compPost (model X.prog X.w) X.A X.xe use Q acc C (.error e) s'))) E1:=by
 intro pc σc Hc sc e s' Ic h
 obtain ⟨ea,cls,od,H',rfl,W,q⟩:=h
 obtain ⟨B,fl,inT,inB,inA⟩:=W.ex
 have hst:(ZAc X N scope cl C s H fp (notedBy (model X.prog X.w) X.A (compEnvC scope cl C X.env) (fun e s'=>compPost (model X.prog X.w) X.A X.xe use Q acc C (.error e) s'))).stack=X.env :: X.outer:=F.stack
 have fl:Fly B (X.env :: X.outer) ea cls od .none s'.heap:=hst ▸ fl
 have hfr:X.A.frames=some (X.env :: X.outer):=by rw [I.ok.frames,F.stack]
 show wpAny (model X.prog X.w) X.A (noteFrame (.ref ea) (compEnvC scope cl C X.env)) _ _ s'
 rw [ZHe (env:=compEnvC scope cl C X.env) (env':=X.env) rfl]
 refine ZC6 hfr F.frame fl fun h4 held4 sm4=>?_
 obtain ⟨m,hn,_⟩:=Ic.loc
 have hn:sc.heap.Ns C m:=hn
 have cfree:Hc C=none:=Ic.free
 have nfr:C∉frs X.stack:=fun z=>by
  obtain ⟨_,o',g,_⟩:=I.stack.mem z
  exact absurd (Heap.lt_size g) (Nat.not_lt.mpr hC)
 have hn4:h4.Ns C m:=by
  obtain ⟨o,es,ep,ho,r⟩:=hn
  exact sm4.ns ⟨o,es,ep,W.un.keep C o ho cfree nfr (by simp),r⟩
 show compPost (model X.prog X.w) X.A X.xe use Q acc C (.error (.ref ea)) { s' with heap:=h4 }
 suffices hh:∃ m,h4.Ns C m∧∀ h',Heap.SameBut C h4 h'->∀ cenv:Env,cenv.locals=C->wpAny (model X.prog X.w) X.A (PySem.passOn "comprehension.variables-let-go" (.ref ea) cenv:Sem Value) (fun _ _=>False) X.xe { s' with heap:=h' } by
  cases use with
  | none=>exact hh
  | some u=>exact hh
 refine ⟨m,hn4,fun h5 sb cenv _=>?_⟩
 obtain ⟨k1,k2,k3,k4⟩:=held4
 let B':=PySem.W.hideAll B [C]
 have hB:∀ b o,B'.get? b=some o->B.get? b=some o∧b≠C:=fun b o e=>by
  refine ⟨PySem.W.of_hideAll _ e,fun z=>?_⟩
  have:B'.get? C=none:=PySem.W.hideAll_none _ (by simp)
  rw [z,this] at e;cases e
 have toB:∀ b o,B.get? b=some o->b≠C->B'.get? b=some o:=fun b o e n=>PySem.W.hideAll_get _ e (by simpa using n)
 have st5:B'.StaysIn h5:=fun b o e=>by
  obtain ⟨e1,n⟩:=hB b o e
  exact (sb.2 b n).trans (k1 b o e1)
 have en5:B'.get? ea=none:=by
  cases z:B'.get? ea with
  | none=>rfl
  | some o=>rw [(hB _ _ z).1] at k2;cases k2
 have noB:∀ b,B.get? b=none->B'.get? b=none:=fun b z=>by
  cases y:B'.get? b with
  | none=>rfl
  | some o=>rw [(hB _ _ y).1] at z;cases z
 have kp5:∀ b o,h4.get? b=some o->b≠C->h5.get? b=some o:=fun b o e n=>(sb.2 b n).trans e
 have stB:B'.StaysIn B:=fun b o e=>(hB b o e).1
 have nC:∀ b∈frs (X.env :: X.outer),b≠C:=fun b hb z=>nfr (by rw [F.stack];rw [<-z];exact hb)
 have fr5:h5.FunFrames B' (X.env :: X.outer):=ZCP (PySem.W.funFrames_base stB k3) fun b hb=>sb.2 b (nC b hb)
 have eaC:ea≠C:=fun z=>by
  obtain ⟨o,es,ep,ho,_⟩:=hn
  rw [<-z,W.new] at ho;cases ho
 obtain ⟨oe,vs,T,oT,ts,⟨he,hcls,hdc,hd,h1⟩,hnT,hTe,hT,hdT,h3⟩:=k4
 have TC:T≠C:=fun z=>by
  obtain ⟨o,es,ep,ho,hdd,_⟩:=hn4
  rw [z,ho] at hT;cases hT
  rw [hdd] at hdT;cases hdT
 have fly5:Fly B' (X.env :: X.outer) ea cls od (rawInt X.env.locals) h5:=⟨st5,en5,fr5,oe,vs,T,oT,ts,⟨kp5 _ _ he eaC,hcls,hdc,hd,h1⟩,noB T hnT,hTe,kp5 _ _ hT TC,hdT,h3⟩
 unfold PySem.passOn
 refine wpAny_bind (wpAny_field (kp5 _ _ he eaC) hd h1 ?_)
 rw [if_neg (show ¬ ((Value.ref T==Value.none)=true) from by simp)]
 refine wpAny_bind (ZMR (s:={ s' with heap:=h5 }) fly5 fun h6 fly6 k4=>?_)
 refine wpAny_throw (F.xe _ _ ?_)
 refine ZEl (s:={ s' with heap:=h6 }) hfr F.frame fly6 fun h7 fl7 sm7=>?_
 have base0:=I.base
 rw [F.ex] at base0
 have basec:Un (frs X.stack) fp H Hc s.heap sc.heap:=Ic.base
 have nfp:∀ {b o},X.s₀.heap.get? b=some o->b∉fp:=fun {b o} e z=>by
  obtain ⟨_,_,_,z3,_⟩:=hf b z
  rw [F.ex] at z3
  rcases z3 with z3 | z3
  ·simp at z3
  ·exact absurd (Heap.lt_size e) (Nat.not_lt.mpr z3)
 have neC:∀ {b o},X.s₀.heap.get? b=some o->b≠C:=fun {b o} e z=>by
  exact absurd (Heap.lt_size e) (Nat.not_lt.mpr (by rw [z];exact Nat.le_trans I.sz hC))
 have smA:∀ b o,s'.heap.get? b=some o->(∀ vs,o.data≠.fields vs)->b≠C->∃ sl,h7.get? b=some { o with slots:=sl }:=fun b o e hnf n=>by
  obtain ⟨sl,e4⟩:=sm4 b o e hnf
  have e5:=kp5 b _ e4 n
  obtain ⟨sl6,e6⟩:=k4 b _ e5 hnf
  obtain ⟨sl7,e7⟩:=sm7 b _ e6 hnf
  exact ⟨sl7,e7⟩
 have keepB:∀ b o,X.s₀.heap.get? b=some o->X.H₀ b=none->b∉frs X.outer->B.get? b=some o∧H' b=none:=fun b o e n hb=>by
  have nb:=F.off I e hb
  have e1:=base0.keep b o e n hb (by simp)
  have n1:=base0.free b o e n (by simp)
  have e2:=basec.keep b o e1 n1 nb (nfp e)
  have n2:=basec.free b o e1 n1 (nfp e)
  exact ⟨inB b o e2 n2 nb,W.un.free b o e2 n2 (by simp)⟩
 have thereB:∀ b o,X.s₀.heap.get? b=some o->b∉frs X.outer->∃ o',B.get? b=some o':=fun b o e hb=>by
  have nb:=F.off I e hb
  obtain ⟨o1,e1⟩:=base0.there b o e (by simp)
  obtain ⟨o2,e2⟩:=basec.there b o1 e1 (nfp e)
  exact inA b o2 e2 nb
 have toH:∀ b o,B.get? b=some o->b≠C->h7.get? b=some o:=fun b o e n=>fl7.1 b o (toB b o e n)
 have slotF:∀ b o,X.s₀.heap.get? b=some o->X.H₀ b=none->b∈frs X.outer->(∃ sl,h7.get? b=some { o with slots:=sl })∧H' b=none:=fun b o e n hb=>by
  obtain ⟨sl1,e1⟩:=base0.slot b o e n hb (by simp)
  have n1:=base0.free b o e n (by simp)
  have hbs:b∈frs X.stack:=by rw [F.frs];exact List.mem_cons_of_mem _ hb
  obtain ⟨sl2,e2⟩:=basec.slot b _ e1 n1 hbs (nfp e)
  have n2:=basec.free b _ e1 n1 (nfp e)
  obtain ⟨sl3,e3⟩:=W.un.slot b _ e2 n2 hbs (by simp)
  have n3:=W.un.free b _ e2 n2 (by simp)
  obtain ⟨_,o',g,d⟩:=I.stack.mem hbs
  have e1':s.heap.get? b=some { o with slots:=sl1 }:=e1
  rw [g] at e1'
  cases e1'
  obtain ⟨sl,e7⟩:=smA b _ e3 (fun vs z=>d vs z) (neC e)
  exact ⟨⟨sl,e7⟩,n3⟩
 have un7:Un (frs X.outer) [] X.H₀ H' X.s₀.heap h7:={
  keep:=fun b o e n hb _=>toH b o (keepB b o e n hb).1 (neC e)
  slot:=fun b o e n hb _=>(slotF b o e n hb).1
  free:=fun b o e n _=>by
   by_cases hb:b∈frs X.outer
   ·exact (slotF b o e n hb).2
   ·exact (keepB b o e n hb).2
  there:=fun b o e _=>by
   by_cases hb:b∈frs X.outer
   ·obtain ⟨⟨sl,z⟩,_⟩:=slotF b o e (I.ok.frf b hb) hb
    exact ⟨_,z⟩
   ·obtain ⟨o',z⟩:=thereB b o e hb
    exact ⟨o',toH b o' z (neC e)⟩
  tups:=fun b xs e=>W.un.tups b xs (basec.tups b xs (base0.tups b xs e))
  frzs:=fun b o u e=>W.un.frzs b o u (basec.frzs b o u (base0.frzs b o u e))
  tbls:=fun b ps e=>by
   obtain ⟨m1,e1⟩:=base0.tbls b ps e
   obtain ⟨m2,e2⟩:=basec.tbls b _ e1
   obtain ⟨m3,e3⟩:=W.un.tbls b _ e2
   exact ⟨m1++m2++m3,by rw [e3,Array.append_assoc,Array.append_assoc,Array.append_assoc]⟩ }
 have trC:∀ b,H' b≠none->b≠C:=fun b n z=>by
  obtain ⟨o,es,ep,ho,_⟩:=hn
  exact n (by rw [z];exact W.un.free C o ho cfree (by simp))
 have new0:X.s₀.heap.get? ea=none:=by
  cases z:X.s₀.heap.get? ea with
  | none=>rfl
  | some o=>
   obtain ⟨o1,e1⟩:=base0.there ea o z (by simp)
   obtain ⟨o2,e2⟩:=basec.there ea o1 e1 (nfp z)
   rw [W.new] at e2;cases e2
 have inT7:∀ b o,h7.get? b=some o->H' b≠none->B'.get? b=some o:=fun b o e n=>by
  obtain ⟨o',q'⟩:=W.hok.there n
  have e1:=inT b o' q' n
  have e2:=toH b o' e1 (trC b n)
  rw [e] at e2;cases e2
  exact toB b o e1 (trC b n)
 exact ⟨ea,cls,od,H',rfl,⟨⟨B',fl7,inT7,fun b o e n hb=>toB b o (keepB b o e n hb).1 (neC e),fun b o e hb=>by
   obtain ⟨o',z⟩:=thereB b o e hb
   exact ⟨o',toB b o' z (neC e)⟩⟩,(W.os.trans Ic.os).trans I.os,W.bare,un7,W.hok.keptT (fun b o e n=>toH b o (inT b o e n) (trC b n)),new0,W.free⟩,hE _ _ _ q⟩
theorem ZFn {CX:CXT} {elt iter:Expr} {x:Str} {px:Pos} {ifs:List Expr} {scope:Scope} {cl:List (Str×Addr)} {pos:Pos} {ix:List Nat} {ys:List Str} {tt:TT} {te:TE} {it:Addr} {fp:List Addr} {tn:Nat->Heap->Prop} {J:It} {Q:VK} {E:Value->Shared->Prop}
  {RR:Value->Addr->Result->Shared->Prop} {E1:XK}
  (hp:∀ D C:Addr,s.heap.objs.size<=C->ZBP CX (ZAc X (x :: ys) scope cl C s H fp (notedBy (model X.prog X.w) X.A (compEnvC scope cl C X.env) (fun e s'=>RR (.ref D) C (.error e) s'))) E1)
  (hc:X.calm=true) (ht:∀ C s H fp E,PTs (ZAc X (x :: ys) scope cl C s H fp E) ifs tt) (he:∀ C s H fp E,ZBP CX (ZAc X (x :: ys) scope cl C s H fp E) E1->PE (ZAc X (x :: ys) scope cl C s H fp E) elt te)
  (sub:SubCells X.env cl) (hkind:scope.kind=.function) (hnd:(x :: ys).Nodup) (hx:scope.names.lookup x=some .local) (hcell:∀ y∈scope.names,y.2≠.cell)
  (hhas:∀ y,((relabel scope X.env).names.lookup y=some .cell∨(relabel scope X.env).names.lookup y=some .free)->∃ c,cl.lookup y=some c) (fo:FreeOk X scope ix ys)
  (I:Inv X pins σ H s) (T:Turn X.prog X.w X.K (.Name x px) J fp it tn) (st:tn 0 s.heap) (hf:∀ b∈fp,ZEE X pins H b) (q:cEnd J σ ix tt te H Q)
  (hRR:∀ D C s' H' m,s.heap.objs.size<=C->Inv X pins σ H' s'->ZEE X pins H' C->s'.heap.Ns C m->Q (.ref D) H'->RR (.ref D) C (.ok .next) s') :
  wpAny (model X.prog X.w) X.A (newList []) (fun acc s₃=>wpAny (model X.prog X.w) X.A (newFunctionEnv scope X.env.globals cl [] X.env.qual none .none (some X.env)) (fun cenv s₄=>
   codeAny (model X.prog X.w) X.A (.compStart (.ListComp elt [⟨.Name x px,iter,ifs,0⟩] scope pos) 0 (.ref it) acc { cenv with scope:=relabel scope X.env }) (RR acc cenv.locals) s₄) E s₃) E s:=by
 refine wpAny_newObj_type (wpAny_newFunctionEnv hcell (by intro y hy;simp at hy) (fun h₁ hns₁ hsb₁=>?_) hkind)
 dsimp only at hns₁ hsb₁ ⊢
 generalize hH2:s.heap.push { cls:=.type "list",dict:=none,data:=.seq ([]:List Value).toArray }=H2 at hns₁ hsb₁ ⊢
 have hC:H2.objs.size=s.heap.objs.size+1:=by rw [<-hH2,Heap.size_push]
 have hDC:s.heap.objs.size≠H2.objs.size:=by rw [hC];exact Nat.ne_of_lt (Nat.lt_succ_self _)
 have hCle:s.heap.objs.size<=H2.objs.size:=by rw [hC];exact Nat.le_succ _
 have below:∀ b,b<s.heap.objs.size->b≠H2.objs.size∧b≠s.heap.objs.size:=fun b hb=>⟨by rw [hC];exact Nat.ne_of_lt (Nat.lt_succ_of_lt hb),Nat.ne_of_lt hb⟩
 have old:∀ b o,s.heap.get? b=some o->h₁.get? b=some o:=fun b o e=>hsb₁.extBut b o (below b (Heap.lt_size e)).1 (Heap.get?_push_of_some _ (hH2 ▸ Heap.get?_push_of_some _ e))
 have hacc:∃ n,h₁.get? s.heap.objs.size=some { cls:=.type "list",data:=.seq ([]:List Value).toArray n }:=⟨_,hsb₁.extBut _ _ hDC (Heap.get?_push_of_some _ (hH2 ▸ Heap.get?_push_size _ rfl))⟩
 obtain ⟨nD,hacc⟩:=hacc
 have hf':∀ b∈fp,ZEE X pins H b∧b<s.heap.objs.size:=fun b hb=>⟨hf b hb,by obtain ⟨o,e,_⟩:=T.obj 0 _ st b hb;exact Heap.lt_size e⟩
 have hDn:H s.heap.objs.size=none:=I.hok.fresh (Nat.le_refl _)
 obtain ⟨W,⟨m0,w0⟩,turn⟩:=q _ hDn
 generalize hE:notedBy (model X.prog X.w) X.A (compEnvC scope cl H2.objs.size X.env) (fun e s'=>RR (.ref s.heap.objs.size) H2.objs.size (.error e) s')=EE
 have hEE:ZBP CX (ZAc X (x :: ys) scope cl H2.objs.size s H fp EE) E1:=hE ▸ hp s.heap.objs.size H2.objs.size hCle
 have hlx:(relabel scope X.env).names.lookup x=some .local:=lookup_relabel_local hx
 have I0:Inv (ZAc X (x :: ys) scope cl H2.objs.size s H fp EE) [] (ZIH σ ix) (upd H s.heap.objs.size (.lst [])) { s with heap:=h₁,toks:=s.toks+([]:List (Str×Value)).length }:=
  ZJ5 I hf' sub hkind hhas fo (Nat.le_refl _) hCle hDC hns₁ old hacc
 have st1:tn 0 h₁:=T.keep _ _ _ st fun b _ o e=>old b o e
 have fr1:∀ b∈fp,upd H s.heap.objs.size (.lst []) b=none:=fun b hb=>by rw [ZAG (below b (hf' b hb).2).2];exact (hf b hb).1
 have stat:∀ {H':Hp},(∀ b∈fp,H' b=none)->∀ b∈fp,ZEE (ZAc X (x :: ys) scope cl H2.objs.size s H fp EE) [] H' b:=fun hn b hb=>
  ⟨hn b hb,(I0.ok.exf b hb).1,I0.ok.exfs b hb,.inl hb,(I0.ok.exf b hb).2,fun p hp=>absurd (show p∈([]:List (Addr×Obj)) from hp) (by simp)⟩
 have loop:∀ s₃:Shared,s₃={ s with heap:=h₁,toks:=s.toks+([]:List (Str×Value)).length } ->
   codeAny (model X.prog X.w) X.A (.compLoop (.ListComp elt [⟨.Name x px,iter,ifs,0⟩] scope pos) 0 (.ref it) (.ref s.heap.objs.size) (compEnvC scope cl H2.objs.size X.env)) (RR (.ref s.heap.objs.size) H2.objs.size) s₃:=by
  rintro s₃ rfl
  refine ZDl (fun n s'=>∃ i σ' H',Inv (ZAc X (x :: ys) scope cl H2.objs.size s H fp EE) [] σ' H' s'∧(∃ o,σ'=o :: ix.map fun i=>(σ[i]?).join)∧tn i s'.heap∧(∀ b∈fp,H' b=none)∧W i n H') ?_ m0 ⟨0,_,_,I0,⟨none,rfl⟩,st1,fr1,w0⟩
  rintro n s3 ⟨i,σ3,H3,I3,⟨o3,hσ3⟩,st3,fr3,w3⟩
  rw [hE]
  rcases turn i n H3 w3 with ⟨stop,qn⟩ | ⟨go,step⟩
  ·refine thn (T.done (ZAc X (x :: ys) scope cl H2.objs.size s H fp EE) rfl rfl rfl hc i [] s3 σ3 H3 EE I3 (stat fr3) st3 stop) fun r s4 ⟨hr,I4⟩=>?_
   subst hr
   obtain ⟨m4,hn4,_⟩:=I4.loc
   have Ix:Inv X pins σ H3 s4:=I.call' (s':=s4) (ch:=fp) I4.os I4.base I4.hok I4.bare fun b hb=>by
    obtain ⟨_,z1,_,z3,z4,z5⟩:=hf b hb
    exact ⟨z3,z1,z4,z5⟩
   exact hRR _ _ s4 H3 m4 hCle Ix (I.fpOk hCle I4.free) hn4 qn
  ·refine thn (T.item (ZAc X (x :: ys) scope cl H2.objs.size s H fp EE) rfl rfl rfl hc i [] s3 σ3 H3 EE I3 (stat fr3) st3 go) fun r s4 ⟨u,hr,h4⟩=>?_
   subst hr
   refine thn h4 fun _ s5 ⟨xv,H5,I5,r5,y5,st5,fr5⟩=>?_
   have I5':=I5.pinned (stat fr5) (T.obj _ _ st5)
   have again:∀ {σ7:St} {H7:Hp} {s7:Shared} {m':Nat},Inv (ZAc X (x :: ys) scope cl H2.objs.size s H fp EE) ([]++ZD0 fp s5.heap) σ7 H7 s7->(∃ o,σ7=o :: ix.map fun i=>(σ[i]?).join)->m'<n->W (i+1) m' H7 ->
     ∃ m,m<n∧∃ i σ' H',Inv (ZAc X (x :: ys) scope cl H2.objs.size s H fp EE) [] σ' H' s7∧(∃ o,σ'=o :: ix.map fun i=>(σ[i]?).join)∧tn i s7.heap∧(∀ b∈fp,H' b=none)∧W i m H':=fun {σ7 H7 s7 m'} I7 e7 hm w7=>by
    refine ⟨m',hm,i+1,σ7,H7,I7.unpinned,e7,T.keep _ _ _ st5 fun b hb o e=>(I7.pin (b,o) (List.mem_append_right _ (List.mem_append_right _ (ZBV hb e)))).1,fun b hb=>?_,w7⟩
    obtain ⟨o,e,d⟩:=T.obj _ _ st5 b hb
    exact (I7.pin (b,o) (List.mem_append_right _ (List.mem_append_right _ (ZBV hb e)))).2.1
   have hg:PG (ZAc X (x :: ys) scope cl H2.objs.size s H fp EE) (.Name x px) (ZEb 0):=ZAZ hnd rfl (.inl hlx) (.inr hlx)
   refine thn (hg _ s5 σ3 H5 xv u (fun σ6 H6=>σ6=ZDw σ ix xv∧H6=H5) I5' r5 ⟨by rw [hσ3];rfl,rfl⟩) fun _ s6 ⟨σ6,H6,I6,e6,e6'⟩=>?_
   subst e6 e6'
   refine thn (ht _ _ _ _ _ _ s6 _ _ _ I6 (step xv _ y5)) fun ok s7 ⟨H7,I7,q7⟩=>?_
   cases ok with
   | false=>
    rw [if_neg Bool.false_ne_true] at q7 ⊢
    obtain ⟨m',hm,w7⟩:=q7
    exact again I7 ⟨_,rfl⟩ hm w7
   | true=>
    rw [if_pos rfl] at q7 ⊢
    refine thn (he _ _ _ _ _ hEE _ s7 _ _ _ I7 q7) fun y s8 ⟨yv,H8,I8,r8,ys8,m',e8,z8,hm,w8⟩=>?_
    refine thn (ZAu _ s8 _ H8 (.ref s.heap.objs.size) [yv] (.ref s.heap.objs.size) [y] (fun _ H9=>W (i+1) m' H9) I8 rfl (.cons r8 .nil) ⟨_,ys8,yv,rfl,rfl,e8,z8,w8⟩) fun _ s9 ⟨_,H9,I9,_,w9⟩=>?_
    exact again I9 ⟨_,rfl⟩ hm w9
 exact codeAny_compStart_list (loop _ rfl) (T.self _ 0 _ _ _ st1 (loop _ rfl))
theorem ZKN {elt iter:Expr} {x:Str} {px:Pos} {ifs:List Expr} {scope:Scope} {pos:Pos} {wi:TI} {tt:TT} {te:TE} (ix:List Nat) (ys:List Str) (F:FnD X E) (hE:∀ cls o H,E1 cls o H->E cls o H)
  (hi:PI X (.Name x px) iter wi) (ht:∀ C s H fp E,PTs (ZAc X (x :: ys) scope (ZBR X.env scope.names []) C s H fp E) ifs tt)
  (he:∀ C s H fp E,ZBP (CXd X.prog X.w) (ZAc X (x :: ys) scope (ZBR X.env scope.names []) C s H fp E) E1->PE (ZAc X (x :: ys) scope (ZBR X.env scope.names []) C s H fp E) elt te)
  (fo:FreeOk X scope ix ys) (hk:ZCl X.env scope.names=true:=by rfl) (hb:ZCF scope x=true:=by rfl) (hnd:(x :: ys).Nodup:=by decide +kernel)
  (hs:∀ x,foldedSetIterable iter X.env x=pure x:=by intro _;rfl) :
  PE X (.ListComp elt [⟨.Name x px,iter,ifs,0⟩] scope pos) (ZL2 wi ix tt te):=by
 intro pins s σ H Q I h
 have B:=ZCT hb
 have FI:=ZCe I.ok hk
 rw [eval_ListComp]
 refine wpAny_comprehension_free (use:=none) rfl hs (ZCr FI) B.kind B.names (thn (hi pins s σ H _ I h) fun v s1 h1=>thn h1 fun itv s2 h2=>?_)
 obtain ⟨it,fp,tn,J,H2,e,I2,T,st2,f2,q2⟩:=h2
 subst e
 refine ZFn (RR:=fun acc C=>compPost (model X.prog X.w) X.A X.xe none (EP X pins σ Q) acc C) (E1:=E1) (fun D C hC=>ZFU F hE I2 f2 hC) F.calm ht he (ZEZ FI) B.kind hnd B.own B.cell (ZJY B.cell) fo I2 T st2 f2 q2 ?_
 intro D C s' H' m hC Ix fC hn q
 refine ⟨m,hn,fun h' sb=>⟨.ref D,H',?_,rfl,q⟩⟩
 obtain ⟨f0,f1,_,f3,f4,f5⟩:=fC
 exact Ix.turned (t':=s'.toks) (fun b o hb e=>(sb.2 b hb).trans e) f0 f1 f3 f4 f5
end
section
variable {X:Cx} {E:XK}
theorem ZDz {x:Str} {C:Addr} {np cpos pos:Pos} (F:FnD X E) (O:OwnCls x C [.type "ValueError",.type "Exception",.type "BaseException",.type "object"] "ValueError.__new__" X.mg X.base) (kp:PySem.W.keepIn X.K (.ref C)=true) (mB:PySem.W.mroIn X.K C (.type "BaseException")=some true)
  (ht:PySem.W.typeIn X.K (.ref C)=some (.type "type")) (hg:Gl X x) (hdb:(x==("__debug__" : Str))=false:=by decide) :
  PS X (.Raise (some (.Call (.Name x np) [] [] cpos)) none pos) (fun _ _ H=>E (.ref C) none H):=by
 intro pins s σ H D I h
 have hh:=I.ok.hd F.calm
 rw [arm_exec_Raise]
 refine wpAny_bind (wpAny_standAt ?_)
 refine ZD6 hh mB ht (wpAny_bind (wpAny_mono ?_ (fun v s3 h3=>wpAny_bind (wpAny_standAt (wpAny_pure h3))) fun _ _ z=>z))
 have FB:=PySem.F.excBase_ValueError
 obtain ⟨tl,N,nm,q,bs,hdct,sn,sub,ab,col,dd,k0,k1,k2,k3,k5,mN,hC,hN,hni,T⟩:=O.obj
 refine wpAny_Call_Name_kw (ZBs I hg O.bound ?_ hdb)
 refine PySem.W.callWith_K0 I.kIn kp ?_
 obtain ⟨hp,g,d,tk,os⟩:=s
 refine wpAny_call_exc_subU (rest:=[]) FB FB.hasB FB (T.keeps I.bk) (I.bk _ _ hC) (hN.keeps I.bk) hni (fun h' ea hm=>?_) (Nat.zero_le _)
 obtain ⟨tt,e1,e2,e3⟩:=hm.there
 have J:=I.newx (C:=C) (ea:=ea) (h':=h') hm.keeps hm.new ⟨_,_,e1,rfl,rfl,rfl,rfl⟩
 have hn:H ea=none:=by
  cases z:H ea with
  | none=>rfl
  | some o=>
   obtain ⟨o',q'⟩:=I.hok.there (a:=ea) (by rw [z];exact fun y=>nomatch y)
   have:=hm.new
   rw [q'] at this
   cases this
 have new0:X.s₀.heap.get? ea=none:=by
  cases z:X.s₀.heap.get? ea with
  | none=>rfl
  | some o=>
   obtain ⟨o',q'⟩:=I.base.there ea o z (by rw [F.ex];simp)
   have:=hm.new
   rw [q'] at this
   cases this
 exact ⟨ea,none,rfl,J.kIn,(J.hok ea _ ZAA).1,ZJT F (J.untrack hn) new0 hn (J.hok ea _ ZAA).1 h⟩
end
def ZNL (K:PySem.W.Frag) (CB:Addr) (ts:TS) (D:Ends) (σ:St):XK:=fun cls od H2=>∃ C,cls=.ref C∧PySem.W.mroIn K C (.ref CB)=some true∧ts D σ H2
def ZOq (K:PySem.W.Frag) (CB C:Addr) (m:Str) (sp:Sp) (ta:TE) (t:TA) (ts:TS):TS:=fun D σ H=>ta σ H fun x H1=>∃ a dx fs,x=.ref a∧H1 a=some (.ins C dx fs)∧fs.lookup m=none∧t σ H1 fun vs H2=>sp (x :: (vs++[])) H2 (fun _ H3=>D.nx σ H3) (ZNL K CB ts D σ)
theorem ZFq {X:Cx} {k:Nat} {f C CB:Addr} {fd:FuncData} {ps:List Str} {sp:Sp} {m y:Str} {apos cpos epos py ph pos:Pos} {o e:Expr} {es:List Expr} {ta:TE} {t:TA} {b₀:Stmt} {suite:List Stmt} {ts:TS} {pl:Sem Bool}
  (he:∀ E',PE (X.wish E') o ta) (c:Cls X.K C) (hm:Meth X.K C m f) (F:FnOk X.prog X.w X.K X.mg X.base (CXd X.prog X.w) k f fd ps sp) (hr:Room k X.A) (hb:Binds X.K fd ps []) (ha:∀ E',PA (X.wish E') (e :: es) t)
  (hst:X.stack=X.env :: X.outer) (hfm:X.env.frame=some X.env.locals) (hy:Gl X y) (hyC:X.mg y=some (.ref CB))
  (ht:PySem.W.typeIn X.K (.ref CB)=some (.type "type")) (hB:PySem.W.mroIn X.K CB (.type "BaseException")=some true) (hs:∀ ea E',PSs (X.held ea E') (b₀ :: suite) ts)
  (hdy:(y==("__debug__" : Str))=false:=by decide) (hse:starEach (e :: es) X.env=(false,eval e X.env) :: starEach es X.env:=by rfl) (hpl:(backTo cpos (starEach es X.env)).any (·.1)=false:=by rfl)
  (hev:eval (.Call (.Attribute o m apos) (e :: es) [] cpos) X.env=(do
   let ov<-eval o X.env
   standAt apos.atName
   let (f,first)<-holding [ov] (getMethod ov m pl)
   callWith cpos f first (backTo cpos (starEach (e :: es) X.env)) (backToKw cpos (keywordEach [] X.env))):=by rfl)
  (hsw:swapsWith (.Call (.Attribute o m apos) (e :: es) [] cpos) none epos.line X.env=pure false:=by rfl) :
  PS X (.Try [.Expr (.Call (.Attribute o m apos) (e :: es) [] cpos) epos] [.ExceptHandler (some (.Name y py)) none (b₀ :: suite) ph] [] [] pos) (ZOq X.K CB C m sp ta t ts):=by
 intro pins s σ H D I h
 refine wpAny_Try_except ?_
 have hfr:X.A.frames=some (X.env :: X.outer):=by rw [I.ok.frames,hst]
 have lands:∀ (H1:Hp) (s1:Shared) (ev:Value) (s':Shared),Inv X pins σ H1 s1->CXd X.prog X.w X.stack H1 s1 (ZNL X.K CB ts D σ) ev s' ->
   wpAny (model X.prog X.w) X.A (noteFrame ev X.env) (fun _ s₂=>wpAny (model X.prog X.w) X.A (setFlight ev none) (fun _ s₃=>wpAny (model X.prog X.w) X.A (handleBy ev X.env [.ExceptHandler (some (.Name y py)) none (b₀ :: suite) ph]) (SP X pins D) X.xe s₃) X.xe s₂) X.xe s':=by
  intro H1 s1 ev s' I1 hx
  obtain ⟨ea,cls,od,H',rfl,W,C,rfl,mC,q⟩:=hx
  obtain ⟨B,fl,inT,inB,inA⟩:=W.ex
  have fl':Fly B (X.env :: X.outer) ea (.ref C) od .none s'.heap:=by rw [<-hst];exact fl
  refine ZC6 hfr hfm fl' fun h4 held4 sm4=>?_
  refine ZBg (s:={ s' with heap:=h4 }) held4 fun h5 fl5 sm5=>?_
  have J5:Inv X pins σ H' { s' with heap:=h5 }:=ZKp I1 W inT inB inA fl5.1 (sm4.trans sm5)
  refine wpAny_handleBy_cons (codeAny_handlers_test ?_) (by intro q;cases q)
  refine ZBs (J5.held ea (fun _ _=>False)) hy hyC ?_ hdy
  refine ZDW (s:={ s' with heap:=h5 }) J5.kIn fl5.at.is ht hB mC ?_
  refine codeAny_handlers_suite ?_
  refine ZBg (s:={ s' with heap:=h5 }) fl5 fun h6 fl6 sm6=>?_
  have J6:Inv X pins σ H' { s' with heap:=h6 }:=ZKp I1 W inT inB inA fl6.1 ((sm4.trans sm5).trans sm6)
  refine wpAny_mono (hs ea _ pins _ _ _ _ (J6.held ea _) q) (fun fl s8 h8=>?_) fun _ _ z=>z
  cases fl with
  | next=>
   obtain ⟨σ8,H8,J8,q8⟩:=h8
   exact ⟨σ8,H8,J8.unheld I1.ok,q8⟩
  | brk=>
   obtain ⟨σ8,H8,J8,q8⟩:=h8
   exact ⟨σ8,H8,J8.unheld I1.ok,q8⟩
  | cont=>
   obtain ⟨σ8,H8,J8,q8⟩:=h8
   exact ⟨σ8,H8,J8.unheld I1.ok,q8⟩
  | ret u=>
   obtain ⟨v8,σ8,H8,J8,r8,q8⟩:=h8
   exact ⟨v8,σ8,H8,J8.unheld I1.ok,r8,q8⟩
 have I':=I.wish (fun ev s'=>wpAny (model X.prog X.w) X.A (noteFrame ev X.env) (fun _ s₂=>wpAny (model X.prog X.w) X.A (setFlight ev none) (fun _ s₃=>wpAny (model X.prog X.w) X.A (handleBy ev X.env [.ExceptHandler (some (.Name y py)) none (b₀ :: suite) ph]) (SP X pins D) X.xe s₃) X.xe s₂) X.xe s')
 refine wpAny_execs_cons (wpAny_Expr_any ?_ I.quiet hsw)
 refine PySem.W.methodCall_KW (pl:=pl) (thn (he _ pins s σ H _ I' h) fun u s1 ⟨x,H1,I1,rx,a,dx,fs,ex,ea,l,q⟩=>?_) hev
 subst ex
 obtain rfl:u=Value.ref a:=rx
 refine ZCk I1.unwish ea c hm l ?_
 refine PySem.W.callWith_K (first:=[.ref a]) (h₀:=X.base) I.ok.mod.kin hm.kp (thn (ha _ cpos pins s1 σ H1 _ I1 q) fun us s2 ⟨vs,H2,I2,r,q2⟩=>⟨I2.kIn,?_⟩) hse hpl
 have r2:Vals (V.ref a :: (vs++[])) (Value.ref a :: (us++[])):=.cons rfl (r.append .nil)
 have hl:(Value.ref a :: us++[]).length=ps.length:=by rw [show Value.ref a :: us++[]=Value.ref a :: (us++[]) from rfl,<-r2.length];exact F.len _ _ _ _ q2
 refine wpAny_call (codeAny_mono (F.run X.A X.stack s2 H2 ⟨.ref a :: us,[]⟩ (.ref a :: us++[]) (.ref a :: (vs++[])) _ _ hr I2.unwish.env0 (hb s2 (.ref a :: us) I2.kIn hl) r2 q2) fun rr s' hq=>?_)
 cases rr with
 | error ev=>exact lands H2 s2 ev s' I2.unwish hq
 | ok fl=>
  cases fl with
  | ret u=>
   obtain ⟨v,H3,J,rv,q3⟩:=I2.unwish.after hq
   exact wpAny_execs_nil (wpAny_execs_nil ⟨σ,H3,J,q3⟩)
  | next=>exact False.elim hq
  | brk=>exact False.elim hq
  | cont=>exact False.elim hq
end L2
namespace Tw
open PySem PySem.Spec L2 PyProof.Rows
structure MethOk (P:Program) (w:World) (K:PySem.W.Frag) (mg:Str->Option Value) (base:Heap) (CX:CXT) (k:Nat) (C:Addr) (m:Str) (ps:List Str) (sp:Sp):Prop where
 ex:∃ f fd,Meth K C m f∧FnOk P w K mg base CX k f fd ps sp∧Binds K fd ps []
theorem ZAo {X:Cx} {CX:CXT} {k:Nat} {C:Addr} {m:Str} {ps:List Str} {sp:Sp} {E:XK} {o e:Expr} {es:List Expr} {ta:TE} {t:TA} {pos apos:Pos} {pl:Sem Bool} (he:PE X o ta) (c:Cls X.K C) (D:MethOk X.prog X.w X.K X.mg X.base CX k C m ps sp) (hr:Room k X.A) (hx:ZBP CX X E) (ha:PA X (e :: es) t)
  (hst:starEach (e :: es) X.env=(false,eval e X.env) :: starEach es X.env:=by rfl) (hpl:(backTo pos (starEach es X.env)).any (·.1)=false:=by rfl)
  (ht:eval (.Call (.Attribute o m apos) (e :: es) [] pos) X.env=(do
   let ov<-eval o X.env
   standAt apos.atName
   let (f,first)<-holding [ov] (getMethod ov m pl)
   callWith pos f first (backTo pos (starEach (e :: es) X.env)) (backToKw pos (keywordEach [] X.env))):=by rfl) :
  PE X (.Call (.Attribute o m apos) (e :: es) [] pos) (ZKi C m sp [] E ta t):=by
 obtain ⟨f,fd,M,F,b⟩:=D.ex
 exact ZMa he c M F hr b .nil hx ha hst hpl ht
theorem ZES {X:Cx} {CX:CXT} {k:Nat} {C:Addr} {m:Str} {ps:List Str} {sp:Sp} {E:XK} {o:Expr} {ta:TE} {pos apos:Pos} {pl:Sem Bool} (he:PE X o ta) (c:Cls X.K C) (D:MethOk X.prog X.w X.K X.mg X.base CX k C m ps sp) (hr:Room k X.A) (hx:ZBP CX X E)
  (ht:eval (.Call (.Attribute o m apos) [] [] pos) X.env=(do
   let ov<-eval o X.env
   standAt apos.atName
   let (f,first)<-holding [ov] (getMethod ov m pl)
   callWith pos f first (backTo pos (starEach [] X.env)) (backToKw pos (keywordEach [] X.env))):=by rfl) :
  PE X (.Call (.Attribute o m apos) [] [] pos) (ZKi C m sp [] E ta ZHO):=by
 obtain ⟨f,fd,M,F,b⟩:=D.ex
 exact ZKE he c M F hr b .nil hx ht
abbrev ZMP:Stmt:=ZAq (top 28) 0
abbrev ZJb:Stmt:=ZAq (top 36) 0
abbrev ZEk:Stmt:=ZAq (top 36) 1
abbrev ZEc:Stmt:=ZAq (top 36) 3
abbrev ZEq:Stmt:=ZAq (top 36) 7
abbrev ZEO:Stmt:=ZAq (top 36) 8
abbrev ZIz:Stmt:=ZAq (top 36) 9
abbrev ZLU:Stmt:=ZAq (top 36) 12
abbrev ZGj:Stmt:=ZAq (top 36) 13
abbrev ZEA:Stmt:=ZAq (top 36) 16
abbrev ZMb:Stmt:=ZAq (top 36) 17
abbrev ZEg:Stmt:=ZAq (top 36) 18
abbrev ZL0:Stmt:=ZAq (top 36) 23
structure ShF (K:PySem.W.Frag) (mg:Str->Option Value) (CSh CTw:Addr):Prop where
 shelf:mg "Shelf" = some (.ref CSh)
 twig:mg "Twig" = some (.ref CTw)
 cS:Cls K CSh
 cT:Cls K CTw
 nk:NoAttr K CSh "kept"
 nf:NoAttr K CSh "following"
 nl:NoAttr K CSh "looks"
 nth:NoAttr K CTw "things"
 ntg:NoAttr K CTw "tag"
 nab:NoAttr K CTw "above"
 nho:NoAttr K CTw "holds"
abbrev ZJi (d lk:Addr) (n:Nat):List (Str×V):=[("kept",.ref d),("following",.int n),("looks",.ref lk)]
abbrev ZK0 (th tg:V) (ab:Addr) (ho:Nat):List (Str×V):=[("things",th),("tag",tg),("above",.ref ab),("holds",.int ho)]
structure ShAt (CSh:Addr) (H:Hp) (S d lk:Addr) (n:Nat) (kvs:List (Key×V)) (ls:List V):Prop where
 self:∃ dx,H S=some (.ins CSh dx (ZJi d lk n))
 kept:H d=some (.dK kvs)
 looks:H lk=some (.lst ls)
structure TwAt (CTw:Addr) (H:Hp) (x:Addr) (th tg:V) (ab:Addr) (ho:Nat) (us:List V):Prop where
 self:∃ dx,H x=some (.ins CTw dx (ZK0 th tg ab ho))
 above:H ab=some (.lst us)
theorem ShAt.same {CSh:Addr} {H H':Hp} {S d lk:Addr} {n:Nat} {kvs:List (Key×V)} {ls:List V} (h:ShAt CSh H S d lk n kvs ls) (s:Same H H'):ShAt CSh H' S d lk n kvs ls:=by
 obtain ⟨⟨dx,e⟩,h2,h3⟩:=h
 exact ⟨⟨dx,s _ _ e⟩,s _ _ h2,s _ _ h3⟩
theorem TwAt.same {CTw:Addr} {H H':Hp} {x:Addr} {th tg:V} {ab:Addr} {ho:Nat} {us:List V} (h:TwAt CTw H x th tg ab ho us) (s:Same H H'):TwAt CTw H' x th tg ab ho us:=by
 obtain ⟨⟨dx,e⟩,h2⟩:=h
 exact ⟨⟨dx,s _ _ e⟩,s _ _ h2⟩
section
variable {P:Program} {w:World} {K:PySem.W.Frag} {mg:Str->Option Value} {base:Heap} {f:Addr} {fd:FuncData} {CSh CTw:Addr}
def ZMS (CTw:Addr):Sp:=fun vs H Q _=>∃ (x dx:Addr) (th tg:V),vs=[.ref x,th,tg]∧H x=some (.ins CTw dx [])∧∀ (H':Hp) (ab:Addr),(∀ b o,b≠x->H b=some o->H' b=some o)->H ab=none->TwAt CTw H' x th tg ab 1 []->Q .non H'
theorem ZOm:FnScope ["self","things","tag"] ["self","things","tag"] (ZAI ZMP):=⟨rfl,rfl,rfl,by decide +kernel,rfl,by decide +kernel,by decide +kernel⟩
theorem ZNi (F:Fun K "__init__" "Twig.__init__" ZMP f fd) (L:ShF K mg CSh CTw):FnOk P w K mg base CX0 1 f fd ["self","things","tag"] (ZMS CTw):=by
 refine F.ok ZOm (fun vs H Q E h=>(by obtain ⟨_,_,_,_,rfl,_⟩:=h;rfl)) (fun cdv A outer s H vs Q E hr h=>?_)
 obtain ⟨x,dx,th,tg,rfl,hx,k⟩:=h
 refine ⟨_,ZAD (ZCR (pv 0) (pv 1) rfl) (ZAD (ZCR (pv 0) (pv 2) rfl) (ZAD (ZCR (pv 0) (ZAx ZAC) rfl) (ZAH (ZCR (pv 0) ZAF rfl)))),?_⟩
 refine ⟨_,rfl,_,rfl,x,CTw,dx,_,rfl,hx,L.cT,L.nth,Nat.le_of_ble_eq_true rfl,?_⟩
 refine ⟨_,rfl,_,rfl,x,CTw,dx,_,rfl,ZAA,L.cT,L.ntg,Nat.le_of_ble_eq_true rfl,?_⟩
 refine ⟨nn (Nat.le_of_ble_eq_true rfl),fun ab hab=>?_⟩
 rw [ZE2] at hab ⊢
 have xab:x≠ab:=fun z=>by rw [<-z,ZAA] at hab;cases hab
 have nab:H ab=none:=by rw [ZAG (Ne.symm xab)] at hab;exact hab
 refine ⟨_,rfl,x,CTw,dx,_,rfl,(by rw [ZAG xab];exact ZAA),L.cT,L.nab,Nat.le_of_ble_eq_true rfl,?_⟩
 refine ⟨_,rfl,x,CTw,dx,_,rfl,ZAA,L.cT,L.nho,Nat.le_of_ble_eq_true rfl,?_⟩
 refine k _ ab (fun b o n e=>?_) nab ⟨⟨dx,ZAA⟩,?_⟩
 ·rw [ZE2,ZAG n,ZAG (ZAB e nab),ZAG n];exact e
 ·rw [ZE2,ZAG (Ne.symm xab)];exact ZAA
def ZMI (CSh:Addr):Sp:=fun vs H Q _=>∃ (x dx:Addr),vs=[.ref x]∧H x=some (.ins CSh dx [])∧∀ (H':Hp) (d lk:Addr),(∀ b o,b≠x->H b=some o->H' b=some o)->H d=none->H lk=none->d≠lk->ShAt CSh H' x d lk 0 [] []->Q .non H'
theorem ZOW:FnScope ["self"] ["self"] (ZAI ZJb):=⟨rfl,rfl,rfl,by decide +kernel,rfl,by decide +kernel,by decide +kernel⟩
theorem ZNb (F:Fun K "__init__" "Shelf.__init__" ZJb f fd) (L:ShF K mg CSh CTw):FnOk P w K mg base CX0 1 f fd ["self"] (ZMI CSh):=by
 refine F.ok ZOW (fun vs H Q E h=>(by obtain ⟨_,_,rfl,_⟩:=h;rfl)) (fun cdv A outer s H vs Q E hr h=>?_)
 obtain ⟨x,dx,rfl,hx,k⟩:=h
 refine ⟨_,ZAD (ZCR (pv 0) ZEJ rfl) (ZAD (ZCR (pv 0) ZAF rfl) (ZAH (ZCR (pv 0) (ZAx ZAC) rfl))),?_⟩
 intro d hd
 have xd:x≠d:=ZAB hx hd
 refine ⟨_,rfl,x,CSh,dx,_,rfl,(by rw [ZAG xd];exact hx),L.cS,L.nk,Nat.le_of_ble_eq_true rfl,?_⟩
 refine ⟨_,rfl,x,CSh,dx,_,rfl,ZAA,L.cS,L.nf,Nat.le_of_ble_eq_true rfl,?_⟩
 refine ⟨nn (Nat.le_of_ble_eq_true rfl),fun lk hlk=>?_⟩
 rw [ZE2] at hlk ⊢
 have xl:x≠lk:=fun z=>by rw [<-z,ZAA] at hlk;cases hlk
 have hlk1:upd H d (.dK []) lk=none:=by rw [ZAG (Ne.symm xl)] at hlk;exact hlk
 have dl:d≠lk:=fun z=>by rw [<-z,ZAA] at hlk1;cases hlk1
 have nlk:H lk=none:=by rw [ZAG (Ne.symm dl)] at hlk1;exact hlk1
 refine ⟨_,rfl,x,CSh,dx,_,rfl,(by rw [ZAG xl];exact ZAA),L.cS,L.nl,Nat.le_of_ble_eq_true rfl,?_⟩
 refine k _ d lk (fun b o n e=>?_) hd nlk dl ⟨⟨dx,ZAA⟩,?_,?_⟩
 ·rw [ZAG n,ZAG (ZAB e nlk),ZAG n,ZAG (ZAB e hd)];exact e
 ·rw [ZAG (Ne.symm xd),ZAG dl,ZAG (Ne.symm xd)];exact ZAA
 ·rw [ZAG (Ne.symm xl)];exact ZAA
def ZBh (CSh:Addr):Sp:=fun vs H Q _=>∃ (S d lk:Addr) (n:Nat) (kvs:List (Key×V)) (ls:List V) (i:Int) (tw:V),vs=[.ref S,.int i]∧ShAt CSh H S d lk n kvs ls∧ZBj kvs (.inl i)=some tw∧Q tw H
theorem ZGl:FnScope ["self","number"] ["self","number"] (ZAI ZEg):=⟨rfl,rfl,rfl,by decide +kernel,rfl,by decide +kernel,by decide +kernel⟩
theorem ZJI (F:Fun K "twig_of" "Shelf.twig_of" ZEg f fd) (L:ShF K mg CSh CTw):FnOk P w K mg base CX0 1 f fd ["self","number"] (ZBh CSh):=by
 refine F.ok ZGl (fun vs H Q E h=>(by obtain ⟨_,_,_,_,_,_,_,_,rfl,_⟩:=h;rfl)) (fun cdv A outer s H vs Q E hr h=>?_)
 obtain ⟨S,d,lk,n,kvs,ls,i,tw,rfl,⟨⟨dx,hS⟩,hd,hl⟩,hv,k⟩:=h
 have hu:=ZCW hr
 refine ⟨_,ZAD (ZAf (ZDB (ZDN hu (pv 1) (ZBG (pv 0) rfl))) ZAd ZAR) (ZAH (ZAQ (ZBJ hu (ZBG (pv 0) rfl) (pv 1) (fun _ _=>rfl)))),?_⟩
 have hg:DGet H d (.int i) (some tw):=hv ▸ DGet.k (k:=Sum.inl i) hd
 refine ⟨_,rfl,_,rfl,S,CSh,dx,_,.ref d,rfl,hS,L.cS,L.nk,rfl,d,some tw,rfl,hg,_,rfl,ZAz ?_⟩
 exact ⟨_,rfl,S,CSh,dx,_,.ref d,rfl,hS,L.cS,L.nk,rfl,_,rfl,d,tw,rfl,hg,k⟩
structure MkOk (P:Program) (w:World) (K:PySem.W.Frag) (mg:Str->Option Value) (base:Heap) (k:Nat) (C:Addr) (ps:List Str) (sp:Sp):Prop where
 ex:∃ f fd,Mk K C f∧FnOk P w K mg base CX0 k f fd ps sp∧Binds K fd ps []
structure RdAt (CSh CTw:Addr) (H:Hp) (S d lk:Addr) (n:Nat) (kvs:List (Key×V)) (ls:List V) (i:Int) (x:Addr) (th tg:V) (ab:Addr) (ho:Nat) (us:List V):Prop where
 sh:ShAt CSh H S d lk n kvs ls
 val:ZBj kvs (.inl i)=some (.ref x)
 tw:TwAt CTw H x th tg ab ho us
def ZHq (CSh CTw:Addr) (res:V->Nat->List V->V):Sp:=fun vs H Q _=>∃ (S d lk:Addr) (n:Nat) (kvs:List (Key×V)) (ls:List V) (i:Int) (x:Addr) (th tg:V) (ab:Addr) (ho:Nat) (us:List V),vs=[.ref S,.int i]∧RdAt CSh CTw H S d lk n kvs ls i x th tg ab ho us∧Q (res tg ho us) H
theorem ZIJ:FnScope ["self","number"] ["self","number"] (ZAI ZEO):=⟨rfl,rfl,rfl,by decide +kernel,rfl,by decide +kernel,by decide +kernel⟩
theorem ZHf (F:Fun K "outside" "Shelf.outside" ZEO f fd) (L:ShF K mg CSh CTw) (DT:MethOk P w K mg base CX0 1 CSh "twig_of" ["self","number"] (ZBh CSh)):FnOk P w K mg base CX0 2 f fd ["self","number"] (ZHq CSh CTw fun _ ho _=>.int ho):=by
 refine F.ok ZIJ (fun vs H Q E h=>(by obtain ⟨_,_,_,_,_,_,_,_,_,_,_,_,_,rfl,_⟩:=h;rfl)) (fun cdv A outer s H vs Q E hr h=>?_)
 obtain ⟨S,d,lk,n,kvs,ls,i,x,th,tg,ab,ho,us,rfl,R,k⟩:=h
 refine ⟨_,ZAH (ZAQ (ZBG (ZAo (E:=E0) (pv 0) L.cS DT hr ZBQ (ZAN (pv 1) ZAC)) rfl)),?_⟩
 obtain ⟨dx,hS⟩:=R.sh.self
 obtain ⟨dt,hx⟩:=R.tw.self
 exact ⟨_,rfl,S,dx,_,rfl,hS,rfl,_,rfl,S,d,lk,n,kvs,ls,i,.ref x,rfl,R.sh,R.val,x,CTw,dt,_,.int ho,rfl,hx,L.cT,L.nho,rfl,k⟩
theorem ZJL:FnScope ["self","number"] ["self","number"] (ZAI ZGj):=⟨rfl,rfl,rfl,by decide +kernel,rfl,by decide +kernel,by decide +kernel⟩
theorem ZJ0 (F:Fun K "label" "Shelf.label" ZGj f fd) (L:ShF K mg CSh CTw) (DT:MethOk P w K mg base CX0 1 CSh "twig_of" ["self","number"] (ZBh CSh)):FnOk P w K mg base CX0 2 f fd ["self","number"] (ZHq CSh CTw fun tg _ _=>tg):=by
 refine F.ok ZJL (fun vs H Q E h=>(by obtain ⟨_,_,_,_,_,_,_,_,_,_,_,_,_,rfl,_⟩:=h;rfl)) (fun cdv A outer s H vs Q E hr h=>?_)
 obtain ⟨S,d,lk,n,kvs,ls,i,x,th,tg,ab,ho,us,rfl,R,k⟩:=h
 refine ⟨_,ZAH (ZAQ (ZBG (ZAo (E:=E0) (pv 0) L.cS DT hr ZBQ (ZAN (pv 1) ZAC)) rfl)),?_⟩
 obtain ⟨dx,hS⟩:=R.sh.self
 obtain ⟨dt,hx⟩:=R.tw.self
 exact ⟨_,rfl,S,dx,_,rfl,hS,rfl,_,rfl,S,d,lk,n,kvs,ls,i,.ref x,rfl,R.sh,R.val,x,CTw,dt,_,tg,rfl,hx,L.cT,L.ntg,rfl,k⟩
theorem scHolders:FnScope ["self","number","twig"] ["self","number"] (ZAI ZEq):=⟨rfl,rfl,rfl,by decide +kernel,rfl,by decide +kernel,by decide +kernel⟩
theorem ZHP (F:Fun K "holders" "Shelf.holders" ZEq f fd) (T:Txt mg) (L:ShF K mg CSh CTw) (DT:MethOk P w K mg base CX0 1 CSh "twig_of" ["self","number"] (ZBh CSh)):FnOk P w K mg base CX0 2 f fd ["self","number"] (ZHq CSh CTw fun _ ho us=>.int ((us.length:Nat)+(ho:Nat):Int)):=by
 refine F.ok scHolders (fun vs H Q E h=>(by obtain ⟨_,_,_,_,_,_,_,_,_,_,_,_,_,rfl,_⟩:=h;rfl)) (fun cdv A outer s H vs Q E hr h=>?_)
 obtain ⟨S,d,lk,n,kvs,ls,i,x,th,tg,ab,ho,us,rfl,R,k⟩:=h
 have nd:=scHolders.nd
 refine ⟨_,ZAD (ZAU (i:=2) nd rfl (Or.inl rfl) (ZAo (E:=E0) (pv 0) L.cS DT hr ZBQ (ZAN (pv 1) ZAC))) (ZAH (ZAQ (ZAb ZBE (ZAK ZAS rfl T.len ZAv (ZAN (ZBG (pv 2) rfl) ZAC)) (ZBG (pv 2) rfl)))),?_⟩
 obtain ⟨dx,hS⟩:=R.sh.self
 obtain ⟨dt,hx⟩:=R.tw.self
 refine ⟨_,rfl,S,dx,_,rfl,hS,rfl,_,rfl,S,d,lk,n,kvs,ls,i,.ref x,rfl,R.sh,R.val,?_⟩
 exact ⟨_,rfl,x,CTw,dt,_,.ref ab,rfl,hx,L.cT,L.nab,rfl,ab,us,rfl,.inl (SqL.of R.tw.above),_,rfl,x,CTw,dt,_,.int ho,rfl,hx,L.cT,L.nho,rfl,_,_,rfl,rfl,k⟩
end
section
variable {P:Program} {w:World} {K:PySem.W.Frag} {mg:Str->Option Value} {base:Heap} {f:Addr} {fd:FuncData} {CSh CTw:Addr}
def ZJM (CTw:Addr):Sp:=fun vs H Q _=>∃ (x:Addr) (th:V) (tg ab:Addr) (ho:Nat) (us:List V) (h:Int) (xs:List V),vs=[.ref x]∧TwAt CTw H x th (.ref tg) ab ho us∧H tg=some (.tup (.int h :: xs))∧Q (.bl (decide (h > 0))) H
theorem ZM4:FnScope ["twig"] ["twig"] (ZAI ZFm):=⟨rfl,rfl,rfl,by decide +kernel,rfl,by decide +kernel,by decide +kernel⟩
theorem ZL9 (F:Fun K "is_stem" "is_stem" ZFm f fd) (T:Txt mg) (L:ShF K mg CSh CTw):FnOk P w K mg base CX0 1 f fd ["twig"] (ZJM CTw):=by
 refine F.ok ZM4 (fun vs H Q E h=>(by obtain ⟨_,_,_,_,_,_,_,_,rfl,_⟩:=h;rfl)) (fun cdv A outer s H vs Q E hr h=>?_)
 obtain ⟨x,th,tg,ab,ho,us,hh,xs,rfl,W,ht,k⟩:=h
 obtain ⟨t0,m0⟩:=T.height
 obtain ⟨dt,hx⟩:=W.self
 refine ⟨_,ZAH (ZAQ (ZBB ZGI (ZAV (r:=rIx K) ZAP (ZBG (pv 0) rfl) (ZAr (v:=.int 0) rfl m0 ⟨_,rfl⟩) (fun _ _=>rfl)) ZAF (ZAW _))),?_⟩
 exact ⟨_,rfl,x,CTw,dt,_,.ref tg,rfl,hx,L.cT,L.ntg,rfl,.inr (.inl ⟨tg,_,_,.int hh,rfl,rfl,SqT.of ht,ZAn (j:=0) rfl,_,_,rfl,rfl,k⟩)⟩
def ZJC (CSh CTw:Addr):Sp:=fun vs H Q _=>∃ (S d lk:Addr) (n:Nat) (kvs:List (Key×V)) (ls:List V) (i:Int) (x tl tg ab:Addr) (ho:Nat) (as us xs:List V) (h:Int),vs=[.ref S,.int i]∧RdAt CSh CTw H S d lk n kvs ls i x (.ref tl) (.ref tg) ab ho as∧H tl=some (.lst us)∧H tg=some (.tup (.int h :: xs))∧lk≠tl∧lk≠ab∧ls.length<=900 ∧
 ∀ (H':Hp) (l' t:Addr),(∀ b o,b≠lk->H b=some o->H' b=some o)->H' lk=some (.lst (ls++[.int i]))->H l'=none->H' l'=some (.lst us)->H' t=some (.tup [.str (if h > 0 then "stem" else "leaf"),.ref l'])->Q (.ref t) H'
theorem scLook:FnScope ["self","number","twig"] ["self","number"] (ZAI ZLU):=⟨rfl,rfl,rfl,by decide +kernel,rfl,by decide +kernel,by decide +kernel⟩
theorem ZMt (F:Fun K "look" "Shelf.look" ZLU f fd) (T:Txt mg) (L:ShF K mg CSh CTw) (DT:MethOk P w K mg base CX0 1 CSh "twig_of" ["self","number"] (ZBh CSh)) (DS:DefOk P w K mg base 1 "is_stem" ["twig"] (ZJM CTw)):FnOk P w K mg base CX0 2 f fd ["self","number"] (ZJC CSh CTw):=by
 refine F.ok scLook (fun vs H Q E h=>(by obtain ⟨_,_,_,_,_,_,_,_,_,_,_,_,_,_,_,_,rfl,_⟩:=h;rfl)) (fun cdv A outer s H vs Q E hr h=>?_)
 obtain ⟨S,d,lk,n,kvs,ls,i,x,tl,tg,ab,ho,as,us,xs,hh,rfl,R,htl,htg,ltl,lab,l900,k⟩:=h
 have nd:=scLook.nd
 refine ⟨_,ZAD (ZAU (i:=2) nd rfl (Or.inl rfl) (ZAo (E:=E0) (pv 0) L.cS DT hr ZBQ (ZAN (pv 1) ZAC)))
  (ZAD (ZA2 (ZCX PySem.F.plainAttrs_list PySem.F.slot_list_append PySem.F.type_list_append ZAu (ZBG (pv 0) rfl) (ZAN (pv 1) ZAC)))
  (ZAD (ZAf (ZAg (ZAT DS hr (ZAN (pv 2) ZAC))) (ZAH (ZAQ (ZAk (ZAN ZAl (ZAN (ZAm ZA0 rfl T.list ZBi (ZAN (ZBG (pv 2) rfl) ZAC)) ZAC))))) ZAR)
  (ZAH (ZAQ (ZAk (ZAN ZAl (ZAN (ZAm ZA0 rfl T.list ZBi (ZAN (ZBG (pv 2) rfl) ZAC)) ZAC))))))),?_⟩
 obtain ⟨dx,hS⟩:=R.sh.self
 obtain ⟨dt,hx⟩:=R.tw.self
 refine ⟨_,rfl,S,dx,_,rfl,hS,rfl,_,rfl,S,d,lk,n,kvs,ls,i,.ref x,rfl,R.sh,R.val,?_⟩
 have hlk:=R.sh.looks
 refine ⟨_,rfl,S,CSh,dx,_,.ref lk,rfl,hS,L.cS,L.nl,rfl,.inl ⟨rfl,_,SqL.of hlk⟩,_,rfl,lk,ls,.int i,rfl,rfl,hlk,ZAO (by omega),?_⟩
 have ke:∀ b o,b≠lk->H b=some o->upd H lk (.lst (ls++[.int i])) b=some o:=fun b o n e=>by rw [ZAG n];exact e
 have xlk:x≠lk:=ZAJ hx hlk (by intro z;cases z)
 have tglk:tg≠lk:=ZAJ htg hlk (by intro z;cases z)
 have hx1:=ke _ _ xlk hx
 have htg1:=ke _ _ tglk htg
 have hab1:=ke _ _ (Ne.symm lab) R.tw.above
 have htl1:=ke _ _ (Ne.symm ltl) htl
 have hlk1:upd H lk (.lst (ls++[.int i])) lk=some (.lst (ls++[.int i])):=ZAA
 have fin:∀ (w:Str) (l' t:Addr),upd H lk (.lst (ls++[.int i])) l'=none->upd (upd H lk (.lst (ls++[.int i]))) l' (.lst us) t=none->w=(if hh > 0 then ("stem" : Str) else "leaf")->Q (.ref t) (upd (upd (upd H lk (.lst (ls++[.int i]))) l' (.lst us)) t (.tup [.str w,.ref l'])):=fun w l' t hl' ht ew=>by
  have g1:=ZAE hl' (.lst us)
  have g2:=ZAE ht (.tup [.str w,.ref l'])
  have g:=g1.trans g2
  have nl':H l'=none:=by
   cases z:H l' with
   | none=>rfl
   | some o=>
    have:l'≠lk:=fun y=>by rw [y,ZAA] at hl';cases hl'
    rw [ZAG this,z] at hl';cases hl'
  refine k _ l' t (fun b o n e=>g _ _ (ke b o n e)) (g _ _ hlk1) nl' (g2 _ _ ZAA) ?_
  rw [ZAA,ew]
 refine ⟨_,rfl,x,.ref tl,tg,ab,ho,as,hh,xs,rfl,⟨⟨dt,hx1⟩,hab1⟩,htg1,_,rfl,?_⟩
 by_cases hp:hh > 0
 ·rw [decide_eq_true hp]
  refine ZBb ⟨_,rfl,x,CTw,dt,_,.ref tl,rfl,hx1,L.cT,L.nth,rfl,tl,us,rfl,.inl (SqL.of htl1),fun l' hl'=>⟨nn (Nat.le_of_ble_eq_true rfl),fun t ht=>?_⟩⟩
  exact fin _ l' t hl' ht (by rw [if_pos hp])
 ·rw [decide_eq_false hp]
  refine ZAz ⟨_,rfl,x,CTw,dt,_,.ref tl,rfl,hx1,L.cT,L.nth,rfl,tl,us,rfl,.inl (SqL.of htl1),fun l' hl'=>⟨nn (Nat.le_of_ble_eq_true rfl),fun t ht=>?_⟩⟩
  exact fin _ l' t hl' ht (by rw [if_neg hp])
def ZIc (CSh:Addr):Sp:=fun vs H Q _=>∃ (S d lk:Addr) (n:Nat) (kvs:List (Key×V)) (ls:List V),vs=[.ref S]∧ShAt CSh H S d lk n kvs ls∧Q (.int kvs.length) H
theorem ZNO:FnScope ["self"] ["self"] (ZAI ZMb):=⟨rfl,rfl,rfl,by decide +kernel,rfl,by decide +kernel,by decide +kernel⟩
theorem ZMG (F:Fun K "many" "Shelf.many" ZMb f fd) (T:Txt mg) (L:ShF K mg CSh CTw):FnOk P w K mg base CX0 1 f fd ["self"] (ZIc CSh):=by
 refine F.ok ZNO (fun vs H Q E h=>(by obtain ⟨_,_,_,_,_,_,rfl,_⟩:=h;rfl)) (fun cdv A outer s H vs Q E hr h=>?_)
 obtain ⟨S,d,lk,n,kvs,ls,rfl,R,k⟩:=h
 obtain ⟨dx,hS⟩:=R.self
 refine ⟨_,ZAH (ZAQ (ZAK ZDm rfl T.len ZAv (ZAN (ZBG (pv 0) rfl) ZAC))),?_⟩
 exact ⟨_,rfl,S,CSh,dx,_,.ref d,rfl,hS,L.cS,L.nk,rfl,d,kvs,rfl,R.kept,k⟩
def ZDX (CSh:Addr):Sp:=fun vs H Q _=>∃ (S d lk:Addr) (n:Nat) (kvs:List (Key×V)) (ls:List V) (ns:List Int),vs=[.ref S]∧ShAt CSh H S d lk n kvs ls∧kvs.map (·.1)=ns.map Sum.inl∧ns.Pairwise (· <= ·)∧ns.length<64∧∀ p,H p=none->Q (.ref p) (upd H p (.lst (ns.map V.int)))
theorem ZIF:FnScope ["self"] ["self"] (ZAI ZEA):=⟨rfl,rfl,rfl,by decide +kernel,rfl,by decide +kernel,by decide +kernel⟩
theorem ZHU (F:Fun K "numbers" "Shelf.numbers" ZEA f fd) (T:Txt mg) (L:ShF K mg CSh CTw):FnOk P w K mg base CX0 1 f fd ["self"] (ZDX CSh):=by
 refine F.ok ZIF (fun vs H Q E h=>(by obtain ⟨_,_,_,_,_,_,_,rfl,_⟩:=h;rfl)) (fun cdv A outer s H vs Q E hr h=>?_)
 obtain ⟨S,d,lk,n,kvs,ls,ns,rfl,R,e1,e2,e3,k⟩:=h
 obtain ⟨dx,hS⟩:=R.self
 refine ⟨_,ZAH (ZAQ (ZAK (ZBU rfl) rfl T.sorted ZBX (ZAN (ZBG (pv 0) rfl) ZAC))),?_⟩
 exact ⟨_,rfl,S,CSh,dx,_,.ref d,rfl,hS,L.cS,L.nk,rfl,d,kvs,ns,rfl,R.kept,e1,e2,e3,k⟩
end
section
variable {P:Program} {w:World} {K:PySem.W.Frag} {mg:Str->Option Value} {base:Heap} {f:Addr} {fd:FuncData} {CSh CTw:Addr}
structure XN (P:Program) (w:World) (K:PySem.W.Frag) (mg:Str->Option Value) (base:Heap) (nm:Str) (C:Addr):Prop where
 ex:∃ fI fd,ExcF K C fI "number" ∧ FnOk P w K mg base CX0 1 fI fd ["self","number"] (ZCw K C fI "number")∧Binds K fd ["self","number"] []
 at_:mg nm=some (.ref C)
 ty:PySem.W.typeIn K (.ref C)=some (.type "type")
theorem ZDh {X:Cx} {E:XK} {nm:Str} {C:Addr} {e:Expr} {es:List Expr} {t:TA} {p cpos pos:Pos} (F:FnD X E) (N:XN X.prog X.w X.K X.mg X.base nm C) (hr:Room 2 X.A) (ha:PA X (e :: es) t) (hg:Gl X nm) (hdb:(nm==("__debug__" : Str))=false:=by decide)
  (he:starEach (e :: es) X.env=(false,eval e X.env) :: starEach es X.env:=by rfl) (hpl:(backTo cpos (starEach es X.env)).any (·.1)=false:=by rfl):PS X (.Raise (some (.Call (.Name nm p) (e :: es) [] cpos)) none pos) (ZHv C "number" E t):=by
 obtain ⟨fI,fd,c,G,b⟩:=N.ex
 exact ZJZ F c N.ty G hr hg N.at_ b ha hdb he hpl
def RfN (C:Addr) (x:Int) (E:XK) (H:Hp):Prop:=∀ dx H',Same H H'->H' dx=some (.xd [("number",.int x)])->E (.ref C) (some dx) H'
theorem RfN.go {C:Addr} {x:Int} {E:XK} {H H1:Hp} (r:RfN C x E H) (s:Same H H1) {dx:Addr} (h:H1 dx=none):E (.ref C) (some dx) (upd H1 dx (.xd [("number",.int x)])):=r dx _ (s.trans (ZAE h _)) ZAA
theorem RfN.mono {C:Addr} {x:Int} {E:XK} {H H1:Hp} (r:RfN C x E H) (s:Same H H1):RfN C x E H1:=fun dx H' s' e=>r dx H' (s.trans s') e
def ZDq (CSh CT:Addr):Sp:=fun vs H Q E=>∃ (S d lk:Addr) (n:Nat) (kvs:List (Key×V)) (ls:List V) (x:Int),vs=[.ref S,.int x]∧ShAt CSh H S d lk n kvs ls∧(∀ tw,ZBj kvs (.inl x)=some tw->Q tw H)∧(ZBj kvs (.inl x)=none->RfN CT x E H)
theorem ZHa {CT:Addr} (F:Fun K "twig_of" "Shelf.twig_of" ZEg f fd) (L:ShF K mg CSh CTw) (N:XN P w K mg base "NoTwig" CT):FnOk P w K mg base (CXd P w) 3 f fd ["self","number"] (ZDq CSh CT):=by
 refine F.okD ZGl (fun vs H Q E h=>(by obtain ⟨_,_,_,_,_,_,_,rfl,_⟩:=h;rfl)) (fun cdv A outer s H vs Q E hr h=>?_)
 obtain ⟨S,d,lk,n,kvs,ls,x,rfl,⟨⟨dx,hS⟩,hd,hl⟩,k1,k2⟩:=h
 have hu:=ZCW hr
 refine ⟨_,ZAD (ZAf (ZDB (ZDN hu (pv 1) (ZBG (pv 0) rfl))) (ZAH (ZDh ZCC N hr (ZAN (pv 1) ZAC) rfl)) ZAR) (ZAH (ZAQ (ZBJ hu (ZBG (pv 0) rfl) (pv 1) (fun _ _=>rfl)))),?_⟩
 cases hv:ZBj kvs (.inl x) with
 | none=>
  have hg:DGet H d (.int x) none:=hv ▸ DGet.k (k:=Sum.inl x) hd
  refine ⟨_,rfl,_,rfl,S,CSh,dx,_,.ref d,rfl,hS,L.cS,L.nk,rfl,d,none,rfl,hg,_,rfl,ZBb ?_⟩
  exact ⟨_,rfl,_,rfl,fun dd hdd=>(k2 hv).go (Same.refl H) hdd⟩
 | some tw=>
  have hg:DGet H d (.int x) (some tw):=hv ▸ DGet.k (k:=Sum.inl x) hd
  refine ⟨_,rfl,_,rfl,S,CSh,dx,_,.ref d,rfl,hS,L.cS,L.nk,rfl,d,some tw,rfl,hg,_,rfl,ZAz ?_⟩
  exact ⟨_,rfl,S,CSh,dx,_,.ref d,rfl,hS,L.cS,L.nk,rfl,_,rfl,d,tw,rfl,hg,k1 tw hv⟩
def ZEe (CSh CTw CT:Addr):Sp:=fun vs H Q E=>∃ (S d lk:Addr) (n:Nat) (kvs:List (Key×V)) (ls:List V) (x:Int),vs=[.ref S,.int x]∧ShAt CSh H S d lk n kvs ls ∧
 (∀ tw,ZBj kvs (.inl x)=some tw->∃ (a:Addr) (th tg:V) (ab:Addr) (ho:Nat) (us:List V),tw=.ref a∧TwAt CTw H a th tg ab ho us∧Q tg H)∧(ZBj kvs (.inl x)=none->RfN CT x E H)
theorem ZJU {CT:Addr} (F:Fun K "label" "Shelf.label" ZGj f fd) (L:ShF K mg CSh CTw) (DT:MethOk P w K mg base (CXd P w) 3 CSh "twig_of" ["self","number"] (ZDq CSh CT)):FnOk P w K mg base (CXd P w) 4 f fd ["self","number"] (ZEe CSh CTw CT):=by
 refine F.okD ZJL (fun vs H Q E h=>(by obtain ⟨_,_,_,_,_,_,_,rfl,_⟩:=h;rfl)) (fun cdv A outer s H vs Q E hr h=>?_)
 obtain ⟨S,d,lk,n,kvs,ls,x,rfl,R,k1,k2⟩:=h
 refine ⟨_,ZAH (ZAQ (ZBG (ZAo (E:=E) (pv 0) L.cS DT hr (ZCa ZCC fun _ _ _ h=>h) (ZAN (pv 1) ZAC)) rfl)),?_⟩
 obtain ⟨dx,hS⟩:=R.self
 refine ⟨_,rfl,S,dx,_,rfl,hS,rfl,_,rfl,S,d,lk,n,kvs,ls,x,rfl,R,fun tw hv=>?_,k2⟩
 obtain ⟨a,th,tg,ab,ho,us,rfl,W,q⟩:=k1 tw hv
 obtain ⟨dt,hx⟩:=W.self
 exact ⟨a,CTw,dt,_,tg,rfl,hx,L.cT,L.ntg,rfl,q⟩
end
structure XS (P:Program) (w:World) (K:PySem.W.Frag) (mg:Str->Option Value) (base:Heap) (CS:Addr):Prop where
 stem:mg "NoStem" = some (.ref CS)
 exk:PySem.W.excIn K CS bmV "ValueError.__new__" = true
 kp:PySem.W.keepIn K (.ref CS)=true
 mB:PySem.W.mroIn K CS (.type "BaseException")=some true
 ty:PySem.W.typeIn K (.ref CS)=some (.type "type")
structure TwA where
 x:Addr
 th:Addr
 tg:Addr
 ab:Addr
def TwA.d:TwA:=⟨0,0,0,0⟩
structure TwP (CTw:Addr) (H:Hp) (ts:List Twg) (av:Nat->List Nat) (ho:Nat->Nat) (i:Nat) (a:TwA):Prop where
 tw:TwAt CTw H a.x (.ref a.th) (.ref a.tg) a.ab (ho i) (iN (av i))
 things:∃ us,H a.th=some (.lst us)∧((gd ts i).h=0->KeysAt H (ZBA (gd ts i).rows) us)∧((gd ts i).h≠0->us=iN (gd ts i).bs)
 tag:LabAt H (ZA1 (gd ts i)) (.ref a.tg)
theorem TwP.same {CTw:Addr} {H H':Hp} {ts:List Twg} {av:Nat->List Nat} {ho:Nat->Nat} {i:Nat} {a:TwA} (h:TwP CTw H ts av ho i a) (s:Same H H'):TwP CTw H' ts av ho i a:=by
 obtain ⟨us,e1,e2,e3⟩:=h.things
 exact ⟨h.tw.same s,⟨us,s _ _ e1,fun z=>(e2 z).mono (Same.tups s) _ _,e3⟩,h.tag.mono (Same.tups s)⟩
structure ShP (CSh CTw:Addr) (H:Hp) (S d lk:Addr) (ts:List Twg) (av:Nat->List Nat) (ho:Nat->Nat) (as:List TwA) (kvs:List (Key×V)) (ls:List V):Prop where
 sh:ShAt CSh H S d lk ts.length kvs ls
 keys:kvs.map (·.1)=(List.range ts.length).map (fun i:Nat=>(Sum.inl (i:Int):Key))
 val:∀ i:Nat,i<ts.length->ZBj kvs (Sum.inl (i:Int))=some (.ref (as.getD i .d).x)
 len:as.length=ts.length
 tw:∀ i:Nat,i<ts.length->TwP CTw H ts av ho i (as.getD i .d)
 own:∀ i:Nat,i<ts.length->(as.getD i .d).x≠S∧(as.getD i .d).ab≠lk∧(as.getD i .d).th≠lk∧(as.getD i .d).ab≠(as.getD i .d).th
 two:∀ i j:Nat,i<ts.length->j<ts.length->i≠j->(as.getD i .d).x≠(as.getD j .d).x∧(as.getD i .d).ab≠(as.getD j .d).ab∧(as.getD i .d).ab≠(as.getD j .d).th∧(as.getD i .d).th≠(as.getD j .d).th
theorem ShP.same {CSh CTw:Addr} {H H':Hp} {S d lk:Addr} {ts:List Twg} {av:Nat->List Nat} {ho:Nat->Nat} {as:List TwA} {kvs:List (Key×V)} {ls:List V} (h:ShP CSh CTw H S d lk ts av ho as kvs ls) (s:Same H H'):ShP CSh CTw H' S d lk ts av ho as kvs ls:=
 ⟨h.sh.same s,h.keys,h.val,h.len,fun i hi=>(h.tw i hi).same s,h.own,h.two⟩
theorem TwP.frame {CTw:Addr} {H H':Hp} {ts:List Twg} {av:Nat->List Nat} {ho:Nat->Nat} {i:Nat} {a:TwA} (h:TwP CTw H ts av ho i a) (m:ZBn H H') (kx:∀ o,H a.x=some o->H' a.x=some o) (kt:∀ o,H a.th=some o->H' a.th=some o) (ka:∀ o,H a.ab=some o->H' a.ab=some o):TwP CTw H' ts av ho i a:=by
 obtain ⟨us,e1,e2,e3⟩:=h.things
 obtain ⟨dx,e4⟩:=h.tw.self
 exact ⟨⟨⟨dx,kx _ e4⟩,ka _ h.tw.above⟩,⟨us,kt _ e1,fun z=>(e2 z).mono m _ _,e3⟩,h.tag.mono m⟩
theorem ShP.none {CSh CTw:Addr} {H:Hp} {S d lk:Addr} {ts:List Twg} {av:Nat->List Nat} {ho:Nat->Nat} {as:List TwA} {kvs:List (Key×V)} {ls:List V} (h:ShP CSh CTw H S d lk ts av ho as kvs ls) {x:Int} (hx:inT ts x=false):ZBj kvs (Sum.inl x)=Option.none:=by
 cases z:ZBj kvs (Sum.inl x) with
 | none=>rfl
 | some v=>
  have:=ZEi z
  rw [h.keys] at this
  obtain ⟨i,hi,ei⟩:=List.mem_map.mp this
  have e1:=Sum.inl.inj ei
  have e2:=List.mem_range.mp hi
  unfold inT at hx
  have:=of_decide_eq_false hx
  omega
theorem ZEt {ts:List Twg} {x:Int} (h:inT ts x=true):∃ i:Nat,x=(i:Int)∧i<ts.length:=by
 unfold inT at h
 have:=of_decide_eq_true h
 exact ⟨x.toNat,by omega,by omega⟩
section
variable {P:Program} {w:World} {K:PySem.W.Frag} {mg:Str->Option Value} {base:Heap} {f:Addr} {fd:FuncData} {CSh CTw CS CT:Addr}
theorem ZKa (F:Fun K "label_over" "label_over" ZD8 f fd) (kin:K.In base) (T:Txt mg) (L:XS P w K mg base CS) (DS:DefOk P w K mg base 8 "stand_side_by_side" ["label","following"] ZIg):FnOk P w K mg base (CXd P w) 9 f fd ["labels"] (ZHt CS):=by
 refine F.okD scOver (fun vs H Q E h=>(by obtain ⟨_,_,_,rfl,_⟩:=h;rfl)) (fun cdv A outer s H vs Q E hr h=>?_)
 obtain ⟨l,us,ls,rfl,hl,hk,hf,h100,k⟩:=h
 have nd:=scOver.nd
 have hlen:=hk.1
 obtain ⟨tf,mf⟩:=T.few
 obtain ⟨tm,mm⟩:=T.most
 obtain ⟨t0,m0⟩:=T.height
 obtain ⟨t1,m1⟩:=T.least
 obtain ⟨t2,m2⟩:=T.greatest
 obtain ⟨t3,m3⟩:=T.many
 refine ⟨_,ZAD (ZAf (ZAy (ZEw ZDt ZDt (ZAr (v:=.int 2) rfl mf ⟨_,rfl⟩) (ZAK ZAS rfl T.len ZAv (ZAN (pv 0) ZAC)) (ZAr (v:=.int 4) rfl mm ⟨_,rfl⟩))) (ZAH (ZDz ZCC (ZKw kin L.stem L.exk) L.kp L.mB L.ty rfl)) ZAR)
  (ZAD (ZBe ZJ9 rfl (ZCb rfl T.range (ZAN ZAF (ZAN (ZAK ZAS rfl T.len ZAv (ZAN (pv 0) ZAC)) ZAC))) (ZAZ (i:=1) nd rfl (Or.inl rfl))
   (ZAH (ZAf (ZAy (ZAg (ZAT DS hr (ZAN (ZAV (r:=rIx K) ZAP (pv 0) (ZAb ZCV (pv 1) ZAF) (fun _ _=>rfl)) (ZAN (ZAV (r:=rIx K) ZAP (pv 0) (pv 1) (fun _ _=>rfl)) ZAC))))) (ZAH (ZDz ZCC (ZKw kin L.stem L.exk) L.kp L.mB L.ty rfl)) ZAR)))
  (ZAD (ZAU (i:=2) nd rfl (Or.inl rfl) (ZAK (ZNX rfl) rfl T.sum ZNf (ZAN (ZBk [] [] rfl (ZA5 (pv 0)) (fun _ _ _ _ _=>ZBM) (fun _ _ _ _ _=>ZAV (r:=rIx K) ZAP (pv 0) (ZAr (v:=.int 3) rfl m3 ⟨_,rfl⟩) (fun _ _=>rfl)) trivial) ZAC)))
  (ZAH (ZAQ (ZAk (pa4 (ZAb ZBE (ZAV (r:=rIx K) ZAP (ZAV (r:=rIx K) ZAP (pv 0) ZAF (fun _ _=>rfl)) (ZAr (v:=.int 0) rfl m0 ⟨_,rfl⟩) (fun _ _=>rfl)) ZAF)
   (ZAV (r:=rIx K) ZAP (ZAV (r:=rIx K) ZAP (pv 0) ZAF (fun _ _=>rfl)) (ZAr (v:=.int 1) rfl m1 ⟨_,rfl⟩) (fun _ _=>rfl))
   (ZAV (r:=rIx K) ZAP (ZAV (r:=rIx K) ZAP (pv 0) (ZGS ZDP ZAF) (fun _ _=>rfl)) (ZAr (v:=.int 2) rfl m2 ⟨_,rfl⟩) (fun _ _=>rfl))
   (pv 2))))))),?_⟩
 have lab:∀ (H':Hp) (i:Nat),Same H H'->i<us.length->∃ (a:Addr) (vlo vhi:V),us[i]? = some (.ref a)∧H' a=some (.tup [.int (ls.getD i .d).h,vlo,vhi,.int (ls.getD i .d).m])∧KeyAt H' (ls.getD i .d).lo vlo∧KeyAt H' (ls.getD i .d).hi vhi:=fun H' i s' hi=>by
  have hu:us[i]? = some us[i]:=List.getElem?_eq_getElem hi
  obtain ⟨a,vlo,vhi,e,e1,k1,k2⟩:=(hk.2 i _ hu).mono (Same.tups s')
  exact ⟨a,vlo,vhi,by rw [hu,e],e1,k1,k2⟩
 refine ⟨_,rfl,l,us,rfl,.inl (SqL.of hl),_,_,rfl,rfl,_,rfl,?_⟩
 rcases Nat.lt_or_ge us.length 2 with h2 | h2
 ·rw [decide_eq_false (show ¬ (2:Int)<=(us.length:Int) by omega)]
  refine ZAz ⟨_,rfl,ZBb ?_⟩
  exact (k H (Same.refl H)).1 (ZD3 (by omega))
 rw [decide_eq_true (show (2:Int)<=(us.length:Int) by omega)]
 refine ZBb ⟨_,_,rfl,rfl,_,rfl,?_⟩
 rcases Nat.lt_or_ge 4 us.length with h4 | h4
 ·rw [decide_eq_false (show ¬ (us.length:Int)<=4 by omega)]
  refine ZBb ?_
  exact (k H (Same.refl H)).1 (ZD3 (by omega))
 rw [decide_eq_true (show (us.length:Int)<=4 by omega)]
 refine ZAz ?_
 refine ⟨_,rfl,l,us,rfl,.inl (SqL.of hl),1,(us.length:Int),rfl,⟨by omega,by omega,by omega,by omega⟩,?_⟩
 refine ZBW (lo:=1) (n:=((us.length:Int) - 1).toNat) (fun i σ H2=>∃ x:Option V,σ=[some (.ref l),x,none]∧Same H H2∧∀ j,j<i->okP (ls.getD j .d) (ls.getD (j+1) .d)=true) ⟨_,rfl,Same.refl H,fun j hj=>absurd hj (by omega)⟩ ?_ ?_
 ·rintro i σ H2 hi ⟨x,rfl,s2,hok⟩
  have hi1:i+1<us.length:=by omega
  have ua:us[i]? = some (us[i]'(by omega)):=List.getElem?_eq_getElem (by omega)
  have ub:us[i+1]? = some us[i+1]:=List.getElem?_eq_getElem hi1
  have e1:(1:Int)+(i:Int)=((i+1:Nat):Int):=by omega
  have e0:(1:Int)+(i:Int) - 1=((i:Nat):Int):=by omega
  have hl2:=s2 _ _ hl
  refine ⟨_,rfl,_,rfl,_,_,rfl,rfl,.inl ⟨l,us,_,_,rfl,rfl,SqL.of hl2,(by rw [e0];exact ZAn ua),?_⟩⟩
  refine ⟨_,rfl,_,rfl,.inl ⟨l,us,_,_,rfl,rfl,SqL.of hl2,(by rw [e1];exact ZAn ub),?_⟩⟩
  refine ⟨_,_,ls.getD i .d,ls.getD (i+1) .d,rfl,(hk.2 i _ ua).mono (Same.tups s2),(hk.2 (i+1) _ ub).mono (Same.tups s2),hf i,hf (i+1),fun H3 s3=>⟨_,rfl,?_⟩⟩
  cases hc:okP (ls.getD i .d) (ls.getD (i+1) .d) with
  | true=>
   refine ZAz ⟨_,rfl,s2.trans s3,fun j hj=>?_⟩
   rcases Nat.lt_or_ge j i with c1 | c1
   ·exact hok j c1
   ·have:j=i:=by omega
    rw [this];exact hc
  | false=>exact ZBb ((k H3 (s2.trans s3)).1 (ZLs (by omega) hc))
 rintro σ H2 ⟨x,rfl,s2,hok⟩
 have ho:=ZKA (ls:=ls) (by omega) (by omega) fun j hj=>hok j (by omega)
 have hl2:=s2 _ _ hl
 refine ⟨_,rfl,l,rfl,⟨us,SqL.of hl2⟩,?_⟩
 refine ZA3 (n:=us.length) (fun i z=>us[i]? = some z) (fun D i ys H3=>Same H2 H3∧H2 D=none∧ys=((ls.map Lab.m).take i).map V.int) (ZAO (by omega))
  (fun D i ys H3 hi hP=>⟨us,us[i],SqL.of (hP.1 _ _ hl2),by simp [hi]⟩) (fun D i ys H3 z H4 hi hP hy=>⟨hy.1,hy.2 us (SqL.of (hP.1 _ _ hl2))⟩) (fun D ys H3 hP=>⟨us,SqL.of (hP.1 _ _ hl2),Nat.le_refl _⟩)
  (fun D hD=>⟨ZAE hD _,hD,rfl⟩) (fun D i ys H3 z eD hl' hi hz hP R hR=>?_) (fun D ys H3 eD hP=>?_)
 ·obtain ⟨s3,nD,rfl⟩:=hP
  obtain ⟨a,alo,ahi,ua,ea,ka1,ka2⟩:=lab H3 i (s2.trans s3) hi
  rw [ua] at hz
  cases hz
  refine ⟨_,rfl,.inr (.inl ⟨a,_,_,.int (ls.getD i .d).m,rfl,rfl,SqT.of ea,rfl,?_⟩)⟩
  refine hR _ H3 eD ⟨fun b o e=>by rw [ZAG (ZAB e nD)];exact s3 b o e,nD,?_⟩
  have eg:(ls.map Lab.m)[i]? = some (ls.getD i .d).m:=by
   rw [List.getElem?_map,List.getD_eq_getElem?_getD,List.getElem?_eq_getElem (show i<ls.length by omega)]
   rfl
  rw [List.take_add_one,eg,List.map_append]
  rfl
 ·obtain ⟨s3,nD,rfl⟩:=hP
  rw [List.take_of_length_le (by rw [List.length_map];omega)] at eD
  refine ⟨D,ls.map Lab.m,rfl,SqL.of eD,?_⟩
  have s23:=s2.trans s3
  have hl3:=s23 _ _ hl
  obtain ⟨c,clo,chi,uc,ec,kc1,kc2⟩:=lab H3 0 s23 (by omega)
  obtain ⟨b,blo,bhi,ub,eb,kb1,kb2⟩:=lab H3 (us.length - 1) s23 (by omega)
  have elast:atI us (-1)=some (.ref b):=by
   have e:us=us.dropLast++[.ref b]:=by
    have hne:us≠[]:=fun z=>by rw [z] at h2;simp at h2
    have hg:us.getLast hne=.ref b:=by
     rw [List.getLast_eq_getElem]
     have:=(List.getElem?_eq_some_iff.mp ub).2
     exact this
    rw [<-hg,List.dropLast_concat_getLast]
   rw [e]
   exact ZE1 _ _
  refine ⟨_,rfl,.inl ⟨l,us,_,.ref c,rfl,rfl,SqL.of hl3,ZAn (j:=0) uc,.inr (.inl ⟨c,_,_,.int (ls.getD 0 .d).h,rfl,rfl,SqT.of ec,rfl,_,_,rfl,rfl,?_⟩)⟩⟩
  refine ⟨_,rfl,.inl ⟨l,us,_,.ref c,rfl,rfl,SqL.of hl3,ZAn (j:=0) uc,.inr (.inl ⟨c,_,_,clo,rfl,rfl,SqT.of ec,rfl,?_⟩)⟩⟩
  refine ⟨_,rfl,1,rfl,.inl ⟨l,us,_,.ref b,rfl,rfl,SqL.of hl3,elast,.inr (.inl ⟨b,_,_,bhi,rfl,rfl,SqT.of eb,rfl,?_⟩)⟩⟩
  refine ⟨_,rfl,nn (Nat.le_of_ble_eq_true rfl),fun p hp=>?_⟩
  have g:=ZAE hp (.tup [.int ((ls.getD 0 .d).h+1),clo,bhi,.int (ls.map Lab.m).sum])
  refine (k _ (s23.trans g)).2 _ _ ho ?_
  rw [<-hlen]
  exact .tup ZAA (.cons (.int _) (.cons (kc1.mono (Same.tups g) _ _) (.cons (kb2.mono (Same.tups g) _ _) (.cons (.int _) .nil))))
abbrev ZDi:Stmt:=ZAq (top 36) 19
def ZCh (CSh CTw CT:Addr):Sp:=fun vs H Q E=>∃ (S d lk l:Addr) (ts:List Twg) (av:Nat->List Nat) (ho:Nat->Nat) (as:List TwA) (kvs:List (Key×V)) (ls:List V) (ns:List Int),vs=[.ref S,.ref l]∧ShP CSh CTw H S d lk ts av ho as kvs ls∧H l=some (.lst (ns.map V.int))∧ns.length<=100 ∧
 (∀ x,ns.find? (fun x=>!inT ts x)=some x->RfN CT x E H) ∧
 (∀ bs:List Nat,ns=bs.map (fun b:Nat=>(b:Int))->(∀ b∈bs,b<ts.length)->∀ (D:Addr) (us:List V) (H':Hp),Same H H'->H D=none->H' D=some (.lst us)->LabsAt H' (ZAe ts bs) us->Q (.ref D) H')
theorem ZHd:FnScope ["self","numbers"] ["self","numbers"] (ZAI ZDi):=⟨rfl,rfl,rfl,by decide +kernel,rfl,by decide +kernel,by decide +kernel⟩
theorem ZFv (F:Fun K "labels_of" "Shelf.labels_of" ZDi f fd) (L:ShF K mg CSh CTw) (DL:MethOk P w K mg base (CXd P w) 4 CSh "label" ["self","number"] (ZEe CSh CTw CT)):FnOk P w K mg base (CXd P w) 5 f fd ["self","numbers"] (ZCh CSh CTw CT):=by
 refine F.okD ZHd (fun vs H Q E h=>(by obtain ⟨_,_,_,_,_,_,_,_,_,_,_,rfl,_⟩:=h;rfl)) (fun cdv A outer s H vs Q E hr h=>?_)
 obtain ⟨S,d,lk,l,ts,av,ho,as,kvs,ls,ns,rfl,R,hl,h100,k1,k2⟩:=h
 refine ⟨_,ZAH (ZAQ (ZKN (E1:=E) [0] ["self"] ZCC (fun _ _ _ h=>h) (ZA5 (pv 1)) (fun _ _ _ _ _=>ZBM) (fun _ _ _ _ _ hp=>ZAo (E:=E) (pv 1) L.cS DL hr hp (ZAN (pv 0) ZAC)) ⟨rfl,.inl rfl,rfl,trivial⟩)),?_⟩
 refine ⟨_,rfl,l,rfl,⟨_,SqL.of hl⟩,?_⟩
 refine ZA3 (n:=ns.length) (fun i z=>(ns.map V.int)[i]? = some z) (fun D i ys H3=>Same H H3∧H D=none∧(ns.take i).find? (fun x=>!inT ts x)=none∧LabsAt H3 (ZAe ts ((ns.take i).map Int.toNat)) ys) (ZAO (by omega))
  (fun D i ys H3 hi hP=>⟨_,.int ns[i],SqL.of (hP.1 _ _ hl),by simp [hi]⟩) (fun D i ys H3 z H4 hi hP hy=>⟨hy.1,hy.2 _ (SqL.of (hP.1 _ _ hl))⟩) (fun D ys H3 hP=>⟨_,SqL.of (hP.1 _ _ hl),by simp⟩)
  (fun D hD=>⟨ZAE hD _,hD,rfl,rfl,fun i u e=>by simp at e⟩) (fun D i ys H3 z eD hl' hi hz hP RR hRR=>?_) (fun D us H3 eD hP=>?_)
 ·obtain ⟨s3,nD,hn,hk⟩:=hP
  rw [List.getElem?_map] at hz
  obtain ⟨x,ex,rfl⟩:=Option.map_eq_some_iff.mp hz
  obtain ⟨f1,f2⟩:=ZBx hn ex
  have R3:=R.same s3
  obtain ⟨dx,hS⟩:=R3.sh.self
  refine ⟨_,rfl,S,dx,_,rfl,hS,rfl,_,rfl,S,d,lk,ts.length,kvs,ls,x,rfl,R3.sh,fun tw hv=>?_,fun hv=>?_⟩
  ·have hx:inT ts x=true:=by
    cases c:inT ts x with
    | true=>rfl
    | false=>rw [R.none c] at hv;cases hv
   obtain ⟨i',rfl,hi'⟩:=ZEt hx
   rw [R.val i' hi'] at hv
   cases hv
   have W:=R3.tw i' hi'
   refine ⟨_,_,_,_,_,_,rfl,W.tw,?_⟩
   refine hRR _ H3 eD ⟨ZBK s3 nD,nD,f2 (by rw [hx];rfl),?_⟩
   have tD:ZBn H3 (upd H3 D (.lst (ys++[.ref (as.getD i' .d).tg]))):=fun b xs e=>by rw [ZAG (ZAJ e eD (by intro z;cases z))];exact e
   rw [List.take_add_one,ex]
   have e2:ZAe ts ((ns.take i++(some ((i':Nat):Int)).toList).map Int.toNat)=ZAe ts ((ns.take i).map Int.toNat)++[ZA1 (gd ts i')]:=by unfold ZAe;simp
   rw [e2]
   exact (hk.snoc W.tag).mono tD
  ·have hx:inT ts x=false:=by
    cases c:inT ts x with
    | false=>rfl
    | true=>
     obtain ⟨i',rfl,hi'⟩:=ZEt c
     rw [R.val i' hi'] at hv
     cases hv
   exact (k1 x (f1 (by rw [hx];rfl))).mono s3
 ·obtain ⟨s3,nD,hn,hk⟩:=hP
  rw [List.take_of_length_le (Nat.le_refl _)] at hn hk
  have hin:∀ y∈ns,inT ts y=true:=fun y hy=>by
   have:=List.find?_eq_none.mp hn y hy
   simpa using this
  refine k2 (ns.map Int.toNat) ?_ (fun b hb=>?_) D us H3 s3 nD eD hk
  ·rw [List.map_map]
   conv=>lhs;rw [<-List.map_id ns]
   refine List.map_congr_left fun y hy=>?_
   obtain ⟨i',rfl,_⟩:=ZEt (hin y hy)
   simp
  ·obtain ⟨y,hy,rfl⟩:=List.mem_map.mp hb
   obtain ⟨i',rfl,hi'⟩:=ZEt (hin y hy)
   simpa using hi'
end
def ZNZ (av:Nat->List Nat) (b st:Nat):Nat->List Nat:=fun i=>if i=b then av i++[st] else av i
def ZK8 (ho:Nat->Nat) (b:Nat):Nat->Nat:=fun i=>if i=b then ho i - 1 else ho i
theorem ShP.touch {CSh CTw:Addr} {H H':Hp} {S d lk:Addr} {ts:List Twg} {av:Nat->List Nat} {ho:Nat->Nat} {as:List TwA} {kvs:List (Key×V)} {ls:List V} (R:ShP CSh CTw H S d lk ts av ho as kvs ls) {b st:Nat} (hb:b<ts.length)
  (hx:∃ dx,H' (as.getD b .d).x=some (.ins CTw dx (ZK0 (.ref (as.getD b .d).th) (.ref (as.getD b .d).tg) (as.getD b .d).ab (ho b - 1)))) (ha:H' (as.getD b .d).ab=some (.lst (iN (av b++[st]))))
  (k:∀ c o,c≠(as.getD b .d).x->c≠(as.getD b .d).ab->H c=some o->H' c=some o):ShP CSh CTw H' S d lk ts (ZNZ av b st) (ZK8 ho b) as kvs ls:=by
 obtain ⟨⟨dS,hS⟩,hd,hl⟩:=R.sh
 have Wb:=R.tw b hb
 obtain ⟨dx0,hx0⟩:=Wb.tw.self
 have hab:=Wb.tw.above
 obtain ⟨us,e1,e2,e3⟩:=Wb.things
 have m:ZBn H H':=fun c xs e=>k c _ (ZAJ e hx0 (by intro z;cases z)) (ZAJ e hab (by intro z;cases z)) e
 refine ⟨⟨⟨dS,k _ _ (R.own b hb).1.symm (ZAJ hS hab (by intro z;cases z)) hS⟩,k _ _ (ZAJ hd hx0 (by intro z;cases z)) (ZAJ hd hab (by intro z;cases z)) hd,k _ _ (ZAJ hl hx0 (by intro z;cases z)) (R.own b hb).2.1.symm hl⟩,R.keys,R.val,R.len,fun i hi=>?_,R.own,R.two⟩
 by_cases z:i=b
 ·subst z
  have ea:ZNZ av i st i=av i++[st]:=if_pos rfl
  have eh:ZK8 ho i i=ho i - 1:=if_pos rfl
  refine ⟨⟨?_,?_⟩,⟨us,k _ _ (ZAJ e1 hx0 (by intro z;cases z)) (R.own i hi).2.2.2.symm e1,fun z=>(e2 z).mono m _ _,e3⟩,Wb.tag.mono m⟩
  ·rw [eh];exact hx
  ·rw [ea];exact ha
 ·have ea:ZNZ av b st i=av i:=if_neg z
  have eh:ZK8 ho b i=ho i:=if_neg z
  have Wi:=R.tw i hi
  obtain ⟨t1,t2,t3,t4⟩:=R.two i b hi hb z
  obtain ⟨s1,s2,s3,s4⟩:=R.two b i hb hi (Ne.symm z)
  obtain ⟨dx1,hx1⟩:=Wi.tw.self
  obtain ⟨vs,f1,_⟩:=Wi.things
  have G:=Wi.frame m (fun o e=>k _ _ t1 (by have:=hx1.symm.trans e;exact ZAJ hx1 hab (by intro z;cases z)) e) (fun o e=>k _ _ (ZAJ f1 hx0 (by intro z;cases z)) s3.symm e) (fun o e=>k _ _ (ZAJ Wi.tw.above hx0 (by intro z;cases z)) t2 e)
  refine ⟨?_,G.things,G.tag⟩
  rw [ea,eh]
  exact G.tw
section
variable {P:Program} {w:World} {K:PySem.W.Frag} {mg:Str->Option Value} {base:Heap} {f:Addr} {fd:FuncData} {CSh CTw CH:Addr}
abbrev ZCm:Stmt:=ZAq (top 36) 20
def ZCI (CSh CTw CH:Addr):Sp:=fun vs H Q E=>∃ (S d lk l:Addr) (ts:List Twg) (av:Nat->List Nat) (ho:Nat->Nat) (as:List TwA) (kvs:List (Key×V)) (ls:List V) (bs:List Nat),vs=[.ref S,.ref l]∧ShP CSh CTw H S d lk ts av ho as kvs ls∧H l=some (.lst (iN bs))∧(∀ b∈bs,b<ts.length) ∧
 (∀ b,bs.find? (fun b=>decide (ho b=0))=some b->RfN CH (b:Nat) E H)∧(bs.find? (fun b=>decide (ho b=0))=none->∀ H',Same H H'->Q .non H')
theorem scCheckHeld:FnScope ["self","numbers","number"] ["self","numbers"] (ZAI ZCm):=⟨rfl,rfl,rfl,by decide +kernel,rfl,by decide +kernel,by decide +kernel⟩
theorem ZFV (F:Fun K "check_held" "Shelf.check_held" ZCm f fd) (L:ShF K mg CSh CTw) (N:XN P w K mg base "NotHeld" CH) (DO:MethOk P w K mg base CX0 2 CSh "outside" ["self","number"] (ZHq CSh CTw fun _ ho _=>.int ho)):FnOk P w K mg base (CXd P w) 3 f fd ["self","numbers"] (ZCI CSh CTw CH):=by
 refine F.okD scCheckHeld (fun vs H Q E h=>(by obtain ⟨_,_,_,_,_,_,_,_,_,_,_,rfl,_⟩:=h;rfl)) (fun cdv A outer s H vs Q E hr h=>?_)
 obtain ⟨S,d,lk,l,ts,av,ho,as,kvs,ls,bs,rfl,R,hl,hb,k1,k2⟩:=h
 have nd:=scCheckHeld.nd
 refine ⟨_,ZAH (ZBe ZJ9 rfl (ZA5 (pv 1)) (ZAZ (i:=2) nd rfl (Or.inl rfl))
  (ZAH (ZAf (ZAX ZCA (ZAo (E:=E0) (pv 0) L.cS DO hr ZBQ (ZAN (pv 2) ZAC)) ZAF (ZAW _)) (ZAH (ZDh ZCC N hr (ZAN (pv 2) ZAC) rfl)) ZAR))),?_⟩
 refine ⟨_,rfl,l,rfl,⟨_,SqL.of hl⟩,ZBo (K:=K) (a:=l) (xs:=iN bs) (fun i σ H2=>∃ x:Option V,σ=[some (.ref S),some (.ref l),x]∧H2=H∧(bs.take i).find? (fun b=>decide (ho b=0))=none) ⟨_,rfl,rfl,rfl⟩ (fun i σ H2 _ hP=>by obtain ⟨_,_,rfl,_⟩:=hP;exact SqL.of hl) ?_ ?_⟩
 ·rintro i u σ H2 hu2 ⟨x,rfl,rfl,hn⟩
  unfold iN at hu2
  rw [List.getElem?_map] at hu2
  obtain ⟨b,eb,rfl⟩:=Option.map_eq_some_iff.mp hu2
  have hbl:=hb b (List.mem_of_getElem? eb)
  obtain ⟨f1,f2⟩:=ZBx hn eb
  obtain ⟨dx,hS⟩:=R.sh.self
  refine ⟨_,rfl,S,dx,_,rfl,hS,rfl,_,rfl,S,d,lk,ts.length,kvs,ls,(b:Int),_,_,_,_,_,_,rfl,⟨R.sh,R.val b hbl,(R.tw b hbl).tw⟩,?_⟩
  refine ⟨rfl,_,rfl,?_⟩
  have ed:decide (V.int (ho b:Nat)=V.int 0)=decide (ho b=0):=by
   rw [Bool.eq_iff_iff]
   simp
  rw [ed]
  cases c:decide (ho b=0) with
  | true=>exact ZBb ⟨_,rfl,_,rfl,fun dd hdd=>(k1 b (f1 c)).go (Same.refl _) hdd⟩
  | false=>exact ZAz ⟨_,rfl,rfl,f2 c⟩
 ·rintro σ H2 ⟨x,rfl,rfl,hn⟩
  rw [show (iN bs).length=bs.length from List.length_map _,List.take_of_length_le (Nat.le_refl _)] at hn
  exact k2 hn _ (Same.refl _)
end
def avK (bs:List Nat) (st:Nat) (av:Nat->List Nat):Nat->List Nat:=fun i=>if i∈bs then av i++[st] else av i
def hoK (bs:List Nat) (ho:Nat->Nat):Nat->Nat:=fun i=>if i∈bs then ho i - 1 else ho i
theorem ZJ6 {bs:List Nat} {b st:Nat} {av:Nat->List Nat} (h:b∉bs):ZNZ (avK bs st av) b st=avK (bs++[b]) st av:=by
 funext i
 unfold ZNZ avK
 by_cases z:i=b
 ·subst z
  rw [if_pos rfl,if_neg h,if_pos (by simp)]
 ·rw [if_neg z]
  by_cases y:i∈bs
  ·rw [if_pos y,if_pos (by simp [y])]
  ·rw [if_neg y,if_neg (by simp [y,z])]
theorem ZGi {bs:List Nat} {b:Nat} {ho:Nat->Nat} (h:b∉bs):ZK8 (hoK bs ho) b=hoK (bs++[b]) ho:=by
 funext i
 unfold ZK8 hoK
 by_cases z:i=b
 ·subst z
  rw [if_pos rfl,if_neg h,if_pos (by simp)]
 ·rw [if_neg z]
  by_cases y:i∈bs
  ·rw [if_pos y,if_pos (by simp [y])]
  ·rw [if_neg y,if_neg (by simp [y,z])]
section
variable {P:Program} {w:World} {K:PySem.W.Frag} {mg:Str->Option Value} {base:Heap} {f:Addr} {fd:FuncData} {CSh CTw:Addr}
abbrev ZDT:Stmt:=ZAq (top 36) 21
def ZCf (CSh CTw:Addr):Sp:=fun vs H Q _=>∃ (S d lk l:Addr) (ts:List Twg) (av:Nat->List Nat) (ho:Nat->Nat) (as:List TwA) (kvs:List (Key×V)) (ls:List V) (bs:List Nat) (st:Nat),vs=[.ref S,.int st,.ref l]∧ShP CSh CTw H S d lk ts av ho as kvs ls∧H l=some (.lst (iN bs))∧bs.Nodup∧(∀ b∈bs,b<ts.length∧1<=ho b∧(av b).length<=900) ∧
 (∀ b:Nat,b<ts.length->l≠(as.getD b .d).ab) ∧
 ∀ H':Hp,(∀ c o,(∀ b:Nat,b<ts.length->c≠(as.getD b .d).x∧c≠(as.getD b .d).ab)->H c=some o->H' c=some o)->(∀ c,H' c=none->H c=none)->ShP CSh CTw H' S d lk ts (avK bs st av) (hoK bs ho) as kvs ls->Q .non H'
abbrev ZI7:List Str:=["self","stem","branches","branch","twig"]
theorem scTakeOver:FnScope ZI7 ["self","stem","branches"] (ZAI ZDT):=⟨rfl,rfl,rfl,by decide +kernel,rfl,by decide +kernel,by decide +kernel⟩
theorem ZGO (F:Fun K "take_over" "Shelf.take_over" ZDT f fd) (L:ShF K mg CSh CTw) (DT:MethOk P w K mg base CX0 1 CSh "twig_of" ["self","number"] (ZBh CSh)):FnOk P w K mg base CX0 2 f fd ["self","stem","branches"] (ZCf CSh CTw):=by
 refine F.ok scTakeOver (fun vs H Q E h=>(by obtain ⟨_,_,_,_,_,_,_,_,_,_,_,_,rfl,_⟩:=h;rfl)) (fun cdv A outer s H vs Q E hr h=>?_)
 obtain ⟨S,d,lk,l,ts,av,ho,as,kvs,ls,bs,st,rfl,R,hl,hnd,hb,hla,k⟩:=h
 have nd:=scTakeOver.nd
 refine ⟨_,ZAH (ZBe PassesOwn.never rfl (ZA5 (pv 2)) (ZAZ (i:=3) nd rfl (Or.inl rfl))
  (ZAD (ZAU (i:=4) nd rfl (Or.inl rfl) (ZAo (E:=E0) (pv 0) L.cS DT hr ZBQ (ZAN (pv 3) ZAC)))
  (ZAD (ZIs (pv 4) ZAF ZM0)
  (ZAH (ZA2 (ZCX PySem.F.plainAttrs_list PySem.F.slot_list_append PySem.F.type_list_append ZAu (ZBG (pv 4) rfl) (ZAN (pv 1) ZAC))))))),?_⟩
 refine ⟨_,rfl,l,rfl,⟨_,SqL.of hl⟩,ZBo (K:=K) (a:=l) (xs:=iN bs) (fun i σ H2=>∃ x y:Option V,σ=[some (.ref S),some (.int st),some (.ref l),x,y]∧(∀ c o,(∀ b:Nat,b<ts.length->c≠(as.getD b .d).x∧c≠(as.getD b .d).ab)->H c=some o->H2 c=some o)∧(∀ c,H2 c=none->H c=none)∧ShP CSh CTw H2 S d lk ts (avK (bs.take i) st av) (hoK (bs.take i) ho) as kvs ls)
  ⟨_,_,rfl,fun c o _ e=>e,fun c e=>e,(by
   have e1:avK [] st av=av:=funext fun i=>if_neg (by simp)
   have e2:hoK [] ho=ho:=funext fun i=>if_neg (by simp)
   rw [show bs.take 0=[] from rfl,e1,e2];exact R)⟩ ?_ ?_ ?_⟩
 ·rintro i σ H2 _ ⟨x,y,rfl,k2,_,R2⟩
  refine SqL.of (k2 _ _ (fun b hb=>⟨?_,hla b hb⟩) hl)
  obtain ⟨dx,hx⟩:=(R.tw b hb).tw.self
  exact ZAJ hl hx (by intro z;cases z)
 ·rintro i u σ H2 hu2 ⟨x,y,rfl,k2,k3,R2⟩
  unfold iN at hu2
  rw [List.getElem?_map] at hu2
  obtain ⟨b,eb,rfl⟩:=Option.map_eq_some_iff.mp hu2
  obtain ⟨hbl,hb1,hb9⟩:=hb b (List.mem_of_getElem? eb)
  have hnb:b∉bs.take i:=fun z=>by
   have hs:bs=bs.take i++b :: bs.drop (i+1):=by
    have hi:=(List.getElem?_eq_some_iff.mp eb)
    obtain ⟨hi,e⟩:=hi
    rw [<-e,<-List.drop_eq_getElem_cons hi,List.take_append_drop]
   rw [hs,List.nodup_append] at hnd
   exact hnd.2.2 b z b (by simp) rfl
  have eho:hoK (bs.take i) ho b=ho b:=if_neg hnb
  have eav:avK (bs.take i) st av b=av b:=if_neg hnb
  obtain ⟨dS,hS⟩:=R2.sh.self
  have Wb:=R2.tw b hbl
  obtain ⟨dt,hx⟩:=Wb.tw.self
  have hab:=Wb.tw.above
  rw [eho] at hx
  rw [eav] at hab
  refine ⟨_,rfl,S,dS,_,rfl,hS,rfl,_,rfl,S,d,lk,ts.length,kvs,ls,(b:Int),.ref (as.getD b .d).x,rfl,R2.sh,R2.val b hbl,?_⟩
  refine ⟨_,rfl,(as.getD b .d).x,CTw,dt,_,.int (ho b:Nat),rfl,hx,L.cT,L.nho,rfl,_,_,rfl,rfl,dt,_,hx,Nat.le_of_ble_eq_true rfl,?_⟩
  have eh:((ho b:Nat):Int) - 1=((ho b - 1:Nat):Int):=by omega
  have hx3:upd H2 (as.getD b .d).x (.ins CTw dt (ZCK "holds" (.int (((ho b:Nat):Int) - 1)) (ZK0 (.ref (as.getD b .d).th) (.ref (as.getD b .d).tg) (as.getD b .d).ab (ho b)))) (as.getD b .d).x=some (.ins CTw dt (ZK0 (.ref (as.getD b .d).th) (.ref (as.getD b .d).tg) (as.getD b .d).ab (ho b - 1))):=by rw [ZAA,eh];rfl
  have xab:(as.getD b .d).ab≠(as.getD b .d).x:=ZAJ hab hx (by intro z;cases z)
  have hab3:upd H2 (as.getD b .d).x (.ins CTw dt (ZCK "holds" (.int (((ho b:Nat):Int) - 1)) (ZK0 (.ref (as.getD b .d).th) (.ref (as.getD b .d).tg) (as.getD b .d).ab (ho b)))) (as.getD b .d).ab=some (.lst (iN (av b))):=by rw [ZAG xab];exact hab
  have ke3:∀ c o,c≠(as.getD b .d).x->H2 c=some o->upd H2 (as.getD b .d).x (.ins CTw dt (ZCK "holds" (.int (((ho b:Nat):Int) - 1)) (ZK0 (.ref (as.getD b .d).th) (.ref (as.getD b .d).tg) (as.getD b .d).ab (ho b)))) c=some o:=fun c o n e=>by rw [ZAG n];exact e
  have no3:∀ c,upd H2 (as.getD b .d).x (.ins CTw dt (ZCK "holds" (.int (((ho b:Nat):Int) - 1)) (ZK0 (.ref (as.getD b .d).th) (.ref (as.getD b .d).tg) (as.getD b .d).ab (ho b)))) c=none->H2 c=none:=fun c e=>by
   by_cases z:c=(as.getD b .d).x
   ·rw [z,ZAA] at e;cases e
   ·rw [ZAG z] at e;exact e
  generalize upd H2 (as.getD b .d).x (.ins CTw dt (ZCK "holds" (.int (((ho b:Nat):Int) - 1)) (ZK0 (.ref (as.getD b .d).th) (.ref (as.getD b .d).tg) (as.getD b .d).ab (ho b))))=H3 at hx3 hab3 ke3 no3 ⊢
  refine ⟨_,rfl,(as.getD b .d).x,CTw,dt,_,.ref (as.getD b .d).ab,rfl,hx3,L.cT,L.nab,rfl,.inl ⟨rfl,_,SqL.of hab3⟩,_,rfl,(as.getD b .d).ab,_,.int st,rfl,rfl,hab3,ZAO (by rw [show (iN (av b)).length=(av b).length from List.length_map _];omega),?_⟩
  have et:bs.take (i+1)=bs.take i++[b]:=by rw [List.take_add_one,eb];rfl
  refine ⟨_,_,rfl,fun c o hc e=>?_,fun c e=>?_,?_⟩
  ·obtain ⟨n1,n2⟩:=hc b hbl
   rw [ZAG n2]
   exact ke3 _ _ n1 (k2 c o hc e)
  ·by_cases z:c=(as.getD b .d).ab
   ·rw [z,ZAA] at e;cases e
   ·rw [ZAG z] at e;exact k3 c (no3 c e)
  ·rw [et,<-ZJ6 hnb,<-ZGi hnb]
   refine R2.touch hbl ⟨dt,?_⟩ ?_ fun c o n1 n2 e=>?_
   ·rw [ZAG (Ne.symm xab),eho];exact hx3
   ·rw [ZAA,eav]
    simp [iN]
   ·rw [ZAG n2];exact ke3 _ _ n1 e
 ·rintro σ H2 ⟨x,y,rfl,k2,k3,R2⟩
  rw [show (iN bs).length=bs.length from List.length_map _,List.take_of_length_le (Nat.le_refl _)] at R2
  exact k H2 k2 k3 R2
end
theorem ZOh {X:Cx} {k:Nat} {C:Addr} {x:Str} {ps:List Str} {sp:Sp} {e:Expr} {es:List Expr} {t:TA} {p pos:Pos} (D:MkOk X.prog X.w X.K X.mg X.base k C ps sp) (hr:Room (k+1) X.A) (hg:Gl X x) (hm:X.mg x=some (.ref C)) (ha:PA X (e :: es) t)
  (hdb:(x==("__debug__" : Str))=false:=by decide) (he:starEach (e :: es) X.env=(false,eval e X.env) :: starEach es X.env:=by rfl) (hpl:(backTo pos (starEach es X.env)).any (·.1)=false:=by rfl) :
  PE X (.Call (.Name x p) (e :: es) [] pos) (ZJx C sp [] E0 t):=by
 obtain ⟨f,fd,M,F,b⟩:=D.ex
 exact ZL1 M F hr hg hm b .nil ZBQ ha hdb he hpl
theorem ZNS {X:Cx} {k:Nat} {C:Addr} {x:Str} {ps:List Str} {sp:Sp} {p pos:Pos} (D:MkOk X.prog X.w X.K X.mg X.base k C ps sp) (hr:Room (k+1) X.A) (hg:Gl X x) (hm:X.mg x=some (.ref C)) (hdb:(x==("__debug__" : Str))=false:=by decide):PE X (.Call (.Name x p) [] [] pos) (ZJx C sp [] E0 ZHO):=by
 obtain ⟨f,fd,M,F,b⟩:=D.ex
 exact ZKU M F hr hg hm b .nil ZBQ hdb
def avP (n:Nat) (av:Nat->List Nat):Nat->List Nat:=fun i=>if i=n then [] else av i
def hoP (n:Nat) (ho:Nat->Nat):Nat->Nat:=fun i=>if i=n then 1 else ho i
theorem ZCD {ts:List Twg} {t:Twg} {i:Nat} (h:i<ts.length):gd (ts++[t]) i=gd ts i:=by
 unfold gd
 rw [List.getD_eq_getElem?_getD,List.getElem?_append_left h,<-List.getD_eq_getElem?_getD]
theorem ZDR {ts:List Twg} {t:Twg}:gd (ts++[t]) ts.length=t:=by
 unfold gd
 rw [List.getD_eq_getElem?_getD,List.getElem?_append_right (Nat.le_refl _)]
 simp
theorem ZF7 {as:List TwA} {a:TwA} {i:Nat} (h:i<as.length):(as++[a]).getD i .d=as.getD i .d:=by
 rw [List.getD_eq_getElem?_getD,List.getElem?_append_left h,<-List.getD_eq_getElem?_getD]
theorem ZJH {as:List TwA} {a:TwA}:(as++[a]).getD as.length .d=a:=by
 rw [List.getD_eq_getElem?_getD,List.getElem?_append_right (Nat.le_refl _)]
 simp
theorem ZGk {CSh CTw:Addr} {H H':Hp} {S d lk:Addr} {ts:List Twg} {av:Nat->List Nat} {ho:Nat->Nat} {as:List TwA} {kvs:List (Key×V)} {ls:List V} (R:ShP CSh CTw H S d lk ts av ho as kvs ls) {t:Twg} {x th tg ab:Addr}
  (fr:∀ b o,b≠S->b≠d->H b=some o->H' b=some o) (nx:H x=none) (nth:H th=none) (nab:H ab=none) (abth:ab≠th) (R':ShAt CSh H' S d lk (ts.length+1) (ZBS kvs (.inl (ts.length:Int)) (.ref x)) ls) (W:TwAt CTw H' x (.ref th) (.ref tg) ab 1 [])
  (hth:∃ us,H' th=some (.lst us)∧(t.h=0->KeysAt H' (ZBA t.rows) us)∧(t.h≠0->us=iN t.bs)) (htg:LabAt H' (ZA1 t) (.ref tg)) :
  ShP CSh CTw H' S d lk (ts++[t]) (avP ts.length av) (hoP ts.length ho) (as++[⟨x,th,tg,ab⟩]) (ZBS kvs (.inl (ts.length:Int)) (.ref x)) ls:=by
 obtain ⟨⟨dS,hS⟩,hd,hl⟩:=R.sh
 have m:ZBn H H':=fun c xs e=>fr c _ (ZAJ e hS (by intro z;cases z)) (ZAJ e hd (by intro z;cases z)) e
 have en:(ts++[t]).length=ts.length+1:=by simp
 have nv:ZBj kvs (Sum.inl (ts.length:Int))=none:=R.none (by unfold inT;exact decide_eq_false (by omega))
 have lt_or:∀ i,i<(ts++[t]).length->i<ts.length∨i=ts.length:=fun i hi=>by rw [en] at hi;omega
 have el:as.length=ts.length:=R.len
 have aL:∀ i,i<ts.length->(as++[(⟨x,th,tg,ab⟩:TwA)]).getD i .d=as.getD i .d:=fun i hi=>ZF7 (by omega)
 have aN:(as++[(⟨x,th,tg,ab⟩:TwA)]).getD ts.length .d=⟨x,th,tg,ab⟩:=by rw [<-el];exact ZJH
 have old:∀ i,i<ts.length->∃ dx us o,H (as.getD i .d).x=some (.ins CTw dx us)∧H (as.getD i .d).th=some (.lst o)∧H (as.getD i .d).ab=some (.lst (iN (av i))):=fun i hi=>by
  obtain ⟨dx,e1⟩:=(R.tw i hi).tw.self
  obtain ⟨us,e2,_⟩:=(R.tw i hi).things
  exact ⟨dx,_,us,e1,e2,(R.tw i hi).tw.above⟩
 have nS:x≠S:=(ZAB hS nx).symm
 have ablk:ab≠lk:=(ZAB hl nab).symm
 have thlk:th≠lk:=(ZAB hl nth).symm
 refine ⟨by rw [en];exact R',?_,fun i hi=>?_,by simp [el],fun i hi=>?_,fun i hi=>?_,fun i j hi hj hij=>?_⟩
 ·rw [ZGb _ nv,List.map_append,R.keys,en,List.range_succ,List.map_append]
  rfl
 ·rw [ZCQ]
  rcases lt_or i hi with c | rfl
  ·rw [if_neg (fun z=>by have:=Sum.inl.inj z;omega),aL i c]
   exact R.val i c
  ·rw [if_pos rfl,aN]
 ·rcases lt_or i hi with c | rfl
  ·have Wi:=R.tw i c
   obtain ⟨dx,us,o,e1,e2,e3⟩:=old i c
   have ni:i≠ts.length:=by omega
   have G:=Wi.frame m (fun o' e=>fr _ _ (R.own i c).1 (ZAJ e1 hd (by intro z;cases z)) e) (fun o' e=>fr _ _ (ZAJ e2 hS (by intro z;cases z)) (ZAJ e2 hd (by intro z;cases z)) e) (fun o' e=>fr _ _ (ZAJ e3 hS (by intro z;cases z)) (ZAJ e3 hd (by intro z;cases z)) e)
   rw [aL i c]
   refine ⟨?_,?_,?_⟩
   ·rw [show avP ts.length av i=av i from if_neg ni,show hoP ts.length ho i=ho i from if_neg ni];exact G.tw
   ·rw [ZCD c];exact G.things
   ·rw [ZCD c];exact G.tag
  ·rw [aN]
   refine ⟨?_,?_,?_⟩
   ·rw [show avP ts.length av ts.length=[] from if_pos rfl,show hoP ts.length ho ts.length=1 from if_pos rfl];exact W
   ·rw [ZDR];exact hth
   ·rw [ZDR];exact htg
 ·rcases lt_or i hi with c | rfl
  ·rw [aL i c];exact R.own i c
  ·rw [aN];exact ⟨nS,ablk,thlk,abth⟩
 ·rcases lt_or i hi with c | rfl
  ·rw [aL i c]
   rcases lt_or j hj with c2 | rfl
   ·rw [aL j c2];exact R.two i j c c2 hij
   ·rw [aN]
    obtain ⟨dx,us,o,e1,e2,e3⟩:=old i c
    exact ⟨ZAB e1 nx,ZAB e3 nab,ZAB e3 nth,ZAB e2 nth⟩
  ·rw [aN]
   rcases lt_or j hj with c2 | rfl
   ·rw [aL j c2]
    obtain ⟨dx,us,o,e1,e2,e3⟩:=old j c2
    exact ⟨(ZAB e1 nx).symm,(ZAB e3 nab).symm,(ZAB e2 nab).symm,(ZAB e2 nth).symm⟩
   ·exact absurd rfl hij
section
variable {P:Program} {w:World} {K:PySem.W.Frag} {mg:Str->Option Value} {base:Heap} {f:Addr} {fd:FuncData} {CSh CTw:Addr}
def ZCL (CSh CTw:Addr):Sp:=fun vs H Q _=>∃ (S d lk:Addr) (n:Nat) (kvs:List (Key×V)) (ls:List V) (th tg:V),vs=[.ref S,th,tg]∧ShAt CSh H S d lk n kvs ls∧kvs.length<=900 ∧
 ∀ (H':Hp) (x ab:Addr),H x=none->H ab=none->(∀ b o,b≠S->b≠d->H b=some o->H' b=some o)->ShAt CSh H' S d lk (n+1) (ZBS kvs (.inl (n:Int)) (.ref x)) ls->TwAt CTw H' x th tg ab 1 []->Q (.int (n:Int)) H'
theorem scPutTwig:FnScope ["self","things","label","number"] ["self","things","label"] (ZAI ZEc):=⟨rfl,rfl,rfl,by decide +kernel,rfl,by decide +kernel,by decide +kernel⟩
theorem ZHJ (F:Fun K "put_twig" "Shelf.put_twig" ZEc f fd) (L:ShF K mg CSh CTw) (DM:MkOk P w K mg base 1 CTw ["self","things","tag"] (ZMS CTw)):FnOk P w K mg base CX0 3 f fd ["self","things","label"] (ZCL CSh CTw):=by
 refine F.ok scPutTwig (fun vs H Q E h=>(by obtain ⟨_,_,_,_,_,_,_,_,rfl,_⟩:=h;rfl)) (fun cdv A outer s H vs Q E hr h=>?_)
 obtain ⟨S,d,lk,n,kvs,ls,th,tg,rfl,R,l100,k⟩:=h
 have nd:=scPutTwig.nd
 have hu:=ZCW hr
 refine ⟨_,ZAD (ZAU (i:=3) nd rfl (Or.inl rfl) (ZBG (pv 0) rfl)) (ZAD (ZCR (pv 0) (ZAb ZBE (pv 3) ZAF) rfl)
  (ZAD (ZCu hu (ZBG (pv 0) rfl) (pv 3) (ZOh DM hr rfl L.twig (ZAN (pv 1) (ZAN (pv 2) ZAC))) rfl) (ZAH (ZAQ (pv 3))))),?_⟩
 obtain ⟨⟨dx,hS⟩,hd,hl⟩:=R
 have Sd:S≠d:=ZAJ hS hd (by intro z;cases z)
 have Sl:S≠lk:=ZAJ hS hl (by intro z;cases z)
 have dl:d≠lk:=ZAJ hd hl (by intro z;cases z)
 refine ⟨_,rfl,S,CSh,dx,_,.int n,rfl,hS,L.cS,L.nf,rfl,?_⟩
 refine ⟨_,rfl,_,_,rfl,rfl,_,rfl,S,CSh,dx,_,rfl,hS,L.cS,L.nf,Nat.le_of_ble_eq_true rfl,?_⟩
 have hS1:upd H S (.ins CSh dx (ZCK "following" (.int ((n:Int)+1)) (ZJi d lk n))) S=some (.ins CSh dx (ZJi d lk (n+1))):=ZAA
 have hd1:upd H S (.ins CSh dx (ZCK "following" (.int ((n:Int)+1)) (ZJi d lk n))) d=some (.dK kvs):=by rw [ZAG (Ne.symm Sd)];exact hd
 have hl1:upd H S (.ins CSh dx (ZCK "following" (.int ((n:Int)+1)) (ZJi d lk n))) lk=some (.lst ls):=by rw [ZAG (Ne.symm Sl)];exact hl
 have ke1:∀ b o,b≠S->H b=some o->upd H S (.ins CSh dx (ZCK "following" (.int ((n:Int)+1)) (ZJi d lk n))) b=some o:=fun b o n e=>by rw [ZAG n];exact e
 have no1:∀ b,upd H S (.ins CSh dx (ZCK "following" (.int ((n:Int)+1)) (ZJi d lk n))) b=none->H b=none:=fun b e=>by
  by_cases z:b=S
  ·rw [z,ZAA] at e;cases e
  ·rw [ZAG z] at e;exact e
 generalize upd H S (.ins CSh dx (ZCK "following" (.int ((n:Int)+1)) (ZJi d lk n)))=H1 at hS1 hd1 hl1 ke1 no1 ⊢
 refine ⟨_,rfl,_,rfl,fun x dt nx ndt ne=>?_⟩
 have g1:=ZAE ndt (.own x)
 have nx2:upd H1 dt (.own x) x=none:=by rw [ZAG (Ne.symm ne)];exact nx
 have g2:=ZAE nx2 (.ins CTw dt [])
 have g:=g1.trans g2
 refine ⟨x,dt,th,tg,rfl,ZAA,fun H2 ab ke2 nab W=>⟨rfl,?_⟩⟩
 have fr:∀ b o,H1 b=some o->H2 b=some o:=fun b o e=>ke2 b o (ZAB e nx) (g b o e)
 have hS2:=fr _ _ hS1
 have hd2:=fr _ _ hd1
 have hl2:=fr _ _ hl1
 have hab1:H1 ab=none:=g.free nab
 obtain ⟨dx2,hx2⟩:=W.self
 have xd:x≠d:=ZAJ hx2 hd2 (by intro z;cases z)
 have abd:ab≠d:=ZAJ W.above hd2 (by intro z;cases z)
 refine ⟨_,rfl,S,CSh,dx,_,.ref d,rfl,hS2,L.cS,L.nk,rfl,_,rfl,d,_,rfl,DPut.k (k:=Sum.inl (n:Int)) hd2 (ZAO (by omega)),?_⟩
 refine ⟨_,rfl,k _ x ab (no1 _ nx) (no1 _ hab1) (fun b o n1 n2 e=>?_) ⟨⟨dx,?_⟩,ZAA,?_⟩ ⟨⟨dx2,?_⟩,?_⟩⟩
 ·rw [ZAG n2];exact fr b o (ke1 b o n1 e)
 ·rw [ZAG Sd];exact hS2
 ·rw [ZAG (Ne.symm dl)];exact hl2
 ·rw [ZAG xd];exact hx2
 ·rw [ZAG abd];exact W.above
end
end Tw
namespace Tw
open PySem PySem.Spec L2
section
variable {P:Program} {w:World} {K:PySem.W.Frag} {mg:Str->Option Value} {base:Heap} {f:Addr} {fd:FuncData}
theorem ZOL:FnScope ["number"] ["number"] (ZAI ZOo):=⟨rfl,rfl,rfl,by decide +kernel,rfl,by decide +kernel,by decide +kernel⟩
theorem ZMz (F:Fun K "has_few_figures" "has_few_figures" ZOo f fd) (T:Txt mg):FnOk P w K mg base CX0 1 f fd ["number"] ZKb:=by
 refine F.ok ZOL (fun vs H Q E h=>?_) (fun cdv A outer s H vs Q E hr h=>?_)
 ·obtain ⟨i,rfl,_⟩:=h
  rfl
 obtain ⟨i,rfl,q⟩:=h
 refine ⟨_,ZAH (ZAQ (ZBB ZHG (ZAK ZEy rfl T.abs ZHo (ZAL (pv 0) ZAC)) (ZAb ZKx ZAF ZAF) (ZAW _))),?_⟩
 refine ⟨_,rfl,_,rfl,_,_,rfl,rfl,⟨by decide,by decide,by decide⟩,_,_,rfl,rfl,?_⟩
 have e:=ZN0 i
 rw [<-e] at q
 exact q
theorem ZNc:FnScope ["sign"] ["sign"] (ZAI ZLn):=⟨rfl,rfl,rfl,by decide +kernel,rfl,by decide +kernel,by decide +kernel⟩
theorem ZLh (F:Fun K "is_sign" "is_sign" ZLn f fd):FnOk P w K mg base CX0 1 f fd ["sign"] ZGv:=by
 refine F.ok ZNc (fun vs H Q E h=>?_) (fun cdv A outer s H vs Q E hr h=>?_)
 ·obtain ⟨c,rfl,_⟩:=h
  rfl
 obtain ⟨c,rfl,q⟩:=h
 refine ⟨_,ZAH (ZAQ (ZJj ZE7 ZE7 ZAl (pv 0) ZAl)),?_⟩
 have e1:(Str.ofString " ").cps.toList=[32]:=by decide +kernel
 have e2:(Str.ofString "~").cps.toList=[126]:=by decide +kernel
 have e:=ZKj c
 refine ⟨_,rfl,_,_,rfl,rfl,_,rfl,?_⟩
 refine ZFO (fun h1=>?_) (fun h1=>?_)
 ·refine ⟨_,_,rfl,rfl,?_⟩
  have h1':(!decide ([c]<[32]))=true:=by rw [<-e1];exact h1
  rw [h1',Bool.true_and] at e
  rw [<-e,<-e2] at q
  exact q
 ·have h1':(!decide ([c]<[32]))=false:=by rw [<-e1];exact Bool.eq_false_iff.mpr h1
  rw [h1',Bool.false_and] at e
  rw [<-e] at q
  exact q
theorem ZNC:FnScope ["thing","room"] ["thing","room"] (ZAI ZKB):=⟨rfl,rfl,rfl,by decide +kernel,rfl,by decide +kernel,by decide +kernel⟩
theorem ZHy {k:Nat}:FnOk P w K mg base CX0 k f fd ["thing","room"] (ZD5 0):=by
 have no:∀ vs H Q E,¬ ZD5 0 vs H Q E:=fun vs H Q E h=>by
  obtain ⟨v,t,r,q,_,_,_,h1,_⟩:=h
  omega
 exact ⟨fun vs H Q E h=>absurd h (no vs H Q E),fun A outer s H args us vs Q E _ _ _ _ h=>absurd h (no vs H Q E)⟩
theorem ZLc {n:Nat} (F:Fun K "fits" "fits" ZKB f fd) (T:Txt mg) (DW:DefOk P w K mg base 1 "has_few_figures" ["number"] ZKb) (DS:DefOk P w K mg base 1 "is_sign" ["sign"] ZGv)
  (DF:DefOk P w K mg base (n+1) "fits" ["thing","room"] (ZD5 n)):FnOk P w K mg base CX0 (n+2) f fd ["thing","room"] (ZD5 (n+1)):=by
 refine F.ok ZNC (fun vs H Q E h=>?_) (fun cdv A outer s H vs Q E hr h=>?_)
 ·obtain ⟨v,t,r,q,rfl,_⟩:=h
  rfl
 obtain ⟨v,t,r,q,rfl,hv,hq,hn,k⟩:=h
 have hr1:=hr.mono (show 1<=n+1 by omega)
 obtain ⟨t1,m1⟩:=T.signs
 obtain ⟨t2,m2⟩:=T.things
 refine ⟨_,ZAD (ZAf (ZAg (ZAK ZAY rfl T.isi ZAM (ZAL (pv 0) (ZAL (ZAi (v:=.ty "bool") rfl T.bool ZCj rfl) ZAC)))) (ZAH (ZAQ ZDQ)) ZAR)
  (ZAD (ZAf (ZAg (ZAK ZAY rfl T.isi ZAM (ZAL (pv 0) (ZAL (ZAi (v:=.ty "int") rfl T.int ZCN rfl) ZAC)))) (ZAH (ZAQ (ZAT DW hr1 (ZAL (pv 0) ZAC)))) ZAR)
  (ZAD (ZAf (ZAg (ZAK ZAY rfl T.isi ZAM (ZAL (pv 0) (ZAL (ZAi (v:=.ty "str") rfl T.str ZE3 rfl) ZAC))))
   (ZAH (ZAQ (ZCB (ZBB ZDt (ZAK ZFL rfl T.len ZAv (ZAL (pv 0) ZAC)) (ZAr (v:=.int 40) rfl m1 ⟨_,rfl⟩) (ZAW _))
    (ZDI (ZAK (ZG1 rfl) rfl T.all ZGz (ZAL (ZBk [] [] rfl (ZNu (pv 0)) (fun _ _ _ _ _=>ZBM) (fun _ _ _ _ _=>ZAT DS hr1 (ZAL (pv 0) ZAC)) trivial) ZAC)))))) ZAR)
  (ZAD (ZAf (ZAg (ZAK ZAY rfl T.isi ZAM (ZAL (pv 0) (ZAL (ZAi (v:=.ty "tuple") rfl T.tuple ZBO rfl) ZAC))))
   (ZAH (ZAQ (ZCB (ZBB ZGI (pv 1) ZAF (ZAW _)) (ZCB (ZBB ZDt (ZAK ZAS rfl T.len ZAv (ZAL (pv 0) ZAC)) (ZAr (v:=.int 4) rfl m2 ⟨_,rfl⟩) (ZAW _))
    (ZDI (ZAK (ZG1 rfl) rfl T.all ZGz (ZAL (ZBk [1] ["room"] rfl (ZHu (pv 0)) (fun _ _ _ _ _=>ZBM) (fun _ _ _ _ _=>ZAT DF hr (ZAL (pv 0) (ZAL (ZAb ZCV (pv 1) ZAF) ZAC))) ⟨rfl,.inl rfl,rfl,trivial⟩) ZAC))))))) ZAR)
  (ZAH (ZAQ ZDQ))))),?_⟩
 cases t with
 | int i=>
  have ev:v=.int i:=by rw [KeyAt] at hv;exact hv
  subst ev
  refine ⟨_,rfl,_,_,_,_,rfl,hv.ty,ZFD,_,rfl,ZAz ?_⟩
  refine ⟨_,rfl,_,_,_,_,rfl,hv.ty,ZDE,_,rfl,ZBb ?_⟩
  have kk:=k H (Same.refl H)
  rw [KT.fits] at kk
  exact ⟨_,rfl,i,rfl,kk⟩
 | str x=>
  have ev:v=.str x:=by rw [KeyAt] at hv;exact hv
  subst ev
  have hx:ZDb x=true:=by rw [KT.fits] at hq;exact hq
  have hxs:=hx
  unfold ZDb at hxs
  rw [Bool.and_eq_true] at hxs
  have hlen:x.length<=40:=of_decide_eq_true hxs.1
  refine ⟨_,rfl,_,_,_,_,rfl,hv.ty,ZNy,_,rfl,ZAz ?_⟩
  refine ⟨_,rfl,_,_,_,_,rfl,hv.ty,ZHw,_,rfl,ZAz ?_⟩
  refine ⟨_,rfl,_,_,_,_,rfl,hv.ty,ZFc,_,rfl,ZBb ?_⟩
  refine ⟨_,rfl,x,rfl,nn (by omega),_,_,rfl,rfl,_,rfl,?_⟩
  rw [if_pos (decide_eq_true (show (x.length:Int)<=40 by omega))]
  refine ⟨_,rfl,x,rfl,?_⟩
  have hsz:x.cps.size<=40:=hlen
  refine ZA3 (n:=x.cps.size) (fun i z=>∃ c,x.cps[i]? = some c∧z=.str ⟨#[c]⟩) (fun D i ys H3=>Same H H3∧H D=none∧ys=((x.cps.toList.take i).map ZBw).map V.bl) (ZAO (by omega))
   (fun D i ys H3 hi _=>hi) (fun D i ys H3 z H4 hi _ hy=>hy) (fun D ys H3 _=>rfl) (fun D hD=>⟨ZAE hD _,hD,rfl⟩) (fun D i ys H3 z eD hl hi hz hP R hR=>?_) (fun D ys H3 eD hP=>?_)
  ·obtain ⟨c,hc,rfl⟩:=hz
   obtain ⟨s3,nD,rfl⟩:=hP
   refine ⟨_,rfl,c,rfl,?_⟩
   refine hR _ H3 eD ⟨fun b o e=>by rw [ZAG (ZAB e nD)];exact s3 b o e,nD,?_⟩
   have hc':x.cps.toList[i]? = some c:=by simpa using hc
   rw [List.take_add_one,hc']
   simp
  ·obtain ⟨s3,nD,rfl⟩:=hP
   refine ⟨D,_,rfl,SqL.of eD,?_⟩
   have kk:=k H3 s3
   rw [KT.fits,hx] at kk
   have et:(x.cps.toList.take x.cps.size)=x.cps.toList:=List.take_of_length_le (by simp)
   rw [et]
   have ea:(x.cps.toList.map ZBw).all id=true:=by rw [List.all_map];exact hxs.2
   rw [ea]
   exact kk
 | tup l=>
  have hv':=hv
  rw [KeyAt] at hv'
  obtain ⟨a,vs,rfl,ea,hvs⟩:=hv'
  have hl:=hvs.length
  rw [KT.fits,Bool.and_eq_true,Bool.and_eq_true] at hq
  obtain ⟨hq0,hq1,hq2⟩:=hq
  have hl4:l.length<=4:=of_decide_eq_true hq1
  refine ⟨_,rfl,_,_,_,_,rfl,hv.ty,ZNJ,_,rfl,ZAz ?_⟩
  refine ⟨_,rfl,_,_,_,_,rfl,hv.ty,ZH4,_,rfl,ZAz ?_⟩
  refine ⟨_,rfl,_,_,_,_,rfl,hv.ty,ZIS,_,rfl,ZAz ?_⟩
  refine ⟨_,rfl,_,_,_,_,rfl,hv.ty,ZG6,_,rfl,ZBb ?_⟩
  refine ⟨_,rfl,_,_,rfl,rfl,_,rfl,?_⟩
  refine ZFO (fun c1=>?_) (fun c1=>?_)
  ·have r0:0<r:=by
    have:=of_decide_eq_true c1
    omega
   refine ⟨_,rfl,a,vs,rfl,.inr (SqT.of ea),_,_,rfl,rfl,_,rfl,?_⟩
   rw [if_pos (decide_eq_true (show ((vs.length:Nat):Int)<=4 by omega))]
   refine ⟨_,rfl,a,rfl,⟨vs,SqT.of ea⟩,?_⟩
   refine ZA3 (n:=vs.length) (fun i z=>vs[i]? = some z) (fun D i ys H3=>Same H H3∧H D=none∧ys=((l.take i).map fun t=>t.fits (r - 1)).map V.bl) (ZAO (by omega))
    (fun D i ys H3 hi hP=>⟨vs,vs[i],SqT.of (hP.1 _ _ ea),by simp [hi]⟩) (fun D i ys H3 z H4 hi hP hy=>⟨hy.1,hy.2 vs (SqT.of (hP.1 _ _ ea))⟩) (fun D ys H3 hP=>⟨vs,SqT.of (hP.1 _ _ ea),Nat.le_refl _⟩)
    (fun D hD=>⟨ZAE hD _,hD,rfl⟩) (fun D i ys H3 z eD hl' hi hz hP R hR=>?_) (fun D ys H3 eD hP=>?_)
   ·obtain ⟨s3,nD,rfl⟩:=hP
    obtain ⟨t,et,kt⟩:=hvs.get hz
    have er:(r:Int) - 1=((r - 1:Nat):Int):=by omega
    have htq:t.fits (q - 1)=true:=by
     rw [ZB1] at hq2
     exact List.all_eq_true.mp hq2 t (List.mem_of_getElem? et)
    refine ⟨_,rfl,_,rfl,_,_,rfl,rfl,z,t,r - 1,q - 1,congrArg (fun y=>[z,V.int y]) er,kt.mono (Same.tups s3) _ _,htq,by omega,fun H4 s4=>?_⟩
    refine hR _ H4 (s4 D _ eD) ⟨fun b o e=>by rw [ZAG (ZAB e nD)];exact s4 b o (s3 b o e),nD,?_⟩
    rw [List.take_add_one,et]
    simp
   ·obtain ⟨s3,nD,rfl⟩:=hP
    refine ⟨D,_,rfl,SqL.of eD,?_⟩
    have kk:=k H3 s3
    rw [KT.fits,decide_eq_true r0,Bool.true_and,hq1,Bool.true_and,ZB1] at kk
    have et:l.take vs.length=l:=List.take_of_length_le (by omega)
    rw [et,List.all_map]
    exact kk
  ·have r0:r=0:=by
    have:¬ ((0:Int)<(r:Int)):=fun z=>c1 (decide_eq_true z)
    omega
   subst r0
   have kk:=k H (Same.refl H)
   rw [KT.fits] at kk
   exact kk
theorem ZLN:FnScope ["thing"] ["thing"] (ZAI ZHs):=⟨rfl,rfl,rfl,by decide +kernel,rfl,by decide +kernel,by decide +kernel⟩
theorem ZKJ (F:Fun K "is_key" "is_key" ZHs f fd) (T:Txt mg) (DF:DefOk P w K mg base 5 "fits" ["thing","room"] (ZD5 4)):FnOk P w K mg base CX0 6 f fd ["thing"] ZFy:=by
 refine F.ok ZLN (fun vs H Q E h=>?_) (fun cdv A outer s H vs Q E hr h=>?_)
 ·obtain ⟨v,t,q,rfl,_⟩:=h
  rfl
 obtain ⟨v,t,q,rfl,hv,hq,k⟩:=h
 obtain ⟨t1,m1⟩:=T.deep
 refine ⟨_,ZAH (ZAQ (ZAT DF hr (ZAL (pv 0) (ZAL (ZAr (v:=.int 3) rfl m1 ⟨_,rfl⟩) ZAC)))),?_⟩
 exact ⟨_,rfl,v,t,3,q,rfl,hv,hq,by decide,k⟩
theorem ZHF (T:Txt mg) (L:Laid K mg "fits" ZKB ["thing","room"]) (DW:DefOk P w K mg base 1 "has_few_figures" ["number"] ZKb) (DS:DefOk P w K mg base 1 "is_sign" ["sign"] ZGv):∀ n:Nat,DefOk P w K mg base (n+1) "fits" ["thing","room"] (ZD5 n)
 | 0=>L.of fun _ _ _=>ZHy
 | n+1=>L.of fun _ _ F=>ZLc F T DW DS (ZHF T L DW DS n)
end
end Tw
namespace Tw
open PySem PySem.Spec L2 PyProof.Rows
theorem ZI8 {H:Hp} {rs:List Row} {us:List V} (h:KeysAt H (ZBA rs) us):ZKy H (rs.map (·.1)) us:=by
 have hl:us.length=rs.length:=by have:=h.length;rw [<-this];exact List.length_map _
 refine ⟨by rw [List.length_map];exact hl,fun i u e=>?_⟩
 obtain ⟨a,vk,vv,er,e1,e2,k1,_⟩:=ZFY h e
 refine ⟨a,vk,vv,e1,e2,?_⟩
 rw [List.getD_eq_getElem?_getD,List.getElem?_map,er]
 exact k1
section
variable {P:Program} {w:World} {K:PySem.W.Frag} {mg:Str->Option Value} {base:Heap} {f:Addr} {fd:FuncData} {CSh CTw:Addr}
def ZMr:Sp:=fun vs H Q _=>∃ (v:V) (t:KT),vs=[v]∧KeyAt H t v∧t.fits 3=true∧∀ H',Same H H'->Q v H'
theorem ZII:FnScope ["thing"] ["thing"] (ZAI ZEn):=⟨rfl,rfl,rfl,by decide +kernel,rfl,by decide +kernel,by decide +kernel⟩
theorem ZHM (F:Fun K "checked" "checked" ZEn f fd) (DI:DefOk P w K mg base 6 "is_key" ["thing"] ZFy):FnOk P w K mg base CX0 7 f fd ["thing"] ZMr:=by
 refine F.ok ZII (fun vs H Q E h=>(by obtain ⟨_,_,rfl,_⟩:=h;rfl)) (fun cdv A outer s H vs Q E hr h=>?_)
 obtain ⟨v,t,rfl,hv,hf,k⟩:=h
 refine ⟨_,ZAD (ZAf (ZAy (ZAg (ZAT DI hr (ZAN (pv 0) ZAC)))) ZAd ZAR) (ZAH (ZAQ (pv 0))),?_⟩
 refine ⟨_,rfl,v,t,3,rfl,hv,hf,fun H1 s1=>⟨_,rfl,?_⟩⟩
 rw [hf]
 exact ZAz ⟨_,rfl,k H1 s1⟩
def ZDY:Sp:=fun vs H Q _=>∃ (l:Addr) (us:List V) (rs:List Row),vs=[.ref l]∧H l=some (.lst us)∧KeysAt H (ZBA rs) us∧(∀ r∈rs,r.fit)∧us.length<=100 ∧
 ∀ (H':Hp) (l':Addr) (us':List V),Same H H'->H l'=none->H' l'=some (.lst us')->KeysAt H' (ZBA rs) us'->Q (.ref l') H'
theorem ZIB:FnScope ["rows"] ["rows"] (ZAI ZEV):=⟨rfl,rfl,rfl,by decide +kernel,rfl,by decide +kernel,by decide +kernel⟩
theorem ZHY (F:Fun K "own_rows" "own_rows" ZEV f fd) (DC:DefOk P w K mg base 7 "checked" ["thing"] ZMr):FnOk P w K mg base CX0 8 f fd ["rows"] ZDY:=by
 refine F.ok ZIB (fun vs H Q E h=>(by obtain ⟨_,_,_,rfl,_⟩:=h;rfl)) (fun cdv A outer s H vs Q E hr h=>?_)
 obtain ⟨l,us,rs,rfl,hl,hk,hf,h100,k⟩:=h
 have lk:us.length=rs.length:=by have:=hk.length;rw [<-this];exact List.length_map _
 refine ⟨_,ZAH (ZAQ (ZBk [] [] rfl (ZA5 (pv 0)) (fun _ _ _ _ _=>ZBM)
   (fun _ _ _ _ _=>ZAk (ZAN (ZAT DC hr (ZAN (ZAV (r:=rIx K) ZAP (pv 0) ZAF (fun _ _=>rfl)) ZAC)) (ZAN (ZAT DC hr (ZAN (ZAV (r:=rIx K) ZAP (pv 0) ZAF (fun _ _=>rfl)) ZAC)) ZAC))) trivial)),?_⟩
 refine ⟨_,rfl,l,rfl,⟨us,SqL.of hl⟩,?_⟩
 refine ZA3 (n:=us.length) (fun i z=>us[i]? = some z) (fun D i ys H3=>Same H H3∧H D=none∧KeysAt H3 (ZBA (rs.take i)) ys) (ZAO (by omega))
  (fun D i ys H3 hi hP=>⟨us,us[i],SqL.of (hP.1 _ _ hl),by simp [hi]⟩) (fun D i ys H3 z H4 hi hP hy=>⟨hy.1,hy.2 us (SqL.of (hP.1 _ _ hl))⟩) (fun D ys H3 hP=>⟨us,SqL.of (hP.1 _ _ hl),Nat.le_refl _⟩)
  (fun D hD=>⟨ZAE hD _,hD,.nil⟩) (fun D i ys H3 z eD hl' hi hz hP R hR=>?_) (fun D ys H3 eD hP=>?_)
 ·obtain ⟨s3,nD,hys⟩:=hP
  obtain ⟨a,vk,vv,er,rfl,e2,k1,k2⟩:=ZFY hk hz
  have e3:=s3 _ _ e2
  have hfit:=hf _ (List.mem_of_getElem? er)
  refine ⟨_,rfl,.inr (.inl ⟨a,_,_,vk,rfl,rfl,SqT.of e3,rfl,vk,_,rfl,k1.mono (Same.tups s3) _ _,hfit.1,fun H4 s4=>?_⟩)⟩
  refine ⟨_,rfl,.inr (.inl ⟨a,_,_,vv,rfl,rfl,SqT.of (s4 _ _ e3),rfl,vv,_,rfl,k2.mono (Same.tups (s3.trans s4)) _ _,hfit.2,fun H5 s5=>?_⟩)⟩
  refine ⟨nn (Nat.le_of_ble_eq_true rfl),fun q hq=>?_⟩
  have g:=ZAE hq (.tup [vk,vv])
  have s36:=(s4.trans s5).trans g
  have eD6:=s36 _ _ eD
  have tD:ZBn (upd H5 q (.tup [vk,vv])) (upd (upd H5 q (.tup [vk,vv])) D (.lst (ys++[.ref q]))):=fun b xs e=>by rw [ZAG (ZAJ e eD6 (by intro z;cases z))];exact e
  refine hR _ _ eD6 ⟨ZBK (s3.trans s36) nD,nD,?_⟩
  rw [List.take_add_one,er,ZE5]
  refine ((hys.mono (Same.tups s36) _ _).mono tD _ _).append (.cons (.tup (tD _ _ ZAA) (.cons ?_ (.cons ?_ .nil))) .nil)
  ·exact (k1.mono (Same.tups (s3.trans s36)) _ _).mono tD _ _
  ·exact (k2.mono (Same.tups (s3.trans s36)) _ _).mono tD _ _
 ·obtain ⟨s3,nD,hys⟩:=hP
  rw [List.take_of_length_le (by omega)] at hys
  exact k H3 D ys s3 nD eD hys
def ZGL:Sp:=fun vs H Q _=>∃ (l:Addr) (us:List V) (ks:List KT),vs=[.ref l]∧H l=some (.lst us)∧KeysAt H ks us∧(∀ t∈ks,t.fits 3=true)∧us.length<=100∧ks.Pairwise (fun a b=>a.lt b=true)∧∀ H',Same H H'->Q (.bl true) H'
theorem ZNd:FnScope ["keys"] ["keys"] (ZAI ZMB):=⟨rfl,rfl,rfl,by decide +kernel,rfl,by decide +kernel,by decide +kernel⟩
theorem ZF9 {α:Type} {R:α->α->Prop}:∀ {l:List α},l.Pairwise R->∀ {i j:Nat} {a b:α},i<j->l[i]? = some a->l[j]? = some b->R a b
 | [],_,_,_,_,_,_,h,_=>by simp at h
 | x :: l,hp,0,j+1,a,b,_,ha,hb=>by
  simp at ha hb
  subst ha
  exact (List.pairwise_cons.mp hp).1 b (List.mem_of_getElem? hb)
 | x :: l,hp,i+1,j+1,a,b,hij,ha,hb=>by
  simp at ha hb
  exact ZF9 (List.pairwise_cons.mp hp).2 (by omega) ha hb
theorem ZMT (F:Fun K "rise" "rise" ZMB f fd) (T:Txt mg) (DA:DefOk P w K mg base 7 "ahead" ["one","other"] ZCH):FnOk P w K mg base CX0 8 f fd ["keys"] ZGL:=by
 refine F.ok ZNd (fun vs H Q E h=>(by obtain ⟨_,_,_,rfl,_⟩:=h;rfl)) (fun cdv A outer s H vs Q E hr h=>?_)
 obtain ⟨l,us,ks,rfl,hl,hk,hf,h100,hup,k⟩:=h
 have lk:=hk.length
 refine ⟨_,ZAH (ZAQ (ZAK (ZG1 rfl) rfl T.all ZGz (ZAN (ZBk [0] ["keys"] rfl (ZCb rfl T.range (ZAN ZAF (ZAN (ZAK ZAS rfl T.len ZAv (ZAN (pv 0) ZAC)) ZAC))) (fun _ _ _ _ _=>ZBM)
  (fun _ _ _ _ _=>ZAT DA hr (ZAN (ZAV (r:=rIx K) ZAP (pv 1) (ZAb ZCV (pv 0) ZAF) (fun _ _=>rfl)) (ZAN (ZAV (r:=rIx K) ZAP (pv 1) (pv 0) (fun _ _=>rfl)) ZAC))) ⟨rfl,.inl rfl,rfl,trivial⟩) ZAC))),?_⟩
 refine ⟨_,rfl,l,us,rfl,.inl (SqL.of hl),1,(us.length:Int),rfl,⟨by omega,by omega,by omega,by omega⟩,?_⟩
 refine ZA3 (n:=((us.length:Int) - 1).toNat) (fun i x=>x=.int (1+(i:Int))) (fun D i ys H3=>Same H H3∧H D=none∧ys=(List.replicate i true).map V.bl) (ZAO (by omega))
  (fun D i ys H3 hi _=>hi) (fun D i ys H3 x H4 hi _ hy=>hy) (fun D ys H3 _=>Nat.le_refl _) (fun D hD=>⟨ZAE hD _,hD,rfl⟩) (fun D i ys H3 x eD hl' hi hx hP R hR=>?_) (fun D ys H3 eD hP=>?_)
 ·subst hx
  obtain ⟨s3,nD,rfl⟩:=hP
  have hi1:i+1<us.length:=by omega
  have ua:us[i]? = some (us[i]'(by omega)):=List.getElem?_eq_getElem (by omega)
  have ub:us[i+1]? = some us[i+1]:=List.getElem?_eq_getElem hi1
  have e1:(1:Int)+(i:Int)=((i+1:Nat):Int):=by omega
  have e0:(1:Int)+(i:Int) - 1=((i:Nat):Int):=by omega
  obtain ⟨a,ea,ka⟩:=hk.get ua
  obtain ⟨b,eb,kb⟩:=hk.get ub
  have hl3:=s3 _ _ hl
  refine ⟨_,rfl,_,rfl,_,_,rfl,rfl,.inl ⟨l,us,_,_,rfl,rfl,SqL.of hl3,(by rw [e0];exact ZAn ua),?_⟩⟩
  refine ⟨_,rfl,_,rfl,.inl ⟨l,us,_,_,rfl,rfl,SqL.of hl3,(by rw [e1];exact ZAn ub),?_⟩⟩
  refine ⟨_,_,a,b,rfl,ka.mono (Same.tups s3) _ _,kb.mono (Same.tups s3) _ _,hf a (List.mem_of_getElem? ea),hf b (List.mem_of_getElem? eb),fun H4 s4=>?_⟩
  rw [ZF9 hup (Nat.lt_succ_self i) ea eb]
  refine hR _ H4 (s4 D _ eD) ⟨ZBK (s3.trans s4) nD,nD,?_⟩
  rw [List.replicate_succ',List.map_append]
  rfl
 ·obtain ⟨s3,nD,rfl⟩:=hP
  refine ⟨D,_,rfl,SqL.of eD,?_⟩
  have e:(List.replicate ((us.length:Int) - 1).toNat true).all id=true:=by simp
  rw [e]
  exact k H3 s3
def ZN2 (rs:List Row):Prop:=(∀ r∈rs,r.fit)∧0<rs.length∧rs.length<=4∧(rs.map (·.1)).Pairwise (fun a b=>a.lt b=true)
def ZE0:Sp:=fun vs H Q _=>∃ (l:Addr) (us:List V) (rs:List Row),vs=[.ref l]∧H l=some (.lst us)∧KeysAt H (ZBA rs) us∧ZN2 rs ∧
 ∀ (H':Hp) (l':Addr) (us':List V),Same H H'->H l'=none->H' l'=some (.lst us')->KeysAt H' (ZBA rs) us'->Q (.ref l') H'
theorem scChRows:FnScope ["rows","own"] ["rows"] (ZAI ZFw):=⟨rfl,rfl,rfl,by decide +kernel,rfl,by decide +kernel,by decide +kernel⟩
theorem ZIw (F:Fun K "checked_rows" "checked_rows" ZFw f fd) (T:Txt mg) (DC:DefOk P w K mg base 8 "own_rows" ["rows"] ZDY) (DR:DefOk P w K mg base 8 "rise" ["keys"] ZGL):FnOk P w K mg base CX0 9 f fd ["rows"] ZE0:=by
 refine F.ok scChRows (fun vs H Q E h=>(by obtain ⟨_,_,_,rfl,_⟩:=h;rfl)) (fun cdv A outer s H vs Q E hr h=>?_)
 obtain ⟨l,us,rs,rfl,hl,hk,⟨hf,h0,h4,hup⟩,k⟩:=h
 have nd:=scChRows.nd
 have lk:us.length=rs.length:=by have:=hk.length;rw [<-this];exact List.length_map _
 obtain ⟨t4,m4⟩:=T.rows
 refine ⟨_,ZAD (ZAU (i:=1) nd rfl (Or.inl rfl) (ZAT DC hr (ZAN (pv 0) ZAC)))
  (ZAD (ZAf (PW.pt (ZB9 (ZAy (ZEw ZDt ZDt ZAF (ZAK ZAS rfl T.len ZAv (ZAN (pv 1) ZAC)) (ZAr (v:=.int 4) rfl m4 ⟨_,rfl⟩)))
   (ZB0 (ZAy (ZAg (ZAT DR hr (ZAN (ZBk [] [] rfl (ZA5 (pv 1)) (fun _ _ _ _ _=>ZBM) (fun _ _ _ _ _=>ZAV (r:=rIx K) ZAP (pv 0) ZAF (fun _ _=>rfl)) trivial) ZAC))))))) ZAd ZAR)
  (ZAH (ZAQ (pv 1)))),?_⟩
 refine ⟨_,rfl,l,us,rs,rfl,hl,hk,hf,by omega,fun H3 D ys s3 nD eD hrw=>?_⟩
 have ly:ys.length=rs.length:=by have:=hrw.length;rw [<-this];exact List.length_map _
 refine ⟨_,rfl,D,ys,rfl,.inl (SqL.of eD),_,_,rfl,rfl,_,rfl,?_⟩
 rw [decide_eq_true (show (1:Int)<=(ys.length:Int) by omega)]
 refine ZBb ⟨_,_,rfl,rfl,_,rfl,?_⟩
 rw [decide_eq_true (show (ys.length:Int)<=4 by omega)]
 refine ZAz ?_
 refine ⟨_,rfl,D,rfl,⟨ys,SqL.of eD⟩,?_⟩
 refine ZA3 (n:=ys.length) (fun i z=>ys[i]? = some z) (fun D2 i zs H4=>Same H3 H4∧H3 D2=none∧KeysAt H3 ((rs.map (·.1)).take i) zs) (ZAO (by omega))
  (fun D2 i zs H4 hi hP=>⟨ys,ys[i],SqL.of (hP.1 _ _ eD),by simp [hi]⟩) (fun D2 i zs H4 z H5 hi hP hy=>⟨hy.1,hy.2 ys (SqL.of (hP.1 _ _ eD))⟩) (fun D2 zs H4 hP=>⟨ys,SqL.of (hP.1 _ _ eD),Nat.le_refl _⟩)
  (fun D2 hD2=>⟨ZAE hD2 _,hD2,.nil⟩) (fun D2 i zs H4 z eD2 hl2 hi hz hP R hR=>?_) (fun D2 zs H4 eD2 hP=>?_)
 ·obtain ⟨s4,nD2,hzs⟩:=hP
  obtain ⟨a,vk,vv,er,rfl,e2,k1,_⟩:=ZFY hrw hz
  refine ⟨_,rfl,.inr (.inl ⟨a,_,_,vk,rfl,rfl,SqT.of (s4 _ _ e2),rfl,?_⟩)⟩
  refine hR _ H4 eD2 ⟨ZBK s4 nD2,nD2,?_⟩
  rw [List.take_add_one,List.getElem?_map,er]
  exact hzs.append (.cons k1 .nil)
 ·obtain ⟨s4,nD2,hzs⟩:=hP
  rw [List.take_of_length_le (by rw [List.length_map];omega)] at hzs
  have lz:=hzs.length
  rw [List.length_map] at lz
  refine ⟨D2,zs,_,rfl,eD2,hzs.mono (Same.tups s4) _ _,fun t ht=>?_,by omega,hup,fun H5 s5=>⟨_,rfl,ZAz ⟨_,rfl,k H5 D ys ((s3.trans s4).trans s5) nD (s5 _ _ (s4 _ _ eD)) (hrw.mono (Same.tups (s4.trans s5)) _ _)⟩⟩⟩
  obtain ⟨r,hr',rfl⟩:=List.mem_map.mp ht
  exact (hf r hr').1
def ZCv (rs:List Row):Twg:=⟨0,rs,[]⟩
def ZDJ (CSh CTw:Addr):Sp:=fun vs H Q _=>∃ (S d lk l:Addr) (ts:List Twg) (av:Nat->List Nat) (ho:Nat->Nat) (as:List TwA) (kvs:List (Key×V)) (ls us:List V) (rs:List Row),vs=[.ref S,.ref l]∧ShP CSh CTw H S d lk ts av ho as kvs ls∧ts.length<=900∧H l=some (.lst us)∧KeysAt H (ZBA rs) us∧ZN2 rs ∧
 ∀ (H':Hp) (a:TwA),H a.x=none->H a.th=none->H a.ab=none->(∀ b o,b≠S->b≠d->H b=some o->H' b=some o) ->
  ShP CSh CTw H' S d lk (ts++[ZCv rs]) (avP ts.length av) (hoP ts.length ho) (as++[a]) (ZBS kvs (.inl (ts.length:Int)) (.ref a.x)) ls->Q (.int (ts.length:Nat)) H'
theorem scPutLeaf:FnScope ["self","rows","own"] ["self","rows"] (ZAI ZEk):=⟨rfl,rfl,rfl,by decide +kernel,rfl,by decide +kernel,by decide +kernel⟩
theorem ZF4 {CSh CTw:Addr} {H:Hp} {S d lk:Addr} {ts:List Twg} {av:Nat->List Nat} {ho:Nat->Nat} {as:List TwA} {kvs:List (Key×V)} {ls:List V} (R:ShP CSh CTw H S d lk ts av ho as kvs ls):kvs.length=ts.length:=by
 have:=congrArg List.length R.keys
 simpa using this
theorem ZHS (F:Fun K "put_leaf" "Shelf.put_leaf" ZEk f fd) (L:ShF K mg CSh CTw) (DC:DefOk P w K mg base 9 "checked_rows" ["rows"] ZE0) (DL:DefOk P w K mg base 1 "label_of_rows" ["rows"] ZDk) (DT:MethOk P w K mg base CX0 3 CSh "put_twig" ["self","things","label"] (ZCL CSh CTw)) :
  FnOk P w K mg base CX0 10 f fd ["self","rows"] (ZDJ CSh CTw):=by
 refine F.ok scPutLeaf (fun vs H Q E h=>(by obtain ⟨_,_,_,_,_,_,_,_,_,_,_,_,rfl,_⟩:=h;rfl)) (fun cdv A outer s H vs Q E hr h=>?_)
 obtain ⟨S,d,lk,l,ts,av,ho,as,kvs,ls,us,rs,rfl,R,l900,hl,hk,G,k⟩:=h
 have nd:=scPutLeaf.nd
 have hr1:=hr.mono (show 1<=9 by omega)
 have hr3:=hr.mono (show 3<=9 by omega)
 refine ⟨_,ZAD (ZAU (i:=2) nd rfl (Or.inl rfl) (ZAT DC hr (ZAN (pv 1) ZAC)))
  (ZAH (ZAQ (ZAo (E:=E0) (pv 0) L.cS DT hr3 ZBQ (ZAN (pv 2) (ZAN (ZAT DL hr1 (ZAN (pv 2) ZAC)) ZAC))))),?_⟩
 refine ⟨_,rfl,l,us,rs,rfl,hl,hk,G,fun H1 l' us' s1 nl' hl' hk'=>?_⟩
 have R1:=R.same s1
 obtain ⟨dx,hS⟩:=R1.sh.self
 have lu:us'.length=rs.length:=by have:=hk'.length;rw [<-this];exact List.length_map _
 have lks:(rs.map (·.1)).length=rs.length:=List.length_map _
 refine ⟨_,rfl,S,dx,_,rfl,hS,rfl,_,rfl,_,rfl,l',us',rs.map (·.1),rfl,hl',ZI8 hk',by rw [lu];exact G.2.1,fun H2 v s2 kv=>?_⟩
 have eLab:(ZA1 (ZCv rs)).kt=ZN4 (rs.map (·.1)):=by
  have e0:(rs.map (·.1)).getD 0 (.int 0)=(rs.getD 0 rd).1:=by
   rw [List.getD_eq_getElem?_getD,List.getD_eq_getElem?_getD,List.getElem?_map]
   cases rs[0]? <;> rfl
  have e1:(rs.map (·.1)).getD (rs.length - 1) (.int 0)=(rs.getD (rs.length - 1) rd).1:=by
   rw [List.getD_eq_getElem?_getD,List.getD_eq_getElem?_getD,List.getElem?_map]
   cases rs[rs.length - 1]? <;> rfl
  unfold ZN4 ZA1 ZCv Lab.kt
  rw [lks,e0,e1]
  rfl
 rw [<-eLab] at kv
 have kl:=ZE4 kv
 obtain ⟨tg,vlo,vhi,rfl,htg,_,_⟩:=kl
 have kl:=ZE4 kv
 have s12:=s1.trans s2
 have R2:=R.same s12
 refine ⟨S,d,lk,ts.length,kvs,ls,.ref l',.ref tg,rfl,R2.sh,by rw [ZF4 R];exact l900,fun H3 x ab nx nab fr R3 W3=>?_⟩
 obtain ⟨dx2,hS2⟩:=R2.sh.self
 have tup3:ZBn H2 H3:=fun b ys e=>fr b _ (ZAJ e hS2 (by intro z;cases z)) (ZAJ e R2.sh.kept (by intro z;cases z)) e
 have hl2:=s2 _ _ hl'
 have hl3:H3 l'=some (.lst us'):=fr _ _ (ZAJ hl2 hS2 (by intro z;cases z)) (ZAJ hl2 R2.sh.kept (by intro z;cases z)) hl2
 have ab':ab≠l':=(ZAB hl2 nab).symm
 have tg2:tg=tg:=rfl
 have PP:=ZGk (t:=ZCv rs) (x:=x) (th:=l') (tg:=tg) (ab:=ab) R (H':=H3) (fun b o n1 n2 e=>fr b o n1 n2 (s12 b o e)) (s12.free nx) nl' (s12.free nab) ab' R3 W3
  ⟨us',hl3,fun _=>hk'.mono (fun b xs e=>tup3 b xs (s2 _ _ e)) _ _,fun z=>absurd rfl z⟩ (kl.mono tup3)
 exact k H3 ⟨x,l',tg,ab⟩ (s12.free nx) nl' (s12.free nab) (fun b o n1 n2 e=>fr b o n1 n2 (s12 b o e)) PP
end
def ZBd (ts:List Twg) (bs:List Nat):List Row:=bs.flatMap fun b=>(gd ts b).rows
def ZBc (ts:List Twg) (bs:List Nat):Twg:=⟨(gd ts (bs.getD 0 0)).h+1,ZBd ts bs,bs⟩
def nbr (ts:List Twg):List Nat->Prop
 | a :: b :: r=>(ZA1 (gd ts a)).hi.lt (ZA1 (gd ts b)).lo=true∧nbr ts (b :: r)
 | _=>True
theorem ZLF {ts:List Twg}:∀ {bs:List Nat},(∀ j,j+1<bs.length->((ZAe ts bs).getD j .d).hi.lt ((ZAe ts bs).getD (j+1) .d).lo=true)->nbr ts bs
 | [],_=>trivial
 | [_],_=>trivial
 | a :: b :: r,h=>⟨h 0 (by simp),ZLF (bs:=b :: r) fun j hj=>h (j+1) (by simp at hj ⊢;omega)⟩
theorem ZBv {t:Twg} (hne:t.rows≠[]):∃ r rs,t.rows=r :: rs∧(ZA1 t).lo=r.1:=by
 cases e:t.rows with
 | nil=>exact absurd e hne
 | cons r rs=>exact ⟨r,rs,rfl,by unfold ZA1;rw [e];rfl⟩
theorem ZEm {t:Twg} (hne:t.rows≠[]):∃ rs r,t.rows=rs++[r]∧(ZA1 t).hi=r.1:=by
 rcases List.eq_nil_or_concat t.rows with e | ⟨rs,r,e⟩
 ·exact absurd e hne
 ·rw [List.concat_eq_append] at e
  refine ⟨rs,r,e,?_⟩
  unfold ZA1
  rw [e]
  simp [List.getD_eq_getElem?_getD]
theorem ZOI {gt:List KT} {ts:List Twg} {i:Nat} {t:Twg} (h:TwOk gt ts i t) {x:KT} (hx:x∈t.rows.map (·.1)) {y:KT} (hy:(ZA1 t).hi.lt y=true):x.lt y=true:=by
 obtain ⟨rs,r,e,eh⟩:=ZEm h.ne
 have up:=h.up
 rw [e,List.map_append] at up hx
 rw [eh] at hy
 rcases List.mem_append.mp hx with hx | hx
 ·have:=(List.pairwise_append.mp up).2.2 x hx r.1 (by simp)
  exact lt_trans' _ _ _ this hy
 ·simp at hx
  rw [hx];exact hy
theorem ZON {gt:List KT} {ts:List Twg} {bs:List Nat} {l:List KT} (hp:l.Pairwise fun a b=>a.lt b=true) {z:KT} (e:l.head? = some z) {x:KT} (hx:x.lt z=true):∀ y∈l,x.lt y=true:=by
 cases l with
 | nil=>cases e
 | cons a l=>
  simp at e
  subst e
  intro y hy
  rcases List.mem_cons.mp hy with rfl | hy
  ·exact hx
  ·exact lt_trans' _ _ _ hx ((List.pairwise_cons.mp hp).1 y hy)
theorem ZIG {gt:List KT} {ts:List Twg} (hw:WF gt ts):∀ {bs:List Nat},(∀ b∈bs,b<ts.length)->nbr ts bs->((ZBd ts bs).map (·.1)).Pairwise (fun a b=>a.lt b=true)∧bs.Nodup
 | [],_,_=>⟨List.Pairwise.nil,List.nodup_nil⟩
 | [a],hb,_=>by
  refine ⟨?_,by simp⟩
  have:=(hw a _ (ZA8 (hb a (by simp)))).up
  simpa [ZBd] using this
 | a :: b :: r,hb,hn=>by
  obtain ⟨h1,h2⟩:=ZIG hw (bs:=b :: r) (fun c hc=>hb c (List.mem_cons_of_mem _ hc)) hn.2
  have oa:=hw a _ (ZA8 (hb a (by simp)))
  have ob:=hw b _ (ZA8 (hb b (by simp)))
  obtain ⟨rb,rs,eb,el⟩:=ZBv ob.ne
  have hd:((ZBd ts (b :: r)).map (·.1)).head? = some (ZA1 (gd ts b)).lo:=by
   rw [el]
   unfold ZBd
   rw [List.flatMap_cons,eb]
   rfl
  have cross:∀ x∈(gd ts a).rows.map (·.1),∀ y∈(ZBd ts (b :: r)).map (·.1),x.lt y=true:=fun x hx=>ZON (gt:=gt) (ts:=ts) (bs:=[]) h1 hd (ZOI oa hx hn.1)
  refine ⟨?_,List.nodup_cons.mpr ⟨fun hm=>?_,h2⟩⟩
  ·have e:ZBd ts (a :: b :: r)=(gd ts a).rows++ZBd ts (b :: r):=by simp [ZBd]
   rw [e,List.map_append]
   exact List.pairwise_append.mpr ⟨oa.up,h1,cross⟩
  ·obtain ⟨ra,rs',ea,_⟩:=ZBv oa.ne
   have m1:ra.1∈(gd ts a).rows.map (·.1):=by rw [ea];simp
   have m2:ra.1∈(ZBd ts (b :: r)).map (·.1):=List.mem_map.mpr ⟨ra,List.mem_flatMap.mpr ⟨a,hm,by rw [ea];simp⟩,rfl⟩
   have:=cross _ m1 _ m2
   rw [ZF5] at this
   cases this
theorem ZBC {ts:List Twg} {bs:List Nat} {i:Nat} (hi:i<bs.length):(ZAe ts bs).getD i .d=ZA1 (gd ts (bs.getD i 0)):=by
 unfold ZAe
 rw [List.getD_eq_getElem?_getD,List.getElem?_map,List.getElem?_eq_getElem hi,List.getD_eq_getElem?_getD,List.getElem?_eq_getElem hi]
 rfl
theorem ZDL {gt:List KT} {ts:List Twg} (hw:WF gt ts) {bs:List Nat} (hb:∀ b∈bs,b<ts.length) {L:Lab} (h:over (ZAe ts bs)=some L) :
  L=ZA1 (ZBc ts bs)∧bs.Nodup∧2<=bs.length∧bs.length<=4∧(∀ b∈bs,(gd ts b).h+1=(ZBc ts bs).h)∧((ZBd ts bs).map (·.1)).Pairwise (fun a b=>a.lt b=true)∧ZBd ts bs≠[]:=by
 unfold over at h
 split at h
 case isFalse=>cases h
 case isTrue hc=>
  obtain ⟨h2,h4,hk⟩:=hc
  have ll:(ZAe ts bs).length=bs.length:=List.length_map _
  rw [ll] at h2 h4
  have hl:=lchk_iff.mpr hk
  unfold ZOd at hl
  rw [ll] at hl
  have hnb:nbr ts bs:=ZLF fun j hj=>(hl j hj).2
  obtain ⟨hup,hnd⟩:=ZIG hw hb hnb
  have hh:∀ i,i<bs.length->((ZAe ts bs).getD i .d).h=((ZAe ts bs).getD 0 .d).h:=fun i hi=>by
   cases i with
   | zero=>rfl
   | succ i=>exact (hl i hi).1
  have hmem:∀ i,i<bs.length->bs.getD i 0∈bs:=fun i hi=>by rw [List.getD_eq_getElem?_getD,List.getElem?_eq_getElem hi];exact List.getElem_mem _
  have o0:=hw _ _ (ZA8 (hb _ (hmem 0 (by omega))))
  have ol:=hw _ _ (ZA8 (hb _ (hmem (bs.length - 1) (by omega))))
  have hhb:∀ b∈bs,(gd ts b).h+1=(ZBc ts bs).h:=fun b hb'=>by
   obtain ⟨i,hi,e⟩:=List.getElem_of_mem hb'
   have:=hh i hi
   rw [ZBC hi,ZBC (by omega)] at this
   have e2:bs.getD i 0=b:=by rw [List.getD_eq_getElem?_getD,List.getElem?_eq_getElem hi,e];rfl
   rw [e2] at this
   have:=Int.ofNat.inj this
   show (gd ts b).h+1=(gd ts (bs.getD 0 0)).h+1
   omega
  have hne:ZBd ts bs≠[]:=fun z=>by
   obtain ⟨r,rs,e,_⟩:=ZBv o0.ne
   have:r∈ZBd ts bs:=List.mem_flatMap.mpr ⟨_,hmem 0 (by omega),by rw [e];simp⟩
   rw [z] at this
   simp at this
  refine ⟨?_,hnd,h2,h4,hhb,hup,hne⟩
  rw [<-Option.some.inj h]
  have elo:((ZAe ts bs).getD 0 .d).lo=(ZA1 (ZBc ts bs)).lo:=by
   rw [ZBC (by omega)]
   obtain ⟨r,rs,e,el⟩:=ZBv o0.ne
   rw [el]
   cases bs with
   | nil=>simp at h2
   | cons b bs=>
    unfold ZA1 ZBc ZBd
    have e':(gd ts b).rows=r :: rs:=e
    simp only [List.flatMap_cons,e']
    rfl
  have ehi:((ZAe ts bs).getD ((ZAe ts bs).length - 1) .d).hi=(ZA1 (ZBc ts bs)).hi:=by
   rw [ll,ZBC (by omega)]
   obtain ⟨rs,r,e,el⟩:=ZEm ol.ne
   rw [el]
   rcases List.eq_nil_or_concat bs with z | ⟨bi,b,z⟩
   ·rw [z] at h2;simp at h2
   ·rw [List.concat_eq_append] at z
    have eb:bs.getD (bs.length - 1) 0=b:=by rw [z];simp [List.getD_eq_getElem?_getD]
    rw [eb] at e
    have er:ZBd ts bs=ZBd ts bi++rs++[r]:=by rw [z];simp [ZBd,e]
    unfold ZA1 ZBc
    simp only [er]
    simp [List.getD_eq_getElem?_getD]
  have em:((ZAe ts bs).map Lab.m).sum=(ZA1 (ZBc ts bs)).m:=by
   have:∀ l:List Nat,((ZAe ts l).map Lab.m).sum=((ZBd ts l).length:Int):=fun l=>by
    induction l with
    | nil=>rfl
    | cons b l ih=>
     have e1:ZAe ts (b :: l)=ZA1 (gd ts b) :: ZAe ts l:=rfl
     have e2:ZBd ts (b :: l)=(gd ts b).rows++ZBd ts l:=by simp [ZBd]
     rw [e1,e2,List.map_cons,List.sum_cons,ih,List.length_append]
     show ((gd ts b).rows.length:Int)+_=_
     omega
   exact this bs
  have eh:((ZAe ts bs).getD 0 .d).h+1=(ZA1 (ZBc ts bs)).h:=by
   rw [ZBC (by omega)]
   show ((gd ts (bs.getD 0 0)).h:Int)+1=(((gd ts (bs.getD 0 0)).h+1:Nat):Int)
   omega
  rw [elo,ehi,em,eh]
theorem TwOk.ext {gt:List KT} {ts:List Twg} {t:Twg} {i:Nat} {u:Twg} (h:TwOk gt ts i u) (hi:i<=ts.length):TwOk gt (ts++[t]) i u:=by
 refine ⟨h.ne,h.up,h.inn,h.leaf,fun z=>?_⟩
 obtain ⟨h1,h2,h3,h4⟩:=h.stem z
 have e:∀ b∈u.bs,gd (ts++[t]) b=gd ts b:=fun b hb=>ZCD (by have:=(h3 b hb).1;omega)
 refine ⟨h1,h2,fun b hb=>⟨(h3 b hb).1,by rw [e b hb];exact (h3 b hb).2⟩,?_⟩
 rw [h4]
 clear h1 h2 h3 h4
 have:∀ l:List Nat,(∀ b∈l,gd (ts++[t]) b=gd ts b)->(l.flatMap fun b=>(gd ts b).rows)=l.flatMap fun b=>(gd (ts++[t]) b).rows:=fun l hl=>by
  induction l with
  | nil=>rfl
  | cons b l ih=>rw [List.flatMap_cons,List.flatMap_cons,hl b (by simp),ih fun c hc=>hl c (List.mem_cons_of_mem _ hc)]
 exact this _ e
theorem WF.push {gt:List KT} {ts:List Twg} {t:Twg} (hw:WF gt ts) (h:TwOk gt ts ts.length t):WF gt (ts++[t]):=fun i u e=>by
 rcases Nat.lt_or_ge i ts.length with hi | hi
 ·rw [List.getElem?_append_left hi] at e
  exact (hw i u e).ext (Nat.le_of_lt hi)
 ·rw [List.getElem?_append_right hi] at e
  have hi0:i - ts.length=0:=by
   rcases Nat.eq_zero_or_pos (i - ts.length) with z | z
   ·exact z
   ·rw [List.getElem?_eq_none (by simp;omega)] at e;cases e
  rw [hi0] at e
  simp at e
  subst e
  have:i=ts.length:=by omega
  rw [this]
  exact h.ext (Nat.le_refl _)
theorem ZKY {gt:List KT} {ts:List Twg} (hw:WF gt ts) {bs:List Nat} (hb:∀ b∈bs,b<ts.length) {L:Lab} (h:over (ZAe ts bs)=some L):TwOk gt ts ts.length (ZBc ts bs):=by
 obtain ⟨_,_,h2,h4,hh,hup,hne⟩:=ZDL hw hb h
 refine ⟨hne,hup,fun r hr=>?_,fun z=>absurd z (by show (gd ts (bs.getD 0 0)).h+1≠0;omega),fun _=>⟨h2,h4,fun b hb'=>⟨hb b hb',hh b hb'⟩,rfl⟩⟩
 obtain ⟨b,hb',hr'⟩:=List.mem_flatMap.mp hr
 exact (hw b _ (ZA8 (hb b hb'))).inn r hr'
section
variable {P:Program} {w:World} {K:PySem.W.Frag} {mg:Str->Option Value} {base:Heap} {f:Addr} {fd:FuncData} {CSh CTw CS CT CH:Addr}
abbrev ZEr:Stmt:=ZAq (top 36) 2
structure DefD (P:Program) (w:World) (K:PySem.W.Frag) (mg:Str->Option Value) (base:Heap) (k:Nat) (x:Str) (ps:List Str) (sp:Sp):Prop where
 ex:∃ f fd,FnOk P w K mg base (CXd P w) k f fd ps sp∧Binds K fd ps []∧PySem.W.keepIn K (.ref f)=true∧mg x=some (.ref f)
def ZBa (gt:List KT) (CSh CTw CS CT CH:Addr):Sp:=fun vs H Q E=>∃ (S d lk l:Addr) (ts:List Twg) (av:Nat->List Nat) (ho:Nat->Nat) (as:List TwA) (kvs:List (Key×V)) (ls:List V) (ns:List Int),vs=[.ref S,.ref l]∧ShP CSh CTw H S d lk ts av ho as kvs ls∧WF gt ts∧ts.length<=800∧(∀ b,b<ts.length->(av b).length<=800)∧H l=some (.lst (ns.map V.int))∧ns.length<=100 ∧
 (∀ x,ns.find? (fun x=>!inT ts x)=some x->RfN CT x E H) ∧
 (∀ bs:List Nat,ns=bs.map (fun b:Nat=>(b:Int))->(∀ b∈bs,b<ts.length) ->
  (over (ZAe ts bs)=none->∀ H',Same H H'->E (.ref CS) none H') ∧
  (over (ZAe ts bs)≠none->∀ b,bs.find? (fun b=>decide (ho b=0))=some b->RfN CH (b:Nat) E H) ∧
  (over (ZAe ts bs)≠none->bs.find? (fun b=>decide (ho b=0))=none->∀ (H':Hp) (a:TwA),H a.x=none->H a.th=none->H a.ab=none ->
   (∀ c o,c≠S->c≠d->(∀ b:Nat,b<ts.length->c≠(as.getD b .d).x∧c≠(as.getD b .d).ab)->H c=some o->H' c=some o) ->
   ShP CSh CTw H' S d lk (ts++[ZBc ts bs]) (avK bs ts.length (avP ts.length av)) (hoK bs (hoP ts.length ho)) (as++[a]) (ZBS kvs (.inl (ts.length:Int)) (.ref a.x)) ls->Q (.int (ts.length:Nat)) H'))
abbrev ZJ3:List Str:=["self","numbers","branches","label","number"]
theorem scPutStem:FnScope ZJ3 ["self","numbers"] (ZAI ZEr):=⟨rfl,rfl,rfl,by decide +kernel,rfl,by decide +kernel,by decide +kernel⟩
theorem ZJu {gt:List KT} {ts:List Twg} (hw:WF gt ts) {bs:List Nat} (hb:∀ b∈bs,b<ts.length) (i:Nat):((ZAe ts bs).getD i .d).fit:=by
 rcases Nat.lt_or_ge i bs.length with hi | hi
 ·rw [ZBC hi]
  refine ZFz (hw _ _ (ZA8 (hb _ ?_)))
  rw [List.getD_eq_getElem?_getD,List.getElem?_eq_getElem hi]
  exact List.getElem_mem _
 ·rw [List.getD_eq_getElem?_getD,List.getElem?_eq_none (by unfold ZAe;rw [List.length_map];exact hi)]
  exact ZOr
theorem ZOM {X:Cx} {E:XK} {k:Nat} {x:Str} {ps:List Str} {sp:Sp} {e:Expr} {es:List Expr} {t:TA} {p pos:Pos} (D:DefD X.prog X.w X.K X.mg X.base k x ps sp) (hr:Room k X.A) (hx:ZBP (CXd X.prog X.w) X E) (ha:PA X (e :: es) t) (hg:Gl X x:=by rfl) (hdb:(x==("__debug__" : Str))=false:=by decide)
  (hst:starEach (e :: es) X.env=(false,eval e X.env) :: starEach es X.env:=by rfl) (hpl:(backTo pos (starEach es X.env)).any (·.1)=false:=by rfl):PE X (.Call (.Name x p) (e :: es) [] pos) (ZMA sp [] E t):=by
 obtain ⟨f,fd,F,b,kp,m⟩:=D.ex
 exact ZJD F hr hg m kp b .nil hx ha hdb hst hpl
theorem ZHZ {gt:List KT} (F:Fun K "put_stem" "Shelf.put_stem" ZEr f fd) (T:Txt mg) (L:ShF K mg CSh CTw) (DL:MethOk P w K mg base (CXd P w) 5 CSh "labels_of" ["self","numbers"] (ZCh CSh CTw CT)) (DO:DefD P w K mg base 9 "label_over" ["labels"] (ZHt CS))
  (DC:MethOk P w K mg base (CXd P w) 3 CSh "check_held" ["self","numbers"] (ZCI CSh CTw CH)) (DT:MethOk P w K mg base CX0 3 CSh "put_twig" ["self","things","label"] (ZCL CSh CTw)) (DK:MethOk P w K mg base CX0 2 CSh "take_over" ["self","stem","branches"] (ZCf CSh CTw)) :
  FnOk P w K mg base (CXd P w) 10 f fd ["self","numbers"] (ZBa gt CSh CTw CS CT CH):=by
 refine F.okD scPutStem (fun vs H Q E h=>(by obtain ⟨_,_,_,_,_,_,_,_,_,_,_,rfl,_⟩:=h;rfl)) (fun cdv A outer s H vs Q E hr h=>?_)
 obtain ⟨S,d,lk,l,ts,av,ho,as,kvs,ls,ns,rfl,R,hw,t800,a800,hl,h100,k1,k2⟩:=h
 have nd:=scPutStem.nd
 have hr5:=hr.mono (show 5<=9 by omega)
 have hr3:=hr.mono (show 3<=9 by omega)
 have hr2:=hr.mono (show 2<=9 by omega)
 refine ⟨_,ZAD (ZAU (i:=2) nd rfl (Or.inl rfl) (ZAm ZA0 rfl T.list ZBi (ZAN (pv 1) ZAC)))
  (ZAD (ZAU (i:=3) nd rfl (Or.inl rfl) (ZOM (E:=E) DO hr (ZCa ZCC fun _ _ _ h=>h) (ZAN (ZAo (E:=E) (pv 0) L.cS DL hr5 (ZCa ZCC fun _ _ _ h=>h) (ZAN (pv 2) ZAC)) ZAC)))
  (ZAD (ZA2 (ZAo (E:=E) (pv 0) L.cS DC hr3 (ZCa ZCC fun _ _ _ h=>h) (ZAN (pv 2) ZAC)))
  (ZAD (ZAU (i:=4) nd rfl (Or.inl rfl) (ZAo (E:=E0) (pv 0) L.cS DT hr3 ZBQ (ZAN (pv 2) (ZAN (pv 3) ZAC))))
  (ZAD (ZA2 (ZAo (E:=E0) (pv 0) L.cS DK hr2 ZBQ (ZAN (pv 4) (ZAN (pv 2) ZAC))))
  (ZAH (ZAQ (pv 4))))))),?_⟩
 refine ⟨_,rfl,l,ns.map V.int,rfl,.inl (SqL.of hl),fun D nD=>?_⟩
 have g1:=ZAE nD (.lst (ns.map V.int))
 have hD1:upd H D (.lst (ns.map V.int)) D=some (.lst (ns.map V.int)):=ZAA
 generalize upd H D (.lst (ns.map V.int))=H1 at g1 hD1 ⊢
 have R1:=R.same g1
 obtain ⟨dx1,hS1⟩:=R1.sh.self
 refine ⟨_,rfl,S,dx1,_,rfl,hS1,rfl,_,rfl,S,d,lk,D,ts,av,ho,as,kvs,ls,ns,rfl,R1,hD1,h100,fun x hx=>(k1 x hx).mono g1,fun bs eb hb D2 us H2 s2 nD2 hD2 hk2=>?_⟩
 obtain ⟨q1,q2,q3⟩:=k2 bs eb hb
 have lbs:ns.length=bs.length:=by rw [eb,List.length_map]
 have lus:us.length=bs.length:=by rw [hk2.1];exact List.length_map _
 have s12:=g1.trans s2
 refine ⟨D2,us,ZAe ts bs,rfl,hD2,hk2,ZJu hw hb,by omega,fun H3 s3=>⟨fun ho'=>q1 ho' H3 (s12.trans s3),fun Lb v ho' kv=>?_⟩⟩
 have hov:over (ZAe ts bs)≠none:=by rw [ho'];exact fun z=>nomatch z
 obtain ⟨eL,hnd,hb2,hb4,hhh,hup,hne⟩:=ZDL hw hb ho'
 subst eL
 have s13:=s12.trans s3
 have R3:=R.same s13
 obtain ⟨dx3,hS3⟩:=R3.sh.self
 have eI:ns.map V.int=iN bs:=by rw [eb,List.map_map];rfl
 have hD3:H3 D=some (.lst (iN bs)):=by rw [<-eI];exact s3 _ _ (s2 _ _ hD1)
 refine ⟨_,rfl,S,dx3,_,rfl,hS3,rfl,_,rfl,S,d,lk,D,ts,av,ho,as,kvs,ls,bs,rfl,R3,hD3,hb,fun b hf=>(q2 hov b hf).mono s13,fun hf H4 s4=>?_⟩
 have s14:=s13.trans s4
 have R4:=R.same s14
 obtain ⟨dx4,hS4⟩:=R4.sh.self
 have kl:=ZE4 kv
 obtain ⟨tg,vlo,vhi,rfl,htg,_,_⟩:=kl
 have kl4:=(ZE4 kv).mono (Same.tups s4)
 have hD4:=s4 _ _ hD3
 refine ⟨_,rfl,S,dx4,_,rfl,hS4,rfl,_,rfl,_,rfl,S,d,lk,ts.length,kvs,ls,.ref D,.ref tg,rfl,R4.sh,by rw [ZF4 R];omega,fun H5 x ab nx nab fr R5 W5=>?_⟩
 have tup5:ZBn H4 H5:=fun b ys e=>fr b _ (ZAJ e hS4 (by intro z;cases z)) (ZAJ e R4.sh.kept (by intro z;cases z)) e
 have hD5:H5 D=some (.lst (iN bs)):=fr _ _ (ZAJ hD4 hS4 (by intro z;cases z)) (ZAJ hD4 R4.sh.kept (by intro z;cases z)) hD4
 have PP:=ZGk (t:=ZBc ts bs) (x:=x) (th:=D) (tg:=tg) (ab:=ab) R (H':=H5) (fun b o n1 n2 e=>fr b o n1 n2 (s14 b o e)) (s14.free nx) nD (s14.free nab) (ZAB hD4 nab).symm R5 W5
  ⟨iN bs,hD5,fun z=>absurd z (by show (gd ts (bs.getD 0 0)).h+1≠0;omega),fun _=>rfl⟩ (kl4.mono tup5)
 obtain ⟨dx5,hS5⟩:=R5.self
 have el:as.length=ts.length:=R.len
 have aL:∀ b,b<ts.length->(as++[(⟨x,D,tg,ab⟩:TwA)]).getD b .d=as.getD b .d:=fun b hb=>ZF7 (by omega)
 have aN:(as++[(⟨x,D,tg,ab⟩:TwA)]).getD ts.length .d=⟨x,D,tg,ab⟩:=by rw [<-el];exact ZJH
 have en:(ts++[ZBc ts bs]).length=ts.length+1:=by simp
 refine ⟨_,rfl,S,dx5,_,rfl,hS5,rfl,_,rfl,_,rfl,S,d,lk,D,_,_,_,_,_,ls,bs,ts.length,rfl,PP,hD5,hnd,fun b hb'=>?_,fun b hb'=>?_,fun H6 fr6 no6 R6=>⟨_,rfl,?_⟩⟩
 ·have hbl:=hb b hb'
  have nb:b≠ts.length:=by omega
  have h0:ho b≠0:=by
   have:=List.find?_eq_none.mp hf b hb'
   simpa using this
  refine ⟨by omega,?_,?_⟩
  ·rw [show hoP ts.length ho b=ho b from if_neg nb];omega
  ·rw [show avP ts.length av b=av b from if_neg nb];have:=a800 b hbl;omega
 ·rw [en] at hb'
  rcases Nat.lt_or_ge b ts.length with c | c
  ·rw [aL b c]
   exact (ZAB (R.tw b c).tw.above nD).symm
  ·have:b=ts.length:=by omega
   rw [this,aN]
   exact ZAB hD4 nab
 ·refine q3 hov hf H6 ⟨x,D,tg,ab⟩ (s14.free nx) nD (s14.free nab) (fun c o n1 n2 n3 e=>?_) R6
  refine fr6 c o (fun b hb'=>?_) (fr c o n1 n2 (s14 c o e))
  rw [en] at hb'
  rcases Nat.lt_or_ge b ts.length with z | z
  ·rw [aL b z];exact n3 b z
  ·have:b=ts.length:=by omega
   rw [this,aN]
   exact ⟨ZAB e (s14.free nx),ZAB e (s14.free nab)⟩
end
abbrev ZF0:Stmt:=ZAq (top 36) 15
theorem ZC5 {CSh CTw:Addr} {H H':Hp} {S d lk:Addr} {ts:List Twg} {av:Nat->List Nat} {ho:Nat->Nat} {as:List TwA} {kvs:List (Key×V)} {ls ls':List V} (R:ShP CSh CTw H S d lk ts av ho as kvs ls) (fr:∀ b o,b≠lk->H b=some o->H' b=some o) (hl:H' lk=some (.lst ls')):ShP CSh CTw H' S d lk ts av ho as kvs ls':=by
 obtain ⟨⟨dS,hS⟩,hd,hlk⟩:=R.sh
 have m:ZBn H H':=fun c xs e=>fr c _ (ZAJ e hlk (by intro z;cases z)) e
 refine ⟨⟨⟨dS,fr _ _ (ZAJ hS hlk (by intro z;cases z)) hS⟩,fr _ _ (ZAJ hd hlk (by intro z;cases z)) hd,hl⟩,R.keys,R.val,R.len,fun i hi=>?_,R.own,R.two⟩
 have W:=R.tw i hi
 obtain ⟨dx,hx⟩:=W.tw.self
 exact W.frame m (fun o e=>fr _ _ (ZAJ hx hlk (by intro z;cases z)) e) (fun o e=>fr _ _ (R.own i hi).2.2.1 e) (fun o e=>fr _ _ (R.own i hi).2.1 e)
section
variable {P:Program} {w:World} {K:PySem.W.Frag} {mg:Str->Option Value} {base:Heap} {f:Addr} {fd:FuncData} {CSh CTw CD:Addr}
structure UpA (gt:List KT) (CSh CTw:Addr) (H:Hp) (S d lk:Addr) (ts:List Twg) (av:Nat->List Nat) (ho:Nat->Nat) (as:List TwA) (kvs:List (Key×V)) (ls:List V):Prop where
 sh:ShP CSh CTw H S d lk ts av ho as kvs ls
 wf:WF gt ts
 av:∀ i,i<ts.length->av i=abv ts i
 live:∀ i,i<ts.length->1<=(abv ts i).length+ho i
 l800:ts.length<=800
def ZIY (gt:List KT) (CSh CTw CD:Addr):Sp:=fun vs H Q E=>∃ (S d lk:Addr) (ts:List Twg) (av:Nat->List Nat) (ho:Nat->Nat) (as:List TwA) (kvs:List (Key×V)) (ls:List V) (i:Nat),vs=[.ref S,.int (i:Nat)]∧UpA gt CSh CTw H S d lk ts av ho as kvs ls∧i<ts.length ∧
 (∀ v H',Same H H'->Sh ts ho i none->Q v H')∧(∀ j,Sh ts ho i (some j)->RfN CD (j:Nat) E H)
abbrev ZN9:List Str:=["self","number","road","above"]
theorem scRoad:FnScope ZN9 ["self","number"] (ZAI ZL0):=⟨rfl,rfl,rfl,by decide +kernel,rfl,by decide +kernel,by decide +kernel⟩
theorem ZGK (l:List Nat) (b:Nat):atI (iN (l++[b])) (-1)=some (.int (b:Nat)):=by
 have:iN (l++[b])=iN l++[.int (b:Nat)]:=by simp [iN]
 rw [this]
 exact ZE1 _ _
theorem ZMM {gt:List KT} (F:Fun K "road_up" "Shelf.road_up" ZL0 f fd) (L:ShF K mg CSh CTw) (N:XN P w K mg base "Shared" CD) (DT:MethOk P w K mg base CX0 1 CSh "twig_of" ["self","number"] (ZBh CSh)) (DH:MethOk P w K mg base CX0 2 CSh "holders" ["self","number"] (ZHq CSh CTw fun _ ho us=>.int ((us.length:Nat)+(ho:Nat):Int))):FnOk P w K mg base (CXd P w) 3 f fd ["self","number"] (ZIY gt CSh CTw CD):=by
 refine F.okD scRoad (fun vs H Q E h=>(by obtain ⟨_,_,_,_,_,_,_,_,_,_,rfl,_⟩:=h;rfl)) (fun cdv A outer s H vs Q E hr h=>?_)
 obtain ⟨S,d,lk,ts,av,ho,as,kvs,ls,i,rfl,U,hi,k1,k2⟩:=h
 have nd:=scRoad.nd
 have hr1:=hr.mono (show 1<=2 by omega)
 refine ⟨_,ZAD (ZAU (i:=2) nd rfl (Or.inl rfl) (ZAx (ZAN (pv 1) ZAC))) (ZAH (ZC7 ZJ9 (ZAg ZDQ)
  (ZAD (ZAf (ZAX ZGI (ZAo (E:=E0) (pv 0) L.cS DH hr ZBQ (ZAN (ZAV (r:=rIx K) ZAP (pv 2) (ZGS ZDP ZAF) (fun _ _=>rfl)) ZAC)) ZAF (ZAW _)) (ZAH (ZDh ZCC N hr (ZAN (ZAV (r:=rIx K) ZAP (pv 2) (ZGS ZDP ZAF) (fun _ _=>rfl)) ZAC) rfl)) ZAR)
  (ZAD (ZAU (i:=3) nd rfl (Or.inl rfl) (ZBG (ZAo (E:=E0) (pv 0) L.cS DT hr1 ZBQ (ZAN (ZAV (r:=rIx K) ZAP (pv 2) (ZGS ZDP ZAF) (fun _ _=>rfl)) ZAC)) rfl))
  (ZAD (ZAf (ZAX (ZCc hr.units0) (pv 3) (ZAx ZAC) (ZAW _)) (ZAH (ZAQ (pv 2))) ZAR)
  (ZAH (ZA2 (ZCX PySem.F.plainAttrs_list PySem.F.slot_list_append PySem.F.type_list_append ZAu (pv 2) (ZAN (ZAV (r:=rIx K) ZAP (pv 3) ZAF (fun _ _=>rfl)) ZAC))))))))),?_⟩
 refine ⟨_,rfl,nn (Nat.le_of_ble_eq_true rfl),fun r nr=>?_⟩
 refine ⟨fun m σ H'=>∃ (b:Nat) (rr:List Nat) (k3:Option V),m=ts.length - b∧σ=[some (.ref S),some (.int (i:Nat)),some (.ref r),k3]∧Same H H'∧H' r=some (.lst (iN (rr++[b])))∧rr.length<=b∧b<ts.length∧∀ o,Sh ts ho b o->Sh ts ho i o,
  ⟨_,i,[],none,rfl,rfl,ZAE nr _,ZAA,Nat.zero_le _,hi,fun _ z=>z⟩,?_⟩
 rintro m σ H1 ⟨b,rr,k3,rfl,rfl,s1,er,rl,bl,up⟩
 refine ⟨_,rfl,ZBb ⟨_,fun _ _ z=>z,?_⟩⟩
 have R1:=U.sh.same s1
 obtain ⟨dx,hS⟩:=R1.sh.self
 have W:=R1.tw b bl
 obtain ⟨dt,hx⟩:=W.tw.self
 have ea:=U.av b bl
 have lI:(iN (av b)).length=(abv ts b).length:=by rw [ea];exact List.length_map _
 refine ⟨_,rfl,S,dx,_,rfl,hS,rfl,_,rfl,1,rfl,.inl ⟨r,_,_,.int (b:Nat),rfl,rfl,SqL.of er,ZGK _ _,S,d,lk,ts.length,kvs,ls,(b:Int),_,_,_,_,_,_,rfl,⟨R1.sh,R1.val b bl,W.tw⟩,?_⟩⟩
 refine ⟨_,_,rfl,rfl,_,rfl,?_⟩
 refine ZFO (fun c=>?_) (fun c=>?_)
 ·have hc:(abv ts b).length+ho b≠1:=fun z=>by
   have:=of_decide_eq_true c
   rw [lI] at this
   omega
  refine ⟨_,rfl,1,rfl,.inl ⟨r,_,_,.int (b:Nat),rfl,rfl,SqL.of er,ZGK _ _,_,rfl,fun dd hdd=>(k2 b (up _ (.here hc))).go s1 hdd⟩⟩
 ·have hc:(abv ts b).length+ho b=1:=by
   have:¬ ((1:Int)<((iN (av b)).length:Nat)+(ho b:Nat)):=fun z=>c (decide_eq_true z)
   rw [lI] at this
   have:=U.live b bl
   omega
  refine ⟨_,rfl,S,dx,_,rfl,hS,rfl,_,rfl,1,rfl,.inl ⟨r,_,_,.int (b:Nat),rfl,rfl,SqL.of er,ZGK _ _,S,d,lk,ts.length,kvs,ls,(b:Int),.ref (as.getD b .d).x,rfl,R1.sh,R1.val b bl,(as.getD b .d).x,CTw,dt,_,.ref (as.getD b .d).ab,rfl,hx,L.cT,L.nab,rfl,?_⟩⟩
  refine ⟨_,rfl,nn (Nat.le_of_ble_eq_true rfl),fun e0 he0=>?_⟩
  have g3:=ZAE he0 (.lst [])
  have hab3:=g3 _ _ W.tw.above
  have er3:=g3 _ _ er
  have s13:=s1.trans g3
  refine ⟨(as.getD b .d).ab,e0,_,rfl,rfl,SqL.of hab3,SqL.of ZAA,_,rfl,?_⟩
  generalize upd H1 e0 (.lst [])=H3 at g3 hab3 er3 s13 ⊢
  cases eb:abv ts b with
  | nil=>
   rw [ea,eb,show (iN ([]:List Nat)).isEmpty=true from rfl]
   exact ZBb ⟨_,rfl,k1 _ H3 s13 (up _ (.top hc eb))⟩
  | cons j q=>
   rw [ea,eb] at hab3 ⊢
   rw [show (iN (j :: q)).isEmpty=false from rfl]
   have jl:=ZGc U.wf (i:=b) (j:=j) (by rw [eb];exact List.mem_cons_self)
   have l8:=U.l800
   refine ZAz ⟨_,rfl,.inl ⟨rfl,_,SqL.of er3⟩,_,rfl,.inl ⟨(as.getD b .d).ab,_,0,.int (j:Nat),rfl,rfl,SqL.of hab3,ZAn (j:=0) rfl,r,_,.int (j:Nat),rfl,rfl,er3,ZAO (by simp [iN];omega),?_⟩⟩
   refine ⟨ts.length - j,by omega,j,rr++[b],_,rfl,rfl,ZBK s13 nr,?_,by simp;omega,jl.2,fun o ho'=>up o (.up hc eb ho')⟩
   rw [ZAA]
   simp [iN]
structure XD (K:PySem.W.Frag) (mg:Str->Option Value) (CD:Addr):Prop where
 at_:mg "Shared" = some (.ref CD)
 ty:PySem.W.typeIn K (.ref CD)=some (.type "type")
 mB:PySem.W.mroIn K CD (.type "BaseException")=some true
 self:PySem.W.mroIn K CD (.ref CD)=some true
def ZFl (gt:List KT) (CSh CTw:Addr):Sp:=fun vs H Q _=>∃ (S d lk:Addr) (ts:List Twg) (av:Nat->List Nat) (ho:Nat->Nat) (as:List TwA) (kvs:List (Key×V)) (ls:List V) (i:Nat) (o:Option Nat),vs=[.ref S,.int (i:Nat)]∧UpA gt CSh CTw H S d lk ts av ho as kvs ls∧i<ts.length∧Sh ts ho i o∧∀ H',Same H H'->Q (.bl o.isNone) H'
theorem ZLk:FnScope ["self","number"] ["self","number"] (ZAI ZIz):=⟨rfl,rfl,rfl,by decide +kernel,rfl,by decide +kernel,by decide +kernel⟩
theorem ZKk {gt:List KT} (F:Fun K "alone" "Shelf.alone" ZIz f fd) (L:ShF K mg CSh CTw) (N:XD K mg CD) (DR:MethOk P w K mg base (CXd P w) 3 CSh "road_up" ["self","number"] (ZIY gt CSh CTw CD)):FnOk P w K mg base CX0 4 f fd ["self","number"] (ZFl gt CSh CTw):=by
 refine F.ok ZLk (fun vs H Q E h=>(by obtain ⟨_,_,_,_,_,_,_,_,_,_,_,rfl,_⟩:=h;rfl)) (fun cdv A outer s H vs Q E hr h=>?_)
 obtain ⟨S,d,lk,ts,av,ho,as,kvs,ls,i,o,rfl,U,hi,hs,k⟩:=h
 obtain ⟨fR,fdR,MR,FR,bR⟩:=DR.ex
 refine ⟨_,ZAD (ZFq (fun _=>pv 0) L.cS MR FR hr bR (fun _=>ZAN (pv 1) ZAC) rfl rfl rfl N.at_ N.ty N.mB (fun ea E'=>ZAH (ZAQ ZDQ))) (ZAH (ZAQ ZDQ)),?_⟩
 obtain ⟨dx,hS⟩:=U.sh.sh.self
 refine ⟨_,rfl,S,dx,_,rfl,hS,rfl,_,rfl,S,d,lk,ts,av,ho,as,kvs,ls,i,rfl,U,hi,fun v H' s' h'=>?_,fun j hj dd H' s' e=>?_⟩
 ·cases hs.uniq h'
  exact k H' s'
 ·cases hs.uniq hj
  exact ⟨CD,rfl,N.self,k H' s'⟩
def ZEo (CSh CTw:Addr):Sp:=fun vs H Q _=>∃ (S d lk:Addr) (ts:List Twg) (av:Nat->List Nat) (ho:Nat->Nat) (as:List TwA) (kvs:List (Key×V)) (ls:List V),vs=[.ref S]∧ShP CSh CTw H S d lk ts av ho as kvs ls ∧
 ∀ (H':Hp) (lk':Addr),H lk'=none->(∀ b o,b≠S->H b=some o->H' b=some o)->ShP CSh CTw H' S d lk' ts av ho as kvs []->Q .non H'
theorem ZKs:FnScope ["self"] ["self"] (ZAI ZF0):=⟨rfl,rfl,rfl,by decide +kernel,rfl,by decide +kernel,by decide +kernel⟩
theorem ZI4 (F:Fun K "forget" "Shelf.forget" ZF0 f fd) (L:ShF K mg CSh CTw):FnOk P w K mg base CX0 1 f fd ["self"] (ZEo CSh CTw):=by
 refine F.ok ZKs (fun vs H Q E h=>(by obtain ⟨_,_,_,_,_,_,_,_,_,rfl,_⟩:=h;rfl)) (fun cdv A outer s H vs Q E hr h=>?_)
 obtain ⟨S,d,lk,ts,av,ho,as,kvs,ls,rfl,R,k⟩:=h
 refine ⟨_,ZAH (ZCR (pv 0) (ZAx ZAC) rfl),?_⟩
 refine ⟨nn (Nat.le_of_ble_eq_true rfl),fun l' nl'=>?_⟩
 have g1:=ZAE nl' (.lst [])
 have R1:=R.same g1
 obtain ⟨dx,hS⟩:=R1.sh.self
 refine ⟨_,rfl,S,CSh,dx,_,rfl,hS,L.cS,L.nl,Nat.le_of_ble_eq_true rfl,?_⟩
 have Sl:S≠l':=fun z=>by rw [z,ZAA] at hS;cases hS
 have fr:∀ b o,b≠S->H b=some o->upd (upd H l' (.lst [])) S (.ins CSh dx (ZCK "looks" (.ref l') (ZJi d lk ts.length))) b=some o:=fun b o n e=>by rw [ZAG n];exact g1 _ _ e
 obtain ⟨⟨dS,hS0⟩,hd,hlk⟩:=R.sh
 have m:ZBn H (upd (upd H l' (.lst [])) S (.ins CSh dx (ZCK "looks" (.ref l') (ZJi d lk ts.length)))):=fun c xs e=>fr c _ (ZAJ e hS0 (by intro z;cases z)) e
 refine k _ l' nl' fr ⟨⟨⟨dx,ZAA⟩,fr _ _ (ZAJ hd hS0 (by intro z;cases z)) hd,(by rw [ZAG (Ne.symm Sl)];exact ZAA)⟩,R.keys,R.val,R.len,fun i hi=>?_,fun i hi=>?_,R.two⟩
 ·have W:=R.tw i hi
  obtain ⟨us,e1,_⟩:=W.things
  exact W.frame m (fun o e=>fr _ _ (R.own i hi).1 e) (fun o e=>fr _ _ (ZAJ e1 hS0 (by intro z;cases z)) e) (fun o e=>fr _ _ (ZAJ W.tw.above hS0 (by intro z;cases z)) e)
 ·obtain ⟨us,e1,_⟩:=(R.tw i hi).things
  exact ⟨(R.own i hi).1,ZAB (R.tw i hi).tw.above nl',ZAB e1 nl',(R.own i hi).2.2.2⟩
end
end Tw
namespace L2
open PySem PySem.Spec PyProof.Rows
def ZER:Value->Bool
 | .bool b=>b
 | _=>false
section
variable {X:Cx}
theorem ZDn:∀ {bs:List Bool} {us:List Value},Vals (bs.map V.bl) us->us=bs.map Value.bool
 | [],_,.nil=>rfl
 | b :: bs,_,.cons r t=>by
  have e:_=Value.bool b:=r
  rw [e,ZDn t];rfl
def ZKz:V->List V->Hp->VK->Prop:=fun x vs H Q=>∃ (l:Addr) (bs:List Bool),x=.ref l∧vs=[.bl true]∧H l=some (.lst (bs.map V.bl))∧Q (.int (bs.countP id:Nat)) H
theorem ZJn:MtM X "list.count" ZKz:=by
 intro pins s σ H x vs v us Q I rx rv h
 obtain ⟨l,bs,rfl,rfl,hH,q⟩:=h
 cases rx
 obtain ⟨u,rfl,ru⟩:=rv.one
 cases (show u=Value.bool true from ru)
 obtain ⟨z,its,n,r,hl,e⟩:=I.lstM hH
 have ei:=ZDn r
 subst ei
 refine call_meets F.slot_list_count ⟨_,e,rfl⟩ F.entry_list_count (F.args_list_count_2 _ _) (PySem.SeqAt.list_countAt l _ n none #[] (.bool true) ZER) ⟨e,fun y hy=>?_,?_⟩
 ·obtain ⟨b,hb,rfl⟩:=List.mem_map.mp (List.mem_toArray.mp hy)
  cases b with
  | true=>exact ZFJ (y:=.bl true) (x:=.bl true) rfl rfl rfl rfl
  | false=>exact ZFJ (y:=.bl false) (x:=.bl true) rfl rfl rfl rfl
 ·refine ⟨.int (bs.countP id:Nat),H,I.tok _,⟨s.toks,?_⟩,q⟩
  have e2:(bs.map Value.bool).toArray.toList.countP ZER=bs.countP id:=by
   rw [List.toList_toArray,List.countP_map]
   rfl
  rw [e2]
def ZLJ:V->List V->Hp->VK->Prop:=fun x vs H Q=>∃ (l:Addr) (bs:List Bool) (j:Nat),x=.ref l∧vs=[.bl true]∧H l=some (.lst (bs.map V.bl))∧bs[j]? = some true∧(∀ i,i<j->bs[i]? = some false)∧j<1000∧Q (.int (j:Nat)) H
theorem ZKm:MtM X "list.index" ZLJ:=by
 intro pins s σ H x vs v us Q I rx rv h
 obtain ⟨l,bs,j,rfl,rfl,hH,hj,hno,h1000,q⟩:=h
 cases rx
 obtain ⟨u,rfl,ru⟩:=rv.one
 cases (show u=Value.bool true from ru)
 obtain ⟨z,its,n,r,hl,e⟩:=I.lstM hH
 have ei:=ZDn r
 subst ei
 have hj1:j<bs.length:=(List.getElem?_eq_some_iff.mp hj).1
 have hjs:j<(bs.map Value.bool).toArray.size:=by simpa using hj1
 have at':∀ m (hm:m<(bs.map Value.bool).toArray.size) b,bs[m]? = some b->ZER (bs.map Value.bool).toArray[m]=b:=fun m hm b hb=>by
  have:(bs.map Value.bool).toArray[m]? = some (Value.bool b):=by simp [hb]
  rw [Array.getElem?_eq_getElem hm] at this
  rw [Option.some.inj this];rfl
 refine call_meets F.slot_list_index ⟨_,e,rfl⟩ F.entry_list_index (F.args_list_index_2 _ _) (PySem.SeqAt.list_indexAt l _ n none #[] (.bool true) ZER j hjs (by omega) (at' j hjs true hj) (fun m hm hlt=>at' m hm false (hno m hlt))) ⟨e,fun y hy=>?_,?_⟩
 ·obtain ⟨b,hb,rfl⟩:=List.mem_map.mp (List.mem_toArray.mp hy)
  cases b with
  | true=>exact ZFJ (y:=.bl true) (x:=.bl true) rfl rfl rfl rfl
  | false=>exact ZFJ (y:=.bl false) (x:=.bl true) rfl rfl rfl rfl
 ·exact ⟨.int (j:Nat),H,I.tok _,⟨_,rfl⟩,q⟩
theorem ZKQ {K:PySem.W.Frag} {o:Expr} {to:TE} {apos cpos p:Pos} {j:Nat} (ho:PE X o to) (hbase:attributeBase o "count" X.env (eval o X.env)=eval o X.env:=by rfl)
  (hfew:((backTo cpos (starEach [.Constant (.bool true) j p] X.env)).all (fun x=>!x.1)&&(backToKw cpos (keywordEach [] X.env)).all (fun x=>x.1.isSome)
   && decide (([.Constant (.bool true) j p]:List Expr).length+([]:List Keyword).length+(if ([]:List Keyword).isEmpty then 0 else 1)<30))=true:=by rfl)
  (hline:(apos.endLine==cpos.line)=true:=by rfl) (hK:X.K=K:=by rfl) :
  PE X (.Call (.Attribute o "count" apos) [.Constant (.bool true) j p] [] cpos) (tBM K "list" ZKz to (ZBT (tC (.bl true)) ZHO)):=by
 subst hK
 exact ZCX PySem.F.plainAttrs_list PySem.F.slot_list_count PySem.F.type_list_count ZJn ho (ZAL ZDQ ZAC) hbase hfew hline
theorem ZKe {K:PySem.W.Frag} {o:Expr} {to:TE} {apos cpos p:Pos} {j:Nat} (ho:PE X o to) (hbase:attributeBase o "index" X.env (eval o X.env)=eval o X.env:=by rfl)
  (hfew:((backTo cpos (starEach [.Constant (.bool true) j p] X.env)).all (fun x=>!x.1)&&(backToKw cpos (keywordEach [] X.env)).all (fun x=>x.1.isSome)
   && decide (([.Constant (.bool true) j p]:List Expr).length+([]:List Keyword).length+(if ([]:List Keyword).isEmpty then 0 else 1)<30))=true:=by rfl)
  (hline:(apos.endLine==cpos.line)=true:=by rfl) (hK:X.K=K:=by rfl) :
  PE X (.Call (.Attribute o "index" apos) [.Constant (.bool true) j p] [] cpos) (tBM K "list" ZLJ to (ZBT (tC (.bl true)) ZHO)):=by
 subst hK
 exact ZCX PySem.F.plainAttrs_list PySem.F.slot_list_index PySem.F.type_list_index ZKm ho (ZAL ZDQ ZAC) hbase hfew hline
end
end L2
namespace Tw
open PySem PySem.Spec L2 PyProof.Rows
theorem ZMO {X:Cx} {K:PySem.W.Frag} {e:Expr} {ta:TE} {f:Str} {pos:Pos} (he:PE X e ta) (hb:attributeBase e f X.env (eval e X.env)=eval e X.env) (hK:X.K=K:=by rfl):PE X (.Attribute e f pos) (ZNM K ta f):=by
 subst hK
 exact ZLe he hb
structure Nm (K:PySem.W.Frag) (mg:Str->Option Value) (CB:Addr) (C:Nat->Addr):Prop where
 base:mg "TwigError" = some (.ref CB)
 ty:PySem.W.typeIn K (.ref CB)=some (.type "type")
 mB:PySem.W.mroIn K CB (.type "BaseException")=some true
 n0:mg "NoKey" = some (.ref (C 0))
 n1:mg "NoLeaf" = some (.ref (C 1))
 n2:mg "NoStem" = some (.ref (C 2))
 n3:mg "NoTwig" = some (.ref (C 3))
 n4:mg "NotHeld" = some (.ref (C 4))
 n5:mg "Shared" = some (.ref (C 5))
structure XC (K:PySem.W.Frag) (CB:Addr) (C:Nat->Addr) (j:Nat):Prop where
 exc:ExcC K (C j)
 sub:PySem.W.mroIn K (C j) (.ref CB)=some true
 val:PySem.W.kitOne K (.ref (C j)) (.type "ValueError")=some true
 k:∀ i,i<6->PySem.W.kitOne K (.ref (C j)) (.ref (C i))=some (decide (i=j))
def nmW:Nat->Str
 | 0=> "key"
 | 1=> "leaf"
 | 2=> "stem"
 | 3=> "twig"
 | 4=> "held"
 | _=> "shared"
section
variable {P:Program} {w:World} {K:PySem.W.Frag} {mg:Str->Option Value} {base:Heap} {f:Addr} {fd:FuncData}
def ZPU (K:PySem.W.Frag) (CB:Addr) (C:Nat->Addr) (Q:VK):XK:=fun cls od H2=>∃ j,j<6∧cls=.ref (C j)∧XC K CB C j ∧
 ((j<3∧∀ H3 t,Same H2 H3->H3 t=some (.tup [.str (nmW j)])->Q (.ref t) H3) ∨
  (3<=j∧∃ dx x fI,od=some dx∧H2 dx=some (.xd [("number",.int x)])∧ExcF K (C j) fI "number" ∧ ∀ H3 t,Same H2 H3->H3 t=some (.tup [.str (nmW j),.int x])->Q (.ref t) H3))
def ZDg (P:Program) (w:World) (K:PySem.W.Frag) (mg:Str->Option Value) (base:Heap) (CB:Addr) (C:Nat->Addr):Sp:=fun vs H Q _=>∃ (f:Addr) (fd fd':FuncData) (spL:Sp),vs=[.ref f]∧FnOk P w K mg base (CXd P w) 12 f fd [] spL∧(∀ s,BindsTo s fd ⟨[],[]⟩ []) ∧
 H f=some (ZB7 f { cls:=.type "function",data:=.func fd' }) ∧
 ∀ (Q':VK) (E':XK),(∀ v H2,(∀ t:Addr,H2 t=none->Q (.ref t) (upd H2 t (.tup [.str "told",v])))->Q' v H2)->(∀ cls o H2,ZPU K CB C Q cls o H2->E' cls o H2)->spL [] H Q' E'
abbrev ZNr:List Str:=["_law_call","_law_found","e","_law_flags","_law_at"]
theorem scAsked:FnScope ZNr ["_law_call"] (ZAI ZJF):=⟨rfl,rfl,rfl,by decide +kernel,rfl,by decide +kernel,by decide +kernel⟩
abbrev fl6 (j:Nat):List Bool:=[decide (0=j),decide (1=j),decide (2=j),decide (3=j),decide (4=j),decide (5=j)]
theorem ZKK {CB:Addr} {C:Nat->Addr} (F:Fun K "_law_asked" "_law_asked" ZJF f fd) (T:Txt mg) (L:Nm K mg CB C):FnOk P w K mg base CX0 13 f fd ["_law_call"] (ZDg P w K mg base CB C):=by
 refine F.ok scAsked (fun vs H Q E h=>(by obtain ⟨_,_,_,_,rfl,_⟩:=h;rfl)) (fun cdv A outer s H vs Q E hr h=>?_)
 obtain ⟨g,gd,gd',spL,rfl,FL,bL,hg,hsp⟩:=h
 have nd:=scAsked.nd
 refine ⟨_,ZAD (ZAU (i:=1) nd rfl (Or.inl rfl) ZFT)
  (ZAD (ZHk (i:=2) (j:=1) (q:=0) FL hr bL rfl (Or.inl rfl) rfl rfl rfl rfl L.base nd rfl rfl L.ty L.mB
   (fun ea E'=>ZAD (ZAU (i:=3) nd rfl (Or.inl rfl) (ZAx (pa4 (ZAK (r:=ZFS K) ZGT rfl T.isi ZAM (ZAN (pv 2) (ZAN (ZAr (v:=.ref (C 0)) rfl L.n0 rfl) ZAC))) (ZAK (r:=ZFS K) ZGT rfl T.isi ZAM (ZAN (pv 2) (ZAN (ZAr (v:=.ref (C 1)) rfl L.n1 rfl) ZAC)))
     (ZAK (r:=ZFS K) ZGT rfl T.isi ZAM (ZAN (pv 2) (ZAN (ZAr (v:=.ref (C 2)) rfl L.n2 rfl) ZAC))) (ZAK (r:=ZFS K) ZGT rfl T.isi ZAM (ZAN (pv 2) (ZAN (ZAr (v:=.ref (C 3)) rfl L.n3 rfl) ZAC))))))
    (ZAD (ZAU (i:=3) nd rfl (Or.inl rfl) (ZAb ZFP (pv 3) (ZAx (ZAN (ZAK (r:=ZFS K) ZGT rfl T.isi ZAM (ZAN (pv 2) (ZAN (ZAr (v:=.ref (C 4)) rfl L.n4 rfl) ZAC))) (ZAN (ZAK (r:=ZFS K) ZGT rfl T.isi ZAM (ZAN (pv 2) (ZAN (ZAr (v:=.ref (C 5)) rfl L.n5 rfl) ZAC))) ZAC)))))
    (ZAD (ZAf (PW.pt (ZB9 (ZAX ZEN (ZKQ (K:=K) (pv 3)) ZAF (ZAW _))
     (ZB0 (ZAy (ZAg (ZAK (r:=ZFS K) ZGT rfl T.isi ZAM (ZAN (pv 2) (ZAN (ZAi (v:=.ty "ValueError") rfl T.ValueError ZEB rfl) ZAC)))))))) ZAd ZAR)
    (ZAD (ZAU (i:=4) nd rfl (Or.inl rfl) (ZKe (K:=K) (pv 3)))
    (ZAD (ZAf (ZAX ZHG (pv 4) ZAF (ZAW _)) (ZAH (ZAQ (ZAk (ZAN (ZAV (r:=rIx K) ZAP (ZAx (pa3 ZAl ZAl ZAl)) (pv 4) (fun _ _=>rfl)) ZAC)))) ZAR)
    (ZAH (ZAQ (ZAk (ZAN (ZAV (r:=rIx K) ZAP (ZAx (pa3 ZAl ZAl ZAl)) (ZAb ZCV (pv 4) ZAF) (fun _ _=>rfl)) (ZAN (ZMO (pv 2) (by rfl)) ZAC)))))))))) rfl rfl)
  (ZAH (ZAQ (ZAk (ZAN ZAl (ZAN (pv 1) ZAC)))))),?_⟩
 refine ⟨rfl,⟨gd',hg⟩,?_⟩
 refine hsp _ _ (fun v H2 k2=>?_) fun cls od H2 k2=>?_
 ·exact ⟨_,rfl,nn (Nat.le_of_ble_eq_true rfl),fun t ht=>k2 t ht⟩
 ·obtain ⟨j,hj,rfl,XJ,k3⟩:=k2
  refine ⟨C j,rfl,XJ.sub,fun ea hea=>?_⟩
  have g1:=ZAE hea (XO ZJl ea (C j) od)
  have ix:IsX (upd H2 ea (XO ZJl ea (C j) od)) ea (C j):=ZOu ZAA
  have ex1:upd H2 ea (XO ZJl ea (C j) od) ea=some (XO ZJl ea (C j) od):=ZAA
  generalize upd H2 ea (XO ZJl ea (C j) od)=H3 at g1 ix ex1 ⊢
  refine ⟨_,rfl,ea,C j,_,_,rfl,ix,XJ.exc,rfl,XJ.k 0 (by omega),_,rfl,ea,C j,_,_,rfl,ix,XJ.exc,rfl,XJ.k 1 (by omega),_,rfl,ea,C j,_,_,rfl,ix,XJ.exc,rfl,XJ.k 2 (by omega),_,rfl,ea,C j,_,_,rfl,ix,XJ.exc,rfl,XJ.k 3 (by omega),nn (Nat.le_of_ble_eq_true rfl),fun l1 hl1=>?_⟩
  have g2:=ZAE hl1 (.lst [.bl (decide (0=j)),.bl (decide (1=j)),.bl (decide (2=j)),.bl (decide (3=j))])
  have ix2:=ix.mono g2
  refine ⟨_,rfl,_,rfl,ea,C j,_,_,rfl,ix2,XJ.exc,rfl,XJ.k 4 (by omega),_,rfl,ea,C j,_,_,rfl,ix2,XJ.exc,rfl,XJ.k 5 (by omega),nn (Nat.le_of_ble_eq_true rfl),fun l2 hl2=>?_⟩
  have g3:=ZAE hl2 (.lst [.bl (decide (4=j)),.bl (decide (5=j))])
  refine ⟨l1,l2,_,_,rfl,rfl,g3 _ _ ZAA,ZAA,nn (Nat.le_of_ble_eq_true rfl),fun p hp=>?_⟩
  have g4:=ZAE hp (.lst ([V.bl (decide (0=j)),.bl (decide (1=j)),.bl (decide (2=j)),.bl (decide (3=j))]++[.bl (decide (4=j)),.bl (decide (5=j))]))
  have sm:=(g2.trans g3).trans g4
  generalize hH4:upd (upd (upd H3 l1 (.lst [.bl (decide (0=j)),.bl (decide (1=j)),.bl (decide (2=j)),.bl (decide (3=j))])) l2 (.lst [.bl (decide (4=j)),.bl (decide (5=j))])) p (.lst ([V.bl (decide (0=j)),.bl (decide (1=j)),.bl (decide (2=j)),.bl (decide (3=j))]++[.bl (decide (4=j)),.bl (decide (5=j))]))=H4 at sm ⊢
  have ep:H4 p=some (.lst ((fl6 j).map V.bl)):=by rw [<-hH4];exact ZAA
  have ix4:=ix.mono sm
  have ex4:=sm _ _ ex1
  have s24:=g1.trans sm
  have hcnt:(fl6 j).countP id=1:=by
   have:j=0∨j=1∨j=2∨j=3∨j=4∨j=5:=by omega
   rcases this with rfl | rfl | rfl | rfl | rfl | rfl <;> rfl
  have hix:(fl6 j)[j]? = some true:=by
   have:j=0∨j=1∨j=2∨j=3∨j=4∨j=5:=by omega
   rcases this with rfl | rfl | rfl | rfl | rfl | rfl <;> rfl
  have hno:∀ i,i<j->(fl6 j)[i]? = some false:=fun i hi=>by
   have:j=0∨j=1∨j=2∨j=3∨j=4∨j=5:=by omega
   have:i=0∨i=1∨i=2∨i=3∨i=4:=by omega
   rename_i h1
   rcases h1 with rfl | rfl | rfl | rfl | rfl | rfl <;> rcases this with rfl | rfl | rfl | rfl | rfl <;> first | rfl | omega
  refine ⟨_,rfl,.inl ⟨rfl,_,SqL.of ep⟩,p,_,rfl,rfl,ep,rfl,_,rfl,?_⟩
  refine ZHh (by rw [hcnt];rfl) ?_
  refine ⟨_,rfl,ea,C j,_,_,rfl,ix4,XJ.exc,rfl,XJ.val,_,rfl,ZAz ?_⟩
  refine ⟨_,rfl,.inl ⟨rfl,_,SqL.of ep⟩,p,_,j,rfl,rfl,ep,hix,hno,by omega,?_⟩
  refine ⟨_,rfl,_,_,rfl,rfl,_,rfl,?_⟩
  rcases k3 with ⟨j3,k3⟩ | ⟨j3,dx,x,fI,rfl,hdx,hXF,k3⟩
  ·rw [decide_eq_true (show (j:Int)<3 by omega)]
   refine ZBb ⟨nn (Nat.le_of_ble_eq_true rfl),fun l3 hl3=>⟨_,rfl,.inl ⟨l3,_,_,.str (nmW j),rfl,rfl,SqL.of ZAA,?_,nn (Nat.le_of_ble_eq_true rfl),fun t ht=>?_⟩⟩⟩
   ·have:j=0∨j=1∨j=2:=by omega
    rcases this with rfl | rfl | rfl <;> rfl
   ·exact k3 _ t ((s24.trans (ZAE hl3 _)).trans (ZAE ht _)) ZAA
  ·rw [decide_eq_false (show ¬ (j:Int)<3 by omega)]
   refine ZAz ⟨nn (Nat.le_of_ble_eq_true rfl),fun l3 hl3=>?_⟩
   have g5:=ZAE hl3 (.lst [.str "twig",.str "held",.str "shared"])
   refine ⟨_,rfl,_,_,rfl,rfl,.inl ⟨l3,_,_,.str (nmW j),rfl,rfl,SqL.of ZAA,?_,?_⟩⟩
   ·have:j=3∨j=4∨j=5:=by omega
    rcases this with rfl | rfl | rfl <;> rfl
   ·refine ⟨_,rfl,ZJl,ea,C j,dx,_,.int x,fI,rfl,g5 _ _ ex4,g5 _ _ (s24 _ _ hdx),hXF,rfl,nn (Nat.le_of_ble_eq_true rfl),fun t ht=>?_⟩
    exact k3 _ t ((s24.trans g5).trans (ZAE ht _)) ZAA
end
end Tw
namespace L2
open PySem PySem.Spec PyProof.Rows
section
variable {X:Cx}
theorem ZFF (hc:X.calm=true):ZBt X (.builtin "max") (fun xs H Q=>∃ (p:Addr) (ns:List Int),xs=[.ref p]∧SqL X.K H p (ns.map V.int)∧ns≠[]∧∀ m,m∈ns->(∀ x∈ns,x<=m)->Q (.int m) H):=by
 intro pins s σ H xs us Q I r h
 obtain ⟨p,ns,rfl,hq,hne,q⟩:=h
 obtain ⟨u,rfl,ru⟩:=ZB8 r
 cases ru
 obtain ⟨its,rv,pl,hz⟩:=I.list hq
 have hi:=ZCo rv
 obtain ⟨ys,e⟩:=hi.allInts.items
 have hl:=pl.isList
 rw [e] at hl
 have en:ys.toList.map (·.1)=ns:=by
  rw [<-nums_intItems,<-e]
  exact hi.numsOf
 have hlen:ys.size=ns.length:=by rw [<-en];simp
 have hpos:0<ys.size:=by
  rw [hlen]
  exact List.length_pos_iff.mpr hne
 refine max_intList (I.ok.hd hc) hl hpos fun v h' tk hv hk=>?_
 obtain ⟨b1,b2⟩:=argBest_gt (numAt ys) (ys.size - 1)
 generalize argBest (fun i j=>decide (numAt ys i > numAt ys j)) (ys.size - 1)=j at hv b1 b2
 have hj:j<ys.size:=by omega
 have at':∀ i (hi:i<ys.size),numAt ys i=ys[i].1:=fun i hi=>by unfold numAt;simp [hi]
 have ev:v=.int (numAt ys j) ys[j].2:=by
  have:=hv
  unfold intItems at this
  simp [hj] at this
  rw [at' j hj]
  exact this.symm
 have getn:∀ i (hi:i<ys.size),ns[i]? = some (numAt ys i):=fun i hi=>by rw [<-en,at' i hi];simp [hi]
 refine ⟨.int (numAt ys j),H,I.kept (t':=tk) hk,⟨_,ev⟩,q _ (List.mem_of_getElem? (getn j hj)) fun x hx=>?_⟩
 obtain ⟨i,hi',ei⟩:=List.getElem_of_mem hx
 have hi2:i<ys.size:=by omega
 have:=getn i hi2
 rw [List.getElem?_eq_getElem hi',ei] at this
 rw [Option.some.inj this]
 exact b2 i (by omega)
end
end L2
namespace Tw
open PySem PySem.Spec L2 PyProof.Rows
section
variable {X:Cx}
def ZIu:V->List V->Hp->VK->Prop:=fun x vs H Q=>∃ (l:Addr) (us:List V) (ks:List KT) (v:V) (t:KT) (j:Nat),x=.ref l∧vs=[v]∧H l=some (.lst us)∧KeysAt H ks us∧KeyAt H t v∧(∀ k∈ks,k.depth<=100)∧ks[j]? = some t∧(∀ i k,i<j->ks[i]? = some k->k.eqb t=false)∧j<1000∧Q (.int (j:Nat)) H
open Classical in
theorem ZIm {k:Nat} (hr:Room (k+3) X.A):MtM X "list.index" ZIu:=by
 intro pins s σ H x vs v us Q I rx rv h
 obtain ⟨l,ws,ks,v0,t,j,rfl,rfl,hH,hk,ht,hd,hj,hno,h1000,q⟩:=h
 cases rx
 obtain ⟨u,rfl,ru⟩:=rv.one
 obtain ⟨z,its,n,r,hl,e⟩:=I.lstM hH
 have kt:=ZEK I t v0 u ht ru
 have kv:=kvals_of I ks ws its hk r
 have lk:=kv.length
 have hj1:j<its.length:=by have:=(List.getElem?_eq_some_iff.mp hj).1;omega
 have hjs:j<its.toArray.size:=by simpa using hj1
 have at':∀ m (hm:m<its.toArray.size),∃ k,ks[m]? = some k∧KVal s.heap k its.toArray[m]:=fun m hm=>by
  have hm':m<its.length:=by simpa using hm
  obtain ⟨k',e1,e2⟩:=kv.get (List.getElem?_eq_getElem hm')
  exact ⟨k',e1,by simpa using e2⟩
 have eqv:∀ (y:Value) (k':KT),KVal s.heap k' y->decide (∃ k,KVal s.heap k y∧k.eqb t=true)=k'.eqb t:=fun y k' hy=>by
  cases c:k'.eqb t with
  | true=>exact decide_eq_true ⟨k',hy,c⟩
  | false=>
   refine decide_eq_false ?_
   rintro ⟨k2,h2,h3⟩
   have e1:=ZGw _ _ (KVal.inj k' k2 y hy h2)
   rw [e1,h3] at c
   cases c
 refine call_meets F.slot_list_index ⟨_,e,rfl⟩ F.entry_list_index (F.args_list_index_2 _ _) (PySem.SeqAt.list_indexAt l _ n none #[] u (fun y=>decide (∃ k,KVal s.heap k y∧k.eqb t=true)) j hjs (by omega) ?_ (fun m hm hlt=>?_)) ⟨e,fun y hy=>?_,?_⟩
 ·obtain ⟨k',e1,e2⟩:=at' j hjs
  rw [hj] at e1
  cases e1
  exact decide_eq_true ⟨t,e2,ZCY t⟩
 ·obtain ⟨k',e1,e2⟩:=at' m hm
  rw [eqv _ k' e2]
  exact hno m k' hlt e1
 ·obtain ⟨m,hm,em⟩:=List.getElem_of_mem (List.mem_toArray.mp hy)
  obtain ⟨k',e1,e2⟩:=at' m (by simpa using hm)
  have e3:KVal s.heap k' y:=by rw [<-em];simpa using e2
  rw [eqv y k' e3]
  exact ZEu k'.depth k' t _ y u (Nat.le_refl _) e3 kt ((Room.key hr.in1) (Nat.le_trans (hd k' (List.mem_of_getElem? e1)) (by omega)))
 ·exact ⟨.int (j:Nat),H,I.tok _,⟨_,rfl⟩,q⟩
end
end Tw
namespace Srt
open PySem PySem.W PyProof.Rows
structure Ans (lt:Nat->Nat->Bool):Prop where
 asym:∀ i j,lt i j=true->lt j i=false
 trans:∀ i j k,lt j i=false->lt k j=false->lt k i=false
def gt (p:Array Nat) (i:Nat):Nat:=p.getD i 0
theorem ZFf (p:Array Nat) (i:Nat):gt p i=(p[i]?).getD 0:=by unfold gt;rw [Array.getD_eq_getD_getElem?]
theorem ZGV {p:Array Nat} {i j:Nat} (hj:j<=p.size) (k:Nat):gt (kas_rev p i j) k=if i<=k∧k<j then gt p (i+j - 1 - k) else gt p k:=by
 rw [ZFf,ZFf,ZFf]
 unfold kas_rev
 rw [getElem?_mirror_all hj]
 split <;> rfl
theorem ZNw {p:Array Nat} {k l:Nat} (hk:k<p.size) (hl:l<=k) (x:Nat):gt (bubble p k (k - l)) x=if x=l then gt p k else if l<x∧x<=k then gt p (x - 1) else gt p x:=by
 rw [ZFf,ZFf,ZFf,ZFf,getElem?_bubble hk (k - l) (by omega)]
 have e:k - (k - l)=l:=by omega
 rw [e]
 split
 ·rfl
 ·split <;> rfl
def PB (n:Nat) (p:Array Nat):Prop:=p.Perm (List.toArray (List.range n))
theorem PB.size {n:Nat} {p:Array Nat} (h:PB n p):p.size=n:=by rw [h.size_eq];simp
theorem PB.lt {n:Nat} {p:Array Nat} (h:PB n p) {i:Nat} (hi:i<n):gt p i<n:=by
 have hs:=h.size
 rw [ZFf,Array.getElem?_eq_getElem (by omega)]
 have:p[i]'(by omega)∈(List.toArray (List.range n)):=h.mem_iff.mp (Array.getElem_mem _)
 simpa using this
theorem PB.rev {n:Nat} {p:Array Nat} (h:PB n p) (i j:Nat):PB n (kas_rev p i j):=(mirror_perm _ _ _ _).trans h
theorem PB.bub {n:Nat} {p:Array Nat} (h:PB n p) (i j:Nat):PB n (bubble p i j):=(bubble_perm _ _ _).trans h
section
variable {lt:Nat->Nat->Bool} {n:Nat} {cmp:Nat->Nat->(Bool->Shared->Prop)->Shared->Prop} {s:Shared}
def ZBN (lt:Nat->Nat->Bool) (p:Array Nat) (k:Nat):Prop:=∀ i j,i<=j->j<k->lt (gt p j) (gt p i)=false
def ZCS (lt:Nat->Nat->Bool) (p:Array Nat) (k:Nat):Prop:=∀ i j,i<=j->j<k->lt (gt p i) (gt p j)=false
theorem Ans.irr (O:Ans lt) (i:Nat):lt i i=false:=by
 cases h:lt i i with
 | false=>rfl
 | true=>exact absurd (O.asym i i h) (by rw [h];decide)
def ZFG (lt:Nat->Nat->Bool) (n:Nat) (cmp:Nat->Nat->(Bool->Shared->Prop)->Shared->Prop) (s:Shared):Prop:=∀ i j,i<n->j<n->∀ C:Bool->Shared->Prop,C (lt i j) s->cmp i j C s
theorem ZJf (O:Ans lt) (hc:ZFG lt n cmp s) {p:Array Nat} (hp:PB n p):∀ (f m N:Nat) (Q:Nat->Shared->Prop),f+m=N->N<=n->1<=m->ZBN lt p m ->
  (∀ m',m<=m'->m'<=N->ZBN lt p m'->(m'=N∨lt (gt p m') (gt p (m' - 1))=true)->Q m' s)->(kas_asc p f m).kasWp cmp Q s
 | 0,m,N,Q,h1,h2,h3,hs,hq=>hq m (Nat.le_refl _) (by omega) hs (.inl (by omega))
 | f+1,m,N,Q,h1,h2,h3,hs,hq=>by
  refine hc _ _ (hp.lt (i:=m) (by omega)) (hp.lt (i:=m - 1) (by omega)) _ ?_
  show (if lt (gt p m) (gt p (m - 1))=true then KasT.ret m else kas_asc p f (m+1)).kasWp cmp Q s
  cases hl:lt (gt p m) (gt p (m - 1)) with
  | true=>rw [if_pos rfl];exact hq m (Nat.le_refl _) (by omega) hs (.inr hl)
  | false=>
   rw [if_neg Bool.false_ne_true]
   refine ZJf O hc hp f (m+1) N Q (by omega) h2 (by omega) (fun i j hij hj=>?_) fun m' g1 g2 g3 g4=>hq m' (by omega) g2 g3 g4
   rcases Nat.lt_or_ge j m with h | h
   ·exact hs i j hij h
   ·have ej:j=m:=by omega
    subst ej
    rcases Nat.lt_or_ge i j with h' | h'
    ·exact O.trans _ _ _ (hs i (j - 1) (by omega) (by omega)) hl
    ·have:i=j:=by omega
     rw [this];exact O.irr _
def ZOt (lt:Nat->Nat->Bool) (p:Array Nat) (m q:Nat):Prop:=q+1<=m∧∀ i j,m - (q+1)<=i->i<m->m - (q+1)<=j->j<m->lt (gt p i) (gt p j)=false
theorem ZHC (O:Ans lt) {p:Array Nat} {m q:Nat} (hm:m<=p.size) (hf:ZOt lt p m q) (hn:ZCS lt p m):ZCS lt (kas_rev p (m - (q+1)) m) m:=by
 obtain ⟨h1,h2⟩:=hf
 have g (k:Nat):=ZGV (p:=p) (i:=m - (q+1)) hm k
 intro i j hij hj
 rw [g i,g j]
 split
 ·rename_i c1
  rw [if_pos ⟨by omega,by omega⟩]
  exact h2 _ _ (by omega) (by omega) (by omega) (by omega)
 ·rename_i c1
  split
  ·exact hn _ _ (by omega) (by omega)
  ·exact hn _ _ hij hj
theorem ZEX (O:Ans lt) (hc:ZFG lt n cmp s):∀ (f:Nat) (p:Array Nat) (m q N:Nat) (Q:Array Nat×Nat×Nat->Shared->Prop),PB n p->f+m=N->N<=n->ZCS lt p m->ZOt lt p m q ->
  (∀ p' m' q',PB n p'->m<=m'->m'<=N->ZCS lt p' m'->ZOt lt p' m' q'->Q (p',m',q') s)->(kas_desc f p m q).kasWp cmp Q s
 | 0,p,m,q,N,Q,hp,h1,h2,hn,hf,hq=>hq p m q hp (Nat.le_refl _) (by omega) hn hf
 | f+1,p,m,q,N,Q,hp,h1,h2,hn,hf,hq=>by
  have hf1:=hf.1
  have hs:=hp.size
  refine hc _ _ (hp.lt (i:=m) (by omega)) (hp.lt (i:=m - 1) (by omega)) _ ?_
  show (if lt (gt p m) (gt p (m - 1))=true then (if q > 0 then kas_desc f (kas_rev p (m - (q+1)) m) (m+1) 0 else kas_desc f p (m+1) 0) else .ask (p.getD (m - 1) 0) (p.getD m 0) fun d=>if d=true then .ret (p,m,q) else kas_desc f p (m+1) (q+1):KasT _).kasWp cmp Q s
  have more:∀ p':Array Nat,PB n p'->ZCS lt p' m->gt p' m=gt p m->lt (gt p m) (gt p (m - 1))=true->(∀ i,i<m->lt (gt p' i) (gt p (m - 1))=false)->ZCS lt p' (m+1):=fun p' _ hn' e hl hb i j hij hj=>by
   rcases Nat.lt_or_ge j m with h | h
   ·exact hn' i j hij h
   ·have ej:j=m:=by omega
    subst ej
    rcases Nat.lt_or_ge i j with h' | h'
    ·rw [e]
     exact O.trans _ _ _ (O.asym _ _ hl) (hb i h')
    ·have:i=j:=by omega
     rw [this];exact O.irr _
  cases hl:lt (gt p m) (gt p (m - 1)) with
  | true=>
   rw [if_pos rfl]
   split
   ·have hn':=ZHC O (by omega) hf hn
    have g (k:Nat):=ZGV (p:=p) (i:=m - (q+1)) (j:=m) (by omega) k
    refine ZEX O hc f _ (m+1) 0 N Q (hp.rev _ _) (by omega) h2 (more _ (hp.rev _ _) hn' (by rw [g m,if_neg (by omega)]) hl fun i hi=>?_) ⟨by omega,fun i j a1 a2 a3 a4=>?_⟩ fun p' m' q' b1 b2 b3 b4 b5=>hq p' m' q' b1 (by omega) b3 b4 b5
    ·rw [g i]
     split
     ·exact hf.2 _ _ (by omega) (by omega) (by omega) (by omega)
     ·exact hn _ _ (by omega) (by omega)
    ·have:i=j:=by omega
     rw [this];exact O.irr _
   ·refine ZEX O hc f _ (m+1) 0 N Q hp (by omega) h2 (more _ hp hn rfl hl fun i hi=>hn _ _ (by omega) (by omega)) ⟨by omega,fun i j a1 a2 a3 a4=>?_⟩ fun p' m' q' b1 b2 b3 b4 b5=>hq p' m' q' b1 (by omega) b3 b4 b5
    have:i=j:=by omega
    rw [this];exact O.irr _
  | false=>
   rw [if_neg Bool.false_ne_true]
   refine hc _ _ (hp.lt (i:=m - 1) (by omega)) (hp.lt (i:=m) (by omega)) _ ?_
   show (if lt (gt p (m - 1)) (gt p m)=true then KasT.ret (p,m,q) else kas_desc f p (m+1) (q+1)).kasWp cmp Q s
   cases hd:lt (gt p (m - 1)) (gt p m) with
   | true=>rw [if_pos rfl];exact hq p m q hp (Nat.le_refl _) (by omega) hn hf
   | false=>
    rw [if_neg Bool.false_ne_true]
    refine ZEX O hc f _ (m+1) (q+1) N Q hp (by omega) h2 (fun i j hij hj=>?_) ⟨by omega,fun i j a1 a2 a3 a4=>?_⟩ fun p' m' q' b1 b2 b3 b4 b5=>hq p' m' q' b1 (by omega) b3 b4 b5
    ·rcases Nat.lt_or_ge j m with h | h
     ·exact hn i j hij h
     ·have ej:j=m:=by omega
      subst ej
      rcases Nat.lt_or_ge i j with h' | h'
      ·exact O.trans _ _ _ hd (hn i (j - 1) (by omega) (by omega))
      ·have:i=j:=by omega
       rw [this];exact O.irr _
    ·rcases Nat.lt_or_ge i m with h | h
     ·rcases Nat.lt_or_ge j m with h' | h'
      ·exact hf.2 i j (by omega) h (by omega) h'
      ·have ej:j=m:=by omega
       subst ej
       exact O.trans _ _ _ hd (hf.2 i (j - 1) (by omega) h (by omega) (by omega))
     ·have ei:i=m:=by omega
      subst ei
      rcases Nat.lt_or_ge j i with h' | h'
      ·exact O.trans _ _ _ (hf.2 (i - 1) j (by omega) (by omega) (by omega) h') hl
      ·have:i=j:=by omega
       rw [this];exact O.irr _
theorem ZHI {p:Array Nat} {m:Nat} (hm:m<=p.size) (hn:ZCS lt p m):ZBN lt (kas_rev p 0 m) m:=fun i j hij hj=>by
 have g (k:Nat):=ZGV (p:=p) (i:=0) hm k
 rw [g i,g j,if_pos ⟨by omega,by omega⟩,if_pos ⟨by omega,by omega⟩]
 exact hn _ _ (by omega) (by omega)
theorem ZGy (O:Ans lt) (hc:ZFG lt n cmp s) {p:Array Nat} (hp:PB n p) {m N:Nat} {Q:Nat×Array Nat->Shared->Prop} (h1:1<=m) (h2:m<=N) (h3:N<=n) (hn:ZCS lt p m)
  (hq:∀ m' p',PB n p'->1<=m'->m'<=N->ZBN lt p' m'->Q (m',p') s):(kas_tail3 m N p).kasWp cmp Q s:=by
 unfold kas_tail3
 rw [KasT.kasWp_bind]
 exact ZJf O hc (hp.rev 0 m) (N - m) m N _ (by omega) h3 h1 (ZHI (by have:=hp.size;omega) hn) fun m' g1 g2 g3 _=>hq m' _ (hp.rev 0 m) (by omega) g2 g3
theorem ZDC (O:Ans lt) (hc:ZFG lt n cmp s) {p:Array Nat} (hp:PB n p) {m N:Nat} {Q:Nat×Array Nat->Shared->Prop} (h2:m+1<=N) (h3:N<=n) (hn:ZCS lt p (m+1))
  (hq:∀ m' p',PB n p'->1<=m'->m'<=N->ZBN lt p' m'->Q (m',p') s):(kas_descPart m N p).kasWp cmp Q s:=by
 unfold kas_descPart
 rw [KasT.kasWp_bind]
 refine ZEX O hc (N - (m+1)) p (m+1) 0 N _ hp (by omega) h3 hn ⟨by omega,fun i j a1 a2 a3 a4=>?_⟩ fun p' m' q' b1 b2 b3 b4 b5=>?_
 ·have:i=j:=by omega
  rw [this];exact O.irr _
 ·have hs:=b1.size
  show (if q' > 0 then kas_tail3 m' N (kas_rev p' (m' - (q'+1)) m') else kas_tail3 m' N p').kasWp cmp Q s
  split
  ·exact ZGy O hc (b1.rev _ _) (by omega) b3 h3 (ZHC O (by omega) b5 b4) hq
  ·exact ZGy O hc b1 (by omega) b3 h3 b4 hq
theorem ZKh (O:Ans lt) (hc:ZFG lt n cmp s) {p:Array Nat} (hp:PB n p) {Q:Nat×Array Nat->Shared->Prop} (h1:1<=n)
  (hq:∀ m' p',PB n p'->1<=m'->m'<=n->ZBN lt p' m'->Q (m',p') s):(kas_count n p).kasWp cmp Q s:=by
 unfold kas_count
 rw [KasT.kasWp_bind]
 have hs:=hp.size
 refine ZJf O hc hp (n - 1) 1 n _ (by omega) (Nat.le_refl _) (Nat.le_refl _) (fun i j hij hj=>?_) fun m g1 g2 g3 g4=>?_
 ·have:i=j:=by omega
  rw [this];exact O.irr _
 ·split
  ·exact hq m p hp g1 g2 g3
  ·rename_i hne
   have hm:m<n:=by have:m≠n:=fun e=>hne (by rw [e];simp);omega
   have hl:lt (gt p m) (gt p (m - 1))=true:=by
    rcases g4 with g4 | g4
    ·omega
    ·exact g4
   split
   ·rename_i hgt
    refine hc _ _ (hp.lt (i:=0) (by omega)) (hp.lt (i:=m - 1) (by omega)) _ ?_
    show (if lt (gt p 0) (gt p (m - 1))=true then KasT.ret (m,p) else kas_descPart m n (kas_rev p 0 m)).kasWp cmp Q s
    cases h0:lt (gt p 0) (gt p (m - 1)) with
    | true=>rw [if_pos rfl];exact hq m p hp g1 g2 g3
    | false=>
     rw [if_neg Bool.false_ne_true]
     have al:∀ i j,i<m->j<m->lt (gt p i) (gt p j)=false:=fun i j hi hj=>
      O.trans _ _ _ (g3 j (m - 1) (by omega) (by omega)) (O.trans _ _ _ h0 (g3 0 i (by omega) hi))
     have g (k:Nat):=ZGV (p:=p) (i:=0) (j:=m) (by omega) k
     refine ZDC O hc (hp.rev 0 m) (by omega) (Nat.le_refl _) (fun i j hij hj=>?_) hq
     rw [g i,g j]
     rcases Nat.lt_or_ge j m with h | h
     ·rw [if_pos ⟨by omega,by omega⟩,if_pos ⟨by omega,by omega⟩]
      exact al _ _ (by omega) (by omega)
     ·have ej:j=m:=by omega
      subst ej
      rcases Nat.lt_or_ge i j with h' | h'
      ·rw [if_pos ⟨by omega,h'⟩,if_neg (by omega)]
       exact O.trans _ _ _ (O.asym _ _ hl) (al _ _ (by omega) (by omega))
      ·have:i=j:=by omega
       rw [this,if_neg (by omega)];exact O.irr _
   ·have em:m=1:=by omega
    subst em
    refine ZDC O hc hp (by omega) (Nat.le_refl _) (fun i j hij hj=>?_) hq
    rcases Nat.lt_or_ge i j with h' | h'
    ·have ei:i=0:=by omega
     have ej:j=1:=by omega
     subst ei ej
     exact O.asym _ _ hl
    ·have:i=j:=by omega
     rw [this];exact O.irr _
theorem ZD9 (O:Ans lt) (hc:ZFG lt n cmp s) {p:Array Nat} (hp:PB n p) {k:Nat} (hk:k<n) (hs:ZBN lt p k):∀ (f l r:Nat) (Q:Nat->Shared->Prop),l<=r->r<=k->r - l<=f->(∀ i,i<l->lt (gt p k) (gt p i)=false)->(∀ i,r<=i->i<k->lt (gt p k) (gt p i)=true) ->
  (∀ l',l'<=k->(∀ i,i<l'->lt (gt p k) (gt p i)=false)->(∀ i,l'<=i->i<k->lt (gt p k) (gt p i)=true)->Q l' s)->(kas_place p k f l r).kasWp cmp Q s
 | 0,l,r,Q,h1,h2,h3,a,b,hq=>hq l (by omega) a fun i hi=>b i (by omega)
 | f+1,l,r,Q,h1,h2,h3,a,b,hq=>by
  unfold kas_place
  split
  ·exact hq l (by omega) a fun i hi=>b i (by omega)
  ·rename_i hlr
   refine hc _ _ (hp.lt (i:=k) hk) (hp.lt (i:=(l+r) / 2) (by omega)) _ ?_
   show (if lt (gt p k) (gt p ((l+r) / 2))=true then kas_place p k f l ((l+r) / 2) else kas_place p k f ((l+r) / 2+1) r).kasWp cmp Q s
   cases hl:lt (gt p k) (gt p ((l+r) / 2)) with
   | true=>
    rw [if_pos rfl]
    refine ZD9 O hc hp hk hs f l ((l+r) / 2) Q (by omega) (by omega) (by omega) a (fun i hi hik=>?_) hq
    cases h:lt (gt p k) (gt p i) with
    | true=>rfl
    | false=>
     have:=O.trans _ _ _ (hs ((l+r) / 2) i hi hik) h
     rw [hl] at this
     cases this
   | false=>
    rw [if_neg Bool.false_ne_true]
    refine ZD9 O hc hp hk hs f ((l+r) / 2+1) r Q (by omega) h2 (by omega) (fun i hi=>?_) b hq
    exact O.trans _ _ _ (hs i ((l+r) / 2) (by omega) (by omega)) hl
theorem ZK4 (O:Ans lt) (hc:ZFG lt n cmp s):∀ (f:Nat) (p:Array Nat) (k:Nat) (Q:Array Nat->Shared->Prop),PB n p->f+k=n->1<=k->ZBN lt p k->(∀ p',PB n p'->ZBN lt p' n->Q p' s)->(kas_bin f p k).kasWp cmp Q s
 | 0,p,k,Q,hp,h1,h2,hs,hq=>hq p hp (by rw [<-h1,Nat.zero_add];exact hs)
 | f+1,p,k,Q,hp,h1,h2,hs,hq=>by
  unfold kas_bin
  rw [KasT.kasWp_bind]
  have hz:=hp.size
  refine ZD9 O hc hp (by omega) hs k 0 k _ (Nat.zero_le _) (Nat.le_refl _) (by omega) (fun i hi=>absurd hi (by omega)) (fun i hi hk=>absurd hk (by omega)) fun l hl a b=>?_
  have g (x:Nat):=ZNw (p:=p) (k:=k) (l:=l) (by omega) hl x
  refine ZK4 O hc f _ (k+1) Q (hp.bub _ _) (by omega) (by omega) (fun i j hij hj=>?_) hq
  rw [g i,g j]
  by_cases e1:i=l
  ·rw [if_pos e1]
   by_cases e2:j=l
   ·rw [if_pos e2];exact O.irr _
   ·rw [if_neg e2,if_pos ⟨by omega,by omega⟩]
    exact O.asym _ _ (b (j - 1) (by omega) (by omega))
  ·rw [if_neg e1]
   by_cases e2:j=l
   ·rw [if_pos e2,if_neg (by omega)]
    exact a i (by omega)
   ·rw [if_neg e2]
    by_cases c1:l<i∧i<=k
    ·rw [if_pos c1,if_pos ⟨by omega,by omega⟩]
     exact hs _ _ (by omega) (by omega)
    ·rw [if_neg c1]
     by_cases c2:l<j∧j<=k
     ·rw [if_pos c2]
      exact hs _ _ (by omega) (by omega)
     ·rw [if_neg c2]
      exact hs _ _ hij (by omega)
theorem sort_ok (O:Ans lt) (hc:ZFG lt n cmp s) (h1:1<=n) {Q:Array Nat->Shared->Prop} (hq:∀ p,PB n p->ZBN lt p n->Q p s):(kas_sort n).kasWp cmp Q s:=by
 unfold kas_sort
 rw [KasT.kasWp_bind]
 refine ZKh O hc (p:=List.toArray (List.range n)) (Array.Perm.refl _) h1 fun m p hp g1 g2 g3=>?_
 show (if m<n then kas_bin (n - max m 1) p (max m 1) else .ret p:KasT _).kasWp cmp Q s
 split
 ·have e:max m 1=m:=by omega
  rw [e]
  exact ZK4 O hc (n - m) p m Q hp (by omega) g1 g3 hq
 ·have e:m=n:=by omega
  subst e
  exact hq p hp g3
end
end Srt
namespace Tw
open PySem PySem.Spec L2 PyProof.Rows
section
variable {prog:Program} {w:World} {A:Around} {E:Value->Shared->Prop} {s:Shared}
end
section
variable {prog:Program} {w:World} {A:Around} {E:Value->Shared->Prop} {s:Shared}
end
section
variable {X:Cx} {pins:List (Addr×Obj)} {σ:L2.St}
end
section
variable {X:Cx} {pins:List (Addr×Obj)} {σ:L2.St} {H:Hp} {s:Shared}
theorem ZM2 {a:Addr} {o:HO} (I:Inv X pins σ H s) (h0:X.s₀.heap.get? a=none) (hl:a≠X.env.locals) (hc:∀ x c,X.env.cells.lookup x=some c->c≠a) (hp:∀ p∈X.pn++pins,p.1≠a) (hn:H a=none)
  (new:ObjOk X.prog X.w (upd H a o) s.heap a o):Inv X pins σ (upd H a o) s:=by
 have nt:∀ {b:Addr} {u:HO},H b=some u->b≠a:=fun {b u} e z=>by rw [z,hn] at e;cases e
 refine ⟨I.ok,I.os,I.bare,⟨I.base.keep,I.base.slot,fun b ob q n hx=>?_,I.base.there,fun b xs q=>?_,fun b ob u q=>?_,fun b ps q=>?_⟩,I.loc,I.cell,?_,fun x c e=>?_,fun p hp'=>?_,fun b u e=>?_,I.len⟩
 ·rw [ZAG (fun z=>by rw [z,h0] at q;cases q)];exact I.base.free b ob q n hx
 ·have e:=I.base.tups b xs q
  rw [ZAG (nt e)];exact e
 ·have e:=I.base.frzs b ob u q
  rw [ZAG (nt e)];exact e
 ·obtain ⟨more,e⟩:=I.base.tbls b ps q
  exact ⟨more,by rw [ZAG (nt e)];exact e⟩
 ·rw [ZAG (Ne.symm hl)];exact I.free
 ·rw [ZAG (hc x c e)];exact I.freeC x c e
 ·obtain ⟨e,n,r⟩:=I.pin p hp'
  exact ⟨e,by rw [ZAG (hp p hp')];exact n,r⟩
 ·by_cases hb:b=a
  ·subst hb
   rw [ZAA] at e
   cases e
   exact new
  ·rw [ZAG hb] at e
   exact (I.hok b u e).stay (fun _ _ _ q=>q) (fun c q=>by rw [ZAG (nt q)];exact q) fun c xs q=>by rw [ZAG (nt q)];exact q
theorem Vals.getD {us:List V} {its:List Value} (r:Vals us its) {i:Nat} (h:i<us.length):RelV (us.getD i .non) (its.getD i Value.none):=by
 have hl:=r.length
 obtain ⟨u,e1,e2⟩:=r.get (i:=i) (x:=us[i]) (by simp [h])
 rw [List.getD_eq_getElem?_getD,List.getD_eq_getElem?_getD,e1,List.getElem?_eq_getElem h]
 exact e2
theorem ZG4 {us:List V} {its:List Value} (r:Vals us its):∀ (l:List Nat),(∀ i∈l,i<us.length)->Vals (l.map fun i=>us.getD i .non) (l.map fun i=>its.getD i Value.none)
 | [],_=>.nil
 | i :: l,h=>.cons (Vals.getD r (h i List.mem_cons_self)) (ZG4 r l fun j hj=>h j (List.mem_cons_of_mem _ hj))
theorem ZHB {ts:List KT} {us:List V} (hk:KeysAt H ts us):∀ (l:List Nat),(∀ i∈l,i<us.length)->KeysAt H (l.map fun i=>ts.getD i (.int 0)) (l.map fun i=>us.getD i .non)
 | [],_=>.nil
 | i :: l,h=>by
  have hi:=h i List.mem_cons_self
  obtain ⟨t,et,kt⟩:=hk.get (i:=i) (v:=us[i]) (by simp [hi])
  refine .cons (show KeyAt H (ts.getD i (.int 0)) (us.getD i .non) from ?_) (ZHB hk l fun j hj=>h j (List.mem_cons_of_mem _ hj))
  rw [List.getD_eq_getElem?_getD,List.getD_eq_getElem?_getD,et,List.getElem?_eq_getElem hi]
  exact kt
theorem range_getD {α:Type} (l:List α) (d:α):(List.range l.length).map (fun i=>l.getD i d)=l:=by
 apply List.ext_getElem
 ·simp
 ·intro i h1 h2
  simp [h2]
end
def tri (t:Int×Int×Int):KT:=.tup [.int t.1,.int t.2.1,.int t.2.2]
theorem ZMk (t u:Int×Int×Int):(tri t).plt (tri u)=(tri t).lt (tri u):=by
 obtain ⟨a,b,c⟩:=t
 obtain ⟨d,e,f⟩:=u
 unfold tri
 simp only [KT.plt,pltL,KT.lt,ltL,KT.eqb]
def ZCs (h:Heap) (ts:List (Int×Int×Int)) (vs:List Value):Prop:=KVals h (ts.map tri) vs
theorem ZIW {h:Heap} {t:Int×Int×Int} {v:Value} (x:KVal h (tri t) v):∃ (a:Addr) (k1 k2 k3:Tok),v=.ref a∧IsTup h a #[.int t.1 k1,.int t.2.1 k2,.int t.2.2 k3]:=by
 unfold tri at x
 rw [KVal] at x
 obtain ⟨a,us,rfl,ha,hk⟩:=x
 rw [KVals] at hk
 obtain ⟨v1,r1,rfl,k1,hk⟩:=hk
 rw [KVals] at hk
 obtain ⟨v2,r2,rfl,k2,hk⟩:=hk
 rw [KVals] at hk
 obtain ⟨v3,r3,rfl,k3,hk⟩:=hk
 rw [KVals] at hk
 subst hk
 rw [KVal] at k1 k2 k3
 obtain ⟨t1,rfl⟩:=k1
 obtain ⟨t2,rfl⟩:=k2
 obtain ⟨t3,rfl⟩:=k3
 exact ⟨a,t1,t2,t3,rfl,ha⟩
section
variable {prog:Program} {w:World} {A:Around} {E:Value->Shared->Prop} {s:Shared}
theorem ZNY {t u:Int×Int×Int} {x y:Value} {Q:Bool->Shared->Prop} (hx:KVal s.heap (tri t) x) (hy:KVal s.heap (tri u) y) (hu:A.units+2<cLine) (h:Q ((tri t).lt (tri u)) s):wpAny (model prog w) A (keyLt' (tuples' true) x y) Q E s:=by
 obtain ⟨a,k1,k2,k3,rfl,pa⟩:=ZIW hx
 obtain ⟨c,m1,m2,m3,rfl,pc⟩:=ZIW hy
 obtain ⟨t1,t2,t3⟩:=t
 obtain ⟨u1,u2,u3⟩:=u
 rw [<-ZMk] at h
 unfold tri at h
 rw [KT.plt,pltL,pltL,pltL,pltL] at h
 obtain ⟨⟨cl,dd,da',sl⟩,ho,hcl,n,hd⟩:=pa
 obtain ⟨⟨cl2,dd2,da2,sl2⟩,ho2,hcl2,n2,hd2⟩:=pc
 refine PySem.W.kat_lt ho hd ho2 hd2 ?_
 show PySem.W.KatLex prog w A true _ Q [(.int t1 k1,.int u1 m1),(.int t2 k2,.int u2 m2),(.int t3 k3,.int u3 m3)] 0 s
 have ltI:∀ (p q:Int) (tp tq:Tok) (Q':Bool->Shared->Prop),Q' ((KT.int p).plt (KT.int q)) s->wpAny (model prog w) A (oneLt' false (.int p tp) (.int q tq)) Q' (fun _ _=>False) s:=fun p q tp tq Q' hq=>by
  refine PySem.W.kat_one _ _ (ZEs 0 (.int p) (.int q) A _ _ (by simp [KT.depth]) ⟨tp,rfl⟩ ⟨tq,rfl⟩ (by simp [KT.cmp]) (by simp [KT.depth];omega) prog w _ _ ?_)
  exact hq
 have eqI:∀ p q:Int,(KT.int p).eqb (KT.int q)=(p==q):=fun p q=>by rw [KT.eqb]
 refine PySem.W.kat_cons (SeqAt.EqAt.int_int t1 k1 u1 m1 prog w _ _ ?_)
 refine PySem.W.kat_go (fun e=>PySem.W.kat_yes ?_) (fun e=>PySem.W.kat_no ?_)
 ·rw [eqI,e,if_pos rfl] at h
  refine PySem.W.kat_cons (SeqAt.EqAt.int_int t2 k2 u2 m2 prog w _ _ ?_)
  refine PySem.W.kat_go (fun e=>PySem.W.kat_yes ?_) (fun e=>PySem.W.kat_no ?_)
  ·rw [eqI,e,if_pos rfl] at h
   refine PySem.W.kat_cons (SeqAt.EqAt.int_int t3 k3 u3 m3 prog w _ _ ?_)
   refine PySem.W.kat_go (fun e=>PySem.W.kat_yes (PySem.W.kat_nil ?_)) (fun e=>PySem.W.kat_no ?_)
   ·rw [eqI,e,if_pos rfl] at h
    exact h
   ·rw [eqI,e,if_neg Bool.false_ne_true] at h
    exact ltI _ _ _ _ _ h
  ·rw [eqI,e,if_neg Bool.false_ne_true] at h
   exact ltI _ _ _ _ _ h
 ·rw [eqI,e,if_neg Bool.false_ne_true,KT.plt] at h
  exact oneLt_int h
theorem ZD7 {h:Heap}:∀ {ts:List (Int×Int×Int)} {vs:List Value},ZCs h ts vs->∃ fs,PySem.W.KatTups h vs fs∧fs.length=vs.length∧∀ v∈fs,∃ k t,v=Value.int k t
 | [],vs,x=>by
  unfold ZCs at x
  rw [List.map_nil,KVals] at x
  subst x
  exact ⟨[],.nil,rfl,fun v hv=>absurd hv (by simp)⟩
 | t :: ts,vs,x=>by
  unfold ZCs at x
  rw [List.map_cons,KVals] at x
  obtain ⟨v,r,rfl,kv,x⟩:=x
  obtain ⟨fs,h1,h2,h3⟩:=ZD7 (ts:=ts) (vs:=r) x
  obtain ⟨a,k1,k2,k3,rfl,pa⟩:=ZIW kv
  obtain ⟨o,ho,hc,n,hd⟩:=pa
  refine ⟨.int t.1 k1 :: fs,.cons ho hc hd rfl h1,by simp [h2],fun v hv=>?_⟩
  rcases List.mem_cons.mp hv with rfl | hv
  ·exact ⟨_,_,rfl⟩
  ·exact h3 v hv
theorem ZJm {ts:List (Int×Int×Int)} {ks:List Value} {Q:PyProof.Rows.SortKind->Shared->Prop} (hl:0<ks.length) (h:ZCs s.heap ts ks) (hq:Q (tuples' true) s):wpAny (model prog w) A (keyKind' ks.toArray) Q E s:=by
 obtain ⟨fs,h1,h2,h3⟩:=ZD7 h
 refine PySem.W.kat_kind (T:=.type "int") h1 (by omega) (fun v hv=>?_) (by decide) hq
 obtain ⟨k,t,rfl⟩:=h3 v hv
 exact PySem.W.Looks.of_pure rfl
theorem ZMC {ts:List (Int×Int×Int)} {vs:List Value} {Q:SortSt->Shared->Prop} (h2:2<=vs.length) (h64:vs.length<64) (h:ZCs s.heap ts vs) (hu:A.units+2<cLine)
  (hq:∀ (p:Array Nat) (st':SortSt),Srt.PB vs.length p->arrOf st'=p.map (PySem.W.kas_item (vs.toArray.zip vs.toArray))->failedOf st'=none->Q st' s) :
  wpAny (model prog w) A ((sortRuns').run (SortSt.mk' (tuples' true) (vs.toArray.zip vs.toArray) #[] 7 none)) (fun r s'=>Q r.2 s') E s:=by
 have hln:ts.length=vs.length:=by have:=KVals.length h;rwa [List.length_map] at this
 refine PySem.W.kat_run (G:=fun p s'=>s'=s∧Srt.PB vs.length p) rfl h2 h64 (fun p st' s' a1 a2 a3 a4=>?_) ?_
 ·obtain ⟨rfl,b1⟩:=a4
  exact hq p st' b1 a2 a3
 ·refine Srt.sort_ok (lt:=fun i j=>((ts.map tri).getD i (.int 0)).lt ((ts.map tri).getD j (.int 0))) ⟨fun i j=>ZDp _ _,fun i j k=>le_trans'⟩ (fun i j hi hj C hC=>?_) (by omega) fun p b1 b2=>⟨rfl,b1⟩
  unfold PySem.W.kas_ask
  have g:∀ i,i<vs.length->∃ t,(ts.map tri).getD i (.int 0)=tri t∧KVal s.heap (tri t) (vs.getD i Value.none):=fun i hi=>by
   obtain ⟨t,e1,e2⟩:=KVals.get h (List.getElem?_eq_getElem hi)
   rw [List.getElem?_map] at e1
   obtain ⟨t0,e0,rfl⟩:=Option.map_eq_some_iff.mp e1
   refine ⟨t0,by rw [List.getD_eq_getElem?_getD,List.getElem?_map,e0];rfl,?_⟩
   rw [List.getD_eq_getElem?_getD,List.getElem?_eq_getElem hi]
   exact e2
  obtain ⟨ti,ei,ki⟩:=g i hi
  obtain ⟨tj,ej,kj⟩:=g j hj
  refine ZNY ki kj hu ?_
  rw [<-ei,<-ej]
  exact hC
end
section
variable {X:Cx} {pins:List (Addr×Obj)} {σ:L2.St} {H:Hp} {s:Shared}
theorem ZHW {k:Nat} {l:Addr} {us:List V} {ts:List (Int×Int×Int)} {Q:VK} (hr:Room (k+2) X.A) (I:Inv X pins σ H s) (hl:SqL X.K H l us) (hk:KeysAt H (ts.map tri) us) (h64:us.length<64)
  (q:∀ (D:Addr) (ws:List V) (rs:List (Int×Int×Int)) (H':Hp),Same H H'->H D=none->H' D=some (.lst ws)->KeysAt H' (rs.map tri) ws->rs.Perm ts->Q (.ref D) H') :
  wpAny (model X.prog X.w) X.A (call (.builtin "sorted") [.ref l]) (EP X pins σ Q) X.xe s:=by
 obtain ⟨its,rv,pl,hz⟩:=I.list hl
 have hlen:=rv.length
 have hkl:=hk.length
 rw [List.length_map] at hkl
 have hr6:Room k X.A.in1.in1:=(Room.in1 (k:=k+1) hr).in1
 refine Calls.call_function_entry kind_sorted plain_sorted entry_sorted (args_sorted1 _) ?_
 unfold Builtin.«sorted»
 refine wpAny_bind (m:=checkCount "sorted" 1 1 _) (wpAny_pure ?_)
 refine wpAny_bind (collect_list pl.isList ?_ (by rw [sizeLine_eq];omega))
 refine wpAny_bind (wpAny_newList ?_ (by rw [sizeLine_eq];omega))
 have hsz:((s.heap.push (seqObj "list" #[] 0)).update s.heap.objs.size (Obj.mapSeq (· ++ its.toArray))).objs.size=s.heap.objs.size+1:=by rw [Heap.size_update,size_push']
 obtain ⟨h1,eh1⟩:∃ h1,((s.heap.push (seqObj "list" #[] 0)).update s.heap.objs.size (Obj.mapSeq (· ++ its.toArray))).push (seqObj "list" its.toArray 0)=h1:=⟨_,rfl⟩
 have hoL:h1.get? (s.heap.objs.size+1)=some (seqObj "list" its.toArray 0):=by rw [<-eh1,<-hsz];exact Heap.get?_push_size _ rfl
 have keep:∀ b o,s.heap.get? b=some o->h1.get? b=some o:=fun b o z=>by
  have hlt:b<s.heap.objs.size:=Heap.lt_size z
  rw [<-eh1,Heap.get?_push_ne _ _ _ (by rw [hsz];exact Nat.ne_of_lt (Nat.lt_succ_of_lt hlt)),Heap.get?_update_ne _ _ _ _ (Nat.ne_of_lt hlt),Heap.get?_push_ne _ _ _ (Nat.ne_of_lt hlt)]
  exact z
 have hs1:h1.objs.size=s.heap.objs.size+2:=by rw [<-eh1,size_push',hsz]
 obtain ⟨D,eD⟩:∃ D,s.heap.objs.size+1=D:=⟨_,rfl⟩
 rw [eD] at hoL
 have hDs:s.heap.objs.size<=D:=by omega
 have hHD:H D=none:=I.hok.fresh hDs
 have fD:ZEE X pins H D:=I.fpOk hDs hHD
 have h0D:X.s₀.heap.get? D=none:=Heap.get?_none_of_le (Nat.le_trans I.sz hDs)
 have I1:Inv X pins σ H { s with heap:=h1 }:=I.kept (t':=s.toks) keep
 have eD':((s.heap.push (seqObj "list" #[] 0)).update s.heap.objs.size (Obj.mapSeq (· ++ its.toArray))).objs.size=D:=hsz.trans eD
 show wpAny _ _ _ _ _ { s with heap:=((s.heap.push (seqObj "list" #[] 0)).update s.heap.objs.size (Obj.mapSeq (· ++ its.toArray))).push (seqObj "list" its.toArray 0) }
 rw [eh1,eD']
 refine wpAny_bind (wpAny_holding (wpAny_call_entry slot_list_sort ⟨_,hoL,rfl⟩ entry_list_sort ?body (args_list_sort _)))
 rw [list_sort_plain]
 refine wpAny_bind (listItems_at hoL rfl ?_)
 refine wpAny_bind (listUpdate_at hoL rfl ?_ (by rw [List.size_toArray,sizeLine_eq];omega) (Nat.zero_le _))
 have sb1:=Heap.SameBut.update h1 D (Obj.mapSeq fun _=>(#[]:Array Value))
 obtain ⟨e1,ho1⟩:∃ e1,(h1.update D (Obj.mapSeq fun _=>(#[]:Array Value))).get? D=some (seqObj "list" #[] e1):=⟨_,get?_update_seq hoL fun _=>#[]⟩
 obtain ⟨h2,eh2⟩:∃ h2,h1.update D (Obj.mapSeq fun _=>(#[]:Array Value))=h2:=⟨_,rfl⟩
 rw [eh2] at ho1 sb1
 show wpAny _ _ _ _ _ { s with heap:=h1.update D (Obj.mapSeq fun _=>(#[]:Array Value)) }
 rw [eh2]
 have I2:Inv X pins σ H { s with heap:=h2 }:=Inv.turned (s:={ s with heap:=h1 }) (t':=s.toks) (it:=D) I1 (fun b o n z=>(sb1.2 b n).trans z) fD.1 fD.2.1 fD.2.2.2.1 fD.2.2.2.2.1 fD.2.2.2.2.2
 refine wpAny_bind (seqEpoch_at ho1 rfl ?_)
 refine wpAny_bind (wpAny_newTuple ?_ (by show its.length<=_;rw [sizeLine_eq];omega))
 refine wpAny_bind (wpAny_newList ?_ (Nat.zero_le _))
 refine wpAny_holding ?_
 obtain ⟨h3,eh3⟩:∃ h3,(h2.push (seqObj "tuple" its.toArray 0)).push (seqObj "list" #[] 0)=h3:=⟨_,rfl⟩
 have keep3:∀ b o,h2.get? b=some o->h3.get? b=some o:=fun b o z=>by rw [<-eh3];exact Heap.get?_push_of_some _ (Heap.get?_push_of_some _ z)
 have I3:Inv X pins σ H { s with heap:=h3 }:=I2.kept (t':=s.toks) keep3
 have oo:h3.get? D=some (seqObj "list" #[] e1):=keep3 _ _ ho1
 have sv:ZCs h3 ts its:=kvals_of I3 _ _ _ hk rv
 show wpAny _ _ _ _ _ { s with heap:=(h2.push (seqObj "tuple" its.toArray 0)).push (seqObj "list" #[] 0) }
 rw [eh3]
 dsimp only
 have hfin:∀ (p:Array Nat),Srt.PB its.length p->EP X pins σ Q (.ref D) { s with heap:=h3.update D (Obj.mapSeq fun _=>List.toArray (p.toList.map fun i=>its.getD i Value.none)) }:=by
  intro p hp
  have hps:=hp.size
  have hmem:∀ i∈p.toList,i<us.length:=fun i hi=>by
   have:i∈(List.toArray (List.range its.length)):=hp.mem_iff.mp (Array.mem_toList_iff.mp hi)
   have:=(List.mem_range.mp (by simpa using this):i<its.length)
   omega
  have hpl:p.toList.length=its.length:=by rw [Array.length_toList,hps]
  have s2:=Heap.SameBut.update h3 D (Obj.mapSeq fun _=>List.toArray (p.toList.map fun i=>its.getD i Value.none))
  obtain ⟨c2,hc2⟩:∃ c2,(h3.update D (Obj.mapSeq fun _=>List.toArray (p.toList.map fun i=>its.getD i Value.none))).get? D=some (seqObj "list" (List.toArray (p.toList.map fun i=>its.getD i Value.none)) c2):=⟨_,get?_update_seq oo fun _=>List.toArray (p.toList.map fun i=>its.getD i Value.none)⟩
  have J2:Inv X pins σ H { s with heap:=h3.update D (Obj.mapSeq fun _=>List.toArray (p.toList.map fun i=>its.getD i Value.none)) }:=Inv.turned (s:={ s with heap:=h3 }) (t':=s.toks) (it:=D) I3 (fun b o n z=>(s2.2 b n).trans z) hHD fD.2.1 fD.2.2.2.1 fD.2.2.2.2.1 fD.2.2.2.2.2
  have J3:=ZM2 (a:=D) (o:=.lst (p.toList.map fun i=>us.getD i .non)) J2 h0D fD.2.1 fD.2.2.2.2.1 fD.2.2.2.2.2 hHD ⟨by rw [List.length_map,hpl,sizeLine_eq];omega,_,c2,ZG4 rv _ hmem,hc2⟩
  have g:=ZAE hHD (.lst (p.toList.map fun i=>us.getD i .non))
  refine ⟨.ref D,_,J3,rfl,q D _ (p.toList.map fun i=>ts.getD i (0,0,0)) _ g hHD ZAA ?_ ?_⟩
  ·have:=ZHB (hk.mono (Same.tups g) _ _) _ hmem
   have e2:(p.toList.map fun i=>(ts.map tri).getD i (.int 0))=(p.toList.map fun i=>ts.getD i (0,0,0)).map tri:=by
    rw [List.map_map]
    refine List.map_congr_left fun i hi=>?_
    have hi':=hmem i hi
    have hi2:i<ts.length:=by omega
    simp [List.getD_eq_getElem?_getD,List.getElem?_eq_getElem hi2]
   rw [e2] at this
   exact this
  ·have hpp:p.toList.Perm (List.range its.length):=by simpa using Array.perm_iff_toList_perm.mp hp
   have:=hpp.map (fun i=>ts.getD i (0,0,0))
   rw [show its.length=ts.length by omega,range_getD] at this
   exact this
 by_cases h2:its.length<2
 ·rw [if_pos (by rw [List.size_toArray];exact h2),if_pos (by rw [List.size_toArray];exact h2)]
  refine wpAny_bind (wpAny_pure (wpAny_bind (wpAny_pure ?_)))
  dsimp only
  have e0:((arrOf (SortSt.mk' general' (its.toArray.zip its.toArray) #[] 7 none)).map (·.2))=List.toArray ((List.toArray (List.range its.length)).toList.map fun i=>its.getD i Value.none):=by
   show ((its.toArray.zip its.toArray).map (·.2))=_
   apply Array.toList_inj.mp
   rw [Array.toList_map,ksk_zip]
   simp only [List.toList_toArray]
   rw [range_getD,List.map_snd_zip (by omega)]
  rw [e0]
  refine wpAny_bind (seqEpoch_at oo rfl ?_)
  refine wpAny_bind (listUpdate_at oo rfl ?_ (Nat.zero_le _) (by rw [List.size_toArray,List.length_map,List.toList_toArray,List.length_range,sizeLine_eq];omega))
  simp only [bne_self_eq_false,Bool.false_eq_true,if_false]
  exact wpAny_pure ⟨.none,rfl,wpAny_pure ⟨_,rfl,hfin _ (Array.Perm.refl _)⟩⟩
 ·rw [if_neg (by rw [List.size_toArray];exact h2),if_neg (by rw [List.size_toArray];exact h2)]
  refine wpAny_bind (ZJm (by omega) sv ?_)
  refine wpAny_bind (thn (ZMC (Q:=fun st' s''=>s''={ s with heap:=h3 }∧∃ p:Array Nat,Srt.PB its.length p∧arrOf st'=p.map (PySem.W.kas_item (its.toArray.zip its.toArray))∧failedOf st'=none)
   (by omega) (by omega) sv (by have a:=hr6.un;omega) fun p st' b1 b3 b4=>⟨rfl,p,b1,b3,b4⟩) fun r s'' hr'=>?_)
  obtain ⟨⟨⟩,st'⟩:=r
  obtain ⟨rfl,p,b1,b3,b4⟩:=hr'
  have hout:=PySem.W.kat_snds rfl b3
  dsimp only
  rw [hout]
  refine wpAny_bind (seqEpoch_at oo rfl ?_)
  refine wpAny_bind (listUpdate_at oo rfl ?_ (Nat.zero_le _) (by rw [List.size_toArray,List.length_map,Array.length_toList,b1.size,sizeLine_eq];omega))
  rw [b4]
  simp only [bne_self_eq_false,Bool.false_eq_true,if_false]
  exact wpAny_pure ⟨.none,rfl,wpAny_pure ⟨_,rfl,hfin p b1⟩⟩
end
end Tw
namespace L2
open PySem PySem.Spec PyProof.Rows
section
variable {X:Cx} {σ:St} {H:Hp}
theorem ZIt {J:It} {K:PySem.W.Frag} {ix:List Nat} {tt:TT} {te:TE} {Q:VK} {n:Nat} (item:Nat->V->Prop) (Pv:Addr->Nat->List V->Hp->Prop) (hn:n<sizeLine)
  (hgo:∀ D i ys H,i<n->Pv D i ys H->J.go i H) (hy:∀ D i ys H x H',i<n->Pv D i ys H->J.yld i H x H'->H'=H∧item i x) (hstop:∀ D ys H,Pv D n ys H->J.stop n H)
  (h0:∀ D,H D=none->Pv D 0 [] (upd H D (.lst [])))
  (step:∀ D i ys H x,H D=some (.lst ys)->ys.length<=i->i<n->item i x->Pv D i ys H->∃ a u v,x=.ref a∧SqT K H a [u,v]∧∀ (R:VK) (N:Hp->Prop),(∀ y H3,H3 D=some (.lst ys)->Pv D (i+1) (ys++[y]) (upd H3 D (.lst (ys++[y])))->R y H3)->(∀ H3,H3 D=some (.lst ys)->Pv D (i+1) ys H3->N H3) ->
   tt ([some u,some v]++ix.map fun i=>(σ[i]?).join) H fun c H2=>if c=true then te ([some u,some v]++ix.map fun i=>(σ[i]?).join) H2 R else N H2)
  (fin:∀ D ys H,H D=some (.lst ys)->Pv D n ys H->Q (.ref D) H):ZKO J 2 (ZML K) σ ix tt te H Q:=by
 intro D hD
 refine ⟨fun i m H=>m=n - i∧i<=n∧∃ ys,H D=some (.lst ys)∧ys.length<=i∧Pv D i ys H,⟨n,rfl,Nat.zero_le _,[],ZAA,Nat.le_refl _,h0 D hD⟩,?_⟩
 rintro i m H ⟨rfl,hi,ys,e,hl,p⟩
 by_cases hlt:i<n
 ·refine .inr ⟨hgo D i ys H hlt p,fun x H' y os ho=>?_⟩
  obtain ⟨rfl,it⟩:=hy D i ys H x H' hlt p y
  obtain ⟨a,u,v,rfl,hq,st⟩:=step D i ys _ x e hl hlt it p
  match os,ho with
  | [o1,o2],_=>
   refine ⟨a,_,rfl,hq,rfl,u,_,rfl,v,_,rfl,rfl,⟨[some u,some v],rfl,rfl⟩,?_⟩
   refine st _ _ (fun y H3 e3 p3=>?_) (fun H3 e3 p3=>?_)
   ·exact ⟨ys,n - (i+1),e3,by omega,by omega,rfl,hlt,ys++[y],ZAA,by rw [List.length_append,List.length_singleton];omega,p3⟩
   ·exact ⟨n - (i+1),by omega,rfl,hlt,ys,e3,by omega,p3⟩
 ·have e':i=n:=by omega
  subst e'
  exact .inl ⟨hstop D ys H p,fin D ys H e p⟩
end
end L2
namespace Tw
open PySem PySem.Spec L2 PyProof.Rows
theorem ZDd {X:Cx} {K:PySem.W.Frag} {k:Nat} {o e:Expr} {to:TE} {t:TA} {apos cpos:Pos} (hr:Room (k+3) X.A) (ho:PE X o to) (ha:PA X [e] t) (hbase:attributeBase o "index" X.env (eval o X.env)=eval o X.env:=by rfl)
  (hfew:((backTo cpos (starEach [e] X.env)).all (fun x=>!x.1)&&(backToKw cpos (keywordEach [] X.env)).all (fun x=>x.1.isSome)
   && decide (([e]:List Expr).length+([]:List Keyword).length+(if ([]:List Keyword).isEmpty then 0 else 1)<30))=true:=by rfl)
  (hline:(apos.endLine==cpos.line)=true:=by rfl) (hs:starEach [e] X.env=(false,eval e X.env) :: starEach [] X.env:=by rfl) (hplain:(backTo cpos (starEach [] X.env)).any (·.1)=false:=by rfl) (hK:X.K=K:=by rfl) :
  PE X (.Call (.Attribute o "index" apos) [e] [] cpos) (tBM K "list" ZIu to t):=by
 subst hK
 exact ZCX PySem.F.plainAttrs_list PySem.F.slot_list_index PySem.F.type_list_index (ZIm hr) ho ha hbase hfew hline hs hplain
def ZNg:List V->Hp->VK->Prop:=fun xs H Q=>∃ (l:Addr) (us:List V) (ts:List (Int×Int×Int)),xs=[.ref l]∧H l=some (.lst us)∧KeysAt H (ts.map tri) us∧us.length<64 ∧
 ∀ (D:Addr) (ws:List V) (rs:List (Int×Int×Int)) (H':Hp),Same H H'->H D=none->H' D=some (.lst ws)->KeysAt H' (rs.map tri) ws->rs.Perm ts->Q (.ref D) H'
theorem ZHT {X:Cx} {k:Nat} (hr:Room (k+2) X.A):ZBt X (.builtin "sorted") ZNg:=by
 intro pins s σ H xs us Q I r h
 obtain ⟨l,ws,ts,rfl,hl,hk,h64,q⟩:=h
 obtain ⟨u,rfl,ru⟩:=ZB8 r
 cases ru
 exact ZHW hr I (SqL.of hl) hk h64 q
theorem ZM3 {H:Hp} {ts:List (Int×Int×Int)} {us:List V} {i:Nat} {u:V} (h:KeysAt H (ts.map tri) us) (e:us[i]? = some u):∃ t a,t∈ts∧u=.ref a∧H a=some (.tup [.int t.1,.int t.2.1,.int t.2.2]):=by
 obtain ⟨t,et,kt⟩:=h.get e
 rw [List.getElem?_map] at et
 obtain ⟨r,er,rfl⟩:=Option.map_eq_some_iff.mp et
 unfold tri at kt
 rw [KeyAt] at kt
 obtain ⟨a,vs,rfl,ha,hk⟩:=kt
 rw [KeysAt] at hk
 obtain ⟨v1,r1,rfl,k1,hk⟩:=hk
 rw [KeysAt] at hk
 obtain ⟨v2,r2,rfl,k2,hk⟩:=hk
 rw [KeysAt] at hk
 obtain ⟨v3,r3,rfl,k3,hk⟩:=hk
 rw [KeysAt] at hk
 subst hk
 rw [KeyAt] at k1 k2 k3
 subst k1 k2 k3
 exact ⟨r,a,List.mem_of_getElem? er,rfl,ha⟩
structure LwP (H:Hp) (dT:Addr) (ts:List Twg) (bs:List Addr) (kvs:List (Key×V)):Prop where
 dict:H dT=some (.dK kvs)
 keys:kvs.map (·.1)=(List.range ts.length).map (fun i:Nat=>(Sum.inl (i:Int):Key))
 len:bs.length=ts.length
 tw:∀ i:Nat,i<ts.length->∃ tp us,ZBj kvs (Sum.inl (i:Int))=some (.ref tp)∧H tp=some (.tup [.str (kindOf (gd ts i)),.ref (bs.getD i 0)])∧H (bs.getD i 0)=some (.lst us)∧((gd ts i).h=0->KeysAt H (ZBA (gd ts i).rows) us)∧((gd ts i).h≠0->us=iN (gd ts i).bs)
theorem LwP.at {H:Hp} {dT:Addr} {ts:List Twg} {bs:List Addr} {kvs:List (Key×V)} (h:LwP H dT ts bs kvs):TwsAt H ts kvs:=⟨h.keys,fun i t e=>by
 have hi:i<ts.length:=(List.getElem?_eq_some_iff.mp e).1
 obtain ⟨tp,us,e1,e2,e3,e4,e5⟩:=h.tw i hi
 rw [ZNe e] at e2 e4 e5
 exact ⟨_,e1,tp,_,us,rfl,e2,e3,e4,e5⟩⟩
theorem LwP.frame {H H':Hp} {dT:Addr} {ts:List Twg} {bs:List Addr} {kvs:List (Key×V)} (h:LwP H dT ts bs kvs) (m:ZBn H H') (kd:H' dT=some (.dK kvs)) (kb:∀ i:Nat,i<ts.length->∀ o,H (bs.getD i 0)=some o->H' (bs.getD i 0)=some o):LwP H' dT ts bs kvs:=by
 refine ⟨kd,h.keys,h.len,fun i hi=>?_⟩
 obtain ⟨tp,us,e1,e2,e3,e4,e5⟩:=h.tw i hi
 exact ⟨tp,us,e1,m _ _ e2,kb i hi _ e3,fun z=>(e4 z).mono m _ _,e5⟩
theorem LwP.same {H H':Hp} {dT:Addr} {ts:List Twg} {bs:List Addr} {kvs:List (Key×V)} (h:LwP H dT ts bs kvs) (s:Same H H'):LwP H' dT ts bs kvs:=h.frame (Same.tups s) (s _ _ h.dict) fun i hi o e=>s _ _ e
theorem LwP.sx {H H':Hp} {p dT:Addr} {ts:List Twg} {bs:List Addr} {kvs:List (Key×V)} (h:LwP H dT ts bs kvs) (W:WellAt H p) (hp:∀ i:Nat,i<ts.length->bs.getD i 0≠p) (s:SameX p H H'):LwP H' dT ts bs kvs:=by
 obtain ⟨xs,e⟩:=W.some
 exact h.frame (s.tupsW W) (s _ _ h.dict (ZAJ h.dict e (by intro z;cases z))) fun i hi o e'=>s _ _ e' (hp i hi)
theorem LwP.lawT {gt:List KT} {H:Hp} {dT:Addr} {ts:List Twg} {bs:List Addr} {kvs:List (Key×V)} (h:LwP H dT ts bs kvs) (hw:WF gt ts) (hl:gt.length=64) (up:gt.Pairwise fun a b=>a.lt b=true):LawT gt H dT ts kvs:=⟨h.dict,h.at,hw,hl,up⟩
theorem ZFx {gt:List KT} (up:gt.Pairwise fun a b=>a.lt b=true) {t:KT} (h:t∈gt):∃ j,j<gt.length∧gt[j]? = some t∧∀ i k,i<j->gt[i]? = some k->k.eqb t=false:=by
 obtain ⟨j,hj,e⟩:=List.getElem_of_mem h
 have ej:gt[j]? = some t:=by rw [List.getElem?_eq_getElem hj,e]
 refine ⟨j,hj,ej,fun i k hi hk=>?_⟩
 have:=ZF9 up hi hk ej
 cases c:k.eqb t with
 | false=>rfl
 | true=>
  have e2:=ZGw _ _ c
  subst e2
  rw [ZF5] at this
  cases this
theorem ZJE {gt:List KT} {ts:List Twg} {i:Nat} {t:Twg} (h:TwOk gt ts i t):(ZA1 t).lo∈gt∧(ZA1 t).hi∈gt:=by
 obtain ⟨r,rs,e,el⟩:=ZBv h.ne
 obtain ⟨rs',r',e',eh⟩:=ZEm h.ne
 rw [el,eh]
 exact ⟨(h.inn r (by rw [e];simp)).1,(h.inn r' (by rw [e'];simp)).1⟩
section
variable {P:Program} {w:World} {K:PySem.W.Frag} {mg:Str->Option Value} {base:Heap} {f:Addr} {fd:FuncData}
structure Grd (gt:List KT) (H:Hp) (gl:Addr) (gs:List V):Prop where
 at_:H gl=some (.lst gs)
 keys:KeysAt H gt gs
 fit:∀ t∈gt,t.fits 3=true
 len:gt.length=64
 up:gt.Pairwise fun a b=>a.lt b=true
theorem Grd.frame {gt:List KT} {H H':Hp} {gl:Addr} {gs:List V} (g:Grd gt H gl gs) (m:ZBn H H') (k:H' gl=some (.lst gs)):Grd gt H' gl gs:=⟨k,g.keys.mono m _ _,g.fit,g.len,g.up⟩
theorem Grd.same {gt:List KT} {H H':Hp} {gl:Addr} {gs:List V} (g:Grd gt H gl gs) (s:Same H H'):Grd gt H' gl gs:=g.frame (Same.tups s) (s _ _ g.at_)
theorem Grd.sx {gt:List KT} {H H':Hp} {p gl:Addr} {gs:List V} (g:Grd gt H gl gs) (W:WellAt H p) (n:gl≠p) (s:SameX p H H'):Grd gt H' gl gs:=g.frame (s.tupsW W) (s _ _ g.at_ n)
def ZJw (gt:List KT):Sp:=fun vs H Q _=>∃ (p dT dH gl:Addr) (ts:List Twg) (bs:List Addr) (kvs hvs:List (Key×V)) (ho:Nat->Nat) (gs:List V),vs=[.ref p,.ref dT,.ref dH,.ref gl]∧WellAt H p∧LwP H dT ts bs kvs∧(∀ i:Nat,i<ts.length->bs.getD i 0≠p)∧WF gt ts∧H dH=some (.dK hvs)∧ZJG hvs ts.length ho∧Grd gt H gl gs∧gl≠p∧0<ts.length∧ts.length<64 ∧
 ∀ (H':Hp) (D:Addr) (ns:List Nat),SameX p H H'->WellAt H' p->H D=none->H' D=some (.lst (iN ns))->(∀ b∈ns,b<ts.length)->ns.length<=4->Q (.ref D) H'
abbrev ZPE:List Str:=["_law_well_here","_law_twigs","_law_holds","_law_grid_here","_law_some","_law_run_here","_law_last","_law_at","_law_most","_law_labels","_law_low","_law_top","_law_number"]
theorem scRun:FnScope ZPE ["_law_well_here","_law_twigs","_law_holds","_law_grid_here"] (ZAI ZOG):=⟨rfl,rfl,rfl,by decide +kernel,rfl,by decide +kernel,by decide +kernel⟩
theorem nd2:(["_law_label_here","_law_number","_law_grid_here","_law_last"]:List Str).Nodup:=by decide +kernel
theorem ZNQ {gt:List KT} (F:Fun K "_law_run" "_law_run" ZOG f fd) (T:Txt mg) (DP:DefOk P w K mg base 1 "_law_pull" ["_law_well_here","_law_many"] ZCy) (DK:DefOk P w K mg base 2 "_law_picked" ["_law_well_here","_law_some"] ZCU) (DL:DefOk P w K mg base 2 "_law_label" ["_law_twigs","_law_number"] (ZCZ gt)) :
  FnOk P w K mg base CX0 4 f fd ["_law_well_here","_law_twigs","_law_holds","_law_grid_here"] (ZJw gt):=by
 refine F.ok scRun (fun vs H Q E h=>(by obtain ⟨_,_,_,_,_,_,_,_,_,_,rfl,_⟩:=h;rfl)) (fun cdv A outer s H vs Q E hr h=>?_)
 obtain ⟨p,dT,dH,gl,ts,bs,kvs,hvs,ho,gs,rfl,W,LW,bp,hw,hdH,hH,G,glp,l0,l64,k⟩:=h
 have nd:=scRun.nd
 have hu:=ZCW hr
 have hr1:=hr.mono (show 1<=3 by omega)
 have hr2:=hr.mono (show 2<=3 by omega)
 refine ⟨_,ZAD (ZB3 (i:=4) [2] ["_law_holds"] nd rfl rfl rfl (ZA5 (ZAK (ZBU rfl) rfl T.sorted ZBX (ZAN (pv 1) ZAC))) (fun _ _ _ _ _=>ZGJ (ZAX ZGI (ZBJ hu (pv 1) (pv 0) (fun _ _=>rfl)) ZAF (ZAW _))) (fun _ _ _ _ _=>pv 0) ⟨rfl,.inl rfl,rfl,trivial⟩)
  (ZAD (ZAf (PW.pt (ZB9 (ZAX ZCA (ZAT DP hr1 (ZAN (pv 0) (ZAN ZAF ZAC))) ZAF (ZAW _)) (ZB0 (ZAX (ZCc hr.units0) (pv 4) (ZAx ZAC) (ZAW _))))) (ZAH (ZAU (i:=4) nd rfl (Or.inl rfl) (ZAK (ZBU rfl) rfl T.sorted ZBX (ZAN (pv 1) ZAC)))) ZAR)
  (ZAD (ZAU (i:=5) nd rfl (Or.inl rfl) (ZAx (ZAN (ZAT DK hr2 (ZAN (pv 0) (ZAN (pv 4) ZAC))) ZAC)))
  (ZAD (ZAU (i:=6) nd rfl (Or.inr rfl) (ZAT DL hr2 (ZAN (pv 1) (ZAN (ZAV (r:=rIx K) ZAP (pv 5) ZAF (fun _ _=>rfl)) ZAC))))
  (ZAD (ZAU (i:=7) nd rfl (Or.inl rfl) (ZDd (K:=K) hr (pv 3) (ZAN (ZAV (r:=rIx K) ZAP (pv 6) ZAF (fun _ _=>rfl)) ZAC)))
  (ZAD (ZAU (i:=8) nd rfl (Or.inl rfl) (ZAb ZBE ZAF (ZAT DP hr1 (ZAN (pv 0) (ZAN ZAF ZAC)))))
  (ZAD (ZB3 (i:=9) [1] ["_law_twigs"] nd rfl rfl rfl (ZA5 (pv 4)) (fun _ _ _ _ _=>ZBM) (fun _ _ _ _ _=>ZAk (ZAN (ZAT DL hr2 (ZAN (pv 1) (ZAN (pv 0) ZAC))) (ZAN (pv 0) ZAC))) ⟨rfl,.inl rfl,rfl,trivial⟩)
  (ZAD (ZDc (g:=ZML K) ["_law_label_here","_law_number"] "_law_label_here" (i:=4) [3,6] ["_law_grid_here","_law_last"] nd rfl rfl rfl (fun _ _ _ _ _=>ZLY rfl nd2 rfl rfl rfl rfl) (ZA5 (pv 9))
   (fun _ _ _ _ _=>ZGJ (ZAX ZCA (ZAV (r:=rIx K) ZAP (pv 0) ZAF (fun _ _=>rfl)) (ZAV (r:=rIx K) ZAP (pv 3) ZAF (fun _ _=>rfl)) (ZAW _)))
   (fun _ _ _ _ _=>ZAk (pa3 (ZDd (K:=K) hr (pv 2) (ZAN (ZAV (r:=rIx K) ZAP (pv 0) ZAF (fun _ _=>rfl)) ZAC)) (ZDd (K:=K) hr (pv 2) (ZAN (ZAV (r:=rIx K) ZAP (pv 0) ZAF (fun _ _=>rfl)) ZAC)) (pv 1)))
   ⟨rfl,.inl rfl,rfl,rfl,.inl rfl,rfl,trivial⟩)
  (ZAD (ZBe PassesOwn.never rfl (ZA5 (ZAK (ZHT hr2) rfl T.sorted ZBX (ZAN (pv 4) ZAC))) (ZDu rfl (ZAj (ZAZ (i:=10) nd rfl (Or.inl rfl)) (ZAj (ZAZ (i:=11) nd rfl (Or.inl rfl)) (ZAj (ZAZ (i:=12) nd rfl (Or.inl rfl)) ZCp))))
   (ZAH (ZAf (PW.pt (ZGs (ZAX ZGI (pv 10) (pv 7) (ZAW _)) (ZEf (ZAX ZHG (ZAK ZAS rfl T.len ZAv (ZAN (pv 5) ZAC)) (pv 8) (ZAW _)))))
    (ZAD (ZA2 (ZCX PySem.F.plainAttrs_list PySem.F.slot_list_append PySem.F.type_list_append ZAu (pv 5) (ZAN (pv 12) ZAC))) (ZAH (ZAU (i:=7) nd rfl (Or.inl rfl) (pv 11)))) ZAR)))
  (ZAH (ZAQ (pv 5))))))))))),?_⟩
 have eI:((List.range ts.length).map fun i:Nat=>(i:Int)).map V.int=iN (List.range ts.length):=by rw [List.map_map];rfl
 obtain ⟨xsP,hpW⟩:=W.some
 have pnone:∀ c,H c=none->c≠p:=fun c e=>(ZAB hpW e).symm
 have dep:∀ t∈gt,t.depth<=100:=fun t ht=>Nat.le_trans (ZBD t 3 (G.fit t ht)) (by omega)
 refine ⟨_,rfl,dT,kvs,(List.range ts.length).map fun i:Nat=>(i:Int),rfl,LW.dict,(by rw [LW.keys,List.map_map];rfl),ZBf _,by simpa using l64,fun q nq=>?_⟩
 rw [eI]
 have g1:=ZAE nq (.lst (iN (List.range ts.length)))
 have hq:upd H q (.lst (iN (List.range ts.length))) q=some (.lst (iN (List.range ts.length))):=ZAA
 generalize upd H q (.lst (iN (List.range ts.length)))=H1 at g1 hq ⊢
 refine ⟨q,rfl,⟨_,SqL.of hq⟩,ZG5 (List.range ts.length) (fun j=>decide (0<ho j)) (by simp;omega) (fun i H3 s3 hi=>⟨_,.int (i:Nat),SqL.of (s3 _ _ hq),by simp [iN,List.getElem?_range (by simpa using hi)]⟩) (fun i H3 x H4 s3 hi hy=>⟨hy.1,hy.2 _ (SqL.of (s3 _ _ hq))⟩) (fun H3 s3=>⟨_,SqL.of (s3 _ _ hq),by simp [iN]⟩) (fun H2 j R hj s2 hR=>?_) (fun D5 H2 s2 nD4 e5=>?_)⟩
 ·have jl:j<ts.length:=List.mem_range.mp hj
  have hg:DGet H2 dH (.int (j:Nat)) (some (.int (ho j:Nat))):=hH.2 j jl ▸ DGet.k (k:=Sum.inl (j:Int)) ((g1.trans s2) _ _ hdH)
  have ed:decide (((ho j:Nat):Int) > 0)=decide (0<ho j):=by rw [decide_eq_decide];omega
  refine ⟨_,rfl,_,rfl,dH,.int (ho j:Nat),rfl,hg,_,_,rfl,rfl,_,rfl,?_⟩
  rw [ed]
  exact hR
 have s02:=g1.trans s2
 have W2:=W.same s02
 have n5:H D5=none:=Same.free g1 nD4
 have b5:∀ b∈(List.range ts.length).filter (fun j=>decide (0<ho j)),b<ts.length:=fun b hb=>List.mem_range.mp (List.mem_filter.mp hb).1
 have l5:((List.range ts.length).filter (fun j=>decide (0<ho j))).length<64:=Nat.lt_of_le_of_lt (List.length_filter_le _ _) (by simp;omega)
 generalize (List.range ts.length).filter (fun j=>decide (0<ho j))=s5 at e5 b5 l5
 clear hq nD4
 refine ⟨_,rfl,p,8,rfl,W2,ZAw (by decide) (by decide),fun r H5 r0 r1 W5 s3=>?_⟩
 have x5:SameX p H H5:=(SameX.of s02).trans s3
 replace e5:=s3 _ _ e5 (pnone _ n5)
 clear s3 s02 W2 g1 s2
 refine ⟨rfl,_,rfl,?_⟩
 have freeX:∀ (H6:Hp) (q:Addr),SameX p H H6->WellAt H6 p->H6 q=none->H q=none:=fun H6 q x6 W6 e=>by
  cases z:H q with
  | none=>rfl
  | some o=>
   by_cases y:q=p
   ·subst y
    obtain ⟨xs,e'⟩:=W6.some
    rw [e'] at e;cases e
   ·rw [x6 _ _ z y] at e;cases e
 refine ZFO (fun c=>?gT) (fun c=>?gE)
 case' gE=>
  refine ⟨_,rfl,nn (Nat.le_of_ble_eq_true rfl),fun e0 he0=>?_⟩
  have g0:=ZAE he0 (.lst [])
  refine ⟨D5,e0,iN s5,rfl,rfl,SqL.of (g0 _ _ e5),SqL.of ZAA,_,rfl,?_⟩
  replace e5:=g0 _ _ e5
  replace W5:=W5.same g0
  replace x5:=x5.trans (SameX.of g0)
  generalize upd H5 e0 (.lst [])=H6 at g0 e5 W5 x5 ⊢
  clear g0 he0
  refine ZFO (fun c2=>?gT2) (fun c2=>?gF)
 case' gF=>
  have p5:0<s5.length:=by
   cases s5 with
   | nil=>exact absurd rfl c2
   | cons _ _=>simp
 case' gT=>
  refine ⟨_,rfl,dT,kvs,(List.range ts.length).map fun i:Nat=>(i:Int),rfl,(LW.sx W bp x5).dict,(by rw [LW.keys,List.map_map];rfl),ZBf _,by simpa using l64,fun D5 nq=>?_⟩
  rw [eI]
  have n5':H D5=none:=freeX _ D5 x5 W5 nq
  have g:=ZAE nq (.lst (iN (List.range ts.length)))
  replace x5:=x5.trans (SameX.of g)
  replace W5:=W5.same g
  clear n5
  have n5:=n5'
  replace e5:=ZAA (H:=H5) (a:=D5) (o:=HO.lst (iN (List.range ts.length)))
  replace b5:∀ b∈List.range ts.length,b<ts.length:=fun b hb=>List.mem_range.mp hb
  replace l5:(List.range ts.length).length<64:=by simpa using l64
  have p5:0<(List.range ts.length).length:=by simpa using l0
  generalize hss:List.range ts.length=s5 at b5 l5 p5 W5 x5 e5 g ⊢
 case' gT2=>
  refine ⟨_,rfl,dT,kvs,(List.range ts.length).map fun i:Nat=>(i:Int),rfl,(LW.sx W bp x5).dict,(by rw [LW.keys,List.map_map];rfl),ZBf _,by simpa using l64,fun D5 nq=>?_⟩
  rw [eI]
  have n5':H D5=none:=freeX _ D5 x5 W5 nq
  have g:=ZAE nq (.lst (iN (List.range ts.length)))
  replace x5:=x5.trans (SameX.of g)
  replace W5:=W5.same g
  clear n5
  have n5:=n5'
  replace e5:=ZAA (H:=H6) (a:=D5) (o:=HO.lst (iN (List.range ts.length)))
  replace b5:∀ b∈List.range ts.length,b<ts.length:=fun b hb=>List.mem_range.mp hb
  replace l5:(List.range ts.length).length<64:=by simpa using l64
  have p5:0<(List.range ts.length).length:=by simpa using l0
  generalize hss:List.range ts.length=s5 at b5 l5 p5 W5 x5 e5 g ⊢
 all_goals
  have hD5p:=pnone _ n5
  refine ⟨_,rfl,_,rfl,p,D5,iN s5,rfl,W5,hD5p,e5,by simpa [iN] using p5,by simp [iN];omega,fun x H7 x7 W7 hx=>?_⟩
  obtain ⟨b0,hb0,rfl⟩:=List.mem_map.mp hx
  have s07:=x5.trans x7
  have e57:=x7 _ _ e5 hD5p
  refine ⟨nn (Nat.le_of_ble_eq_true rfl),fun D6 n6=>?_⟩
  have g8:=ZAE n6 (.lst [.int (b0:Nat)])
  have h6:upd H7 D6 (.lst [.int (b0:Nat)]) D6=some (.lst [.int (b0:Nat)]):=ZAA
  have n6':H D6=none:=freeX _ D6 s07 W7 n6
  generalize upd H7 D6 (.lst [.int (b0:Nat)])=H8 at g8 h6 ⊢
  have s08:=s07.trans (SameX.of g8)
  have W8:=W7.same g8
  have e58:=g8 _ _ e57
  have bl0:=b5 b0 hb0
  refine ⟨_,rfl,_,rfl,.inl ⟨D6,_,0,.int (b0:Nat),rfl,rfl,SqL.of h6,rfl,dT,b0,ts,kvs,rfl,(LW.sx W bp s08).lawT hw G.len G.up,bl0,fun H9 v s9 hv=>?_⟩⟩
  obtain ⟨ta,vlo,vhi,rfl,ht9,klo9,khi9⟩:=hv
  have s09:=s08.trans (SameX.of s9)
  have W9:=W8.same s9
  have ob0:=hw b0 _ (ZA8 bl0)
  obtain ⟨j0,hj0,ej0,nj0⟩:=ZFx G.up (ZJE ob0).2
  have G9:=G.sx W glp s09
  have l64':=G.len
  refine ⟨_,rfl,.inl ⟨rfl,_,SqL.of G9.at_⟩,_,rfl,.inr (.inl ⟨ta,_,2,vhi,rfl,rfl,SqT.of ht9,rfl,gl,gs,gt,vhi,_,j0,rfl,rfl,G9.at_,G9.keys,khi9,dep,ej0,nj0,by omega,?_⟩)⟩
  refine ⟨_,rfl,p,3,rfl,W9,ZAw (by decide) (by decide),fun r2 H10 r20 r21 W10 s10=>⟨_,_,rfl,rfl,?_⟩⟩
  have s010:=s09.trans s10
  have e510:=s10 _ _ (s9 _ _ e58) hD5p
  have hD6p:=pnone _ n6'
  have h610:=s10 _ _ (s9 _ _ h6) hD6p
  have tap:ta≠p:=fun z=>by
   obtain ⟨xs,q⟩:=W9.some
   rw [z,q] at ht9;cases ht9
  have ht10:=s10 _ _ ht9 tap
  refine ⟨_,rfl,D5,rfl,⟨_,SqL.of e510⟩,?_⟩
  refine ZA3 (n:=s5.length) (fun i z=>(iN s5)[i]? = some z) (fun D i ys H'=>Same H10 H'∧H10 D=none∧KeysAt H' ((s5.take i).map fun b:Nat=>KT.tup [(ZA1 (gd ts b)).kt,.int (b:Nat)]) ys) (ZAO (by omega))
   (fun D i ys H' hi hP=>⟨_,.int (s5[i]:Nat),SqL.of (hP.1 _ _ e510),by simp [iN,hi]⟩) (fun D i ys H' z H'' hi hP hy=>⟨hy.1,hy.2 _ (SqL.of (hP.1 _ _ e510))⟩) (fun D ys H' hP=>⟨_,SqL.of (hP.1 _ _ e510),by simp [iN]⟩)
   (fun D hD=>⟨ZAE hD _,hD,.nil⟩) (fun D i ys H' z eD hl' hi hz hP R hR=>?_) (fun D9 ys9 H11 hD9 hP=>?_)
  ·obtain ⟨s',nD,hys⟩:=hP
   have hz':z=.int (s5[i]:Nat):=by
    unfold iN at hz
    rw [List.getElem?_map,List.getElem?_eq_getElem hi] at hz
    exact (Option.some.inj hz).symm
   subst hz'
   have mi:s5[i]∈s5:=List.getElem_mem _
   have s0':=s010.trans (SameX.of s')
   refine ⟨_,rfl,_,rfl,dT,s5[i],ts,kvs,rfl,(LW.sx W bp s0').lawT hw G.len G.up,b5 _ mi,fun H12 v s12 hv=>⟨_,rfl,nn (Nat.le_of_ble_eq_true rfl),fun tq ntq=>?_⟩⟩
   have g:=ZAE ntq (.tup [v,.int (s5[i]:Nat)])
   have sA:=s12.trans g
   have eD':=sA _ _ eD
   have tD:ZBn (upd H12 tq (.tup [v,.int (s5[i]:Nat)])) (upd (upd H12 tq (.tup [v,.int (s5[i]:Nat)])) D (.lst (ys++[.ref tq]))):=fun b xs e=>by rw [ZAG (ZAJ e eD' (by intro z;cases z))];exact e
   refine hR _ _ eD' ⟨ZBK (s'.trans sA) nD,nD,?_⟩
   rw [List.take_add_one,List.getElem?_eq_getElem hi,List.map_append]
   exact ((hys.mono (Same.tups sA) _ _).mono tD _ _).append (.cons (.tup (tD _ _ ZAA) (.cons (((hv.key).mono (Same.tups g) _ _).mono tD _ _) (.cons (.int _) .nil))) .nil)
  obtain ⟨s11,nD9,hys9⟩:=hP
  rw [List.take_of_length_le (Nat.le_refl _)] at hys9
  have ly9:=hys9.length
  rw [List.length_map] at ly9
  have s011:=s010.trans (SameX.of s11)
  have W11:=W10.same s11
  have ht11:=s11 _ _ ht10
  refine ⟨_,rfl,D9,rfl,⟨_,SqL.of hD9⟩,?_⟩
  refine ZIt (K:=K) (n:=s5.length) (fun i z=>ys9[i]? = some z) (fun D i zs H'=>Same H11 H'∧H11 D=none∧∃ trs:List (Int×Int×Int),KeysAt H' (trs.map tri) zs∧(∀ t∈trs,∃ b:Nat,b<ts.length∧t.2.2=(b:Int))∧zs.length<=i) (ZAO (by omega))
   (fun D i ys H' hi hP=>⟨ys9,ys9[i],SqL.of (hP.1 _ _ hD9),by simp [show i<ys9.length by omega]⟩) (fun D i ys H' z H'' hi hP hy=>⟨hy.1,hy.2 ys9 (SqL.of (hP.1 _ _ hD9))⟩) (fun D ys H' hP=>⟨ys9,SqL.of (hP.1 _ _ hD9),by omega⟩)
   (fun D hD=>⟨ZAE hD _,hD,[],.nil,fun t ht=>absurd ht (by simp),Nat.le_refl _⟩) (fun D i zs H' z eD hl' hi hz hP=>?_) (fun D4 zs H12 hD4 hP=>?_)
  ·obtain ⟨s',nD,trs,hzs,htr,hlz⟩:=hP
   obtain ⟨kt,ekt,hkt⟩:=hys9.get hz
   rw [List.getElem?_map,List.getElem?_eq_getElem hi] at ekt
   have ekt':=(Option.some.inj ekt).symm
   subst ekt'
   have mi:s5[i]∈s5:=List.getElem_mem _
   rw [KeyAt] at hkt
   obtain ⟨pa,us2,rfl,hpa,hks⟩:=hkt
   rw [KeysAt] at hks
   obtain ⟨v1,r1,rfl,k1,hks⟩:=hks
   rw [KeysAt] at hks
   obtain ⟨v2,r3,rfl,k2,hks⟩:=hks
   rw [KeysAt] at hks
   subst hks
   rw [KeyAt] at k2
   subst k2
   have lb:=(ZE4 k1).mono (Same.tups s')
   obtain ⟨tb,lo',hi',rfl,htb,klo',khi'⟩:=lb
   have s0':=s011.trans (SameX.of s')
   have G':=G.sx W glp s0'
   have ht':=s' _ _ ht11
   have obi:=hw _ _ (ZA8 (b5 _ mi))
   obtain ⟨j1,hj1,ej1,nj1⟩:=ZFx G.up (ZJE obi).1
   obtain ⟨j2,hj2,ej2,nj2⟩:=ZFx G.up (ZJE obi).2
   refine ⟨pa,_,_,rfl,SqT.of (s' _ _ hpa),fun R N hR hN=>?_⟩
   refine ⟨_,rfl,.inr (.inl ⟨tb,_,0,_,rfl,rfl,SqT.of htb,rfl,_,rfl,.inr (.inl ⟨ta,_,0,_,rfl,rfl,SqT.of ht',rfl,rfl,_,rfl,?_⟩)⟩)⟩
   refine ZFO (fun c=>?_) (fun c=>hN _ eD ⟨s',nD,trs,hzs,htr,by omega⟩)
   refine ⟨_,rfl,.inl ⟨rfl,_,SqL.of G'.at_⟩,_,rfl,.inr (.inl ⟨tb,_,1,lo',rfl,rfl,SqT.of htb,rfl,gl,gs,gt,lo',_,j1,rfl,rfl,G'.at_,G'.keys,klo',dep,ej1,nj1,by omega,?_⟩)⟩
   refine ⟨_,rfl,.inl ⟨rfl,_,SqL.of G'.at_⟩,_,rfl,.inr (.inl ⟨tb,_,2,hi',rfl,rfl,SqT.of htb,rfl,gl,gs,gt,hi',_,j2,rfl,rfl,G'.at_,G'.keys,khi',dep,ej2,nj2,by omega,?_⟩)⟩
   refine ⟨_,rfl,nn (Nat.le_of_ble_eq_true rfl),fun tq ntq=>?_⟩
   have g:=ZAE ntq (.tup [.int (j1:Nat),.int (j2:Nat),.int (s5[i]:Nat)])
   have eD':=g _ _ eD
   have tD:ZBn (upd H' tq (.tup [.int (j1:Nat),.int (j2:Nat),.int (s5[i]:Nat)])) (upd (upd H' tq (.tup [.int (j1:Nat),.int (j2:Nat),.int (s5[i]:Nat)])) D (.lst (zs++[.ref tq]))):=fun b xs e=>by rw [ZAG (ZAJ e eD' (by intro z;cases z))];exact e
   refine hR _ _ eD' ⟨ZBK (s'.trans g) nD,nD,trs++[((j1:Int),(j2:Int),(s5[i]:Int))],?_,fun t ht=>?_,by simp;omega⟩
   ·rw [List.map_append]
    exact ((hzs.mono (Same.tups g) _ _).mono tD _ _).append (.cons (.tup (tD _ _ ZAA) (.cons (.int _) (.cons (.int _) (.cons (.int _) .nil)))) .nil)
   ·rcases List.mem_append.mp ht with h | h
    ·exact htr t h
    ·rw [List.mem_singleton.mp h]
     exact ⟨s5[i],b5 _ mi,rfl⟩
  obtain ⟨s12,nD4,trs,hzs,htr,hlz⟩:=hP
  have s012:=s011.trans (SameX.of s12)
  have W12:=W11.same s12
  refine ⟨_,rfl,D4,zs,trs,rfl,hD4,hzs,by omega,fun Ds ws rs H13 s13 nDs hDs hws hperm=>?_⟩
  have s013:=s012.trans (SameX.of s13)
  have W13:=W12.same s13
  have h613:=s13 _ _ (s12 _ _ (s11 _ _ h610))
  have DsD6:Ds≠D6:=fun z=>by
   rw [z,s12 _ _ (s11 _ _ h610)] at nDs;cases nDs
  refine ⟨Ds,rfl,⟨_,SqL.of hDs⟩,ZBo (K:=K) (a:=Ds) (xs:=ws) (fun i σ H'=>∃ (x10 x11 x12:Option V) (at':Int) (ns:List Nat),σ=[some (.ref p),some (.ref dT),some (.ref dH),some (.ref gl),some (.ref D4),some (.ref D6),some (.ref ta),some (.int at'),some (.int (2+r2)),some (.ref D9),x10,x11,x12]∧(∀ c o,c≠D6->H13 c=some o->H' c=some o)∧H' D6=some (.lst (iN ns))∧(∀ b∈ns,b<ts.length)∧ns.length<=4)
   ⟨_,_,_,_,[b0],rfl,fun c o _ e=>e,h613,fun b hb=>by rw [List.mem_singleton.mp hb];exact bl0,by simp⟩ (fun i σ H' _ hP=>?_) ?_ ?_⟩
  ·obtain ⟨_,_,_,_,_,_,k',_⟩:=hP
   exact SqL.of (k' _ _ DsD6 hDs)
  ·rintro i u σ H14 hu14 ⟨x10,x11,x12,at',ns,rfl,fr14,h614,hns,l4⟩
   obtain ⟨t,pa,mt,rfl,hpa⟩:=ZM3 hws hu14
   obtain ⟨b,hb,eb⟩:=htr t (hperm.subset mt)
   have hpa':=fr14 _ _ (ZAJ hpa h613 (by intro z;cases z)) hpa
   refine ⟨pa,_,rfl,SqT.of hpa',rfl,_,_,rfl,_,_,rfl,_,_,rfl,rfl,?_⟩
   refine ⟨_,rfl,_,rfl,_,_,rfl,rfl,_,rfl,ZFO (fun c1=>?_) (fun c1=>?_)⟩
   ·refine ⟨_,rfl,D6,_,rfl,.inl (SqL.of h614),_,rfl,_,_,rfl,rfl,_,rfl,ZFO (fun c2=>?_) (fun c2=>?_)⟩
    ·have hlt:ns.length<4:=by
      have:=of_decide_eq_true c2
      simp [iN] at this
      omega
     refine ⟨_,rfl,.inl ⟨rfl,_,SqL.of h614⟩,_,rfl,D6,_,_,rfl,rfl,h614,ZAO (by simp [iN];omega),?_⟩
     refine ⟨_,rfl,_,_,_,_,ns++[b],rfl,fun c o n e=>by rw [ZAG n];exact fr14 _ _ n e,?_,fun b' hb'=>?_,by simp;omega⟩
     ·rw [ZAA,eb]
      simp [iN]
     ·rcases List.mem_append.mp hb' with h | h
      ·exact hns b' h
      ·rw [List.mem_singleton.mp h];exact hb
    ·exact ⟨_,_,_,_,ns,rfl,fr14,h614,hns,l4⟩
   ·exact ⟨_,_,_,_,ns,rfl,fr14,h614,hns,l4⟩
  ·rintro σ H14 ⟨x10,x11,x12,at',ns,rfl,fr14,h614,hns,l4⟩
   have W14:WellAt H14 p:=by
    obtain ⟨a1,b1,c1,d1,hw',rr⟩:=W13.ex
    exact ⟨a1,b1,c1,d1,fr14 _ _ (Ne.symm hD6p) hw',rr⟩
   exact ⟨_,rfl,k H14 D6 ns (fun c o e n=>fr14 _ _ (ZAB e n6') (s013 _ _ e n)) W14 n6' h614 hns l4⟩
end
theorem ZGd (ts:List Twg) (t:Twg) (i:Nat):abv (ts++[t]) i=abv ts i++(if i∈t.bs then [ts.length] else []):=by
 unfold abv
 rw [List.length_append,List.length_singleton,List.range_succ,List.filter_append]
 congr 1
 ·refine List.filter_congr fun j hj=>?_
  rw [ZCD (List.mem_range.mp hj)]
 ·by_cases h:i∈t.bs
  ·simp [ZDR,h]
  ·simp [ZDR,h]
theorem ZJN {gt:List KT} {ts:List Twg} (hw:WF gt ts) {i:Nat} (h:ts.length<=i+1):abv ts i=[]:=by
 cases e:abv ts i with
 | nil=>rfl
 | cons j r=>
  have:=ZGc hw (i:=i) (j:=j) (by rw [e];exact List.mem_cons_self)
  omega
theorem ZLP {gt:List KT} {ts:List Twg} {rs:List Row} (g:ZN2 rs) (hs:(rs.map (·.1)).Sublist gt):TwOk gt ts ts.length (ZCv rs):=by
 obtain ⟨hf,h0,h4,hup⟩:=g
 refine ⟨fun z=>?_,hup,fun r hr=>⟨hs.subset (List.mem_map.mpr ⟨r,hr,rfl⟩),hf r hr⟩,fun _=>⟨rfl,h4⟩,fun z=>absurd rfl z⟩
 have z':rs=[]:=z
 rw [z'] at h0
 simp at h0
theorem ZMs {gt:List KT} {rs:List Row} (up:gt.Pairwise fun a b=>a.lt b=true) (hf:∀ r∈rs,r.fit) (hs:(rs.map (·.1)).Sublist gt) (h0:0<rs.length) (h4:rs.length<=4):ZN2 rs:=⟨hf,h0,h4,up.sublist hs⟩
theorem ZKg {gt:List KT} {CSh CTw:Addr} {H H':Hp} {S d lk:Addr} {ts:List Twg} {av:Nat->List Nat} {ho:Nat->Nat} {as as':List TwA} {kvs kvs':List (Key×V)} {ls ls':List V} {rs:List Row} (U:UpA gt CSh CTw H S d lk ts av ho as kvs ls) (l7:ts.length<=700) (ok:TwOk gt ts ts.length (ZCv rs))
  (R:ShP CSh CTw H' S d lk (ts++[ZCv rs]) (avP ts.length av) (hoP ts.length ho) as' kvs' ls'):UpA gt CSh CTw H' S d lk (ts++[ZCv rs]) (avP ts.length av) (hoP ts.length ho) as' kvs' ls':=by
 have W:=U.wf.push ok
 have en:(ts++[ZCv rs]).length=ts.length+1:=by simp
 have ea:∀ i,abv (ts++[ZCv rs]) i=abv ts i:=fun i=>by
  rw [ZGd,if_neg (by show i∉([]:List Nat);simp),List.append_nil]
 refine ⟨R,W,fun i hi=>?_,fun i hi=>?_,by rw [en];omega⟩
 ·rw [en] at hi
  by_cases z:i=ts.length
  ·subst z
   rw [show avP ts.length av ts.length=[] from if_pos rfl]
   exact (ZJN W (by rw [en];omega)).symm
  ·rw [show avP ts.length av i=av i from if_neg z,ea]
   exact U.av i (by omega)
 ·rw [en] at hi
  by_cases z:i=ts.length
  ·subst z
   rw [show hoP ts.length ho ts.length=1 from if_pos rfl]
   omega
  ·rw [show hoP ts.length ho i=ho i from if_neg z,ea]
   exact U.live i (by omega)
theorem ZJ2 {gt:List KT} {CSh CTw:Addr} {H H':Hp} {S d lk:Addr} {ts:List Twg} {av:Nat->List Nat} {ho:Nat->Nat} {as as':List TwA} {kvs kvs':List (Key×V)} {ls ls':List V} {bs:List Nat} (U:UpA gt CSh CTw H S d lk ts av ho as kvs ls) (l7:ts.length<=700) (hb:∀ b∈bs,b<ts.length) {L:Lab} (hov:over (ZAe ts bs)=some L) (h1:∀ b∈bs,1<=ho b)
  (R:ShP CSh CTw H' S d lk (ts++[ZBc ts bs]) (avK bs ts.length (avP ts.length av)) (hoK bs (hoP ts.length ho)) as' kvs' ls'):UpA gt CSh CTw H' S d lk (ts++[ZBc ts bs]) (avK bs ts.length (avP ts.length av)) (hoK bs (hoP ts.length ho)) as' kvs' ls':=by
 have W:=U.wf.push (ZKY U.wf hb hov)
 have en:(ts++[ZBc ts bs]).length=ts.length+1:=by simp
 have ea:∀ i,abv (ts++[ZBc ts bs]) i=abv ts i++(if i∈bs then [ts.length] else []):=fun i=>ZGd ts (ZBc ts bs) i
 refine ⟨R,W,fun i hi=>?_,fun i hi=>?_,by rw [en];omega⟩
 ·rw [en] at hi
  by_cases z:i=ts.length
  ·subst z
   have nb:ts.length∉bs:=fun y=>by have:=hb _ y;omega
   rw [show avK bs ts.length (avP ts.length av) ts.length=avP ts.length av ts.length from if_neg nb,show avP ts.length av ts.length=[] from if_pos rfl]
   exact (ZJN W (by rw [en];omega)).symm
  ·rw [ea]
   have e2:avP ts.length av i=av i:=if_neg z
   by_cases y:i∈bs
   ·rw [show avK bs ts.length (avP ts.length av) i=avP ts.length av i++[ts.length] from if_pos y,e2,if_pos y,U.av i (by omega)]
   ·rw [show avK bs ts.length (avP ts.length av) i=avP ts.length av i from if_neg y,e2,if_neg y,List.append_nil]
    exact U.av i (by omega)
 ·rw [en] at hi
  by_cases z:i=ts.length
  ·subst z
   have nb:ts.length∉bs:=fun y=>by have:=hb _ y;omega
   rw [show hoK bs (hoP ts.length ho) ts.length=hoP ts.length ho ts.length from if_neg nb,show hoP ts.length ho ts.length=1 from if_pos rfl]
   omega
  ·rw [ea]
   have e2:hoP ts.length ho i=ho i:=if_neg z
   have lv:=U.live i (by omega)
   by_cases y:i∈bs
   ·rw [show hoK bs (hoP ts.length ho) i=hoP ts.length ho i - 1 from if_pos y,e2,if_pos y,List.length_append,List.length_singleton]
    have:=h1 i y
    omega
   ·rw [show hoK bs (hoP ts.length ho) i=hoP ts.length ho i from if_neg y,e2,if_neg y,List.append_nil]
    exact lv
structure Pl where
 S:Addr
 d:Addr
 lk:Addr
 dT:Addr
 dH:Addr
 gl:Addr
 tl:Addr
 as:List TwA
 bs:List Addr
structure Md where
 ts:List Twg
 av:Nat->List Nat
 ho:Nat->Nat
def Pl.ab (p:Pl) (i:Nat):Addr:=(p.as.getD i .d).ab
def Pl.th (p:Pl) (i:Nat):Addr:=(p.as.getD i .d).th
def Pl.x (p:Pl) (i:Nat):Addr:=(p.as.getD i .d).x
def Pl.b (p:Pl) (i:Nat):Addr:=p.bs.getD i 0
structure LS (gt:List KT) (CSh CTw:Addr) (H:Hp) (a:Pl) (m:Md):Prop where
 sh:∃ kvs ls,UpA gt CSh CTw H a.S a.d a.lk m.ts m.av m.ho a.as kvs ls∧ls.length<=100
 lw:∃ kvs,LwP H a.dT m.ts a.bs kvs
 hd:∃ hvs,H a.dH=some (.dK hvs)∧ZJG hvs m.ts.length m.ho
 gr:∃ gs,Grd gt H a.gl gs
 told:H a.tl=some (.lst (iN (List.range m.ts.length)))
 dd:a.dT≠a.d∧a.dH≠a.d∧a.dT≠a.dH
 tt:a.tl≠a.lk∧a.tl≠a.gl∧a.lk≠a.gl
 t2:∀ i:Nat,i<m.ts.length->a.tl≠a.ab i∧a.tl≠a.th i∧a.gl≠a.ab i
 t3:∀ i:Nat,i<m.ts.length->a.b i≠a.tl∧a.b i≠a.lk∧∀ j:Nat,j<m.ts.length->a.b i≠a.ab j
 l64:m.ts.length<64
structure Off (a:Pl) (m:Md) (p:Addr):Prop where
 lk:a.lk≠p
 gl:a.gl≠p
 tl:a.tl≠p
 tw:∀ i:Nat,i<m.ts.length->a.ab i≠p∧a.th i≠p∧a.b i≠p
section
variable {gt:List KT} {CSh CTw:Addr} {H H':Hp} {a:Pl} {m:Md} {p:Addr}
theorem LS.shp (h:LS gt CSh CTw H a m):∃ kvs ls,ShP CSh CTw H a.S a.d a.lk m.ts m.av m.ho a.as kvs ls:=by
 obtain ⟨kvs,ls,U,_⟩:=h.sh
 exact ⟨kvs,ls,U.sh⟩
theorem LS.wf (h:LS gt CSh CTw H a m):WF gt m.ts:=by
 obtain ⟨kvs,ls,U,_⟩:=h.sh
 exact U.wf
theorem LS.off (h:LS gt CSh CTw H a m) (n:H p=none):Off a m p:=by
 obtain ⟨kvs,ls,U,_⟩:=h.sh
 obtain ⟨kv2,L⟩:=h.lw
 obtain ⟨gs,G⟩:=h.gr
 refine ⟨ZAB U.sh.sh.looks n,ZAB G.at_ n,ZAB h.told n,fun i hi=>⟨ZAB (U.sh.tw i hi).tw.above n,?_,?_⟩⟩
 ·obtain ⟨us,e,_⟩:=(U.sh.tw i hi).things
  exact ZAB e n
 ·obtain ⟨tp,us,_,_,e,_⟩:=L.tw i hi
  exact ZAB e n
theorem LS.sx {xs:List V} (h:LS gt CSh CTw H a m) (o:Off a m p) (hp:H p=some (.lst xs)) (s:SameX p H H'):LS gt CSh CTw H' a m:=by
 obtain ⟨kvs,ls,U,l100⟩:=h.sh
 obtain ⟨kv2,L⟩:=h.lw
 obtain ⟨hvs,hd,hH⟩:=h.hd
 obtain ⟨gs,G⟩:=h.gr
 have tu:ZBn H H':=fun b ys e=>s b _ e (ZAJ e hp (by intro z;cases z))
 have R:=U.sh
 obtain ⟨⟨dS,hS⟩,hk,hl⟩:=R.sh
 refine ⟨⟨kvs,ls,⟨⟨⟨⟨dS,s _ _ hS (ZAJ hS hp (by intro z;cases z))⟩,s _ _ hk (ZAJ hk hp (by intro z;cases z)),s _ _ hl o.lk⟩,R.keys,R.val,R.len,fun i hi=>?_,R.own,R.two⟩,U.wf,U.av,U.live,U.l800⟩,l100⟩,
  ⟨kv2,L.frame tu (s _ _ L.dict (ZAJ L.dict hp (by intro z;cases z))) fun i hi ob e=>s _ _ e (o.tw i hi).2.2⟩,⟨hvs,s _ _ hd (ZAJ hd hp (by intro z;cases z)),hH⟩,⟨gs,G.frame tu (s _ _ G.at_ o.gl)⟩,s _ _ h.told o.tl,h.dd,h.tt,h.t2,h.t3,h.l64⟩
 have Wt:=R.tw i hi
 obtain ⟨dx,hx⟩:=Wt.tw.self
 exact Wt.frame tu (fun ob e=>s _ _ e (ZAJ hx hp (by intro z;cases z))) (fun ob e=>s _ _ e (o.tw i hi).2.1) (fun ob e=>s _ _ e (o.tw i hi).1)
theorem LS.same (h:LS gt CSh CTw H a m) (s:Same H H'):LS gt CSh CTw H' a m:=by
 obtain ⟨kvs,ls,U,l100⟩:=h.sh
 obtain ⟨kv2,L⟩:=h.lw
 obtain ⟨hvs,hd,hH⟩:=h.hd
 obtain ⟨gs,G⟩:=h.gr
 exact ⟨⟨kvs,ls,⟨U.sh.same s,U.wf,U.av,U.live,U.l800⟩,l100⟩,⟨kv2,L.same s⟩,⟨hvs,s _ _ hd,hH⟩,⟨gs,G.same s⟩,s _ _ h.told,h.dd,h.tt,h.t2,h.t3,h.l64⟩
end
structure LO (gt:List KT) (H:Hp) (a:Pl) (m:Md):Prop where
 lw:∃ kvs,LwP H a.dT m.ts a.bs kvs
 hd:∃ hvs,H a.dH=some (.dK hvs)∧ZJG hvs m.ts.length m.ho
 gr:∃ gs,Grd gt H a.gl gs
 told:H a.tl=some (.lst (iN (List.range m.ts.length)))
theorem LS.lo {gt:List KT} {CSh CTw:Addr} {H H':Hp} {a:Pl} {m:Md} (h:LS gt CSh CTw H a m) (fr:∀ c o,c≠a.S->c≠a.d->c≠a.lk->(∀ i:Nat,i<m.ts.length->c≠a.x i∧c≠a.ab i)->H c=some o->H' c=some o):LO gt H' a m:=by
 obtain ⟨kvs,ls,U,l100⟩:=h.sh
 obtain ⟨kv2,L⟩:=h.lw
 obtain ⟨hvs,hd,hH⟩:=h.hd
 obtain ⟨gs,G⟩:=h.gr
 have R:=U.sh
 obtain ⟨⟨dS,hS⟩,hk,hl⟩:=R.sh
 have hx:∀ i:Nat,i<m.ts.length->∃ dx us,H (a.x i)=some (.ins CTw dx us):=fun i hi=>by
  obtain ⟨dx,e⟩:=(R.tw i hi).tw.self
  exact ⟨dx,_,e⟩
 have hab:∀ i:Nat,i<m.ts.length->H (a.ab i)=some (.lst (iN (m.av i))):=fun i hi=>(R.tw i hi).tw.above
 have tu:ZBn H H':=fun b ys e=>fr b _ (ZAJ e hS (by intro z;cases z)) (ZAJ e hk (by intro z;cases z)) (ZAJ e hl (by intro z;cases z)) (fun i hi=>by
  obtain ⟨dx,us,e'⟩:=hx i hi
  exact ⟨ZAJ e e' (by intro z;cases z),ZAJ e (hab i hi) (by intro z;cases z)⟩) e
 have list:∀ (c:Addr) (xs:List V),H c=some (.lst xs)->c≠a.lk->(∀ i:Nat,i<m.ts.length->c≠a.ab i)->H' c=some (.lst xs):=fun c xs e n1 n2=>fr c _ (ZAJ e hS (by intro z;cases z)) (ZAJ e hk (by intro z;cases z)) n1 (fun i hi=>by
  obtain ⟨dx,us,e'⟩:=hx i hi
  exact ⟨ZAJ e e' (by intro z;cases z),n2 i hi⟩) e
 have dict:∀ (c:Addr) (xs:List (Key×V)),H c=some (.dK xs)->c≠a.d->H' c=some (.dK xs):=fun c xs e n1=>fr c _ (ZAJ e hS (by intro z;cases z)) n1 (ZAJ e hl (by intro z;cases z)) (fun i hi=>by
  obtain ⟨dx,us,e'⟩:=hx i hi
  exact ⟨ZAJ e e' (by intro z;cases z),ZAJ e (hab i hi) (by intro z;cases z)⟩) e
 refine ⟨⟨kv2,L.frame tu (dict _ _ L.dict h.dd.1) fun i hi o e=>?_⟩,⟨hvs,dict _ _ hd h.dd.2.1,hH⟩,⟨gs,G.frame tu (list _ _ G.at_ h.tt.2.2.symm fun i hi=>(h.t2 i hi).2.2)⟩,list _ _ h.told h.tt.1 fun i hi=>(h.t2 i hi).1⟩
 obtain ⟨tp,us,_,_,e',_⟩:=L.tw i hi
 have:o=.lst us:=by have:=e.symm.trans e';exact Option.some.inj this
 subst this
 exact list _ _ e (h.t3 i hi).2.1 fun j hj=>(h.t3 i hi).2.2 j hj
theorem nat_key {i j:Nat}:((Sum.inl ((i:Nat):Int):Key)=Sum.inl ((j:Nat):Int)) ↔ i=j:=⟨fun z=>by have:=Sum.inl.inj z;omega,fun z=>by rw [z]⟩
theorem ZJo {kvs:List (Key×V)} {n:Nat} (h:kvs.map (·.1)=(List.range n).map (fun i:Nat=>(Sum.inl (i:Int):Key))):ZBj kvs (Sum.inl (n:Int))=none:=by
 cases z:ZBj kvs (Sum.inl (n:Int)) with
 | none=>rfl
 | some v=>
  have:=ZEi z
  rw [h] at this
  obtain ⟨i,hi,ei⟩:=List.mem_map.mp this
  have e1:=nat_key.mp ei
  have e2:=List.mem_range.mp hi
  omega
theorem ZFa {kvs:List (Key×V)} {n:Nat} {v:V} (h:kvs.map (·.1)=(List.range n).map (fun i:Nat=>(Sum.inl (i:Int):Key))):(ZBS kvs (.inl (n:Int)) v).map (·.1)=(List.range (n+1)).map (fun i:Nat=>(Sum.inl (i:Int):Key)):=by
 rw [ZGb v (ZJo h),List.map_append,h,List.range_succ,List.map_append]
 rfl
theorem ZIv {hvs:List (Key×V)} {n:Nat} {ho:Nat->Nat} (h:ZJG hvs n ho):ZJG (ZBS hvs (.inl (n:Int)) (.int 1)) (n+1) (hoP n ho):=by
 refine ⟨ZFa h.1,fun i hi=>?_⟩
 rw [ZCQ]
 by_cases z:i=n
 ·subst z
  rw [if_pos rfl,show hoP i ho i=1 from if_pos rfl]
  rfl
 ·rw [if_neg (fun y=>z (nat_key.mp y)),show hoP n ho i=ho i from if_neg z]
  exact h.2 i (by omega)
theorem ZKd {kvs:List (Key×V)} {k:Key} {v w:V} (h:ZBj kvs k=some w):(ZBS kvs k v).map (·.1)=kvs.map (·.1):=by
 have hm:=ZEi h
 unfold ZBS
 split
 ·rw [List.map_map]
  refine List.map_congr_left fun p _=>?_
  show (if p.1=k then (p.1,v) else p).1=p.1
  split <;> rfl
 ·rename_i c
  exfalso
  apply c
  obtain ⟨p,hp,e⟩:=List.mem_map.mp hm
  simp
  first | exact ⟨p.2,by rw [<-e];exact hp⟩ | exact ⟨p.1,p.2,hp,e⟩
theorem ZNN {hvs:List (Key×V)} {n b:Nat} {ho:Nat->Nat} (h:ZJG hvs n ho) (hb:b<n):ZJG (ZBS hvs (.inl (b:Int)) (.int ((ho b - 1:Nat):Int))) n (ZK8 ho b):=by
 refine ⟨by rw [ZKd (h.2 b hb)];exact h.1,fun i hi=>?_⟩
 rw [ZCQ]
 by_cases z:i=b
 ·subst z
  rw [if_pos rfl,show ZK8 ho i i=ho i - 1 from if_pos rfl]
 ·rw [if_neg (fun y=>z (nat_key.mp y)),show ZK8 ho b i=ho i from if_neg z]
  exact h.2 i hi
theorem ZI2 {bs:List Addr} {D:Addr} {i:Nat} (h:i<bs.length):(bs++[D]).getD i 0=bs.getD i 0:=by
 rw [List.getD_eq_getElem?_getD,List.getElem?_append_left h,<-List.getD_eq_getElem?_getD]
theorem ZKv {bs:List Addr} {D:Addr}:(bs++[D]).getD bs.length 0=D:=by
 rw [List.getD_eq_getElem?_getD,List.getElem?_append_right (Nat.le_refl _)]
 simp
theorem ZIf {H H':Hp} {dT:Addr} {ts:List Twg} {bs:List Addr} {kvs:List (Key×V)} {t:Twg} {tp D:Addr} {us:List V} (L:LwP H dT ts bs kvs) (m:ZBn H H') (kb:∀ i:Nat,i<ts.length->∀ o,H (bs.getD i 0)=some o->H' (bs.getD i 0)=some o)
  (hd:H' dT=some (.dK (ZBS kvs (.inl (ts.length:Int)) (.ref tp)))) (ht:H' tp=some (.tup [.str (kindOf t),.ref D])) (hD:H' D=some (.lst us)) (h0:t.h=0->KeysAt H' (ZBA t.rows) us) (h1:t.h≠0->us=iN t.bs):LwP H' dT (ts++[t]) (bs++[D]) (ZBS kvs (.inl (ts.length:Int)) (.ref tp)):=by
 have en:(ts++[t]).length=ts.length+1:=by simp
 refine ⟨hd,by rw [en];exact ZFa L.keys,by simp [L.len],fun i hi=>?_⟩
 rw [en] at hi
 by_cases z:i=ts.length
 ·subst z
  have e1:(bs++[D]).getD ts.length 0=D:=by rw [<-L.len];exact ZKv
  refine ⟨tp,us,by rw [ZCQ,if_pos rfl],?_,?_,?_,?_⟩
  ·rw [ZDR,e1];exact ht
  ·rw [e1];exact hD
  ·rw [ZDR];exact h0
  ·rw [ZDR];exact h1
 ·have hi':i<ts.length:=by omega
  obtain ⟨tp',us',e1,e2,e3,e4,e5⟩:=L.tw i hi'
  have e6:(bs++[D]).getD i 0=bs.getD i 0:=ZI2 (by have:=L.len;omega)
  refine ⟨tp',us',by rw [ZCQ,if_neg (fun y=>z (nat_key.mp y))];exact e1,?_,?_,?_,?_⟩
  ·rw [ZCD hi',e6];exact m _ _ e2
  ·rw [e6];exact kb i hi' _ e3
  ·rw [ZCD hi'];exact fun y=>(e4 y).mono m _ _
  ·rw [ZCD hi'];exact e5
def Pl.push (a:Pl) (new:TwA) (D:Addr):Pl:={ a with as:=a.as++[new],bs:=a.bs++[D] }
section
variable {gt:List KT} {CSh CTw:Addr} {H H':Hp} {a:Pl} {m:Md} {p:Addr} {new:TwA} {D:Addr}
theorem LS.asl (h:LS gt CSh CTw H a m):a.as.length=m.ts.length∧a.bs.length=m.ts.length:=by
 obtain ⟨kvs,ls,R⟩:=h.shp
 obtain ⟨kv2,L⟩:=h.lw
 exact ⟨R.len,L.len⟩
theorem ZBY (h:LS gt CSh CTw H a m) {i:Nat} (hi:i<m.ts.length):(a.push new D).ab i=a.ab i∧(a.push new D).th i=a.th i∧(a.push new D).x i=a.x i∧(a.push new D).b i=a.b i:=by
 obtain ⟨l1,l2⟩:=h.asl
 have e:(a.as++[new]).getD i .d=a.as.getD i .d:=ZF7 (by omega)
 unfold Pl.ab Pl.th Pl.x Pl.b Pl.push
 dsimp only
 rw [e,ZI2 (by omega)]
 exact ⟨rfl,rfl,rfl,rfl⟩
theorem ZBr (h:LS gt CSh CTw H a m):(a.push new D).ab m.ts.length=new.ab∧(a.push new D).th m.ts.length=new.th∧(a.push new D).x m.ts.length=new.x∧(a.push new D).b m.ts.length=D:=by
 obtain ⟨l1,l2⟩:=h.asl
 have e:(a.as++[new]).getD m.ts.length .d=new:=by rw [<-l1];exact ZJH
 have e2:(a.bs++[D]).getD m.ts.length 0=D:=by rw [<-l2];exact ZKv
 unfold Pl.ab Pl.th Pl.x Pl.b Pl.push
 dsimp only
 rw [e,e2]
 exact ⟨rfl,rfl,rfl,rfl⟩
theorem ZK6 (h:LS gt CSh CTw H a m) {t:Twg} {av':Nat->List Nat} {ho':Nat->Nat} (n2:H new.th=none) (n3:H new.ab=none) (nD:H D=none) (Dab:D≠new.ab)
  (U':∃ kvs ls,UpA gt CSh CTw H' a.S a.d a.lk (m.ts++[t]) av' ho' (a.as++[new]) kvs ls∧ls.length<=100) (lw':∃ kvs,LwP H' a.dT (m.ts++[t]) (a.bs++[D]) kvs) (hd':∃ hvs,H' a.dH=some (.dK hvs)∧ZJG hvs (m.ts.length+1) ho') (gr':∃ gs,Grd gt H' a.gl gs)
  (told':H' a.tl=some (.lst (iN (List.range (m.ts.length+1))))) (l:m.ts.length+1<64):LS gt CSh CTw H' (a.push new D) ⟨m.ts++[t],av',ho'⟩:=by
 have en:(m.ts++[t]).length=m.ts.length+1:=by simp
 obtain ⟨gs,G⟩:=h.gr
 obtain ⟨kvs,ls,R⟩:=h.shp
 have hab:∀ i:Nat,i<m.ts.length->H (a.ab i)=some (.lst (iN (m.av i))):=fun i hi=>(R.tw i hi).tw.above
 obtain ⟨kv2,Lw⟩:=h.lw
 have hb:∀ i:Nat,i<m.ts.length->∃ us,H (a.b i)=some (.lst us):=fun i hi=>by
  obtain ⟨tp,us,_,_,e,_⟩:=Lw.tw i hi
  exact ⟨us,e⟩
 refine ⟨U',lw',by rw [en];exact hd',gr',by rw [en];exact told',h.dd,h.tt,fun i hi=>?_,fun i hi=>?_,by rw [en];exact l⟩
 ·rw [en] at hi
  by_cases z:i=m.ts.length
  ·subst z
   obtain ⟨e1,e2,_,_⟩:=ZBr (new:=new) (D:=D) h
   rw [e1,e2]
   exact ⟨ZAB h.told n3,ZAB h.told n2,ZAB G.at_ n3⟩
  ·obtain ⟨e1,e2,_,_⟩:=ZBY (new:=new) (D:=D) h (i:=i) (by omega)
   rw [e1,e2]
   exact h.t2 i (by omega)
 ·rw [en] at hi
  have abn:∀ j:Nat,j<(m.ts++[t]).length->(j<m.ts.length∧(a.push new D).ab j=a.ab j)∨(j=m.ts.length∧(a.push new D).ab j=new.ab):=fun j hj=>by
   rw [en] at hj
   by_cases y:j=m.ts.length
   ·subst y
    exact .inr ⟨rfl,(ZBr h).1⟩
   ·exact .inl ⟨by omega,(ZBY h (by omega)).1⟩
  by_cases z:i=m.ts.length
  ·subst z
   rw [(ZBr (new:=new) (D:=D) h).2.2.2]
   refine ⟨(ZAB h.told nD).symm,(ZAB R.sh.looks nD).symm,fun j hj=>?_⟩
   rcases abn j hj with ⟨y1,y2⟩ | ⟨y1,y2⟩
   ·rw [y2];exact (ZAB (hab j y1) nD).symm
   ·rw [y2];exact Dab
  ·have hi':i<m.ts.length:=by omega
   rw [(ZBY (new:=new) (D:=D) h hi').2.2.2]
   obtain ⟨t1,t2,t3⟩:=h.t3 i hi'
   refine ⟨t1,t2,fun j hj=>?_⟩
   rcases abn j hj with ⟨y1,y2⟩ | ⟨y1,y2⟩
   ·rw [y2];exact t3 j y1
   ·obtain ⟨us,e⟩:=hb i hi'
    rw [y2];exact ZAB e n3
theorem Off.push (h:LS gt CSh CTw H a m) (o:Off a m p) {t:Twg} {av':Nat->List Nat} {ho':Nat->Nat} (n2:new.th≠p) (n3:new.ab≠p) (nD:D≠p):Off (a.push new D) ⟨m.ts++[t],av',ho'⟩ p:=by
 refine ⟨o.lk,o.gl,o.tl,fun i hi=>?_⟩
 have en:(m.ts++[t]).length=m.ts.length+1:=by simp
 have hi':i<m.ts.length+1:=by rw [<-en];exact hi
 by_cases z:i=m.ts.length
 ·subst z
  obtain ⟨e1,e2,_,e4⟩:=ZBr (new:=new) (D:=D) h
  rw [e1,e2,e4]
  exact ⟨n3,n2,nD⟩
 ·obtain ⟨e1,e2,_,e4⟩:=ZBY (new:=new) (D:=D) h (i:=i) (by omega)
  rw [e1,e2,e4]
  exact o.tw i (by omega)
def Avoid (a:Pl) (m:Md) (c:Addr):Prop:=c≠a.S∧c≠a.d∧c≠a.lk∧c≠a.dT∧c≠a.dH∧c≠a.tl∧∀ i:Nat,i<m.ts.length->c≠a.x i∧c≠a.ab i
theorem Avoid.push (h:LS gt CSh CTw H a m) {c:Addr} (v:Avoid a m c) {t:Twg} {av':Nat->List Nat} {ho':Nat->Nat} (n1:c≠new.x) (n2:c≠new.ab):Avoid (a.push new D) ⟨m.ts++[t],av',ho'⟩ c:=by
 obtain ⟨v1,v2,v3,v4,v5,v6,v7⟩:=v
 refine ⟨v1,v2,v3,v4,v5,v6,fun i hi=>?_⟩
 have en:(m.ts++[t]).length=m.ts.length+1:=by simp
 have hi':i<m.ts.length+1:=by rw [<-en];exact hi
 by_cases z:i=m.ts.length
 ·subst z
  obtain ⟨e1,_,e3,_⟩:=ZBr (new:=new) (D:=D) h
  rw [e1,e3]
  exact ⟨n1,n2⟩
 ·obtain ⟨e1,_,e3,_⟩:=ZBY (new:=new) (D:=D) h (i:=i) (by omega)
  rw [e1,e3]
  exact v7 i (by omega)
theorem LS.tup (h:LS gt CSh CTw H a m) {c:Addr} {xs:List V} (e:H c=some (.tup xs)):Avoid a m c:=by
 obtain ⟨kvs,ls,R⟩:=h.shp
 obtain ⟨kv2,L⟩:=h.lw
 obtain ⟨hvs,hd,_⟩:=h.hd
 obtain ⟨⟨dS,hS⟩,hk,hl⟩:=R.sh
 refine ⟨ZAJ e hS (by intro z;cases z),ZAJ e hk (by intro z;cases z),ZAJ e hl (by intro z;cases z),ZAJ e L.dict (by intro z;cases z),ZAJ e hd (by intro z;cases z),ZAJ e h.told (by intro z;cases z),fun i hi=>?_⟩
 obtain ⟨dx,hx⟩:=(R.tw i hi).tw.self
 exact ⟨ZAJ e hx (by intro z;cases z),ZAJ e (R.tw i hi).tw.above (by intro z;cases z)⟩
end
theorem ShP.frame {CSh CTw:Addr} {H H':Hp} {S d lk:Addr} {ts:List Twg} {av:Nat->List Nat} {ho:Nat->Nat} {as:List TwA} {kvs:List (Key×V)} {ls:List V} (R:ShP CSh CTw H S d lk ts av ho as kvs ls) (m:ZBn H H') (kS:∀ o,H S=some o->H' S=some o) (kd:∀ o,H d=some o->H' d=some o) (kl:∀ o,H lk=some o->H' lk=some o)
  (kt:∀ i:Nat,i<ts.length->(∀ o,H (as.getD i .d).x=some o->H' (as.getD i .d).x=some o)∧(∀ o,H (as.getD i .d).th=some o->H' (as.getD i .d).th=some o)∧(∀ o,H (as.getD i .d).ab=some o->H' (as.getD i .d).ab=some o)):ShP CSh CTw H' S d lk ts av ho as kvs ls:=by
 obtain ⟨⟨dS,hS⟩,hd,hl⟩:=R.sh
 exact ⟨⟨⟨dS,kS _ hS⟩,kd _ hd,kl _ hl⟩,R.keys,R.val,R.len,fun i hi=>(R.tw i hi).frame m (kt i hi).1 (kt i hi).2.1 (kt i hi).2.2,R.own,R.two⟩
theorem UpA.frame {gt:List KT} {CSh CTw:Addr} {H H':Hp} {S d lk:Addr} {ts:List Twg} {av:Nat->List Nat} {ho:Nat->Nat} {as:List TwA} {kvs:List (Key×V)} {ls:List V} (U:UpA gt CSh CTw H S d lk ts av ho as kvs ls) (R:ShP CSh CTw H' S d lk ts av ho as kvs ls):UpA gt CSh CTw H' S d lk ts av ho as kvs ls:=⟨R,U.wf,U.av,U.live,U.l800⟩
theorem ZDo {CSh CTw:Addr} {H:Hp} {S d lk:Addr} {ts:List Twg} {av:Nat->List Nat} {ho:Nat->Nat} {as:List TwA} {kvs:List (Key×V)} {ls xs:List V} {c:Addr} {o':HO} (R:ShP CSh CTw H S d lk ts av ho as kvs ls) (e:H c=some (.lst xs)) (n1:lk≠c) (n2:∀ i:Nat,i<ts.length->(as.getD i .d).ab≠c∧(as.getD i .d).th≠c):ShP CSh CTw (upd H c o') S d lk ts av ho as kvs ls:=by
 obtain ⟨⟨dS,hS⟩,hd,hl⟩:=id R.sh
 have k:∀ b o,b≠c->H b=some o->upd H c o' b=some o:=fun b o n e=>by rw [ZAG n];exact e
 refine R.frame (fun b ys e'=>k _ _ (ZAJ e' e (by intro z;cases z)) e') (fun o e'=>k _ _ (ZAJ hS e (by intro z;cases z)) e') (fun o e'=>k _ _ (ZAJ hd e (by intro z;cases z)) e') (fun o e'=>k _ _ n1 e') fun i hi=>?_
 obtain ⟨dx,hx⟩:=(R.tw i hi).tw.self
 exact ⟨fun o e'=>k _ _ (ZAJ hx e (by intro z;cases z)) e',fun o e'=>k _ _ (n2 i hi).2 e',fun o e'=>k _ _ (n2 i hi).1 e'⟩
theorem ZB4 {CSh CTw:Addr} {H:Hp} {S d lk:Addr} {ts:List Twg} {av:Nat->List Nat} {ho:Nat->Nat} {as:List TwA} {kvs xs:List (Key×V)} {ls:List V} {c:Addr} {o':HO} (R:ShP CSh CTw H S d lk ts av ho as kvs ls) (e:H c=some (.dK xs)) (n1:d≠c):ShP CSh CTw (upd H c o') S d lk ts av ho as kvs ls:=by
 obtain ⟨⟨dS,hS⟩,hd,hl⟩:=id R.sh
 have k:∀ b o,b≠c->H b=some o->upd H c o' b=some o:=fun b o n e=>by rw [ZAG n];exact e
 refine R.frame (fun b ys e'=>k _ _ (ZAJ e' e (by intro z;cases z)) e') (fun o e'=>k _ _ (ZAJ hS e (by intro z;cases z)) e') (fun o e'=>k _ _ n1 e') (fun o e'=>k _ _ (ZAJ hl e (by intro z;cases z)) e') fun i hi=>?_
 obtain ⟨dx,hx⟩:=(R.tw i hi).tw.self
 obtain ⟨us,ht,_⟩:=(R.tw i hi).things
 exact ⟨fun o e'=>k _ _ (ZAJ hx e (by intro z;cases z)) e',fun o e'=>k _ _ (ZAJ ht e (by intro z;cases z)) e',fun o e'=>k _ _ (ZAJ (R.tw i hi).tw.above e (by intro z;cases z)) e'⟩
theorem ZFi {H H':Hp} {p:Addr} (W:WellAt H p) (k:∀ o,H p=some o->H' p=some o):WellAt H' p:=by
 obtain ⟨a1,b1,c1,d1,hw,rr⟩:=W.ex
 exact ⟨a1,b1,c1,d1,k _ hw,rr⟩
def stT (a:Pl):List V:=[.ref a.S,.ref a.dT,.ref a.dH,.ref a.gl,.ref a.tl]
section
variable {P:Program} {w:World} {K:PySem.W.Frag} {mg:Str->Option Value} {base:Heap} {f:Addr} {fd:FuncData} {CSh CTw:Addr}
def ZCq (gt:List KT) (CSh CTw:Addr):Sp:=fun vs H Q _=>∃ (p st:Addr) (b:Int) (a:Pl) (m:Md),vs=[.ref p,.ref st,.int b]∧WellAt H p∧H st=some (.tup (stT a))∧LS gt CSh CTw H a m∧Off a m p∧0<=b∧b<16∧m.ts.length<=50 ∧
 ∀ (H':Hp) (a':Pl) (m':Md),(∀ c o,H c=some o->Avoid a m c->Avoid a' m' c∧(c≠p->H' c=some o))->WellAt H' p->LS gt CSh CTw H' a' m'->Off a' m' p->stT a'=stT a->m'.ts.length=m.ts.length+1->Q (.bl true) H'
abbrev ZJa:List Str:=["_law_well_here","_law_state","_law_block","_law_shelf","_law_twigs","_law_holds","_law_grid_here","_law_told","_law_rows","_law_number"]
theorem scLPutLeaf:FnScope ZJa ["_law_well_here","_law_state","_law_block"] (ZAI ZEp):=⟨rfl,rfl,rfl,by decide +kernel,rfl,by decide +kernel,by decide +kernel⟩
theorem ZHx (n:Nat):iN (List.range n)++[.int (n:Nat)]=iN (List.range (n+1)):=by rw [List.range_succ];simp [iN]
theorem ZNv {ns:List Nat} {n:Nat} (h:∀ b∈ns,b<n):ZN1 (-1) (ns.map fun b:Nat=>(b:Int))<(n:Int):=by
 have hf:∀ (l:List Int) (x:Int),x<(n:Int)->(∀ y∈l,y<(n:Int))->ZIR x l<(n:Int):=fun l=>by
  induction l with
  | nil=>intro x hx _;exact hx
  | cons c l ih=>
   intro x hx hl
   unfold ZIR
   rw [List.foldl_cons]
   refine ih _ ?_ fun y hy=>hl y (List.mem_cons_of_mem _ hy)
   split
   ·exact hl c List.mem_cons_self
   ·exact hx
 cases ns with
 | nil=>show (-1:Int)<_;omega
 | cons b r=>
  show ZIR _ _<_
  refine hf _ _ (show ((b:Nat):Int)<(n:Int) by have:=h b List.mem_cons_self;omega) fun y hy=>?_
  obtain ⟨z,hz,rfl⟩:=List.mem_map.mp hy
  have:=h z (List.mem_cons_of_mem _ hz)
  show ((z:Nat):Int)<(n:Int)
  omega
theorem ZGR {gt:List KT} (F:Fun K "_law_put_leaf" "_law_put_leaf" ZEp f fd) (T:Txt mg) (L:ShF K mg CSh CTw) (DR:DefOk P w K mg base 2 "_law_leaf_rows" ["_law_well_here","_law_grid_here","_law_block"] ZCn) (DM:MethOk P w K mg base CX0 10 CSh "put_leaf" ["self","rows"] (ZDJ CSh CTw)) :
  FnOk P w K mg base CX0 11 f fd ["_law_well_here","_law_state","_law_block"] (ZCq gt CSh CTw):=by
 refine F.ok scLPutLeaf (fun vs H Q E h=>(by obtain ⟨_,_,_,_,_,rfl,_⟩:=h;rfl)) (fun cdv A outer s H vs Q E hr h=>?_)
 obtain ⟨p,st,b,a,m,rfl,W,hst,S0,O,b0,b1,l50,k⟩:=h
 have nd:=scLPutLeaf.nd
 have hu:=ZCW hr
 have hr2:=hr.mono (show 2<=10 by omega)
 refine ⟨_,ZAD (ZDK (pv 1) (ZDu rfl (ZAj (ZAZ (i:=3) nd rfl (Or.inl rfl)) (ZAj (ZAZ (i:=4) nd rfl (Or.inl rfl)) (ZAj (ZAZ (i:=5) nd rfl (Or.inl rfl)) (ZAj (ZAZ (i:=6) nd rfl (Or.inl rfl)) (ZAj (ZAZ (i:=7) nd rfl (Or.inl rfl)) ZCp)))))))
  (ZAD (ZAU (i:=8) nd rfl (Or.inl rfl) (ZAT DR hr2 (ZAN (pv 0) (ZAN (pv 6) (ZAN (pv 2) ZAC)))))
  (ZAD (ZAU (i:=9) nd rfl (Or.inl rfl) (ZAo (E:=E0) (pv 3) L.cS DM hr ZBQ (ZAN (ZAm ZA0 rfl T.list ZBi (ZAN (pv 8) ZAC)) ZAC)))
  (ZAD (ZAf (PW.pt (ZB9 (ZAy (ZAg (ZAK ZAY rfl T.isi ZAM (ZAN (pv 9) (ZAN (ZAi (v:=.ty "int") rfl T.int ZCN rfl) ZAC))))) (ZB9 (ZAg (ZAK ZAY rfl T.isi ZAM (ZAN (pv 9) (ZAN (ZAi (v:=.ty "bool") rfl T.bool ZCj rfl) ZAC))))
   (ZB0 (ZAX ZDt (pv 9) (ZL7 rfl rfl T.max (ZAN (pv 7) ZAC) (ZLj (ZGS ZDP ZAF) ZNH)) (ZAW _)))))) ZAd ZAR)
  (ZAD (ZA2 (ZCX PySem.F.plainAttrs_list PySem.F.slot_list_append PySem.F.type_list_append ZAu (pv 7) (ZAN (pv 9) ZAC)))
  (ZAD (ZCu hu (pv 4) (pv 9) (ZAk (ZAN ZAl (ZAN (pv 8) ZAC))) rfl)
  (ZAD (ZCu hu (pv 5) (pv 9) ZAF rfl)
  (ZAH (ZAQ ZDQ)))))))),?_⟩
 obtain ⟨xsP,hpW⟩:=W.some
 obtain ⟨gs,G⟩:=S0.gr
 have lgs:gs.length=64:=by rw [<-G.keys.length,G.len]
 refine ⟨_,rfl,st,_,rfl,SqT.of hst,rfl,_,_,rfl,_,_,rfl,_,_,rfl,_,_,rfl,_,_,rfl,rfl,?_⟩
 refine ⟨_,rfl,_,rfl,_,rfl,p,a.gl,b,gs,gt,rfl,W,O.gl,G.at_,G.keys,G.fit,lgs,b0,b1,fun D us rs H1 s1 W1 nD hD1 hk1 hf1 hs1 h01 h41=>?_⟩
 have S1:=S0.sx O hpW s1
 have lrs:us.length=rs.length:=by have:=hk1.length;rw [<-this];exact List.length_map _
 have Gd:=ZMs G.up hf1 hs1 (by omega) (by omega)
 obtain ⟨kvs,ls,U1,l100⟩:=S1.sh
 obtain ⟨dx,hS1⟩:=U1.sh.sh.self
 refine ⟨_,rfl,a.S,dx,_,rfl,hS1,rfl,_,rfl,D,us,rfl,.inl (SqL.of hD1),fun l9 n9=>?_⟩
 have g2:=ZAE n9 (.lst us)
 have e9:upd H1 l9 (.lst us) l9=some (.lst us):=ZAA
 generalize upd H1 l9 (.lst us)=H2 at g2 e9 ⊢
 have S2:=S1.same g2
 have U2:=U1.sh.same g2
 have l64:=S0.l64
 refine ⟨a.S,a.d,a.lk,l9,m.ts,m.av,m.ho,a.as,kvs,ls,us,rs,rfl,U2,by omega,e9,hk1.mono (Same.tups g2) _ _,Gd,fun H3 new nx nth nab fr R3=>?_⟩
 have ltr:∀ y∈(List.range m.ts.length),y<m.ts.length:=fun y hy=>List.mem_range.mp hy
 have U3:=ZKg (U1.frame U1.sh) (by omega) (ZLP Gd hs1) R3
 have LO3:=S2.lo (H':=H3) fun c o n1 n2 n3 n4 e=>fr c o n1 n2 e
 have hto:=LO3.told
 have emax:(iN (List.range m.ts.length))=((List.range m.ts.length).map fun b:Nat=>(b:Int)).map V.int:=by rw [List.map_map];rfl
 refine ⟨_,rfl,_,_,_,_,rfl,.int _,ZDE,_,rfl,ZAz ?_⟩
 refine ⟨_,rfl,_,_,_,_,rfl,.int _,ZFD,_,rfl,ZAz ?_⟩
 refine ⟨_,rfl,_,rfl,1,rfl,a.tl,(List.range m.ts.length).map (fun b:Nat=>(b:Int)),-1,rfl,rfl,SqL.of (by rw [<-emax];exact hto),_,_,rfl,rfl,_,rfl,?_⟩
 rw [decide_eq_false (by have:=ZNv ltr;omega)]
 refine ZAz ?_
 refine ⟨_,rfl,.inl ⟨rfl,_,SqL.of hto⟩,_,rfl,a.tl,_,.int (m.ts.length:Nat),rfl,rfl,hto,ZAO (by simp [iN];omega),?_⟩
 have hl2:=U2.sh.looks
 obtain ⟨hvs,hd3,hH⟩:=LO3.hd
 obtain ⟨kv2,Lw3⟩:=LO3.lw
 obtain ⟨gs3,G3⟩:=LO3.gr
 have hD3:H3 D=some (.lst us):=by
  have e:=g2 _ _ hD1
  obtain ⟨⟨dS,hS⟩,hk,_⟩:=U2.sh
  exact fr _ _ (ZAJ e hS (by intro z;cases z)) (ZAJ e hk (by intro z;cases z)) e
 have tu3:ZBn H1 H3:=fun c ys e=>by
  obtain ⟨⟨dS,hS⟩,hk,_⟩:=U2.sh
  have e':=g2 _ _ e
  exact fr _ _ (ZAJ e' hS (by intro z;cases z)) (ZAJ e' hk (by intro z;cases z)) e'
 have hk3:=hk1.mono tu3 _ _
 have free2:∀ c,H2 c=none->H c=none:=fun c e=>by
  cases z:H c with
  | none=>rfl
  | some o=>
   by_cases y:c=p
   ·subst y
    obtain ⟨xs,e'⟩:=W1.some
    rw [g2 _ _ e'] at e
    cases e
   ·rw [g2 _ _ (s1 _ _ z y)] at e
    cases e
 have tlnew:a.tl≠new.ab∧a.tl≠new.th:=⟨ZAB S2.told nab,ZAB S2.told nth⟩
 have offT:∀ i:Nat,i<(m.ts++[ZCv rs]).length->((a.as++[new]).getD i .d).ab≠a.tl∧((a.as++[new]).getD i .d).th≠a.tl:=fun i hi=>by
  have en:(m.ts++[ZCv rs]).length=m.ts.length+1:=by simp
  rw [en] at hi
  by_cases z:i=m.ts.length
  ·subst z
   obtain ⟨e1,e2,_,_⟩:=ZBr (new:=new) (D:=D) S0
   exact ⟨fun y=>tlnew.1 (by rw [<-e1];exact y.symm),fun y=>tlnew.2 (by rw [<-e2];exact y.symm)⟩
  ·obtain ⟨e1,e2,_,_⟩:=ZBY (new:=new) (D:=D) S0 (i:=i) (by omega)
   have t2:=S0.t2 i (by omega)
   exact ⟨fun y=>t2.1 (by rw [<-e1];exact y.symm),fun y=>t2.2.1 (by rw [<-e2];exact y.symm)⟩
 have R4:=ZDo (o':=.lst (iN (List.range m.ts.length)++[.int (m.ts.length:Nat)])) R3 hto S0.tt.1.symm offT
 have ke4:∀ c o,c≠a.tl->H3 c=some o->upd H3 a.tl (.lst (iN (List.range m.ts.length)++[.int (m.ts.length:Nat)])) c=some o:=fun c o n e=>by rw [ZAG n];exact e
 have tl4:upd H3 a.tl (.lst (iN (List.range m.ts.length)++[.int (m.ts.length:Nat)])) a.tl=some (.lst (iN (List.range (m.ts.length+1)))):=by rw [ZAA,ZHx]
 generalize upd H3 a.tl (.lst (iN (List.range m.ts.length)++[.int (m.ts.length:Nat)]))=H4 at R4 ke4 tl4 ⊢
 refine ⟨_,rfl,nn (Nat.le_of_ble_eq_true rfl),fun t nt=>?_⟩
 have g5:=ZAE nt (.tup [.str "leaf",.ref D])
 have t5:upd H4 t (.tup [.str "leaf",.ref D]) t=some (.tup [.str "leaf",.ref D]):=ZAA
 generalize upd H4 t (.tup [.str "leaf",.ref D])=H5 at g5 t5 ⊢
 have R5:=R4.same g5
 have dT5:H5 a.dT=some (.dK kv2):=g5 _ _ (ke4 _ _ (ZAJ Lw3.dict hto (by intro z;cases z)) Lw3.dict)
 have lk2:kv2.length=m.ts.length:=by have:=congrArg List.length Lw3.keys;simpa using this
 have lh2:hvs.length=m.ts.length:=by have:=congrArg List.length hH.1;simpa using this
 refine ⟨_,rfl,_,rfl,a.dT,_,rfl,DPut.k (k:=Sum.inl (m.ts.length:Int)) dT5 (ZAO (by omega)),?_⟩
 have R6:=ZB4 (o':=.dK (ZBS kv2 (.inl (m.ts.length:Int)) (.ref t))) R5 dT5 S0.dd.1.symm
 have ke6:∀ c o,c≠a.dT->H5 c=some o->upd H5 a.dT (.dK (ZBS kv2 (.inl (m.ts.length:Int)) (.ref t))) c=some o:=fun c o n e=>by rw [ZAG n];exact e
 have dT6:upd H5 a.dT (.dK (ZBS kv2 (.inl (m.ts.length:Int)) (.ref t))) a.dT=some (.dK (ZBS kv2 (.inl (m.ts.length:Int)) (.ref t))):=ZAA
 generalize upd H5 a.dT (.dK (ZBS kv2 (.inl (m.ts.length:Int)) (.ref t)))=H6 at R6 ke6 dT6 ⊢
 have dH6:H6 a.dH=some (.dK hvs):=ke6 _ _ S0.dd.2.2.symm (g5 _ _ (ke4 _ _ (ZAJ hd3 hto (by intro z;cases z)) hd3))
 refine ⟨_,rfl,_,rfl,a.dH,_,rfl,DPut.k (k:=Sum.inl (m.ts.length:Int)) dH6 (ZAO (by omega)),?_⟩
 have R7:=ZB4 (o':=.dK (ZBS hvs (.inl (m.ts.length:Int)) (.int 1))) R6 dH6 S0.dd.2.1.symm
 have ke7:∀ c o,c≠a.dH->H6 c=some o->upd H6 a.dH (.dK (ZBS hvs (.inl (m.ts.length:Int)) (.int 1))) c=some o:=fun c o n e=>by rw [ZAG n];exact e
 have dH7:upd H6 a.dH (.dK (ZBS hvs (.inl (m.ts.length:Int)) (.int 1))) a.dH=some (.dK (ZBS hvs (.inl (m.ts.length:Int)) (.int 1))):=ZAA
 generalize upd H6 a.dH (.dK (ZBS hvs (.inl (m.ts.length:Int)) (.int 1)))=H7 at R7 ke7 dH7 ⊢
 have k37:∀ c o,c≠a.tl->c≠a.dT->c≠a.dH->H3 c=some o->H7 c=some o:=fun c o n1 n2 n3 e=>ke7 _ _ n3 (ke6 _ _ n2 (g5 _ _ (ke4 _ _ n1 e)))
 have tu7:ZBn H3 H7:=fun c ys e=>k37 _ _ (ZAJ e hto (by intro z;cases z)) (ZAJ e Lw3.dict (by intro z;cases z)) (ZAJ e hd3 (by intro z;cases z)) e
 have ls7:∀ c xs,c≠a.tl->H3 c=some (.lst xs)->H7 c=some (.lst xs):=fun c xs n e=>k37 _ _ n (ZAJ e Lw3.dict (by intro z;cases z)) (ZAJ e hd3 (by intro z;cases z)) e
 have tD:a.tl≠D:=ZAB S0.told nD
 have Dab:D≠new.ab:=ZAB (g2 _ _ hD1) nab
 have tt7:H7 t=some (.tup [.str "leaf",.ref D]):=ke7 _ _ (ZAJ t5 (g5 _ _ (ke4 _ _ (ZAJ hd3 hto (by intro z;cases z)) hd3)) (by intro z;cases z)) (ke6 _ _ (ZAJ t5 dT5 (by intro z;cases z)) t5)
 have LS7:LS gt CSh CTw H7 (a.push new D) ⟨m.ts++[ZCv rs],avP m.ts.length m.av,hoP m.ts.length m.ho⟩:=by
  refine ZK6 S0 (free2 _ nth) (free2 _ nab) nD Dab ⟨_,ls,U3.frame R7,l100⟩ ⟨_,ZIf (tp:=t) Lw3 tu7 (fun i hi o e=>?_) ?_ ?_ (ls7 _ _ tD.symm hD3) (fun _=>hk3.mono tu7 _ _) (fun z=>absurd rfl z)⟩ ⟨_,dH7,ZIv hH⟩ ⟨gs3,G3.frame tu7 (ls7 _ _ S0.tt.2.1.symm G3.at_)⟩ ?_ (by omega)
  ·obtain ⟨tp,us',_,_,e',_⟩:=Lw3.tw i hi
   have:o=.lst us':=by have:=e.symm.trans e';exact Option.some.inj this
   subst this
   exact ls7 _ _ (S0.t3 i hi).1 e
  ·exact ke7 _ _ S0.dd.2.2 dT6
  ·exact tt7
  ·exact ke7 _ _ (ZAJ tl4 (ke4 _ _ (ZAJ hd3 hto (by intro z;cases z)) hd3) (by intro z;cases z)) (ke6 _ _ (ZAJ tl4 (ke4 _ _ (ZAJ Lw3.dict hto (by intro z;cases z)) Lw3.dict) (by intro z;cases z)) (g5 _ _ tl4))
 have k17:∀ c o,c≠a.S->c≠a.d->c≠a.tl->c≠a.dT->c≠a.dH->H1 c=some o->H7 c=some o:=fun c o n1 n2 n3 n4 n5 e=>k37 _ _ n3 n4 n5 (fr _ _ n1 n2 (g2 _ _ e))
 have W7:WellAt H7 p:=ZFi W1 fun o e=>by
  obtain ⟨xs,e'⟩:=W1.some
  have eo:o=.lst xs:=by have:=e.symm.trans e';exact Option.some.inj this
  subst eo
  obtain ⟨⟨dS,hS⟩,hk,_⟩:=U1.sh.sh
  obtain ⟨kvA,LA⟩:=S1.lw
  obtain ⟨hvA,hA,_⟩:=S1.hd
  exact k17 _ _ (ZAJ e' hS (by intro z;cases z)) (ZAJ e' hk (by intro z;cases z)) O.tl.symm (ZAJ e' LA.dict (by intro z;cases z)) (ZAJ e' hA (by intro z;cases z)) e'
 have pn:∀ c,H c=none->c≠p:=fun c e=>(ZAB hpW e).symm
 refine k H7 _ _ (fun c o e v=>?_) W7 LS7 (O.push S0 (pn _ (free2 _ nth)) (pn _ (free2 _ nab)) (pn _ nD)) rfl (by simp)
 obtain ⟨v1,v2,v3,v4,v5,v6,v7⟩:=id v
 exact ⟨v.push S0 (ZAB e (free2 _ nx)) (ZAB e (free2 _ nab)),fun cp=>k17 _ _ v1 v2 v6 v4 v5 (s1 _ _ e cp)⟩
end
end Tw
namespace L2
open PySem PySem.Spec PyProof.Rows
section
variable {X:Cx}
end
def ExtS (H H':Hp):Prop:=(∀ b φ,H b=some (.ext φ)->H' b=some (.ext φ))∧∀ b ps,H b=some (.tbl ps)->H' b=some (.tbl ps)
theorem ExtS.same {H H':Hp} (s:Same H H'):ExtS H H':=⟨fun b _ e=>s b _ e,fun b _ e=>s b _ e⟩
theorem ExtS.trans {H H1 H2:Hp} (a:ExtS H H1) (b:ExtS H1 H2):ExtS H H2:=⟨fun c φ e=>b.1 c φ (a.1 c φ e),fun c ps e=>b.2 c ps (a.2 c ps e)⟩
theorem TabAt.ext {H H':Hp} {T:Addr} {q:Str} (h:TabAt H T q) (e:ExtS H H'):TabAt H' T q:=by
 obtain ⟨ps,h1,h2,h3⟩:=h
 refine ⟨ps,e.2 _ _ h1,h2,fun pos cv hc=>?_⟩
 obtain ⟨c',co,y1,y2,y3⟩:=h3 pos cv hc
 exact ⟨c',co,y1,e.1 _ _ y2,y3⟩
section
variable {cs:List Addr} {HL Hc H' H3:Hp}
theorem ZGa (n2:∀ c∈cs,H' c=none) (s3:Same (reT cs Hc H') H3) {b:Addr} {o:HO} (e:H' b=some o):unT cs H3 b=some o:=by
 have nb:b∉cs:=fun z=>by rw [n2 b z] at e;cases e
 rw [ZA7 nb]
 exact s3 _ _ (by rw [ZA9 nb];exact e)
theorem ZBz (hc:∀ c∈cs,∃ o,Hc c=some (ZB7 c o)) (s3:Same (reT cs Hc H') H3):∀ c∈cs,H3 c=Hc c:=fun c h=>by
 obtain ⟨o,e⟩:=hc c h
 rw [e]
 exact s3 _ _ (by rw [ZE8 h];exact e)
theorem ZEP (hc:∀ c∈cs,∃ o,Hc c=some (ZB7 c o)) (s3:Same (reT cs Hc H') H3) {t:Addr} {xs:List V} (e:H3 t=some (.tup xs)):unT cs H3 t=some (.tup xs):=by
 rw [ZA7 fun z=>?_]
 ·exact e
 ·rw [ZBz hc s3 t z] at e
  obtain ⟨o,e'⟩:=hc t z
  rw [e'] at e;cases e
end
end L2
namespace Tw
open PySem PySem.Spec L2 PyProof.Rows
abbrev qS:Str:=("_law_put_stem" ++ ".<locals>.") ++ "<lambda>"
abbrev cl2 (n:Nat):List (Str×Addr):=[((("_law_shelf" : String):Str),n+4),((("_law_handed" : String):Str),n+3)]
def ZDr (j:Nat):Arguments×Expr×Scope:=match (ZAp ZAt)[j]? with
 | some (.Assign _ (.Call _ [.Lambda ps b sc _] _ _) _)=>(ps,b,sc)
 | _=>(⟨[],[],none,[],[],none,[]⟩,.Name "" ⟨0,0,0,0⟩,(ZAI ZAt))
theorem ZMQ {CSh CTw:Addr} {H H':Hp} {S d lk T:Addr} {ts:List Twg} {av:Nat->List Nat} {ho:Nat->Nat} {as:List TwA} {kvs:List (Key×V)} {ls:List V} {q:Str} (R:ShP CSh CTw H S d lk ts av ho as kvs ls) (tab:TabAt H T q) (fr:∀ b o,b≠T->H b=some o->H' b=some o):ShP CSh CTw H' S d lk ts av ho as kvs ls:=by
 obtain ⟨ps,hT,_⟩:=id tab
 obtain ⟨⟨dS,hS⟩,hd,hl⟩:=id R.sh
 refine R.frame (fun b ys e=>fr _ _ (ZAJ e hT (by intro z;cases z)) e) (fun o e=>fr _ _ (ZAJ hS hT (by intro z;cases z)) e) (fun o e=>fr _ _ (ZAJ hd hT (by intro z;cases z)) e) (fun o e=>fr _ _ (ZAJ hl hT (by intro z;cases z)) e) fun i hi=>?_
 obtain ⟨dx,hx⟩:=(R.tw i hi).tw.self
 obtain ⟨us,ht,_⟩:=(R.tw i hi).things
 exact ⟨fun o e=>fr _ _ (ZAJ hx hT (by intro z;cases z)) e,fun o e=>fr _ _ (ZAJ ht hT (by intro z;cases z)) e,fun o e=>fr _ _ (ZAJ (R.tw i hi).tw.above hT (by intro z;cases z)) e⟩
section
variable {P:Program} {w:World} {K:PySem.W.Frag} {mg:Str->Option Value} {base:Heap} {CSh CTw:Addr}
theorem ZLS {gt:List KT} {CS CT CH:Addr} {f c':Addr} {co:Obj} {pm ctv:Value} {n:Nat} (hcd:ZGx co qS) (L:ShF K mg CSh CTw) (DM:MethOk P w K mg base (CXd P w) 10 CSh "put_stem" ["self","numbers"] (ZBa gt CSh CTw CS CT CH)) :
  FnOk P w K mg base (CXd P w) 12 f (PySem.W.kla_fn "<lambda>" qS (ZDr 6).1 (ZDr 6).2.1 (ZDr 6).2.2 (cl2 n) pm (.ref c') ctv) []
   (ZK2 f c' (PySem.W.kla_obj "<lambda>" qS (ZDr 6).1 (ZDr 6).2.1 (ZDr 6).2.2 (cl2 n) pm c' ctv) co (cl2 n) ["_law_shelf","_law_handed"] (ZBa gt CSh CTw CS CT CH)):=by
 have ne:(("_law_shelf" : String):Str)≠(("_law_handed" : String):Str):=by decide
 refine ZLf (k:=11) (fun x y c h1 h2=>?_) (fun x h=>?_) (fun x c h=>?_) (by decide +kernel) rfl rfl rfl (by decide +kernel) hcd fun A outer s H ws Q E hr h=>?_
 ·have e1:=PySem.mem_of_lookup h1
  have e2:=PySem.mem_of_lookup h2
  simp only [List.mem_cons,List.not_mem_nil,or_false,Prod.mk.injEq] at e1 e2
  rcases e1 with ⟨e1,f1⟩ | ⟨e1,f1⟩ <;> rcases e2 with ⟨e2,f2⟩ | ⟨e2,f2⟩
  ·rw [e1,e2]
  ·exact absurd (f1.symm.trans f2) (Nat.ne_of_gt (Nat.lt_succ_self (n+3)))
  ·exact absurd (f2.symm.trans f1) (Nat.ne_of_gt (Nat.lt_succ_self (n+3)))
  ·rw [e1,e2]
 ·have hx:∀ p∈(ZDr 6).2.2.names,(p.2=.cell∨p.2=.free)->p.1=(("_law_handed" : String):Str)∨p.1=(("_law_shelf" : String):Str):=by decide +kernel
  have:x=(("_law_handed" : String):Str)∨x=(("_law_shelf" : String):Str):=by
   rcases h with h | h
   ·exact hx _ (PySem.mem_of_lookup h) (.inl rfl)
   ·exact hx _ (PySem.mem_of_lookup h) (.inr rfl)
  rcases this with z | z
  ·exact ⟨n+3,by rw [z];rfl⟩
  ·exact ⟨n+4,by rw [z];rfl⟩
 ·have e1:=PySem.mem_of_lookup h
  exact List.mem_map.mpr ⟨_,e1,rfl⟩
 ·obtain ⟨S,d,lk,l,ts,av,ho,as,kvs,ls,ns,rfl,R,h⟩:=h
  obtain ⟨dx,hS⟩:=R.sh.self
  exact ⟨_,ZAo (E:=E) (pv 0) L.cS DM (hr.mono (by omega)) (ZCa (E1:=E) ZMf fun _ _ _ h=>h) (ZAN (pv 1) ZAC),_,rfl,S,dx,_,rfl,hS,rfl,_,rfl,S,d,lk,l,ts,av,ho,as,kvs,ls,ns,rfl,R,h⟩
theorem ZN3 {gt:List KT} {CB:Addr} {C:Nat->Addr} {n:Nat} {σ:L2.St} {H2:Hp} {Q:VK} {T hd S d lk:Addr} {ts:List Twg} {av:Nat->List Nat} {ho:Nat->Nat} {as:List TwA} {kvs:List (Key×V)} {ls:List V} {ns:List Int} {NX:List Str} {j0 j1:Nat} {f3 f4:Addr} (L:ShF K mg CSh CTw)
  (X2:XC K CB C 2) (X3:XC K CB C 3) (X4:XC K CB C 4) (F3:ExcF K (C 3) f3 "number") (F4:ExcF K (C 4) f4 "number") (DM:MethOk P w K mg base (CXd P w) 10 CSh "put_stem" ["self","numbers"] (ZBa gt CSh CTw (C 2) (C 3) (C 4)))
  (tab:TabAt H2 T qS) (hj:NX[j0]? = some (("_law_handed" : String):Str)) (hσ:σ[j0]? = some (some (.ref hd))) (hj1:NX[j1]? = some (("_law_shelf" : String):Str)) (hσ1:σ[j1]? = some (some (.ref S))) (hhd:H2 hd=some (.lst (ns.map V.int))) (R:ShP CSh CTw H2 S d lk ts av ho as kvs ls) (hw:WF gt ts) (t800:ts.length<=800) (a800:∀ b,b<ts.length->(av b).length<=800) (h100:ns.length<=100)
  (k1:∀ x,ns.find? (fun x=>!inT ts x)=some x->∀ (H3:Hp) (t:Addr),(∀ b o,b≠T->H2 b=some o->H3 b=some o)->TabAt H3 T qS->H3 t=some (.tup [.str "twig",.int x])->Q (.ref t) H3)
  (k2:∀ bs:List Nat,ns=bs.map (fun b:Nat=>(b:Int))->(∀ b∈bs,b<ts.length) ->
   (over (ZAe ts bs)=none->∀ (H3:Hp) (t:Addr),(∀ b o,b≠T->H2 b=some o->H3 b=some o)->TabAt H3 T qS->H3 t=some (.tup [.str "stem"])->Q (.ref t) H3) ∧
   (over (ZAe ts bs)≠none->∀ b,bs.find? (fun b=>decide (ho b=0))=some b->∀ (H3:Hp) (t:Addr),(∀ b o,b≠T->H2 b=some o->H3 b=some o)->TabAt H3 T qS->H3 t=some (.tup [.str "held",.int (b:Nat)])->Q (.ref t) H3) ∧
   (over (ZAe ts bs)≠none->bs.find? (fun b=>decide (ho b=0))=none->∀ (H3:Hp) (t:Addr) (a:TwA),H2 a.x=none->H2 a.th=none->H2 a.ab=none ->
    (∀ c o,c≠S->c≠d->c≠T->(∀ b:Nat,b<ts.length->c≠(as.getD b .d).x∧c≠(as.getD b .d).ab)->H2 c=some o->H3 c=some o)->TabAt H3 T qS ->
    ShP CSh CTw H3 S d lk (ts++[ZBc ts bs]) (avK bs ts.length (avP ts.length av)) (hoK bs (hoP ts.length ho)) (as++[a]) (ZBS kvs (.inl (ts.length:Int)) (.ref a.x)) ls->H3 t=some (.tup [.str "told",.int (ts.length:Nat)])->Q (.ref t) H3)) :
  ZKu (ZDg P w K mg base CB C) (cl2 n) ["_law_shelf","_law_handed"] NX (ZBT (ZO6 T (ZDr 6).1 (ZDr 6).2.1 (ZDr 6).2.2 qS (cl2 n)) ZHO) σ H2 Q:=by
 refine ⟨tab,fun HL f c' co pm ctv hco hf hc' fr tabL oth=>?_⟩
 refine ⟨[.ref S,.ref hd],rfl,fun i x v h1 h2=>?_,fun Hc eU hout hin CA=>?_⟩
 ·have i2:=(List.getElem?_eq_some_iff.mp h2).1
  match i,i2,h1,h2 with
  | 0,_,h1,h2=>cases h1;cases h2;exact ⟨j1,hj1,hσ1⟩
  | 1,_,h1,h2=>cases h1;cases h2;exact ⟨j0,hj,hσ⟩
  | i+2,i2,_,_=>exact absurd (show i+2<2 from i2) (by omega)
 have hcs:∀ c∈(cl2 n).map (·.2),∃ o,Hc c=some (ZB7 c o):=fun c hc=>by
  obtain ⟨o,v,e,_⟩:=CA.all c hc
  exact ⟨o,e⟩
 obtain ⟨ps,hT,_⟩:=id tab
 obtain ⟨psL,hTL,_⟩:=id tabL
 have hhdL:=fr _ _ (ZAJ hhd hT (by intro z;cases z)) hhd
 have RL:=ZMQ R tab fr
 have free2:∀ b,HL b=none->H2 b=none:=fun b e=>by
  cases z:H2 b with
  | none=>rfl
  | some o=>
   by_cases y:b=T
   ·rw [y,hTL] at e;cases e
   ·rw [fr _ _ y z] at e;cases e
 refine ⟨f,_,_,_,rfl,ZLS (n:=n) (f:=f) (c':=c') (co:=co) (pm:=pm) (ctv:=ctv) hco L DM,fun s=>.of_eq rfl,hin _ _ hf,fun Q' E' hQ hE=>?_⟩
 refine ⟨rfl,hin _ _ hf,hin _ _ hc',[.ref S,.ref hd],CA,?_⟩
 rw [eU]
 have back:∀ (H' H3:Hp),Same HL H'->(∀ c∈(cl2 n).map (·.2),H' c=none)->Same (reT ((cl2 n).map (·.2)) Hc H') H3->(∀ b o,b≠T->H2 b=some o->unT ((cl2 n).map (·.2)) H3 b=some o)∧TabAt (unT ((cl2 n).map (·.2)) H3) T qS:=by
  intro H' H3 s' nc s3
  have bk:Same H' (unT ((cl2 n).map (·.2)) H3):=fun b o e=>ZGa nc s3 e
  exact ⟨fun b o nb e=>bk _ _ (s' _ _ (fr b o nb e)),tabL.ext (ExtS.same (s'.trans bk))⟩
 have reIn:∀ (H':Hp) (b:Addr) (o:HO),(∀ c∈(cl2 n).map (·.2),H' c=none)->H' b=some o->reT ((cl2 n).map (·.2)) Hc H' b=some o:=fun H' b o nc e=>by
  have:b∉(cl2 n).map (·.2):=fun z=>by rw [nc b z] at e;cases e
  unfold reT
  rw [if_neg this]
  exact e
 refine ⟨S,d,lk,hd,ts,av,ho,as,kvs,ls,ns,rfl,RL,hw,t800,a800,hhdL,h100,fun x hx dx H' s' hdx nc=>?_,fun bs eb hb=>?_⟩
 ·refine hE _ _ _ ⟨3,by omega,rfl,X3,.inr ⟨by omega,dx,x,f3,rfl,reIn _ _ _ nc hdx,F3,fun H3 t s3 ht=>?_⟩⟩
  obtain ⟨b1,b2⟩:=back H' H3 s' nc s3
  exact ⟨ZBz hcs s3,k1 x hx _ t b1 b2 (ZEP hcs s3 ht)⟩
 ·obtain ⟨q1,q2,q3⟩:=k2 bs eb hb
  refine ⟨fun ho' H' s' nc=>?_,fun ho' b hb' dx H' s' hdx nc=>?_,fun ho' hf' H' a nx nth nab fr' R' nc=>hQ _ _ fun t ht=>?_⟩
  ·refine hE _ _ _ ⟨2,by omega,rfl,X2,.inl ⟨by omega,fun H3 t s3 ht=>?_⟩⟩
   obtain ⟨b1,b2⟩:=back H' H3 s' nc s3
   exact ⟨ZBz hcs s3,q1 ho' _ t b1 b2 (ZEP hcs s3 ht)⟩
  ·refine hE _ _ _ ⟨4,by omega,rfl,X4,.inr ⟨by omega,dx,(b:Nat),f4,rfl,reIn _ _ _ nc hdx,F4,fun H3 t s3 ht=>?_⟩⟩
   obtain ⟨b1,b2⟩:=back H' H3 s' nc s3
   exact ⟨ZBz hcs s3,q2 ho' b hb' _ t b1 b2 (ZEP hcs s3 ht)⟩
  ·have g:=ZAE ht (.tup [.str "told",.int (ts.length:Nat)])
   have bk:Same H' (unT ((cl2 n).map (·.2)) (upd (reT ((cl2 n).map (·.2)) Hc H') t (.tup [.str "told",.int (ts.length:Nat)]))):=fun b o z=>ZGa nc g z
   obtain ⟨⟨dxL,hSL⟩,hdL,_⟩:=RL.sh
   have av':∀ (b:Addr) (o:HO),HL b=some o->(∀ i:Nat,i<ts.length->b≠(as.getD i .d).x∧b≠(as.getD i .d).ab)->b≠S->b≠d->H' b=some o:=fun b o e n1 n2 n3=>fr' b o n2 n3 n1 e
   have kx:∀ (b:Addr) (o:HO),HL b=some o->(∀ C dx us,o≠.ins C dx us)->(∀ us,o≠.lst us)->(∀ us,o≠.dK us)->H' b=some o:=fun b o e m1 m2 m3=>av' b o e (fun i hi=>by
    obtain ⟨dx,hx⟩:=(RL.tw i hi).tw.self
    exact ⟨ZAJ e hx (m1 _ _ _),ZAJ e (RL.tw i hi).tw.above (m2 _)⟩) (ZAJ e hSL (m1 _ _ _)) (ZAJ e hdL (m3 _))
   have ex:ExtS HL H':=⟨fun b φ z=>kx _ _ z (by intro _ _ _ y;cases y) (by intro _ y;cases y) (by intro _ y;cases y),fun b φ z=>kx _ _ z (by intro _ _ _ y;cases y) (by intro _ y;cases y) (by intro _ y;cases y)⟩
   exact ⟨ZBz hcs g,q3 ho' hf' _ t a (free2 _ nx) (free2 _ nth) (free2 _ nab) (fun c o n1 n2 n3 n4 e=>bk _ _ (fr' c o n1 n2 n4 (fr _ _ n3 e))) (tabL.ext (ex.trans (ExtS.same bk))) (R'.same bk) (ZEP hcs g ZAA)⟩
end
end Tw
namespace L2
open PySem PySem.Spec PyProof.Rows
section
variable {X:Cx}
theorem ZIC (hu:X.A.units<cLine):OpR X (compareOp .NotEq) (fun x y H Q=>∃ (p b:Addr) (ns:List Int),x=.ref p∧y=.ref b∧SqL X.K H p (ns.map V.int)∧SqL X.K H b (ns.map V.int)∧Q (.bl false) H):=by
 intro pins s σ H x y v u Q I rx ry h
 obtain ⟨p,b,ns,rfl,rfl,h1,h2,q⟩:=h
 cases rx
 cases ry
 obtain ⟨its,r1,p1,z1⟩:=I.list h1
 obtain ⟨its2,r2,p2,z2⟩:=I.list h2
 have l1:=r1.length
 have l2:=r2.length
 refine PySem.SeqAt.RcNeAt.lists (e:=fun _=>true) p1.isList p2.isList (by simp;omega) hu (fun j g1 g2=>?_) X.prog X.w X.xe _ (ZAh I q (by simp))
 have hj:j<ns.length:=by simp at g1;simp at l1;omega
 have hv:(ns.map V.int)[j]? = some (.int ns[j]):=by simp [hj]
 obtain ⟨u1,e1,a1⟩:=r1.get hv
 obtain ⟨u2,e2,a2⟩:=r2.get hv
 obtain ⟨t1,rfl⟩:=a1
 obtain ⟨t2,rfl⟩:=a2
 have k1:its.toArray[j]=Value.int ns[j] t1:=by
  have:its.toArray[j]? = some (Value.int ns[j] t1):=by simpa using e1
  rw [Array.getElem?_eq_getElem g1] at this
  exact Option.some.inj this
 have k2:its2.toArray[j]=Value.int ns[j] t2:=by
  have:its2.toArray[j]? = some (Value.int ns[j] t2):=by simpa using e2
  rw [Array.getElem?_eq_getElem g2] at this
  exact Option.some.inj this
 rw [k1,k2]
 have:=PySem.SeqAt.EqAt.int_int (A:=X.A.in1) (s:=s) ns[j] t1 ns[j] t2
 simpa using this
end
end L2
namespace Tw
open PySem PySem.Spec L2 PyProof.Rows
theorem ZNG {n:Nat} {y:Str} {c:Addr} (h:(cl2 n).lookup y=some c):(cellsFrom (n+1) (ZAI ZAt).names []).lookup y=some c:=by
 have e:=PySem.mem_of_lookup h
 simp only [List.mem_cons,List.not_mem_nil,or_false,Prod.mk.injEq] at e
 rcases e with ⟨e1,e2⟩ | ⟨e1,e2⟩
 ·rw [e1,e2];rfl
 ·rw [e1,e2];rfl
theorem ZPa {n:Nat}:∀ c∈(cl2 n).map (·.2),∃ y,(cl2 n).lookup y=some c:=fun c hc=>by
 have e:c=n+4∨c=n+3:=by simpa using hc
 rcases e with e | e
 ·exact ⟨(("_law_shelf" : String):Str),by rw [e];rfl⟩
 ·exact ⟨(("_law_handed" : String):Str),by rw [e];rfl⟩
theorem ZME:(ZAI ZAt).names.lookup (("_law_handed" : String):Str)=some .cell:=by decide +kernel
theorem ZLp:(ZAI ZAt).names.lookup (("_law_shelf" : String):Str)=some .cell:=by decide +kernel
theorem nmS {n:Nat}:∀ y∈[(("_law_shelf" : String):Str),(("_law_handed" : String):Str)],(ZAI ZAt).names.lookup y=some .cell∧∃ c,(cl2 n).lookup y=some c:=fun y hy=>by
 have e:y=(("_law_shelf" : String):Str)∨y=(("_law_handed" : String):Str):=by simpa using hy
 rcases e with e | e
 ·rw [e];exact ⟨ZLp,_,rfl⟩
 ·rw [e];exact ⟨ZME,_,rfl⟩
theorem ZKr {gt:List KT} {CSh CTw:Addr} {H H':Hp} {a:Pl} {m:Md} (h:LS gt CSh CTw H a m) (fr:∀ c o,(∀ ps,o≠.tbl ps)->H c=some o->H' c=some o):LS gt CSh CTw H' a m:=by
 obtain ⟨kvs,ls,U,l100⟩:=h.sh
 obtain ⟨kv2,L⟩:=h.lw
 obtain ⟨hvs,hd,hH⟩:=h.hd
 obtain ⟨gs,G⟩:=h.gr
 have tu:ZBn H H':=fun c ys e=>fr _ _ (by intro _ z;cases z) e
 obtain ⟨⟨dS,hS⟩,hk,hl⟩:=id U.sh.sh
 have R:ShP CSh CTw H' a.S a.d a.lk m.ts m.av m.ho a.as kvs ls:=by
  refine U.sh.frame tu (fun o e=>fr _ _ (by have e2:=e.symm.trans hS;cases e2;intro _ z;cases z) e) (fun o e=>fr _ _ (by have e2:=e.symm.trans hk;cases e2;intro _ z;cases z) e) (fun o e=>fr _ _ (by have e2:=e.symm.trans hl;cases e2;intro _ z;cases z) e) fun i hi=>?_
  obtain ⟨dx,hx⟩:=(U.sh.tw i hi).tw.self
  obtain ⟨us,ht,_⟩:=(U.sh.tw i hi).things
  exact ⟨fun o e=>fr _ _ (by have e2:=e.symm.trans hx;cases e2;intro _ z;cases z) e,fun o e=>fr _ _ (by have e2:=e.symm.trans ht;cases e2;intro _ z;cases z) e,fun o e=>fr _ _ (by have e2:=e.symm.trans (U.sh.tw i hi).tw.above;cases e2;intro _ z;cases z) e⟩
 refine ⟨⟨kvs,ls,U.frame R,l100⟩,⟨kv2,L.frame tu (fr _ _ (by intro _ z;cases z) L.dict) fun i hi o e=>?_⟩,⟨hvs,fr _ _ (by intro _ z;cases z) hd,hH⟩,⟨gs,G.frame tu (fr _ _ (by intro _ z;cases z) G.at_)⟩,fr _ _ (by intro _ z;cases z) h.told,h.dd,h.tt,h.t2,h.t3,h.l64⟩
 obtain ⟨tp,us,_,_,e3,_⟩:=L.tw i hi
 exact fr _ _ (by have e2:=e.symm.trans e3;cases e2;intro _ z;cases z) e
theorem ZOP {gt:List KT} {CSh CTw:Addr} {H H':Hp} {a:Pl} {m:Md} (h:LS gt CSh CTw H a m) (fr:∀ c o,(∀ ps,o≠.tbl ps)->c≠a.S->c≠a.d->c≠a.lk->(∀ i:Nat,i<m.ts.length->c≠a.x i∧c≠a.ab i)->H c=some o->H' c=some o):LO gt H' a m:=by
 obtain ⟨kvs,ls,U,l100⟩:=h.sh
 obtain ⟨kv2,L⟩:=h.lw
 obtain ⟨hvs,hd,hH⟩:=h.hd
 obtain ⟨gs,G⟩:=h.gr
 have R:=U.sh
 obtain ⟨⟨dS,hS⟩,hk,hl⟩:=R.sh
 have hx:∀ i:Nat,i<m.ts.length->∃ dx us,H (a.x i)=some (.ins CTw dx us):=fun i hi=>by
  obtain ⟨dx,e⟩:=(R.tw i hi).tw.self
  exact ⟨dx,_,e⟩
 have hab:∀ i:Nat,i<m.ts.length->H (a.ab i)=some (.lst (iN (m.av i))):=fun i hi=>(R.tw i hi).tw.above
 have tu:ZBn H H':=fun b ys e=>fr b _ (by intro _ z;cases z) (ZAJ e hS (by intro z;cases z)) (ZAJ e hk (by intro z;cases z)) (ZAJ e hl (by intro z;cases z)) (fun i hi=>by
  obtain ⟨dx,us,e'⟩:=hx i hi
  exact ⟨ZAJ e e' (by intro z;cases z),ZAJ e (hab i hi) (by intro z;cases z)⟩) e
 have list:∀ (c:Addr) (xs:List V),H c=some (.lst xs)->c≠a.lk->(∀ i:Nat,i<m.ts.length->c≠a.ab i)->H' c=some (.lst xs):=fun c xs e n1 n2=>fr c _ (by intro _ z;cases z) (ZAJ e hS (by intro z;cases z)) (ZAJ e hk (by intro z;cases z)) n1 (fun i hi=>by
  obtain ⟨dx,us,e'⟩:=hx i hi
  exact ⟨ZAJ e e' (by intro z;cases z),n2 i hi⟩) e
 have dict:∀ (c:Addr) (xs:List (Key×V)),H c=some (.dK xs)->c≠a.d->H' c=some (.dK xs):=fun c xs e n1=>fr c _ (by intro _ z;cases z) (ZAJ e hS (by intro z;cases z)) n1 (ZAJ e hl (by intro z;cases z)) (fun i hi=>by
  obtain ⟨dx,us,e'⟩:=hx i hi
  exact ⟨ZAJ e e' (by intro z;cases z),ZAJ e (hab i hi) (by intro z;cases z)⟩) e
 refine ⟨⟨kv2,L.frame tu (dict _ _ L.dict h.dd.1) fun i hi o e=>?_⟩,⟨hvs,dict _ _ hd h.dd.2.1,hH⟩,⟨gs,G.frame tu (list _ _ G.at_ h.tt.2.2.symm fun i hi=>(h.t2 i hi).2.2)⟩,list _ _ h.told h.tt.1 fun i hi=>(h.t2 i hi).1⟩
 obtain ⟨tp,us,_,_,e',_⟩:=L.tw i hi
 have:o=.lst us:=by have:=e.symm.trans e';exact Option.some.inj this
 subst this
 exact list _ _ e (h.t3 i hi).2.1 fun j hj=>(h.t3 i hi).2.2 j hj
theorem ZGf {bs:List Nat} {ho:Nat->Nat}:(bs.map (fun b:Nat=>(b:Int))).find? (fun n=>decide (((ho n.toNat:Nat):Int)=0))=(bs.find? fun b=>decide (ho b=0)).map fun b:Nat=>(b:Int):=by
 rw [List.find?_map]
 congr 1
 refine congrArg (fun q=>List.find? q bs) (funext fun b=>?_)
 show decide (((ho ((b:Nat):Int).toNat:Nat):Int)=0)=decide (ho b=0)
 rw [decide_eq_decide]
 simp
theorem ZMc {bs:List Nat} {n:Nat} {ho:Nat->Nat} (h:n∉bs):hoP n (hoK bs ho)=hoK bs (hoP n ho):=by
 funext i
 by_cases z:i=n
 ·subst z
  show (if i=i then 1 else hoK bs ho i)=(if i∈bs then (if i=i then 1 else ho i) - 1 else (if i=i then 1 else ho i))
  rw [if_pos rfl,if_neg h]
  simp
 ·show (if i=n then 1 else (if i∈bs then ho i - 1 else ho i))=(if i∈bs then (if i=n then 1 else ho i) - 1 else (if i=n then 1 else ho i))
  rw [if_neg z,if_neg z]
section
variable {P:Program} {w:World} {K:PySem.W.Frag} {mg:Str->Option Value} {base:Heap} {f:Addr} {fd:FuncData} {CSh CTw:Addr}
def ZCt (gt:List KT) (CSh CTw T:Addr):Sp:=fun vs H Q _=>∃ (p st:Addr) (a:Pl) (m:Md),vs=[.ref p,.ref st]∧WellAt H p∧H st=some (.tup (stT a))∧LS gt CSh CTw H a m∧Off a m p∧0<m.ts.length∧m.ts.length<=60∧TabAt H T qS ∧
 ∀ (H':Hp) (a':Pl) (m':Md),(∀ c o,H c=some o->Avoid a m c->Avoid a' m' c∧(c≠p->c≠T->H' c=some o))->LS gt CSh CTw H' a' m'->stT a'=stT a->m.ts.length<=m'.ts.length->m'.ts.length<=m.ts.length+1->TabAt H' T qS->Q (.bl true) H'
abbrev ZFB:List Str:=["_law_well_here","_law_state","_law_shelf","_law_twigs","_law_holds","_law_grid_here","_law_told","_law_numbers","_law_some","_law_due","_law_handed","_law_found","_law_number"]
theorem scLPutStem:FnScope ZFB ["_law_well_here","_law_state"] (ZAI ZAt):=⟨rfl,rfl,rfl,by decide +kernel,rfl,by decide +kernel,by decide +kernel⟩
theorem ZI0 {A:Around} {outer:List Env} {s:Shared} {Hs:Hp} {E:XK} {gt:List KT} {CB:Addr} {C:Nat->Addr} {c T f3 f4:Addr} (CC:PySem.W.CodeHd base c T) (hbt:base.BuiltinsAt mg T)
  (X:Txt mg) (L:ShF K mg CSh CTw) (X2:XC K CB C 2) (X3:XC K CB C 3) (X4:XC K CB C 4) (F3:ExcF K (C 3) f3 "number") (F4:ExcF K (C 4) f4 "number") (DM:MethOk P w K mg base (CXd P w) 10 CSh "put_stem" ["self","numbers"] (ZBa gt CSh CTw (C 2) (C 3) (C 4)))
  (DQ:DefOk P w K mg base 13 "_law_asked" ["_law_call"] (ZDg P w K mg base CB C)) (DR:DefOk P w K mg base 4 "_law_run" ["_law_well_here","_law_twigs","_law_holds","_law_grid_here"] (ZJw gt)) (DP:DefOk P w K mg base 1 "_law_pull" ["_law_well_here","_law_many"] ZCy) (DK:DefOk P w K mg base 2 "_law_picked" ["_law_well_here","_law_some"] ZCU)
  (DW:DefOk P w K mg base 8 "_law_wrong" ["_law_twigs","_law_numbers","_law_high"] (ZEj gt)) (DU:DefOk P w K mg base 1 "_law_unheld" ["_law_holds","_law_numbers"] ZC8) (DAl:DefOk P w K mg base 7 "_law_alike" ["_law_found","_law_due"] (ZCJ 6))
  (hr:Room 13 (A.deeper (envOfC "_law_put_stem" (ZAI ZAt) s.heap.objs.size f (.ref c)))) :
  ∃ t,PSs (ZFp CX0 P w K mg base ZFB "_law_put_stem" (ZAI ZAt) f (.ref c) A outer s Hs E) ((ZAp ZAt).drop 3) t ∧
   ∀ (H H3:Hp) (Q:VK) (p st LN:Addr) (a:Pl) (m:Md) (x8:Option V) (ns:List Int),WellAt H p->LS gt CSh CTw H a m->Off a m p->0<m.ts.length->m.ts.length<=60->TabAt H T qS->SameX p H H3->WellAt H3 p->H LN=none->H3 LN=some (.lst (ns.map V.int))->ns.length<=6 ->
    (∀ (H':Hp) (a':Pl) (m':Md),(∀ c o,H c=some o->Avoid a m c->Avoid a' m' c∧(c≠p->c≠T->H' c=some o))->LS gt CSh CTw H' a' m'->stT a'=stT a->m.ts.length<=m'.ts.length->m'.ts.length<=m.ts.length+1->TabAt H' T qS->Q (.bl true) H') ->
    t { nx:=fun _ H'=>Q .non H',rt:=Q } [some (.ref p),some (.ref st),some (.ref a.S),some (.ref a.dT),some (.ref a.dH),some (.ref a.gl),some (.ref a.tl),some (.ref LN),x8,none,none,none,none] H3:=by
 have nd:=scLPutStem.nd
 have hu:=ZCW hr
 have hr1:=hr.mono (show 1<=13 by omega)
 have hr2:=hr.mono (show 2<=13 by omega)
 have hr4:=hr.mono (show 4<=13 by omega)
 have hr7:=hr.mono (show 7<=13 by omega)
 have hr8:=hr.mono (show 8<=13 by omega)
 obtain ⟨fA,fdA,FA,bA,kA,mA⟩:=DQ.ex
 refine ⟨_,ZAD (ZAU (i:=9) nd rfl (Or.inl rfl) (ZAT DW hr8 (ZAN (pv 3) (ZAN (pv 7) (ZAN ZFT ZAC)))))
  (ZAD (ZAf (ZDB (ZH2 (pv 9))) (ZAH (ZAU (i:=9) nd rfl (Or.inl rfl) (ZAT DU hr1 (ZAN (pv 4) (ZAN (pv 7) ZAC))))) ZAR)
  (ZAD (ZAU (i:=10) nd rfl (Or.inr rfl) (ZAm ZA0 rfl X.list ZBi (ZAN (pv 7) ZAC)))
  (ZAD (ZAU (i:=11) nd rfl (Or.inl rfl) (ZJp (cl:=cl2 s.heap.objs.size) (N:=["_law_shelf","_law_handed"]) FA hr rfl mA kA bA (ZAN (ZMw (P:=T) (cl:=cl2 s.heap.objs.size) rfl CC hbt rfl rfl) ZAC) (fun y c h=>ZNG h) ZPa nmS fun _=>rfl))
  (ZAD (ZAf (ZAX (ZIC hr.units0) (pv 10) (pv 7) (ZAW _)) ZAd ZAR)
  (ZAD (ZAf (ZDB (ZJd (pv 9))) (ZAH (ZAQ (ZAT DAl hr7 (ZAN (pv 11) (ZAN (pv 9) ZAC))))) ZAR)
  (ZAD (ZA2 (ZGW PySem.F.plainAttrs_list PySem.F.slot_list_clear PySem.F.type_list_clear ZET (pv 10)))
  (ZAD (ZAf (PW.pt (ZB9 (ZAX ZEN (ZAV (r:=rIx K) ZAP (pv 11) ZAF (fun _ _=>rfl)) ZAl (ZAW _)) (ZB9 (ZAy (ZAg (ZAK ZAY rfl X.isi ZAM (ZAN (ZAV (r:=rIx K) ZAP (pv 11) ZAF (fun _ _=>rfl)) (ZAN (ZAi (v:=.ty "int") rfl X.int ZCN rfl) ZAC)))))
   (ZB9 (ZAg (ZAK ZAY rfl X.isi ZAM (ZAN (ZAV (r:=rIx K) ZAP (pv 11) ZAF (fun _ _=>rfl)) (ZAN (ZAi (v:=.ty "bool") rfl X.bool ZCj rfl) ZAC)))) (ZB0 (ZAX ZDt (ZAV (r:=rIx K) ZAP (pv 11) ZAF (fun _ _=>rfl)) (ZAK (ZFF rfl) rfl X.max ZFW (ZAN (pv 6) ZAC)) (ZAW _))))))) ZAd ZAR)
  (ZAD (ZA2 (ZCX PySem.F.plainAttrs_list PySem.F.slot_list_append PySem.F.type_list_append ZAu (pv 6) (ZAN (ZAV (r:=rIx K) ZAP (pv 11) ZAF (fun _ _=>rfl)) ZAC)))
  (ZAD (ZBe ZJ9 rfl (ZA5 (pv 7)) (ZAZ (i:=12) nd rfl (Or.inl rfl)) (ZAH (ZCu hu (pv 4) (pv 12) (ZAb ZCV (ZBJ hu (pv 4) (pv 12) (fun _ _=>rfl)) ZAF) rfl)))
  (ZAD (ZCu hu (pv 3) (ZAV (r:=rIx K) ZAP (pv 11) ZAF (fun _ _=>rfl)) (ZAk (ZAN ZAl (ZAN (pv 7) ZAC))) rfl)
  (ZAD (ZCu hu (pv 4) (ZAV (r:=rIx K) ZAP (pv 11) ZAF (fun _ _=>rfl)) ZAF rfl)
  (ZAH (ZAQ ZDQ))))))))))))),fun H H3 Q p st LN a m x8' ns W S0 O l0 l60 tab x3 W3 nLN hLN3 lns k=>?_⟩
 obtain ⟨xsP,hpW⟩:=W.some
 obtain ⟨kvs,ls,U,l100⟩:=S0.sh
 obtain ⟨gs,G⟩:=S0.gr
 have l64:=S0.l64
 have eI:((List.range m.ts.length).map fun i:Nat=>(i:Int)).map V.int=iN (List.range m.ts.length):=by rw [List.map_map];rfl
 have S3:=S0.sx O hpW x3
 obtain ⟨kvs3,ls3,U3,l3⟩:=S3.sh
 obtain ⟨tkv3,Lw3⟩:=S3.lw
 obtain ⟨hvs3,hd3,hH3⟩:=S3.hd
 have tab3:TabAt H3 T qS:=TabAt.ext tab ⟨fun b φ e=>x3 _ _ e (ZAJ e hpW (by intro z;cases z)),fun b φ e=>x3 _ _ e (ZAJ e hpW (by intro z;cases z))⟩
 have OL:=S0.off nLN
 have a800:∀ b,b<m.ts.length->(m.av b).length<=800:=fun b hb=>by
  rw [U.av b hb]
  have:=ZLz m.ts b
  omega
 have refuse:∀ (H4 H6:Hp),Same H3 H4->(∀ b o,b≠T->H4 b=some o->H6 b=some o)->TabAt H4 T qS->TabAt H6 T qS->∀ H7,Same H6 H7->Q (.bl true) H7:=fun H4 H6 s4 fr6 tab4 tab6 H7 s7=>by
  obtain ⟨ps4,hT4,_⟩:=id tab4
  refine k H7 a m (fun c o e v=>⟨v,fun n1 n2=>s7 _ _ (fr6 _ _ n2 (s4 _ _ (x3 _ _ e n1)))⟩) (ZKr (S3.same s4) fun c o z e=>s7 _ _ (fr6 _ _ (ZAJ e hT4 (z _)) e)) rfl (Nat.le_refl _) (by omega) (TabAt.ext tab6 (ExtS.same s7))
 have inj:∀ bs bs':List Nat,ns=bs.map (fun b:Nat=>(b:Int))->ns=bs'.map (fun b:Nat=>(b:Int))->bs=bs':=fun bs bs' e1 e2=>by
  have e3:=e1.symm.trans e2
  have:=congrArg (List.map Int.toNat) e3
  simpa [List.map_map,Function.comp_def] using this
 have noX:∀ (bs:List Nat) (x:Int),ns=bs.map (fun b:Nat=>(b:Int))->(∀ b∈bs,b<m.ts.length)->ns.find? (fun x=>!inT m.ts x)=some x->False:=fun bs x e1 hb hx=>by
  have h1:=List.mem_of_find?_eq_some hx
  have h2:=List.find?_some hx
  rw [e1] at h1
  obtain ⟨b,hb',rfl⟩:=List.mem_map.mp h1
  have:=hb b hb'
  unfold inT at h2
  simp at h2
  omega
 refine ⟨_,rfl,_,rfl,a.dT,LN,ns,m.ts,tkv3,rfl,Lw3.lawT S0.wf G.len G.up,hLN3,by omega,fun x hx t H4 s4 ht=>?_,fun bs eb hb hov t H4 s4 ht=>?_,fun bs eb hb hov H4 s4=>?_⟩
 ·refine ⟨_,rfl,_,rfl,ZAz ?_⟩
  refine ⟨_,rfl,LN,_,rfl,.inl (SqL.of (s4 _ _ hLN3)),fun hd nhd=>?_⟩
  have g5:=ZAE nhd (.lst (ns.map V.int))
  have hhd:upd H4 hd (.lst (ns.map V.int)) hd=some (.lst (ns.map V.int)):=ZAA
  generalize upd H4 hd (.lst (ns.map V.int))=H5 at g5 hhd ⊢
  have s35:=s4.trans g5
  have tab5:=TabAt.ext tab3 (ExtS.same s35)
  refine ZN3 (gt:=gt) (CB:=CB) (C:=C) (f3:=f3) (f4:=f4) (j0:=10) (j1:=2) (hd:=hd) (ns:=ns) L X2 X3 X4 F3 F4 DM tab5 rfl rfl rfl rfl hhd (U3.sh.same s35) S0.wf (by omega) a800 (by omega) (fun x' hx' H6 tf fr6 tab6 htf=>?_) fun bs eb hb=>⟨fun ho'=>(noX bs x eb hb hx).elim,fun ho'=>(noX bs x eb hb hx).elim,fun ho'=>(noX bs x eb hb hx).elim⟩
  cases hx.symm.trans hx'
  obtain ⟨ps5,hT5,_⟩:=id tab5
  have hhd6:=fr6 _ _ (ZAJ hhd hT5 (by intro z;cases z)) hhd
  have hL5:=s35 _ _ hLN3
  have hL6:=fr6 _ _ (ZAJ hL5 hT5 (by intro z;cases z)) hL5
  have ht5:=g5 _ _ ht
  have ht6:=fr6 _ _ (ZAJ ht5 hT5 (by intro z;cases z)) ht5
  refine ⟨_,rfl,_,rfl,hd,LN,ns,rfl,rfl,SqL.of hhd6,SqL.of hL6,_,rfl,ZAz ?_⟩
  refine ⟨_,rfl,_,rfl,ZBb ?_⟩
  exact ⟨_,rfl,_,rfl,.ref tf,.ref t,.tup [.str "twig",.int x],5,rfl,.tup htf (.cons (.str _) (.cons (.int _) .nil)),.tup ht6 (.cons (.str _) (.cons (.int _) .nil)),rfl,by decide,fun H7 s7=>refuse H5 H6 s35 fr6 tab5 tab6 H7 s7⟩
 ·refine ⟨_,rfl,_,rfl,ZAz ?_⟩
  refine ⟨_,rfl,LN,_,rfl,.inl (SqL.of (s4 _ _ hLN3)),fun hd nhd=>?_⟩
  have g5:=ZAE nhd (.lst (ns.map V.int))
  have hhd:upd H4 hd (.lst (ns.map V.int)) hd=some (.lst (ns.map V.int)):=ZAA
  generalize upd H4 hd (.lst (ns.map V.int))=H5 at g5 hhd ⊢
  have s35:=s4.trans g5
  have tab5:=TabAt.ext tab3 (ExtS.same s35)
  refine ZN3 (gt:=gt) (CB:=CB) (C:=C) (f3:=f3) (f4:=f4) (j0:=10) (j1:=2) (hd:=hd) (ns:=ns) L X2 X3 X4 F3 F4 DM tab5 rfl rfl rfl rfl hhd (U3.sh.same s35) S0.wf (by omega) a800 (by omega) (fun x' hx'=>(noX bs x' eb hb hx').elim) fun bs' eb' hb'=>?_
  cases inj bs bs' eb eb'
  refine ⟨fun ho' H6 tf fr6 tab6 htf=>?_,fun ho'=>absurd hov ho',fun ho'=>absurd hov ho'⟩
  obtain ⟨ps5,hT5,_⟩:=id tab5
  have hhd6:=fr6 _ _ (ZAJ hhd hT5 (by intro z;cases z)) hhd
  have hL5:=s35 _ _ hLN3
  have hL6:=fr6 _ _ (ZAJ hL5 hT5 (by intro z;cases z)) hL5
  have ht5:=g5 _ _ ht
  have ht6:=fr6 _ _ (ZAJ ht5 hT5 (by intro z;cases z)) ht5
  refine ⟨_,rfl,_,rfl,hd,LN,ns,rfl,rfl,SqL.of hhd6,SqL.of hL6,_,rfl,ZAz ?_⟩
  refine ⟨_,rfl,_,rfl,ZBb ?_⟩
  exact ⟨_,rfl,_,rfl,.ref tf,.ref t,.tup [.str "stem"],5,rfl,.tup htf (.cons (.str _) .nil),.tup ht6 (.cons (.str _) .nil),rfl,by decide,fun H7 s7=>refuse H5 H6 s35 fr6 tab5 tab6 H7 s7⟩
 ·refine ⟨_,rfl,_,rfl,ZBb ?_⟩
  have hv:∀ n∈ns,ZBj hvs3 (.inl n)=some (.int ((m.ho n.toNat:Nat):Int)):=fun n hn=>by
   rw [eb] at hn
   obtain ⟨b,hb',rfl⟩:=List.mem_map.mp hn
   simpa using hH3.2 b (hb b hb')
  refine ⟨_,rfl,_,rfl,a.dH,LN,hvs3,ns,(fun n=>((m.ho n.toNat:Nat):Int)),rfl,s4 _ _ hd3,s4 _ _ hLN3,hv,fun n hn t H4b s4b ht=>?_,fun hn H4b s4b=>?_⟩
  ·have s34:=s4.trans s4b
   refine ⟨_,rfl,LN,_,rfl,.inl (SqL.of (s34 _ _ hLN3)),fun hd nhd=>?_⟩
   have g5:=ZAE nhd (.lst (ns.map V.int))
   have hhd:upd H4b hd (.lst (ns.map V.int)) hd=some (.lst (ns.map V.int)):=ZAA
   generalize upd H4b hd (.lst (ns.map V.int))=H5 at g5 hhd ⊢
   have s35:=s34.trans g5
   have tab5:=TabAt.ext tab3 (ExtS.same s35)
   have hn':=hn
   rw [eb,ZGf] at hn'
   obtain ⟨b0,hb0,rfl⟩:=Option.map_eq_some_iff.mp hn'
   refine ZN3 (gt:=gt) (CB:=CB) (C:=C) (f3:=f3) (f4:=f4) (j0:=10) (j1:=2) (hd:=hd) (ns:=ns) L X2 X3 X4 F3 F4 DM tab5 rfl rfl rfl rfl hhd (U3.sh.same s35) S0.wf (by omega) a800 (by omega) (fun x' hx'=>(noX bs x' eb hb hx').elim) fun bs' eb' hb'=>?_
   cases inj bs bs' eb eb'
   refine ⟨fun ho'=>absurd ho' hov,fun ho' b hb2 H6 tf fr6 tab6 htf=>?_,fun ho' hf=>by rw [hb0] at hf;cases hf⟩
   cases hb0.symm.trans hb2
   obtain ⟨ps5,hT5,_⟩:=id tab5
   have hhd6:=fr6 _ _ (ZAJ hhd hT5 (by intro z;cases z)) hhd
   have hL5:=s35 _ _ hLN3
   have hL6:=fr6 _ _ (ZAJ hL5 hT5 (by intro z;cases z)) hL5
   have ht5:=g5 _ _ ht
   have ht6:=fr6 _ _ (ZAJ ht5 hT5 (by intro z;cases z)) ht5
   refine ⟨_,rfl,_,rfl,hd,LN,ns,rfl,rfl,SqL.of hhd6,SqL.of hL6,_,rfl,ZAz ?_⟩
   refine ⟨_,rfl,_,rfl,ZBb ?_⟩
   exact ⟨_,rfl,_,rfl,.ref tf,.ref t,.tup [.str "held",.int (b0:Nat)],5,rfl,.tup htf (.cons (.str _) (.cons (.int _) .nil)),.tup ht6 (.cons (.str _) (.cons (.int _) .nil)),rfl,by decide,fun H7 s7=>refuse H5 H6 s35 fr6 tab5 tab6 H7 s7⟩
  ·have s34:=s4.trans s4b
   refine ⟨_,rfl,LN,_,rfl,.inl (SqL.of (s34 _ _ hLN3)),fun hd nhd=>?_⟩
   have g5:=ZAE nhd (.lst (ns.map V.int))
   have hhd:upd H4b hd (.lst (ns.map V.int)) hd=some (.lst (ns.map V.int)):=ZAA
   generalize upd H4b hd (.lst (ns.map V.int))=H5 at g5 hhd ⊢
   have s35:=s34.trans g5
   have tab5:=TabAt.ext tab3 (ExtS.same s35)
   have hn':=hn
   rw [eb,ZGf] at hn'
   have hf0:bs.find? (fun b=>decide (m.ho b=0))=none:=Option.map_eq_none_iff.mp hn'
   refine ZN3 (gt:=gt) (CB:=CB) (C:=C) (f3:=f3) (f4:=f4) (j0:=10) (j1:=2) (hd:=hd) (ns:=ns) L X2 X3 X4 F3 F4 DM tab5 rfl rfl rfl rfl hhd (U3.sh.same s35) S0.wf (by omega) a800 (by omega) (fun x' hx'=>(noX bs x' eb hb hx').elim) fun bs' eb' hb'=>?_
   cases inj bs bs' eb eb'
   refine ⟨fun ho'=>absurd ho' hov,fun ho' b hb2=>by (rw [hf0] at hb2;cases hb2),fun ho' hf' H6 tf new nx nth nab fr6 tab6 R6 htf=>?_⟩
   obtain ⟨ps5,hT5,_⟩:=id tab5
   obtain ⟨Lb,hLb⟩:=Option.ne_none_iff_exists'.mp hov
   obtain ⟨_,hnd,_,_,_,_,_⟩:=ZDL S0.wf hb hLb
   have h1:∀ b∈bs,1<=m.ho b:=fun b hb'=>by
    have:=List.find?_eq_none.mp hf0 b hb'
    simp at this
    omega
   have S5:=S3.same s35
   have S4:=S3.same s34
   have LO6:=ZOP S5 (H':=H6) fun c o z n1 n2 n3 n4 e=>fr6 c o n1 n2 (ZAJ e hT5 (z _)) n4 e
   obtain ⟨kv4,ls4,R4⟩:=S4.shp
   obtain ⟨kv5,ls5,R5⟩:=S5.shp
   obtain ⟨⟨dS5,hS5⟩,hk5,hl5⟩:=id R5.sh
   have lst6:∀ (c:Addr) (xs:List V),H5 c=some (.lst xs)->(∀ i:Nat,i<m.ts.length->c≠a.ab i)->H6 c=some (.lst xs):=fun c xs e n4=>fr6 _ _ (ZAJ e hS5 (by intro z;cases z)) (ZAJ e hk5 (by intro z;cases z)) (ZAJ e hT5 (by intro z;cases z)) (fun i hi=>by
    obtain ⟨dx,hx⟩:=(R5.tw i hi).tw.self
    exact ⟨ZAJ e hx (by intro z;cases z),n4 i hi⟩) e
   have hdab:∀ i:Nat,i<m.ts.length->a.ab i≠hd∧a.th i≠hd:=fun i hi=>by
    obtain ⟨us,e,_⟩:=(R4.tw i hi).things
    exact ⟨ZAB (R4.tw i hi).tw.above nhd,ZAB e nhd⟩
   have hhd6:=lst6 _ _ hhd fun i hi=>(hdab i hi).1.symm
   have hL5:=s35 _ _ hLN3
   have hL6:=lst6 _ _ hL5 fun i hi=>(OL.tw i hi).1.symm
   have LNhd:LN≠hd:=ZAB (s34 _ _ hLN3) nhd
   have tlhd:a.tl≠hd:=ZAB S4.told nhd
   refine ⟨_,rfl,_,rfl,hd,LN,ns,rfl,rfl,SqL.of hhd6,SqL.of hL6,_,rfl,ZAz ?_⟩
   refine ⟨_,rfl,_,rfl,ZAz ?_⟩
   refine ⟨_,rfl,.inl ⟨rfl,_,SqL.of hhd6⟩,hd,_,rfl,rfl,hhd6,?_⟩
   have en:(m.ts++[ZBc m.ts bs]).length=m.ts.length+1:=by simp
   have off:∀ c,a.lk≠c->(∀ i:Nat,i<m.ts.length->a.ab i≠c∧a.th i≠c)->new.ab≠c->new.th≠c->∀ i:Nat,i<(m.ts++[ZBc m.ts bs]).length->((a.as++[new]).getD i .d).ab≠c∧((a.as++[new]).getD i .d).th≠c:=fun c _ n2 n3 n4 i hi=>by
    rw [en] at hi
    by_cases z:i=m.ts.length
    ·subst z
     obtain ⟨e1,e2,_,_⟩:=ZBr (new:=new) (D:=LN) S0
     exact ⟨fun y=>n3 (by rw [<-e1];exact y),fun y=>n4 (by rw [<-e2];exact y)⟩
    ·obtain ⟨e1,e2,_,_⟩:=ZBY (new:=new) (D:=LN) S0 (i:=i) (by omega)
     have:=n2 i (by omega)
     exact ⟨fun y=>this.1 (by rw [<-e1];exact y),fun y=>this.2 (by rw [<-e2];exact y)⟩
   have R7:=ZDo (o':=.lst []) R6 hhd6 (ZAB R4.sh.looks nhd) (off hd (ZAB R4.sh.looks nhd) hdab (ZAB hhd nab).symm (ZAB hhd nth).symm)
   have ke7:∀ c o,c≠hd->H6 c=some o->upd H6 hd (.lst []) c=some o:=fun c o n e=>by rw [ZAG n];exact e
   generalize upd H6 hd (.lst [])=H7 at R7 ke7 ⊢
   have htf7:=ke7 _ _ (ZAJ htf hhd6 (by intro z;cases z)) htf
   have told7:=ke7 _ _ tlhd LO6.told
   refine ⟨_,rfl,.inr (.inl ⟨tf,_,0,.str "told",rfl,rfl,SqT.of htf7,rfl,rfl,_,rfl,ZHh rfl ?_⟩)⟩
   refine ⟨_,rfl,.inr (.inl ⟨tf,_,1,.int (m.ts.length:Nat),rfl,rfl,SqT.of htf7,rfl,_,_,_,_,rfl,.int _,ZDE,_,rfl,ZAz ?_⟩)⟩
   refine ⟨_,rfl,.inr (.inl ⟨tf,_,1,.int (m.ts.length:Nat),rfl,rfl,SqT.of htf7,rfl,_,_,_,_,rfl,.int _,ZFD,_,rfl,ZAz ?_⟩)⟩
   refine ⟨_,rfl,.inr (.inl ⟨tf,_,1,.int (m.ts.length:Nat),rfl,rfl,SqT.of htf7,rfl,_,rfl,a.tl,(List.range m.ts.length).map (fun i:Nat=>(i:Int)),rfl,SqL.of (by rw [eI];exact told7),List.ne_nil_of_length_pos (by rw [List.length_map,List.length_range];exact l0),fun mx hmx hmax=>⟨_,_,rfl,rfl,_,rfl,?_⟩⟩)⟩
   have mxn:¬ ((m.ts.length:Int)<=mx):=by
    obtain ⟨i,hi,rfl⟩:=List.mem_map.mp hmx
    have:=List.mem_range.mp hi
    show ¬ ((m.ts.length:Int)<=((i:Nat):Int))
    omega
   rw [decide_eq_false mxn]
   refine ZAz ?_
   refine ⟨_,rfl,.inl ⟨rfl,_,SqL.of told7⟩,_,rfl,.inr (.inl ⟨tf,_,1,.int (m.ts.length:Nat),rfl,rfl,SqT.of htf7,rfl,a.tl,_,.int (m.ts.length:Nat),rfl,rfl,told7,ZAO (by simp [iN];omega),?_⟩)⟩
   have R8:=ZDo (o':=.lst (iN (List.range m.ts.length)++[.int (m.ts.length:Nat)])) R7 told7 S0.tt.1.symm (off a.tl S0.tt.1.symm (fun i hi=>⟨(S0.t2 i hi).1.symm,(S0.t2 i hi).2.1.symm⟩) (ZAB S5.told nab).symm (ZAB S5.told nth).symm)
   have ke8:∀ c o,c≠a.tl->H7 c=some o->upd H7 a.tl (.lst (iN (List.range m.ts.length)++[.int (m.ts.length:Nat)])) c=some o:=fun c o n e=>by rw [ZAG n];exact e
   have tl8:upd H7 a.tl (.lst (iN (List.range m.ts.length)++[.int (m.ts.length:Nat)])) a.tl=some (.lst (iN (List.range (m.ts.length+1)))):=by rw [ZAA,ZHx]
   generalize upd H7 a.tl (.lst (iN (List.range m.ts.length)++[.int (m.ts.length:Nat)]))=H8 at R8 ke8 tl8 ⊢
   have k68:∀ c o,c≠hd->c≠a.tl->H6 c=some o->H8 c=some o:=fun c o n1 n2 e=>ke8 _ _ n2 (ke7 _ _ n1 e)
   obtain ⟨hvs6,hd6,hH6⟩:=LO6.hd
   obtain ⟨tkv6,Lw6⟩:=LO6.lw
   obtain ⟨gs6,G6⟩:=LO6.gr
   have dH8:=k68 _ _ (ZAJ hd6 hhd6 (by intro z;cases z)) (ZAJ hd6 LO6.told (by intro z;cases z)) hd6
   have LNtl:LN≠a.tl:=OL.tl.symm
   have hL8:=k68 _ _ LNhd LNtl hL6
   have htf8:=ke8 _ _ (ZAJ htf7 told7 (by intro z;cases z)) htf7
   refine ⟨_,rfl,LN,rfl,⟨_,SqL.of hL8⟩,ZBo (K:=K) (a:=LN) (xs:=ns.map V.int) (fun i σ H'=>∃ (x8 x12:Option V) (hv':List (Key×V)),σ=[some (.ref p),some (.ref st),some (.ref a.S),some (.ref a.dT),some (.ref a.dH),some (.ref a.gl),some (.ref a.tl),some (.ref LN),x8,some .non,some (.ref hd),some (.ref tf),x12]∧(∀ c o,c≠a.dH->H8 c=some o->H' c=some o)∧H' a.dH=some (.dK hv')∧ZJG hv' m.ts.length (hoK (bs.take i) m.ho))
    ⟨_,_,hvs6,rfl,fun c o _ e=>e,dH8,(by
     have e2:hoK [] m.ho=m.ho:=funext fun i=>if_neg (by simp)
     rw [show bs.take 0=[] from rfl,e2];exact hH6)⟩ (fun i σ H' _ hP=>?_) ?_ ?_⟩
   ·obtain ⟨_,_,_,_,k',_⟩:=hP
    exact SqL.of (k' _ _ (ZAJ hL8 dH8 (by intro z;cases z)) hL8)
   ·rintro i u σ H9 hu9 ⟨x8,x12,hv',rfl,fr9,dH9,hH9⟩
    rw [eb,List.map_map,List.getElem?_map] at hu9
    obtain ⟨b,hbi,rfl⟩:=Option.map_eq_some_iff.mp hu9
    have mb:=List.mem_of_getElem? hbi
    have bl:=hb b mb
    have hnb:b∉bs.take i:=fun z=>by
     have hs:bs=bs.take i++b :: bs.drop (i+1):=by
      obtain ⟨hi,e⟩:=List.getElem?_eq_some_iff.mp hbi
      rw [<-e,<-List.drop_eq_getElem_cons hi,List.take_append_drop]
     have hnd':=hnd
     rw [hs,List.nodup_append] at hnd'
     exact hnd'.2.2 b z b (by simp) rfl
    have eho:hoK (bs.take i) m.ho b=m.ho b:=if_neg hnb
    have hg:DGet H9 a.dH (.int (b:Nat)) (some (.int (m.ho b:Nat))):=by
     have:=hH9.2 b bl
     rw [eho] at this
     exact this ▸ DGet.k (k:=Sum.inl (b:Int)) dH9
    have lhv:hv'.length=m.ts.length:=by have:=congrArg List.length hH9.1;simpa using this
    refine ⟨_,rfl,_,rfl,a.dH,.int (m.ho b:Nat),rfl,hg,_,_,rfl,rfl,_,rfl,_,rfl,a.dH,_,rfl,DPut.k (k:=Sum.inl (b:Int)) dH9 (ZAO (by omega)),?_⟩
    have e1:((m.ho b:Nat):Int) - 1=((hoK (bs.take i) m.ho b - 1:Nat):Int):=by
     rw [eho]
     have:=h1 b mb
     omega
    refine ⟨_,_,_,rfl,fun c o n e=>by rw [ZAG n];exact fr9 _ _ n e,ZAA,?_⟩
    have et:bs.take (i+1)=bs.take i++[b]:=by rw [List.take_add_one,hbi];rfl
    rw [et,<-ZGi hnb]
    show ZJG (ZBS hv' (.inl (b:Int)) (.int (((m.ho b:Nat):Int) - 1))) _ _
    rw [e1]
    exact ZNN hH9 bl
   ·rintro σ H9 ⟨x8,x12,hv',rfl,fr9,dH9,hH9⟩
    rw [show (ns.map V.int).length=bs.length by rw [eb];simp,List.take_of_length_le (Nat.le_refl _)] at hH9
    have R9:=R8.frame (H':=H9) (fun c ys e=>fr9 _ _ (ZAJ e dH8 (by intro z;cases z)) e) (fun o e=>fr9 _ _ (by obtain ⟨⟨dS8,hS8⟩,_,_⟩:=R8.sh;exact ZAJ hS8 dH8 (by intro z;cases z)) e) (fun o e=>fr9 _ _ S0.dd.2.1.symm e) (fun o e=>fr9 _ _ (ZAJ R8.sh.looks dH8 (by intro z;cases z)) e) fun i hi=>by
     obtain ⟨dx,hx⟩:=(R8.tw i hi).tw.self
     obtain ⟨us,ht,_⟩:=(R8.tw i hi).things
     exact ⟨fun o e=>fr9 _ _ (ZAJ hx dH8 (by intro z;cases z)) e,fun o e=>fr9 _ _ (ZAJ ht dH8 (by intro z;cases z)) e,fun o e=>fr9 _ _ (ZAJ (R8.tw i hi).tw.above dH8 (by intro z;cases z)) e⟩
    refine ⟨_,rfl,nn (Nat.le_of_ble_eq_true rfl),fun t nt=>?_⟩
    have g10:=ZAE nt (.tup [.str "stem",.ref LN])
    have t10:upd H9 t (.tup [.str "stem",.ref LN]) t=some (.tup [.str "stem",.ref LN]):=ZAA
    generalize upd H9 t (.tup [.str "stem",.ref LN])=H10 at g10 t10 ⊢
    have R10:=R9.same g10
    have k610:∀ c o,c≠hd->c≠a.tl->c≠a.dH->H6 c=some o->H10 c=some o:=fun c o n1 n2 n3 e=>g10 _ _ (fr9 _ _ n3 (k68 _ _ n1 n2 e))
    have dT10:=k610 _ _ (ZAJ Lw6.dict hhd6 (by intro z;cases z)) (ZAJ Lw6.dict LO6.told (by intro z;cases z)) S0.dd.2.2 Lw6.dict
    have htf10:=g10 _ _ (fr9 _ _ (ZAJ htf8 dH8 (by intro z;cases z)) htf8)
    have dH10:=g10 _ _ dH9
    have tl10:=g10 _ _ (fr9 _ _ (ZAJ tl8 dH8 (by intro z;cases z)) tl8)
    have ltk:tkv6.length=m.ts.length:=by have:=congrArg List.length Lw6.keys;simpa using this
    have lhv:hv'.length=m.ts.length:=by have:=congrArg List.length hH9.1;simpa using this
    refine ⟨_,rfl,_,rfl,.inr (.inl ⟨tf,_,1,.int (m.ts.length:Nat),rfl,rfl,SqT.of htf10,rfl,a.dT,_,rfl,DPut.k (k:=Sum.inl (m.ts.length:Int)) dT10 (ZAO (by omega)),?_⟩)⟩
    have R11:=ZB4 (o':=.dK (ZBS tkv6 (.inl (m.ts.length:Int)) (.ref t))) R10 dT10 S0.dd.1.symm
    have ke11:∀ c o,c≠a.dT->H10 c=some o->upd H10 a.dT (.dK (ZBS tkv6 (.inl (m.ts.length:Int)) (.ref t))) c=some o:=fun c o n e=>by rw [ZAG n];exact e
    have dT11:upd H10 a.dT (.dK (ZBS tkv6 (.inl (m.ts.length:Int)) (.ref t))) a.dT=some (.dK (ZBS tkv6 (.inl (m.ts.length:Int)) (.ref t))):=ZAA
    generalize upd H10 a.dT (.dK (ZBS tkv6 (.inl (m.ts.length:Int)) (.ref t)))=H11 at R11 ke11 dT11 ⊢
    have dH11:=ke11 _ _ S0.dd.2.2.symm dH10
    have htf11:=ke11 _ _ (ZAJ htf10 dT10 (by intro z;cases z)) htf10
    refine ⟨_,rfl,_,rfl,.inr (.inl ⟨tf,_,1,.int (m.ts.length:Nat),rfl,rfl,SqT.of htf11,rfl,a.dH,_,rfl,DPut.k (k:=Sum.inl (m.ts.length:Int)) dH11 (ZAO (by omega)),?_⟩)⟩
    have R12:=ZB4 (o':=.dK (ZBS hv' (.inl (m.ts.length:Int)) (.int 1))) R11 dH11 S0.dd.2.1.symm
    have ke12:∀ c o,c≠a.dH->H11 c=some o->upd H11 a.dH (.dK (ZBS hv' (.inl (m.ts.length:Int)) (.int 1))) c=some o:=fun c o n e=>by rw [ZAG n];exact e
    have dH12:upd H11 a.dH (.dK (ZBS hv' (.inl (m.ts.length:Int)) (.int 1))) a.dH=some (.dK (ZBS hv' (.inl (m.ts.length:Int)) (.int 1))):=ZAA
    generalize upd H11 a.dH (.dK (ZBS hv' (.inl (m.ts.length:Int)) (.int 1)))=H12 at R12 ke12 dH12 ⊢
    have k612:∀ c o,c≠hd->c≠a.tl->c≠a.dH->c≠a.dT->H6 c=some o->H12 c=some o:=fun c o n1 n2 n3 n4 e=>ke12 _ _ n3 (ke11 _ _ n4 (k610 _ _ n1 n2 n3 e))
    have tu12:ZBn H6 H12:=fun c ys e=>k612 _ _ (ZAJ e hhd6 (by intro z;cases z)) (ZAJ e LO6.told (by intro z;cases z)) (ZAJ e hd6 (by intro z;cases z)) (ZAJ e Lw6.dict (by intro z;cases z)) e
    have ls12:∀ c xs,c≠hd->c≠a.tl->H6 c=some (.lst xs)->H12 c=some (.lst xs):=fun c xs n1 n2 e=>k612 _ _ n1 n2 (ZAJ e hd6 (by intro z;cases z)) (ZAJ e Lw6.dict (by intro z;cases z)) e
    have free5:∀ c,H5 c=none->H c=none:=fun c e=>by
     cases z:H c with
     | none=>rfl
     | some o=>
      by_cases y:c=p
      ·subst y
       obtain ⟨xs,e'⟩:=W3.some
       rw [s35 _ _ e'] at e;cases e
      ·rw [s35 _ _ (x3 _ _ z y)] at e;cases e
    have ek:kindOf (ZBc m.ts bs) = "stem" :=if_neg (by show (gd m.ts (bs.getD 0 0)).h+1≠0;omega)
    have Dab:LN≠new.ab:=ZAB hL5 nab
    have eiN:ns.map V.int=iN bs:=by rw [eb,List.map_map];rfl
    have nn':m.ts.length∉bs:=fun z=>by have:=hb _ z;omega
    have bhd:∀ i:Nat,i<m.ts.length->a.b i≠hd:=fun i hi=>by
     obtain ⟨kvA,LA⟩:=S4.lw
     obtain ⟨tp,us,_,_,e,_⟩:=LA.tw i hi
     exact ZAB e nhd
    have LS12:LS gt CSh CTw H12 (a.push new LN) ⟨m.ts++[ZBc m.ts bs],avK bs m.ts.length (avP m.ts.length m.av),hoK bs (hoP m.ts.length m.ho)⟩:=by
     refine ZK6 S0 (free5 _ nth) (free5 _ nab) nLN Dab ⟨_,ls3,ZJ2 U3 (by omega) hb hLb h1 R12,l3⟩ ⟨_,ZIf (tp:=t) (us:=ns.map V.int) Lw6 tu12 (fun i hi o e=>?_) ?_ ?_ ?_ (fun z=>absurd z (by show (gd m.ts (bs.getD 0 0)).h+1≠0;omega)) (fun _=>eiN)⟩ ⟨_,dH12,by rw [<-ZMc nn'];exact ZIv hH9⟩ ⟨gs6,G6.frame tu12 (ls12 _ _ ?_ S0.tt.2.1.symm G6.at_)⟩ ?_ (by omega)
     ·obtain ⟨tp,us',_,_,e',_⟩:=Lw6.tw i hi
      have:o=.lst us':=by have:=e.symm.trans e';exact Option.some.inj this
      subst this
      exact ls12 _ _ (bhd i hi) (S0.t3 i hi).1 e
     ·exact ke12 _ _ S0.dd.2.2 dT11
     ·rw [ek]
      exact ke12 _ _ (ZAJ t10 dH10 (by intro z;cases z)) (ke11 _ _ (ZAJ t10 dT10 (by intro z;cases z)) t10)
     ·exact ls12 _ _ LNhd LNtl hL6
     ·obtain ⟨gsA,GA⟩:=S4.gr
      exact ZAB GA.at_ nhd
     ·exact ke12 _ _ (ZAJ tl10 dH10 (by intro z;cases z)) (ke11 _ _ (ZAJ tl10 dT10 (by intro z;cases z)) tl10)
    refine k H12 _ _ (fun c o e v=>?_) LS12 rfl (by simp) (by simp) (TabAt.ext tab6 ⟨fun b φ e=>?_,fun b φ e=>?_⟩)
    ·obtain ⟨v1,v2,v3,v4,v5,v6,v7⟩:=id v
     refine ⟨v.push S0 (ZAB e (free5 _ nx)) (ZAB e (free5 _ nab)),fun cp cT=>?_⟩
     have e3:=x3 _ _ e cp
     exact k612 _ _ (ZAB (s34 _ _ e3) nhd) v6 v5 v4 (fr6 _ _ v1 v2 cT v7 (s35 _ _ e3))
    ·exact k612 _ _ (ZAJ e hhd6 (by intro z;cases z)) (ZAJ e LO6.told (by intro z;cases z)) (ZAJ e hd6 (by intro z;cases z)) (ZAJ e Lw6.dict (by intro z;cases z)) e
    ·exact k612 _ _ (ZAJ e hhd6 (by intro z;cases z)) (ZAJ e LO6.told (by intro z;cases z)) (ZAJ e hd6 (by intro z;cases z)) (ZAJ e Lw6.dict (by intro z;cases z)) e
theorem ZF8 {gt:List KT} {CB:Addr} {C:Nat->Addr} {c T f3 f4:Addr} (F:Fun K "_law_put_stem" "_law_put_stem" ZAt f fd) (hf:PySem.W.nsIn K mainGlobals "_law_put_stem" = some (some (.ref f))) (htab:PySem.W.tabIn K "_law_put_stem" = some (c,T)) (CC:PySem.W.CodeHd base c T) (hbt:base.BuiltinsAt mg T)
  (X:Txt mg) (L:ShF K mg CSh CTw) (X2:XC K CB C 2) (X3:XC K CB C 3) (X4:XC K CB C 4) (F3:ExcF K (C 3) f3 "number") (F4:ExcF K (C 4) f4 "number") (DM:MethOk P w K mg base (CXd P w) 10 CSh "put_stem" ["self","numbers"] (ZBa gt CSh CTw (C 2) (C 3) (C 4)))
  (DQ:DefOk P w K mg base 13 "_law_asked" ["_law_call"] (ZDg P w K mg base CB C)) (DR:DefOk P w K mg base 4 "_law_run" ["_law_well_here","_law_twigs","_law_holds","_law_grid_here"] (ZJw gt)) (DP:DefOk P w K mg base 1 "_law_pull" ["_law_well_here","_law_many"] ZCy) (DK:DefOk P w K mg base 2 "_law_picked" ["_law_well_here","_law_some"] ZCU)
  (DW:DefOk P w K mg base 8 "_law_wrong" ["_law_twigs","_law_numbers","_law_high"] (ZEj gt)) (DU:DefOk P w K mg base 1 "_law_unheld" ["_law_holds","_law_numbers"] ZC8) (DAl:DefOk P w K mg base 7 "_law_alike" ["_law_found","_law_due"] (ZCJ 6)) :
  FnOk P w K mg base CX0 14 f fd ["_law_well_here","_law_state"] (ZCt gt CSh CTw T):=by
 refine F.okC hf htab scLPutStem (fun vs H Q E h=>(by obtain ⟨_,_,_,_,rfl,_⟩:=h;rfl)) (fun A outer s H vs Q E hr h=>?_)
 obtain ⟨p,st,a,m,rfl,W,hst,S0,O,l0,l60,tab,k⟩:=h
 obtain ⟨tT,hT,qT⟩:=ZI0 (gt:=gt) (Hs:=H) (outer:=outer) (E:=E) CC hbt X L X2 X3 X4 F3 F4 DM DQ DR DP DK DW DU DAl hr
 have nd:=scLPutStem.nd
 have hu:=ZCW hr
 have hr1:=hr.mono (show 1<=13 by omega)
 have hr2:=hr.mono (show 2<=13 by omega)
 have hr4:=hr.mono (show 4<=13 by omega)
 have hr7:=hr.mono (show 7<=13 by omega)
 have hr8:=hr.mono (show 8<=13 by omega)
 obtain ⟨fA,fdA,FA,bA,kA,mA⟩:=DQ.ex
 refine ⟨_,ZAD (ZDK (pv 1) (ZDu rfl (ZAj (ZAZ (i:=2) nd rfl (Or.inr rfl)) (ZAj (ZAZ (i:=3) nd rfl (Or.inl rfl)) (ZAj (ZAZ (i:=4) nd rfl (Or.inl rfl)) (ZAj (ZAZ (i:=5) nd rfl (Or.inl rfl)) (ZAj (ZAZ (i:=6) nd rfl (Or.inl rfl)) ZCp)))))))
  (ZAD (ZAU (i:=7) nd rfl (Or.inl rfl) (ZAT DR hr4 (ZAN (pv 0) (ZAN (pv 3) (ZAN (pv 4) (ZAN (pv 5) ZAC))))))
  (ZAD (ZAf (ZAX ZCA (ZAT DP hr1 (ZAN (pv 0) (ZAN ZAF ZAC))) ZAF (ZAW _))
   (ZAD (ZAU (i:=8) nd rfl (Or.inr rfl) (ZAb ZFP (ZAK (ZBU rfl) rfl X.sorted ZBX (ZAN (pv 3) ZAC)) (ZAx (ZAN (ZAb ZBE (ZAb ZBE (ZAK (ZFF rfl) rfl X.max ZFW (ZAN (pv 6) ZAC)) ZAF) (ZAT DP hr1 (ZAN (pv 0) (ZAN ZAF ZAC)))) ZAC))))
   (ZAH (ZB3 (i:=7) [0,8] ["_law_well_here","_law_some"] nd rfl rfl rfl (ZBm rfl X.range (ZAN (ZAT DP hr1 (ZAN (pv 0) (ZAN ZAF ZAC))) ZAC)) (fun _ _ _ _ _=>ZBM) (fun _ _ _ _ _=>ZAT DK hr2 (ZAN (pv 1) (ZAN (pv 2) ZAC))) ⟨rfl,.inl rfl,rfl,rfl,.inl rfl,rfl,trivial⟩))) ZAR) hT)),?_⟩
 obtain ⟨xsP,hpW⟩:=W.some
 obtain ⟨kvs,ls,U,l100⟩:=S0.sh
 obtain ⟨tkv,Lw⟩:=S0.lw
 obtain ⟨hvs,hdH,hH⟩:=S0.hd
 obtain ⟨gs,G⟩:=S0.gr
 have bp:∀ i:Nat,i<m.ts.length->a.bs.getD i 0≠p:=fun i hi=>(O.tw i hi).2.2
 have l64:=S0.l64
 have pnone:∀ c,H c=none->c≠p:=fun c e=>(ZAB hpW e).symm
 have eI:((List.range m.ts.length).map fun i:Nat=>(i:Int)).map V.int=iN (List.range m.ts.length):=by rw [List.map_map];rfl
 have freeX:∀ (H6:Hp) (q:Addr),SameX p H H6->WellAt H6 p->H6 q=none->H q=none:=fun H6 q x6 W6 e=>by
  cases z:H q with
  | none=>rfl
  | some o=>
   by_cases y:q=p
   ·subst y
    obtain ⟨xs,e'⟩:=W6.some
    rw [e'] at e;cases e
   ·rw [x6 _ _ z y] at e;cases e
 refine ⟨_,rfl,st,_,rfl,SqT.of hst,rfl,_,_,rfl,_,_,rfl,_,_,rfl,_,_,rfl,_,_,rfl,rfl,?_⟩
 refine ⟨_,rfl,_,rfl,_,rfl,_,rfl,p,a.dT,a.dH,a.gl,m.ts,a.bs,tkv,hvs,m.ho,gs,rfl,W,Lw,bp,S0.wf,hdH,hH,G,O.gl,l0,l64,fun H1 LN bsr s1 W1 nLN hLN hbsr lbsr=>?_⟩
 refine ⟨_,rfl,p,5,rfl,W1,ZAw (by decide) (by decide),fun r H3 r0 r1 W3 s2=>⟨rfl,_,rfl,?_⟩⟩
 have x3:SameX p H H3:=s1.trans s2
 refine ZFO (fun c=>?gT) (fun c=>?gF)
 case' gF=>
  obtain ⟨ns,ens⟩:∃ ns:List Int,iN bsr=ns.map V.int:=⟨bsr.map fun b:Nat=>(b:Int),by rw [List.map_map];rfl⟩
  have lns:ns.length<=6:=by
   have:=congrArg List.length ens
   simp [iN] at this
   omega
  have hLN3:=s2 _ _ hLN (pnone _ nLN)
  rw [ens] at hLN3
 case' gT=>
  refine ⟨_,rfl,a.dT,tkv,(List.range m.ts.length).map fun i:Nat=>(i:Int),rfl,(Lw.sx W bp x3).dict,(by rw [Lw.keys,List.map_map];rfl),ZBf _,by simpa using l64,fun q nq=>?_⟩
  rw [eI]
  have g4:=ZAE nq (.lst (iN (List.range m.ts.length)))
  have hq:upd H3 q (.lst (iN (List.range m.ts.length))) q=some (.lst (iN (List.range m.ts.length))):=ZAA
  have nq':=freeX _ q x3 W3 nq
  generalize upd H3 q (.lst (iN (List.range m.ts.length)))=H4 at g4 hq ⊢
  have x4:=x3.trans (SameX.of g4)
  have W4:=W3.same g4
  have told4:=(S0.sx O hpW x4).told
  refine ⟨_,rfl,a.tl,(List.range m.ts.length).map (fun i:Nat=>(i:Int)),rfl,SqL.of (by rw [eI];exact told4),List.ne_nil_of_length_pos (by rw [List.length_map,List.length_range];exact l0),fun mx hmx hmax=>⟨_,_,rfl,rfl,?_⟩⟩
  refine ⟨_,rfl,p,3,rfl,W4,ZAw (by decide) (by decide),fun r3 H5 r30 r31 W5 s5=>⟨_,_,rfl,rfl,nn (Nat.le_of_ble_eq_true rfl),fun l9 n9=>?_⟩⟩
  have hq5:=s5 _ _ hq (pnone _ nq')
  have x5:=x4.trans s5
  have g6:=ZAE n9 (.lst [.int (mx+1+r3)])
  refine ⟨q,l9,_,_,rfl,rfl,g6 _ _ hq5,ZAA,Nat.le_of_lt (ZAO (by simp [iN];omega)),fun q2 n2=>?_⟩
  have g7:=ZAE n2 (.lst (iN (List.range m.ts.length)++[.int (mx+1+r3)]))
  have hq2:upd (upd H5 l9 (.lst [.int (mx+1+r3)])) q2 (.lst (iN (List.range m.ts.length)++[.int (mx+1+r3)])) q2=some (.lst (iN (List.range m.ts.length)++[.int (mx+1+r3)])):=ZAA
  have x7:=x5.trans (SameX.of (g6.trans g7))
  have W7:=W5.same (g6.trans g7)
  have nq2:=freeX _ q2 (x5.trans (SameX.of g6)) (W5.same g6) n2
  generalize upd (upd H5 l9 (.lst [.int (mx+1+r3)])) q2 (.lst (iN (List.range m.ts.length)++[.int (mx+1+r3)]))=H7 at hq2 x7 W7 ⊢
  refine ⟨_,rfl,p,6,rfl,W7,ZAw (by decide) (by decide),fun r6 H8 r60 r61 W8 s8=>?_⟩
  have x8:=x7.trans s8
  have hq28:=s8 _ _ hq2 (pnone _ nq2)
  have pnone8:∀ c,H8 c=none->c≠p:=fun c e z=>by
   obtain ⟨xs,e'⟩:=W8.some
   rw [z,e'] at e;cases e
  refine ⟨r6,rfl,by omega,by omega,ZA3 (n:=r6.toNat) (fun i z=>z=.int (0+(i:Int))) (fun D i ys H'=>SameX p H8 H'∧WellAt H' p∧H8 D=none∧∃ ns:List Int,ys=ns.map V.int∧ns.length<=i) (ZAO (by omega))
   (fun D i ys H3 hi _=>hi) (fun D i ys H3 x H4 hi _ hy=>hy) (fun D ys H3 _=>Nat.le_refl _) (fun D hD=>⟨SameX.of (ZAE hD _),W8.same (ZAE hD _),hD,[],rfl,Nat.le_refl _⟩) (fun D i ys H' z eD hl' hi hz hP R hR=>?gStep) (fun LN ys H3 eD hP=>?gEnd)⟩
  case' gStep=>
   obtain ⟨s',W',nD,ns,rfl,lns⟩:=hP
   refine ⟨_,rfl,_,rfl,p,q2,_,rfl,W',pnone _ nq2,s' _ _ hq28 (pnone _ nq2),by simp,by simp [iN];omega,fun x H'' s'' W'' hx=>?_⟩
   obtain ⟨y,rfl⟩:∃ y:Int,x=.int y:=by
    rcases List.mem_append.mp hx with h | h
    ·obtain ⟨b,_,rfl⟩:=List.mem_map.mp h
     exact ⟨_,rfl⟩
    ·exact ⟨_,List.mem_singleton.mp h⟩
   have Dp:=pnone8 _ nD
   refine hR _ H'' (s'' _ _ eD Dp) ⟨fun c o e n=>by rw [ZAG (ZAB e nD)];exact s'' _ _ (s' _ _ e n) n,ZFi W'' (fun o e=>by rw [ZAG (Ne.symm Dp)];exact e),nD,ns++[y],by simp,by simp;omega⟩
  case' gEnd=>
   obtain ⟨s',W3,nD,ns,rfl,lns'⟩:=hP
   have x3:=x8.trans s'
   have nLN:=freeX _ LN x8 W8 nD
   have hLN3:=eD
   have lns:ns.length<=6:=by omega
 all_goals exact qT H H3 Q p st LN a m _ ns W S0 O l0 l60 tab x3 W3 nLN hLN3 lns k
end
theorem ZLM {K:PySem.W.Frag}:PySem.W.kitOne K (.type "list") (.type "list")=some true:=by kernel_rfl
theorem ZGu {gt:List KT} {ts:List Twg} {ho:Nat->Nat} (hw:WF gt ts):∀ (n j:Nat),j<ts.length->ts.length - j<=n->∃ o,Sh ts ho j o
 | 0,j,hj,h=>absurd hj (by omega)
 | n+1,j,hj,h=>by
  by_cases c:(abv ts j).length+ho j=1
  ·cases e:abv ts j with
   | nil=>exact ⟨none,.top c e⟩
   | cons i r=>
    have hi:=ZGc hw (i:=j) (j:=i) (by rw [e];exact List.mem_cons_self)
    obtain ⟨o,ho'⟩:=ZGu hw n i hi.2 (by omega)
    exact ⟨o,.up c e ho'⟩
  ·exact ⟨some j,.here c⟩
def thK (t:Twg):List KT:=if t.h=0 then ZBA t.rows else t.bs.map fun b:Nat=>KT.int (b:Nat)
theorem ZCM {H:Hp}:∀ (l:List Nat),KeysAt H (l.map fun b:Nat=>KT.int (b:Nat)) (iN l)
 | []=>.nil
 | b :: l=>.cons (.int _) (ZCM l)
theorem ZLL {H:Hp} {t:Twg} {us:List V} (h0:t.h=0->KeysAt H (ZBA t.rows) us) (h1:t.h≠0->us=iN t.bs):KeysAt H (thK t) us:=by
 unfold thK
 by_cases c:t.h=0
 ·rw [if_pos c];exact h0 c
 ·rw [if_neg c,h1 c];exact ZCM _
theorem ZFH (l:List Nat) (h:l.length<=100):(KT.tup (l.map fun b:Nat=>KT.int (b:Nat))).wide 5=true:=by
 rw [KT.wide,ZBl]
 have:(l.map fun b:Nat=>KT.int (b:Nat)).all (·.wide (5 - 1))=true:=by
  rw [List.all_map]
  exact List.all_eq_true.mpr fun _ _=>by simp [KT.wide]
 rw [this,List.length_map,decide_eq_true h]
 rfl
theorem ZMo {gt:List KT} {ts:List Twg} {i:Nat} {t:Twg} (ok:TwOk gt ts i t):(KT.tup (thK t)).wide 5=true:=by
 unfold thK
 by_cases c:t.h=0
 ·rw [if_pos c]
  have h4:=(ok.leaf c).2
  rw [KT.wide,ZBl]
  have:(ZBA t.rows).all (·.wide (5 - 1))=true:=by
   unfold ZBA
   rw [List.all_map]
   refine List.all_eq_true.mpr fun r hr=>?_
   obtain ⟨f1,f2⟩:=(ok.inn r hr).2
   show (KT.tup [r.1,r.2]).wide 4=true
   rw [KT.wide,ZBl]
   simp [ZDS _ 3 f1,ZDS _ 3 f2]
  rw [this,show (ZBA t.rows).length=t.rows.length from List.length_map _,decide_eq_true (show t.rows.length<=100 by omega)]
  rfl
 ·rw [if_neg c]
  have:=(ok.stem c).2.1
  exact ZFH _ (by omega)
theorem ZMN {L:Lab} (h:L.fit):L.kt.wide 5=true:=by
 unfold Lab.kt
 have w1:=ZDS _ 4 (ZDf _ 3 4 h.1 (Nat.le_succ_of_le (ZBD _ 3 h.1)))
 have w2:=ZDS _ 4 (ZDf _ 3 4 h.2 (Nat.le_succ_of_le (ZBD _ 3 h.2)))
 rw [KT.wide,ZBl]
 simp [KT.wide,w1,w2]
section
variable {P:Program} {w:World} {K:PySem.W.Frag} {mg:Str->Option Value} {base:Heap} {f:Addr} {fd:FuncData} {CSh CTw:Addr}
def ZEU (gt:List KT) (CSh CTw:Addr):Sp:=fun vs H Q _=>∃ (a:Pl) (m:Md),vs=[.ref a.S,.ref a.dT,.ref a.dH]∧LS gt CSh CTw H a m ∧
 ∀ (H':Hp) (a':Pl),(∀ c o,H c=some o->Avoid a m c->Avoid a' m c∧H' c=some o)->(∀ T q,TabAt H T q->TabAt H' T q)->LS gt CSh CTw H' a' m->stT a'=stT a->Q (.bl true) H'
abbrev ZND:List Str:=["_law_shelf","_law_twigs","_law_holds","_law_numbers","_law_number","_law_kind","_law_what","_law_seen","_law_found"]
theorem scExact:FnScope ZND ["_law_shelf","_law_twigs","_law_holds"] (ZAI ZJK):=⟨rfl,rfl,rfl,by decide +kernel,rfl,by decide +kernel,by decide +kernel⟩
theorem ZJ8 {gt:List KT} (F:Fun K "_law_exact" "_law_exact" ZJK f fd) (T:Txt mg) (L:ShF K mg CSh CTw) (DN:MethOk P w K mg base CX0 1 CSh "numbers" ["self"] (ZDX CSh)) (DY:MethOk P w K mg base CX0 1 CSh "many" ["self"] (ZIc CSh)) (DLk:MethOk P w K mg base CX0 2 CSh "look" ["self","number"] (ZJC CSh CTw))
  (DLb:MethOk P w K mg base CX0 2 CSh "label" ["self","number"] (ZHq CSh CTw fun tg _ _=>tg)) (DOu:MethOk P w K mg base CX0 2 CSh "outside" ["self","number"] (ZHq CSh CTw fun _ ho _=>.int ho)) (DHo:MethOk P w K mg base CX0 2 CSh "holders" ["self","number"] (ZHq CSh CTw fun _ ho us=>.int ((us.length:Nat)+(ho:Nat):Int)))
  (DAn:MethOk P w K mg base CX0 4 CSh "alone" ["self","number"] (ZFl gt CSh CTw)) (DFo:MethOk P w K mg base CX0 1 CSh "forget" ["self"] (ZEo CSh CTw)) (DAl:DefOk P w K mg base 7 "_law_alike" ["_law_found","_law_due"] (ZCJ 6)) (DCo:DefOk P w K mg base 1 "_law_count" ["_law_found","_law_due"] ZFt)
  (DLL:DefOk P w K mg base 2 "_law_label" ["_law_twigs","_law_number"] (ZCZ gt)) (DAb:DefOk P w K mg base 1 "_law_above" ["_law_twigs","_law_number"] (ZEh gt)) (DSh:DefOk P w K mg base 2 "_law_shared" ["_law_twigs","_law_holds","_law_number"] (ZEv gt)) :
  FnOk P w K mg base CX0 8 f fd ["_law_shelf","_law_twigs","_law_holds"] (ZEU gt CSh CTw):=by
 refine F.ok scExact (fun vs H Q E h=>(by obtain ⟨_,_,rfl,_⟩:=h;rfl)) (fun cdv A outer s H vs Q E hr h=>?_)
 obtain ⟨a,m,rfl,S0,k⟩:=h
 have nd:=scExact.nd
 have hu:=ZCW hr
 have hr1:=hr.mono (show 1<=7 by omega)
 have hr2:=hr.mono (show 2<=7 by omega)
 have hr4:=hr.mono (show 4<=7 by omega)
 refine ⟨_,ZAD (ZAU (i:=3) nd rfl (Or.inl rfl) (ZES (E:=E0) (pv 0) L.cS DN hr1 ZBQ))
  (ZAD (ZAf (PW.pt (ZB9 (ZAy (ZAg (ZAK ZAY rfl T.isi ZAM (ZAN (pv 3) (ZAN (ZAi (v:=.ty "list") rfl T.list ZBi rfl) ZAC))))) (ZB0 (ZAy (ZAg (ZAT DAl hr (ZAN (ZAm ZA4 rfl T.tuple ZBO (ZAN (pv 3) ZAC)) (ZAN (ZAm ZA4 rfl T.tuple ZBO (ZAN (ZAK (ZBU rfl) rfl T.sorted ZBX (ZAN (pv 1) ZAC)) ZAC)) ZAC)))))))) ZAd ZAR)
  (ZAD (ZAf (ZAy (ZAg (ZAT DCo hr1 (ZAN (ZES (E:=E0) (pv 0) L.cS DY hr1 ZBQ) (ZAN (ZAK ZDm rfl T.len ZAv (ZAN (pv 1) ZAC)) ZAC))))) ZAd ZAR)
  (ZAD (ZBe PassesOwn.never rfl (ZA5 (pv 3)) (ZAZ (i:=4) nd rfl (Or.inl rfl))
   (ZAD (ZDK (ZBJ hu (pv 1) (pv 4) (fun _ _=>rfl)) (ZDu rfl (ZAj (ZAZ (i:=5) nd rfl (Or.inl rfl)) (ZAj (ZAZ (i:=6) nd rfl (Or.inl rfl)) ZCp))))
   (ZAD (ZAU (i:=7) nd rfl (Or.inl rfl) (ZAo (E:=E0) (pv 0) L.cS DLk hr2 ZBQ (ZAN (pv 4) ZAC)))
   (ZAD (ZAf (PW.pt (ZB9 (ZAy (ZAg (ZAK ZAY rfl T.isi ZAM (ZAN (pv 7) (ZAN (ZAi (v:=.ty "tuple") rfl T.tuple ZBO rfl) ZAC))))) (ZB9 (ZAX ZEN (ZAK ZAS rfl T.len ZAv (ZAN (pv 7) ZAC)) ZAF (ZAW _)) (ZB9 (ZAX ZEN (ZAV (r:=rIx K) ZAP (pv 7) ZAF (fun _ _=>rfl)) (pv 5) (ZAW _))
    (ZB0 (ZAy (ZAg (ZAK ZAY rfl T.isi ZAM (ZAN (ZAV (r:=rIx K) ZAP (pv 7) ZAF (fun _ _=>rfl)) (ZAN (ZAi (v:=.ty "list") rfl T.list ZBi rfl) ZAC)))))))))) ZAd ZAR)
   (ZAD (ZAf (ZAy (ZAg (ZAT DAl hr (ZAN (ZAm ZA4 rfl T.tuple ZBO (ZAN (ZAV (r:=rIx K) ZAP (pv 7) ZAF (fun _ _=>rfl)) ZAC)) (ZAN (ZAm ZA4 rfl T.tuple ZBO (ZAN (pv 6) ZAC)) ZAC))))) ZAd ZAR)
   (ZAD (ZAf (ZAy (ZAg (ZAT DAl hr (ZAN (ZAo (E:=E0) (pv 0) L.cS DLb hr2 ZBQ (ZAN (pv 4) ZAC)) (ZAN (ZAT DLL hr2 (ZAN (pv 1) (ZAN (pv 4) ZAC))) ZAC))))) ZAd ZAR)
   (ZAD (ZA2 (ZGW PySem.F.plainAttrs_list PySem.F.slot_list_clear PySem.F.type_list_clear ZET (ZAV (r:=rIx K) ZAP (pv 7) ZAF (fun _ _=>rfl))))
   (ZAD (ZAf (ZAy (ZAg (ZAT DCo hr1 (ZAN (ZAo (E:=E0) (pv 0) L.cS DOu hr2 ZBQ (ZAN (pv 4) ZAC)) (ZAN (ZBJ hu (pv 2) (pv 4) (fun _ _=>rfl)) ZAC))))) ZAd ZAR)
   (ZAD (ZAf (ZAy (ZAg (ZAT DCo hr1 (ZAN (ZAo (E:=E0) (pv 0) L.cS DHo hr2 ZBQ (ZAN (pv 4) ZAC)) (ZAN (ZAb ZBE (ZBJ hu (pv 2) (pv 4) (fun _ _=>rfl)) (ZAK ZAS rfl T.len ZAv (ZAN (ZAT DAb hr1 (ZAN (pv 1) (ZAN (pv 4) ZAC))) ZAC))) ZAC))))) ZAd ZAR)
   (ZAD (ZAU (i:=8) nd rfl (Or.inl rfl) (ZAo (E:=E0) (pv 0) L.cS DAn hr4 ZBQ (ZAN (pv 4) ZAC)))
   (ZAH (ZAf (PW.pt (ZB9 (ZAy (ZAg (ZAK ZAY rfl T.isi ZAM (ZAN (pv 8) (ZAN (ZAi (v:=.ty "bool") rfl T.bool ZCj rfl) ZAC))))) (ZB0 (ZAX ZEN (pv 8) (ZNp (ZH2 (ZAT DSh hr2 (ZAN (pv 1) (ZAN (pv 2) (ZAN (pv 4) ZAC)))))) (ZAW _))))) ZAd ZAR))))))))))))
  (ZAD (ZA2 (ZGW PySem.F.plainAttrs_list PySem.F.slot_list_clear PySem.F.type_list_clear ZET (pv 3)))
  (ZAD (ZA2 (ZES (E:=E0) (pv 0) L.cS DFo hr1 ZBQ))
  (ZAH (ZAQ (ZBB ZCA (ZAK ZAS rfl T.len ZAv (ZAN (ZES (E:=E0) (pv 0) L.cS DN hr1 ZBQ) ZAC)) (ZAK ZDm rfl T.len ZAv (ZAN (pv 1) ZAC)) (ZAW _))))))))),?_⟩
 obtain ⟨kvs,ls,U,l100⟩:=S0.sh
 obtain ⟨tkv,Lw⟩:=S0.lw
 obtain ⟨hvs,hdH,hH⟩:=S0.hd
 obtain ⟨gs,G⟩:=S0.gr
 have l64:=S0.l64
 have eI:((List.range m.ts.length).map fun i:Nat=>(i:Int)).map V.int=iN (List.range m.ts.length):=by rw [List.map_map];rfl
 have wN:=ZFH (List.range m.ts.length) (by simp;omega)
 have lkv:kvs.length=m.ts.length:=ZF4 U.sh
 have ltk:tkv.length=m.ts.length:=by have:=congrArg List.length Lw.keys;simpa using this
 refine ⟨_,rfl,a.S,_,_,rfl,U.sh.sh.self.choose_spec,rfl,a.S,a.d,a.lk,m.ts.length,kvs,ls,(List.range m.ts.length).map (fun i:Nat=>(i:Int)),rfl,U.sh.sh,(by rw [U.sh.keys,List.map_map];rfl),ZBf _,by simpa using l64,fun q nq=>?_⟩
 rw [eI]
 have g1:=ZAE nq (.lst (iN (List.range m.ts.length)))
 have hq:upd H q (.lst (iN (List.range m.ts.length))) q=some (.lst (iN (List.range m.ts.length))):=ZAA
 generalize upd H q (.lst (iN (List.range m.ts.length)))=H1 at g1 hq ⊢
 refine ⟨_,rfl,_,_,_,_,rfl,.lst hq,ZLM,_,rfl,ZAz ?_⟩
 refine ⟨_,rfl,q,_,rfl,.inl ⟨SqL.of hq,fun t1 nt1=>?_⟩⟩
 have ga:=ZAE nt1 (.tup (iN (List.range m.ts.length)))
 refine ⟨_,rfl,a.dT,tkv,(List.range m.ts.length).map (fun i:Nat=>(i:Int)),rfl,(g1.trans ga) _ _ Lw.dict,(by rw [Lw.keys,List.map_map];rfl),ZBf _,by simpa using l64,fun q2 nq2=>?_⟩
 rw [eI]
 have gb:=ZAE nq2 (.lst (iN (List.range m.ts.length)))
 refine ⟨q2,_,rfl,.inl ⟨SqL.of ZAA,fun t2 nt2=>?_⟩⟩
 have gc:=ZAE nt2 (.tup (iN (List.range m.ts.length)))
 refine ⟨.ref t1,.ref t2,.tup ((List.range m.ts.length).map fun b:Nat=>KT.int (b:Nat)),5,rfl,.tup ((gb.trans gc) _ _ ZAA) (ZCM _),.tup ZAA (ZCM _),wN,by decide,fun H2 s2=>⟨_,rfl,ZAz ?_⟩⟩
 have s12:=((ga.trans gb).trans gc).trans s2
 have s02:=g1.trans s12
 have hq2:=s12 _ _ hq
 clear s2
 have U2:=U.frame (U.sh.same s02)
 refine ⟨_,rfl,a.S,_,_,rfl,U2.sh.sh.self.choose_spec,rfl,a.S,a.d,a.lk,m.ts.length,kvs,ls,rfl,U2.sh.sh,?_⟩
 refine ⟨_,rfl,a.dT,tkv,rfl,s02 _ _ Lw.dict,(kvs.length:Int),by rw [lkv,ltk];rfl,fun H3 s3=>⟨_,rfl,ZAz ?_⟩⟩
 have s03:=s02.trans s3
 have hq3:=s3 _ _ hq2
 have U3:=U.frame (U.sh.same s03)
 have Lw3:=Lw.same s03
 have hd3:=s03 _ _ hdH
 have hlk3:=U3.sh.sh.looks
 have qlk:q≠a.lk:=(ZAB U.sh.sh.looks nq).symm
 clear s3 hq2 U2 s12 s02
 refine ⟨_,rfl,q,rfl,⟨_,SqL.of hq3⟩,ZBo (K:=K) (a:=q) (xs:=iN (List.range m.ts.length)) (fun i σ H'=>∃ (x4 x5 x6 x7 x8:Option V) (ls':List V),σ=[some (.ref a.S),some (.ref a.dT),some (.ref a.dH),some (.ref q),x4,x5,x6,x7,x8]∧(∀ c o,c≠a.lk->H3 c=some o->H' c=some o)∧H' a.lk=some (.lst ls')∧ls'.length<=100+i)
  ⟨_,_,_,_,_,ls,rfl,fun c o _ e=>e,hlk3,by omega⟩ (fun i σ H' _ hP=>?_) ?_ ?_⟩
 ·obtain ⟨_,_,_,_,_,_,_,k',_⟩:=hP
  exact SqL.of (k' _ _ qlk hq3)
 ·rintro i u σ H4 hu4 ⟨x4,x5,x6,x7,x8,ls4,rfl,fr4,lk4,l4⟩
  unfold iN at hu4
  rw [List.getElem?_map] at hu4
  obtain ⟨j,ej,rfl⟩:=Option.map_eq_some_iff.mp hu4
  have ij:i<m.ts.length∧j=i:=by
   have h1:=(List.getElem?_eq_some_iff.mp ej).1
   have h2:i<m.ts.length:=by simpa using h1
   rw [List.getElem?_range h2] at ej
   exact ⟨h2,(Option.some.inj ej).symm⟩
  obtain ⟨il,rfl⟩:=ij
  have U4:UpA gt CSh CTw H4 a.S a.d a.lk m.ts m.av m.ho a.as kvs ls4:=⟨ZC5 U3.sh fr4 lk4,U3.wf,U3.av,U3.live,U3.l800⟩
  have tu4:ZBn H3 H4:=fun b ys e=>fr4 b _ (ZAJ e hlk3 (by intro z;cases z)) e
  have Lw4:LwP H4 a.dT m.ts a.bs tkv:=Lw3.frame tu4 (fr4 _ _ (ZAJ Lw3.dict hlk3 (by intro z;cases z)) Lw3.dict) fun b hb o e=>fr4 _ _ (S0.t3 b hb).2.1 e
  have hd4:H4 a.dH=some (.dK hvs):=fr4 _ _ (ZAJ hd3 hlk3 (by intro z;cases z)) hd3
  obtain ⟨tp,us,e1,e2,e3,e4,e5⟩:=Lw4.tw j il
  have okj:=U.wf j _ (ZA8 il)
  have hgT:DGet H4 a.dT (.int (j:Nat)) (some (.ref tp)):=e1 ▸ DGet.k (k:=Sum.inl (j:Int)) Lw4.dict
  refine ⟨_,rfl,_,rfl,a.dT,.ref tp,rfl,hgT,tp,_,rfl,SqT.of e2,rfl,_,_,rfl,_,_,rfl,rfl,?_⟩
  have W4:=U4.sh.tw j il
  obtain ⟨vs,w1,w2,w3⟩:=W4.things
  obtain ⟨ta,vlo,vhi,eta,hta,klo,khi⟩:=W4.tag
  cases eta
  obtain ⟨o1,o2,o3,o4⟩:=U4.sh.own j il
  refine ⟨_,rfl,a.S,_,_,rfl,U4.sh.sh.self.choose_spec,rfl,_,rfl,a.S,a.d,a.lk,m.ts.length,kvs,ls4,(j:Int),_,_,_,_,_,_,vs,_,_,rfl,⟨U4.sh.sh,U4.sh.val j il,W4.tw⟩,w1,hta,Ne.symm o3,Ne.symm o2,by omega,fun H5 l' t fr5 lk5 nl' hl5 ht5=>?_⟩
  have eK:(if (ZA1 (gd m.ts j)).h > 0 then ("stem" : Str) else "leaf")=kindOf (gd m.ts j):=by
   unfold kindOf
   show (if (((gd m.ts j).h:Nat):Int) > 0 then ("stem" : Str) else "leaf")=_
   by_cases c:(gd m.ts j).h=0
   ·rw [if_pos c,if_neg (by omega)]
   ·rw [if_neg c,if_pos (by omega)]
  rw [eK] at ht5
  refine ⟨_,rfl,_,_,_,_,rfl,.tup ht5,ZG6,_,rfl,ZAz ?_⟩
  refine ⟨_,rfl,t,_,rfl,.inr (SqT.of ht5),rfl,_,rfl,ZHh rfl ?_⟩
  refine ⟨_,rfl,.inr (.inl ⟨t,_,0,_,rfl,rfl,SqT.of ht5,rfl,_,rfl,rfl,_,rfl,ZHh rfl ?_⟩)⟩
  refine ⟨_,rfl,.inr (.inl ⟨t,_,1,_,rfl,rfl,SqT.of ht5,rfl,_,_,_,_,rfl,.lst hl5,ZLM,_,rfl,ZAz ?_⟩)⟩
  have fr35:∀ c o,c≠a.lk->H4 c=some o->H5 c=some o:=fr5
  have tu5:ZBn H4 H5:=fun b ys e=>fr5 b _ (ZAJ e lk4 (by intro z;cases z)) e
  refine ⟨_,rfl,.inr (.inl ⟨t,_,1,_,rfl,rfl,SqT.of ht5,rfl,l',vs,rfl,.inl ⟨SqL.of hl5,fun ta1 nta1=>?_⟩⟩)⟩
  have ga1:=ZAE nta1 (.tup vs)
  have Lw5:LwP H5 a.dT m.ts a.bs tkv:=Lw4.frame tu5 (fr5 _ _ (ZAJ Lw4.dict lk4 (by intro z;cases z)) Lw4.dict) fun b hb o e=>fr5 _ _ (S0.t3 b hb).2.1 e
  have e35:=fr5 _ _ (S0.t3 j il).2.1 e3
  refine ⟨_,rfl,a.b j,us,rfl,.inl ⟨SqL.of (ga1 _ _ e35),fun ta2 nta2=>?_⟩⟩
  have gb1:=ZAE nta2 (.tup us)
  have gab:=ga1.trans gb1
  have kV:KeysAt H4 (thK (gd m.ts j)) vs:=ZLL w2 w3
  have kU:KeysAt H4 (thK (gd m.ts j)) us:=ZLL e4 e5
  refine ⟨.ref ta1,.ref ta2,.tup (thK (gd m.ts j)),5,rfl,.tup (gb1 _ _ ZAA) ((kV.mono tu5 _ _).mono (Same.tups gab) _ _),.tup ZAA ((kU.mono tu5 _ _).mono (Same.tups gab) _ _),ZMo okj,by decide,fun H6 s6=>⟨_,rfl,ZAz ?_⟩⟩
  have s56:=gab.trans s6
  have U5:UpA gt CSh CTw H5 a.S a.d a.lk m.ts m.av m.ho a.as kvs (ls4++[.int (j:Nat)]):=⟨ZC5 U4.sh fr5 lk5,U4.wf,U4.av,U4.live,U4.l800⟩
  have U6:=U5.frame (U5.sh.same s56)
  have W6:=U6.sh.tw j il
  refine ⟨_,rfl,a.S,_,_,rfl,U6.sh.sh.self.choose_spec,rfl,_,rfl,a.S,a.d,a.lk,m.ts.length,kvs,_,(j:Int),_,_,_,_,_,_,rfl,⟨U6.sh.sh,U6.sh.val j il,W6.tw⟩,?_⟩
  have Lw6:=Lw5.same s56
  have LT6:LawT gt H6 a.dT m.ts tkv:=Lw6.lawT U.wf G.len G.up
  refine ⟨_,rfl,_,rfl,a.dT,j,m.ts,tkv,rfl,LT6,il,fun H7 v7 s7 lab7=>?_⟩
  refine ⟨_,v7,(ZA1 (gd m.ts j)).kt,5,rfl,(W6.tag.mono (Same.tups s7)).key,lab7.key,ZMN (ZFz okj),by decide,fun H8 s8=>⟨_,rfl,ZAz ?_⟩⟩
  have s58:=(s56.trans s7).trans s8
  have ht8:=s58 _ _ ht5
  have hl8:=s58 _ _ hl5
  refine ⟨_,rfl,.inr (.inl ⟨t,_,1,_,rfl,rfl,SqT.of ht8,rfl,.inl ⟨rfl,_,SqL.of hl8⟩,l',vs,rfl,rfl,hl8,?_⟩)⟩
  have fr9:∀ c o,c≠a.lk->H4 c=some o->upd H8 l' (.lst []) c=some o:=fun c o n e=>by rw [ZAG (ZAB e nl')];exact s58 _ _ (fr5 _ _ n e)
  have lk9:upd H8 l' (.lst []) a.lk=some (.lst (ls4++[.int (j:Nat)])):=by rw [ZAG (ZAB lk4 nl')];exact s58 _ _ lk5
  generalize upd H8 l' (.lst [])=H9 at fr9 lk9 ⊢
  have tu9:ZBn H4 H9:=fun b ys e=>fr9 b _ (ZAJ e lk4 (by intro z;cases z)) e
  have U9:UpA gt CSh CTw H9 a.S a.d a.lk m.ts m.av m.ho a.as kvs (ls4++[.int (j:Nat)]):=⟨ZC5 U4.sh fr9 lk9,U4.wf,U4.av,U4.live,U4.l800⟩
  have Lw9:LwP H9 a.dT m.ts a.bs tkv:=Lw4.frame tu9 (fr9 _ _ (ZAJ Lw4.dict lk4 (by intro z;cases z)) Lw4.dict) fun b hb o e=>fr9 _ _ (S0.t3 b hb).2.1 e
  have hd9:H9 a.dH=some (.dK hvs):=fr9 _ _ (ZAJ hd4 lk4 (by intro z;cases z)) hd4
  have W9:=U9.sh.tw j il
  have hgH:∀ H',Same H9 H'->DGet H' a.dH (.int (j:Nat)) (some (.int (m.ho j:Nat))):=fun H' s'=>hH.2 j il ▸ DGet.k (k:=Sum.inl (j:Int)) (s' _ _ hd9)
  refine ⟨_,rfl,a.S,_,_,rfl,U9.sh.sh.self.choose_spec,rfl,_,rfl,a.S,a.d,a.lk,m.ts.length,kvs,_,(j:Int),_,_,_,_,_,_,rfl,⟨U9.sh.sh,U9.sh.val j il,W9.tw⟩,?_⟩
  refine ⟨_,rfl,_,rfl,a.dH,.int (m.ho j:Nat),rfl,hgH _ (Same.refl _),(m.ho j:Nat),rfl,fun H10 s10=>⟨_,rfl,ZAz ?_⟩⟩
  have U10:=U9.frame (U9.sh.same s10)
  have W10:=U10.sh.tw j il
  refine ⟨_,rfl,a.S,_,_,rfl,U10.sh.sh.self.choose_spec,rfl,_,rfl,a.S,a.d,a.lk,m.ts.length,kvs,_,(j:Int),_,_,_,_,_,_,rfl,⟨U10.sh.sh,U10.sh.val j il,W10.tw⟩,?_⟩
  refine ⟨_,rfl,_,rfl,a.dH,.int (m.ho j:Nat),rfl,hgH _ s10,_,rfl,_,rfl,a.dT,j,m.ts,tkv,rfl,(Lw9.same s10).lawT U.wf G.len G.up,l64,fun H11 D11 s11 nD11 hD11=>?_⟩
  refine ⟨D11,_,rfl,.inl (SqL.of hD11),_,_,rfl,rfl,((iN (m.av j)).length:Nat)+(m.ho j:Nat),?_,fun H12 s12=>⟨_,rfl,ZAz ?_⟩⟩
  ·rw [U.av j il]
   show [V.int _,V.int _]++[]=_
   rw [Int.add_comm (m.ho j:Int)]
   rfl
  have s9c:=(s10.trans s11).trans s12
  have U12:=U9.frame (U9.sh.same s9c)
  obtain ⟨o,hsh⟩:=ZGu (ho:=m.ho) U.wf _ j il (Nat.le_refl _)
  refine ⟨_,rfl,a.S,_,_,rfl,U12.sh.sh.self.choose_spec,rfl,_,rfl,a.S,a.d,a.lk,m.ts,m.av,m.ho,a.as,kvs,_,j,o,rfl,U12,il,hsh,fun H13 s13=>?_⟩
  have s9d:=s9c.trans s13
  refine ⟨_,rfl,_,_,_,_,rfl,.bl _,ZNR,_,rfl,ZAz ?_⟩
  refine ⟨_,rfl,_,rfl,_,rfl,_,rfl,a.dT,a.dH,j,m.ts,tkv,hvs,m.ho,rfl,(Lw9.same s9d).lawT U.wf G.len G.up,l64,il,s9d _ _ hd9,hH,fun H14 o' s14 hsh'=>?_⟩
  cases hsh.uniq hsh'
  have eo:V.bl o.isNone=V.bl (decide (oV o=V.non)):=by
   cases o with
   | none=>rfl
   | some k=>rfl
  refine ⟨rfl,_,rfl,ZHh eo ?_⟩
  refine ⟨_,_,_,_,_,ls4++[.int (j:Nat)],rfl,fun c o' n e=>(s9d.trans s14) _ _ (fr9 _ _ n (fr4 _ _ n e)),(s9d.trans s14) _ _ lk9,by rw [List.length_append,List.length_singleton];omega⟩
 ·rintro σ H4 ⟨x4,x5,x6,x7,x8,ls4,rfl,fr4,lk4,l4⟩
  have hq4:=fr4 _ _ qlk hq3
  refine ⟨_,rfl,.inl ⟨rfl,_,SqL.of hq4⟩,q,_,rfl,rfl,hq4,?_⟩
  have fr5:∀ c o,c≠a.lk->c≠q->H3 c=some o->upd H4 q (.lst []) c=some o:=fun c o n1 n2 e=>by rw [ZAG n2];exact fr4 _ _ n1 e
  have lk5:upd H4 q (.lst []) a.lk=some (.lst ls4):=by rw [ZAG (Ne.symm qlk)];exact lk4
  generalize upd H4 q (.lst [])=H5 at fr5 lk5 ⊢
  have fr05:∀ c o,c≠a.lk->H c=some o->H5 c=some o:=fun c o n e=>fr5 _ _ n (ZAB e nq) (s03 _ _ e)
  have U5:UpA gt CSh CTw H5 a.S a.d a.lk m.ts m.av m.ho a.as kvs ls4:=⟨ZC5 U.sh fr05 lk5,U.wf,U.av,U.live,U.l800⟩
  refine ⟨_,rfl,a.S,_,_,rfl,U5.sh.sh.self.choose_spec,rfl,a.S,a.d,a.lk,m.ts,m.av,m.ho,a.as,kvs,ls4,rfl,U5.sh,fun H6 lk' nlk' fr6 R6=>?_⟩
  refine ⟨_,rfl,a.S,_,_,rfl,R6.sh.self.choose_spec,rfl,a.S,a.d,lk',m.ts.length,kvs,[],(List.range m.ts.length).map (fun i:Nat=>(i:Int)),rfl,R6.sh,(by rw [U.sh.keys,List.map_map];rfl),ZBf _,by simpa using l64,fun q7 nq7=>?_⟩
  rw [eI]
  have g7:=ZAE nq7 (.lst (iN (List.range m.ts.length)))
  have fr7:∀ c o,c≠a.lk->c≠a.S->H c=some o->upd H6 q7 (.lst (iN (List.range m.ts.length))) c=some o:=fun c o n1 n2 e=>g7 _ _ (fr6 _ _ n2 (fr05 _ _ n1 e))
  have U7:UpA gt CSh CTw (upd H6 q7 (.lst (iN (List.range m.ts.length)))) a.S a.d lk' m.ts m.av m.ho a.as kvs []:=⟨R6.same g7,U.wf,U.av,U.live,U.l800⟩
  refine ⟨q7,_,rfl,.inl (SqL.of ZAA),?_⟩
  generalize upd H6 q7 (.lst (iN (List.range m.ts.length)))=H7 at fr7 U7 ⊢
  have LO7:=S0.lo (H':=H7) fun c o n1 n2 n3 n4 e=>fr7 c o n3 n1 e
  obtain ⟨kv7,Lw7⟩:=LO7.lw
  have l7:kv7.length=m.ts.length:=by have:=congrArg List.length Lw7.keys;simpa using this
  refine ⟨_,rfl,a.dT,kv7,rfl,Lw7.dict,rfl,?_⟩
  have ed:decide (V.int ((iN (List.range m.ts.length)).length:Nat)=V.int (kv7.length:Nat))=true:=decide_eq_true (by rw [l7];simp [iN])
  rw [ed]
  obtain ⟨⟨dS0,hS0⟩,hd0,hlk0⟩:=U.sh.sh
  refine k H7 { a with lk:=lk' } (fun c o e v=>?_) (fun T' q' tb=>?_) ⟨⟨kvs,[],U7,by simp⟩,LO7.lw,LO7.hd,LO7.gr,LO7.told,S0.dd,?_,S0.t2,fun i hi=>?_,S0.l64⟩ rfl
  ·obtain ⟨v1,v2,v3,v4,v5,v6,v7⟩:=v
   exact ⟨⟨v1,v2,ZAB (fr05 _ _ v3 e) nlk',v4,v5,v6,v7⟩,fr7 _ _ v3 v1 e⟩
  ·exact TabAt.ext (T:=T') (q:=q') tb ⟨fun b φ e=>fr7 _ _ (ZAJ e hlk0 (by intro z;cases z)) (ZAJ e hS0 (by intro z;cases z)) e,fun b φ e=>fr7 _ _ (ZAJ e hlk0 (by intro z;cases z)) (ZAJ e hS0 (by intro z;cases z)) e⟩
  ·exact ⟨ZAB (fr05 _ _ S0.tt.1 S0.told) nlk',S0.tt.2.1,(ZAB (fr05 _ _ S0.tt.2.2.symm G.at_) nlk').symm⟩
  ·obtain ⟨t1,t2,t3⟩:=S0.t3 i hi
   obtain ⟨tp,us,_,_,e,_⟩:=Lw.tw i hi
   exact ⟨t1,ZAB (fr05 _ _ t2 e) nlk',t3⟩
end
def ZGZ (T:Addr) (K:PySem.W.Frag):Sp:=fun vs H Q _=>∃ (a:Addr) (ns:List Int),vs=[.ref a]∧SqL K H a (ns.map V.int)∧ns.length<=63∧H T=some (.tbl #[])∧∀ H',Q (.bl true) H'
theorem ZMm {K:PySem.W.Frag} {H H':Hp} {a:Addr} {xs:List V} (m:∀ b o,H b=some o->(∀ ps,o≠.tbl ps)->H' b=some o) (h:SqL K H a xs):SqL K H' a xs:=by
 rcases h with (h | ⟨o,h⟩) | h
 ·exact .inl (.inl (m _ _ h (by intro _ z;cases z)))
 ·exact .inl (.inr ⟨o,m _ _ h (by intro _ z;cases z)⟩)
 ·exact .inr h
def exG (sp:List KT->Sp):Sp:=fun vs H Q E=>∃ g,sp g vs H Q E
theorem okG {P:Program} {w:World} {K:PySem.W.Frag} {mg:Str->Option Value} {base:Heap} {CX:CXT} {k:Nat} {f:Addr} {fd:FuncData} {ps:List Str} {sp:List KT->Sp} (h:∀ g,FnOk P w K mg base CX k f fd ps (sp g)):FnOk P w K mg base CX k f fd ps (exG sp):=
 ⟨fun vs H Q E ⟨g,x⟩=>(h g).len vs H Q E x,fun A outer s H args us vs Q E a b c d ⟨g,x⟩=>(h g).run A outer s H args us vs Q E a b c d x⟩
section
variable {P:Program} {w:World} {K:PySem.W.Frag} {mg:Str->Option Value} {base:Heap} {f:Addr} {fd:FuncData} {CSh CTw:Addr}
def ZFk (CSh CTw:Addr):Sp:=fun vs H Q _=>∃ (p:Addr),vs=[.ref p,.int 14,.int 0]∧WellAt H p ∧
 ∀ (H':Hp) (st:Addr) (gt:List KT) (a:Pl) (m:Md),(∀ c o,H c=some o->Avoid a m c∧(c≠p->H' c=some o))->H' st=some (.tup (stT a))->LS gt CSh CTw H' a m->m.ts.length=14->Q (.ref st) H'
abbrev ZNs:List Str:=["_law_well_here","_law_leaves","_law_stems","_law_state","_law_j"]
theorem scBegun:FnScope ZNs ["_law_well_here","_law_leaves","_law_stems"] (ZAI ZIE):=⟨rfl,rfl,rfl,by decide +kernel,rfl,by decide +kernel,by decide +kernel⟩
theorem ZJ1 (F:Fun K "_law_begun" "_law_begun" ZIE f fd) (T:Txt mg) (L:ShF K mg CSh CTw) (DI:MkOk P w K mg base 1 CSh ["self"] (ZMI CSh)) (DG:DefOk P w K mg base 2 "_law_grid" ["_law_well_here"] ZJc) (DPL:DefOk P w K mg base 11 "_law_put_leaf" ["_law_well_here","_law_state","_law_block"] (exG fun gt=>ZCq gt CSh CTw)) :
  FnOk P w K mg base CX0 12 f fd ["_law_well_here","_law_leaves","_law_stems"] (ZFk CSh CTw):=by
 refine F.ok scBegun (fun vs H Q E h=>(by obtain ⟨_,rfl,_⟩:=h;rfl)) (fun cdv A outer s H vs Q E hr h=>?_)
 obtain ⟨p,rfl,W,k⟩:=h
 have nd:=scBegun.nd
 have hr2:=hr.mono (show 2<=11 by omega)
 refine ⟨_,ZAD (ZAU (i:=3) nd rfl (Or.inl rfl) (ZAk (pa5 (ZNS DI hr2 rfl L.shelf) ZEJ ZEJ (ZAT DG hr2 (ZAN (pv 0) ZAC)) (ZAx ZAC))))
  (ZAD (ZBe PassesOwn.never rfl (ZBm rfl T.range (ZAN (pv 1) ZAC)) (ZAZ (i:=4) nd rfl (Or.inl rfl)) (ZAH (ZAf (ZAy (ZAg (ZAT DPL hr (ZAN (pv 0) (ZAN (pv 3) (ZAN (pv 4) ZAC)))))) ZAd ZAR)))
  (ZAD (ZBe PassesOwn.never rfl (ZBm rfl T.range (ZAN (pv 2) ZAC)) (ZAZ (i:=4) nd rfl (Or.inl rfl)) ZAd)
  (ZAH (ZAQ (pv 3))))),?_⟩
 obtain ⟨xsP,hpW⟩:=W.some
 intro S e nS ne z1
 have i1:∀ b o,H b=some o->upd (upd H e (.own S)) S (.ins CSh e []) b=some o:=fun b o q=>by
  rw [ZAG (ZAB q nS),ZAG (ZAB q ne)];exact q
 have f1:∀ b,upd (upd H e (.own S)) S (.ins CSh e []) b=none->H b=none:=fun b q=>by
  cases z:H b with
  | none=>rfl
  | some o=>rw [i1 b o z] at q;cases q
 refine ⟨S,e,rfl,ZAA,fun H1 d lk fr1 nd1 nlk1 dl1 R1=>⟨rfl,?_⟩⟩
 have s01:Same H H1:=fun b o q=>fr1 b o (ZAB q nS) (i1 b o q)
 intro dT ndT
 have g2:=ZAE ndT (.dK [])
 intro dH ndH
 have g3:=ZAE ndH (.dK [])
 have edT:upd (upd H1 dT (.dK [])) dH (.dK []) dT=some (.dK []):=g3 _ _ ZAA
 have edH:upd (upd H1 dT (.dK [])) dH (.dK []) dH=some (.dK []):=ZAA
 have s13:=g2.trans g3
 have dTH:dT≠dH:=ZAB ZAA ndH
 have ndH1:H1 dH=none:=g2.free ndH
 generalize upd (upd H1 dT (.dK [])) dH (.dK [])=H3 at edT edH s13 ⊢
 have s03:=s01.trans s13
 have R3:=R1.same s13
 refine ⟨_,rfl,p,rfl,W.same s03,fun gl gs gt H4 s4 W4 ngl hgl hkg hfg hlg hup=>?_⟩
 refine ⟨nn (Nat.le_of_ble_eq_true rfl),fun tl ntl=>?_⟩
 have g5:=ZAE ntl (.lst [])
 refine ⟨nn (Nat.le_of_ble_eq_true rfl),fun st nst=>?_⟩
 have g6:=ZAE nst (.tup [.ref S,.ref dT,.ref dH,.ref gl,.ref tl])
 have etl:upd (upd H4 tl (.lst [])) st (.tup [.ref S,.ref dT,.ref dH,.ref gl,.ref tl]) tl=some (.lst []):=g6 _ _ ZAA
 have est:upd (upd H4 tl (.lst [])) st (.tup [.ref S,.ref dT,.ref dH,.ref gl,.ref tl]) st=some (.tup [.ref S,.ref dT,.ref dH,.ref gl,.ref tl]):=ZAA
 have s46:=g5.trans g6
 generalize upd (upd H4 tl (.lst [])) st (.tup [.ref S,.ref dT,.ref dH,.ref gl,.ref tl])=H6 at etl est s46 ⊢
 have hp3:=s03 _ _ hpW
 have k36:∀ c o,c≠p->H3 c=some o->H6 c=some o:=fun c o n q=>s46 _ _ (s4 _ _ q n)
 obtain ⟨⟨dS,hS3⟩,hd3,hlk3⟩:=R3
 have nS':H S=none:=nS
 have lkp:lk≠p:=(ZAB hpW (f1 _ nlk1)).symm
 have glp:gl≠p:=fun z=>by rw [z,hp3] at ngl;cases ngl
 have tlp:tl≠p:=fun z=>by
  obtain ⟨xs,q⟩:=W4.some
  rw [z,q] at ntl;cases ntl
 have n4:∀ c o,c≠p->H3 c=some o->H4 c=some o:=fun c o n q=>s4 _ _ q n
 have A0:LS gt CSh CTw H6 ⟨S,d,lk,dT,dH,gl,tl,[],[]⟩ ⟨[],fun _=>[],fun _=>0⟩:=by
  refine ⟨⟨[],[],⟨⟨⟨⟨dS,k36 _ _ (ZAJ hS3 hp3 (by intro z;cases z)) hS3⟩,k36 _ _ (ZAJ hd3 hp3 (by intro z;cases z)) hd3,k36 _ _ lkp hlk3⟩,rfl,fun i hi=>absurd hi (by simp),rfl,fun i hi=>absurd hi (by simp),fun i hi=>absurd hi (by simp),fun i j hi=>absurd hi (by simp)⟩,fun i t q=>by simp at q,fun i hi=>absurd hi (by simp),fun i hi=>absurd hi (by simp),by simp⟩,by simp⟩,
   ⟨[],k36 _ _ (ZAJ edT hp3 (by intro z;cases z)) edT,rfl,rfl,fun i hi=>absurd hi (by simp)⟩,⟨[],k36 _ _ (ZAJ edH hp3 (by intro z;cases z)) edH,rfl,fun i hi=>absurd hi (by simp)⟩,⟨gs,s46 _ _ hgl,hkg.mono (Same.tups s46) _ _,hfg,by rw [hkg.length,hlg],hup⟩,etl,?_,?_,fun i hi=>absurd hi (by simp),fun i hi=>absurd hi (by simp),by simp⟩
  ·obtain ⟨_,hd1,_⟩:=id R1
   exact ⟨(ZAB hd1 ndT).symm,(ZAB hd1 ndH1).symm,dTH⟩
  ·exact ⟨(ZAB (n4 _ _ lkp hlk3) ntl).symm,(ZAB hgl ntl).symm,ZAB hlk3 ngl⟩
 have O0:Off ⟨S,d,lk,dT,dH,gl,tl,[],[]⟩ ⟨[],fun _=>[],fun _=>0⟩ p:=⟨lkp,glp,tlp,fun i hi=>absurd hi (by simp)⟩
 have V0:∀ c o,H c=some o->Avoid ⟨S,d,lk,dT,dH,gl,tl,[],[]⟩ ⟨[],fun _=>[],fun _=>0⟩ c∧(c≠p->H6 c=some o):=fun c o q=>by
  have q1:=s01 _ _ q
  have q3:=s03 _ _ q
  have tlc:c≠tl:=by
   by_cases y:c=p
   ·rw [y];exact tlp.symm
   ·exact ZAB (n4 _ _ y q3) ntl
  exact ⟨⟨ZAB q nS,ZAB q (f1 _ nd1),ZAB q (f1 _ nlk1),ZAB q1 ndT,ZAB q1 ndH1,tlc,fun i hi=>absurd hi (by simp)⟩,fun y=>k36 _ _ y q3⟩
 have W6:WellAt H6 p:=W4.same s46
 have stp:st≠p:=fun z=>by
  obtain ⟨xs,q⟩:=W6.some
  rw [z,q] at est;cases est
 refine ⟨_,rfl,14,rfl,by decide,by decide,ZBW (n:=14) (fun i σ H'=>∃ (x:Option V) (a:Pl) (m:Md),σ=[some (.ref p),some (.int 14),some (.int 0),some (.ref st),x]∧H' st=some (.tup (stT a))∧WellAt H' p∧LS gt CSh CTw H' a m∧Off a m p∧m.ts.length=i∧∀ c o,H c=some o->Avoid a m c∧(c≠p->H' c=some o))
  ⟨none,⟨S,d,lk,dT,dH,gl,tl,[],[]⟩,⟨[],fun _=>[],fun _=>0⟩,rfl,est,W6,A0,O0,rfl,V0⟩ ?_ ?_⟩
 ·rintro i σ H7 hi ⟨x,a,m,rfl,hst,W7,A7,O7,l7,V7⟩
  refine ⟨_,rfl,_,rfl,_,rfl,gt,p,st,_,a,m,rfl,W7,hst,A7,O7,by omega,by omega,by omega,fun H8 a' m' kp W8 A8 O8 eS el=>⟨_,rfl,ZAz ⟨_,a',m',rfl,?_,W8,A8,O8,by omega,fun c o q=>?_⟩⟩⟩
  ·rw [eS]
   exact (kp _ _ hst (A7.tup hst)).2 stp
  ·obtain ⟨v1,v2⟩:=V7 c o q
   by_cases y:c=p
   ·subst y
    obtain ⟨xs,q'⟩:=W7.some
    exact ⟨(kp _ _ q' v1).1,fun z=>absurd rfl z⟩
   ·exact ⟨(kp _ _ (v2 y) v1).1,fun _=>(kp _ _ (v2 y) v1).2 y⟩
 ·rintro σ H7 ⟨x,a,m,rfl,hst,W7,A7,O7,l7,V7⟩
  refine ⟨_,rfl,0,rfl,by decide,by decide,ZBW (n:=0) (fun i σ H'=>σ=[some (.ref p),some (.int 14),some (.int 0),some (.ref st),x]∧H'=H7) ⟨rfl,rfl⟩ (fun i σ H8 hi=>absurd hi (by omega)) ?_⟩
  rintro σ H8 ⟨rfl,rfl⟩
  exact ⟨_,rfl,k _ st gt a m V7 hst A7 l7⟩
abbrev ZPA:List Str:=["_law_script","_law_state","_law_k"]
theorem scLaw:FnScope ZPA ["_law_script"] (ZAI ZKG):=⟨rfl,rfl,rfl,by decide +kernel,rfl,by decide +kernel,by decide +kernel⟩
theorem ZNn {T:Addr} (F:Fun K "law" "law" ZKG f fd) (X:Txt mg) (DW:DefOk P w K mg base 1 "_law_well" ["_law_script","_law_k"] (ZIV K)) (DB:DefOk P w K mg base 12 "_law_begun" ["_law_well_here","_law_leaves","_law_stems"] (ZFk CSh CTw)) (DPS:DefOk P w K mg base 14 "_law_put_stem" ["_law_well_here","_law_state"] (exG fun gt=>ZCt gt CSh CTw T))
  (DE:DefOk P w K mg base 8 "_law_exact" ["_law_shelf","_law_twigs","_law_holds"] (exG fun gt=>ZEU gt CSh CTw)):FnOk P w K mg base CX0 30 f fd ["_law_script"] (ZGZ T K):=by
 refine F.ok scLaw (fun vs H Q E h=>(by obtain ⟨_,_,rfl,_⟩:=h;rfl)) (fun cdv A outer s H vs Q E hr h=>?_)
 obtain ⟨z,ns,rfl,hSq,hn,hT,k⟩:=h
 have nd:=scLaw.nd
 have hr1:=hr.mono (show 1<=29 by decide)
 have hr8:=hr.mono (show 8<=29 by decide)
 have hr12:=hr.mono (show 12<=29 by decide)
 have hr14:=hr.mono (show 14<=29 by decide)
 refine ⟨_,ZAD (ZAU (i:=1) nd rfl (Or.inl rfl) (ZAT DB hr12 (ZAN (ZAT DW hr1 (ZAN (pv 0) (ZAN ZAF ZAC))) (ZAN ZAF (ZAN ZAF ZAC)))))
  (ZAD (ZAf (ZDB (ZH2 (pv 1))) ZAd ZAR)
  (ZAD (ZBe PassesOwn.never rfl (ZCb rfl X.range (ZAN ZAF (ZAN (ZAK (ZE6 rfl) rfl X.max ZFW (ZAN ZAF (ZAN (ZAK (ZJJ rfl) rfl X.min ZNI (ZAN (ZAK ZAS rfl X.len ZAv (ZAN (pv 0) ZAC)) (ZAN ZAF ZAC))) ZAC))) ZAC))) (ZAZ (i:=2) nd rfl (Or.inl rfl))
   (ZAD (ZAf (ZAy (ZAg (ZAT DPS hr14 (ZAN (ZAT DW hr1 (ZAN (pv 0) (ZAN (pv 2) ZAC))) (ZAN (pv 1) ZAC))))) ZAd ZAR)
   (ZAH (ZAf (PW.pt (ZGs (ZAX ZCA (ZAb ZBy (pv 2) ZAF) ZAF (ZAW _)) (ZEf (ZAy (ZAg (ZAT DE hr8 (pa3 (ZAV (r:=rIx K) ZAP (pv 1) ZAF (fun _ _=>rfl)) (ZAV (r:=rIx K) ZAP (pv 1) ZAF (fun _ _=>rfl)) (ZAV (r:=rIx K) ZAP (pv 1) ZAF (fun _ _=>rfl))))))))) ZAd ZAR))))
  (ZAH (ZAQ (ZAT DE hr8 (pa3 (ZAV (r:=rIx K) ZAP (pv 1) ZAF (fun _ _=>rfl)) (ZAV (r:=rIx K) ZAP (pv 1) ZAF (fun _ _=>rfl)) (ZAV (r:=rIx K) ZAP (pv 1) ZAF (fun _ _=>rfl)))))))),?_⟩
 have tab0:TabAt H T qS:=⟨#[],hT,trivial,fun pos cv h=>by simp [PySem.codeAmong] at h⟩
 obtain ⟨M,eM,M3,M61⟩:∃ M:Int,(if (if (41:Int)<((ns.map V.int).length:Int) then (41:Int) else ((ns.map V.int).length:Int)) > 12 then (if (41:Int)<((ns.map V.int).length:Int) then (41:Int) else ((ns.map V.int).length:Int)) else 12)=M∧12<=M∧M<=41:=by
  refine ⟨_,rfl,?_,?_⟩
  ·(repeat' split) <;> omega
  ·(repeat' split) <;> omega
 refine ⟨_,rfl,z,ns,0,rfl,hSq,hn,by omega,by omega,fun p H1 np s1 W1=>?_⟩
 refine ⟨p,rfl,W1,fun H2 st gt a m V2 hst A2 l14=>?_⟩
 have old2:∀ c o,H c=some o->(∀ ps,o≠.tbl ps)->Avoid a m c∧H2 c=some o:=fun c o e _=>⟨(V2 _ _ (s1 _ _ e)).1,(V2 _ _ (s1 _ _ e)).2 (ZAB e np)⟩
 have tab2:TabAt H2 T qS:=tab0.ext ⟨fun b φ e=>(V2 _ _ (s1 _ _ e)).2 (ZAB e np),fun b φ e=>(V2 _ _ (s1 _ _ e)).2 (ZAB e np)⟩
 refine ⟨_,rfl,_,rfl,ZAz ?_⟩
 have sq:∀ (H3:Hp),(∀ c o,H c=some o->(∀ ps,o≠.tbl ps)->H3 c=some o)->SqL K H3 z (ns.map V.int):=fun H3 old=>ZMm old hSq
 refine ⟨_,rfl,z,ns.map V.int,rfl,.inl (sq _ fun c o e q=>(old2 c o e q).2),_,_,rfl,_,_,rfl,1,M,congrArg (fun z=>[V.int 1,V.int z]) eM,⟨by omega,by omega,by omega,by omega⟩,?_⟩
 clear eM
 have ask:∀ (H3:Hp) (a:Pl) (m:Md) (Q':VK),H3 st=some (.tup (stT a))->LS gt CSh CTw H3 a m->(∀ (H4:Hp) (a':Pl),(∀ c o,H3 c=some o->Avoid a m c->Avoid a' m c∧H4 c=some o)->(∀ T q,TabAt H3 T q->TabAt H4 T q)->LS gt CSh CTw H4 a' m->stT a'=stT a->Q' (.bl true) H4) ->
   (exG fun gt=>ZEU gt CSh CTw) [.ref a.S,.ref a.dT,.ref a.dH] H3 Q' E0:=fun H3 a m Q' h1 h2 h3=>⟨gt,a,m,rfl,h2,h3⟩
 refine ZBW (lo:=1) (n:=(M - 1).toNat) (fun i σ H3=>∃ (x:Option V) (a:Pl) (m:Md),σ=[some (.ref z),some (.ref st),x]∧H3 st=some (.tup (stT a))∧LS gt CSh CTw H3 a m∧14<=m.ts.length∧m.ts.length<=14+i∧TabAt H3 T qS∧∀ c o,H c=some o->(∀ ps,o≠.tbl ps)->Avoid a m c∧H3 c=some o)
  ⟨_,a,m,rfl,hst,A2,by omega,by omega,tab2,old2⟩ ?_ ?_
 ·rintro i σ H3 hi ⟨x,a,m,rfl,hst3,A3,l3,u3,tab3,old3⟩
  obtain ⟨ps3,hT3,_⟩:=id tab3
  refine ⟨_,rfl,_,rfl,z,ns,_,rfl,sq _ fun c o e q=>(old3 c o e q).2,hn,by omega,by omega,fun p H4 np s4 W4=>?_⟩
  have A4:=A3.same s4
  refine ⟨_,rfl,gt,p,st,a,m,rfl,W4,s4 _ _ hst3,A4,A3.off np,by omega,by omega,tab3.ext (ExtS.same s4),fun H5 a5 m5 kp A5 eS l5 u5 tab5=>⟨_,rfl,ZAz ?_⟩⟩
  have old5:∀ c o,H c=some o->(∀ ps,o≠.tbl ps)->Avoid a5 m5 c∧H5 c=some o:=fun c o e q=>by
   obtain ⟨v1,v2⟩:=old3 c o e q
   have v4:=s4 _ _ v2
   exact ⟨(kp _ _ v4 v1).1,(kp _ _ v4 v1).2 (ZAB v2 np) (ZAJ v2 hT3 (q _))⟩
  have hst5:H5 st=some (.tup (stT a5)):=by
   rw [eS]
   exact (kp _ _ (s4 _ _ hst3) (A4.tup (s4 _ _ hst3))).2 (ZAB hst3 np) (ZAJ hst3 hT3 (by intro z;cases z))
  refine ⟨_,rfl,_,_,rfl,rfl,(by show (0:Int)<6;decide),rfl,_,rfl,ZFO (fun c=>?_) (fun c=>?_)⟩
  ·refine ⟨_,rfl,.inr (.inl ⟨st,_,0,.ref a5.S,rfl,rfl,SqT.of hst5,rfl,_,rfl,.inr (.inl ⟨st,_,1,.ref a5.dT,rfl,rfl,SqT.of hst5,rfl,_,rfl,.inr (.inl ⟨st,_,2,.ref a5.dH,rfl,rfl,SqT.of hst5,rfl,ask H5 a5 m5 _ hst5 A5 fun H6 a6 kp6 tb6 A6 eS6=>⟨_,rfl,ZAz ?_⟩⟩)⟩)⟩)⟩
   refine ⟨_,a6,m5,rfl,?_,A6,by omega,by omega,tb6 _ _ tab5,fun c o e q=>?_⟩
   ·rw [eS6]
    exact (kp6 _ _ hst5 (A5.tup hst5)).2
   ·obtain ⟨v1,v2⟩:=old5 c o e q
    exact kp6 _ _ v2 v1
  ·exact ⟨_,a5,m5,rfl,hst5,A5,by omega,by omega,tab5,old5⟩
 ·rintro σ H5 ⟨x,a5,m5,rfl,hst5,A5,l5,u5,tab5,old5⟩
  exact ⟨_,rfl,.inr (.inl ⟨st,_,0,.ref a5.S,rfl,rfl,SqT.of hst5,rfl,_,rfl,.inr (.inl ⟨st,_,1,.ref a5.dT,rfl,rfl,SqT.of hst5,rfl,_,rfl,.inr (.inl ⟨st,_,2,.ref a5.dH,rfl,rfl,SqT.of hst5,rfl,ask H5 a5 m5 _ hst5 A5 fun H6 a6 kp6 tb6 A6 eS6=>k H6⟩)⟩)⟩)⟩
end
end Tw
namespace L2
open PySem PySem.Spec
def xC (K:PySem.W.Frag) (C:Addr):Bool:=
 (PySem.W.findIn K (.ref C) "__getattribute__" == some (some (.builtin "BaseException.__getattribute__")))&&((PySem.W.findIn K (.ref C) "__getattr__" == some none)&&((PySem.W.mroIn K C (.type "BaseException")==some true)&&((PySem.W.mroIn K C (.type "object")==some true) &&
 ((PySem.W.findIn K (.ref C) "__class__" == some (some (.builtin "object.__class__")))&&((PySem.W.specialIn K (.builtin "object.__class__") "__get__" == some (some (.builtin "getset_descriptor.__get__")))&&(PySem.W.takesIn K (.builtin "object.__class__")==some true))))))
theorem ZNB {K:PySem.W.Frag} {C:Addr} (h:xC K C=true):ExcC K C:=by
 unfold xC at h
 simp only [Bool.and_eq_true,beq_iff_eq] at h
 obtain ⟨a,b,c,d,e,f,g⟩:=h
 exact ⟨a,b,c,d,e,f,g⟩
def xF (K:PySem.W.Frag) (C fI:Addr) (f:Str):Bool:=
 xC K C&&(ZOC K C&&((PySem.W.findIn K (.ref C) "__init__" == some (some (.ref fI)))&&(PySem.W.isFn K (.ref fI)&&(PySem.W.keepIn K (.ref C)&&((PySem.W.findIn K (.ref C) "__setattr__" == some (some (.builtin "object.__setattr__"))) &&
 ((PySem.W.findIn K (.ref C) f==some none)&&(PySem.W.hasDictIn K C&&ZNj K C)))))))
theorem ZH7 {K:PySem.W.Frag} {C fI:Addr} {f:Str} (h:xF K C fI f=true):ExcF K C fI f:=by
 unfold xF at h
 simp only [Bool.and_eq_true,beq_iff_eq] at h
 obtain ⟨a,b,c,d,e,f,g,i,j⟩:=h
 exact ⟨ZNB a,b,c,d,e,f,g,i,j⟩
def ZOO (K:PySem.W.Frag) (cs:List Addr) (up:List Value):Bool:=
 (List.range cs.length).all fun k=>xC K (cs.getD k 0)&&((List.range cs.length).all (fun j=>PySem.W.kitOne K (.ref (cs.getD k 0)) (.ref (cs.getD j 0))==some (k==j))&&up.all fun v=>PySem.W.kitOne K (.ref (cs.getD k 0)) v==some true)
theorem ZMK {K:PySem.W.Frag} {cs:List Addr} {up:List Value} (h:ZOO K cs up=true) {k:Nat} (hk:k<cs.length):ExcC K (cs.getD k 0)∧(∀ j,j<cs.length->PySem.W.kitOne K (.ref (cs.getD k 0)) (.ref (cs.getD j 0))=some (k==j))∧∀ v∈up,PySem.W.kitOne K (.ref (cs.getD k 0)) v=some true:=by
 have h1:=List.all_eq_true.mp h k (List.mem_range.mpr hk)
 simp only [Bool.and_eq_true] at h1
 exact ⟨ZNB h1.1,fun j hj=>beq_iff_eq.mp (List.all_eq_true.mp h1.2.1 j (List.mem_range.mpr hj)),fun v hv=>beq_iff_eq.mp (List.all_eq_true.mp h1.2.2 v hv)⟩
end L2
namespace Tw
open PySem PySem.Spec L2 PyProof.Rows
theorem ZLR {K:PySem.W.Frag} {CB:Addr} {cs:List Addr} (h:ZOO K cs [.type "ValueError"]=true) (h6:cs.length=6) {k:Nat} (hk:k<6) (sub:PySem.W.mroIn K (cs.getD k 0) (.ref CB)=some true):XC K CB (fun i=>cs.getD i 0) k:=by
 obtain ⟨ec,kt,ku⟩:=ZMK h (k:=k) (by omega)
 refine ⟨ec,sub,ku _ (by simp),fun i hi=>?_⟩
 have:=kt i (by omega)
 rw [this]
 congr 1
 by_cases z:k=i
 ·subst z;simp
 ·have z':¬ i=k:=fun y=>z y.symm
  simp [z,z']
section
variable {P:Program} {w:World} {K:PySem.W.Frag} {mg:Str->Option Value} {base:Heap} {f:Addr} {fd:FuncData}
abbrev ZCG:Stmt:=ZAq (top 6) 0
theorem ZID:FnScope ["self","number"] ["self","number"] (ZAI ZCG):=⟨rfl,rfl,rfl,by decide +kernel,rfl,by decide +kernel,by decide +kernel⟩
theorem ZHL {C:Addr} (F:Fun K "__init__" "NoTwig.__init__" ZCG f fd):FnOk P w K mg base CX0 1 f fd ["self","number"] (ZCw K C f "number"):=by
 refine F.ok ZID (fun vs H Q E h=>(by obtain ⟨_,_,_,rfl,_⟩:=h;rfl)) (fun cdv A outer s H vs Q E hr h=>?_)
 obtain ⟨c,ea,y,rfl,e,k⟩:=h
 exact ⟨_,ZAH (ZGE (pv 0) (pv 1) rfl),⟨_,rfl,_,rfl,ZJg,ea,_,_,rfl,e,c,k⟩⟩
abbrev ZBp:Stmt:=ZAq (top 7) 0
theorem ZHg:FnScope ["self","number"] ["self","number"] (ZAI ZBp):=⟨rfl,rfl,rfl,by decide +kernel,rfl,by decide +kernel,by decide +kernel⟩
theorem ZGQ {C:Addr} (F:Fun K "__init__" "NotHeld.__init__" ZBp f fd):FnOk P w K mg base CX0 1 f fd ["self","number"] (ZCw K C f "number"):=by
 refine F.ok ZHg (fun vs H Q E h=>(by obtain ⟨_,_,_,rfl,_⟩:=h;rfl)) (fun cdv A outer s H vs Q E hr h=>?_)
 obtain ⟨c,ea,y,rfl,e,k⟩:=h
 exact ⟨_,ZAH (ZGE (pv 0) (pv 1) rfl),⟨_,rfl,_,rfl,ZJg,ea,_,_,rfl,e,c,k⟩⟩
abbrev ZCE:Stmt:=ZAq (top 8) 0
theorem ZHp:FnScope ["self","number"] ["self","number"] (ZAI ZCE):=⟨rfl,rfl,rfl,by decide +kernel,rfl,by decide +kernel,by decide +kernel⟩
theorem ZHV {C:Addr} (F:Fun K "__init__" "Shared.__init__" ZCE f fd):FnOk P w K mg base CX0 1 f fd ["self","number"] (ZCw K C f "number"):=by
 refine F.ok ZHp (fun vs H Q E h=>(by obtain ⟨_,_,_,rfl,_⟩:=h;rfl)) (fun cdv A outer s H vs Q E hr h=>?_)
 obtain ⟨c,ea,y,rfl,e,k⟩:=h
 exact ⟨_,ZAH (ZGE (pv 0) (pv 1) rfl),⟨_,rfl,_,rfl,ZJg,ea,_,_,rfl,e,c,k⟩⟩
end
structure LaidM (K:PySem.W.Frag) (C:Addr) (m q:Str) (st:Stmt) (ps:List Str):Prop where
 ex:∃ f fd,Meth K C m f∧Fun K m q st f fd∧Binds K fd ps []
theorem LaidM.of {P:Program} {w:World} {K:PySem.W.Frag} {mg:Str->Option Value} {base:Heap} {CX:CXT} {C:Addr} {m q:Str} {st:Stmt} {ps:List Str} {k:Nat} {sp:Sp} (L:LaidM K C m q st ps) (h:∀ f fd,Fun K m q st f fd->FnOk P w K mg base CX k f fd ps sp):MethOk P w K mg base CX k C m ps sp:=by
 obtain ⟨f,fd,M,F,b⟩:=L.ex
 exact ⟨f,fd,M,h f fd F,b⟩
theorem laidM_mk {K:PySem.W.Frag} {C f:Addr} {m q:Str} {st:Stmt} {ps:List Str} {od an:Option Addr} {sl:Array (Option Value)} {oc kV dc pm cd ct:Value} (v:PySem.W.findIn K (.ref C) m=some (some (.ref f))) (l:K.lookup f=some ⟨oc,od,.func (PySem.W.fnOf m q (ZA6 st) (ZAp st) (ZAI st) .none kV dc pm an cd ct),sl⟩) (fn:PySem.W.isFn K (.ref f)=true) (c:PySem.W.codeIn K cd q=true) (k:PySem.W.keepIn K (.ref f)=true)
  (hb:∀ (kV doc pm:Value) (an:Option Addr) (cdv ct:Value) (us:List Value),us.length=ps.length->bindArgs (PySem.W.fnOf m q (ZA6 st) (ZAp st) (ZAI st) .none kV doc pm an cdv ct) ⟨us,[]⟩=pure (ps.zip us)):LaidM K C m q st ps:=
 ⟨f,_,⟨v,fn,k⟩,ZBZ (st:=st) l c k,(ZBZ (st:=st) l c k).binds hb⟩
structure LaidI (K:PySem.W.Frag) (C:Addr) (q:Str) (st:Stmt) (ps:List Str):Prop where
 ex:∃ f fd,PySem.W.findIn K (.ref C) "__init__" = some (some (.ref f))∧PySem.W.isFn K (.ref f)=true∧Fun K "__init__" q st f fd∧Binds K fd ps []
theorem laidI_mk {K:PySem.W.Frag} {C f:Addr} {q:Str} {st:Stmt} {ps:List Str} {od an:Option Addr} {sl:Array (Option Value)} {oc kV dc pm cd ct:Value} (v:PySem.W.findIn K (.ref C) "__init__" = some (some (.ref f))) (l:K.lookup f=some ⟨oc,od,.func (PySem.W.fnOf "__init__" q (ZA6 st) (ZAp st) (ZAI st) .none kV dc pm an cd ct),sl⟩) (fn:PySem.W.isFn K (.ref f)=true) (c:PySem.W.codeIn K cd q=true) (k:PySem.W.keepIn K (.ref f)=true)
  (hb:∀ (kV doc pm:Value) (an:Option Addr) (cdv ct:Value) (us:List Value),us.length=ps.length->bindArgs (PySem.W.fnOf "__init__" q (ZA6 st) (ZAp st) (ZAI st) .none kV doc pm an cdv ct) ⟨us,[]⟩=pure (ps.zip us)):LaidI K C q st ps:=
 ⟨f,_,v,fn,ZBZ (st:=st) l c k,(ZBZ (st:=st) l c k).binds hb⟩
theorem tab_mk {K:PySem.W.Frag} {x:Str} {f c P:Addr} {oc:Value} {od:Option Addr} {fd:FuncData} {sl:Array (Option Value)} {oc2:Value} {od2:Option Addr} {vs:Array Value} {sl2:Array (Option Value)} (a:PySem.W.nsIn K mainGlobals x=some (some (.ref f))) (l:K.lookup f=some ⟨oc,od,.func fd,sl⟩) (e:fd.code=.ref c) (l2:K.lookup c=some ⟨oc2,od2,.fields vs,sl2⟩) (v:vs[11]? = some (.ref P)):PySem.W.tabIn K x=some (c,P):=by
 unfold PySem.W.tabIn
 rw [a]
 simp only
 rw [l]
 simp only
 rw [e]
 simp only
 rw [l2]
 simp only
 rw [v]
theorem all_mk {l:PySem.W.OpenLaw} {w:World} {K:PySem.W.Frag} {h:Heap} {mg:Str->Option Value} {fa cb0 tb0 f34 f36 CB CK CL CS CT CH CD CSh CTw jN jH jD:Addr} (X:K.In h) (G:h.Ns mainGlobals mg) (hfa:mg "law" = some (.ref fa)) (hta:PySem.W.tabIn K "_law_put_stem" = some (cb0,tb0))
  {od34 an34 od36 an36:Option Addr} {sl34 sl36:Array (Option Value)} {oc34 kV34 dc34 pm34 cd34 ct34 oc36 kV36 dc36 pm36 cd36 ct36:Value} {t1 t2 t3 t4 t5 t6 t7 t8 t9 t10:Tok}
  (L1:Laid K mg "is_key" ZHs ["thing"])
  (L2:Laid K mg "checked" ZEn ["thing"])
  (L3:Laid K mg "fits" ZKB ["thing","room"])
  (L4:Laid K mg "has_few_figures" ZOo ["number"])
  (L5:Laid K mg "is_sign" ZLn ["sign"])
  (L6:Laid K mg "ahead" ZI3 ["one","other"])
  (L7:Laid K mg "standing" ZCO ["key"])
  (L8:Laid K mg "checked_rows" ZFw ["rows"])
  (L9:Laid K mg "own_rows" ZEV ["rows"])
  (L10:Laid K mg "rise" ZMB ["keys"])
  (L11:Laid K mg "label_of_rows" ZED ["rows"])
  (L12:Laid K mg "label_over" ZD8 ["labels"])
  (L13:Laid K mg "stand_side_by_side" ZLt ["label","following"])
  (L14:Laid K mg "is_stem" ZFm ["twig"])
  (L15:Laid K mg "_law_well" ZL6 ["_law_script","_law_k"])
  (L16:Laid K mg "_law_pull" ZMh ["_law_well_here","_law_many"])
  (L17:Laid K mg "_law_rank" ZJs ["_law_key"])
  (L18:Laid K mg "_law_less" ZMV ["_law_one","_law_other"])
  (L19:Laid K mg "_law_alike" ZGX ["_law_found","_law_due"])
  (L20:Laid K mg "_law_grid" ZMZ ["_law_well_here"])
  (L21:Laid K mg "_law_leaf_rows" ZDZ ["_law_well_here","_law_grid_here","_law_block"])
  (L22:Laid K mg "_law_rows_of" ZGG ["_law_twigs","_law_number"])
  (L23:Laid K mg "_law_label" ZJS ["_law_twigs","_law_number"])
  (L24:Laid K mg "_law_above" ZIe ["_law_twigs","_law_number"])
  (L25:Laid K mg "_law_shared" ZFu ["_law_twigs","_law_holds","_law_number"])
  (L26:Laid K mg "_law_count" ZIa ["_law_found","_law_due"])
  (L27:Laid K mg "_law_exact" ZJK ["_law_shelf","_law_twigs","_law_holds"])
  (L28:Laid K mg "_law_asked" ZJF ["_law_call"])
  (L29:Laid K mg "_law_wrong" ZH3 ["_law_twigs","_law_numbers","_law_high"])
  (L30:Laid K mg "_law_unheld" ZGB ["_law_holds","_law_numbers"])
  (L31:Laid K mg "_law_picked" ZF1 ["_law_well_here","_law_some"])
  (L32:Laid K mg "_law_run" ZOG ["_law_well_here","_law_twigs","_law_holds","_law_grid_here"])
  (L33:Laid K mg "_law_put_leaf" ZEp ["_law_well_here","_law_state","_law_block"])
  (a34:PySem.W.nsIn K mainGlobals "_law_put_stem" = some (some (.ref f34))) (l34:K.lookup f34=some ⟨oc34,od34,.func (PySem.W.fnOf "_law_put_stem" "_law_put_stem" (ZA6 ZAt) (ZAp ZAt) (ZAI ZAt) .none kV34 dc34 pm34 an34 cd34 ct34),sl34⟩) (c34:PySem.W.codeIn K cd34 "_law_put_stem" = true) (k34:PySem.W.keepIn K (.ref f34)=true)
  (L35:Laid K mg "_law_begun" ZIE ["_law_well_here","_law_leaves","_law_stems"])
  (a36:PySem.W.nsIn K mainGlobals "law" = some (some (.ref f36))) (l36:K.lookup f36=some ⟨oc36,od36,.func (PySem.W.fnOf "law" "law" (ZA6 ZKG) (ZAp ZKG) (ZAI ZKG) .none kV36 dc36 pm36 an36 cd36 ct36),sl36⟩) (c36:PySem.W.codeIn K cd36 "law" = true) (k36:PySem.W.keepIn K (.ref f36)=true)
  (z1:PySem.W.nsIn K mainGlobals "isinstance" = some none) (z2:PySem.W.nsIn K mainGlobals "bool" = some none) (z3:PySem.W.nsIn K mainGlobals "int" = some none) (z4:PySem.W.nsIn K mainGlobals "str" = some none) (z5:PySem.W.nsIn K mainGlobals "tuple" = some none) (z6:PySem.W.nsIn K mainGlobals "list" = some none) (z7:PySem.W.nsIn K mainGlobals "len" = some none) (z8:PySem.W.nsIn K mainGlobals "all" = some none) (z9:PySem.W.nsIn K mainGlobals "abs" = some none) (z10:PySem.W.nsIn K mainGlobals "max" = some none) (z11:PySem.W.nsIn K mainGlobals "min" = some none) (z12:PySem.W.nsIn K mainGlobals "range" = some none) (z13:PySem.W.nsIn K mainGlobals "sorted" = some none) (z14:PySem.W.nsIn K mainGlobals "ValueError" = some none) (z15:PySem.W.nsIn K mainGlobals "sum" = some none) (z16:PySem.W.nsIn K mainGlobals "reversed" = some none)
  (m1_:PySem.W.nsIn K mainGlobals "MOST_SIGNS" = some (some (.int 40 t1))) (m2_:PySem.W.nsIn K mainGlobals "MOST_THINGS" = some (some (.int 4 t2))) (m3_:PySem.W.nsIn K mainGlobals "MOST_DEEP" = some (some (.int 3 t3))) (m4_:PySem.W.nsIn K mainGlobals "MOST_ROWS" = some (some (.int 4 t4))) (m5_:PySem.W.nsIn K mainGlobals "FEWEST_BRANCHES" = some (some (.int 2 t5))) (m6_:PySem.W.nsIn K mainGlobals "MOST_BRANCHES" = some (some (.int 4 t6))) (m7_:PySem.W.nsIn K mainGlobals "HEIGHT" = some (some (.int 0 t7))) (m8_:PySem.W.nsIn K mainGlobals "LEAST" = some (some (.int 1 t8))) (m9_:PySem.W.nsIn K mainGlobals "GREATEST" = some (some (.int 2 t9))) (m10_:PySem.W.nsIn K mainGlobals "MANY" = some (some (.int 3 t10)))
  (IjS:LaidI K CSh "Shelf.__init__" ZJb ["self"])
  (IjT:LaidI K CTw "Twig.__init__" ZMP ["self","things","tag"])
  {ocjN kVjN dcjN pmjN cdjN ctjN:Value} {odjN anjN:Option Addr} {sljN:Array (Option Value)} (iljN:K.lookup jN=some ⟨ocjN,odjN,.func (PySem.W.fnOf "__init__" "NoTwig.__init__" (ZA6 ZCG) (ZAp ZCG) (ZAI ZCG) .none kVjN dcjN pmjN anjN cdjN ctjN),sljN⟩) (icjN:PySem.W.codeIn K cdjN "NoTwig.__init__" = true) (ikjN:PySem.W.keepIn K (.ref jN)=true)
  {ocjH kVjH dcjH pmjH cdjH ctjH:Value} {odjH anjH:Option Addr} {sljH:Array (Option Value)} (iljH:K.lookup jH=some ⟨ocjH,odjH,.func (PySem.W.fnOf "__init__" "NotHeld.__init__" (ZA6 ZBp) (ZAp ZBp) (ZAI ZBp) .none kVjH dcjH pmjH anjH cdjH ctjH),sljH⟩) (icjH:PySem.W.codeIn K cdjH "NotHeld.__init__" = true) (ikjH:PySem.W.keepIn K (.ref jH)=true)
  {ocjD kVjD dcjD pmjD cdjD ctjD:Value} {odjD anjD:Option Addr} {sljD:Array (Option Value)} (iljD:K.lookup jD=some ⟨ocjD,odjD,.func (PySem.W.fnOf "__init__" "Shared.__init__" (ZA6 ZCE) (ZAp ZCE) (ZAI ZCE) .none kVjD dcjD pmjD anjD cdjD ctjD),sljD⟩) (icjD:PySem.W.codeIn K cdjD "Shared.__init__" = true) (ikjD:PySem.W.keepIn K (.ref jD)=true)
  (Mm1:LaidM K CSh "put_leaf" "Shelf.put_leaf" ZEk ["self","rows"])
  (Mm2:LaidM K CSh "put_stem" "Shelf.put_stem" ZEr ["self","numbers"])
  (Mm3:LaidM K CSh "put_twig" "Shelf.put_twig" ZEc ["self","things","label"])
  (Mm4:LaidM K CSh "holders" "Shelf.holders" ZEq ["self","number"])
  (Mm5:LaidM K CSh "outside" "Shelf.outside" ZEO ["self","number"])
  (Mm6:LaidM K CSh "alone" "Shelf.alone" ZIz ["self","number"])
  (Mm7:LaidM K CSh "look" "Shelf.look" ZLU ["self","number"])
  (Mm8:LaidM K CSh "label" "Shelf.label" ZGj ["self","number"])
  (Mm9:LaidM K CSh "forget" "Shelf.forget" ZF0 ["self"])
  (Mm10:LaidM K CSh "numbers" "Shelf.numbers" ZEA ["self"])
  (Mm11:LaidM K CSh "many" "Shelf.many" ZMb ["self"])
  (Mm12:LaidM K CSh "twig_of" "Shelf.twig_of" ZEg ["self","number"])
  (Mm13:LaidM K CSh "labels_of" "Shelf.labels_of" ZDi ["self","numbers"])
  (Mm14:LaidM K CSh "check_held" "Shelf.check_held" ZCm ["self","numbers"])
  (Mm15:LaidM K CSh "take_over" "Shelf.take_over" ZDT ["self","stem","branches"])
  (Mm16:LaidM K CSh "road_up" "Shelf.road_up" ZL0 ["self","number"])
  (xCB:PySem.W.nsIn K mainGlobals "TwigError" = some (some (.ref CB))) (xCK:PySem.W.nsIn K mainGlobals "NoKey" = some (some (.ref CK))) (xCL:PySem.W.nsIn K mainGlobals "NoLeaf" = some (some (.ref CL))) (xCS:PySem.W.nsIn K mainGlobals "NoStem" = some (some (.ref CS))) (xCT:PySem.W.nsIn K mainGlobals "NoTwig" = some (some (.ref CT))) (xCH:PySem.W.nsIn K mainGlobals "NotHeld" = some (some (.ref CH))) (xCD:PySem.W.nsIn K mainGlobals "Shared" = some (some (.ref CD))) (xCSh:PySem.W.nsIn K mainGlobals "Shelf" = some (some (.ref CSh))) (xCTw:PySem.W.nsIn K mainGlobals "Twig" = some (some (.ref CTw))) (vjN:PySem.W.findIn K (.ref CT) "__init__" = some (some (.ref jN))) (vjH:PySem.W.findIn K (.ref CH) "__init__" = some (some (.ref jH))) (vjD:PySem.W.findIn K (.ref CD) "__init__" = some (some (.ref jD))) (mkCSh:PySem.W.makesIn K CSh=true) (kpCSh:PySem.W.keepIn K (.ref CSh)=true) (pgCSh:PySem.W.plainGet K CSh Str.empty=true) (hdCSh:PySem.W.hasDictIn K CSh=true) (poCSh:PySem.W.plainOver K CSh=true) (saCSh:PySem.W.findIn K (.ref CSh) "__setattr__" = some (some (.builtin "object.__setattr__"))) (mkCTw:PySem.W.makesIn K CTw=true) (kpCTw:PySem.W.keepIn K (.ref CTw)=true) (pgCTw:PySem.W.plainGet K CTw Str.empty=true) (hdCTw:PySem.W.hasDictIn K CTw=true) (poCTw:PySem.W.plainOver K CTw=true) (saCTw:PySem.W.findIn K (.ref CTw) "__setattr__" = some (some (.builtin "object.__setattr__"))) (na_kept:PySem.W.findIn K (.ref CSh) "kept" = some none) (na_following:PySem.W.findIn K (.ref CSh) "following" = some none) (na_looks:PySem.W.findIn K (.ref CSh) "looks" = some none) (na_things:PySem.W.findIn K (.ref CTw) "things" = some none) (na_tag:PySem.W.findIn K (.ref CTw) "tag" = some none) (na_above:PySem.W.findIn K (.ref CTw) "above" = some none) (na_holds:PySem.W.findIn K (.ref CTw) "holds" = some none) (tyB:PySem.W.typeIn K (.ref CB)=some (.type "type")) (mB:PySem.W.mroIn K CB (.type "BaseException")=some true) (kitx:ZOO K [CK,CL,CS,CT,CH,CD] [.type "ValueError"]=true) (wCT:xF K CT jN "number" = true) (tyCT:PySem.W.typeIn K (.ref CT)=some (.type "type")) (wCH:xF K CH jH "number" = true) (tyCH:PySem.W.typeIn K (.ref CH)=some (.type "type")) (wCD:xF K CD jD "number" = true) (tyCD:PySem.W.typeIn K (.ref CD)=some (.type "type")) (sbCS:PySem.W.mroIn K CS (.ref CB)=some true) (sbCT:PySem.W.mroIn K CT (.ref CB)=some true) (sbCH:PySem.W.mroIn K CH (.ref CB)=some true) (exCS:PySem.W.excIn K CS bmV "ValueError.__new__" = true) (kpCS:PySem.W.keepIn K (.ref CS)=true) (mBCS:PySem.W.mroIn K CS (.type "BaseException")=some true) (tyCS:PySem.W.typeIn K (.ref CS)=some (.type "type")) (mBCD:PySem.W.mroIn K CD (.type "BaseException")=some true) (slCD:PySem.W.mroIn K CD (.ref CD)=some true) :
  ∃ fd:FuncData,(∀ (s:Shared) (v:Value),BindsTo s fd ⟨[v],[]⟩ [("_law_script",v)])∧∀ base:Heap,K.In base->base.Ns mainGlobals mg->PySem.W.CodeHd base cb0 tb0->base.BuiltinsAt mg tb0->FnOk l.prog w K mg base CX0 30 fa fd ["_law_script"] (ZGZ tb0 K):=by
 have e:=hfa.symm.trans (PySem.W.mg_of X G a36)
 cases e
 have T:Txt mg:=⟨PySem.W.mg_none_of X G z1,PySem.W.mg_none_of X G z2,PySem.W.mg_none_of X G z3,PySem.W.mg_none_of X G z4,PySem.W.mg_none_of X G z5,PySem.W.mg_none_of X G z6,PySem.W.mg_none_of X G z7,PySem.W.mg_none_of X G z8,PySem.W.mg_none_of X G z9,PySem.W.mg_none_of X G z10,PySem.W.mg_none_of X G z11,PySem.W.mg_none_of X G z12,PySem.W.mg_none_of X G z13,PySem.W.mg_none_of X G z14,PySem.W.mg_none_of X G z15,⟨_,PySem.W.mg_of X G m1_⟩,⟨_,PySem.W.mg_of X G m2_⟩,⟨_,PySem.W.mg_of X G m3_⟩,⟨_,PySem.W.mg_of X G m4_⟩,⟨_,PySem.W.mg_of X G m5_⟩,⟨_,PySem.W.mg_of X G m6_⟩,⟨_,PySem.W.mg_of X G m7_⟩,⟨_,PySem.W.mg_of X G m8_⟩,⟨_,PySem.W.mg_of X G m9_⟩,⟨_,PySem.W.mg_of X G m10_⟩⟩
 refine ⟨PySem.W.fnOf "law" "law" (ZA6 ZKG) (ZAp ZKG) (ZAI ZKG) .none kV36 dc36 pm36 an36 cd36 ct36,fun s v=>.of_eq rfl,fun base kb _ hC hB=>?_⟩
 have Tr:mg "reversed" = none:=PySem.W.mg_none_of X G z16
 have NMx:Nm K mg CB (fun i=>[CK,CL,CS,CT,CH,CD].getD i 0):=⟨PySem.W.mg_of X G xCB,tyB,mB,PySem.W.mg_of X G xCK,PySem.W.mg_of X G xCL,PySem.W.mg_of X G xCS,PySem.W.mg_of X G xCT,PySem.W.mg_of X G xCH,PySem.W.mg_of X G xCD⟩
 have X2:XC K CB (fun i=>[CK,CL,CS,CT,CH,CD].getD i 0) 2:=ZLR kitx rfl (by decide) sbCS
 have X3:XC K CB (fun i=>[CK,CL,CS,CT,CH,CD].getD i 0) 3:=ZLR kitx rfl (by decide) sbCT
 have X4:XC K CB (fun i=>[CK,CL,CS,CT,CH,CD].getD i 0) 4:=ZLR kitx rfl (by decide) sbCH
 have SHx:ShF K mg CSh CTw:=⟨PySem.W.mg_of X G xCSh,PySem.W.mg_of X G xCTw,⟨pgCSh,hdCSh,poCSh,saCSh⟩,⟨pgCTw,hdCTw,poCTw,saCTw⟩,na_kept,na_following,na_looks,na_things,na_tag,na_above,na_holds⟩
 have NTw:XN l.prog w K mg base "NoTwig" CT:=⟨⟨jN,_,ZH7 wCT,ZHL (ZBZ (st:=ZCG) iljN icjN ikjN),(ZBZ (st:=ZCG) iljN icjN ikjN).binds fun _ _ _ _ _ _ us hl=>match us,hl with | [_,_],_=>rfl⟩,PySem.W.mg_of X G xCT,tyCT⟩
 have NHe:XN l.prog w K mg base "NotHeld" CH:=⟨⟨jH,_,ZH7 wCH,ZGQ (ZBZ (st:=ZBp) iljH icjH ikjH),(ZBZ (st:=ZBp) iljH icjH ikjH).binds fun _ _ _ _ _ _ us hl=>match us,hl with | [_,_],_=>rfl⟩,PySem.W.mg_of X G xCH,tyCH⟩
 have NSh:XN l.prog w K mg base "Shared" CD:=⟨⟨jD,_,ZH7 wCD,ZHV (ZBZ (st:=ZCE) iljD icjD ikjD),(ZBZ (st:=ZCE) iljD icjD ikjD).binds fun _ _ _ _ _ _ us hl=>match us,hl with | [_,_],_=>rfl⟩,PySem.W.mg_of X G xCD,tyCD⟩
 have XSx:XS l.prog w K mg base CS:=⟨PySem.W.mg_of X G xCS,exCS,kpCS,mBCS,tyCS⟩
 have XDx:XD K mg CD:=⟨PySem.W.mg_of X G xCD,tyCD,mBCD,slCD⟩
 have DMS:MkOk l.prog w K mg base 1 CSh ["self"] (ZMI CSh):=by obtain ⟨f,fd,v,fn,F,b⟩:=IjS.ex;exact ⟨f,fd,⟨mkCSh,v,fn,kpCSh⟩,ZNb F SHx,b⟩
 have DMT:MkOk l.prog w K mg base 1 CTw ["self","things","tag"] (ZMS CTw):=by obtain ⟨f,fd,v,fn,F,b⟩:=IjT.ex;exact ⟨f,fd,⟨mkCTw,v,fn,kpCTw⟩,ZNi F SHx,b⟩
 have MTo:MethOk l.prog w K mg base CX0 1 CSh "twig_of" ["self","number"] (ZBh CSh):=Mm12.of fun _ _ F=>ZJI F SHx
 have MOu:MethOk l.prog w K mg base CX0 2 CSh "outside" ["self","number"] (ZHq CSh CTw fun _ ho _=>.int ho):=Mm5.of fun _ _ F=>ZHf F SHx MTo
 have MLa:MethOk l.prog w K mg base CX0 2 CSh "label" ["self","number"] (ZHq CSh CTw fun tg _ _=>tg):=Mm8.of fun _ _ F=>ZJ0 F SHx MTo
 have MHo:MethOk l.prog w K mg base CX0 2 CSh "holders" ["self","number"] (ZHq CSh CTw fun _ ho us=>.int ((us.length:Nat)+(ho:Nat):Int)):=Mm4.of fun _ _ F=>ZHP F T SHx MTo
 have MRo:∀ gt,MethOk l.prog w K mg base (CXd l.prog w) 3 CSh "road_up" ["self","number"] (ZIY gt CSh CTw CD):=fun gt=>Mm16.of fun _ _ F=>ZMM F SHx NSh MTo MHo
 have MAl:∀ gt,MethOk l.prog w K mg base CX0 4 CSh "alone" ["self","number"] (ZFl gt CSh CTw):=fun gt=>Mm6.of fun _ _ F=>ZKk F SHx XDx (MRo gt)
 have MFo:MethOk l.prog w K mg base CX0 1 CSh "forget" ["self"] (ZEo CSh CTw):=Mm9.of fun _ _ F=>ZI4 F SHx
 have DIs:DefOk l.prog w K mg base 1 "is_stem" ["twig"] (ZJM CTw):=L14.of fun _ _ F=>ZL9 F T SHx
 have MLo:MethOk l.prog w K mg base CX0 2 CSh "look" ["self","number"] (ZJC CSh CTw):=Mm7.of fun _ _ F=>ZMt F T SHx MTo DIs
 have MMa:MethOk l.prog w K mg base CX0 1 CSh "many" ["self"] (ZIc CSh):=Mm11.of fun _ _ F=>ZMG F T SHx
 have MNu:MethOk l.prog w K mg base CX0 1 CSh "numbers" ["self"] (ZDX CSh):=Mm10.of fun _ _ F=>ZHU F T SHx
 have MPt:MethOk l.prog w K mg base CX0 3 CSh "put_twig" ["self","things","label"] (ZCL CSh CTw):=Mm3.of fun _ _ F=>ZHJ F SHx DMT
 have MTk:MethOk l.prog w K mg base CX0 2 CSh "take_over" ["self","stem","branches"] (ZCf CSh CTw):=Mm15.of fun _ _ F=>ZGO F SHx MTo
 have MTd:MethOk l.prog w K mg base (CXd l.prog w) 3 CSh "twig_of" ["self","number"] (ZDq CSh CT):=Mm12.of fun _ _ F=>ZHa F SHx NTw
 have MLd:MethOk l.prog w K mg base (CXd l.prog w) 4 CSh "label" ["self","number"] (ZEe CSh CTw CT):=Mm8.of fun _ _ F=>ZJU F SHx MTd
 have MLs:MethOk l.prog w K mg base (CXd l.prog w) 5 CSh "labels_of" ["self","numbers"] (ZCh CSh CTw CT):=Mm13.of fun _ _ F=>ZFv F SHx MLd
 have MCh:MethOk l.prog w K mg base (CXd l.prog w) 3 CSh "check_held" ["self","numbers"] (ZCI CSh CTw CH):=Mm14.of fun _ _ F=>ZFV F SHx NHe MOu
 have DP:DefOk l.prog w K mg base 1 "_law_pull" ["_law_well_here","_law_many"] (ZCy):=L16.of fun _ _ F=>ZMW F
 have DW:DefOk l.prog w K mg base 1 "_law_well" ["_law_script","_law_k"] (ZIV K):=L15.of fun _ _ F=>ZLu F T
 have DN:DefOk l.prog w K mg base 1 "has_few_figures" ["number"] (ZKb):=L4.of fun _ _ F=>ZMz F T
 have DSg:DefOk l.prog w K mg base 1 "is_sign" ["sign"] (ZGv):=L5.of fun _ _ F=>ZLh F
 have DIk:DefOk l.prog w K mg base 6 "is_key" ["thing"] (ZFy):=L1.of fun _ _ F=>ZKJ F T (ZHF T L3 DN DSg 4)
 have DC:DefOk l.prog w K mg base 7 "checked" ["thing"] (ZMr):=L2.of fun _ _ F=>ZHM F DIk
 have DSt:DefOk l.prog w K mg base 6 "standing" ["key"] (ZMp 5):=ZCx T L7 5
 have DAh:DefOk l.prog w K mg base 7 "ahead" ["one","other"] (ZCH):=L6.of fun _ _ F=>ZKM F DSt
 have DRi:DefOk l.prog w K mg base 8 "rise" ["keys"] (ZGL):=L10.of fun _ _ F=>ZMT F T DAh
 have DOw:DefOk l.prog w K mg base 8 "own_rows" ["rows"] (ZDY):=L9.of fun _ _ F=>ZHY F DC
 have DCr:DefOk l.prog w K mg base 9 "checked_rows" ["rows"] (ZE0):=L8.of fun _ _ F=>ZIw F T DOw DRi
 have DLR:DefOk l.prog w K mg base 1 "label_of_rows" ["rows"] (ZDk):=L11.of fun _ _ F=>ZHi F T
 have MPl:MethOk l.prog w K mg base CX0 10 CSh "put_leaf" ["self","rows"] (ZDJ CSh CTw):=Mm1.of fun _ _ F=>ZHS F SHx DCr DLR MPt
 have DSi:DefOk l.prog w K mg base 8 "stand_side_by_side" ["label","following"] (ZIg):=L13.of fun _ _ F=>ZLV F T DAh
 have DOv:DefD l.prog w K mg base 9 "label_over" ["labels"] (ZHt CS):=by obtain ⟨f,fd,F,b,m⟩:=(L12).ex;exact ⟨f,fd,ZKa F kb T XSx DSi,b,F.kp,m⟩
 have MPs:∀ gt,MethOk l.prog w K mg base (CXd l.prog w) 10 CSh "put_stem" ["self","numbers"] (ZBa gt CSh CTw CS CT CH):=fun gt=>Mm2.of fun _ _ F=>ZHZ F T SHx MLs DOv MCh MPt MTk
 have DLe:DefOk l.prog w K mg base 7 "_law_less" ["_law_one","_law_other"] (ZCH):=L18.of fun _ _ F=>ZMi F (ZGq T L17 5)
 have DAl:DefOk l.prog w K mg base 7 "_law_alike" ["_law_found","_law_due"] (ZCJ 6):=ZFK T L19 6
 have DGr:DefOk l.prog w K mg base 2 "_law_grid" ["_law_well_here"] (ZJc):=L20.of fun _ _ F=>ZL8 F T DP
 have DLr:DefOk l.prog w K mg base 2 "_law_leaf_rows" ["_law_well_here","_law_grid_here","_law_block"] (ZCn):=L21.of fun _ _ F=>ZFs F T DP
 have DRo:∀ gt,DefOk l.prog w K mg base 1 "_law_rows_of" ["_law_twigs","_law_number"] (ZEY gt):=fun gt=>L22.of fun _ _ F=>ZIp F T Tr
 have DLL:∀ gt,DefOk l.prog w K mg base 2 "_law_label" ["_law_twigs","_law_number"] (ZCZ gt):=fun gt=>L23.of fun _ _ F=>ZJB F T (DRo gt)
 have DAb:∀ gt,DefOk l.prog w K mg base 1 "_law_above" ["_law_twigs","_law_number"] (ZEh gt):=fun gt=>L24.of fun _ _ F=>ZKH F T
 have DSh:∀ gt,DefOk l.prog w K mg base 2 "_law_shared" ["_law_twigs","_law_holds","_law_number"] (ZEv gt):=fun gt=>L25.of fun _ _ F=>ZIj F T (DAb gt)
 have DCo:DefOk l.prog w K mg base 1 "_law_count" ["_law_found","_law_due"] (ZFt):=L26.of fun _ _ F=>ZKF F T
 have DPk:DefOk l.prog w K mg base 2 "_law_picked" ["_law_well_here","_law_some"] (ZCU):=L31.of fun _ _ F=>ZHn F T DP
 have DUn:DefOk l.prog w K mg base 1 "_law_unheld" ["_law_holds","_law_numbers"] (ZC8):=L30.of fun _ _ F=>ZI1 F T
 have DWr:∀ gt,DefOk l.prog w K mg base 8 "_law_wrong" ["_law_twigs","_law_numbers","_law_high"] (ZEj gt):=fun gt=>L29.of fun _ _ F=>ZKn F T (DLL gt) DLe
 have DRn:∀ gt,DefOk l.prog w K mg base 4 "_law_run" ["_law_well_here","_law_twigs","_law_holds","_law_grid_here"] (ZJw gt):=fun gt=>L32.of fun _ _ F=>ZNQ F T DP DPk (DLL gt)
 have DQ:DefOk l.prog w K mg base 13 "_law_asked" ["_law_call"] (ZDg l.prog w K mg base CB (fun i=>[CK,CL,CS,CT,CH,CD].getD i 0)):=L28.of fun _ _ F=>ZKK F T NMx
 have DEx:DefOk l.prog w K mg base 8 "_law_exact" ["_law_shelf","_law_twigs","_law_holds"] (exG fun gt=>ZEU gt CSh CTw):=L27.of fun _ _ F=>okG fun gt=>ZJ8 F T SHx MNu MMa MLo MLa MOu MHo (MAl gt) MFo DAl DCo (DLL gt) (DAb gt) (DSh gt)
 have DPL:DefOk l.prog w K mg base 11 "_law_put_leaf" ["_law_well_here","_law_state","_law_block"] (exG fun gt=>ZCq gt CSh CTw):=L33.of fun _ _ F=>okG fun gt=>ZGR F T SHx DLr MPl
 have DBe:DefOk l.prog w K mg base 12 "_law_begun" ["_law_well_here","_law_leaves","_law_stems"] (ZFk CSh CTw):=L35.of fun _ _ F=>ZJ1 F T SHx DMS DGr DPL
 have DPS:DefOk l.prog w K mg base 14 "_law_put_stem" ["_law_well_here","_law_state"] (exG fun gt=>ZCt gt CSh CTw tb0):=⟨f34,_,okG (fun gt=>ZF8 (C:=fun i=>[CK,CL,CS,CT,CH,CD].getD i 0) (ZBZ (st:=ZAt) l34 c34 k34) a34 hta hC hB T SHx X2 X3 X4 (ZH7 wCT) (ZH7 wCH) (MPs gt) DQ (DRn gt) DP DPk (DWr gt) DUn DAl),(ZBZ (st:=ZAt) l34 c34 k34).binds fun _ _ _ _ _ _ us hl=>match us,hl with | [_,_],_=>rfl,k34,PySem.W.mg_of X G a34⟩
 exact ZNn (ZBZ (st:=ZKG) l36 c36 k36) T DW DBe DPS DEx
theorem tab_some {o:Option (Addr×Addr)} {x:Addr×Addr} (h:o=some x):o.isSome=true:=by rw [h];rfl
theorem walk {l:PySem.W.OpenLaw} {q:Program} {loose:List Str} {XP:(Str->Option Value)->Heap->Prop} {YP:World->Heap->Prop} {d:DefRec} {K:Params->PySem.W.Frag} (hn:l.most=some 63) (hdf:d.params.defaults=[])
  (hY:∀ (w:World) (h:Heap),YP w h->(K w.params).In h) (hrec:((recsOf q).find? (fun e=>e.name==(("_law_put_stem" : String):Str))).isSome=true) (htab:∀ w:World,(PySem.W.tabIn (K w.params) "_law_put_stem").isSome=true) (hnt:∀ w:World,PySem.W.noTabs (K w.params)=true)
  (F:∀ (w:World) (mg:Str->Option Value) (fa:Addr) (h:Heap) (c T:Addr),(K w.params).In h->h.Ns mainGlobals mg->mg d.name=some (.ref fa)->PySem.W.tabIn (K w.params) "_law_put_stem" = some (c,T) ->
   ∃ fd:FuncData,(∀ (s:Shared) (u:Value),BindsTo s fd ⟨[u],[]⟩ [("_law_script",u)])∧∀ base:Heap,(K w.params).In base->base.Ns mainGlobals mg->PySem.W.CodeHd base c T->base.BuiltinsAt mg T->FnOk l.prog w (K w.params) mg base CX0 30 fa fd ["_law_script"] (ZGZ T (K w.params))) :
  PySem.W.WalkO q loose XP YP l.row.toRowW d [] (fun f vs=>PySem.call f vs):=
 L2.walk_ofT (n:=63) (k:=30) (x:= "_law_script") (px:= "_law_put_stem") (sp:=fun T K=>ZGZ T K) hn (by decide) hdf ⟨rfl,by decide,by decide⟩ hY (Option.some_get hrec).symm (fun w=>⟨_,_,((Option.some_get (htab w)).symm.trans (by rfl))⟩) hnt F (fun _ _ _ a ns hl hT hS=>⟨a,ns,rfl,hS,hl,hT,fun _=>rfl⟩)
end Tw
open PySem PySem.W PyProof.Rows
namespace PySem.W.Fast
def tw10039458402850593096:Nat:=0
def tw10118891046227443936:Nat:=0
def tw10128137439893023988:Nat:=0
def tw10175483272519615542:Nat:=0
def tw10216098663083948713:Nat:=0
def tw10283991516343293907:Nat:=0
def tw10301352410502903486:Nat:=0
def tw10326146550339571064:Nat:=0
def tw10500967772303574366:Nat:=0
def tw10581497922972397269:Nat:=0
def tw10764825752904396295:Nat:=0
def tw10765344298922266007:Nat:=0
def tw10788595400131979766:Nat:=0
def tw10799945037791435229:Nat:=0
def tw10916644302303427022:Nat:=0
def tw10989199256525022787:Nat:=0
def tw11011256797398964445:Nat:=0
def tw11074477543862206115:Nat:=0
def tw11189371492642961131:Nat:=0
def tw11278936698714454314:Nat:=0
def tw11306174911538029432:Nat:=0
def tw1140424826044039253:Nat:=0
def tw11422260768732884919:Nat:=0
def tw11461441015699558754:Nat:=0
def tw1154212808327561916:Nat:=0
def tw11542700457255288641:Nat:=0
def tw11565172778732820491:Nat:=0
def tw11570146003341496623:Nat:=0
def tw1158201679407753270:Nat:=0
def tw11585446258042108224:Nat:=0
def tw11635687202335419598:Nat:=0
def tw11677118769700873306:Nat:=0
def tw11694674730258696189:Nat:=0
def tw11716419463779478975:Nat:=0
def tw11870418077391320548:Nat:=0
def tw11931378888406384882:Nat:=0
def tw11971016571645421128:Nat:=0
def tw12012788179118514543:Nat:=0
def tw12014447798130147159:Nat:=0
def tw12016134760614978856:Nat:=0
def tw12036139724829977250:Nat:=0
def tw12076856104684162929:Nat:=0
def tw12127518459208328788:Nat:=0
def tw12256470559749608639:Nat:=0
def tw12285267906427675731:Nat:=0
def tw12298563914538098367:Nat:=0
def tw12315678267894380026:Nat:=0
def tw12347457661254504194:Nat:=0
def tw12353251418414444480:Nat:=0
def tw12367850445116164741:Nat:=0
def tw12380602789633825177:Nat:=0
def tw12386913475995470460:Nat:=0
def tw12408271235477654269:Nat:=0
def tw12410055119929146442:Nat:=0
def tw12426297318201578309:Nat:=0
def tw12436900665046675288:Nat:=0
def tw12442330518409778533:Nat:=0
def tw12534237584697894279:Nat:=0
def tw12569908945382777341:Nat:=0
def tw12591009051513775186:Nat:=0
def tw12611658299342725079:Nat:=0
def tw12703432810968740209:Nat:=0
def tw12717170925193279972:Nat:=0
def tw12728140531084324939:Nat:=0
def tw1277489666220790479:Nat:=0
def tw12794138095875404340:Nat:=0
def tw12840084605523570284:Nat:=0
def tw12841629193361598303:Nat:=0
def tw12842693470356944692:Nat:=0
def tw12878845643736052412:Nat:=0
def tw12904037507333848982:Nat:=0
def tw12909926246936879747:Nat:=0
def tw12983863447601979223:Nat:=0
def tw13055210290766385770:Nat:=0
def tw1308111663457071040:Nat:=0
def tw13174925210763180736:Nat:=0
def tw13290350039852097663:Nat:=0
def tw13328798620087006211:Nat:=0
def tw1336593905723576562:Nat:=0
def tw13402438696653792090:Nat:=0
def tw13442460881162785950:Nat:=0
def tw13532902741095307187:Nat:=0
def tw13582975012479742017:Nat:=0
def tw13600905119800819420:Nat:=0
def tw13604239049171780618:Nat:=0
def tw1364921023731110048:Nat:=0
def tw1374190980153033169:Nat:=0
def tw13808791680648845434:Nat:=0
def tw13823971887221295846:Nat:=0
def tw13881138410889702074:Nat:=0
def tw13892988322461156981:Nat:=0
def tw13899917839218241409:Nat:=0
def tw13926443974750149307:Nat:=0
def tw14013992593380963460:Nat:=0
def tw14123339602100728613:Nat:=0
def tw14285019129847175318:Nat:=0
def tw14418320177379283711:Nat:=0
def tw14467372455119259190:Nat:=0
def tw14478718784054069805:Nat:=0
def tw14507644598682574402:Nat:=0
def tw14526954023046657430:Nat:=0
def tw14532707572649829199:Nat:=0
def tw14652888990130961553:Nat:=0
def tw14665083916459427261:Nat:=0
def tw1475389766561978212:Nat:=0
def tw14792728807159520009:Nat:=0
def tw14801015004161745531:Nat:=0
def tw14802027360790856017:Nat:=0
def tw14820132733716447743:Nat:=0
def tw14892110855130808777:Nat:=0
def tw14895722967049161307:Nat:=0
def tw14899635240455823324:Nat:=0
def tw14911356500924781371:Nat:=0
def tw14959985319228384267:Nat:=0
def tw15011239314401880929:Nat:=0
def tw15040610780841604232:Nat:=0
def tw15101515364755355641:Nat:=0
def tw15124931129388313783:Nat:=0
def tw15125130872703761282:Nat:=0
def tw1514576187111434867:Nat:=0
def tw15242475174338547656:Nat:=0
def tw15297443452430189434:Nat:=0
def tw15379647652575004532:Nat:=0
def tw15537606520682113735:Nat:=0
def tw15543981932694705255:Nat:=0
def tw15582064325739657265:Nat:=0
def tw15586018066345667950:Nat:=0
def tw15602320380094962712:Nat:=0
def tw15696978356623973091:Nat:=0
def tw15811637273498314693:Nat:=0
def tw15818107734647803804:Nat:=0
def tw15836083524941254025:Nat:=0
def tw15848767054633148066:Nat:=0
def tw15908022833702289998:Nat:=0
def tw16012929840174227014:Nat:=0
def tw16075553235798524759:Nat:=0
def tw16158745630681665369:Nat:=0
def tw16163837306951693822:Nat:=0
def tw16207442907032187682:Nat:=0
def tw16283593284028023098:Nat:=0
def tw16324659414349192141:Nat:=0
def tw16333376319432080106:Nat:=0
def tw16367589988422722378:Nat:=0
def tw16389285089534628465:Nat:=0
def tw16574680127301993136:Nat:=0
def tw16582633099959442304:Nat:=0
def tw16599664077149220620:Nat:=0
def tw16674079764958013645:Nat:=0
def tw16681141465688022906:Nat:=0
def tw16702554629279196233:Nat:=0
def tw16730184688856829167:Nat:=0
def tw16730381762958907651:Nat:=0
def tw16740693744247388118:Nat:=0
def tw16771471003124381030:Nat:=0
def tw16773338426854657909:Nat:=0
def tw17106462920929496073:Nat:=0
def tw17107275326740999250:Nat:=0
def tw17111553521289441125:Nat:=0
def tw1721460552251850675:Nat:=0
def tw17278235988699421849:Nat:=0
def tw17346250553839821784:Nat:=0
def tw17475042012739124407:Nat:=0
def tw17636342340760667468:Nat:=0
def tw17676471063543074537:Nat:=0
def tw17710224672096165110:Nat:=0
def tw17731092292782262126:Nat:=0
def tw17737201885811547892:Nat:=0
def tw17746784143898340717:Nat:=0
def tw17753502518566366815:Nat:=0
def tw17769531979096035112:Nat:=0
def tw17850471963627982627:Nat:=0
def tw1793364742322812524:Nat:=0
def tw17956332897223009440:Nat:=0
def tw18038177798667588373:Nat:=0
def tw18039614028527570683:Nat:=0
def tw18081030515887994230:Nat:=0
def tw18106668752291652626:Nat:=0
def tw1813391779450080458:Nat:=0
def tw18180624199308240104:Nat:=0
def tw18185320271889593303:Nat:=0
def tw18193449010404849718:Nat:=0
def tw18258820246037683861:Nat:=0
def tw18286093525494584680:Nat:=0
def tw18302909859025445451:Nat:=0
def tw18376122443435650359:Nat:=0
def tw18413305755272826661:Nat:=0
def tw1850123602243486048:Nat:=0
def tw1866122886019702583:Nat:=0
def tw1897909653545344780:Nat:=0
def tw1917068051298369084:Nat:=0
def tw1984580793220696983:Nat:=0
def tw201023855081111385:Nat:=0
def tw2029358328048355805:Nat:=0
def tw2034196730545399219:Nat:=0
def tw2051074797534479958:Nat:=0
def tw20575975324453679:Nat:=0
def tw2086608821238722872:Nat:=0
def tw2178476964891529836:Nat:=0
def tw2231516140284473669:Nat:=0
def tw2375963239549264381:Nat:=0
def tw2394363263537051231:Nat:=0
def tw2407672230837666919:Nat:=0
def tw2432571020160274056:Nat:=0
def tw2434872430347039141:Nat:=0
def tw254173803155320949:Nat:=0
def tw2553978424789125419:Nat:=0
def tw2557165897752204642:Nat:=0
def tw2623198674810959530:Nat:=0
def tw264038870541710059:Nat:=0
def tw2703768501648648171:Nat:=0
def tw2735183805008096754:Nat:=0
def tw2768565343804330731:Nat:=0
def tw2869176802827640364:Nat:=0
def tw3009649469178087307:Nat:=0
def tw3034213188241839594:Nat:=0
def tw3079869490304360313:Nat:=0
def tw3138584091891782353:Nat:=0
def tw3199086323997681193:Nat:=0
def tw3199255853712787041:Nat:=0
def tw3266948085150840583:Nat:=0
def tw3276967431337144339:Nat:=0
def tw3289719962247810126:Nat:=0
def tw3308020693902346452:Nat:=0
def tw3319626543321975368:Nat:=0
def tw3368368216436103475:Nat:=0
def tw3386062855526638019:Nat:=0
def tw3439507603982930430:Nat:=0
def tw3465671373879256951:Nat:=0
def tw3473751882179707184:Nat:=0
def tw3476943557801429389:Nat:=0
def tw3483091386114979677:Nat:=0
def tw3518548124140597527:Nat:=0
def tw3534524342344756149:Nat:=0
def tw3674097814897261952:Nat:=0
def tw3747442105355783714:Nat:=0
def tw3774856675414911576:Nat:=0
def tw3776013860709154262:Nat:=0
def tw382647833654890243:Nat:=0
def tw3899426026842640913:Nat:=0
def tw3928800707412960683:Nat:=0
def tw3954849731801214059:Nat:=0
def tw4038474237102338784:Nat:=0
def tw4065613142994971935:Nat:=0
def tw4133513992723544650:Nat:=0
def tw4156646903613258683:Nat:=0
def tw4222597264756580238:Nat:=0
def tw4234099006349158399:Nat:=0
def tw4257035027050110369:Nat:=0
def tw4320866853855672641:Nat:=0
def tw4361855350059608501:Nat:=0
def tw4430777255604390939:Nat:=0
def tw4477895506381804170:Nat:=0
def tw4560671837516220128:Nat:=0
def tw4599801961351998732:Nat:=0
def tw4607509154198320097:Nat:=0
def tw4623382499827580929:Nat:=0
def tw4653429467788248731:Nat:=0
def tw4676388598217834354:Nat:=0
def tw4736568239647023166:Nat:=0
def tw4748208694910223696:Nat:=0
def tw4761201027375699632:Nat:=0
def tw4779896735497647863:Nat:=0
def tw480297216454731205:Nat:=0
def tw4803716356804843976:Nat:=0
def tw4811673493713868842:Nat:=0
def tw4863973465328093129:Nat:=0
def tw4938432236162682243:Nat:=0
def tw4940659367069565:Nat:=0
def tw504391712741392983:Nat:=0
def tw5076122291123306990:Nat:=0
def tw5088478978551868260:Nat:=0
def tw5276991906650113231:Nat:=0
def tw5302213816614794395:Nat:=0
def tw5356420534786347315:Nat:=0
def tw53749355694930944:Nat:=0
def tw5431454919686670140:Nat:=0
def tw5437392006704952842:Nat:=0
def tw5441733946794522191:Nat:=0
def tw5477585959322048743:Nat:=0
def tw5499007540996388708:Nat:=0
def tw5524995866430197634:Nat:=0
def tw5547860914047079906:Nat:=0
def tw5566513986729774901:Nat:=0
def tw559661960151302654:Nat:=0
def tw563651787812539581:Nat:=0
def tw5689429474146759855:Nat:=0
def tw5718887139356254836:Nat:=0
def tw5740235038788628933:Nat:=0
def tw5742639492705310699:Nat:=0
def tw5791670698353406393:Nat:=0
def tw5836966289647873450:Nat:=0
def tw5838673057255678375:Nat:=0
def tw5855726638151778004:Nat:=0
def tw5863851271064219553:Nat:=0
def tw5952484971362300585:Nat:=0
def tw5988017483177849188:Nat:=0
def tw6002467507491402150:Nat:=0
def tw6069383071532847492:Nat:=0
def tw6084257965944497954:Nat:=0
def tw6085029995892887676:Nat:=0
def tw6088954058945557802:Nat:=0
def tw6114202289194086799:Nat:=0
def tw6160643841068515317:Nat:=0
def tw6168015624174410887:Nat:=0
def tw6242262553266861597:Nat:=0
def tw6255339588414475435:Nat:=0
def tw6387676840507790191:Nat:=0
def tw6430925409564901244:Nat:=0
def tw6515547927161929073:Nat:=0
def tw6524019580053170021:Nat:=0
def tw6570569466227156911:Nat:=0
def tw6571023800051220052:Nat:=0
def tw6662837654662170671:Nat:=0
def tw6753678032589786004:Nat:=0
def tw6754343761175745801:Nat:=0
def tw6793917858754182646:Nat:=0
def tw6803374338898514598:Nat:=0
def tw6818488261411402573:Nat:=0
def tw6898364387854678848:Nat:=0
def tw6950343135899070918:Nat:=0
def tw6969943288689504836:Nat:=0
def tw6970916483099320689:Nat:=0
def tw7127869965539856204:Nat:=0
def tw712885858875533211:Nat:=0
def tw7141324310177756871:Nat:=0
def tw7211854253526900984:Nat:=0
def tw7221441671687888664:Nat:=0
def tw7242652103460429811:Nat:=0
def tw7253661517811135980:Nat:=0
def tw7438623384914136653:Nat:=0
def tw7449085308658832946:Nat:=0
def tw745798668431881981:Nat:=0
def tw7602885667952647026:Nat:=0
def tw7635989218628370512:Nat:=0
def tw7655577861608576437:Nat:=0
def tw7672760811225471660:Nat:=0
def tw7718440634090600189:Nat:=0
def tw7755425246468599118:Nat:=0
def tw7831289539866126732:Nat:=0
def tw7835503744415927012:Nat:=0
def tw783667322885415691:Nat:=0
def tw783808191103520781:Nat:=0
def tw7838176185480966014:Nat:=0
def tw7881149103742902618:Nat:=0
def tw7898086605574246420:Nat:=0
def tw7949932168412379667:Nat:=0
def tw7952124795634117896:Nat:=0
def tw8037831745486205177:Nat:=0
def tw8046697564294683684:Nat:=0
def tw806404776934288021:Nat:=0
def tw8117445364737777038:Nat:=0
def tw8137889621327995272:Nat:=0
def tw8147236827295517220:Nat:=0
def tw8182057940532241919:Nat:=0
def tw8311738893452824343:Nat:=0
def tw8401437686488170915:Nat:=0
def tw8471698869268567784:Nat:=0
def tw8473759718045463507:Nat:=0
def tw8497188663809020834:Nat:=0
def tw8508671333046550433:Nat:=0
def tw852096838033379569:Nat:=0
def tw8572439310876825026:Nat:=0
def tw860421891562488866:Nat:=0
def tw8630874555384465869:Nat:=0
def tw864997552844276700:Nat:=0
def tw8673467520590036359:Nat:=0
def tw8728794658660477762:Nat:=0
def tw8758577806498545218:Nat:=0
def tw8769092886806087376:Nat:=0
def tw8814113902658950606:Nat:=0
def tw8847736691368873914:Nat:=0
def tw8854743781369004575:Nat:=0
def tw8880503530043739636:Nat:=0
def tw8900831835208053538:Nat:=0
def tw8901984134889997464:Nat:=0
def tw8920404402290710118:Nat:=0
def tw8989842827883747694:Nat:=0
def tw8998634138082242417:Nat:=0
def tw9006384508019339625:Nat:=0
def tw9020612439671559077:Nat:=0
def tw9049752805823221301:Nat:=0
def tw9072780490814968285:Nat:=0
def tw9088966628151503133:Nat:=0
def tw9239012520920083804:Nat:=0
def tw9277140328146683018:Nat:=0
def tw9379504260137867363:Nat:=0
def tw9391963449122796050:Nat:=0
def tw9402133903372869808:Nat:=0
def tw9454850060055242044:Nat:=0
def tw9605501479666549570:Nat:=0
def tw9693239989041269888:Nat:=0
def tw9714253048908672923:Nat:=0
def tw9770282425556775785:Nat:=0
def tw9785534619548611407:Nat:=0
def tw9792313659799363570:Nat:=0
def tw9846843811906650421:Nat:=0
def tw9847251168281863802:Nat:=0
def tw9907247995673369003:Nat:=0
def tw9962092241735114668:Nat:=0
def tw9979448934025385175:Nat:=0
end PySem.W.Fast
set_option maxRecDepth 100000 in
set_option maxHeartbeats 0 in
theorem PySem.Challenge.cw_twigmap_k22_stems_put_holds : PySem.Challenge.rw_twigmap_k22_stems_put.Holds := by
 w_on;o_law;k_head;(case hw=>w_witness2)
 k_fill
 refine Tw.walk (l:=PySem.Challenge.rw_twigmap_k22_stems_put) rfl rfl (fun w h Y=>PySem.W.km_in_of Y) ?qRec ?qTab ?qNot ?qFun
 case qRec=>first | kernel_rfl | exact rfl
 case qTab=>
  intro w
  first | kernel_rfl | exact Tw.tab_some (Tw.tab_mk (by k_is) (by k_is) rfl (by k_is) rfl)
 case qNot=>intro w;kernel_rfl
 case qFun=>
  intro w mg fa h cb tb KX G hmg hta
  refine' Tw.all_mk KX G hmg hta (Tw.laid_mk KX G ?a1 ?l1 ?c1 ?k1 fun _ _ _ _ _ _ us hl=>match us,hl with | [_],_=>rfl) (Tw.laid_mk KX G ?a2 ?l2 ?c2 ?k2 fun _ _ _ _ _ _ us hl=>match us,hl with | [_],_=>rfl) (Tw.laid_mk KX G ?a3 ?l3 ?c3 ?k3 fun _ _ _ _ _ _ us hl=>match us,hl with | [_,_],_=>rfl) (Tw.laid_mk KX G ?a4 ?l4 ?c4 ?k4 fun _ _ _ _ _ _ us hl=>match us,hl with | [_],_=>rfl) (Tw.laid_mk KX G ?a5 ?l5 ?c5 ?k5 fun _ _ _ _ _ _ us hl=>match us,hl with | [_],_=>rfl) (Tw.laid_mk KX G ?a6 ?l6 ?c6 ?k6 fun _ _ _ _ _ _ us hl=>match us,hl with | [_,_],_=>rfl) (Tw.laid_mk KX G ?a7 ?l7 ?c7 ?k7 fun _ _ _ _ _ _ us hl=>match us,hl with | [_],_=>rfl) (Tw.laid_mk KX G ?a8 ?l8 ?c8 ?k8 fun _ _ _ _ _ _ us hl=>match us,hl with | [_],_=>rfl) (Tw.laid_mk KX G ?a9 ?l9 ?c9 ?k9 fun _ _ _ _ _ _ us hl=>match us,hl with | [_],_=>rfl) (Tw.laid_mk KX G ?a10 ?l10 ?c10 ?k10 fun _ _ _ _ _ _ us hl=>match us,hl with | [_],_=>rfl) (Tw.laid_mk KX G ?a11 ?l11 ?c11 ?k11 fun _ _ _ _ _ _ us hl=>match us,hl with | [_],_=>rfl) (Tw.laid_mk KX G ?a12 ?l12 ?c12 ?k12 fun _ _ _ _ _ _ us hl=>match us,hl with | [_],_=>rfl) (Tw.laid_mk KX G ?a13 ?l13 ?c13 ?k13 fun _ _ _ _ _ _ us hl=>match us,hl with | [_,_],_=>rfl) (Tw.laid_mk KX G ?a14 ?l14 ?c14 ?k14 fun _ _ _ _ _ _ us hl=>match us,hl with | [_],_=>rfl) (Tw.laid_mk KX G ?a15 ?l15 ?c15 ?k15 fun _ _ _ _ _ _ us hl=>match us,hl with | [_,_],_=>rfl) (Tw.laid_mk KX G ?a16 ?l16 ?c16 ?k16 fun _ _ _ _ _ _ us hl=>match us,hl with | [_,_],_=>rfl) (Tw.laid_mk KX G ?a17 ?l17 ?c17 ?k17 fun _ _ _ _ _ _ us hl=>match us,hl with | [_],_=>rfl) (Tw.laid_mk KX G ?a18 ?l18 ?c18 ?k18 fun _ _ _ _ _ _ us hl=>match us,hl with | [_,_],_=>rfl) (Tw.laid_mk KX G ?a19 ?l19 ?c19 ?k19 fun _ _ _ _ _ _ us hl=>match us,hl with | [_,_],_=>rfl) (Tw.laid_mk KX G ?a20 ?l20 ?c20 ?k20 fun _ _ _ _ _ _ us hl=>match us,hl with | [_],_=>rfl) (Tw.laid_mk KX G ?a21 ?l21 ?c21 ?k21 fun _ _ _ _ _ _ us hl=>match us,hl with | [_,_,_],_=>rfl) (Tw.laid_mk KX G ?a22 ?l22 ?c22 ?k22 fun _ _ _ _ _ _ us hl=>match us,hl with | [_,_],_=>rfl) (Tw.laid_mk KX G ?a23 ?l23 ?c23 ?k23 fun _ _ _ _ _ _ us hl=>match us,hl with | [_,_],_=>rfl) (Tw.laid_mk KX G ?a24 ?l24 ?c24 ?k24 fun _ _ _ _ _ _ us hl=>match us,hl with | [_,_],_=>rfl) (Tw.laid_mk KX G ?a25 ?l25 ?c25 ?k25 fun _ _ _ _ _ _ us hl=>match us,hl with | [_,_,_],_=>rfl) (Tw.laid_mk KX G ?a26 ?l26 ?c26 ?k26 fun _ _ _ _ _ _ us hl=>match us,hl with | [_,_],_=>rfl) (Tw.laid_mk KX G ?a27 ?l27 ?c27 ?k27 fun _ _ _ _ _ _ us hl=>match us,hl with | [_,_,_],_=>rfl) (Tw.laid_mk KX G ?a28 ?l28 ?c28 ?k28 fun _ _ _ _ _ _ us hl=>match us,hl with | [_],_=>rfl) (Tw.laid_mk KX G ?a29 ?l29 ?c29 ?k29 fun _ _ _ _ _ _ us hl=>match us,hl with | [_,_,_],_=>rfl) (Tw.laid_mk KX G ?a30 ?l30 ?c30 ?k30 fun _ _ _ _ _ _ us hl=>match us,hl with | [_,_],_=>rfl) (Tw.laid_mk KX G ?a31 ?l31 ?c31 ?k31 fun _ _ _ _ _ _ us hl=>match us,hl with | [_,_],_=>rfl) (Tw.laid_mk KX G ?a32 ?l32 ?c32 ?k32 fun _ _ _ _ _ _ us hl=>match us,hl with | [_,_,_,_],_=>rfl) (Tw.laid_mk KX G ?a33 ?l33 ?c33 ?k33 fun _ _ _ _ _ _ us hl=>match us,hl with | [_,_,_],_=>rfl) ?a34 ?l34 ?c34 ?k34 (Tw.laid_mk KX G ?a35 ?l35 ?c35 ?k35 fun _ _ _ _ _ _ us hl=>match us,hl with | [_,_,_],_=>rfl) ?a36 ?l36 ?c36 ?k36 ?z1 ?z2 ?z3 ?z4 ?z5 ?z6 ?z7 ?z8 ?z9 ?z10 ?z11 ?z12 ?z13 ?z14 ?z15 ?z16 ?m1_ ?m2_ ?m3_ ?m4_ ?m5_ ?m6_ ?m7_ ?m8_ ?m9_ ?m10_ (Tw.laidI_mk ?vjS ?iljS ?fnjS ?icjS ?ikjS fun _ _ _ _ _ _ us hl=>match us,hl with | [_],_=>rfl) (Tw.laidI_mk ?vjT ?iljT ?fnjT ?icjT ?ikjT fun _ _ _ _ _ _ us hl=>match us,hl with | [_,_,_],_=>rfl) ?iljN ?icjN ?ikjN ?iljH ?icjH ?ikjH ?iljD ?icjD ?ikjD (Tw.laidM_mk ?vm1 ?ilm1 ?fnm1 ?icm1 ?ikm1 fun _ _ _ _ _ _ us hl=>match us,hl with | [_,_],_=>rfl) (Tw.laidM_mk ?vm2 ?ilm2 ?fnm2 ?icm2 ?ikm2 fun _ _ _ _ _ _ us hl=>match us,hl with | [_,_],_=>rfl) (Tw.laidM_mk ?vm3 ?ilm3 ?fnm3 ?icm3 ?ikm3 fun _ _ _ _ _ _ us hl=>match us,hl with | [_,_,_],_=>rfl) (Tw.laidM_mk ?vm4 ?ilm4 ?fnm4 ?icm4 ?ikm4 fun _ _ _ _ _ _ us hl=>match us,hl with | [_,_],_=>rfl) (Tw.laidM_mk ?vm5 ?ilm5 ?fnm5 ?icm5 ?ikm5 fun _ _ _ _ _ _ us hl=>match us,hl with | [_,_],_=>rfl) (Tw.laidM_mk ?vm6 ?ilm6 ?fnm6 ?icm6 ?ikm6 fun _ _ _ _ _ _ us hl=>match us,hl with | [_,_],_=>rfl) (Tw.laidM_mk ?vm7 ?ilm7 ?fnm7 ?icm7 ?ikm7 fun _ _ _ _ _ _ us hl=>match us,hl with | [_,_],_=>rfl) (Tw.laidM_mk ?vm8 ?ilm8 ?fnm8 ?icm8 ?ikm8 fun _ _ _ _ _ _ us hl=>match us,hl with | [_,_],_=>rfl) (Tw.laidM_mk ?vm9 ?ilm9 ?fnm9 ?icm9 ?ikm9 fun _ _ _ _ _ _ us hl=>match us,hl with | [_],_=>rfl) (Tw.laidM_mk ?vm10 ?ilm10 ?fnm10 ?icm10 ?ikm10 fun _ _ _ _ _ _ us hl=>match us,hl with | [_],_=>rfl) (Tw.laidM_mk ?vm11 ?ilm11 ?fnm11 ?icm11 ?ikm11 fun _ _ _ _ _ _ us hl=>match us,hl with | [_],_=>rfl) (Tw.laidM_mk ?vm12 ?ilm12 ?fnm12 ?icm12 ?ikm12 fun _ _ _ _ _ _ us hl=>match us,hl with | [_,_],_=>rfl) (Tw.laidM_mk ?vm13 ?ilm13 ?fnm13 ?icm13 ?ikm13 fun _ _ _ _ _ _ us hl=>match us,hl with | [_,_],_=>rfl) (Tw.laidM_mk ?vm14 ?ilm14 ?fnm14 ?icm14 ?ikm14 fun _ _ _ _ _ _ us hl=>match us,hl with | [_,_],_=>rfl) (Tw.laidM_mk ?vm15 ?ilm15 ?fnm15 ?icm15 ?ikm15 fun _ _ _ _ _ _ us hl=>match us,hl with | [_,_,_],_=>rfl) (Tw.laidM_mk ?vm16 ?ilm16 ?fnm16 ?icm16 ?ikm16 fun _ _ _ _ _ _ us hl=>match us,hl with | [_,_],_=>rfl) ?xCB ?xCK ?xCL ?xCS ?xCT ?xCH ?xCD ?xCSh ?xCTw ?vjN ?vjH ?vjD ?mkCSh ?kpCSh ?pgCSh ?hdCSh ?poCSh ?saCSh ?mkCTw ?kpCTw ?pgCTw ?hdCTw ?poCTw ?saCTw ?na_kept ?na_following ?na_looks ?na_things ?na_tag ?na_above ?na_holds ?tyB ?mB ?kitx ?wCT ?tyCT ?wCH ?tyCH ?wCD ?tyCD ?sbCS ?sbCT ?sbCH ?exCS ?kpCS ?mBCS ?tyCS ?mBCD ?slCD
  (case xCB=>k_is)
  (case xCK=>k_is)
  (case xCL=>k_is)
  (case xCS=>k_is)
  (case xCT=>k_is)
  (case xCH=>k_is)
  (case xCD=>k_is)
  (case xCSh=>k_is)
  (case xCTw=>k_is)
  (case vjS=>k_is)
  (case vjT=>k_is)
  (case vjN=>k_is)
  (case vjH=>k_is)
  (case vjD=>k_is)
  (case vm1=>k_is)
  (case vm2=>k_is)
  (case vm3=>k_is)
  (case vm4=>k_is)
  (case vm5=>k_is)
  (case vm6=>k_is)
  (case vm7=>k_is)
  (case vm8=>k_is)
  (case vm9=>k_is)
  (case vm10=>k_is)
  (case vm11=>k_is)
  (case vm12=>k_is)
  (case vm13=>k_is)
  (case vm14=>k_is)
  (case vm15=>k_is)
  (case vm16=>k_is)
  (case a1=>k_is)
  (case l1=>k_is)
  (case c1=>k_is)
  (case k1=>k_is)
  (case a2=>k_is)
  (case l2=>k_is)
  (case c2=>k_is)
  (case k2=>k_is)
  (case a3=>k_is)
  (case l3=>k_is)
  (case c3=>k_is)
  (case k3=>k_is)
  (case a4=>k_is)
  (case l4=>k_is)
  (case c4=>k_is)
  (case k4=>k_is)
  (case a5=>k_is)
  (case l5=>k_is)
  (case c5=>k_is)
  (case k5=>k_is)
  (case a6=>k_is)
  (case l6=>k_is)
  (case c6=>k_is)
  (case k6=>k_is)
  (case a7=>k_is)
  (case l7=>k_is)
  (case c7=>k_is)
  (case k7=>k_is)
  (case a8=>k_is)
  (case l8=>k_is)
  (case c8=>k_is)
  (case k8=>k_is)
  (case a9=>k_is)
  (case l9=>k_is)
  (case c9=>k_is)
  (case k9=>k_is)
  (case a10=>k_is)
  (case l10=>k_is)
  (case c10=>k_is)
  (case k10=>k_is)
  (case a11=>k_is)
  (case l11=>k_is)
  (case c11=>k_is)
  (case k11=>k_is)
  (case a12=>k_is)
  (case l12=>k_is)
  (case c12=>k_is)
  (case k12=>k_is)
  (case a13=>k_is)
  (case l13=>k_is)
  (case c13=>k_is)
  (case k13=>k_is)
  (case a14=>k_is)
  (case l14=>k_is)
  (case c14=>k_is)
  (case k14=>k_is)
  (case a15=>k_is)
  (case l15=>k_is)
  (case c15=>k_is)
  (case k15=>k_is)
  (case a16=>k_is)
  (case l16=>k_is)
  (case c16=>k_is)
  (case k16=>k_is)
  (case a17=>k_is)
  (case l17=>k_is)
  (case c17=>k_is)
  (case k17=>k_is)
  (case a18=>k_is)
  (case l18=>k_is)
  (case c18=>k_is)
  (case k18=>k_is)
  (case a19=>k_is)
  (case l19=>k_is)
  (case c19=>k_is)
  (case k19=>k_is)
  (case a20=>k_is)
  (case l20=>k_is)
  (case c20=>k_is)
  (case k20=>k_is)
  (case a21=>k_is)
  (case l21=>k_is)
  (case c21=>k_is)
  (case k21=>k_is)
  (case a22=>k_is)
  (case l22=>k_is)
  (case c22=>k_is)
  (case k22=>k_is)
  (case a23=>k_is)
  (case l23=>k_is)
  (case c23=>k_is)
  (case k23=>k_is)
  (case a24=>k_is)
  (case l24=>k_is)
  (case c24=>k_is)
  (case k24=>k_is)
  (case a25=>k_is)
  (case l25=>k_is)
  (case c25=>k_is)
  (case k25=>k_is)
  (case a26=>k_is)
  (case l26=>k_is)
  (case c26=>k_is)
  (case k26=>k_is)
  (case a27=>k_is)
  (case l27=>k_is)
  (case c27=>k_is)
  (case k27=>k_is)
  (case a28=>k_is)
  (case l28=>k_is)
  (case c28=>k_is)
  (case k28=>k_is)
  (case a29=>k_is)
  (case l29=>k_is)
  (case c29=>k_is)
  (case k29=>k_is)
  (case a30=>k_is)
  (case l30=>k_is)
  (case c30=>k_is)
  (case k30=>k_is)
  (case a31=>k_is)
  (case l31=>k_is)
  (case c31=>k_is)
  (case k31=>k_is)
  (case a32=>k_is)
  (case l32=>k_is)
  (case c32=>k_is)
  (case k32=>k_is)
  (case a33=>k_is)
  (case l33=>k_is)
  (case c33=>k_is)
  (case k33=>k_is)
  (case a34=>k_is)
  (case l34=>k_is)
  (case c34=>k_is)
  (case k34=>k_is)
  (case a35=>k_is)
  (case l35=>k_is)
  (case c35=>k_is)
  (case k35=>k_is)
  (case a36=>k_is)
  (case l36=>k_is)
  (case c36=>k_is)
  (case k36=>k_is)
  (case z1=>k_is)
  (case z2=>k_is)
  (case z3=>k_is)
  (case z4=>k_is)
  (case z5=>k_is)
  (case z6=>k_is)
  (case z7=>k_is)
  (case z8=>k_is)
  (case z9=>k_is)
  (case z10=>k_is)
  (case z11=>k_is)
  (case z12=>k_is)
  (case z13=>k_is)
  (case z14=>k_is)
  (case z15=>k_is)
  (case z16=>k_is)
  (case m1_=>k_is)
  (case m2_=>k_is)
  (case m3_=>k_is)
  (case m4_=>k_is)
  (case m5_=>k_is)
  (case m6_=>k_is)
  (case m7_=>k_is)
  (case m8_=>k_is)
  (case m9_=>k_is)
  (case m10_=>k_is)
  (case iljS=>k_is)
  (case icjS=>k_is)
  (case ikjS=>k_is)
  (case iljT=>k_is)
  (case icjT=>k_is)
  (case ikjT=>k_is)
  (case iljN=>k_is)
  (case icjN=>k_is)
  (case ikjN=>k_is)
  (case iljH=>k_is)
  (case icjH=>k_is)
  (case ikjH=>k_is)
  (case iljD=>k_is)
  (case icjD=>k_is)
  (case ikjD=>k_is)
  (case ilm1=>k_is)
  (case icm1=>k_is)
  (case ikm1=>k_is)
  (case ilm2=>k_is)
  (case icm2=>k_is)
  (case ikm2=>k_is)
  (case ilm3=>k_is)
  (case icm3=>k_is)
  (case ikm3=>k_is)
  (case ilm4=>k_is)
  (case icm4=>k_is)
  (case ikm4=>k_is)
  (case ilm5=>k_is)
  (case icm5=>k_is)
  (case ikm5=>k_is)
  (case ilm6=>k_is)
  (case icm6=>k_is)
  (case ikm6=>k_is)
  (case ilm7=>k_is)
  (case icm7=>k_is)
  (case ikm7=>k_is)
  (case ilm8=>k_is)
  (case icm8=>k_is)
  (case ikm8=>k_is)
  (case ilm9=>k_is)
  (case icm9=>k_is)
  (case ikm9=>k_is)
  (case ilm10=>k_is)
  (case icm10=>k_is)
  (case ikm10=>k_is)
  (case ilm11=>k_is)
  (case icm11=>k_is)
  (case ikm11=>k_is)
  (case ilm12=>k_is)
  (case icm12=>k_is)
  (case ikm12=>k_is)
  (case ilm13=>k_is)
  (case icm13=>k_is)
  (case ikm13=>k_is)
  (case ilm14=>k_is)
  (case icm14=>k_is)
  (case ikm14=>k_is)
  (case ilm15=>k_is)
  (case icm15=>k_is)
  (case ikm15=>k_is)
  (case ilm16=>k_is)
  (case icm16=>k_is)
  (case ikm16=>k_is)
  (case fnjS=>k_is)
  (case fnjT=>k_is)
  (case fnm1=>k_is)
  (case fnm2=>k_is)
  (case fnm3=>k_is)
  (case fnm4=>k_is)
  (case fnm5=>k_is)
  (case fnm6=>k_is)
  (case fnm7=>k_is)
  (case fnm8=>k_is)
  (case fnm9=>k_is)
  (case fnm10=>k_is)
  (case fnm11=>k_is)
  (case fnm12=>k_is)
  (case fnm13=>k_is)
  (case fnm14=>k_is)
  (case fnm15=>k_is)
  (case fnm16=>k_is)
  (case mkCSh=>k_is)
  (case kpCSh=>k_is)
  (case pgCSh=>k_is)
  (case hdCSh=>k_is)
  (case poCSh=>k_is)
  (case saCSh=>k_is)
  (case mkCTw=>k_is)
  (case kpCTw=>k_is)
  (case pgCTw=>k_is)
  (case hdCTw=>k_is)
  (case poCTw=>k_is)
  (case saCTw=>k_is)
  (case na_kept=>k_is)
  (case na_following=>k_is)
  (case na_looks=>k_is)
  (case na_things=>k_is)
  (case na_tag=>k_is)
  (case na_above=>k_is)
  (case na_holds=>k_is)
  (case tyB=>k_is)
  (case mB=>k_is)
  (case kitx=>kernel_rfl)
  (case wCT=>kernel_rfl)
  (case tyCT=>k_is)
  (case wCH=>kernel_rfl)
  (case tyCH=>k_is)
  (case wCD=>kernel_rfl)
  (case tyCD=>k_is)
  (case sbCS=>k_is)
  (case sbCT=>k_is)
  (case sbCH=>k_is)
  (case exCS=>k_exc)
  (case kpCS=>k_is)
  (case mBCS=>k_is)
  (case tyCS=>k_is)
  (case mBCD=>k_is)
  (case slCD=>k_is)
