import PyProof.Rows.All
import Wide.All
import OpenK.AllK
import Wide.FinOn
import Lean
import PyProof.EqAt
import PyProof.EqKinds
import PyProof.TupleCall
import PyProof.NeKinds
import PyProof.TupleKey
import PyProof.DictFindH
import PyProof.NsDelKeeps
import PyProof.ExcBaseAll.ValueError
import KE.KIsAll
import PyProof.ExcArgsOwn
import PyProof.ExcAttrAll.ValueError
import KE.KSortTup
import KE.KDictList
import PyProof.Rows.SortWalk
import KE.KEqDict
import KE.KLam
import KE.KRevIter
import PyProof.InstStoreFacts
import PyProof.ExcClass3
import PySem.Challenge.RW_twigmap_k65_behind_and_turned
set_option Elab.async false
set_option linter.all false
set_option maxRecDepth 100000
/-! THE HAND LAYER, for ints, bools, texts, own classes, LISTS and tuples (index, slices, in, append, pop ..), calls, loops. Paste it whole ahead of your own text; what your proof does not reach may be deleted. -/
namespace L2
open PySem PySem.Spec PyProof.Rows

/-- a key: an int or a str -/
abbrev Key := Sum Int Str
def keyIs : Key → Value → Bool
  | .inl k, v => Value.isInt k v
  | .inr x, v => Value.isStrOf x v
def keyH (w : World) : Key → Int
  | .inl k => hashInt k
  | .inr x => hashStr w x
theorem keyIs_shape : ∀ {k : Key} {v : Value}, keyIs k v = true → (∃ i t, k = Sum.inl i ∧ v = Value.int i t) ∨ (∃ x t, k = Sum.inr x ∧ v = Value.str x t)
  | .inl i, v, h => by
    obtain ⟨t, e⟩ := Value.isInt_shape (k := i) (v := v) h
    exact .inl ⟨i, t, rfl, e⟩
  | .inr x, v, h => by
    obtain ⟨t, e⟩ := Value.isStrOf_shape (x := x) (v := v) h
    exact .inr ⟨x, t, rfl, e⟩
theorem key_ll (a b : Int) : decide ((Sum.inl a : Key) = Sum.inl b) = (a == b) := by
  by_cases e : a = b
  · subst e; simp
  · have h : ¬ (Sum.inl a : Key) = Sum.inl b := fun q => e (Sum.inl.inj q)
    rw [decide_eq_false h]
    exact (beq_eq_false_iff_ne.mpr e).symm
theorem key_rr (a b : Str) : decide ((Sum.inr a : Key) = Sum.inr b) = decide (a = b) := by
  by_cases e : a = b
  · subst e; simp
  · have h : ¬ (Sum.inr a : Key) = Sum.inr b := fun q => e (Sum.inr.inj q)
    rw [decide_eq_false h, decide_eq_false e]
theorem key_lr (a : Int) (b : Str) : decide ((Sum.inl a : Key) = Sum.inr b) = false := decide_eq_false (fun q => nomatch q)
theorem key_rl (a : Str) (b : Int) : decide ((Sum.inr a : Key) = Sum.inl b) = false := decide_eq_false (fun q => nomatch q)

def mixKind (prog : Program) (w : World) : PySem.KeyKind prog w Key where
  is := keyIs
  hash := keyH w
  inj := fun v a b ha hb => by
    rcases keyIs_shape ha with ⟨i, t, rfl, rfl⟩ | ⟨x, t, rfl, rfl⟩
    · rcases keyIs_shape hb with ⟨j, u, rfl, e⟩ | ⟨y, u, rfl, e⟩
      · injection e with e1 _; rw [e1]
      · exact nomatch e
    · rcases keyIs_shape hb with ⟨j, u, rfl, e⟩ | ⟨y, u, rfl, e⟩
      · exact nomatch e
      · injection e with e1 _; rw [e1]
  byValue := fun k v h => by
    rcases keyIs_shape h with ⟨i, t, rfl, rfl⟩ | ⟨x, t, rfl, rfl⟩ <;> rfl
  pyHash := fun hv h => by
    rcases keyIs_shape hv with ⟨i, t, rfl, rfl⟩ | ⟨x, t, rfl, rfl⟩
    · exact wpAny_pyHash_int h
    · exact wpAny_pyHash_str h
  eqBool := fun hu hv h => by
    rcases keyIs_shape hu with ⟨i, t, rfl, rfl⟩ | ⟨x, t, rfl, rfl⟩
    · rcases keyIs_shape hv with ⟨j, u, rfl, rfl⟩ | ⟨y, u, rfl, rfl⟩
      · rw [key_ll] at h; exact wpAny_eqBool_int h
      · rw [key_lr] at h; exact SeqAt.EqAt.int_str i t y u _ _ _ _ h
    · rcases keyIs_shape hv with ⟨j, u, rfl, rfl⟩ | ⟨y, u, rfl, rfl⟩
      · rw [key_rl] at h; exact SeqAt.EqAt.str_int x t j u _ _ _ _ h
      · rw [key_rr] at h; exact wpAny_eqBool_str h
  «strs» := fun k x t v h => by
    rcases keyIs_shape h with ⟨i, u, rfl, e⟩ | ⟨y, u, rfl, e⟩
    · exact nomatch e
    · injection e with e1 _
      subst e1
      cases v <;> rfl

end L2

namespace L2
open PySem PySem.Spec PyProof.Rows

/-- a value, without the heap -/
inductive V where
  | non | bl (b : Bool) | int (i : Int) | str (x : Str) | byt (b : Array UInt8) | flt (b : UInt64) | ref (a : Addr) | ty (n : String)
  deriving DecidableEq

def RelV : V → Value → Prop
  | .non, u => u = Value.none
  | .bl b, u => u = Value.bool b
  | .int i, u => ∃ t, u = Value.int i t
  | .str x, u => ∃ t, u = Value.str x t
  | .byt b, u => ∃ t, u = Value.bytes b t
  | .flt b, u => ∃ t, u = Value.float b t
  | .ref a, u => u = Value.ref a
  | .ty n, u => u = Value.type n

abbrev Vals : List V → List Value → Prop := Paired RelV
theorem Vals.length {xs : List V} {us : List Value} (r : Vals xs us) : xs.length = us.length := Paired.length r
theorem Vals.get : ∀ {xs : List V} {us : List Value} {i : Nat} {x : V}, Vals xs us → xs[i]? = some x → ∃ u, us[i]? = some u ∧ RelV x u
  | _, _, _, _, .nil, e => by simp at e
  | _, _, 0, _, .cons r _, e => by simp at e; subst e; exact ⟨_, rfl, r⟩
  | _, _, i + 1, x, .cons _ t, e => by
    obtain ⟨u, h1, h2⟩ := Vals.get (i := i) (x := x) t (by simpa using e)
    exact ⟨u, by simpa using h1, h2⟩
theorem Vals.set {x : V} {u : Value} (r : RelV x u) : ∀ {xs : List V} {us : List Value} (i : Nat), Vals xs us → Vals (xs.set i x) (us.set i u)
  | _, _, _, .nil => .nil
  | _, _, 0, .cons _ t => .cons r t
  | _, _, i + 1, .cons q t => .cons q (Vals.set r i t)
theorem Vals.append : ∀ {xs ys : List V} {us ws : List Value}, Vals xs us → Vals ys ws → Vals (xs ++ ys) (us ++ ws)
  | _, _, _, _, .nil, s => s
  | _, _, _, _, .cons r t, s => .cons r (Vals.append t s)
theorem Vals.take : ∀ {xs : List V} {us : List Value} (n : Nat), Vals xs us → Vals (xs.take n) (us.take n)
  | _, _, 0, _ => .nil
  | _, _, _ + 1, .nil => .nil
  | _, _, n + 1, .cons r t => .cons r (Vals.take n t)
theorem Vals.drop : ∀ {xs : List V} {us : List Value} (n : Nat), Vals xs us → Vals (xs.drop n) (us.drop n)
  | _, _, 0, r => r
  | _, _, _ + 1, .nil => .nil
  | _, _, n + 1, .cons _ t => Vals.drop n t
def RelO : Option V → Option Value → Prop
  | some v, some u => RelV v u
  | none, none => True
  | _, _ => False
def KV {κ : Type} : List (κ × V) → List (κ × Value) → Prop := Paired fun (p : κ × V) (q : κ × Value) => p.1 = q.1 ∧ RelV p.2 q.2

/-- a key of a dict (00_mix): an int or a text -/
def kV : Key → V
  | .inl i => .int i
  | .inr x => .str x

/-- what stands at a tracked address -/
inductive HO where
  /-- a list -/
  | lst (xs : List V)
  /-- a tuple (never changes) -/
  | tup (xs : List V)
  /-- a dict whose keys are ints and texts; one whose keys are tuples of ints and texts (the empty one is both) -/
  | dK (kvs : List (Key × V)) | dT (kvs : List (List Key × V))
  /-- a set of ints: its members, its size -/
  | set (S : Int → Bool) (n : Nat)
  /-- an instance of the class at C, its dict at dx, its attributes -/
  | ins (C dx : Addr) (fs : List (Str × V))
  /-- the dict of the instance at x -/
  | own (x : Addr)
  /-- the dict of an exception -/
  | xd (fs : List (Str × V))
  /-- a bound method, f of x -/
  | met (f x : Addr)
  /-- a range object lo, lo + 1, .. below hi -/
  | rng (lo hi : Int)
  /-- a thing that is known to the object (the script; a dict while a loop walks it): read, never written while it is so -/
  | frz (o : Obj) (u : HO)
  /-- a code object's table -/
  | tbl (ps : Array Value)
  /-- any other thing, by what is true of its one object (a def of one's own: SetO a S n := HO.ext fun h => ..) -/
  | ext (φ : Heap → Prop)

abbrev Hp := Addr → Option HO
def upd (H : Hp) (a : Addr) (o : HO) : Hp := fun b => if b = a then some o else H b
theorem upd_same {H : Hp} {a : Addr} {o : HO} : upd H a o a = some o := by unfold upd; rw [if_pos rfl]
theorem upd_ne {H : Hp} {a b : Addr} {o : HO} (h : b ≠ a) : upd H a o b = H b := by unfold upd; rw [if_neg h]
/-- two objects of different content stand apart -/
theorem ne_of {H : Hp} {a b : Addr} {o u : HO} (h : H a = some o) (h' : H b = some u) (d : o ≠ u) : a ≠ b := by
  intro e; subst e; rw [h] at h'; exact d (Option.some.inj h')
theorem ne_of_none {H : Hp} {a b : Addr} {o : HO} (h : H a = some o) (h' : H b = none) : a ≠ b := by
  intro e; subst e; rw [h] at h'; cases h'

section
variable (P : Program) (w : World)
def ObjOk (H : Hp) (h : Heap) (a : Addr) : HO → Prop
  | .lst xs => xs.length ≤ sizeLine ∧ ∃ (its : List Value) (n : Nat), Vals xs its ∧ h.get? a = some { cls := .type "list", data := .seq its.toArray n }
  | .tup xs => xs.length ≤ sizeLine ∧ ∃ its : List Value, Vals xs its ∧ IsTup h a its.toArray
  | .dK kvs => kvs.length ≤ sizeLine ∧ (a == sysModules) = false ∧ ∃ vs, KV kvs vs ∧ h.DictOf (mixKind P w) a vs
  | .dT kvs => kvs.length ≤ sizeLine ∧ (a == sysModules) = false ∧ ∃ xs : List (List Key × Addr × Value),
      Paired (fun (p : List Key × V) (q : List Key × Addr × Value) => p.1 = q.1 ∧ H q.2.1 = some (.tup (p.1.map kV)) ∧ RelV p.2 q.2.2) kvs xs ∧
      ∃ o es ep, h.get? a = some o ∧ o.ExactDict ∧ o.data = .dict es ep ∧ es.toList = xs.map (entryOfKey (tupleKind (mixKind P w))) ∧ (xs.map (·.1)).Nodup
  | .set S n => h.SetOf (intKind P w) a S n
  | .ins C dx fs => H dx = some (.own a) ∧ fs.length ≤ 1000 ∧ dx ≠ a ∧ h.get? a = some (PySem.W.instObj C dx) ∧
      ∃ mA, h.Ns1 dx mA ∧ (∀ f, RelO (fs.lookup f) (mA f)) ∧ PySem.Within mA (fs.map (·.1))
  | .own _ => ∃ o, h.get? a = some o
  | .xd fs => ∃ mA, h.Ns1 a mA ∧ ∀ f, RelO (fs.lookup f) (mA f)
  | .rng lo hi => ∃ t u v, h.get? a = some { cls := .type "range", data := .fields #[.int lo t, .int hi u, .int 1 v] }
  | .frz o u => h.get? a = some o ∧ ObjOk H h a u
  | .tbl ps => h.get? a = some { cls := .none, data := .fields ps }
  | .met f x => h.get? a = some (PySem.W.methodObj (.ref f) (.ref x))
  | .ext φ => φ h ∧ (∃ o, h.get? a = some o) ∧ ∀ h1 h2 : Heap, φ h1 → (∀ o, h1.get? a = some o → h2.get? a = some o) → φ h2
/-- the abstract heap is held -/
def HOk (H : Hp) (h : Heap) : Prop := ∀ a o, H a = some o → ObjOk P w H h a o
end

section
variable {P : Program} {w : World} {H H' : Hp} {h h' : Heap} {a : Addr} {o : HO}
theorem ObjOk.lt (x : ObjOk P w H h a o) : a < h.objs.size := by
  cases o with
  | lst xs => obtain ⟨_, _, _, _, e⟩ := x; exact Heap.lt_size e
  | tup xs => obtain ⟨_, _, _, p⟩ := x; exact p.lt
  | dK kvs => obtain ⟨_, _, _, _, o, _, _, e, _⟩ := x; exact Heap.lt_size e
  | dT kvs => obtain ⟨_, _, _, _, o, _, _, e, _⟩ := x; exact Heap.lt_size e
  | set S n => obtain ⟨o, _, _, _, e, _⟩ := x; exact Heap.lt_size e
  | ins C dx fs => obtain ⟨_, _, _, e, _⟩ := x; exact Heap.lt_size e
  | own y => obtain ⟨_, e⟩ := x; exact Heap.lt_size e
  | xd fs => obtain ⟨_, ⟨_, _, _, e, _⟩, _⟩ := x; exact Heap.lt_size e
  | rng lo hi => obtain ⟨_, _, _, e⟩ := x; exact Heap.lt_size e
  | frz ob u => obtain ⟨e, _⟩ := x; exact Heap.lt_size e
  | tbl ps => exact Heap.lt_size (show h.get? a = some _ from x)
  | met f y => exact Heap.lt_size (show h.get? a = some _ from x)
  | ext φ => obtain ⟨_, ⟨_, e⟩, _⟩ := x; exact Heap.lt_size e
theorem Paired.mapP {α β : Type} {F G : α → β → Prop} : ∀ {l₁ : List α} {l₂ : List β}, Paired F l₁ l₂ → (∀ a b, F a b → G a b) → Paired G l₁ l₂
  | _, _, .nil, _ => .nil
  | _, _, .cons r t, f => .cons (f _ _ r) (Paired.mapP t f)
/-- what an object's description leans on: its own object, its own dict, the tuples -/
theorem ObjOk.stay (x : ObjOk P w H h a o) (k : ∀ b u, (b = a ∨ H b = some (.own a)) → h.get? b = some u → h'.get? b = some u)
    (ho : ∀ b, H b = some (.own a) → H' b = some (.own a)) (ht : ∀ b xs, H b = some (.tup xs) → H' b = some (.tup xs)) : ObjOk P w H' h' a o := by
  induction o with
  | lst xs => obtain ⟨z, its, n, r, e⟩ := x; exact ⟨z, its, n, r, k _ _ (.inl rfl) e⟩
  | tup xs => obtain ⟨z, its, r, ob, e, c⟩ := x; exact ⟨z, its, r, ob, k _ _ (.inl rfl) e, c⟩
  | dK kvs => obtain ⟨z, y, vs, r, ob, es, ep, e, c⟩ := x; exact ⟨z, y, vs, r, ob, es, ep, k _ _ (.inl rfl) e, c⟩
  | dT kvs =>
    obtain ⟨z, y, xs, r, ob, es, ep, e, c⟩ := x
    exact ⟨z, y, xs, Paired.mapP r fun p q z => ⟨z.1, ht _ _ z.2.1, z.2.2⟩, ob, es, ep, k _ _ (.inl rfl) e, c⟩
  | set S n => obtain ⟨ob, es, ep, t, e, c⟩ := x; exact ⟨ob, es, ep, t, k _ _ (.inl rfl) e, c⟩
  | ins C dx fs =>
    obtain ⟨d, z, ne, e, mA, ⟨od, es, ep, e2, c⟩, r⟩ := x
    exact ⟨ho _ d, z, ne, k _ _ (.inl rfl) e, mA, ⟨od, es, ep, k _ _ (.inr d) e2, c⟩, r⟩
  | own y => obtain ⟨ob, e⟩ := x; exact ⟨ob, k _ _ (.inl rfl) e⟩
  | xd fs => obtain ⟨mA, ⟨od, es, ep, e, c⟩, r⟩ := x; exact ⟨mA, ⟨od, es, ep, k _ _ (.inl rfl) e, c⟩, r⟩
  | rng lo hi => obtain ⟨t, u, v, e⟩ := x; exact ⟨t, u, v, k _ _ (.inl rfl) e⟩
  | frz ob u ih => obtain ⟨e, q⟩ := x; exact ⟨k _ _ (.inl rfl) e, ih q⟩
  | tbl ps =>
    have e : h.get? a = some { cls := .none, data := .fields ps } := x
    show h'.get? a = some { cls := .none, data := .fields ps }
    exact k a _ (.inl rfl) e
  | met f y =>
    have e : h.get? a = some (PySem.W.methodObj (.ref f) (.ref y)) := x
    show h'.get? a = some (PySem.W.methodObj (.ref f) (.ref y))
    exact k a _ (.inl rfl) e
  | ext φ => obtain ⟨p, ⟨o, e⟩, st⟩ := x; exact ⟨st _ _ p fun o q => k _ _ (.inl rfl) q, ⟨o, k _ _ (.inl rfl) e⟩, st⟩
theorem HOk.lt (x : HOk P w H h) (e : H a = some o) : a < h.objs.size := (x a o e).lt
theorem HOk.fresh (x : HOk P w H h) (e : h.objs.size ≤ a) : H a = none := by
  cases q : H a with
  | none => rfl
  | some u => exact absurd (Nat.lt_of_lt_of_le (x.lt q) e) (Nat.lt_irrefl _)
/-- every object of the heap is kept -/
theorem HOk.kept (x : HOk P w H h) (k : ∀ b u, h.get? b = some u → h'.get? b = some u) : HOk P w H h' := fun a o e =>
  (x a o e).stay (fun b u _ q => k b u q) (fun _ q => q) fun _ _ q => q
/-- a new object is laid and tracked -/
theorem HOk.laid (x : HOk P w H h) (k : ∀ b u, h.get? b = some u → h'.get? b = some u) (hp : h.objs.size ≤ a) (new : ObjOk P w (upd H a o) h' a o) : HOk P w (upd H a o) h' := fun b u e => by
  have hn := x.fresh hp
  by_cases hb : b = a
  · subst hb; rw [upd_same] at e; cases e; exact new
  · rw [upd_ne hb] at e
    exact (x b u e).stay (fun c v _ q => k c v q) (fun c q => by rw [upd_ne (ne_of_none q hn)]; exact q) fun c xs q => by rw [upd_ne (ne_of_none q hn)]; exact q
end

/-- what may be read as u: it is u, or a known u -/
def Rd (H : Hp) (a : Addr) (u : HO) : Prop := H a = some u ∨ ∃ o, H a = some (.frz o u)
theorem Rd.ok {P : Program} {w : World} {H : Hp} {h : Heap} {a : Addr} {u : HO} (r : Rd H a u) (x : HOk P w H h) : ObjOk P w H h a u := by
  rcases r with r | ⟨o, r⟩
  · exact x a u r
  · obtain ⟨_, q⟩ := x a _ r
    exact q
/-- what may be written -/
def Mut : Option HO → Prop
  | some (.lst _) => True
  | some (.dK _) => True
  | some (.dT _) => True
  | some (.set _ _) => True
  | some (.ins _ _ _) => True
  | some (.ext _) => True
  | _ => False
section
variable {P : Program} {w : World} {H : Hp} {h h' : Heap} {x e : Addr} {o' : HO}
/-- the object at e is changed: x itself, or the dict of the instance x -/
theorem HOk.write (ok : HOk P w H h) (mu : Mut (H x)) (he : e = x ∨ H e = some (.own x)) (k : ∀ b u, b ≠ e → h.get? b = some u → h'.get? b = some u) (heo : ∃ u, h'.get? e = some u)
    (new : ObjOk P w (upd H x o') h' x o') : HOk P w (upd H x o') h' := fun b u q => by
  have nown : ∀ c y, H c = some (.own y) → c ≠ x := fun c y r z => by subst z; rw [r] at mu; exact mu
  have ntup : ∀ c xs, H c = some (.tup xs) → c ≠ x := fun c xs r z => by subst z; rw [r] at mu; exact mu
  by_cases hb : b = x
  · subst hb; rw [upd_same] at q; cases q; exact new
  · rw [upd_ne hb] at q
    by_cases hbe : b = e
    · have q' : H b = some (.own x) := by
        rcases he with z | z
        · exact absurd (hbe.trans z) hb
        · rw [hbe]; exact z
      rw [q] at q'; cases q'
      obtain ⟨v, hv⟩ := heo
      exact ⟨v, by rw [hbe]; exact hv⟩
    · refine (ok b u q).stay (fun c v hc r => k c v ?_ r) (fun c r => by rw [upd_ne (nown c b r)]; exact r) fun c xs r => by rw [upd_ne (ntup c xs r)]; exact r
      rcases hc with rfl | hc
      · exact hbe
      · rintro rfl
        rcases he with z | z
        · exact nown c b hc z
        · rw [hc] at z; cases z; exact hb rfl
end

/-! ### kept unless tracked; of the frames at fs (the callers') the slots may change (an exception that passes writes there); of the records at ex (iterators) nothing is said -/
structure Un (fs ex : List Addr) (H H' : Hp) (h h' : Heap) : Prop where
  keep : ∀ b o, h.get? b = some o → H b = none → b ∉ fs → b ∉ ex → h'.get? b = some o
  slot : ∀ b o, h.get? b = some o → H b = none → b ∈ fs → b ∉ ex → ∃ sl, h'.get? b = some { o with slots := sl }
  free : ∀ b o, h.get? b = some o → H b = none → b ∉ ex → H' b = none
  there : ∀ b o, h.get? b = some o → b ∉ ex → ∃ o', h'.get? b = some o'
  tups : ∀ b xs, H b = some (.tup xs) → H' b = some (.tup xs)
  frzs : ∀ b o u, H b = some (.frz o u) → H' b = some (.frz o u)
  tbls : ∀ b ps, H b = some (.tbl ps) → ∃ more, H' b = some (.tbl (ps ++ more))
section
variable {fs fs' ex ex' : List Addr} {H H1 H2 : Hp} {h h1 h2 h' : Heap} {a x e : Addr} {o : HO}
theorem Un.any (u : Un fs ex H H1 h h1) {b : Addr} {ob : Obj} (q : h.get? b = some ob) (n : H b = none) (hx : b ∉ ex) : ∃ sl, h1.get? b = some { ob with slots := sl } := by
  by_cases hb : b ∈ fs
  · exact u.slot b ob q n hb hx
  · exact ⟨ob.slots, u.keep b ob q n hb hx⟩
theorem Un.kept (k : ∀ b u, h.get? b = some u → h'.get? b = some u) : Un fs ex H H h h' :=
  ⟨fun b ob q _ _ _ => k b ob q, fun b ob q _ _ _ => ⟨ob.slots, k b ob q⟩, fun _ _ _ n _ => n, fun b ob q _ => ⟨ob, k b ob q⟩, fun _ _ q => q, fun _ _ _ q => q, fun _ ps q => ⟨#[], by rw [q]; simp⟩⟩
theorem Un.refl : Un fs ex H H h h := Un.kept fun _ _ q => q
theorem Un.laid (k : ∀ b u, h.get? b = some u → h'.get? b = some u) (hp : h.objs.size ≤ a) (hn : H a = none) : Un fs ex H (upd H a o) h h' where
  keep := fun b u q _ _ _ => k b u q
  slot := fun b u q _ _ _ => ⟨u.slots, k b u q⟩
  free := fun b u q n _ => by rw [upd_ne (Nat.ne_of_lt (Nat.lt_of_lt_of_le (Heap.lt_size q) hp))]; exact n
  there := fun b u q _ => ⟨u, k b u q⟩
  tups := fun b xs q => by rw [upd_ne (ne_of_none q hn)]; exact q
  frzs := fun b u xs q => by rw [upd_ne (ne_of_none q hn)]; exact q
  tbls := fun b ps q => ⟨#[], by rw [upd_ne (ne_of_none q hn), q]; simp⟩
theorem Un.write (mu : Mut (H x)) (he : e = x ∨ H e = some (.own x)) (k : ∀ b u, b ≠ e → h.get? b = some u → h'.get? b = some u) (heo : ∃ u, h'.get? e = some u) : Un fs ex H (upd H x o) h h' := by
  have hx : ∀ b, H b = none → b ≠ x := fun b n z => by subst z; rw [n] at mu; exact mu
  have hb : ∀ b, H b = none → b ≠ e := fun b n z => by
    subst z
    rcases he with r | r
    · exact hx b n r
    · rw [n] at r; cases r
  have hm : ∀ b u, H b = some u → ¬ Mut (some u) → b ≠ x := fun b u q nm z => by subst z; rw [q] at mu; exact nm mu
  refine ⟨fun b u q n _ _ => k b u (hb b n) q, fun b u q n _ _ => ⟨u.slots, k b u (hb b n) q⟩, fun b u q n _ => by rw [upd_ne (hx b n)]; exact n, fun b u q _ => ?_,
    fun b xs q => by rw [upd_ne (hm b _ q fun z => z)]; exact q, fun b u xs q => by rw [upd_ne (hm b _ q fun z => z)]; exact q, fun b ps q => ⟨#[], by rw [upd_ne (hm b _ q fun z => z), q]; simp⟩⟩
  by_cases hbe : b = e
  · subst hbe; exact heo
  · exact ⟨u, k b u hbe q⟩
end

/-! ### the heap without what is tracked -/
def trk (h : Heap) (H : Hp) : List Addr := (List.range h.objs.size).filter fun a => (H a).isSome
def hidT (h : Heap) (H : Hp) : Heap := PySem.W.hideAll h (trk h H)
theorem hidT_size (h : Heap) (H : Hp) : (hidT h H).objs.size = h.objs.size := PySem.W.hideAll_size _ _
theorem hidT_get {h : Heap} {H : Hp} {b : Addr} {o : Obj} (e : h.get? b = some o) (n : H b = none) : (hidT h H).get? b = some o :=
  PySem.W.hideAll_get _ e fun hm => by
    have q : (H b).isSome = true := (List.mem_filter.mp hm).2
    rw [n] at q; simp at q
theorem of_hidT {h : Heap} {H : Hp} {b : Addr} {o : Obj} (e : (hidT h H).get? b = some o) : h.get? b = some o ∧ H b = none := by
  have e' : h.get? b = some o := PySem.W.of_hideAll (trk h H) e
  refine ⟨e', ?_⟩
  cases q : H b with
  | none => rfl
  | some x =>
    have hm : b ∈ trk h H := List.mem_filter.mpr ⟨List.mem_range.mpr (Heap.lt_size e'), by simp [q]⟩
    have z : (hidT h H).get? b = none := PySem.W.hideAll_none (trk h H) hm
    rw [z] at e; cases e

/-! ### OpenK's ledger, filled with every new object but one -/
def allNews (g h : Heap) (L : Addr) : List (Addr × Obj) := (List.range h.objs.size).filterMap fun a => if a = L ∨ (g.get? a).isSome = true then none else (h.get? a).map fun o => (a, o)
def rest (g h : Heap) (L d : Addr) : List (Addr × Obj) := (allNews g h L).filter fun p => decide (p.1 ≠ d)
end L2

namespace L2
open PySem PySem.Spec PyProof.Rows

/-- the module's facts, over the base: the heap at the law's entry without what is tracked there -/
structure Mod (K : PySem.W.Frag) (mg : Str → Option Value) (base : Heap) : Prop where
  kin : K.In base
  glob : base.Ns mainGlobals mg
  blt : ∃ mb, base.Ns builtinsNs mb ∧ ∀ x : Str, x ≠ "__name__" → mb x = bootBuiltins x
  nolimit : base.NoLimit

/-- the context: a def's body (or a comprehension's block) running. base: fixed through the whole law; s₀, H₀: the entry; outer: the frames whose slots others may change (a def's callers); stack: all frames that run;
   ex: iterators that were made ahead of the entry and are walked here (a comprehension's); fn: the names whose cells were made at the entry (a def: all; a comprehension's block: its own); calm: not within an except suite; pn: pins that every state bears; xe: what is wanted of an exception that leaves the code -/
structure Cx where
  prog : Program
  w : World
  K : PySem.W.Frag
  mg : Str → Option Value
  base : Heap
  A : Around
  N : List Str
  s₀ : Shared
  H₀ : Hp
  env : Env
  outer : List Env
  stack : List Env
  ex : List Addr
  fn : Str → Bool
  calm : Bool
  pn : List (Addr × Obj)
  xe : Value → Shared → Prop
/-- the callers' frames -/
def frs (l : List Env) : List Addr := l.filterMap (·.frame)
abbrev Cx.fs (X : Cx) : List Addr := frs X.outer

def Vis (sc : Scope) (x : Str) : Prop := sc.names.lookup x = some .local ∨ sc.names.lookup x = some .cell ∨ sc.names.lookup x = some .free
def Loc (sc : Scope) (x : Str) : Prop := sc.names.lookup x = some .local ∨ sc.names.lookup x = some .cell
def Look (env : Env) (h : Heap) (m : Str → Option Value) (x : Str) (u : Value) : Prop :=
  (env.kindOf x = some .local ∧ m x = some u) ∨ ((env.kindOf x = some .cell ∨ env.kindOf x = some .free) ∧ ∃ c, env.cells.lookup x = some c ∧ h.IsCell c (some u))

structure Cx.Ok (X : Cx) : Prop where
  mod : Mod X.K X.mg X.base
  kind : X.env.scope.kind = .function
  glob : X.env.globals = mainGlobals
  blt : X.env.builtins = builtinsNs
  above : X.s₀.heap.objs.size ≤ X.env.locals
  inj : ∀ x y c, X.env.cells.lookup x = some c → X.env.cells.lookup y = some c → x = y
  has : ∀ x, (X.env.kindOf x = some .cell ∨ X.env.kindOf x = some .free) → ∃ c, X.env.cells.lookup x = some c
  cab : ∀ x c, X.fn x = true → X.env.cells.lookup x = some c → X.s₀.heap.objs.size ≤ c
  hd : X.calm = true → X.A.handled = none
  frames : X.A.frames = some X.stack
  stk : X.stack = X.outer ∨ (X.stack = X.env :: X.outer ∧ X.env.frame = some X.env.locals)
  exf : ∀ b ∈ X.ex, b ≠ X.env.locals ∧ ∀ x c, X.env.cells.lookup x = some c → c ≠ b
  bs : ∀ b o, X.base.get? b = some o → X.s₀.heap.get? b = some o ∧ X.H₀ b = none
  bsz : X.base.objs.size ≤ X.s₀.heap.objs.size
  noex : ∀ b o, X.base.get? b = some o → b ∉ X.ex
  exfs : ∀ b ∈ X.ex, b ∉ X.fs
  funs : X.s₀.heap.FunFrames X.base X.outer
  frf : ∀ b ∈ X.fs, X.H₀ b = none

structure Inv (X : Cx) (pins : List (Addr × Obj)) (σ : List (Option V)) (H : Hp) (s : Shared) : Prop where
  ok : X.Ok
  os : s.os = X.s₀.os
  bare : AllBare s.gens
  base : Un X.fs X.ex X.H₀ H X.s₀.heap s.heap
  loc : ∃ m, s.heap.Ns X.env.locals m ∧ ∀ (i : Nat) (x : Str) (v : V), X.N[i]? = some x → σ[i]? = some (some v) → Vis X.env.scope x → ∃ u, RelV v u ∧ Look X.env s.heap m x u
  cell : ∀ x c, X.env.cells.lookup x = some c → ∃ v, s.heap.IsCell c v
  free : H X.env.locals = none
  freeC : ∀ x c, X.env.cells.lookup x = some c → H c = none
  pin : ∀ p ∈ X.pn ++ pins, s.heap.get? p.1 = some p.2 ∧ H p.1 = none ∧ p.1 ≠ X.env.locals ∧ p.1 ∉ X.fs ∧ ∀ v, p.2.data ≠ .cell v
  hok : HOk X.prog X.w H s.heap
  len : σ.length = X.N.length

section
variable {X : Cx} {pins : List (Addr × Obj)} {σ : List (Option V)} {H H' : Hp} {s : Shared} {h' : Heap}

theorem Cx.Ok.nofr (ok : X.Ok) {b : Addr} {o : Obj} (e : X.base.get? b = some o) : b ∉ X.fs := fun hb => by
  have := (ok.funs.mem hb).1
  rw [e] at this; cases this
theorem Inv.bs (I : Inv X pins σ H s) : ∀ b o, X.base.get? b = some o → s.heap.get? b = some o ∧ H b = none := fun b o e =>
  ⟨I.base.keep b o (I.ok.bs b o e).1 (I.ok.bs b o e).2 (I.ok.nofr e) (I.ok.noex b o e), I.base.free b o (I.ok.bs b o e).1 (I.ok.bs b o e).2 (I.ok.noex b o e)⟩
theorem Inv.bk (I : Inv X pins σ H s) : ∀ b o, X.base.get? b = some o → s.heap.get? b = some o := fun b o e => (I.bs b o e).1
theorem Inv.mod (I : Inv X pins σ H s) : Mod X.K X.mg X.base := I.ok.mod
theorem Inv.kIn (I : Inv X pins σ H s) : X.K.In s.heap := I.ok.mod.kin.keeps I.bk
theorem Inv.lt (I : Inv X pins σ H s) : X.env.locals < s.heap.objs.size := let ⟨_, hn, _⟩ := I.loc; hn.lt
theorem Inv.sz (I : Inv X pins σ H s) : X.s₀.heap.objs.size ≤ s.heap.objs.size := Nat.le_trans I.ok.above (Nat.le_of_lt I.lt)
theorem Inv.nofs (I : Inv X pins σ H s) {a : Addr} (h : s.heap.objs.size ≤ a) : a ∉ X.fs := fun hb => by
  obtain ⟨_, o, ho, _⟩ := I.ok.funs.mem hb
  exact absurd (Nat.lt_of_lt_of_le (Heap.lt_size ho) (Nat.le_trans I.sz h)) (Nat.lt_irrefl _)
theorem Inv.cne (I : Inv X pins σ H s) : ∀ x c, X.env.cells.lookup x = some c → c ≠ X.env.locals := fun x c e z => by
  obtain ⟨v, o, ho, hd⟩ := I.cell x c e
  obtain ⟨m, ⟨o', es, ep, ho', hd', _⟩, _⟩ := I.loc
  rw [z, ho'] at ho; cases ho; rw [hd'] at hd; cases hd
theorem Inv.funs (I : Inv X pins σ H s) : s.heap.FunFrames X.base X.outer := by
  have all : ∀ (l : List Env), (∀ b ∈ frs l, b ∈ X.fs) → X.s₀.heap.FunFrames X.base l → s.heap.FunFrames X.base l := by
    intro l
    induction l with
    | nil => intro _ _; trivial
    | cons env r ih =>
      intro hs hl
      obtain ⟨hk, ⟨L, o, hf, hn, ho, hd⟩, hr⟩ := hl
      have hL : L ∈ X.fs := hs L (by unfold frs; rw [List.filterMap_cons, hf]; exact List.mem_cons_self)
      obtain ⟨sl, e⟩ := I.base.slot L o ho (I.ok.frf L hL) hL fun z => I.ok.exfs L z hL
      exact ⟨hk, ⟨L, _, hf, hn, e, hd⟩, ih (fun b hb => hs b (by unfold frs; rw [List.filterMap_cons, hf]; exact List.mem_cons_of_mem _ hb)) hr⟩
  exact all X.outer (fun _ hb => hb) I.ok.funs

/-- the frames that run, for a call -/
theorem Inv.stack (I : Inv X pins σ H s) : s.heap.FunFrames X.base X.stack := by
  rcases I.ok.stk with e | ⟨e, hf⟩
  · rw [e]; exact I.funs
  · rw [e]
    obtain ⟨m, hn, _⟩ := I.loc
    refine .cons (by rw [I.ok.kind]; decide) hf hn ?_ I.funs
    exact Heap.get?_none_of_le (Nat.le_trans I.ok.bsz I.ok.above)
theorem Inv.stkSub (I : Inv X pins σ H s) : ∀ b ∈ frs X.stack, b ∈ X.env.locals :: X.fs := fun b hb => by
  rcases I.ok.stk with e | ⟨e, hf⟩
  · rw [e] at hb; exact List.mem_cons_of_mem _ hb
  · rw [e] at hb
    unfold frs at hb
    rw [List.filterMap_cons, hf] at hb
    exact hb
theorem Inv.stkFree (I : Inv X pins σ H s) : ∀ b ∈ frs X.stack, H b = none := fun b hb => by
  rcases List.mem_cons.mp (I.stkSub b hb) with e | hb
  · rw [e]; exact I.free
  · obtain ⟨_, o, ho, _⟩ := I.ok.funs.mem hb
    exact I.base.free b o ho (I.ok.frf b hb) fun z => I.ok.exfs b z hb

/-- THE STEP: the untracked objects but the frame and the records at ch are kept (the callers' frames up to slots), the frame's map is kept, the new abstract heap is held -/
theorem Inv.step {g' : Array GenState} {t' : Nat} {d' : Drawn} {ch : List Addr} (I : Inv X pins σ H s)
    (hch : ∀ b ∈ ch, (b ∈ X.ex ∨ X.s₀.heap.objs.size ≤ b) ∧ b ≠ X.env.locals ∧ (∀ x c, X.env.cells.lookup x = some c → c ≠ b) ∧ ∀ p ∈ X.pn ++ pins, p.1 ≠ b)
    (keep : ∀ b o, b ≠ X.env.locals → b ∉ X.fs → b ∉ ch → s.heap.get? b = some o → H b = none → h'.get? b = some o)
    (slot : ∀ b o, b ≠ X.env.locals → b ∈ X.fs → b ∉ ch → s.heap.get? b = some o → H b = none → ∃ sl, h'.get? b = some { o with slots := sl }) (free : ∀ b o, b ∉ ch → s.heap.get? b = some o → H b = none → H' b = none)
    (there : ∀ b o, b ∉ ch → s.heap.get? b = some o → ∃ o', h'.get? b = some o')
    (tups : ∀ b xs, H b = some (.tup xs) → H' b = some (.tup xs)) (frzs : ∀ b o u, H b = some (.frz o u) → H' b = some (.frz o u)) (tbls : ∀ b ps, H b = some (.tbl ps) → ∃ more, H' b = some (.tbl (ps ++ more)))
    (ns : ∀ m, s.heap.Ns X.env.locals m → h'.Ns X.env.locals m) (hok : HOk X.prog X.w H' h') (hg : AllBare g') :
    Inv X pins σ H' { s with heap := h', gens := g', drawn := d', toks := t' } := by
  have neL : ∀ b o, X.s₀.heap.get? b = some o → b ≠ X.env.locals := fun b o e => Nat.ne_of_lt (Nat.lt_of_lt_of_le (Heap.lt_size e) I.ok.above)
  have neC : ∀ b o, X.s₀.heap.get? b = some o → b ∉ X.ex → b ∉ ch := fun b o e hx hb => by
    rcases (hch b hb).1 with z | z
    · exact hx z
    · exact absurd (Nat.lt_of_lt_of_le (Heap.lt_size e) z) (Nat.lt_irrefl _)
  have cellK : ∀ x c, X.env.cells.lookup x = some c → ∀ v, s.heap.IsCell c v → h'.IsCell c v := fun x c e v ⟨o, ho, hd⟩ => by
    have nch : c ∉ ch := fun z => (hch c z).2.2.1 x c e rfl
    by_cases hc : c ∈ X.fs
    · obtain ⟨sl, q⟩ := slot c o (I.cne x c e) hc nch ho (I.freeC x c e)
      exact ⟨_, q, hd⟩
    · exact ⟨o, keep c o (I.cne x c e) hc nch ho (I.freeC x c e), hd⟩
  refine ⟨I.ok, I.os, hg, ⟨fun b o e n hb hx => ?_, fun b o e n hb hx => ?_, fun b o e n hx => ?_, fun b o e hx => ?_, fun b xs e => tups b xs (I.base.tups b xs e), fun b o xs e => frzs b o xs (I.base.frzs b o xs e), fun b ps e => ?_⟩, ?_, fun x c e => ?_, ?_, fun x c e => ?_, fun p hp => ?_, hok, I.len⟩
  · exact keep b o (neL b o e) hb (neC b o e hx) (I.base.keep b o e n hb hx) (I.base.free b o e n hx)
  · obtain ⟨sl, e1⟩ := I.base.slot b o e n hb hx
    obtain ⟨sl', e2⟩ := slot b _ (neL b o e) hb (neC b o e hx) e1 (I.base.free b o e n hx)
    exact ⟨sl', e2⟩
  · obtain ⟨o', e1⟩ := I.base.there b o e hx
    exact free b o' (neC b o e hx) e1 (I.base.free b o e n hx)
  · obtain ⟨o', e1⟩ := I.base.there b o e hx
    exact there b o' (neC b o e hx) e1
  · obtain ⟨m1, e1⟩ := I.base.tbls b ps e
    obtain ⟨m2, e2⟩ := tbls b _ e1
    exact ⟨m1 ++ m2, by rw [e2, Array.append_assoc]⟩
  · obtain ⟨m, hn, hl⟩ := I.loc
    refine ⟨m, ns m hn, fun i x v e1 e2 e3 => ?_⟩
    obtain ⟨u, r, l⟩ := hl i x v e1 e2 e3
    refine ⟨u, r, ?_⟩
    rcases l with l | ⟨k, c, e, z⟩
    · exact .inl l
    · exact .inr ⟨k, c, e, cellK x c e _ z⟩
  · obtain ⟨v, z⟩ := I.cell x c e
    exact ⟨v, cellK x c e v z⟩
  · obtain ⟨m, ⟨o, _, _, ho, _⟩, _⟩ := I.loc
    exact free _ o (fun z => (hch _ z).2.1 rfl) ho I.free
  · obtain ⟨v, o, ho, hd⟩ := I.cell x c e
    exact free c o (fun z => (hch c z).2.2.1 x c e rfl) ho (I.freeC x c e)
  · obtain ⟨e, n, ne, nf, d⟩ := I.pin p hp
    have nch : p.1 ∉ ch := fun z => (hch p.1 z).2.2.2 p hp rfl
    exact ⟨keep p.1 p.2 ne nf nch e n, free p.1 p.2 nch e n, ne, nf, d⟩
/-- .. where the frame's own object is kept too -/
theorem Inv.un {t' : Nat} (I : Inv X pins σ H s) (u : Un X.fs [] H H' s.heap h') (hok : HOk X.prog X.w H' h') : Inv X pins σ H' { s with heap := h', toks := t' } := by
  obtain ⟨m, ⟨o, es, ep, ho, r⟩, _⟩ := id I.loc
  obtain ⟨sl, hL⟩ := u.any ho I.free (by simp)
  exact I.step (g' := s.gens) (d' := s.drawn) (ch := []) (fun _ z => nomatch z) (fun b o _ hb _ e n => u.keep b o e n hb (by simp)) (fun b o _ hb _ e n => u.slot b o e n hb (by simp)) (fun b o _ e n => u.free b o e n (by simp)) (fun b o _ e => u.there b o e (by simp)) u.tups u.frzs u.tbls (fun m' hm => by
    obtain ⟨o', es', ep', ho', r'⟩ := hm
    rw [ho] at ho'; cases ho'
    exact ⟨_, es', ep', hL, r'⟩) hok I.bare
/-- behind a call (or a comprehension's block): the slots of this frame may have changed too, the records at ch may have turned -/
theorem Inv.call {g' : Array GenState} {t' : Nat} {d' : Drawn} {ch : List Addr} (I : Inv X pins σ H s) (u : Un (frs X.stack) ch H H' s.heap h') (hok : HOk X.prog X.w H' h') (hg : AllBare g')
    (hch : ∀ b ∈ ch, (b ∈ X.ex ∨ X.s₀.heap.objs.size ≤ b) ∧ b ≠ X.env.locals ∧ (∀ x c, X.env.cells.lookup x = some c → c ≠ b) ∧ ∀ p ∈ X.pn ++ pins, p.1 ≠ b) :
    Inv X pins σ H' { s with heap := h', gens := g', drawn := d', toks := t' } := by
  obtain ⟨m, ⟨o, es, ep, ho, r⟩, _⟩ := id I.loc
  obtain ⟨sl, hL⟩ := u.any ho I.free fun z => (hch _ z).2.1 rfl
  exact I.step (ch := ch) hch (fun b o hL hb hc e n => u.keep b o e n (fun z => (List.mem_cons.mp (I.stkSub b z)).elim hL hb) hc) (fun b o _ _ hc e n => u.any e n hc) (fun b o hc e n => u.free b o e n hc) (fun b o hc e => u.there b o e hc) u.tups u.frzs u.tbls (fun m' hm => by
    obtain ⟨o', es', ep', ho', r'⟩ := hm
    rw [ho] at ho'; cases ho'
    exact ⟨_, es', ep', hL, r'⟩) hok hg
/-- an untracked record of ours (an iterator) has turned -/
theorem Inv.turned {t' : Nat} {it : Addr} (I : Inv X pins σ H s) (k : ∀ b o, b ≠ it → s.heap.get? b = some o → h'.get? b = some o) (hn : H it = none) (hL : it ≠ X.env.locals)
    (h1 : it ∈ X.ex ∨ X.s₀.heap.objs.size ≤ it) (h2 : ∀ x c, X.env.cells.lookup x = some c → c ≠ it) (h3 : ∀ p ∈ X.pn ++ pins, p.1 ≠ it) : Inv X pins σ H { s with heap := h', toks := t' } := by
  have nit : ∀ b u, H b = some u → b ≠ it := fun b u e z => by rw [z, hn] at e; cases e
  refine I.step (g' := s.gens) (d' := s.drawn) (ch := [it]) (fun b hb => ?_) (fun b o _ _ hc e _ => k b o (fun z => hc (by simp [z])) e) (fun b o _ _ hc e _ => ⟨o.slots, k b o (fun z => hc (by simp [z])) e⟩) (fun _ _ _ _ n => n)
    (fun b o hc e => ⟨o, k b o (fun z => hc (by simp [z])) e⟩) (fun _ _ e => e) (fun _ _ _ e => e) (fun b ps e => ⟨#[], by rw [e]; simp⟩) (fun m hm => ?_) (fun b u e => ?_) I.bare
  · have e : b = it := by simpa using hb
    subst e
    exact ⟨h1, hL, h2, h3⟩
  · obtain ⟨o, es, ep, ho, r⟩ := hm
    exact ⟨o, es, ep, k _ o (Ne.symm hL) ho, r⟩
  · refine (I.hok b u e).stay (fun c v hc q => k c v ?_ q) (fun _ q => q) fun _ _ q => q
    rcases hc with z | z
    · rw [z]; exact nit b u e
    · exact nit c _ z
theorem Inv.tok (I : Inv X pins σ H s) (t : Nat) : Inv X pins σ H { s with toks := t } := I.un (h' := s.heap) (t' := t) Un.refl I.hok
/-- all objects kept -/
theorem Inv.kept {t' : Nat} (I : Inv X pins σ H s) (k : ∀ b u, s.heap.get? b = some u → h'.get? b = some u) : Inv X pins σ H { s with heap := h', toks := t' } := I.un (Un.kept k) (I.hok.kept k)
/-- a new object laid and tracked -/
theorem Inv.laid {a : Addr} {o : HO} {t' : Nat} (I : Inv X pins σ H s) (k : ∀ b u, s.heap.get? b = some u → h'.get? b = some u) (hp : s.heap.objs.size ≤ a) (new : ObjOk X.prog X.w (upd H a o) h' a o) :
    Inv X pins σ (upd H a o) { s with heap := h', toks := t' } := I.un (Un.laid k hp (I.hok.fresh hp)) (I.hok.laid k hp new)
/-- an object written -/
theorem Inv.write {x e : Addr} {o : HO} {t' : Nat} (I : Inv X pins σ H s) (mu : Mut (H x)) (he : e = x ∨ H e = some (.own x)) (k : ∀ b u, b ≠ e → s.heap.get? b = some u → h'.get? b = some u) (heo : ∃ u, h'.get? e = some u)
    (new : ObjOk X.prog X.w (upd H x o) h' x o) : Inv X pins σ (upd H x o) { s with heap := h', toks := t' } := I.un (Un.write mu he k heo) (I.hok.write mu he k heo new)
theorem Inv.pins_of {pins' : List (Addr × Obj)} (I : Inv X pins σ H s) (h : ∀ p ∈ pins', s.heap.get? p.1 = some p.2 ∧ H p.1 = none ∧ p.1 ≠ X.env.locals ∧ p.1 ∉ X.fs ∧ ∀ v, p.2.data ≠ .cell v) : Inv X pins' σ H s :=
  ⟨I.ok, I.os, I.bare, I.base, I.loc, I.cell, I.free, I.freeC, fun p hp => (List.mem_append.mp hp).elim (fun z => I.pin p (List.mem_append_left _ z)) (h p), I.hok, I.len⟩

theorem nodup_ix {N : List Str} (hN : N.Nodup) {i j : Nat} {x : Str} (a : N[i]? = some x) (b : N[j]? = some x) : i = j := by
  obtain ⟨h1, e1⟩ := List.getElem?_eq_some_iff.mp a
  obtain ⟨h2, e2⟩ := List.getElem?_eq_some_iff.mp b
  exact (List.getElem_inj hN).mp (e1.trans e2.symm)

/-- a name is stored; what changed -/
theorem store_ok2 {M : Model} {A : Around} {E : Value → Shared → Prop} {i : Nat} {x : Str} {v : V} {u : Value} {Q : Unit → Shared → Prop} (I : Inv X pins σ H s) (hN : X.N.Nodup) (hi : X.N[i]? = some x) (hx : Loc X.env.scope x) (r : RelV v u)
    (h : ∀ s', Inv X pins (σ.set i (some v)) H s' → (∃ a, Heap.SameBut a s.heap s'.heap ∧ (a = X.env.locals ∨ X.env.cells.lookup x = some a)) → Q () s') (hf : X.fn x = true ∨ X.env.scope.names.lookup x = some .local := by first | exact .inl rfl | exact .inr rfl | assumption) : wpAny M A (storeName X.env x u) Q E s := by
  obtain ⟨m, hn, hl⟩ := id I.loc
  have hcls : (X.env.scope.kind == .class || (X.env.scope.kind == .module && X.env.locals != X.env.globals)) = false := by rw [I.ok.kind]; rfl
  have hiσ : i < σ.length := by rw [I.len]; exact (List.getElem?_eq_some_iff.mp hi).1
  have cne := I.cne
  have tracked : ∀ {a : Addr} {h' : Heap}, (∃ o, s.heap.get? a = some o ∧ H a = none) → Heap.SameBut a s.heap h' → HOk X.prog X.w H h' := fun {a h'} ha hs b ob e => by
    obtain ⟨_, _, hfree⟩ := ha
    refine (I.hok b ob e).stay (fun c w' hc q => (hs.2 c ?_).trans q) (fun _ q => q) fun _ _ q => q
    rintro rfl
    rcases hc with rfl | hc
    · rw [hfree] at e; cases e
    · rw [hfree] at hc; cases hc
  rcases hx with hk | hk
  · refine wpAny_storeName_local hk hn (fun h' hn' hs => ?_) hcls
    obtain ⟨oL, _, _, hoL, _⟩ := id hn
    refine h _ ⟨I.ok, I.os, I.bare, ⟨fun b o e n hb hx => ?_, fun b o e n hb hx => ?_, I.base.free, fun b o e hx => ?_, I.base.tups, I.base.frzs, I.base.tbls⟩, ⟨_, hn', fun j y v' e1 e2 e3 => ?_⟩, fun y c e => ?_, I.free, I.freeC, fun p hp => ?_, tracked ⟨oL, hoL, I.free⟩ hs, by simpa using I.len⟩ ⟨_, hs, .inl rfl⟩
    · exact (hs.2 b (Nat.ne_of_lt (Nat.lt_of_lt_of_le (Heap.lt_size e) I.ok.above))).trans (I.base.keep b o e n hb hx)
    · obtain ⟨sl, e1⟩ := I.base.slot b o e n hb hx
      exact ⟨sl, (hs.2 b (Nat.ne_of_lt (Nat.lt_of_lt_of_le (Heap.lt_size e) I.ok.above))).trans e1⟩
    · obtain ⟨o', e1⟩ := I.base.there b o e hx
      exact ⟨o', (hs.2 b (Nat.ne_of_lt (Nat.lt_of_lt_of_le (Heap.lt_size e) I.ok.above))).trans e1⟩
    · by_cases hj : j = i
      · subst hj
        rw [hi] at e1; cases e1
        rw [List.getElem?_set_self hiσ] at e2
        cases e2
        exact ⟨u, r, .inl ⟨hk, by simp⟩⟩
      · rw [List.getElem?_set_ne (Ne.symm hj)] at e2
        obtain ⟨u', r', q⟩ := hl j y v' e1 e2 e3
        refine ⟨u', r', ?_⟩
        rcases q with ⟨k, e⟩ | ⟨k, c, e, z⟩
        · refine .inl ⟨k, ?_⟩
          have : y ≠ x := fun e => hj (nodup_ix hN e1 (e ▸ hi))
          simp [this, e]
        · exact .inr ⟨k, c, e, z.sameBut hs (cne y c e)⟩
    · obtain ⟨w', z⟩ := I.cell y c e
      exact ⟨w', z.sameBut hs (cne y c e)⟩
    · obtain ⟨e, n, ne, nf, d⟩ := I.pin p hp
      exact ⟨(hs.2 p.1 ne).trans e, n, ne, nf, d⟩
  · have hfn : X.fn x = true := by
      rcases hf with z | z
      · exact z
      · rw [z] at hk; cases hk
    obtain ⟨c, hc⟩ := I.ok.has x (.inl hk)
    obtain ⟨w', z⟩ := I.cell x c hc
    refine wpAny_storeName_cell I.ok.kind hk hc z (fun h' hc' hs => ?_)
    obtain ⟨oc, hoc, hocd⟩ := id z
    refine h { s with heap := h' } ⟨I.ok, I.os, I.bare, ⟨fun b o e n hb hx => ?_, fun b o e n hb hx => ?_, I.base.free, fun b o e hx => ?_, I.base.tups, I.base.frzs, I.base.tbls⟩, ⟨m, hn.sameBut hs (Ne.symm (cne x c hc)), fun j y v' e1 e2 e3 => ?_⟩, fun y c' e => ?_, I.free, I.freeC, fun p hp => ?_, tracked ⟨oc, hoc, I.freeC x c hc⟩ hs, by simpa using I.len⟩ ⟨c, hs, .inr hc⟩
    · exact (hs.2 b (Nat.ne_of_lt (Nat.lt_of_lt_of_le (Heap.lt_size e) (I.ok.cab x c hfn hc)))).trans (I.base.keep b o e n hb hx)
    · obtain ⟨sl, e1⟩ := I.base.slot b o e n hb hx
      exact ⟨sl, (hs.2 b (Nat.ne_of_lt (Nat.lt_of_lt_of_le (Heap.lt_size e) (I.ok.cab x c hfn hc)))).trans e1⟩
    · obtain ⟨o', e1⟩ := I.base.there b o e hx
      exact ⟨o', (hs.2 b (Nat.ne_of_lt (Nat.lt_of_lt_of_le (Heap.lt_size e) (I.ok.cab x c hfn hc)))).trans e1⟩
    · by_cases hj : j = i
      · subst hj
        rw [hi] at e1; cases e1
        rw [List.getElem?_set_self hiσ] at e2
        cases e2
        exact ⟨u, r, .inr ⟨.inl hk, c, hc, hc'⟩⟩
      · rw [List.getElem?_set_ne (Ne.symm hj)] at e2
        obtain ⟨u', r', q⟩ := hl j y v' e1 e2 e3
        refine ⟨u', r', ?_⟩
        rcases q with q | ⟨k, c', e, z'⟩
        · exact .inl q
        · refine .inr ⟨k, c', e, z'.sameBut hs ?_⟩
          rintro rfl
          exact hj (nodup_ix hN e1 (I.ok.inj _ _ _ e hc ▸ hi))
    · by_cases hcc : c' = c
      · subst hcc; exact ⟨_, hc'⟩
      · obtain ⟨w2, z2⟩ := I.cell y c' e
        exact ⟨w2, z2.sameBut hs hcc⟩
    · obtain ⟨e, n, ne, nf, d⟩ := I.pin p hp
      refine ⟨(hs.2 p.1 ?_).trans e, n, ne, nf, d⟩
      intro q
      rw [q, hoc] at e
      have q' : oc = p.2 := Option.some.inj e
      exact d w' (by rw [← q']; exact hocd)
theorem store_ok {M : Model} {A : Around} {E : Value → Shared → Prop} {i : Nat} {x : Str} {v : V} {u : Value} {Q : Unit → Shared → Prop} (I : Inv X pins σ H s) (hN : X.N.Nodup) (hi : X.N[i]? = some x) (hx : Loc X.env.scope x) (r : RelV v u)
    (h : ∀ s', Inv X pins (σ.set i (some v)) H s' → Q () s') (hf : X.fn x = true ∨ X.env.scope.names.lookup x = some .local := by first | exact .inl rfl | exact .inr rfl | assumption) : wpAny M A (storeName X.env x u) Q E s :=
  store_ok2 I hN hi hx r (fun s' I' _ => h s' I') hf
/-- behind a call or a block, the state as it is -/
theorem Inv.call' {s' : Shared} {ch : List Addr} (I : Inv X pins σ H s) (ho : s'.os = s.os) (u : Un (frs X.stack) ch H H' s.heap s'.heap) (hok : HOk X.prog X.w H' s'.heap) (hg : AllBare s'.gens)
    (hch : ∀ b ∈ ch, (b ∈ X.ex ∨ X.s₀.heap.objs.size ≤ b) ∧ b ≠ X.env.locals ∧ (∀ x c, X.env.cells.lookup x = some c → c ≠ b) ∧ ∀ p ∈ X.pn ++ pins, p.1 ≠ b) : Inv X pins σ H' s' := by
  obtain ⟨h', g', d', t', o'⟩ := s'
  have e : o' = s.os := ho
  subst e
  exact I.call (g' := g') (t' := t') (d' := d') u hok hg hch
end

/-! ### the judgements -/
/-- an exception: its class, its own dict's address (where it has one), the abstract heap behind it -/
abbrev XK := Value → Option Addr → Hp → Prop
abbrev St := List (Option V)
abbrev VK := V → Hp → Prop
/-- an expression's reading; a test's; an argument list's -/
abbrev TE := St → Hp → VK → Prop
abbrev TT := St → Hp → (Bool → Hp → Prop) → Prop
abbrev TA := St → Hp → (List V → Hp → Prop) → Prop
/-- what is wanted behind a statement -/
structure Ends where
  nx : St → Hp → Prop
  rt : VK
  bk : St → Hp → Prop := fun _ _ => False
  ct : St → Hp → Prop := fun _ _ => False
abbrev TS := Ends → St → Hp → Prop

def EP (X : Cx) (pins : List (Addr × Obj)) (σ : St) (Q : VK) (u : Value) (s' : Shared) : Prop := ∃ v H', Inv X pins σ H' s' ∧ RelV v u ∧ Q v H'
def TP (X : Cx) (pins : List (Addr × Obj)) (σ : St) (Q : Bool → Hp → Prop) (b : Bool) (s' : Shared) : Prop := ∃ H', Inv X pins σ H' s' ∧ Q b H'
def AP (X : Cx) (pins : List (Addr × Obj)) (σ : St) (Q : List V → Hp → Prop) (us : List Value) (s' : Shared) : Prop := ∃ vs H', Inv X pins σ H' s' ∧ Vals vs us ∧ Q vs H'
def SP (X : Cx) (pins : List (Addr × Obj)) (D : Ends) (f : Flow) (s' : Shared) : Prop :=
  match f with
  | .next => ∃ σ' H', Inv X pins σ' H' s' ∧ D.nx σ' H'
  | .brk => ∃ σ' H', Inv X pins σ' H' s' ∧ D.bk σ' H'
  | .cont => ∃ σ' H', Inv X pins σ' H' s' ∧ D.ct σ' H'
  | .ret u => ∃ v σ' H', Inv X pins σ' H' s' ∧ RelV v u ∧ D.rt v H'

def PE (X : Cx) (e : Expr) (t : TE) : Prop :=
  ∀ (pins : List (Addr × Obj)) (s : Shared) (σ : St) (H : Hp) (Q : VK), Inv X pins σ H s → t σ H Q → wpAny (model X.prog X.w) X.A (eval e X.env) (EP X pins σ Q) X.xe s
def PT (X : Cx) (e : Expr) (t : TT) : Prop :=
  ∀ (pins : List (Addr × Obj)) (s : Shared) (σ : St) (H : Hp) (Q : Bool → Hp → Prop), Inv X pins σ H s → t σ H Q → wpAny (model X.prog X.w) X.A (isTrue e X.env (eval e X.env)) (TP X pins σ Q) X.xe s
/-- a test whatever its 'whole' is (and, or) -/
def PW (X : Cx) (e : Expr) (t : TT) : Prop :=
  ∀ (whole : Sem Value) (pins : List (Addr × Obj)) (s : Shared) (σ : St) (H : Hp) (Q : Bool → Hp → Prop), Inv X pins σ H s → t σ H Q → wpAny (model X.prog X.w) X.A (isTrue e X.env whole) (TP X pins σ Q) X.xe s
theorem PW.pt {X : Cx} {e : Expr} {t : TT} (h : PW X e t) : PT X e t := h _
/-- an argument list (no star), from the left -/
def PA (X : Cx) (es : List Expr) (t : TA) : Prop :=
  ∀ (pos : Pos) (pins : List (Addr × Obj)) (s : Shared) (σ : St) (H : Hp) (Q : List V → Hp → Prop), Inv X pins σ H s → t σ H Q → wpAny (model X.prog X.w) X.A (spliced (backTo pos (starEach es X.env))) (AP X pins σ Q) X.xe s
def PS (X : Cx) (st : Stmt) (t : TS) : Prop :=
  ∀ (pins : List (Addr × Obj)) (s : Shared) (σ : St) (H : Hp) (D : Ends), Inv X pins σ H s → t D σ H → wpAny (model X.prog X.w) X.A (exec st X.env) (SP X pins D) X.xe s
def PSs (X : Cx) (st : List Stmt) (t : TS) : Prop :=
  ∀ (pins : List (Addr × Obj)) (s : Shared) (σ : St) (H : Hp) (D : Ends), Inv X pins σ H s → t D σ H → wpAny (model X.prog X.w) X.A (execs st X.env) (SP X pins D) X.xe s
/-- weaken the end -/
theorem thn {α : Type} {t : Sem α} {Q Q' : α → Shared → Prop} {M : Model} {A : Around} {E : Value → Shared → Prop} {s : Shared} (h : wpAny M A t Q E s) (hQ : ∀ a s, Q a s → Q' a s) : wpAny M A t Q' E s := wpAny_mono h hQ fun _ _ x => x
end L2

namespace L2
open PySem PySem.Spec PyProof.Rows
section
variable {X : Cx}

/-! ### names and constants -/
def tVar (i : Nat) : TE := fun σ H Q => ∃ v, σ[i]? = some (some v) ∧ Q v H
def tC (v : V) : TE := fun _ H Q => Q v H
theorem pe_var {i : Nat} {x : Str} {pos : Pos} (hN : X.N[i]? = some x) (hv : Vis X.env.scope x) (hd : (x == ("__debug__" : Str)) = false := by decide) (hcd : (x == ("__classdict__" : Str)) = false := by decide) : PE X (.Name x pos) (tVar i) := by
  intro pins s σ H Q I h
  obtain ⟨v, e, h⟩ := h
  obtain ⟨m, hn, hl⟩ := I.loc
  obtain ⟨u, r, l⟩ := hl i x v hN e hv
  have fin : EP X pins σ Q u s := ⟨v, H, I, r, h⟩
  rcases l with ⟨hk, hm⟩ | ⟨hk, c, hc, hcell⟩
  · exact wpAny_Name (wpAny_loadName_local I.ok.kind hk hn hm fin) hd
  · rcases hk with hk | hk
    · exact wpAny_Name (wpAny_loadName_cell I.ok.kind hk hc hcell fin) hd
    · exact wpAny_Name (wpAny_loadName_free I.ok.kind hk hc hcell fin hcd) hd
theorem pe_int {i j pos} : PE X (.Constant (.int i) j pos) (tC (.int i)) := fun _ _ _ H _ I h => wpAny_Constant_int ⟨.int i, H, I.tok _, ⟨_, rfl⟩, h⟩
theorem pe_bl {b j pos} : PE X (.Constant (.bool b) j pos) (tC (.bl b)) := fun _ _ _ H _ I h => Constant_bool ⟨.bl b, H, I, rfl, h⟩
theorem pe_str {x j pos} : PE X (.Constant (.str x) j pos) (tC (.str x)) := fun _ _ _ H _ I h => Calls.Constant_str ⟨.str x, H, I.tok _, ⟨_, rfl⟩, h⟩

/-- a global name of the def -/
def Gl (X : Cx) (x : Str) : Prop := X.env.kindOf x = some .globalImplicit
theorem ld_glob {E : Value → Shared → Prop} {pins : List (Addr × Obj)} {s : Shared} {σ : St} {H : Hp} {x : Str} {u : Value} {pos : Pos} {Q : Value → Shared → Prop} (I : Inv X pins σ H s) (hg : Gl X x) (hm : X.mg x = some u) (h : Q u s)
    (hd : (x == ("__debug__" : Str)) = false := by decide) : wpAny (model X.prog X.w) X.A (eval (.Name x pos) X.env) Q E s :=
  Calls.Name_function_global I.ok.kind hg (Calls.loadGlobal_global (by rw [I.ok.glob]; exact I.mod.glob.keeps I.bk) hm h) hd
theorem ld_blt {E : Value → Shared → Prop} {pins : List (Addr × Obj)} {s : Shared} {σ : St} {H : Hp} {x : Str} {u : Value} {pos : Pos} {Q : Value → Shared → Prop} (I : Inv X pins σ H s) (hg : Gl X x) (hm : X.mg x = none) (hv : bootBuiltins x = some u) (h : Q u s)
    (hn : x ≠ "__name__" := by decide) (hd : (x == ("__debug__" : Str)) = false := by decide) : wpAny (model X.prog X.w) X.A (eval (.Name x pos) X.env) Q E s := by
  obtain ⟨mb, h1, h2⟩ := I.mod.blt
  exact Calls.Name_function_global I.ok.kind hg (Calls.loadGlobal_builtin (by rw [I.ok.glob]; exact I.mod.glob.keeps I.bk) hm (by rw [I.ok.blt]; exact h1.keeps I.bk) ((h2 x hn).trans hv) h) hd
/-- a module's constant, a class, a function, as a value -/
theorem pe_glob {x : Str} {v : V} {u : Value} {pos : Pos} (hg : Gl X x) (hm : X.mg x = some u) (r : RelV v u) (hd : (x == ("__debug__" : Str)) = false := by decide) : PE X (.Name x pos) (tC v) :=
  fun _ _ _ H _ I h => ld_glob I hg hm ⟨v, H, I, r, h⟩ hd
theorem pe_bltn {x : Str} {v : V} {u : Value} {pos : Pos} (hg : Gl X x) (hm : X.mg x = none) (hv : bootBuiltins x = some u) (r : RelV v u) (hn : x ≠ "__name__" := by decide) (hd : (x == ("__debug__" : Str)) = false := by decide) : PE X (.Name x pos) (tC v) :=
  fun _ _ _ H _ I h => ld_blt I hg hm hv ⟨v, H, I, r, h⟩ hn hd

/-! ### arithmetic -/
variable {a b : Expr} {ta tb : TE} {pos : Pos}
/-! ### comparisons -/
/-- a comparison as a value, as a test -/
def tB (t : TE) : TT := fun σ H Q => t σ H fun x H1 => ∃ c, x = .bl c ∧ Q c H1
/-- an expression whose value is a bool, as a test -/
theorem pt_val {e : Expr} {t : TE} (h : PE X e t) (he : ∀ whole, isTrue e X.env whole = (do let v ← whole; standAt e.pos; holding [v] (truthy v)) := by intro _; rfl) : PT X e (tB t) := by
  intro pins s σ H Q I hw
  refine isTrue_plain (thn (h pins s σ H _ I hw) fun v s1 ⟨x, H1, I1, r1, q1⟩ => ?_) (he _)
  obtain ⟨d, rfl, q⟩ := q1
  cases r1
  exact wpAny_truthy_bool ⟨H1, I1, q⟩

/-! ### and, or, not -/
variable {tA tB' : TT} {rest : List Expr}
def tAnd (t u : TT) : TT := fun σ H Q => t σ H fun c H1 => if c = true then u σ H1 Q else Q false H1
def tOr (t u : TT) : TT := fun σ H Q => t σ H fun c H1 => if c = true then Q true H1 else u σ H1 Q
def tNot (t : TT) : TT := fun σ H Q => t σ H fun c H1 => Q (!c) H1
theorem pw_and1 (ha : PT X a tA) : PW X (.BoolOp .And [a] pos) tA := by
  intro wh pins s σ H Q I h
  refine isTrue_and (thn (ha pins s σ H Q I h) fun c s1 e => ?_)
  cases c with
  | true => exact isTrue_and_nil e
  | false => exact e
theorem pw_or1 (ha : PT X a tA) : PW X (.BoolOp .Or [a] pos) tA := by
  intro wh pins s σ H Q I h
  refine isTrue_or (thn (ha pins s σ H Q I h) fun c s1 e => ?_)
  cases c with
  | false => exact isTrue_or_nil e
  | true => exact e
theorem pw_and (ha : PT X a tA) (hb : PW X (.BoolOp .And (b :: rest) pos) tB') : PW X (.BoolOp .And (a :: b :: rest) pos) (tAnd tA tB') := by
  intro wh pins s σ H Q I h
  refine isTrue_and (thn (ha pins s σ H _ I h) fun c s1 ⟨H1, I1, q1⟩ => ?_)
  cases c with
  | true => exact hb wh pins s1 σ H1 Q I1 q1
  | false => exact ⟨H1, I1, q1⟩
theorem pw_or (ha : PT X a tA) (hb : PW X (.BoolOp .Or (b :: rest) pos) tB') : PW X (.BoolOp .Or (a :: b :: rest) pos) (tOr tA tB') := by
  intro wh pins s σ H Q I h
  refine isTrue_or (thn (ha pins s σ H _ I h) fun c s1 ⟨H1, I1, q1⟩ => ?_)
  cases c with
  | true => exact ⟨H1, I1, q1⟩
  | false => exact hb wh pins s1 σ H1 Q I1 q1
theorem pt_not (ha : PT X a tA) : PT X (.UnaryOp .Not a pos) (tNot tA) := by
  intro pins s σ H Q I h
  exact isTrue_not (ha pins s σ H (fun c H1 => Q (!c) H1) I h)
/-- .. as values (bools) -/
def tAndV (ta tb : TE) : TE := fun σ H Q => ta σ H fun x H1 => ∃ c, x = .bl c ∧ if c = true then tb σ H1 Q else Q (.bl false) H1
def tNotV (ta : TE) : TE := fun σ H Q => ta σ H fun x H1 => ∃ c, x = .bl c ∧ Q (.bl (!c)) H1
theorem pe_one {op} {t : TE} (h : PE X a t) : PE X (.BoolOp op [a] pos) t := fun pins s σ H Q I hw => BoolOp_one (h pins s σ H Q I hw)
theorem pe_and (ha : PE X a ta) (hb : PE X (.BoolOp .And (b :: rest) pos) tb) : PE X (.BoolOp .And (a :: b :: rest) pos) (tAndV ta tb) := by
  intro pins s σ H Q I h
  refine BoolOp_and (thn (ha pins s σ H _ I h) fun v s1 ⟨x, H1, I1, r1, q1⟩ => ?_)
  obtain ⟨c, rfl, q1⟩ := q1
  cases r1
  refine wpAny_truthy_bool ?_
  cases c with
  | true => exact hb pins s1 σ H1 Q I1 q1
  | false => exact ⟨.bl false, H1, I1, rfl, q1⟩
theorem pe_not (ha : PE X a ta) : PE X (.UnaryOp .Not a pos) (tNotV ta) := by
  intro pins s σ H Q I h
  refine UnaryOp_ (thn (ha pins s σ H _ I h) fun v s1 ⟨x, H1, I1, r1, q1⟩ => ?_)
  obtain ⟨c, rfl, q1⟩ := q1
  cases r1
  exact not_of (wpAny_truthy_bool ⟨.bl (!c), H1, I1, rfl, q1⟩)
end
end L2

namespace L2
open PySem PySem.Spec PyProof.Rows

/-! ### a list, a tuple that is read: tracked, frozen, or an object of the module -/
def SqL (K : PySem.W.Frag) (H : Hp) (a : Addr) (xs : List V) : Prop :=
  Rd H a (.lst xs) ∨
    ∃ (o : Obj) (its : Array Value) (n : Nat), K.lookup a = some o ∧ o.cls = .type "list" ∧ o.dict = none ∧ o.data = .seq its n ∧ its.size ≤ sizeLine ∧ Vals xs its.toList
def SqT (K : PySem.W.Frag) (H : Hp) (a : Addr) (xs : List V) : Prop :=
  Rd H a (.tup xs) ∨
    ∃ (o : Obj) (its : Array Value) (n : Nat), K.lookup a = some o ∧ o.cls = .type "tuple" ∧ o.data = .seq its n ∧ its.size ≤ sizeLine ∧ Vals xs its.toList
def absV : Value → Option V
  | .none => some .non
  | .bool b => some (.bl b)
  | .int i _ => some (.int i)
  | .str x _ => some (.str x)
  | .bytes b _ => some (.byt b)
  | .float b _ => some (.flt b)
  | .ref a => some (.ref a)
  | .type n => some (.ty n)
  | _ => none
theorem RelV.abs {x : V} {u : Value} (r : RelV x u) : absV u = some x := by
  cases x with
  | non => cases r; rfl
  | bl _ => cases r; rfl
  | int _ => obtain ⟨t, rfl⟩ := r; rfl
  | str _ => obtain ⟨t, rfl⟩ := r; rfl
  | byt _ => obtain ⟨t, rfl⟩ := r; rfl
  | flt _ => obtain ⟨t, rfl⟩ := r; rfl
  | ref _ => cases r; rfl
  | ty _ => cases r; rfl
theorem RelV.inj {x y : V} {u : Value} (r : RelV x u) (q : RelV y u) : x = y := Option.some.inj (r.abs.symm.trans q.abs)
theorem Vals.inj : ∀ {xs ys : List V} {us : List Value}, Vals xs us → Vals ys us → xs = ys
  | _, _, _, .nil, .nil => rfl
  | _, _, _, .cons r t, .cons r' t' => by rw [r.inj r', Vals.inj t t']
section
variable {X : Cx} {pins : List (Addr × Obj)} {σ : St} {H : Hp} {s : Shared} {a : Addr} {xs ys : List V}
theorem SqL.of {K : PySem.W.Frag} (h : H a = some (.lst xs)) : SqL K H a xs := .inl (.inl h)
theorem SqT.of {K : PySem.W.Frag} (h : H a = some (.tup xs)) : SqT K H a xs := .inl (.inl h)
theorem Inv.list (I : Inv X pins σ H s) (h : SqL X.K H a xs) : ∃ its : List Value, Vals xs its ∧ PlainL s.heap a its.toArray ∧ xs.length ≤ sizeLine := by
  rcases h with h | ⟨o, its, n, hk, hc, hd, hs, hz, r⟩
  · obtain ⟨z, its, n, r, e⟩ := h.ok I.hok
    exact ⟨its, r, ⟨_, n, e, rfl, rfl, rfl⟩, z⟩
  · refine ⟨its.toList, r, ⟨o, n, I.kIn a o hk, hc, hd, by simpa using hs⟩, ?_⟩
    have e := r.length
    simp only [Array.length_toList] at e
    omega
theorem Inv.tuple (I : Inv X pins σ H s) (h : SqT X.K H a xs) : ∃ its : List Value, Vals xs its ∧ IsTup s.heap a its.toArray ∧ xs.length ≤ sizeLine := by
  rcases h with h | ⟨o, its, n, hk, hc, hs, hz, r⟩
  · obtain ⟨z, its, r, p⟩ := h.ok I.hok
    exact ⟨its, r, p, z⟩
  · refine ⟨its.toList, r, ⟨o, I.kIn a o hk, hc, n, by simpa using hs⟩, ?_⟩
    have e := r.length
    simp only [Array.length_toList] at e
    omega
theorem Inv.list_inj (I : Inv X pins σ H s) (h : SqL X.K H a xs) (h' : SqL X.K H a ys) : xs = ys := by
  obtain ⟨its, r, ⟨o, n, e, _, _, d⟩, _⟩ := I.list h
  obtain ⟨its', r', ⟨o', n', e', _, _, d'⟩, _⟩ := I.list h'
  rw [e] at e'; cases e'
  rw [d] at d'
  injection d' with d1 _
  have : its = its' := by simpa using congrArg Array.toList d1
  subst this
  exact r.inj r'
theorem Inv.tuple_inj (I : Inv X pins σ H s) (h : SqT X.K H a xs) (h' : SqT X.K H a ys) : xs = ys := by
  obtain ⟨its, r, ⟨o, e, _, n, d⟩, _⟩ := I.tuple h
  obtain ⟨its', r', ⟨o', e', _, n', d'⟩, _⟩ := I.tuple h'
  rw [e] at e'; cases e'
  rw [d] at d'
  injection d' with d1 _
  have : its = its' := by simpa using congrArg Array.toList d1
  subst this
  exact r.inj r'
end

/-! ### another wish about exceptions -/
abbrev Cx.wish (X : Cx) (E : Value → Shared → Prop) : Cx := { X with xe := E }
/-- no exception leaves -/
abbrev Cx.nox (X : Cx) : Cx := X.wish fun _ _ => False
theorem Cx.Ok.wish {X : Cx} (ok : X.Ok) (E : Value → Shared → Prop) : (X.wish E).Ok :=
  ⟨ok.mod, ok.kind, ok.glob, ok.blt, ok.above, ok.inj, ok.has, ok.cab, ok.hd, ok.frames, ok.stk, ok.exf, ok.bs, ok.bsz, ok.noex, ok.exfs, ok.funs, ok.frf⟩
theorem Cx.Ok.unwish {X : Cx} {E : Value → Shared → Prop} (ok : (X.wish E).Ok) : X.Ok :=
  ⟨ok.mod, ok.kind, ok.glob, ok.blt, ok.above, ok.inj, ok.has, ok.cab, ok.hd, ok.frames, ok.stk, ok.exf, ok.bs, ok.bsz, ok.noex, ok.exfs, ok.funs, ok.frf⟩
section
variable {X : Cx} {pins : List (Addr × Obj)} {σ : St} {H : Hp} {s : Shared} {E : Value → Shared → Prop}
theorem Inv.wish (I : Inv X pins σ H s) (E : Value → Shared → Prop) : Inv (X.wish E) pins σ H s := ⟨I.ok.wish E, I.os, I.bare, I.base, I.loc, I.cell, I.free, I.freeC, I.pin, I.hok, I.len⟩
theorem Inv.unwish (I : Inv (X.wish E) pins σ H s) : Inv X pins σ H s := ⟨I.ok.unwish, I.os, I.bare, I.base, I.loc, I.cell, I.free, I.freeC, I.pin, I.hok, I.len⟩
theorem SP.unwish {D : Ends} {f : Flow} {s' : Shared} (h : SP (X.wish E) pins D f s') : SP X pins D f s' := by
  cases f with
  | next => obtain ⟨σ', H', I, q⟩ := h; exact ⟨σ', H', I.unwish, q⟩
  | brk => obtain ⟨σ', H', I, q⟩ := h; exact ⟨σ', H', I.unwish, q⟩
  | cont => obtain ⟨σ', H', I, q⟩ := h; exact ⟨σ', H', I.unwish, q⟩
  | ret u => obtain ⟨v, σ', H', I, r, q⟩ := h; exact ⟨v, σ', H', I.unwish, r, q⟩
theorem PSs.nox {st : List Stmt} {t : TS} (h : PSs X.nox st t) : PSs X st t := fun pins s σ H D I hw =>
  wpAny_mono (h pins s σ H D (I.wish _) hw) (fun _ _ q => q.unwish) fun _ _ z => False.elim z
end

/-! ### blocks and small statements -/
section
variable {X : Cx} {st : Stmt} {rest : List Stmt} {t u : TS} {e : Expr} {te : TE} {pos : Pos}
def tNext : TS := fun D σ H => D.nx σ H
def tSeq (t u : TS) : TS := fun D σ H => t { D with nx := u D } σ H
theorem pss_nil : PSs X [] tNext := fun _ _ σ H _ I h => wpAny_execs_nil ⟨σ, H, I, h⟩
theorem pss_cons (h1 : PS X st t) (h2 : PSs X rest u) : PSs X (st :: rest) (tSeq t u) := by
  intro pins s σ H D I h
  refine wpAny_execs_cons (thn (h1 pins s σ H { D with nx := u D } I h) fun f s1 q => ?_)
  cases f with
  | next =>
    obtain ⟨σ', H', I', q⟩ := q
    exact h2 pins s1 σ' H' D I' q
  | ret v => exact q
  | brk => exact q
  | cont => exact q
theorem pss_one (h1 : PS X st t) : PSs X [st] t := by
  intro pins s σ H D I h
  refine wpAny_execs_cons (thn (h1 pins s σ H D I h) fun f s1 q => ?_)
  cases f with
  | next => exact wpAny_execs_nil q
  | ret v => exact q
  | brk => exact q
  | cont => exact q
/-- in a def's body nothing is shown -/
theorem Inv.quiet {pins : List (Addr × Obj)} {σ : St} {H : Hp} {s : Shared} (I : Inv X pins σ H s) : interactive X.env = false := by simp [interactive, I.ok.kind]
/-- an expression whose value is dropped -/
def tDrop (te : TE) : TS := fun D σ H => te σ H fun _ H1 => D.nx σ H1
theorem ps_expr (he : PE X e te) (hs : swapsWith e none pos.line X.env = pure false := by rfl) : PS X (.Expr e pos) (tDrop te) := by
  intro pins s σ H D I h
  exact wpAny_Expr_any (thn (he pins s σ H _ I h) fun v s1 ⟨x, H1, I1, r1, q1⟩ => ⟨σ, H1, I1, q1⟩) I.quiet hs
def tRet (te : TE) : TS := fun D σ H => te σ H D.rt
theorem ps_ret (he : PE X e te) : PS X (.Return (some e) pos) (tRet te) := by
  intro pins s σ H D I h
  exact wpAny_Return_some (thn (he pins s σ H _ I h) fun v s1 ⟨x, H1, I1, r1, q1⟩ => ⟨x, σ, H1, I1, r1, q1⟩)
def tIfS (c : TT) (t u : TS) : TS := fun D σ H => c σ H fun b H1 => if b = true then t D σ H1 else u D σ H1
theorem ps_if {c : Expr} {a b : List Stmt} {tc : TT} (hc : PT X c tc) (ha : PSs X a t) (hb : PSs X b u) : PS X (.If c a b pos) (tIfS tc t u) := by
  intro pins s σ H D I h
  refine wpAny_If (thn (hc pins s σ H _ I h) fun d s1 ⟨H1, I1, q1⟩ => ?_)
  cases d with
  | true => exact ha pins s1 σ H1 D I1 q1
  | false => exact hb pins s1 σ H1 D I1 q1
end

/-! ### targets -/
abbrev TG := V → St → Hp → (St → Hp → Prop) → Prop
abbrev TGs := List V → St → Hp → (St → Hp → Prop) → Prop
def PG (X : Cx) (target : Expr) (t : TG) : Prop :=
  ∀ (pins : List (Addr × Obj)) (s : Shared) (σ : St) (H : Hp) (v : V) (u : Value) (Q : St → Hp → Prop), Inv X pins σ H s → RelV v u → t v σ H Q →
    wpAny (model X.prog X.w) X.A (assign target X.env u) (fun _ s' => ∃ σ' H', Inv X pins σ' H' s' ∧ Q σ' H') X.xe s
/-- several targets, one after another -/
def PGs (X : Cx) (ts : List Expr) (t : TGs) : Prop :=
  ∀ (pins : List (Addr × Obj)) (s : Shared) (σ : St) (H : Hp) (vs : List V) (us : List Value) (Q : St → Hp → Prop), Inv X pins σ H s → Vals vs us → t vs σ H Q →
    wpAny (model X.prog X.w) X.A (assignInOrder ((assignEach ts X.env).map (·.2)) us) (fun _ s' => ∃ σ' H', Inv X pins σ' H' s' ∧ Q σ' H') X.xe s
/-- o[i] = v, by values -/
abbrev TSet := V → V → V → Hp → (Hp → Prop) → Prop
def PSet (X : Cx) (t : TSet) : Prop :=
  ∀ (pins : List (Addr × Obj)) (s : Shared) (σ : St) (H : Hp) (o i v : V) (ov iv u : Value) (Q : Hp → Prop), Inv X pins σ H s → RelV o ov → RelV i iv → RelV v u → t o i v H Q →
    wpAny (model X.prog X.w) X.A (setItem ov iv u) (fun _ s' => ∃ H', Inv X pins σ H' s' ∧ Q H') X.xe s
section
variable {X : Cx} {pos : Pos}
def gName (i : Nat) : TG := fun v σ H Q => Q (σ.set i (some v)) H
theorem pg_name {i : Nat} {x : Str} (hN : X.N.Nodup) (hi : X.N[i]? = some x) (hx : Loc X.env.scope x) (hf : X.fn x = true ∨ X.env.scope.names.lookup x = some .local := by first | exact .inl rfl | exact .inr rfl | assumption) : PG X (.Name x pos) (gName i) := by
  intro pins s σ H v u Q I r h
  exact wpAny_assign_Name (store_ok I hN hi hx r (fun s' I' => ⟨_, H, I', h⟩) hf)
def gNil : TGs := fun vs σ H Q => vs = [] ∧ Q σ H
def gCons (t : TG) (u : TGs) : TGs := fun vs σ H Q => ∃ v r, vs = v :: r ∧ t v σ H fun σ' H' => u r σ' H' Q
theorem pgs_nil : PGs X [] gNil := by
  intro pins s σ H vs us Q I r h
  obtain ⟨e, h⟩ := h
  subst e
  cases r
  exact assignInOrder_nil ⟨σ, H, I, h⟩
theorem pgs_cons {e : Expr} {es : List Expr} {t : TG} {u : TGs} (h1 : PG X e t) (h2 : PGs X es u)
    (hs : (assignEach (e :: es) X.env).map (·.2) = assign e X.env :: (assignEach es X.env).map (·.2) := by rfl) : PGs X (e :: es) (gCons t u) := by
  intro pins s σ H vs us Q I r h
  obtain ⟨v, vr, e1, h⟩ := h
  subst e1
  cases r with
  | cons r rr =>
    rw [hs]
    refine assignInOrder_cons (thn (h1 pins s σ H _ _ _ I r h) fun _ s1 ⟨σ1, H1, I1, q1⟩ => ?_)
    exact h2 pins s1 σ1 H1 _ _ Q I1 rr q1
/-- (a, b, ..) = a tuple of that length -/
def gTup (K : PySem.W.Frag) (n : Nat) (t : TGs) : TG := fun v σ H Q => ∃ a xs, v = .ref a ∧ SqT K H a xs ∧ xs.length = n ∧ t xs σ H Q
theorem pg_tup {es : List Expr} {k : Nat} {t : TGs} {n : Nat} (hc : X.calm = true) (h : PGs X es t)
    (hn : (assignEach es X.env).length = n := by rfl) (hst : (assignEach es X.env).findIdx? (·.1) = none := by rfl) : PG X (.Tuple es k pos) (gTup X.K n t) := by
  intro pins s σ H v u Q I r hw
  obtain ⟨a, xs, e1, hq, hl, hw⟩ := hw
  subst e1
  cases r
  obtain ⟨its, rv, ht, hz⟩ := I.tuple hq
  refine assign_Tuple_tuple (I.ok.hd hc) ht (by simp [hn, ← hl, rv.length]) hst fun h' hx => ?_
  have I1 : Inv X pins σ H { s with heap := h' } := I.kept (t' := s.toks) fun b o e => hx b o (Nat.ne_of_lt (Heap.lt_size e)) e
  exact h pins _ σ H xs _ Q I1 (by simpa using rv) hw
/-- o[i] = .. -/
def gSub (to ti : TE) (t : TSet) : TG := fun v σ H Q => to σ H fun o H1 => ti σ H1 fun i H2 => t o i v H2 fun H3 => Q σ H3
theorem pg_sub {o i : Expr} {to ti : TE} {t : TSet} (ho : PE X o to) (hi : PE X i ti) (hs : PSet X t)
    (ha : ∀ v, assign (.Subscript o i pos) X.env v = (do
      let ov ← holding [v] (eval o X.env)
      let iv ← holding [v, ov] (eval i X.env)
      standAt pos
      holding [v, ov, iv] (setItem ov iv v)
      release [v, ov, iv] []) := by intro _; rfl) : PG X (.Subscript o i pos) (gSub to ti t) := by
  intro pins s σ H v u Q I r h
  rw [ha]
  refine wpAny_bind (wpAny_holding (thn (ho pins s σ H _ I h) fun ov s1 ⟨x, H1, I1, r1, q1⟩ => ?_))
  refine wpAny_bind (wpAny_holding (thn (hi pins s1 σ H1 _ I1 q1) fun iv s2 ⟨y, H2, I2, r2, q2⟩ => ?_))
  refine wpAny_bind (wpAny_standAt (wpAny_bind (wpAny_holding (thn (hs pins s2 σ H2 x y v ov iv u _ I2 r1 r2 r q2) fun _ s3 ⟨H3, I3, q3⟩ => ?_))))
  exact wpAny_release ⟨σ, H3, I3, q3⟩
/-- target = value -/
def tAsg (te : TE) (g : TG) : TS := fun D σ H => te σ H fun x H1 => g x σ H1 D.nx
theorem ps_asg {tg e : Expr} {te : TE} {g : TG} (he : PE X e te) (hg : PG X tg g) (hs : swapsWithSole [tg] e pos.line X.env = pure false := by rfl) (hw : swappedStores [tg] e X.env = pure none := by rfl)
    (h1 : (assignEach [tg] X.env).map (·.2) = [assign tg X.env] := by rfl) : PS X (.Assign [tg] e pos) (tAsg te g) := by
  intro pins s σ H D I h
  refine wpAny_Assign_stores (thn (he pins s σ H _ I h) fun v s1 ⟨x, H1, I1, r1, q1⟩ => ?_) hs hw
  rw [h1]
  exact thn (hg pins s1 σ H1 x v _ I1 r1 q1) fun _ s2 q => q
/-- name = value -/
theorem ps_set {i : Nat} {x : Str} {e : Expr} {te : TE} {pos' : Pos} (hN : X.N.Nodup) (hi : X.N[i]? = some x) (hx : Loc X.env.scope x) (he : PE X e te) (hs : swapsWith e (some (.Name x pos')) pos.line X.env = pure false := by rfl) (hf : X.fn x = true ∨ X.env.scope.names.lookup x = some .local := by first | exact .inl rfl | exact .inr rfl | assumption) :
    PS X (.Assign [.Name x pos'] e pos) (tAsg te (gName i)) := by
  intro pins s σ H D I h
  refine wpAny_Assign_Name (thn (he pins s σ H _ I h) fun v s1 ⟨y, H1, I1, r1, q1⟩ => ?_) hs
  exact store_ok I1 hN hi hx r1 (fun s2 I2 => ⟨_, H1, I2, q1⟩) hf
end

/-! ### while -/
section
variable {X : Cx} {pos : Pos}
end

/-! ### what a loop or a comprehension walks -/
/-- at turn i: it yields x (the heap may grow), or it stops -/
structure It where
  go : Nat → Hp → Prop
  yld : Nat → Hp → V → Hp → Prop
  stop : Nat → Hp → Prop
/-- the iterator's own objects may turn: they are not the frame's, not pinned, younger than the entry (or a comprehension's own) -/
def FpOk (X : Cx) (pins : List (Addr × Obj)) (H : Hp) (b : Addr) : Prop :=
  H b = none ∧ b ≠ X.env.locals ∧ b ∉ X.fs ∧ (b ∈ X.ex ∨ X.s₀.heap.objs.size ≤ b) ∧ (∀ x c, X.env.cells.lookup x = some c → c ≠ b) ∧ ∀ p ∈ X.pn ++ pins, p.1 ≠ b
theorem Inv.fpOk {X : Cx} {pins : List (Addr × Obj)} {σ : St} {H H' : Hp} {s : Shared} {b : Addr} (I : Inv X pins σ H s) (hb : s.heap.objs.size ≤ b) (hn : H' b = none) : FpOk X pins H' b := by
  refine ⟨hn, Nat.ne_of_gt (Nat.lt_of_lt_of_le I.lt hb), I.nofs hb, .inr (Nat.le_trans I.sz hb), fun x c e z => ?_, fun p hp z => ?_⟩
  · obtain ⟨v, q⟩ := I.cell x c e
    exact absurd (Nat.lt_of_lt_of_le q.lt (by rw [z]; exact hb)) (Nat.lt_irrefl _)
  · exact absurd (Nat.lt_of_lt_of_le (Heap.lt_size (I.pin p hp).1) (by rw [z]; exact hb)) (Nat.lt_irrefl _)
structure Turn (P : Program) (w : World) (K : PySem.W.Frag) (tg : Expr) (J : It) (fp : List Addr) (it : Addr) (tn : Nat → Heap → Prop) : Prop where
  mem : it ∈ fp
  obj : ∀ i h, tn i h → ∀ b ∈ fp, ∃ o, h.get? b = some o ∧ ∀ v, o.data ≠ .cell v
  keep : ∀ i h h', tn i h → (∀ b ∈ fp, ∀ o, h.get? b = some o → h'.get? b = some o) → tn i h'
  item : ∀ (X : Cx), X.prog = P → X.w = w → X.K = K → X.calm = true → ∀ (i : Nat) (pins : List (Addr × Obj)) (s : Shared) (σ : St) (H : Hp) (E : Value → Shared → Prop), Inv X pins σ H s → (∀ b ∈ fp, FpOk X pins H b) → tn i s.heap → J.go i H →
    wpAny (model P w) X.A (pyNext (.ref it)) (fun r s1 => ∃ u, r = some u ∧
      wpAny (model P w) X.A (letOwnedTupleGo tg (.ref it) u) (fun _ s2 => ∃ x H', Inv X pins σ H' s2 ∧ RelV x u ∧ J.yld i H x H' ∧ tn (i + 1) s2.heap ∧ ∀ b ∈ fp, H' b = none) E s1) E s
  done : ∀ (X : Cx), X.prog = P → X.w = w → X.K = K → X.calm = true → ∀ (i : Nat) (pins : List (Addr × Obj)) (s : Shared) (σ : St) (H : Hp) (E : Value → Shared → Prop), Inv X pins σ H s → (∀ b ∈ fp, FpOk X pins H b) → tn i s.heap → J.stop i H →
    wpAny (model P w) X.A (pyNext (.ref it)) (fun r s1 => r = none ∧ Inv X pins σ H s1) E s
  self : ∀ (A : Around) (i : Nat) (s : Shared) (Q : Value → Shared → Prop) (E : Value → Shared → Prop), tn i s.heap → Q (.ref it) s → wpAny (model P w) A (pyIter (.ref it)) Q E s
abbrev TI := St → Hp → (It → Hp → Prop) → Prop
/-- an iterator has come -/
def PIE (X : Cx) (pins : List (Addr × Obj)) (σ : St) (tg : Expr) (R : It → Hp → Prop) (itv : Value) (s2 : Shared) : Prop :=
  ∃ (it : Addr) (fp : List Addr) (tn : Nat → Heap → Prop) (J : It) (H' : Hp), itv = .ref it ∧ Inv X pins σ H' s2 ∧ Turn X.prog X.w X.K tg J fp it tn ∧ tn 0 s2.heap ∧ (∀ b ∈ fp, FpOk X pins H' b) ∧ R J H'
def PI (X : Cx) (tg iter : Expr) (wi : TI) : Prop :=
  ∀ (pins : List (Addr × Obj)) (s : Shared) (σ : St) (H : Hp) (R : It → Hp → Prop), Inv X pins σ H s → wi σ H R →
    wpAny (model X.prog X.w) X.A (eval iter X.env) (fun v s1 => wpAny (model X.prog X.w) X.A (pyIter v) (PIE X pins σ tg R) X.xe s1) X.xe s

/-- the step ahead of the store is nothing for an iterator that keeps no tuple -/
theorem go_of {M : Model} {A : Around} {E : Value → Shared → Prop} {s : Shared} {tg : Expr} {it : Addr} {u : Value} {o : Obj} {n : String} {vs : Array Value} {Q : Unit → Shared → Prop} (ho : s.heap.get? it = some o) (hc : o.cls = .type n) (hd : o.data = .fields vs)
    (hn : ["enumerate", "zip", "dict_itemiterator", "dict_reverseitemiterator", "odict_iterator", "itertools.zip_longest", "itertools.pairwise"].contains n = false) (hQ : Q () s) : wpAny M A (letOwnedTupleGo tg (.ref it) u) Q E s := by
  unfold letOwnedTupleGo
  cases tg <;> first
    | exact wpAny_pure hQ
    | (cases u <;> first
        | exact wpAny_pure hQ
        | (refine wpAny_bind (wpAny_load ho ?_)
           rw [hc, hd]
           show wpAny M A (if (["enumerate", "zip", "dict_itemiterator", "dict_reverseitemiterator", "odict_iterator", "itertools.zip_longest", "itertools.pairwise"].contains n && vs[0]? == some (rawInt _)) = true then _ else _) Q E s
           rw [if_neg (by intro h; rw [hn, Bool.false_and] at h; cases h)]
           exact wpAny_pure hQ))

/-- the list at a, as it stands at each turn (a loop may append to it) -/
def Itl (K : PySem.W.Frag) (a : Addr) : It :=
  ⟨fun i H => ∃ xs x, SqL K H a xs ∧ xs[i]? = some x, fun i H x H' => H' = H ∧ ∀ xs, SqL K H a xs → xs[i]? = some x, fun i H => ∃ xs, SqL K H a xs ∧ xs.length ≤ i⟩
def Itt (K : PySem.W.Frag) (a : Addr) : It :=
  ⟨fun i H => ∃ xs x, SqT K H a xs ∧ xs[i]? = some x, fun i H x H' => H' = H ∧ ∀ xs, SqT K H a xs → xs[i]? = some x, fun i H => ∃ xs, SqT K H a xs ∧ xs.length ≤ i⟩
/-- lo, lo + 1, .. (n of them) -/
def Itr (lo : Int) (n : Nat) : It := ⟨fun i _ => i < n, fun i H x H' => H' = H ∧ x = .int (lo + i), fun i _ => n ≤ i⟩
theorem turn_list {P : Program} {w : World} {K : PySem.W.Frag} {tg : Expr} (a it : Addr) : Turn P w K tg (Itl K a) [it] it (fun i h => h.IsListIter it a i) where
  mem := by simp
  obj := fun i h st b hb => by
    have e : b = it := by simpa using hb
    subst e
    obtain ⟨o, e, c, d⟩ := st
    exact ⟨o, e, fun v z => by rw [d] at z; cases z⟩
  keep := fun i h h' st k => st.at fun o e => k it (by simp) o e
  item := by
    intro X hP hw hK hc i pins s σ H E I hf st hg
    subst hP hw hK
    obtain ⟨xs, x, hq, hx⟩ := hg
    obtain ⟨its, rv, p, hz⟩ := I.list hq
    obtain ⟨u, hu, ru⟩ := rv.get hx
    obtain ⟨f0, f1, f2, f3, f4, f5⟩ := hf it (by simp)
    refine wpAny_pyNext_list_item st p.isList (x := u) (by simpa using hu) fun h' st' sb => ?_
    have I1 : Inv X pins σ H { s with heap := h' } := I.turned (t' := s.toks) (fun b o hb e => (sb.2 b hb).trans e) f0 f1 f3 f4 f5
    obtain ⟨o, e, c, d⟩ := id st'
    exact ⟨u, rfl, go_of (s := { s with heap := h' }) e c d (by decide) ⟨x, H, I1, ru, ⟨rfl, fun ys hy => by rw [I.list_inj hy hq]; exact hx⟩, st', fun b hb => (hf b hb).1⟩⟩
  done := by
    intro X hP hw hK hc i pins s σ H E I hf st hg
    subst hP hw hK
    obtain ⟨xs, hq, hx⟩ := hg
    obtain ⟨its, rv, p, hz⟩ := I.list hq
    obtain ⟨f0, f1, f2, f3, f4, f5⟩ := hf it (by simp)
    have hl := rv.length
    exact wpAny_pyNext_list_end (I.ok.hd hc) st p.isList (by simp; omega) fun h' eb => ⟨rfl, I.turned (t' := s.toks) (fun b o hb e => eb b o hb e) f0 f1 f3 f4 f5⟩
  self := fun _ _ _ _ _ st h => wpAny_pyIter_listiter st h
theorem turn_tuple {P : Program} {w : World} {K : PySem.W.Frag} {tg : Expr} (a it : Addr) : Turn P w K tg (Itt K a) [it] it (fun i h => h.IsTupleIter it a i) where
  mem := by simp
  obj := fun i h st b hb => by
    have e : b = it := by simpa using hb
    subst e
    obtain ⟨o, e, c, d⟩ := st
    exact ⟨o, e, fun v z => by rw [d] at z; cases z⟩
  keep := fun i h h' st k => st.at fun o e => k it (by simp) o e
  item := by
    intro X hP hw hK hc i pins s σ H E I hf st hg
    subst hP hw hK
    obtain ⟨xs, x, hq, hx⟩ := hg
    obtain ⟨its, rv, p, hz⟩ := I.tuple hq
    obtain ⟨u, hu, ru⟩ := rv.get hx
    obtain ⟨f0, f1, f2, f3, f4, f5⟩ := hf it (by simp)
    refine wpAny_pyNext_tuple_item st (show s.heap.IsTuple a its.toArray from p) (x := u) (by simpa using hu) fun h' st' sb => ?_
    have I1 : Inv X pins σ H { s with heap := h' } := I.turned (t' := s.toks) (fun b o hb e => (sb.2 b hb).trans e) f0 f1 f3 f4 f5
    obtain ⟨o, e, c, d⟩ := id st'
    exact ⟨u, rfl, go_of (s := { s with heap := h' }) e c d (by decide) ⟨x, H, I1, ru, ⟨rfl, fun ys hy => by rw [I.tuple_inj hy hq]; exact hx⟩, st', fun b hb => (hf b hb).1⟩⟩
  done := by
    intro X hP hw hK hc i pins s σ H E I hf st hg
    subst hP hw hK
    obtain ⟨xs, hq, hx⟩ := hg
    obtain ⟨its, rv, p, hz⟩ := I.tuple hq
    obtain ⟨f0, f1, f2, f3, f4, f5⟩ := hf it (by simp)
    have hl := rv.length
    exact wpAny_pyNext_tuple_end (I.ok.hd hc) st (show s.heap.IsTuple a its.toArray from p) (by simp; omega) fun h' eb => ⟨rfl, I.turned (t' := s.toks) (fun b o hb e => eb b o hb e) f0 f1 f3 f4 f5⟩
  self := fun _ _ _ _ _ st h => wpAny_pyIter_tupleiter st h
theorem turn_range {P : Program} {w : World} {K : PySem.W.Frag} {tg : Expr} (it : Addr) (lo : Int) (n : Nat) : Turn P w K tg (Itr lo n) [it] it (fun i h => IsRangeIter h it (lo + (i : Nat) * 1) ((n : Int) - (i : Nat)) 1) where
  mem := by simp
  obj := fun i h st b hb => by
    have e : b = it := by simpa using hb
    subst e
    exact ⟨_, st, fun v z => by
      have z' : Data.fields _ = Data.cell v := z
      cases z'⟩
  keep := fun i h h' st k => k it (by simp) _ st
  item := by
    intro X hP hw hK hc i pins s σ H E I hf st hg
    subst hP hw hK
    obtain ⟨f0, f1, f2, f3, f4, f5⟩ := hf it (by simp)
    have W := Walks.range (prog := X.prog) (w := X.w) (I.ok.hd hc) it lo 1 n
    refine W.item i s _ _ hg st fun v h' tk hv st' kk => ?_
    obtain ⟨t, rfl⟩ := hv
    have I1 : Inv X pins σ H { s with heap := h', toks := tk } := I.turned (fun b o hb e => kk b o (by simpa using hb) e) f0 f1 f3 f4 f5
    refine ⟨_, rfl, go_of (s := { s with heap := h', toks := tk }) (n := "range_iterator") st' rfl rfl (by decide) ⟨.int (lo + i), H, I1, ⟨t, ?_⟩, ⟨rfl, rfl⟩, st', fun b hb => (hf b hb).1⟩⟩
    rw [Int.mul_one]
  done := by
    intro X hP hw hK hc i pins s σ H E I hf st hg
    subst hP hw hK
    obtain ⟨f0, f1, f2, f3, f4, f5⟩ := hf it (by simp)
    exact wpAny_pyNext_range_end (I.ok.hd hc) st (by have : n ≤ i := hg; omega) fun h' eb => ⟨rfl, I.turned (t' := s.toks) (fun b o hb e => eb b o hb e) f0 f1 f3 f4 f5⟩
  self := fun _ _ _ _ _ st h => wpAny_pyIter_rangeiter st h
end L2

namespace L2
open PySem PySem.Spec PyProof.Rows
section
variable {X : Cx} {tg : Expr}
def iList (K : PySem.W.Frag) (tl : TE) : TI := fun σ H R => tl σ H fun x H1 => ∃ a, x = .ref a ∧ (∃ xs, SqL K H1 a xs) ∧ R (Itl K a) H1
def iTup (K : PySem.W.Frag) (tl : TE) : TI := fun σ H R => tl σ H fun x H1 => ∃ a, x = .ref a ∧ (∃ xs, SqT K H1 a xs) ∧ R (Itt K a) H1
theorem pi_list {l : Expr} {tl : TE} (hl : PE X l tl) : PI X tg l (iList X.K tl) := by
  intro pins s σ H R I h
  refine thn (hl pins s σ H _ I h) fun v s1 ⟨x, H1, I1, r1, q1⟩ => ?_
  obtain ⟨a, e, ⟨xs, hq⟩, q⟩ := q1
  subst e
  cases r1
  obtain ⟨its, rv, p, hz⟩ := I1.list hq
  refine wpAny_pyIter_list p.isList ?_
  refine ⟨s1.heap.objs.size, [s1.heap.objs.size], _, _, H1, rfl, I1.kept (t' := s1.toks) fun b o e => Heap.get?_push_of_some _ e, turn_list a _, ⟨_, Heap.get?_push_size _ rfl, rfl, rfl⟩, fun b hb => ?_, q⟩
  have e : b = s1.heap.objs.size := by simpa using hb
  subst e
  exact I1.fpOk (Nat.le_refl _) (I1.hok.fresh (Nat.le_refl _))
theorem pi_tup {l : Expr} {tl : TE} (hl : PE X l tl) : PI X tg l (iTup X.K tl) := by
  intro pins s σ H R I h
  refine thn (hl pins s σ H _ I h) fun v s1 ⟨x, H1, I1, r1, q1⟩ => ?_
  obtain ⟨a, e, ⟨xs, hq⟩, q⟩ := q1
  subst e
  cases r1
  obtain ⟨its, rv, p, hz⟩ := I1.tuple hq
  refine wpAny_pyIter_tuple (show s1.heap.IsTuple a its.toArray from p) ?_
  refine ⟨s1.heap.objs.size, [s1.heap.objs.size], _, _, H1, rfl, I1.kept (t' := s1.toks) fun b o e => Heap.get?_push_of_some _ e, turn_tuple a _, ⟨_, Heap.get?_push_size _ rfl, rfl, rfl⟩, fun b hb => ?_, q⟩
  have e : b = s1.heap.objs.size := by simpa using hb
  subst e
  exact I1.fpOk (Nat.le_refl _) (I1.hok.fresh (Nat.le_refl _))
/-- a range object just made, walked -/
theorem range_it {pins : List (Addr × Obj)} {σ : St} {H : Hp} {s : Shared} {R : It → Hp → Prop} {E : Value → Shared → Prop} {lo hi : Int} {t u v : Tok} {tk : Nat} (I : Inv X pins σ H s) (h1 : -(2 ^ 62) ≤ lo) (h2 : lo < 2 ^ 62) (h3 : -(2 ^ 62) ≤ hi) (h4 : hi < 2 ^ 62)
    (q : R (Itr lo (hi - lo).toNat) H) : wpAny (model X.prog X.w) X.A (pyIter (.ref s.heap.objs.size)) (PIE X pins σ tg R) E { s with heap := s.heap.push { cls := .type "range", data := .fields #[.int lo t, .int hi u, .int 1 v] }, toks := tk } := by
  refine wpAny_pyIter_range (IsRange.new ..) (small_one h1 h2 h3 h4) ?_
  have I1 : Inv X pins σ H { s with heap := s.heap.push { cls := .type "range", data := .fields #[.int lo t, .int hi u, .int 1 v] }, toks := tk } := I.kept fun b o e => Heap.get?_push_of_some _ e
  refine ⟨(s.heap.push { cls := .type "range", data := .fields #[.int lo t, .int hi u, .int 1 v] }).objs.size, [(s.heap.push { cls := .type "range", data := .fields #[.int lo t, .int hi u, .int 1 v] }).objs.size], _, _, H, rfl,
    I1.kept (t' := tk) fun b o e => Heap.get?_push_of_some _ e, turn_range _ lo (hi - lo).toNat, ?_, fun b hb => ?_, q⟩
  · have e1 : lo + ((0 : Nat) : Int) * 1 = lo := by simp
    have e2 : (((hi - lo).toNat : Nat) : Int) - ((0 : Nat) : Int) = Builtin.Range.rangeSize lo hi 1 := by rw [rangeSize_one]; split <;> omega
    show IsRangeIter _ _ (lo + ((0 : Nat) : Int) * 1) ((((hi - lo).toNat : Nat) : Int) - ((0 : Nat) : Int)) 1
    rw [e1, e2]
    exact Heap.get?_push_size _ rfl
  · have e : b = (s.heap.push { cls := .type "range", data := .fields #[.int lo t, .int hi u, .int 1 v] }).objs.size := by simpa using hb
    subst e
    exact I1.fpOk (Nat.le_refl _) (I1.hok.fresh (Nat.le_refl _))
def iRng1 (ta : TA) : TI := fun σ H R => ta σ H fun vs H1 => ∃ j : Int, vs = [.int j] ∧ -(2 ^ 62) ≤ j ∧ j < 2 ^ 62 ∧ R (Itr 0 j.toNat) H1
def iRng2 (ta : TA) : TI := fun σ H R => ta σ H fun vs H1 => ∃ i j : Int, vs = [.int i, .int j] ∧ (-(2 ^ 62) ≤ i ∧ i < 2 ^ 62 ∧ -(2 ^ 62) ≤ j ∧ j < 2 ^ 62) ∧ R (Itr i (j - i).toNat) H1
theorem pi_range1 {a : Expr} {ta : TA} {p pos : Pos} (hg : Gl X "range") (hm : X.mg "range" = none) (ha : PA X [a] ta) (hs : starEach [a] X.env = [(false, eval a X.env)] := by rfl) : PI X tg (.Call (.Name "range" p) [a] [] pos) (iRng1 ta) := by
  intro pins s σ H R I h
  refine Call_ (ld_blt I hg hm boot_range (PyProof.Rows.callWith_type1 (thn (ha pos pins s σ H _ I h) fun us s1 ⟨vs, H1, I1, r1, q1⟩ => ?_) hs rfl))
  obtain ⟨j, e, q1, q2, q⟩ := q1
  subst e
  cases r1 with
  | cons r rr =>
    cases rr
    obtain ⟨t, rfl⟩ := r
    exact call_range_1 (range_it I1 (by omega) (by omega) q1 q2 (by simpa using q))
theorem pi_range2 {a b : Expr} {ta : TA} {p pos : Pos} (hg : Gl X "range") (hm : X.mg "range" = none) (ha : PA X [a, b] ta) (hs : starEach [a, b] X.env = [(false, eval a X.env), (false, eval b X.env)] := by rfl) (hs2 : starEach [b] X.env = [(false, eval b X.env)] := by rfl) :
    PI X tg (.Call (.Name "range" p) [a, b] [] pos) (iRng2 ta) := by
  intro pins s σ H R I h
  refine Call_ (ld_blt I hg hm boot_range (PyProof.Rows.callWith_type1 (thn (ha pos pins s σ H _ I h) fun us s1 ⟨vs, H1, I1, r1, q1⟩ => ?_) (by rw [hs, hs2]) (by rw [hs2]; rfl)))
  obtain ⟨i, j, e, ⟨q1, q2, q3, q4⟩, q⟩ := q1
  subst e
  cases r1 with
  | cons r rr =>
    cases rr with
    | cons r' rr =>
      cases rr
      obtain ⟨t, rfl⟩ := r
      obtain ⟨t', rfl⟩ := r'
      exact call_range_2 (range_it I1 q1 q2 q3 q4 q)

/-! ### for -/
/-- W: the invariant by the turn and a measure; N: what the body is to reach -/
def tFor (wi : TI) (g : TG) (tb : TS) : TS := fun D σ H => wi σ H fun J H1 => ∃ W : Nat → Nat → St → Hp → Prop, (∃ m, W 0 m σ H1) ∧ ∀ i m σ H, W i m σ H →
  (J.stop i H ∧ D.nx σ H) ∨ (J.go i H ∧ ∃ N : St → Hp → Prop, (∀ σ' H', N σ' H' → ∃ m', m' < m ∧ W (i + 1) m' σ' H') ∧ ∀ x H', J.yld i H x H' → g x σ H' fun σ2 H2 => tb { D with nx := N, ct := N, bk := D.nx } σ2 H2)
/-- the records at fp as they stand -/
def pinsAt (fp : List Addr) (h : Heap) : List (Addr × Obj) := fp.filterMap fun b => (h.get? b).map fun o => (b, o)
theorem mem_pinsAt {fp : List Addr} {h : Heap} {b : Addr} {o : Obj} (hb : b ∈ fp) (e : h.get? b = some o) : (b, o) ∈ pinsAt fp h := List.mem_filterMap.mpr ⟨b, hb, by rw [e]; rfl⟩
theorem of_pinsAt {fp : List Addr} {h : Heap} {p : Addr × Obj} (hp : p ∈ pinsAt fp h) : p.1 ∈ fp ∧ h.get? p.1 = some p.2 := by
  obtain ⟨b, hb, e⟩ := List.mem_filterMap.mp hp
  cases q : h.get? b with
  | none => rw [q] at e; cases e
  | some o =>
    rw [q] at e
    have e' : (b, o) = p := Option.some.inj e
    subst e'
    exact ⟨hb, q⟩
theorem Inv.pinned {pins : List (Addr × Obj)} {σ : St} {H : Hp} {s : Shared} {fp : List Addr} (I : Inv X pins σ H s) (hf : ∀ b ∈ fp, FpOk X pins H b) (ho : ∀ b ∈ fp, ∃ o, s.heap.get? b = some o ∧ ∀ v, o.data ≠ .cell v) : Inv X (pins ++ pinsAt fp s.heap) σ H s :=
  I.pins_of fun p hp => (List.mem_append.mp hp).elim (fun z => I.pin p (List.mem_append_right _ z)) fun z => by
    obtain ⟨hb, e⟩ := of_pinsAt z
    obtain ⟨f0, f1, f2, _⟩ := hf p.1 hb
    obtain ⟨o, e', d⟩ := ho p.1 hb
    rw [e] at e'; cases e'
    exact ⟨e, f0, f1, f2, d⟩
theorem Inv.unpinned {pins pl : List (Addr × Obj)} {σ : St} {H : Hp} {s : Shared} (I : Inv X (pins ++ pl) σ H s) : Inv X pins σ H s := I.pins_of fun p hp => I.pin p (List.mem_append_right _ (List.mem_append_left _ hp))
theorem ps_for {iter : Expr} {body : List Stmt} {wi : TI} {g : TG} {tb : TS} {pos : Pos} (hp : PassesOwn (model X.prog X.w) X.A X.env X.xe) (hc : X.calm = true) (hi : PI X tg iter wi) (hg : PG X tg g) (hb : PSs X body tb)
    (hs : ∀ x, foldedSetIterable iter X.env x = pure x := by intro _; rfl) : PS X (.For tg iter body [] pos) (tFor wi g tb) := by
  intro pins s σ H D I h
  refine wpAny_For (thn (hi pins s σ H _ I h) fun v s1 h1 => thn h1 fun itv s2 h2 => ?_) hs
  obtain ⟨it, fp, tn, J, H2, e, I2, T, st2, f2, W, ⟨m0, w0⟩, turn⟩ := h2
  subst e
  -- what stays true of the iterator's objects through the loop
  have stat : ∀ {H' : Hp}, (∀ b ∈ fp, H' b = none) → ∀ b ∈ fp, FpOk X pins H' b := fun hn b hb => ⟨hn b hb, (f2 b hb).2⟩
  refine codeAny_forLoop_any (fun n s' => ∃ i σ' H', Inv X pins σ' H' s' ∧ tn i s'.heap ∧ (∀ b ∈ fp, H' b = none) ∧ W i n σ' H') ?_ m0 ⟨0, σ, H2, I2, st2, fun b hb => (f2 b hb).1, w0⟩
  rintro n s3 ⟨i, σ3, H3, I3, st3, fr3, w3⟩
  rcases turn i n σ3 H3 w3 with ⟨stop, qn⟩ | ⟨go, N, hN, step⟩
  · refine wpAny_passesOwn hp (thn (T.done X rfl rfl rfl hc i pins s3 σ3 H3 X.xe I3 (stat fr3) st3 stop) fun r s4 ⟨hr, I4⟩ => ?_)
    subst hr
    exact wpAny_execs_nil ⟨σ3, H3, I4, qn⟩
  · refine wpAny_passesOwn hp (thn (T.item X rfl rfl rfl hc i pins s3 σ3 H3 X.xe I3 (stat fr3) st3 go) fun r s4 ⟨u, hr, h4⟩ => ?_)
    subst hr
    refine wpAny_passesOwn hp (thn h4 fun _ s5 ⟨x, H5, I5, r5, y5, st5, fr5⟩ => ?_)
    have I5' := I5.pinned (stat fr5) (T.obj _ _ st5)
    refine wpAny_passesOwn hp (thn (hg _ s5 σ3 H5 x u _ I5' r5 (step x H5 y5)) fun _ s6 ⟨σ6, H6, I6, q6⟩ => ?_)
    refine wpAny_passesOwn hp (thn (hb _ s6 σ6 H6 _ I6 q6) fun f s7 q7 => ?_)
    have again : ∀ {σ7 : St} {H7 : Hp}, Inv X (pins ++ pinsAt fp s5.heap) σ7 H7 s7 → N σ7 H7 → ∃ m, m < n ∧ ∃ i σ' H', Inv X pins σ' H' s7 ∧ tn i s7.heap ∧ (∀ b ∈ fp, H' b = none) ∧ W i m σ' H' := fun {σ7 H7} I7 n7 => by
      obtain ⟨m', hm, w7⟩ := hN σ7 H7 n7
      refine ⟨m', hm, i + 1, σ7, H7, I7.unpinned, T.keep _ _ _ st5 fun b hb o e => (I7.pin (b, o) (List.mem_append_right _ (List.mem_append_right _ (mem_pinsAt hb e)))).1, fun b hb => ?_, w7⟩
      obtain ⟨o, e, d⟩ := T.obj _ _ st5 b hb
      exact (I7.pin (b, o) (List.mem_append_right _ (List.mem_append_right _ (mem_pinsAt hb e)))).2.1
    cases f with
    | next => obtain ⟨σ7, H7, I7, n7⟩ := q7; exact again I7 n7
    | cont => obtain ⟨σ7, H7, I7, n7⟩ := q7; exact again I7 n7
    | brk => obtain ⟨σ7, H7, I7, q7⟩ := q7; exact ⟨σ7, H7, I7.unpinned, q7⟩
    | ret v => obtain ⟨x7, σ7, H7, I7, r7, q7⟩ := q7; exact ⟨x7, σ7, H7, I7.unpinned, r7, q7⟩
end

/-! ### the forms one uses -/
/-- over a list that the body leaves as it is -/
theorem for_list {K : PySem.W.Frag} {a : Addr} {xs : List V} {g : TG} {tb : TS} {D : Ends} {σ : St} {H : Hp} (Pv : Nat → St → Hp → Prop) (h0 : Pv 0 σ H) (hl : ∀ i σ H, i ≤ xs.length → Pv i σ H → SqL K H a xs)
    (hs : ∀ i x σ H, xs[i]? = some x → Pv i σ H → g x σ H fun σ2 H2 => tb { D with nx := Pv (i + 1), ct := Pv (i + 1), bk := D.nx } σ2 H2) (hd : ∀ σ H, Pv xs.length σ H → D.nx σ H) :
    ∃ W : Nat → Nat → St → Hp → Prop, (∃ m, W 0 m σ H) ∧ ∀ i m σ H, W i m σ H →
      ((Itl K a).stop i H ∧ D.nx σ H) ∨ ((Itl K a).go i H ∧ ∃ N : St → Hp → Prop, (∀ σ' H', N σ' H' → ∃ m', m' < m ∧ W (i + 1) m' σ' H') ∧ ∀ x H', (Itl K a).yld i H x H' → g x σ H' fun σ2 H2 => tb { D with nx := N, ct := N, bk := D.nx } σ2 H2) := by
  refine ⟨fun i m σ H => m = xs.length - i ∧ i ≤ xs.length ∧ Pv i σ H, ⟨xs.length, by simp, Nat.zero_le _, h0⟩, ?_⟩
  rintro i m σ H ⟨rfl, hi, p⟩
  have q := hl i σ H hi p
  by_cases hlt : i < xs.length
  · refine .inr ⟨⟨xs, xs[i], q, by simp [hlt]⟩, Pv (i + 1), fun σ' H' p' => ⟨xs.length - (i + 1), by omega, rfl, hlt, p'⟩, fun x H' y => ?_⟩
    obtain ⟨e, y⟩ := y
    subst e
    exact hs i x σ _ (y xs q) p
  · have e : i = xs.length := by omega
    subst e
    exact .inl ⟨⟨xs, q, Nat.le_refl _⟩, hd σ H p⟩
theorem for_range {lo : Int} {n : Nat} {g : TG} {tb : TS} {D : Ends} {σ : St} {H : Hp} (Pv : Nat → St → Hp → Prop) (h0 : Pv 0 σ H)
    (hs : ∀ i σ H, i < n → Pv i σ H → g (.int (lo + i)) σ H fun σ2 H2 => tb { D with nx := Pv (i + 1), ct := Pv (i + 1), bk := D.nx } σ2 H2) (hd : ∀ σ H, Pv n σ H → D.nx σ H) :
    ∃ W : Nat → Nat → St → Hp → Prop, (∃ m, W 0 m σ H) ∧ ∀ i m σ H, W i m σ H →
      ((Itr lo n).stop i H ∧ D.nx σ H) ∨ ((Itr lo n).go i H ∧ ∃ N : St → Hp → Prop, (∀ σ' H', N σ' H' → ∃ m', m' < m ∧ W (i + 1) m' σ' H') ∧ ∀ x H', (Itr lo n).yld i H x H' → g x σ H' fun σ2 H2 => tb { D with nx := N, ct := N, bk := D.nx } σ2 H2) := by
  refine ⟨fun i m σ H => m = n - i ∧ i ≤ n ∧ Pv i σ H, ⟨n, by simp, Nat.zero_le _, h0⟩, ?_⟩
  rintro i m σ H ⟨rfl, hi, p⟩
  by_cases hlt : i < n
  · refine .inr ⟨hlt, Pv (i + 1), fun σ' H' p' => ⟨n - (i + 1), by omega, rfl, hlt, p'⟩, fun x H' y => ?_⟩
    obtain ⟨e, y⟩ := y
    subst e y
    exact hs i σ _ hlt p
  · have e : i = n := by omega
    subst e
    exact .inl ⟨Nat.le_refl _, hd σ H p⟩
end L2

namespace L2
open PySem PySem.Spec PyProof.Rows

abbrev R2 := V → V → Hp → VK → Prop
/-- a two-place operation on values: f is binaryOp op, inplaceOp op or compareOp op -/
def OpR (X : Cx) (f : Value → Value → Sem Value) (r : R2) : Prop :=
  ∀ (pins : List (Addr × Obj)) (s : Shared) (σ : St) (H : Hp) (x y : V) (v u : Value) (Q : VK), Inv X pins σ H s → RelV x v → RelV y u → r x y H Q →
    wpAny (model X.prog X.w) X.A (f v u) (EP X pins σ Q) X.xe s
/-- a call of a value that is known (a builtin, a type) with values -/
def CallR (X : Cx) (f : Value) (r : List V → Hp → VK → Prop) : Prop :=
  ∀ (pins : List (Addr × Obj)) (s : Shared) (σ : St) (H : Hp) (xs : List V) (us : List Value) (Q : VK), Inv X pins σ H s → Vals xs us → r xs H Q →
    wpAny (model X.prog X.w) X.A (call f us) (EP X pins σ Q) X.xe s
def tOp (r : R2) (ta tb : TE) : TE := fun σ H Q => ta σ H fun x H1 => tb σ H1 fun y H2 => r x y H2 Q
/-- ints in, under C, and a value out -/
def rI (C : Int → Int → Prop) (g : Int → Int → V) : R2 := fun x y H Q => ∃ i j, x = .int i ∧ y = .int j ∧ C i j ∧ Q (g i j) H
def rI0 (g : Int → Int → V) : R2 := fun x y H Q => ∃ i j, x = .int i ∧ y = .int j ∧ Q (g i j) H
def rU (g : Int → V) : V → Hp → VK → Prop := fun x H Q => ∃ i, x = .int i ∧ Q (g i) H

section
variable {X : Cx} {a b c : Expr} {ta tb tc : TE} {pos : Pos}

theorem binT (ha : PE X a ta) (hb : PE X b tb) {pins : List (Addr × Obj)} {s : Shared} {σ : St} {H : Hp} {R : V → V → Hp → Prop} (I : Inv X pins σ H s)
    (h : ta σ H fun x H1 => tb σ H1 fun y H2 => R x y H2) {Q : Value → Shared → Prop} {f : Value → Value → Sem Value}
    (hf : ∀ v u s2 x y H2, Inv X pins σ H2 s2 → RelV x v → RelV y u → R x y H2 → wpAny (model X.prog X.w) X.A (f v u) Q X.xe s2) :
    wpAny (model X.prog X.w) X.A (eval a X.env) (fun v s₁ => wpAny (model X.prog X.w) X.A (eval b X.env) (fun u s₂ => wpAny (model X.prog X.w) X.A (f v u) Q X.xe s₂) X.xe s₁) X.xe s := by
  refine thn (ha pins s σ H _ I h) fun v s1 ⟨x, H1, I1, r1, q1⟩ => ?_
  refine thn (hb pins s1 σ H1 _ I1 q1) fun u s2 ⟨y, H2, I2, r2, q2⟩ => ?_
  exact hf v u s2 x y H2 I2 r1 r2 q2

theorem pe_op {op : Operator} {r : R2} (ho : OpR X (binaryOp op) r) (ha : PE X a ta) (hb : PE X b tb) : PE X (.BinOp a op b pos) (tOp r ta tb) := by
  intro pins s σ H Q I h
  exact wpAny_BinOp (binT ha hb I h fun v u s2 x y H2 I2 rx ry q => ho pins s2 σ H2 x y v u Q I2 rx ry q)
/-! ### ints -/
theorem opI {f : Value → Value → Sem Value} {C : Int → Int → Prop} {g : Int → Int → Int}
    (rule : ∀ (i j : Int) (t u : Tok) (s : Shared) (Q : Value → Shared → Prop) (E : Value → Shared → Prop), C i j → Q (.int (g i j) s.toks) { s with toks := s.toks + 1 } → wpAny (model X.prog X.w) X.A (f (.int i t) (.int j u)) Q E s) :
    OpR X f (rI C fun i j => .int (g i j)) := by
  intro pins s σ H x y v u Q I rx ry h
  obtain ⟨i, j, rfl, rfl, hc, q⟩ := h
  obtain ⟨t, rfl⟩ := rx
  obtain ⟨t', rfl⟩ := ry
  exact rule i j t t' s _ _ hc ⟨.int (g i j), H, I.tok _, ⟨_, rfl⟩, q⟩
theorem opI0 {f : Value → Value → Sem Value} {g : Int → Int → Int}
    (rule : ∀ (i j : Int) (t u : Tok) (s : Shared) (Q : Value → Shared → Prop) (E : Value → Shared → Prop), Q (.int (g i j) s.toks) { s with toks := s.toks + 1 } → wpAny (model X.prog X.w) X.A (f (.int i t) (.int j u)) Q E s) :
    OpR X f (rI0 fun i j => .int (g i j)) := by
  intro pins s σ H x y v u Q I rx ry h
  obtain ⟨i, j, rfl, rfl, q⟩ := h
  obtain ⟨t, rfl⟩ := rx
  obtain ⟨t', rfl⟩ := ry
  exact rule i j t t' s _ _ ⟨.int (g i j), H, I.tok _, ⟨_, rfl⟩, q⟩
theorem opB0 {f : Value → Value → Sem Value} {g : Int → Int → Bool}
    (rule : ∀ (i j : Int) (t u : Tok) (s : Shared) (Q : Value → Shared → Prop) (E : Value → Shared → Prop), Q (.bool (g i j)) s → wpAny (model X.prog X.w) X.A (f (.int i t) (.int j u)) Q E s) :
    OpR X f (rI0 fun i j => .bl (g i j)) := by
  intro pins s σ H x y v u Q I rx ry h
  obtain ⟨i, j, rfl, rfl, q⟩ := h
  obtain ⟨t, rfl⟩ := rx
  obtain ⟨t', rfl⟩ := ry
  exact rule i j t t' s _ _ ⟨.bl (g i j), H, I, rfl, q⟩

def CDiv (i j : Int) : Prop := 0 < j ∧ j < 1073741824
def CPow (i j : Int) : Prop := 0 ≤ j ∧ j ≤ 1000000 ∧ i.natAbs < 2 ^ 64
def CMul (i j : Int) : Prop := (-(2 ^ 64) < i ∧ i < 2 ^ 64) ∨ (-(2 ^ 64) < j ∧ j < 2 ^ 64)
theorem CMul.ok {i j : Int} (h : CMul i j) : IntMulOk i j := by
  rcases h with ⟨h1, h2⟩ | ⟨h1, h2⟩
  · exact .of_left (intBits_le_64 h1 h2)
  · exact .of_right (intBits_le_64 h1 h2)
theorem op_add : OpR X (binaryOp .Add) (rI0 fun i j => .int (i + j)) := opI0 fun _ _ _ _ _ _ _ q => add_int q
theorem op_sub : OpR X (binaryOp .Sub) (rI0 fun i j => .int (i - j)) := opI0 fun _ _ _ _ _ _ _ q => sub_int q
theorem op_mul : OpR X (binaryOp .Mult) (rI CMul fun i j => .int (i * j)) := opI fun _ _ _ _ _ _ _ hc q => mul_int q hc.ok
/-- // by a positive divisor -/
theorem op_fdiv : OpR X (binaryOp .FloorDiv) (rI CDiv fun i j => .int (i / j)) := opI fun i j _ _ _ _ _ hc q => by
  have h1 : (0 : Int) < j := hc.1
  have h2 : j < 1073741824 := hc.2
  exact floordiv_int (by omega) (by rw [Int.fdiv_eq_ediv_of_nonneg i (by omega)]; exact q) (.inl (PyProof.noPylong_small (by omega)))
/-- % by a positive divisor of any size -/
theorem op_mod : OpR X (binaryOp .Mod) (rI (fun _ j => 0 < j) fun i j => .int (i % j)) := opI fun i j _ _ _ _ _ hc q => by
  have h1 : (0 : Int) < j := hc
  exact mod_int' (by omega) (by rw [Int.fmod_eq_emod_of_nonneg i (by omega)]; exact q)
theorem op_pow : OpR X (binaryOp .Pow) (rI CPow fun i j => .int (i ^ j.toNat)) := opI fun _ _ _ _ _ _ _ hc q => pow_int_small hc.1 hc.2.1 hc.2.2 q
/-! ### bools among ints: n += (a < b) -/
end

/-! ### comparisons -/
/-- the scalars that == tells apart as data does -/
def scal : V → V → Bool
  | .non, .non => true | .non, .int _ => true | .int _, .non => true | .non, .bl _ => true | .bl _, .non => true | .non, .str _ => true | .str _, .non => true
  | .int _, .int _ => true | .bl _, .bl _ => true | .str _, .str _ => true | .byt _, .byt _ => true
  | .int _, .str _ => true | .str _, .int _ => true | .bl _, .str _ => true | .str _, .bl _ => true
  | _, _ => false
def rEq : R2 := fun x y H Q => scal x y = true ∧ Q (.bl (decide (x = y))) H
def rNe : R2 := fun x y H Q => scal x y = true ∧ Q (.bl (!decide (x = y))) H

theorem dec_int {i j : Int} : decide (V.int i = V.int j) = (i == j) := by
  rw [Bool.eq_iff_iff]
  simp
theorem dec_bl {i j : Bool} : decide (V.bl i = V.bl j) = (i == j) := by
  rw [Bool.eq_iff_iff]
  simp
theorem dec_str {i j : Str} : decide (V.str i = V.str j) = (i == j) := by
  rw [Bool.eq_iff_iff]
  simp
theorem dec_byt {i j : Array UInt8} : decide (V.byt i = V.byt j) = (i.toList == j.toList) := by
  rw [Bool.eq_iff_iff]
  cases i
  cases j
  simp

section
variable {X : Cx} {a b c : Expr} {ta tb tc : TE} {pos : Pos}
theorem fin_bl {pins : List (Addr × Obj)} {σ : St} {H : Hp} {s : Shared} {Q : VK} {k k' : Bool} (I : Inv X pins σ H s) (q : Q (.bl k) H) (e : k = k') : EP X pins σ Q (.bool k') s := by
  subst e
  exact ⟨.bl k, H, I, rfl, q⟩
theorem op_eq : OpR X (compareOp .Eq) rEq := by
  intro pins s σ H x y v u Q I rx ry h
  obtain ⟨hs, q⟩ := h
  cases x with
  | non =>
    cases rx
    cases y with
    | non => cases ry; exact PySem.EqNone.eq_none_none (fin_bl I q (by simp))
    | bl j => cases ry; exact PySem.EqNone.eq_none_bool (fin_bl I q (by simp))
    | int j => obtain ⟨t', rfl⟩ := ry; exact PySem.EqNone.eq_none_int (fin_bl I q (by simp))
    | str j => obtain ⟨t', rfl⟩ := ry; exact PySem.EqNone.eq_none_str (fin_bl I q (by simp))
    | _ => exact absurd (show false = true from hs) Bool.false_ne_true
  | bl i =>
    cases rx
    cases y with
    | non => cases ry; exact PySem.EqNone.eq_bool_none (fin_bl I q (by simp))
    | bl j => cases ry; exact eq_bool (fin_bl I q dec_bl)
    | str j => obtain ⟨t', rfl⟩ := ry; exact PySem.EqMixed.eq_bool_str (fin_bl I q (by simp))
    | _ => exact absurd (show false = true from hs) Bool.false_ne_true
  | int i =>
    obtain ⟨t, rfl⟩ := rx
    cases y with
    | non => cases ry; exact PySem.EqNone.eq_int_none (fin_bl I q (by simp))
    | int j => obtain ⟨t', rfl⟩ := ry; exact eq_int (fin_bl I q dec_int)
    | str j => obtain ⟨t', rfl⟩ := ry; exact PySem.EqMixed.eq_int_str (fin_bl I q (by simp))
    | _ => exact absurd (show false = true from hs) Bool.false_ne_true
  | str i =>
    obtain ⟨t, rfl⟩ := rx
    cases y with
    | non => cases ry; exact PySem.EqNone.eq_str_none (fin_bl I q (by simp))
    | bl j => cases ry; exact PySem.EqMixed.eq_str_bool (fin_bl I q (by simp))
    | int j => obtain ⟨t', rfl⟩ := ry; exact PySem.EqMixed.eq_str_int (fin_bl I q (by simp))
    | str j => obtain ⟨t', rfl⟩ := ry; exact eq_str (fin_bl I q dec_str)
    | _ => exact absurd (show false = true from hs) Bool.false_ne_true
  | byt i =>
    obtain ⟨t, rfl⟩ := rx
    cases y with
    | byt j => obtain ⟨t', rfl⟩ := ry; exact PySem.W.eq_bytes (fin_bl I q dec_byt)
    | _ => exact absurd (show false = true from hs) Bool.false_ne_true
  | _ => cases y <;> exact absurd (show false = true from hs) Bool.false_ne_true
theorem op_ne : OpR X (compareOp .NotEq) rNe := by
  intro pins s σ H x y v u Q I rx ry h
  obtain ⟨hs, q⟩ := h
  cases x with
  | non =>
    cases rx
    cases y with
    | non => cases ry; exact PySem.EqNone.ne_none_none (fin_bl I q (by simp))
    | bl j => cases ry; exact PySem.EqNone.ne_none_bool (fin_bl I q (by simp))
    | int j => obtain ⟨t', rfl⟩ := ry; exact PySem.EqNone.ne_none_int (fin_bl I q (by simp))
    | str j => obtain ⟨t', rfl⟩ := ry; exact PySem.EqNone.ne_none_str (fin_bl I q (by simp))
    | _ => exact absurd (show false = true from hs) Bool.false_ne_true
  | bl i =>
    cases rx
    cases y with
    | non => cases ry; exact PySem.EqNone.ne_bool_none (fin_bl I q (by simp))
    | bl j => cases ry; exact ne_bool (fin_bl I q (congrArg not dec_bl))
    | str j => obtain ⟨t', rfl⟩ := ry; exact PySem.EqMixed.ne_bool_str (fin_bl I q (by simp))
    | _ => exact absurd (show false = true from hs) Bool.false_ne_true
  | int i =>
    obtain ⟨t, rfl⟩ := rx
    cases y with
    | non => cases ry; exact PySem.EqNone.ne_int_none (fin_bl I q (by simp))
    | int j => obtain ⟨t', rfl⟩ := ry; exact ne_int (fin_bl I q (congrArg not dec_int))
    | str j => obtain ⟨t', rfl⟩ := ry; exact PySem.EqMixed.ne_int_str (fin_bl I q (by simp))
    | _ => exact absurd (show false = true from hs) Bool.false_ne_true
  | str i =>
    obtain ⟨t, rfl⟩ := rx
    cases y with
    | non => cases ry; exact PySem.EqNone.ne_str_none (fin_bl I q (by simp))
    | bl j => cases ry; exact PySem.EqMixed.ne_str_bool (fin_bl I q (by simp))
    | int j => obtain ⟨t', rfl⟩ := ry; exact PySem.EqMixed.ne_str_int (fin_bl I q (by simp))
    | str j => obtain ⟨t', rfl⟩ := ry; exact ne_str (fin_bl I q (congrArg not dec_str))
    | _ => exact absurd (show false = true from hs) Bool.false_ne_true
  | byt i =>
    obtain ⟨t, rfl⟩ := rx
    cases y with
    | byt j => obtain ⟨t', rfl⟩ := ry; exact PySem.W.ne_bytes (fin_bl I q (congrArg not dec_byt))
    | _ => exact absurd (show false = true from hs) Bool.false_ne_true
  | _ => cases y <;> exact absurd (show false = true from hs) Bool.false_ne_true

theorem op_lt : OpR X (compareOp .Lt) (rI0 fun i j => .bl (decide (i < j))) := opB0 fun _ _ _ _ _ _ _ q => lt_int q
theorem op_gt : OpR X (compareOp .Gt) (rI0 fun i j => .bl (decide (j < i))) := opB0 fun _ _ _ _ _ _ _ q => gt_int q
theorem op_ge : OpR X (compareOp .GtE) (rI0 fun i j => .bl (decide (j ≤ i))) := opB0 fun _ _ _ _ _ _ _ q => ge_int q
theorem nomark (b : Expr) {op : CmpOp} (h : op ≠ .In := by decide) (h2 : op ≠ .NotIn := by decide) : behindInMarks op b = false := by
  have e1 : (op == CmpOp.In) = false := by cases op <;> first | rfl | exact absurd rfl h
  have e2 : (op == CmpOp.NotIn) = false := by cases op <;> first | rfl | exact absurd rfl h2
  cases b <;> simp [behindInMarks, e1, e2]
/-- a comparison as a value; hm: nomark b, or (for in, not in) by with_unfolding_all rfl -/
theorem pe_cmpR {op : CmpOp} {r : R2} (ho : OpR X (compareOp op) r) (ha : PE X a ta) (hb : PE X b tb) (hm : behindInMarks op b = false) : PE X (.Compare a [op] [b] pos) (tOp r ta tb) := by
  intro pins s σ H Q I h
  exact wpAny_Compare1 (binT ha hb I h fun v u s2 x y H2 I2 rx ry q => ho pins s2 σ H2 x y v u Q I2 rx ry q) hm
/-- a reading of a value as a test -/
def tTest (t : TE) : TT := fun σ H Q => t σ H fun x H' => ∃ k, x = .bl k ∧ Q k H'
theorem pt_cmpR {op : CmpOp} {r : R2} (ho : OpR X (compareOp op) r) (ha : PE X a ta) (hb : PE X b tb) (hm : behindInMarks op b = false) : PT X (.Compare a [op] [b] pos) (tTest (tOp r ta tb)) := by
  intro pins s σ H Q I h
  refine wpAny_isTrue_Compare1 (thn (ha pins s σ H _ I h) fun v s1 ⟨x, H1, I1, r1, q1⟩ => thn (hb pins s1 σ H1 _ I1 q1) fun u s2 ⟨y, H2, I2, r2, q2⟩ =>
    thn (ho pins s2 σ H2 x y v u _ I2 r1 r2 q2) fun c s3 ⟨z, H3, I3, r3, k, e, q3⟩ => ?_) hm
  subst e
  cases r3
  exact wpAny_truthy_bool ⟨H3, I3, q3⟩
/-! ### truth -/
theorem line63 : (sizeLine : Nat) < 2 ^ 63 := by rw [sizeLine_eq]; decide
/-! ### strs and bytes -/
theorem op_add_str : OpR X (binaryOp .Add) (fun x y H Q => ∃ i j, x = .str i ∧ y = .str j ∧ i.length + j.length ≤ sizeLine ∧ Q (.str (i ++ j)) H) := by
  intro pins s σ H x y v u Q I rx ry h
  obtain ⟨i, j, rfl, rfl, hz, q⟩ := h
  obtain ⟨t, rfl⟩ := rx
  obtain ⟨t', rfl⟩ := ry
  exact add_str (fun t' tk => ⟨.str (i ++ j), H, I.tok _, ⟨_, rfl⟩, q⟩) hz
/-! ### scalar builtins, by CallR -/
theorem vals1 {x : V} {us : List Value} (r : Vals [x] us) : ∃ u, us = [u] ∧ RelV x u := by
  cases r with
  | cons r1 r2 => cases r2; exact ⟨_, rfl, r1⟩
theorem vals2 {x y : V} {us : List Value} (r : Vals [x, y] us) : ∃ u w', us = [u, w'] ∧ RelV x u ∧ RelV y w' := by
  cases r with
  | cons r1 r2 =>
    cases r2 with
    | cons r3 r4 => cases r4; exact ⟨_, _, rfl, r1, r3⟩
theorem call_abs : CallR X (.builtin "abs") (fun xs H Q => ∃ i, xs = [.int i] ∧ Q (.int (if i < 0 then -i else i)) H) := by
  intro pins s σ H xs us Q I r h
  obtain ⟨i, rfl, q⟩ := h
  obtain ⟨u, rfl, t, rfl⟩ := vals1 r
  exact call_abs_int fun u tk => ⟨.int (if i < 0 then -i else i), H, I.tok _, ⟨_, rfl⟩, q⟩
theorem call_max2 (hc : X.calm = true) : CallR X (.builtin "max") (fun xs H Q => ∃ i j, xs = [.int i, .int j] ∧ Q (.int (if j > i then j else i)) H) := by
  intro pins s σ H xs us Q I r h
  obtain ⟨i, j, rfl, q⟩ := h
  obtain ⟨u, w', rfl, ⟨t, rfl⟩, ⟨t', rfl⟩⟩ := vals2 r
  refine max_two_ints (I.ok.hd hc) fun h' tk k => ⟨_, H, I.kept k, ?_, q⟩
  by_cases hj : j > i
  · rw [if_pos hj, if_pos hj]; exact ⟨_, rfl⟩
  · rw [if_neg hj, if_neg hj]; exact ⟨_, rfl⟩
theorem call_min2 (hc : X.calm = true) : CallR X (.builtin "min") (fun xs H Q => ∃ i j, xs = [.int i, .int j] ∧ Q (.int (if j < i then j else i)) H) := by
  intro pins s σ H xs us Q I r h
  obtain ⟨i, j, rfl, q⟩ := h
  obtain ⟨u, w', rfl, ⟨t, rfl⟩, ⟨t', rfl⟩⟩ := vals2 r
  refine min_two_ints (I.ok.hd hc) fun h' tk k => ⟨_, H, I.kept k, ?_, q⟩
  by_cases hj : j < i
  · rw [if_pos hj, if_pos hj]; exact ⟨_, rfl⟩
  · rw [if_neg hj, if_neg hj]; exact ⟨_, rfl⟩
theorem call_int1 : CallR X (.type "int") (fun xs H Q => (∃ i, xs = [.int i] ∧ Q (.int i) H) ∨ ∃ k, xs = [.bl k] ∧ Q (.int (if k then 1 else 0)) H) := by
  intro pins s σ H xs us Q I r h
  rcases h with ⟨i, rfl, q⟩ | ⟨k, rfl, q⟩
  · obtain ⟨u, rfl, t, rfl⟩ := vals1 r
    exact call_int_int ⟨.int i, H, I, ⟨_, rfl⟩, q⟩
  · obtain ⟨u, rfl, r1⟩ := vals1 r
    cases r1
    exact call_int_bool ⟨.int (if k then 1 else 0), H, I.tok _, ⟨_, rfl⟩, q⟩
end
end L2

namespace L2
open PySem PySem.Spec PyProof.Rows

/-! ### an instance, its attributes a map -/
structure ObjM (h : Heap) (x dx C : Addr) (mA : Str → Option Value) : Prop where
  obj : h.get? x = some (PySem.W.instObj C dx)
  ns : h.Ns1 dx mA
  ne : dx ≠ x

theorem lookIn_ns {h : Heap} {dx : Addr} {mA : Str → Option Value} (n : h.Ns1 dx mA) : ∃ od, h.get? dx = some od ∧ ∀ name, PySem.W.lookIn name od = some (mA name) := by
  obtain ⟨o, es, ep, ho, hd, hk, _, hm⟩ := n
  refine ⟨o, ho, fun name => ?_⟩
  have e := hm name
  unfold nsFind findBy at e
  rw [← Array.find?_toList] at e
  unfold PySem.W.lookIn
  rw [hd]
  dsimp only
  split
  · rename_i y q
    rw [q] at e
    exact congrArg some e
  · rename_i q
    rw [q] at e
    have a : es.toList.any (·.refKey) = false := by
      rw [List.any_eq_false]
      intro y hy
      obtain ⟨z, t, hkey⟩ := hk y (Array.mem_toList_iff.mp hy)
      simp [DictEntry.refKey, hkey]
    have a' : ¬ es.toList.any (·.refKey) = true := by rw [a]; exact Bool.false_ne_true
    rw [if_neg a']
    exact congrArg some e

theorem ObjM.look {h : Heap} {x dx C : Addr} {mA : Str → Option Value} (I : ObjM h x dx C mA) : ∃ od, PySem.W.InstAt h x (PySem.W.instObj C dx) C (some od) ∧ ∀ name, PySem.W.lookIn name od = some (mA name) :=
  let ⟨od, ho, hl⟩ := lookIn_ns I.ns
  ⟨od, ⟨I.obj, rfl, rfl, ho⟩, hl⟩

section
variable {prog : Program} {w : World} {A : Around} {E : Value → Shared → Prop} {s : Shared} {K : PySem.W.Frag} {x dx C f : Addr} {mA : Str → Option Value} {name : Str} {v : Value}

end

/-! ### the attributes as a list of pairs -/
theorem RelO.some_of {v : V} {o : Option Value} (r : RelO (some v) o) : ∃ u, o = some u ∧ RelV v u := by
  cases o with
  | none => exact (show False from r).elim
  | some u => exact ⟨u, rfl, r⟩
theorem handed_of {v : V} {u : Value} (r : RelV v u) : PySem.W.handedIn u = true := by
  cases v with
  | non => cases (show u = Value.none from r); rfl
  | bl b => cases (show u = Value.bool b from r); rfl
  | int i => obtain ⟨t, e⟩ := (show ∃ t, u = Value.int i t from r); cases e; rfl
  | str x => obtain ⟨t, e⟩ := (show ∃ t, u = Value.str x t from r); cases e; rfl
  | byt b => obtain ⟨t, e⟩ := (show ∃ t, u = Value.bytes b t from r); cases e; rfl
  | flt b => obtain ⟨t, e⟩ := (show ∃ t, u = Value.float b t from r); cases e; rfl
  | ref a => cases (show u = Value.ref a from r); rfl
  | ty n => cases (show u = Value.type n from r); rfl

section
variable {P : Program} {w : World} {H H' : Hp} {h h' : Heap} {a C dx : Addr} {fs fs' : List (Str × V)}
theorem ins_get (hok : HOk P w H h) (e : H a = some (.ins C dx fs)) : ∃ mA, ObjM h a dx C mA ∧ (∀ f, RelO (fs.lookup f) (mA f)) ∧ PySem.Within mA (fs.map (·.1)) ∧ fs.length ≤ 1000 ∧ H dx = some (.own a) := by
  obtain ⟨d, z, ne, ob, mA, n, r, q⟩ := (show ObjOk P w H h a (.ins C dx fs) from hok a _ e)
  exact ⟨mA, ⟨ob, n, ne⟩, r, q, z, d⟩
end

/-! ### what of the text a class must have -/
structure Cls (K : PySem.W.Frag) (C : Addr) : Prop where
  pg : PySem.W.plainGet K C Str.empty = true
  hd : PySem.W.hasDictIn K C = true
  po : PySem.W.plainOver K C = true
  sa : PySem.W.findIn K (.ref C) "__setattr__" = some (some (.builtin "object.__setattr__"))
theorem Cls.get {K : PySem.W.Frag} {C : Addr} (c : Cls K C) (f : Str) : PySem.W.plainGet K C f = true := c.pg
section
variable {X : Cx} {pins : List (Addr × Obj)} {σ : St} {H : Hp} {s : Shared} {a C dx : Addr} {fs : List (Str × V)} {f : Str} {v : V} {A : Around} {E : Value → Shared → Prop}

/-- e.f where nothing but the object is asked: through attributeBase (super) and the last hold -/
theorem attr_of {prog : Program} {w : World} {env : Env} {e : Expr} {f : Str} {pos : Pos} {s : Shared} {Q : Value → Shared → Prop} (hb : attributeBase e f env (eval e env) = eval e env)
    (h : wpAny (model prog w) A (eval e env) (fun o s₁ => wpAny (model prog w) A (getAttr o f true) Q E s₁) E s) : wpAny (model prog w) A (eval (.Attribute e f pos) env) Q E s :=
  Attribute_any_ h (by rw [arm_eval_Attribute, hb])
end

/-! ### readings and rules -/
section
variable {X : Cx} {o e value : Expr} {f : Str} {pos pos' tpos : Pos} {ta tv : TE}
end

/-! ### isinstance -/
section
variable {X : Cx} {pins : List (Addr × Obj)} {σ : St} {H : Hp} {s : Shared} {A : Around} {E : Value → Shared → Prop} {Q : Value → Shared → Prop} {c : Value} {b : Bool}
/-- the type of a value, as the fragment's deciders take it; for an instance its class -/
inductive TyOf (K : PySem.W.Frag) (H : Hp) : V → Value → Prop where
  | non : TyOf K H .non (.type "NoneType")
  | bl (x : Bool) : TyOf K H (.bl x) (.type "bool")
  | int (i : Int) : TyOf K H (.int i) (.type "int")
  | str (x : Str) : TyOf K H (.str x) (.type "str")
  | flt (x : UInt64) : TyOf K H (.flt x) (.type "float")
  | lst {a : Addr} {xs : List V} (e : H a = some (.lst xs)) : TyOf K H (.ref a) (.type "list")
  | frz {a : Addr} {o : Obj} {xs : List V} (e : H a = some (.frz o (.lst xs))) : TyOf K H (.ref a) (.type "list")
  | tup {a : Addr} {xs : List V} (e : H a = some (.tup xs)) : TyOf K H (.ref a) (.type "tuple")
  | dK {a : Addr} {kvs : List (Key × V)} (e : H a = some (.dK kvs)) : TyOf K H (.ref a) (.type "dict")
  | dT {a : Addr} {kvs : List (List Key × V)} (e : H a = some (.dT kvs)) : TyOf K H (.ref a) (.type "dict")
  | ins {a C dx : Addr} {fs : List (Str × V)} (e : H a = some (.ins C dx fs)) (cl : Cls K C) (ha : PySem.W.findIn K (.ref C) "__class__" = some (some (.builtin "object.__class__")))
      (hn : PySem.W.specialIn K (.builtin "object.__class__") "__get__" = some (some (.builtin "getset_descriptor.__get__"))) (htk : PySem.W.takesIn K (.builtin "object.__class__") = some true)
      (hm : PySem.W.mroIn K C (.type "object") = some true) : TyOf K H (.ref a) (.ref C)
/-- isinstance(x, c) for one class c, a built-in or an own one: kitOne's answer -/
theorem isinst_ok {x : V} {u t : Value} (I : Inv X pins σ H s) (rx : RelV x u) (ty : TyOf X.K H x t) (e : PySem.W.kitOne X.K t c = some b) (h : ∀ tk, Q (.bool b) { s with toks := tk }) :
    wpAny (model X.prog X.w) A (call (.builtin "isinstance") [u, c]) Q E s := by
  cases ty with
  | non => cases (show u = Value.none from rx); exact PySem.W.kia_one PySem.W.kitx_none I.kIn True.intro e (fun z => nomatch z) h
  | bl y => cases (show u = Value.bool y from rx); exact PySem.W.kia_one PySem.W.kitx_bool I.kIn True.intro e (fun z => nomatch z) h
  | int i => obtain ⟨t, q⟩ := (show ∃ t, u = Value.int i t from rx); cases q; exact PySem.W.kia_one PySem.W.kitx_int I.kIn True.intro e (fun z => nomatch z) h
  | str y => obtain ⟨t, q⟩ := (show ∃ t, u = Value.str y t from rx); cases q; exact PySem.W.kia_one PySem.W.kitx_str I.kIn True.intro e (fun z => nomatch z) h
  | flt y => obtain ⟨t, q⟩ := (show ∃ t, u = Value.float y t from rx); cases q; exact PySem.W.kia_one PySem.W.kitx_float I.kIn True.intro e (fun z => nomatch z) h
  | @lst a xs ea =>
    cases (show u = Value.ref a from rx)
    obtain ⟨_, _, n, _, h1⟩ := (show ObjOk X.prog X.w H s.heap a (.lst xs) from I.hok a _ ea)
    exact PySem.W.kia_one PySem.W.kitx_list I.kIn ⟨_, h1, rfl⟩ e (fun z => nomatch z) h
  | @frz a ob xs ea =>
    cases (show u = Value.ref a from rx)
    obtain ⟨_, _, _, n, _, h1⟩ := (show ObjOk X.prog X.w H s.heap a (.frz ob (.lst xs)) from I.hok a _ ea)
    exact PySem.W.kia_one PySem.W.kitx_list I.kIn ⟨_, h1, rfl⟩ e (fun z => nomatch z) h
  | @tup a xs ea =>
    cases (show u = Value.ref a from rx)
    obtain ⟨_, _, _, p⟩ := (show ObjOk X.prog X.w H s.heap a (.tup xs) from I.hok a _ ea)
    obtain ⟨o, h1, h2, _⟩ := p
    exact PySem.W.kia_one PySem.W.kitx_tuple I.kIn ⟨o, h1, h2⟩ e (fun z => nomatch z) h
  | @dK a kvs ea =>
    cases (show u = Value.ref a from rx)
    obtain ⟨_, _, vs, _, p⟩ := (show ObjOk X.prog X.w H s.heap a (.dK kvs) from I.hok a _ ea)
    obtain ⟨o, es, ep, h1, h2, _⟩ := p
    exact PySem.W.kia_one PySem.W.kitx_dict I.kIn ⟨o, h1, h2.1⟩ e (fun z => nomatch z) h
  | @dT a kvs ea =>
    cases (show u = Value.ref a from rx)
    obtain ⟨_, _, xs, _, o, es, ep, h1, h2, _⟩ := (show ObjOk X.prog X.w H s.heap a (.dT kvs) from I.hok a _ ea)
    exact PySem.W.kia_one PySem.W.kitx_dict I.kIn ⟨o, h1, h2.1⟩ e (fun z => nomatch z) h
  | @ins a C dx fs ea cl ha hn htk hm =>
    cases (show u = Value.ref a from rx)
    obtain ⟨mA, O, _⟩ := ins_get I.hok ea
    obtain ⟨od, J, _⟩ := O.look
    exact PySem.W.kia_one (PySem.W.kitx_own (cl.get _) cl.hd ha hn htk hm) I.kIn J e (fun z => nomatch z) h
end
end L2

namespace L2
open PySem PySem.Spec PyProof.Rows

/-! ### room -/
structure Room (k : Nat) (A : Around) : Prop where
  hd : A.handled = none
  dp : A.depth + 3 * k + 5 < recursionLimit
  un : A.units + 16 * k + 200 < cLine
theorem Room.mono {j k : Nat} {A : Around} (r : Room k A) (h : j ≤ k) : Room j A := ⟨r.hd, by have := r.dp; omega, by have := r.un; omega⟩
theorem Room.deeper {k : Nat} {A : Around} (r : Room (k + 1) A) (env : Env) : Room k (A.deeper env) :=
  ⟨r.hd, by have := r.dp; show A.depth + 1 + 3 * k + 5 < _; omega, by have := r.un; show A.units + 3 + 16 * k + 200 < _; omega⟩
theorem Room.in1 {k : Nat} {A : Around} (r : Room (k + 1) A) : Room k A.in1 :=
  ⟨r.hd, by have := r.dp; show A.depth + 3 * k + 5 < _; omega, by have := r.un; show A.units + 1 + 16 * k + 200 < _; omega⟩
theorem make_depth {A : Around} {C : Addr} {us : List Value} {kw : List (Str × Value)} : (A.under (.builtin "type.__call__" ⟨.ref C :: us, kw⟩)).depth = A.depth + 1 := by
  first | rfl | simp [Around.under, Code.weight, Code.isCreation, Code.isGuard, Code.isCaller, Code.frames, Code.isFrame, guardIds]
theorem make_units {A : Around} {C : Addr} {us : List Value} {kw : List (Str × Value)} : (A.under (.builtin "type.__call__" ⟨.ref C :: us, kw⟩)).units = A.units + 1 := by
  first | rfl | simp [Around.under, Code.cUnits, Code.frames, Code.isFrame]
theorem Room.make {k : Nat} {A : Around} (r : Room (k + 1) A) (C : Addr) (us : List Value) (kw : List (Str × Value)) : Room k (A.under (.builtin "type.__call__" ⟨.ref C :: us, kw⟩)) :=
  ⟨r.hd, by have := r.dp; rw [make_depth]; omega, by have := r.un; rw [make_units]; omega⟩
theorem Room.depth {k : Nat} {A : Around} (r : Room k A) : A.depth < recursionLimit := by have := r.dp; omega
theorem Room.units0 {k : Nat} {A : Around} (r : Room k A) : A.units < cLine := by have := r.un; omega

/-! ### argument lists and displays -/
def tNil : TA := fun _ H Q => Q [] H
def tCons (ta : TE) (tr : TA) : TA := fun σ H Q => ta σ H fun x H1 => tr σ H1 fun xs H2 => Q (x :: xs) H2
section
variable {X : Cx} {e : Expr} {es : List Expr} {te : TE} {t : TA} {pos : Pos}
theorem pa_nil : PA X [] tNil := fun _ _ _ _ H Q I h => Calls.spliced_nil ⟨[], H, I, .nil, h⟩
theorem pa_cons (ha : PE X e te) (hr : PA X es t) (hs : starEach (e :: es) X.env = (false, eval e X.env) :: starEach es X.env := by rfl) : PA X (e :: es) (tCons te t) := by
  intro pos pins s σ H Q I h
  rw [hs]
  show wpAny _ _ (spliced ((false, eval e X.env) :: backTo pos (starEach es X.env))) _ _ s
  refine Calls.spliced_cons (thn (ha pins s σ H _ I h) fun u s1 ⟨x, H1, I1, r1, q1⟩ => ?_)
  exact thn (hr pos pins s1 σ H1 _ I1 q1) fun us s2 ⟨xs, H2, I2, r2, q2⟩ => ⟨x :: xs, H2, I2, .cons r1 r2, q2⟩

/-- a tuple, a list of written items -/
def tTup (t : TA) : TE := fun σ H Q => t σ H fun xs H1 => xs.length ≤ sizeLine ∧ ∀ p, H1 p = none → Q (.ref p) (upd H1 p (.tup xs))
def tLst (t : TA) : TE := fun σ H Q => t σ H fun xs H1 => xs.length ≤ sizeLine ∧ ∀ p, H1 p = none → Q (.ref p) (upd H1 p (.lst xs))
theorem pe_tup {x1} (h : PA X es t) : PE X (.Tuple es x1 pos) (tTup t) := by
  intro pins s σ H Q I hq
  refine wpAny_Tuple_spliced (thn (h pos pins s σ H _ I hq) fun us s1 ⟨xs, H1, I1, r, z, q⟩ => ⟨by rw [← r.length]; exact z, ?_⟩)
  have hf : H1 s1.heap.objs.size = none := I1.hok.fresh (Nat.le_refl _)
  refine ⟨.ref s1.heap.objs.size, upd H1 s1.heap.objs.size (.tup xs), I1.laid (t' := s1.toks) (fun b u e => Heap.get?_push_of_some _ e) (Nat.le_refl _) ?_, rfl, q _ hf⟩
  exact ⟨z, us, r, ⟨_, Heap.get?_push_size _ rfl, rfl, _, rfl⟩⟩
theorem pe_lst (h : PA X es t) : PE X (.List es pos) (tLst t) := by
  intro pins s σ H Q I hq
  refine wpAny_List_spliced (thn (h pos pins s σ H _ I hq) fun us s1 ⟨xs, H1, I1, r, z, q⟩ => ⟨by rw [← r.length]; exact z, ?_⟩)
  have hf : H1 s1.heap.objs.size = none := I1.hok.fresh (Nat.le_refl _)
  refine ⟨.ref s1.heap.objs.size, upd H1 s1.heap.objs.size (.lst xs), I1.laid (t' := s1.toks) (fun b u e => Heap.get?_push_of_some _ e) (Nat.le_refl _) ?_, rfl, q _ hf⟩
  exact ⟨z, us, 0, r, Heap.get?_push_size _ rfl⟩
end

/-! ### what a def promises -/
/-- a def's promise: the bound arguments in the parameters' order, the heap, the wanted end, the wanted exception -/
abbrev Sp := List V → Hp → VK → XK → Prop
/-- how an exception lies behind a call (file 08 gives it): the callers' frames, abstract heap and state ahead of the call, the wish, the exception, the state -/
abbrev CXT := List Env → Hp → Shared → XK → Value → Shared → Prop

/-- the state at a call -/
structure Env0 (P : Program) (w : World) (K : PySem.W.Frag) (mg : Str → Option Value) (base : Heap) (A : Around) (outer : List Env) (s : Shared) (H : Hp) : Prop where
  frames : A.frames = some outer
  mod : Mod K mg base
  bs : ∀ b o, base.get? b = some o → s.heap.get? b = some o ∧ H b = none
  bsz : base.objs.size ≤ s.heap.objs.size
  funs : s.heap.FunFrames base outer
  frf : ∀ b ∈ frs outer, H b = none
  hok : HOk P w H s.heap
  bare : AllBare s.gens
/-- a call's end -/
def CE (outer : List Env) (P : Program) (w : World) (H : Hp) (s : Shared) (Q : VK) (u : Value) (s' : Shared) : Prop :=
  ∃ v H', s'.os = s.os ∧ AllBare s'.gens ∧ Un (frs outer) [] H H' s.heap s'.heap ∧ HOk P w H' s'.heap ∧ RelV v u ∧ Q v H'
def CR (CX : CXT) (outer : List Env) (P : Program) (w : World) (H : Hp) (s : Shared) (Q : VK) (E : XK) (r : Result) (s' : Shared) : Prop :=
  match r with
  | .ok (.ret u) => CE outer P w H s Q u s'
  | .ok _ => False
  | .error e => CX outer H s E e s'
structure FnOk (P : Program) (w : World) (K : PySem.W.Frag) (mg : Str → Option Value) (base : Heap) (CX : CXT) (k : Nat) (f : Addr) (fd : FuncData) (ps : List Str) (sp : Sp) : Prop where
  len : ∀ vs H Q E, sp vs H Q E → vs.length = ps.length
  run : ∀ (A : Around) (outer : List Env) (s : Shared) (H : Hp) (args : Args) (us : List Value) (vs : List V) (Q : VK) (E : XK), Room k A → Env0 P w K mg base A outer s H → BindsTo s fd args (ps.zip us) → Vals vs us → sp vs H Q E →
    codeAny (model P w) A (.call (.ref f) args) (CR CX outer P w H s Q E) s
/-- a weaker promise -/
theorem FnOk.imp {P : Program} {w : World} {K : PySem.W.Frag} {mg : Str → Option Value} {base : Heap} {CX : CXT} {k : Nat} {f : Addr} {fd : FuncData} {ps : List Str} {sp sp' : Sp} (F : FnOk P w K mg base CX k f fd ps sp)
    (h : ∀ vs H Q E, sp' vs H Q E → sp vs H Q E) : FnOk P w K mg base CX k f fd ps sp' :=
  ⟨fun vs H Q E q => F.len vs H Q E (h _ _ _ _ q), fun A outer s H args us vs Q E hr he hb hv hs => F.run A outer s H args us vs Q E hr he hb hv (h _ _ _ _ hs)⟩

theorem Env0.make {P : Program} {w : World} {K : PySem.W.Frag} {mg : Str → Option Value} {base : Heap} {A : Around} {outer : List Env} {s : Shared} {H : Hp} (e : Env0 P w K mg base A outer s H) (C : Addr) (us : List Value) (kw : List (Str × Value)) :
    Env0 P w K mg base (A.under (.builtin "type.__call__" ⟨.ref C :: us, kw⟩)) outer s H := ⟨by first | exact e.frames | (simpa [Around.under, Code.envs, Code.isFrame, pushEnvs] using e.frames), e.mod, e.bs, e.bsz, e.funs, e.frf, e.hok, e.bare⟩
section
variable {X : Cx} {pins : List (Addr × Obj)} {σ : St} {H : Hp} {s s' : Shared}
/-- from a body: what a callee wants -/
theorem Inv.env0 (I : Inv X pins σ H s) : Env0 X.prog X.w X.K X.mg X.base X.A X.stack s H :=
  ⟨I.ok.frames, I.ok.mod, I.bs, Nat.le_trans I.ok.bsz I.sz, I.stack, I.stkFree, I.hok, I.bare⟩
/-- behind a call -/
theorem Inv.after {Q : VK} {u : Value} (I : Inv X pins σ H s) (h : CE X.stack X.prog X.w H s Q u s') : EP X pins σ Q u s' := by
  obtain ⟨v, H', os, bare, un, hok, r, q⟩ := h
  obtain ⟨hh, g, d, t, os'⟩ := s'
  obtain rfl : os' = s.os := os
  exact ⟨v, H', I.call (h' := hh) (g' := g) (d' := d) (t' := t) (ch := []) un hok bare (fun b z => absurd z (by simp)), r, q⟩
end

/-! ### calls -/
/-- f(..): the written arguments, then the defaults dvs; E: what is wanted of an exception -/
def tCall (sp : Sp) (dvs : List V) (E : XK) (t : TA) : TE := fun σ H Q => t σ H fun vs H1 => sp (vs ++ dvs) H1 Q E
/-- how the parameters are bound: us the positional arguments, kw the keywords' values by name, ds the defaults that fill up -/
def Binds (K : PySem.W.Frag) (fd : FuncData) (ps : List Str) (ds : List Value) : Prop :=
  ∀ (s : Shared) (us : List Value), K.In s.heap → (us ++ ds).length = ps.length → BindsTo s fd ⟨us, []⟩ (ps.zip (us ++ ds))
/-- every parameter is given -/
theorem Binds.all {K : PySem.W.Frag} {fd : FuncData} {ps : List Str} (h : ∀ us : List Value, us.length = ps.length → bindArgs fd ⟨us, []⟩ = pure (ps.zip us)) : Binds K fd ps [] := fun s us _ hl => by
  rw [List.append_nil] at hl ⊢
  exact .of_eq (h us hl)

/-- an exception of a callee reaches what this body wants of exceptions -/
def Passes (CX : CXT) (X : Cx) (E : XK) : Prop := ∀ (pins : List (Addr × Obj)) (σ : St) (H : Hp) (s : Shared) (e : Value) (s' : Shared), Inv X pins σ H s → CX X.stack H s E e s' → X.xe e s'

section
variable {X : Cx} {CX : CXT} {k : Nat} {f C : Addr} {fd : FuncData} {ps : List Str} {sp : Sp} {dvs : List V} {ds : List Value} {E : XK} {x m : Str} {p pos apos : Pos} {e o : Expr} {es : List Expr} {ta : TE} {t : TA}

/-- the callee runs -/
theorem run_fn {pins : List (Addr × Obj)} {σ : St} {H : Hp} {s : Shared} {Q : VK} {us : List Value} {vs : List V} (F : FnOk X.prog X.w X.K X.mg X.base CX k f fd ps sp) (hr : Room k X.A) (hb : Binds X.K fd ps ds) (hd : Vals dvs ds) (hx : Passes CX X E)
    (I : Inv X pins σ H s) (r : Vals vs us) (h : sp (vs ++ dvs) H Q E) : wpAny (model X.prog X.w) X.A (call (.ref f) us) (EP X pins σ Q) X.xe s := by
  have r2 : Vals (vs ++ dvs) (us ++ ds) := r.append hd
  have hl : (us ++ ds).length = ps.length := by rw [← r2.length]; exact F.len _ _ _ _ h
  refine wpAny_call (codeAny_mono (F.run X.A X.stack s H ⟨us, []⟩ (us ++ ds) (vs ++ dvs) Q E hr I.env0 (hb s us I.kIn hl) r2 h) fun r s' hq => ?_)
  cases r with
  | error e => exact hx pins σ H s e s' I hq
  | ok fl =>
    cases fl with
    | ret u => exact I.after hq
    | next => exact False.elim hq
    | brk => exact False.elim hq
    | cont => exact False.elim hq

theorem pe_call (F : FnOk X.prog X.w X.K X.mg X.base CX k f fd ps sp) (hr : Room k X.A) (hg : Gl X x) (hm : X.mg x = some (.ref f)) (hk : PySem.W.keepIn X.K (.ref f) = true) (hb : Binds X.K fd ps ds) (hd : Vals dvs ds) (hx : Passes CX X E)
    (ha : PA X (e :: es) t) (hdb : (x == ("__debug__" : Str)) = false := by decide) (he : starEach (e :: es) X.env = (false, eval e X.env) :: starEach es X.env := by rfl) (hpl : (backTo pos (starEach es X.env)).any (·.1) = false := by rfl) :
    PE X (.Call (.Name x p) (e :: es) [] pos) (tCall sp dvs E t) := by
  intro pins s σ H Q I h
  refine wpAny_Call_Name_kw (ld_glob I hg hm ?_ hdb)
  refine PySem.W.callWith_K (h₀ := X.base) I.ok.mod.kin hk (thn (ha pos pins s σ H _ I h) fun us s1 ⟨vs, H1, I1, r, q⟩ => ⟨I1.kIn, ?_⟩) he hpl
  exact run_fn F hr hb hd hx I1 r q
end

/-! ### keywords -/
/-- the values of the keywords, from the left -/
def PK (X : Cx) (kws : List Keyword) (t : TA) : Prop :=
  ∀ (pos : Pos) (pins : List (Addr × Obj)) (s : Shared) (σ : St) (H : Hp) (Q : List V → Hp → Prop), Inv X pins σ H s → t σ H Q → wpAny (model X.prog X.w) X.A (evalAll ((backToKw pos (keywordEach kws X.env)).map (·.2))) (AP X pins σ Q) X.xe s
section
variable {X : Cx} {CX : CXT} {k : Nat} {f C : Addr} {fd : FuncData} {ps ks : List Str} {sp : Sp} {E : XK} {x m : Str} {p pos apos kpos : Pos} {e o : Expr} {es : List Expr} {kws : List Keyword} {te ta : TE} {t tk : TA} {nm : Option Str}
theorem pk_nil : PK X [] tNil := fun _ _ _ _ H Q I h => wpAny_evalAll_nil ⟨[], H, I, .nil, h⟩
theorem pk_cons (ha : PE X e te) (hr : PK X kws t) : PK X (⟨nm, e, kpos⟩ :: kws) (tCons te t) := by
  intro pos pins s σ H Q I h
  show wpAny _ _ (evalAll ((do let v ← eval e X.env; standAt pos; pure v) :: (backToKw pos (keywordEach kws X.env)).map (·.2))) _ _ s
  refine wpAny_evalAll_cons (wpAny_bind (thn (ha pins s σ H _ I h) fun u s1 ⟨x, H1, I1, r1, q1⟩ => wpAny_bind (wpAny_standAt (wpAny_pure ?_))))
  exact thn (hr pos pins s1 σ H1 _ I1 q1) fun us s2 ⟨xs, H2, I2, r2, q2⟩ => ⟨x :: xs, H2, I2, .cons r1 r2, q2⟩

variable {g : List Value → List Value → List Value} {gV : List V → List V → List V}
end

/-! ### a def's body keeps its promise -/
/-- names: the parameters first -/
structure FnScope (N P : List Str) (sc : Scope) : Prop where
  kind : sc.kind = .function
  co : sc.isCoroutine = false
  gen : sc.isGenerator = false
  nd : N.Nodup
  pre : N.take P.length = P
  par : ∀ x ∈ P, sc.names.lookup x = some .local ∨ sc.names.lookup x = some .cell
  nofree : ∀ y ∈ sc.names, y.2 ≠ .free

theorem bindL_out {kindOf : Str → Option NameKind} {x : Str} : ∀ {binds : List (Str × Value)} {m : Str → Option Value}, (∀ v, (x, v) ∉ binds) → bindL kindOf binds m x = m x
  | [], _, _ => rfl
  | (n, v) :: r, m, h => by
    unfold bindL
    rw [bindL_out fun w hw => h w (List.mem_cons_of_mem _ hw)]
    split
    · have : x ≠ n := by rintro rfl; exact h v List.mem_cons_self
      simp [this]
    · rfl
theorem bindC_out {kindOf : Str → Option NameKind} {x : Str} : ∀ {binds : List (Str × Value)} {m : Str → Option Value}, (∀ v, (x, v) ∉ binds) → bindC kindOf binds m x = m x
  | [], _, _ => rfl
  | (n, v) :: r, m, h => by
    unfold bindC
    rw [bindC_out fun w hw => h w (List.mem_cons_of_mem _ hw)]
    split
    · rfl
    · have : x ≠ n := by rintro rfl; exact h v List.mem_cons_self
      simp [this]
theorem bindL_get {kindOf : Str → Option NameKind} {x : Str} {v : Value} : ∀ {P : List Str} {vs : List Value} {i : Nat} {m : Str → Option Value}, P.Nodup → P[i]? = some x → vs[i]? = some v → kindOf x = some .local →
    bindL kindOf (P.zip vs) m x = some v
  | [], _, _, _, _, h, _, _ => by simp at h
  | _ :: _, [], _, _, _, _, h, _ => by simp at h
  | p :: P, w :: vs, 0, m, nd, h1, h2, hk => by
    simp at h1 h2; subst h1; subst h2
    show bindL kindOf ((p, w) :: P.zip vs) m p = _
    unfold bindL
    rw [bindL_out fun v hv => (List.nodup_cons.mp nd).1 (List.of_mem_zip hv).1, if_pos hk]
    simp
  | p :: P, w :: vs, i + 1, m, nd, h1, h2, hk => by
    show bindL kindOf ((p, w) :: P.zip vs) m x = _
    unfold bindL
    exact bindL_get (i := i) (List.nodup_cons.mp nd).2 (by simpa using h1) (by simpa using h2) hk
theorem bindC_get {kindOf : Str → Option NameKind} {x : Str} {v : Value} : ∀ {P : List Str} {vs : List Value} {i : Nat} {m : Str → Option Value}, P.Nodup → P[i]? = some x → vs[i]? = some v → kindOf x ≠ some .local →
    bindC kindOf (P.zip vs) m x = some v
  | [], _, _, _, _, h, _, _ => by simp at h
  | _ :: _, [], _, _, _, _, h, _ => by simp at h
  | p :: P, w :: vs, 0, m, nd, h1, h2, hk => by
    simp at h1 h2; subst h1; subst h2
    show bindC kindOf ((p, w) :: P.zip vs) m p = _
    unfold bindC
    rw [bindC_out fun v hv => (List.nodup_cons.mp nd).1 (List.of_mem_zip hv).1, if_neg hk]
    simp
  | p :: P, w :: vs, i + 1, m, nd, h1, h2, hk => by
    show bindC kindOf ((p, w) :: P.zip vs) m x = _
    unfold bindC
    exact bindC_get (i := i) (List.nodup_cons.mp nd).2 (by simpa using h1) (by simpa using h2) hk

/-- the names' values at the entry -/
def start (N : List Str) (vs : List V) : St := vs.map some ++ List.replicate (N.length - vs.length) none

/-- the context of a def's body, at its entry; an exception leaves the frame, then lies as CX says -/
def cxOf (CX : CXT) (P : Program) (w : World) (K : PySem.W.Frag) (mg : Str → Option Value) (base : Heap) (N : List Str) (qual : Str) (scope : Scope) (f : Addr) (cd : Value) (A : Around) (outer : List Env) (s : Shared) (H : Hp) (E : XK) : Cx where
  prog := P
  w := w
  K := K
  mg := mg
  base := base
  A := A.deeper (envOfC qual scope s.heap.objs.size f cd)
  N := N
  s₀ := s
  H₀ := H
  env := envOfC qual scope s.heap.objs.size f cd
  outer := outer
  stack := envOfC qual scope s.heap.objs.size f cd :: outer
  ex := []
  calm := true
  fn := fun _ => true
  pn := []
  xe := fun e s' => wpAny (model P w) (A.deeper (envOfC qual scope s.heap.objs.size f cd)) (leaving (envOfC qual scope s.heap.objs.size f cd) e) (fun _ s'' => CX outer H s E e s'') (fun e' s'' => CX outer H s E e' s'') s'

theorem cell_has {sc : Scope} {n : Nat} {x : Str} (h : sc.names.lookup x = some .cell) : ∃ c, (cellsFrom n sc.names []).lookup x = some c := by
  have q := PySem.W.cellsFrom_some sc.names n [] (.inl h)
  exact Option.isSome_iff_exists.mp q

theorem inv_start {CX : CXT} {P : Program} {w : World} {K : PySem.W.Frag} {mg : Str → Option Value} {base : Heap} {N ps : List Str} {qual : Str} {scope : Scope} {f : Addr} {cd : Value} {A : Around} {outer : List Env} {s s1 : Shared} {H : Hp} {E : XK} {us : List Value} {vs : List V}
    (S : FnScope N ps scope) (hd : A.handled = none) (e0 : Env0 P w K mg base A outer s H) (hl : vs.length = ps.length) (r : Vals vs us)
    (x : InCallC s s.heap.objs.size (bindL (envOfC qual scope s.heap.objs.size f cd).kindOf (ps.zip us) fun _ => none) (cellsFrom (s.heap.objs.size + 1) scope.names []) (bindC (envOfC qual scope s.heap.objs.size f cd).kindOf (ps.zip us) fun _ => none) s1) :
    Inv (cxOf CX P w K mg base N qual scope f cd A outer s H E) [] (start N vs) H s1 := by
  have hpl : ps.length ≤ N.length := by have := congrArg List.length S.pre; rw [List.length_take] at this; omega
  obtain ⟨h1, tk, rfl, hk⟩ := x.done
  have noA : ∀ b : Addr, b ∉ (cxOf CX P w K mg base N qual scope f cd A outer s H E).ex := fun b z => absurd (show b ∈ ([] : List Addr) from z) (by simp)
  refine ⟨⟨e0.mod, S.kind, rfl, rfl, Nat.le_refl _, fun y z c h1 h2 => ?_, fun y hy => ?_, fun y c _ h => ?_, fun _ => hd, Around.frames_deeper e0.frames, .inr ⟨rfl, rfl⟩, fun b z => absurd z (noA b), e0.bs, e0.bsz, fun b _ _ => noA b, fun b z => absurd z (noA b), e0.funs, e0.frf⟩,
    rfl, e0.bare, Un.kept hk, ⟨_, x.toInCall.ns, fun i y v h1 h2 h3 => ?_⟩, fun y c h => ⟨_, x.cell y c h⟩, e0.hok.fresh (Nat.le_refl _), fun y c h => ?_, fun p hp => absurd (show p ∈ ([] : List (Addr × Obj)) from hp) (by simp), e0.hok.kept hk, ?_⟩
  · exact name_of_addr x.apart (PySem.mem_of_lookup h1) (PySem.mem_of_lookup h2)
  · have hy : scope.names.lookup y = some .cell ∨ scope.names.lookup y = some .free := hy
    rcases hy with hy | hy
    · exact cell_has hy
    · exact absurd rfl (S.nofree _ (PySem.mem_of_lookup hy))
  · exact Nat.le_of_lt (x.above y c (PySem.mem_of_lookup h))
  · have hi : i < vs.length := by
      unfold start at h2
      by_cases hi : i < vs.length
      · exact hi
      · rw [List.getElem?_append_right (by simpa using hi)] at h2
        rw [List.getElem?_replicate] at h2
        split at h2 <;> cases h2
    have ha : vs[i]? = some v := by
      unfold start at h2
      rw [List.getElem?_append_left (by simpa using hi), List.getElem?_map] at h2
      cases e : vs[i]? with
      | none => rw [e] at h2; cases h2
      | some a => rw [e] at h2; cases h2; rfl
    obtain ⟨u, hu, rv⟩ := r.get ha
    have hp : ps[i]? = some y := by
      rw [← S.pre, List.getElem?_take_of_lt (by omega)]; exact h1
    have ndP : ps.Nodup := by rw [← S.pre]; exact S.nd.sublist (List.take_sublist _ _)
    refine ⟨u, rv, ?_⟩
    rcases S.par y (List.mem_of_getElem? hp) with k | k
    · exact .inl ⟨k, bindL_get ndP hp hu k⟩
    · obtain ⟨c, e⟩ := cell_has (n := s.heap.objs.size + 1) k
      refine .inr ⟨.inl k, c, e, ?_⟩
      have q := x.cell y c e
      rw [bindC_get ndP hp hu (by show scope.names.lookup y ≠ _; rw [k]; decide)] at q
      exact q
  · exact e0.hok.fresh (Nat.le_of_lt (x.above y c (PySem.mem_of_lookup h)))
  · unfold start
    show _ = N.length
    rw [List.length_append, List.length_map, List.length_replicate]
    omega

/-- THE RULE: a def (or a method) of the text, by its body. The body's reading t is chosen for each entry; it is run at the parameters' values -/
theorem fn_of {CX : CXT} {P : Program} {w : World} {K : PySem.W.Frag} {mg : Str → Option Value} {base : Heap} {k : Nat} {f : Addr} {name qual : Str} {params : Arguments} {body : List Stmt} {scope : Scope} {dV kV doc pm cdv ct oc : Value} {an od : Option Addr}
    {osl : Array (Option Value)} {N ps : List Str} {sp : Sp} (lk : K.lookup f = some ⟨oc, od, .func (PySem.W.fnOf name qual params body scope dV kV doc pm an cdv ct), osl⟩) (hcd : PySem.W.codeIn K cdv qual = true) (S : FnScope N ps scope)
    (len : ∀ vs H Q E, sp vs H Q E → vs.length = ps.length)
    (hbody : ∀ (A : Around) (outer : List Env) (s : Shared) (H : Hp) (vs : List V) (Q : VK) (E : XK), Room k (A.deeper (envOfC qual scope s.heap.objs.size f cdv)) → sp vs H Q E →
      ∃ t, PSs (cxOf CX P w K mg base N qual scope f cdv A outer s H E) body t ∧ t { nx := fun _ H' => Q .non H', rt := Q } (start N vs) H) :
    FnOk P w K mg base CX (k + 1) f (PySem.W.fnOf name qual params body scope dV kV doc pm an cdv ct) ps sp := by
  refine ⟨len, fun A outer s H args us vs Q E hr e0 hb r hsp => ?_⟩
  have hl := len _ _ _ _ hsp
  have KX : K.In s.heap := e0.mod.kin.keeps fun b o e => (e0.bs b o e).1
  have lim : s.heap.NoLimit := e0.mod.nolimit.keeps fun b o e => (e0.bs b o e).1
  have hkind : ∀ y ∈ ps.zip us, scope.names.lookup y.1 = some .local ∨ (scope.names.lookup y.1 = some .cell ∧ ((cellsFrom (s.heap.objs.size + 1) scope.names []).lookup y.1).isSome = true) := fun ⟨n, v⟩ hy => by
    rcases S.par n (List.of_mem_zip hy).1 with q | q
    · exact .inl q
    · exact .inr ⟨q, PySem.W.cellsFrom_some _ _ _ (.inl q)⟩
  refine codeAny_call_function hr.depth (KX _ _ lk) rfl S.co S.gen rfl (PySem.W.codeRec_of KX hcd) (hb _ _ _ _ ?_)
  refine wpAny_newFunctionEnv_cells S.kind hkind fun env he s1 x => ?_
  subst he
  refine ⟨lim.keeps x.toInCall.keep, codeAny_func ?_⟩
  obtain ⟨t, ht, hq⟩ := hbody A outer s H vs Q E (hr.deeper _) hsp
  have I : Inv (cxOf CX P w K mg base N qual scope f cdv A outer s H E) [] (start N vs) H s1 := inv_start S hr.hd e0 hl r x
  refine wpAny_mono (ht [] s1 (start N vs) H _ I hq) (fun fl s' hs => ?_) fun e s' hs => hs
  have fin : ∀ {σ' : St} {H' : Hp} {v : V} {u : Value}, Inv (cxOf CX P w K mg base N qual scope f cdv A outer s H E) [] σ' H' s' → RelV v u → Q v H' → CE outer P w H s Q u s' :=
    fun {σ' H' v u} J rv q => ⟨v, H', J.os, J.bare, J.base, J.hok, rv, q⟩
  cases fl with
  | ret u =>
    obtain ⟨v, σ', H', J, rv, q⟩ := hs
    exact fin J rv q
  | next =>
    obtain ⟨σ', H', J, q⟩ := hs
    exact fin (v := V.non) (u := Value.none) J rfl q
  | brk =>
    obtain ⟨_, _, _, q⟩ := hs
    exact False.elim q
  | cont =>
    obtain ⟨_, _, _, q⟩ := hs
    exact False.elim q
end L2

namespace L2
open PySem PySem.Spec PyProof.Rows
section
variable {X : Cx} {x : Str} {p pos : Pos} {e : Expr} {es : List Expr} {t : TA} {id T : String} {r : List V → Hp → VK → Prop}

def tCB (r : List V → Hp → VK → Prop) (t : TA) : TE := fun σ H Q => t σ H fun vs H1 => r vs H1 Q
/-- f(e, ..), f a built-in function -/
theorem pe_callB (hc : CallR X (.builtin id) r) (hg : Gl X x) (hm : X.mg x = none) (hv : bootBuiltins x = some (.builtin id)) (ha : PA X (e :: es) t) (hn : x ≠ "__name__" := by decide) (hdb : (x == ("__debug__" : Str)) = false := by decide)
    (he : starEach (e :: es) X.env = (false, eval e X.env) :: starEach es X.env := by rfl) (hpl : (backTo pos (starEach es X.env)).any (·.1) = false := by rfl) : PE X (.Call (.Name x p) (e :: es) [] pos) (tCB r t) := by
  intro pins s σ H Q I h
  refine wpAny_Call_Name_kw (ld_blt I hg hm hv ?_ hn hdb)
  exact PyProof.Rows.callWith_builtin1 (thn (ha pos pins s σ H _ I h) fun us s1 ⟨vs, H1, I1, r1, q1⟩ => hc pins s1 σ H1 vs us Q I1 r1 q1) he hpl
/-- T(e, ..), T a built-in type -/
theorem pe_callTy (hc : CallR X (.type T) r) (hg : Gl X x) (hm : X.mg x = none) (hv : bootBuiltins x = some (.type T)) (ha : PA X (e :: es) t) (hn : x ≠ "__name__" := by decide) (hdb : (x == ("__debug__" : Str)) = false := by decide)
    (he : starEach (e :: es) X.env = (false, eval e X.env) :: starEach es X.env := by rfl) (hpl : (backTo pos (starEach es X.env)).any (·.1) = false := by rfl) : PE X (.Call (.Name x p) (e :: es) [] pos) (tCB r t) := by
  intro pins s σ H Q I h
  refine wpAny_Call_Name_kw (ld_blt I hg hm hv ?_ hn hdb)
  exact PyProof.Rows.callWith_type1 (thn (ha pos pins s σ H _ I h) fun us s1 ⟨vs, H1, I1, r1, q1⟩ => hc pins s1 σ H1 vs us Q I1 r1 q1) he hpl
end
end L2

namespace HT
open PySem PyProof.Rows

theorem rcLt_int (A : Around) (s : Shared) (a : Int) (t : Tok) (c : Int) (u : Tok) (prog : Program) (w : World) (E : Value → Shared → Prop) (Q : Value → Shared → Prop) (h : Q (.bool (decide (a < c))) s) :
    wpAny (model prog w) A (richCompare .Lt (.int a t) (.int c u)) Q E s :=
  (PyProof.Rows.lt_int h : wpAny (model prog w) A (compareOp .Lt (.int a t) (.int c u)) Q E s)

section
open PySem.SeqAt
open PySem.AutoSeq1 (wpAny_loadPart')
open PySem.MeetsSeq PySem.MeetsSeq2 PySem.MeetsSeq3

end

section
variable {prog : Program} {w : World} {A : Around} {E : Value → Shared → Prop} {s : Shared}

/-! ### t[a:b], not the whole -/
/-- a slice's bound as a place among n (d where it is left out) -/
def sIx (n d : Nat) : Option Int → Nat
  | none => d
  | some v => if v < 0 then (v + (n : Int)).toNat else min v.toNat n
end
end HT

namespace L2
open PySem PySem.Spec PyProof.Rows

/-! ### the parts of a slice -/
abbrev TO := St → Hp → (Option Int → Hp → Prop) → Prop
/-- a slice's part (left out, or an int) -/
def PO (X : Cx) (e : Option Expr) (t : TO) : Prop :=
  ∀ (pins : List (Addr × Obj)) (s : Shared) (σ : St) (H : Hp) (Q : Option Int → Hp → Prop), Inv X pins σ H s → t σ H Q →
    wpAny (model X.prog X.w) X.A (evalPart e X.env) (fun u s' => ∃ o H', Inv X pins σ H' s' ∧ IsPart u o ∧ Q o H') X.xe s
def tNoPart : TO := fun _ H Q => Q none H
def tPart (t : TE) : TO := fun σ H Q => t σ H fun x H1 => ∃ i, x = .int i ∧ Q (some i) H1

section
variable {X : Cx} {e : Expr} {te : TE} {lo hi : Option Expr} {tl th : TO} {pos p2 : Pos}

theorem po_none : PO X none tNoPart := by
  intro pins s σ H Q I h
  rw [evalPart_none]
  exact wpAny_pure ⟨none, H, I, .none, h⟩
theorem po_some (h : PE X e te) : PO X (some e) (tPart te) := by
  intro pins s σ H Q I hw
  rw [evalPart_some]
  refine thn (h pins s σ H _ I hw) fun u s1 ⟨x, H1, I1, r1, q1⟩ => ?_
  obtain ⟨i, rfl, q⟩ := q1
  obtain ⟨t, rfl⟩ := r1
  exact ⟨some i, H1, I1, .int i t, q⟩

/-- what a slice of a value is, by values: the slice object stands at sl -/
def SlR (X : Cx) (r : V → Option Int → Option Int → Hp → VK → Prop) : Prop :=
  ∀ (pins : List (Addr × Obj)) (s : Shared) (σ : St) (H : Hp) (x : V) (v vl vu : Value) (lo hi : Option Int) (sl : Addr) (Q : VK), Inv X pins σ H s → RelV x v → s.heap.IsSliceOf sl vl vu .none → IsPart vl lo → IsPart vu hi → r x lo hi H Q →
    ∃ T id, typeLookup (.type T) "__getitem__" = pure (some (.builtin id)) ∧ s.TypeIs v T ∧ wpAny (model X.prog X.w) X.A (getItem v (.ref sl)) (EP X pins σ Q) X.xe s
def tSl (r : V → Option Int → Option Int → Hp → VK → Prop) (te : TE) (tl th : TO) : TE := fun σ H Q => te σ H fun x H1 => tl σ H1 fun l H2 => th σ H2 fun u H3 => r x l u H3 Q
/-- a[lo:hi], any a -/
theorem pe_slice {r : V → Option Int → Option Int → Hp → VK → Prop} (hr : SlR X r) (he : PE X e te) (hl : PO X lo tl) (hu : PO X hi th) : PE X (.Subscript e (.Slice lo hi none p2) pos) (tSl r te tl th) := by
  intro pins s σ H Q I h
  refine Subscript_ (thn (he pins s σ H _ I h) fun v s1 ⟨x, H1, I1, r1, q1⟩ => ?_)
  refine wpAny_Slice (thn (hl pins s1 σ H1 _ I1 q1) fun vl s2 ⟨l, H2, I2, pl, q2⟩ => thn (hu pins s2 σ H2 _ I2 q2) fun vu s3 ⟨u, H3, I3, pu, q3⟩ => ?_)
  rw [evalPart_none]
  refine wpAny_pure ?_
  have I4 : Inv X pins σ H3 { s3 with heap := s3.heap.push { cls := .type "slice", data := .fields #[vl, vu, .none] } } := I3.kept (t' := s3.toks) fun b ob q => Heap.get?_push_of_some _ q
  obtain ⟨T, id, hT, ht, hg⟩ := hr pins { s3 with heap := s3.heap.push { cls := .type "slice", data := .fields #[vl, vu, .none] } } σ H3 x v vl vu l u s3.heap.objs.size Q I4 r1 (Heap.IsSliceOf.new ..) pl pu q3
  show wpAny (model X.prog X.w) X.A (subscriptTail e (.Slice lo hi none p2) v (.ref s3.heap.objs.size)) (EP X pins σ Q) X.xe { s3 with heap := s3.heap.push { cls := .type "slice", data := .fields #[vl, vu, .none] } }
  exact tail_any (ops := [.ref s3.heap.objs.size, v]) ht hT hg (by with_unfolding_all rfl)

/-- the items of xs[lo:hi] -/
def cutV (xs : List V) (lo hi : Option Int) : List V := (xs.drop (HT.sIx xs.length 0 lo)).take (HT.sIx xs.length xs.length hi - HT.sIx xs.length 0 lo)
theorem cutV_length (xs : List V) (lo hi : Option Int) : (cutV xs lo hi).length ≤ xs.length := by
  unfold cutV
  rw [List.length_take, List.length_drop]
  omega
/-! ### t < u, t + u -/
end
end L2

namespace L2
open PySem PySem.Spec PyProof.Rows

/-! ### places -/
/-- the place that an index of any sign means -/
def ixN (n : Nat) (i : Int) : Option Nat := if 0 ≤ i then (if i < n then some i.toNat else none) else if -(n : Int) ≤ i then some (i + n).toNat else none
def atI {α : Type} (xs : List α) (i : Int) : Option α := (ixN xs.length i).bind fun j => xs[j]?
theorem ixN_seq {n : Nat} {i : Int} {j : Nat} (h : ixN n i = some j) : seqIndex? i n = some j ∧ j < n ∧ -(n : Int) ≤ i ∧ i < n := by
  unfold ixN at h
  by_cases h0 : 0 ≤ i
  · rw [if_pos h0] at h
    by_cases h1 : i < n
    · rw [if_pos h1] at h
      have e : i.toNat = j := Option.some.inj h
      exact ⟨by rw [seqIndex_of h0 h1, e], by omega, by omega, h1⟩
    · rw [if_neg h1] at h; cases h
  · rw [if_neg h0] at h
    by_cases h1 : -(n : Int) ≤ i
    · rw [if_pos h1] at h
      have e : (i + n).toNat = j := Option.some.inj h
      exact ⟨by rw [seqIndex_neg (by omega) h1, e], by omega, h1, by omega⟩
    · rw [if_neg h1] at h; cases h
theorem atI_get {α : Type} {xs : List α} {i : Int} {v : α} (h : atI xs i = some v) : ∃ j, seqIndex? i xs.length = some j ∧ xs[j]? = some v ∧ j < xs.length ∧ -(xs.length : Int) ≤ i ∧ i < xs.length := by
  unfold atI at h
  cases e : ixN xs.length i with
  | none => rw [e] at h; cases h
  | some j =>
    rw [e] at h
    obtain ⟨h1, h2, h3, h4⟩ := ixN_seq e
    exact ⟨j, h1, h, h2, h3, h4⟩
theorem atI_nat {α : Type} {xs : List α} {j : Nat} {v : α} (h : xs[j]? = some v) : atI xs (j : Int) = some v := by
  have hj : j < xs.length := (List.getElem?_eq_some_iff.mp h).1
  have e : ixN xs.length (j : Int) = some j := by
    unfold ixN
    rw [if_pos (by omega), if_pos (by omega)]; simp
  unfold atI; rw [e]; exact h
/-! ### what may be subscripted -/
/-- what stands as an index of a plain subscript -/
def PlainIx (b : Expr) : Prop := ∀ o i, subscripted b false o i = operate [o, i] (getItem o i)
/-- a subscript by values -/
def IxR (X : Cx) (r : R2) : Prop :=
  ∀ (value slice : Expr) (pins : List (Addr × Obj)) (s : Shared) (σ : St) (H : Hp) (x y : V) (v u : Value) (Q : VK), Inv X pins σ H s → RelV x v → RelV y u → r x y H Q →
    subscripted slice false v u = operate [v, u] (getItem v u) → wpAny (model X.prog X.w) X.A (subscriptTail value slice v u) (EP X pins σ Q) X.xe s
/-- a call of a builtin's method by values: the receiver, the arguments -/
def MtR (X : Cx) (id : String) (r : V → List V → Hp → VK → Prop) : Prop :=
  ∀ (pins : List (Addr × Obj)) (s : Shared) (σ : St) (H : Hp) (x : V) (xs : List V) (v : Value) (us : List Value) (Q : VK), Inv X pins σ H s → RelV x v → Vals xs us → r x xs H Q →
    wpAny (model X.prog X.w) X.A (call (.builtin id) (v :: us)) (EP X pins σ Q) X.xe s
section
variable {X : Cx} {a b : Expr} {ta tb : TE} {pos : Pos}
theorem IxR.or {r r' : R2} (h : IxR X r) (h' : IxR X r') : IxR X (fun x y H Q => r x y H Q ∨ r' x y H Q) := by
  intro value slice pins s σ H x y v u Q I rx ry q hs
  rcases q with q | q
  · exact h value slice pins s σ H x y v u Q I rx ry q hs
  · exact h' value slice pins s σ H x y v u Q I rx ry q hs
/-- a[b] -/
theorem pe_ix {r : R2} (hr : IxR X r) (ha : PE X a ta) (hb : PE X b tb) (hs : PlainIx b) : PE X (.Subscript a b pos) (tOp r ta tb) := by
  intro pins s σ H Q I h
  exact Subscript_ (binT ha hb I h fun v u s2 x y H2 I2 rx ry q => hr a b pins s2 σ H2 x y v u Q I2 rx ry q (hs _ _))

def rIxL (K : PySem.W.Frag) : R2 := fun x y H Q => ∃ p xs i v, x = .ref p ∧ y = .int i ∧ SqL K H p xs ∧ atI xs i = some v ∧ Q v H
def rIxT (K : PySem.W.Frag) : R2 := fun x y H Q => ∃ p xs i v, x = .ref p ∧ y = .int i ∧ SqT K H p xs ∧ atI xs i = some v ∧ Q v H
def rIxS : R2 := fun x y H Q => ∃ z i c, x = .str z ∧ y = .int i ∧ z.length ≤ sizeLine ∧ atI z.cps.toList i = some c ∧ Q (.str ⟨#[c]⟩) H
theorem ix_list : IxR X (rIxL X.K) := by
  intro value slice pins s σ H x y v u Q I rx ry h hs
  obtain ⟨p, xs, i, z, rfl, rfl, hq, he, q⟩ := h
  cases rx
  obtain ⟨t, rfl⟩ := ry
  obtain ⟨its, r, pl, hz⟩ := I.list hq
  obtain ⟨j, h1, h2, h3, h4, h5⟩ := atI_get he
  obtain ⟨w, ew, rw'⟩ := r.get h2
  have hl := r.length
  have hn := line63
  have fin : EP X pins σ Q w s := ⟨z, H, I, rw', q⟩
  by_cases h0 : 0 ≤ i
  · have hj : i.toNat = j := by
      rw [seqIndex_of h0 h5] at h1
      exact Option.some.inj h1
    exact item_listR pl.isList h0 (by omega) (by rw [hj]; simpa using ew) fin hs
  · have hj : (i + (its.toArray.size : Int)).toNat = j := by
      rw [seqIndex_neg (by omega) h4] at h1
      rw [List.size_toArray, ← hl]
      exact Option.some.inj h1
    exact subscriptTail_builtinR (x := w) pl.isList.typeIs slot_list_getitem.lookup
      (wpAny_getItem_list_neg (Q := fun r s' => r = w ∧ EP X pins σ Q r s') pl.isList (by omega) (by rw [List.size_toArray] <;> omega) (by omega) (by rw [hj]; simpa using ew) ⟨rfl, fin⟩) hs
theorem ix_tup : IxR X (rIxT X.K) := by
  intro value slice pins s σ H x y v u Q I rx ry h hs
  obtain ⟨p, xs, i, z, rfl, rfl, hq, he, q⟩ := h
  cases rx
  obtain ⟨t, rfl⟩ := ry
  obtain ⟨its, r, pl, hz⟩ := I.tuple hq
  obtain ⟨j, h1, h2, h3, h4, h5⟩ := atI_get he
  obtain ⟨w, ew, rw'⟩ := r.get h2
  have hl := r.length
  have hn := line63
  have fin : EP X pins σ Q w s := ⟨z, H, I, rw', q⟩
  exact subscriptTail_builtinR (x := w) pl.typeIs slot_tuple_getitem.lookup
    (getItem_tuple (j := j) (Q := fun r s' => r = w ∧ EP X pins σ Q r s') pl (by omega) (by omega) (by rw [List.size_toArray, ← hl]; exact h1) (by simpa using ew) ⟨rfl, fin⟩) hs
theorem ix_str : IxR X rIxS := by
  intro value slice pins s σ H x y v u Q I rx ry h hs
  obtain ⟨z, i, c, rfl, rfl, hz, he, q⟩ := h
  obtain ⟨t, rfl⟩ := rx
  obtain ⟨t', rfl⟩ := ry
  obtain ⟨j, h1, h2, h3, h4, h5⟩ := atI_get he
  have hl : z.cps.toList.length = z.length := by simp [Str.length]
  rw [hl] at h1 h4 h5
  have hn := line63
  exact tail_any (typeIs_str s z t) slot_str_getitem.lookup (getItem_str (c := c) (by
    have e1 : decide (i < -(2 ^ 63 : Int)) = false := decide_eq_false (by omega)
    have e2 : decide (i ≥ 2 ^ 63) = false := decide_eq_false (by omega)
    rw [e1, e2, Bool.or_false]) (by rw [h1]; simpa using h2) ⟨.str ⟨#[c]⟩, H, I.tok _, ⟨_, rfl⟩, q⟩) hs
/-- list, tuple or str -/
def rIx (K : PySem.W.Frag) : R2 := fun x y H Q => rIxL K x y H Q ∨ rIxT K x y H Q ∨ rIxS x y H Q
theorem ix_seq : IxR X (rIx X.K) := ix_list.or (ix_tup.or ix_str)

/-! ### xs[i] = v, any sign -/
/-- the list's object behind a store -/
theorem mapSeq_set (its : List Value) (n j : Nat) (u : Value) : Obj.mapSeq (·.setIfInBounds j u) { cls := .type "list", data := .seq its.toArray n } = { cls := .type "list", data := .seq (its.set j u).toArray n } := by
  simp [Obj.mapSeq]
theorem Inv.lst {pins : List (Addr × Obj)} {σ : St} {H : Hp} {s : Shared} {p : Addr} {xs : List V} (I : Inv X pins σ H s) (h : H p = some (.lst xs)) :
    ∃ (its : List Value) (n : Nat), Vals xs its ∧ s.heap.get? p = some { cls := .type "list", data := .seq its.toArray n } ∧ xs.length ≤ sizeLine := by
  obtain ⟨z, its, n, r, e⟩ := I.hok p _ h
  exact ⟨its, n, r, e, z⟩
/-- the list at p is written by an update of its object -/
theorem Inv.lstUpd {pins : List (Addr × Obj)} {σ : St} {H : Hp} {s : Shared} {p : Addr} {xs ys : List V} {its its' : List Value} {n n' : Nat} {f : Obj → Obj} (I : Inv X pins σ H s) (h : H p = some (.lst xs))
    (ho : s.heap.get? p = some { cls := .type "list", data := .seq its.toArray n }) (hf : f { cls := .type "list", data := .seq its.toArray n } = { cls := .type "list", data := .seq its'.toArray n' }) (r : Vals ys its') (hz : ys.length ≤ sizeLine) (t : Nat) :
    Inv X pins σ (upd H p (.lst ys)) { s with heap := s.heap.update p f, toks := t } := by
  have e : (s.heap.update p f).get? p = some { cls := .type "list", data := .seq its'.toArray n' } := by
    rw [Heap.get?_update_self f ho (by rw [hf] <;> rfl), hf]
  refine I.write (x := p) (e := p) (by rw [h]; trivial) (.inl rfl) (fun b u hb q => (Heap.get?_update_other _ _ (Ne.symm hb)).trans q) ⟨_, e⟩ ?_
  exact ⟨hz, its', n', r, e⟩
def rSetL : V → V → V → Hp → (Hp → Prop) → Prop := fun o i v H Q => ∃ p xs k j, o = .ref p ∧ i = .int k ∧ H p = some (.lst xs) ∧ ixN xs.length k = some j ∧ Q (upd H p (.lst (xs.set j v)))
theorem set_list : PSet X rSetL := by
  intro pins s σ H o i v ov iv u Q I ro ri rv h
  obtain ⟨p, xs, k, j, rfl, rfl, hp, hj, q⟩ := h
  cases ro
  obtain ⟨t, rfl⟩ := ri
  obtain ⟨its, n, r, ho, hz⟩ := I.lst hp
  obtain ⟨h1, h2, h3, h4⟩ := ixN_seq hj
  have hl := r.length
  have hn := line63
  have I' : Inv X pins σ (upd H p (.lst (xs.set j v))) { s with heap := s.heap.update p (Obj.mapSeq (·.setIfInBounds j u)) } :=
    I.lstUpd hp ho (mapSeq_set its n j u) (r.set rv j) (by rw [List.length_set]; exact hz) s.toks
  by_cases h0 : 0 ≤ k
  · have hk : k.toNat = j := by
      rw [seqIndex_of h0 h4] at h1
      exact Option.some.inj h1
    exact PySem.W.ki_setAt ho h0 (by omega) (by rw [List.size_toArray, ← hl]; exact h4) (by rw [hk]; exact ⟨_, I', q⟩)
  · have hk : (k + (its.toArray.size : Int)).toNat = j := by
      rw [seqIndex_neg (by omega) h3] at h1
      rw [List.size_toArray, ← hl]
      exact Option.some.inj h1
    exact PySem.W.ki_setBack ho (by omega) (by rw [List.size_toArray, ← hl]; exact h3) (by omega) (by rw [hk]; exact ⟨_, I', q⟩)

/-! ### slices -/
theorem slice_bounds (lo hi : Option Int) (n : Nat) : (sliceBounds lo hi none n).1 = ((HT.sIx n 0 lo : Nat) : Int) ∧ (sliceBounds lo hi none n).2.1 = ((HT.sIx n n hi : Nat) : Int) ∧ (sliceBounds lo hi none n).2.2 = 1 := by
  refine ⟨?_, ?_, rfl⟩
  · cases lo with
    | none => simp [sliceBounds, HT.sIx]
    | some i =>
      simp only [sliceBounds, HT.sIx, Option.getD_none, show (1 : Int) > 0 by decide, if_true]
      by_cases h : i < 0
      · simp only [h, if_true] <;> omega
      · simp only [h, if_false] <;> omega
  · cases hi with
    | none => simp [sliceBounds, HT.sIx]
    | some i =>
      simp only [sliceBounds, HT.sIx, Option.getD_none, show (1 : Int) > 0 by decide, if_true]
      by_cases h : i < 0
      · simp only [h, if_true] <;> omega
      · simp only [h, if_false] <;> omega
theorem slicePick_cut (its : List Value) (lo hi : Option Int) : slicePick its.toArray lo hi none = ((its.drop (HT.sIx its.length 0 lo)).take (HT.sIx its.length its.length hi - HT.sIx its.length 0 lo)).toArray := by
  obtain ⟨h1, h2, h3⟩ := slice_bounds lo hi its.toArray.size
  unfold slicePick
  rw [h1, h2, h3]
  simp only [sliceRange_one, pick_run, List.size_toArray] <;> rfl
/-- xs[lo:hi] of a list: a new list -/
def rSlL (K : PySem.W.Frag) : V → Option Int → Option Int → Hp → VK → Prop := fun x lo hi H Q => ∃ a xs, x = .ref a ∧ SqL K H a xs ∧ ∀ p, H p = none → Q (.ref p) (upd H p (.lst (cutV xs lo hi)))
theorem sl_list : SlR X (rSlL X.K) := by
  intro pins s σ H x v vl vu lo hi sl Q I rx hs pl pu h
  obtain ⟨a, xs, rfl, hx, q⟩ := h
  cases rx
  obtain ⟨its, r, ht, hz⟩ := I.list hx
  have hlen := r.length
  refine ⟨"list", _, slot_list_getitem.lookup, ht.isList.typeIs, ?_⟩
  refine wpAny_getItem_list_slice ht.isList hs pl pu .none (by simp) ?_ (by rw [List.size_toArray] <;> omega)
  rw [slicePick_cut, ← hlen]
  refine ⟨.ref s.heap.objs.size, _, I.laid (t' := s.toks) (o := .lst (cutV xs lo hi)) (fun b ob q => Heap.get?_push_of_some _ q) (Nat.le_refl _) ?_, rfl, q _ (I.hok.fresh (Nat.le_refl _))⟩
  exact ⟨Nat.le_trans (cutV_length xs lo hi) hz, _, 0, (r.drop (HT.sIx xs.length 0 lo)).take (HT.sIx xs.length xs.length hi - HT.sIx xs.length 0 lo), Heap.get?_push_size _ rfl⟩

/-! ### in, not in: flat items -/
/-! ### len, list(x), tuple(x) of any list or tuple that is read -/
theorem call_len_seq : CallR X (.builtin "len") (fun xs H Q => ∃ p ys, xs = [.ref p] ∧ (SqL X.K H p ys ∨ SqT X.K H p ys) ∧ Q (.int ys.length) H) := by
  intro pins s σ H xs us Q I r h
  obtain ⟨p, ys, rfl, hq, q⟩ := h
  obtain ⟨u, rfl, rx⟩ := vals1 r
  cases rx
  have hn := line63
  rcases hq with hq | hq
  · obtain ⟨its, r', pl, hz⟩ := I.list hq
    have hlen := r'.length
    exact Calls.call_len_list pl.isList (by simp only [List.size_toArray] <;> omega) ⟨.int ys.length, H, I.tok _, ⟨s.toks + 1, by rw [List.size_toArray, hlen]⟩, q⟩
  · obtain ⟨its, r', pl, hz⟩ := I.tuple hq
    have hlen := r'.length
    exact len_tuple pl (by simp only [List.size_toArray] <;> omega) ⟨.int ys.length, H, I.tok _, ⟨s.toks + 1, by rw [List.size_toArray, hlen]⟩, q⟩
theorem call_list_of : CallR X (.type "list") (fun xs H Q => ∃ p ys, xs = [.ref p] ∧ (SqL X.K H p ys ∨ SqT X.K H p ys) ∧ ∀ l, H l = none → Q (.ref l) (upd H l (.lst ys))) := by
  intro pins s σ H xs us Q I r h
  obtain ⟨p, ys, rfl, hq, q⟩ := h
  obtain ⟨u, rfl, rx⟩ := vals1 r
  cases rx
  have fin : ∀ (its : List Value), Vals ys its → ys.length ≤ sizeLine → ∀ (h' : Heap) (c' : Nat), (∀ b o', s.heap.get? b = some o' → h'.get? b = some o') →
      h'.get? s.heap.objs.size = some { cls := .type "list", dict := none, data := .seq its.toArray c', slots := #[] } → EP X pins σ Q (.ref s.heap.objs.size) { s with heap := h' } := fun its r' hz h' c' kp e =>
    ⟨.ref s.heap.objs.size, _, I.laid (t' := s.toks) kp (Nat.le_refl _) (show ObjOk X.prog X.w _ h' _ (.lst ys) from ⟨hz, its, c', r', e⟩), rfl, q _ (I.hok.fresh (Nat.le_refl _))⟩
  rcases hq with hq | hq
  · obtain ⟨its, r', pl, hz⟩ := I.list hq
    have hlen := r'.length
    obtain ⟨o, ho, hc, n, hd⟩ := pl.isList
    exact call_list_seq p (.inl rfl) ho hc hd (fun h' c' kp e => fin its r' hz h' c' kp e) (by simp only [List.size_toArray] <;> omega)
  · obtain ⟨its, r', pl, hz⟩ := I.tuple hq
    have hlen := r'.length
    obtain ⟨o, ho, hc, n, hd⟩ := pl
    exact call_list_seq p (.inr rfl) ho hc hd (fun h' c' kp e => fin its r' hz h' c' kp e) (by simp only [List.size_toArray] <;> omega)
theorem call_tuple_of : CallR X (.type "tuple") (fun xs H Q => ∃ p ys, xs = [.ref p] ∧ ((SqL X.K H p ys ∧ ∀ l, H l = none → Q (.ref l) (upd H l (.tup ys))) ∨ (SqT X.K H p ys ∧ Q (.ref p) H))) := by
  intro pins s σ H xs us Q I r h
  obtain ⟨p, ys, rfl, h⟩ := h
  obtain ⟨u, rfl, rx⟩ := vals1 r
  cases rx
  rcases h with ⟨hq, q⟩ | ⟨hq, q⟩
  · obtain ⟨its, r', pl, hz⟩ := I.list hq
    have hlen := r'.length
    refine call_tuple_list pl.isList (fun h' kp => ?_) (by simp only [List.size_toArray] <;> omega)
    have I1 : Inv X pins σ H { s with heap := h' } := I.kept (t' := s.toks) kp
    have I2 : Inv X pins σ (upd H h'.objs.size (.tup ys)) { s with heap := h'.push { cls := .type "tuple", data := .seq its.toArray } } :=
      I1.laid (t' := s.toks) (fun b o e => Heap.get?_push_of_some _ e) (Nat.le_refl _) (show ObjOk X.prog X.w _ _ _ (.tup ys) from ⟨hz, its, r', IsTup.new _ _⟩)
    exact ⟨.ref h'.objs.size, _, I2, rfl, q _ (I1.hok.fresh (Nat.le_refl _))⟩
  · obtain ⟨its, r', pl, hz⟩ := I.tuple hq
    exact call_tuple_same pl ⟨.ref p, H, I, rfl, q⟩

/-! ### the call of a builtin's method: o.m(..) -/
/-- the value is of that builtin type -/
def tyV (K : PySem.W.Frag) (T : String) (x : V) (H : Hp) : Prop := match x with
  | .str _ => T = "str"
  | .int _ => T = "int"
  | .ref p => (T = "list" ∧ ∃ xs, SqL K H p xs) ∨ (T = "tuple" ∧ ∃ o, K.lookup p = some o ∧ o.cls = .type "tuple" ∧ o.dict = none) ∨
      (T = "dict" ∧ ((∃ kvs, H p = some (.dK kvs)) ∨ ∃ kvs, H p = some (.dT kvs))) ∨ (T = "set" ∧ ∃ S n, H p = some (.set S n))
  | _ => False
theorem tyV_is {pins : List (Addr × Obj)} {σ : St} {H : Hp} {s : Shared} {T : String} {x : V} {v : Value} (I : Inv X pins σ H s) (r : RelV x v) (ty : tyV X.K T x H) :
    s.TypeIs v T ∧ ∀ a, v = .ref a → ∃ ob, s.heap.get? a = some ob ∧ ob.dict = none := by
  cases x with
  | str z =>
    obtain ⟨t, rfl⟩ := r
    cases (show T = "str" from ty)
    exact ⟨typeIs_str s z t, fun _ e => nomatch e⟩
  | int i =>
    obtain ⟨t, rfl⟩ := r
    cases (show T = "int" from ty)
    exact ⟨typeIs_int s i t, fun _ e => nomatch e⟩
  | ref p =>
    cases r
    rcases ty with ⟨rfl, xs, hq⟩ | ⟨rfl, o, hk, hc, hd⟩ | ⟨rfl, hk⟩ | ⟨rfl, S, n, hk⟩
    · obtain ⟨its, _, pl, _⟩ := I.list hq
      refine ⟨pl.isList.typeIs, fun a e => ?_⟩
      cases e
      obtain ⟨o, n, e, c, hd, _⟩ := pl
      exact ⟨o, e, hd⟩
    · refine ⟨⟨o, I.kIn p o hk, hc⟩, fun a e => ?_⟩
      cases e
      exact ⟨o, I.kIn _ o hk, hd⟩
    · have z : ∃ o, s.heap.get? p = some o ∧ o.ExactDict := by
        rcases hk with ⟨kvs, hk⟩ | ⟨kvs, hk⟩
        · obtain ⟨_, _, _, _, o, _, _, e, ex, _⟩ := I.hok p _ hk
          exact ⟨o, e, ex⟩
        · obtain ⟨_, _, _, _, o, _, _, e, ex, _⟩ := I.hok p _ hk
          exact ⟨o, e, ex⟩
      obtain ⟨o, e, ex⟩ := z
      refine ⟨⟨o, e, ex.1⟩, fun a e2 => ?_⟩
      cases e2
      exact ⟨o, e, ex.2.1⟩
    · obtain ⟨o, _, _, _, e, ex, _⟩ := I.hok p _ hk
      refine ⟨⟨o, e, ex.1⟩, fun a e2 => ?_⟩
      cases e2
      exact ⟨o, e, ex.2.1⟩
  | _ => exact False.elim ty
def tBM0 (K : PySem.W.Frag) (T : String) (r : V → List V → Hp → VK → Prop) (to : TE) : TE := fun σ H Q => to σ H fun x H1 => tyV K T x H1 ∧ r x [] H1 Q
def tBM (K : PySem.W.Frag) (T : String) (r : V → List V → Hp → VK → Prop) (to : TE) (t : TA) : TE := fun σ H Q => to σ H fun x H1 => tyV K T x H1 ∧ t σ H1 fun xs H2 => r x xs H2 Q
variable {o e : Expr} {es : List Expr} {to : TE} {t : TA} {name : Str} {apos cpos : Pos} {T id : String} {r : V → List V → Hp → VK → Prop}
theorem pe_bm0 (pa : PlainAttrs T) (slot : Slot T name id) (hty : typeOf (.builtin id) = pure (.type "method_descriptor")) (hm : MtR X id r) (ho : PE X o to)
    (hbase : attributeBase o name X.env (eval o X.env) = eval o X.env := by rfl) (hline : (apos.endLine == cpos.line) = true := by rfl) : PE X (.Call (.Attribute o name apos) [] [] cpos) (tBM0 X.K T r to) := by
  intro pins s σ H Q I h
  refine wpAny_Call_method0_late hbase hline (thn (ho pins s σ H _ I h) fun v s1 ⟨x, H1, I1, r1, ty, q1⟩ => ?_)
  obtain ⟨h1, h2⟩ := tyV_is I1 r1 ty
  exact ⟨T, id, pa, slot, hty, h1, h2, Calls.callWith_builtin rfl (PySem.evalArgs_none (hm pins s1 σ H1 x [] v [] Q I1 r1 .nil q1))⟩
theorem pe_bm (pa : PlainAttrs T) (slot : Slot T name id) (hty : typeOf (.builtin id) = pure (.type "method_descriptor")) (hm : MtR X id r) (ho : PE X o to) (ha : PA X (e :: es) t)
    (hbase : attributeBase o name X.env (eval o X.env) = eval o X.env := by rfl)
    (hfew : ((backTo cpos (starEach (e :: es) X.env)).all (fun x => !x.1) && (backToKw cpos (keywordEach [] X.env)).all (fun x => x.1.isSome)
      && decide ((e :: es).length + ([] : List Keyword).length + (if ([] : List Keyword).isEmpty then 0 else 1) < 30)) = true := by rfl)
    (hline : (apos.endLine == cpos.line) = true := by rfl) (hs : starEach (e :: es) X.env = (false, eval e X.env) :: starEach es X.env := by rfl) (hplain : (backTo cpos (starEach es X.env)).any (·.1) = false := by rfl) :
    PE X (.Call (.Attribute o name apos) (e :: es) [] cpos) (tBM X.K T r to t) := by
  intro pins s σ H Q I h
  refine wpAny_Call_method_late hbase hfew hline rfl (thn (ho pins s σ H _ I h) fun v s1 ⟨x, H1, I1, r1, ty, q1⟩ => ?_)
  obtain ⟨h1, h2⟩ := tyV_is I1 r1 ty
  refine ⟨T, id, pa, slot, hty, h1, h2, ?_⟩
  have hA := ha cpos pins s1 σ H1 _ I1 q1
  rw [hs] at hA ⊢
  refine Calls.callWith_builtin (by show (false || (backTo cpos (starEach es X.env)).any (·.1)) = false; rw [hplain] <;> rfl) (Calls.evalArgs_plain ?_)
  exact thn hA fun us s2 ⟨vs, H2, I2, r2, q2⟩ => hm pins s2 σ H2 x vs v us Q I2 r1 r2 q2
/- xs.append(e), list.index on a module's tuple .. are MtR facts of 06m -/
end
end L2

namespace L2
open PySem PySem.Spec PyProof.Rows

def MtM (X : Cx) (id : String) (r : V → List V → Hp → VK → Prop) : Prop :=
  ∀ (pins : List (Addr × Obj)) (s : Shared) (σ : St) (H : Hp) (x : V) (xs : List V) (v : Value) (us : List Value) (Q : VK), Inv X pins σ H s → RelV x v → Vals xs us → r x xs H Q →
    wpAny (model X.prog X.w) X.A (call (.builtin id) (v :: us)) (EP X pins σ Q) X.xe s

/-! ### lists of values -/
theorem Vals.one : ∀ {x : V} {us : List Value}, Vals [x] us → ∃ u, us = [u] ∧ RelV x u
  | _, _, .cons r .nil => ⟨_, rfl, r⟩
theorem Vals.zero : ∀ {us : List Value}, Vals [] us → us = []
  | _, .nil => rfl
section
variable {X : Cx} {pins : List (Addr × Obj)} {σ : St} {H : Hp} {s : Shared} {l b : Addr} {xs ys zs : List V}

/-! ### the two steps: a tracked list is rewritten, a new list is laid -/
theorem Inv.lset {its its' : List Value} {n : Nat} {f : Array Value → Array Value} {t' : Nat} (I : Inv X pins σ H s) (hH : H l = some (.lst xs))
    (e : s.heap.get? l = some { cls := .type "list", data := .seq its.toArray n }) (hf : f its.toArray = its'.toArray) (hv : Vals ys its') (hz : ys.length ≤ sizeLine) :
    Inv X pins σ (upd H l (.lst ys)) { s with heap := s.heap.update l (Obj.mapSeq f), toks := t' } := by
  have q := PySem.IsL.update e f
  rw [hf] at q
  refine I.write (x := l) (e := l) (by rw [hH]; exact trivial) (.inl rfl) (fun b' u hb hu => (Heap.get?_update_other s.heap (Obj.mapSeq f) (Ne.symm hb)).trans hu) ⟨_, q⟩ ?_
  exact ⟨hz, its', _, hv, q⟩
theorem Inv.lnew {its : List Value} {t' : Nat} (I : Inv X pins σ H s) (hv : Vals ys its) (hz : ys.length ≤ sizeLine) :
    Inv X pins σ (upd H s.heap.objs.size (.lst ys)) { s with heap := s.heap.push { cls := .type "list", data := .seq its.toArray }, toks := t' } :=
  I.laid (fun _ _ q => Heap.get?_push_of_some _ q) (Nat.le_refl _) ⟨hz, its, 0, hv, Heap.get?_push_size _ rfl⟩
theorem Inv.fresh (I : Inv X pins σ H s) : H s.heap.objs.size = none := I.hok.fresh (Nat.le_refl _)
theorem Inv.lstM (I : Inv X pins σ H s) (hH : H l = some (.lst xs)) : xs.length ≤ sizeLine ∧ ∃ (its : List Value) (n : Nat), Vals xs its ∧ xs.length = its.length ∧ s.heap.get? l = some { cls := .type "list", data := .seq its.toArray n } := by
  obtain ⟨z, its, n, r, e⟩ := I.hok l _ hH
  exact ⟨z, its, n, r, r.length, e⟩

end

section
variable {X : Cx}

/-! ### methods -/
def rAppend : V → List V → Hp → VK → Prop := fun x vs H Q => ∃ l xs y, x = .ref l ∧ vs = [y] ∧ H l = some (.lst xs) ∧ xs.length < sizeLine ∧ Q .non (upd H l (.lst (xs ++ [y])))
theorem mt_append : MtM X "list.append" rAppend := by
  intro pins s σ H x vs v us Q I rx rv h
  obtain ⟨l, xs, y, rfl, rfl, hH, hz, q⟩ := h
  cases rx
  obtain ⟨u, rfl, ru⟩ := rv.one
  obtain ⟨z, its, n, r, hl, e⟩ := I.lstM hH
  refine call_meets F.slot_list_append ⟨_, e, rfl⟩ F.entry_list_append (F.args_list_append_2 _ _) (PySem.list_append l its.toArray n u (by rw [List.size_toArray]; omega)) ⟨e, ?_⟩
  refine ⟨.non, _, I.lset (its' := its ++ [u]) hH e (by simp) (r.append (.cons ru .nil)) ?_, rfl, q⟩
  rw [List.length_append, List.length_singleton]
  omega

def rClear : V → List V → Hp → VK → Prop := fun x vs H Q => ∃ l xs, x = .ref l ∧ vs = [] ∧ H l = some (.lst xs) ∧ Q .non (upd H l (.lst []))
theorem mt_clear : MtM X "list.clear" rClear := by
  intro pins s σ H x vs v us Q I rx rv h
  obtain ⟨l, xs, rfl, rfl, hH, q⟩ := h
  cases rx
  have hus := rv.zero
  subst hus
  obtain ⟨z, its, n, r, hl, e⟩ := I.lstM hH
  refine call_meets F.slot_list_clear ⟨_, e, rfl⟩ F.entry_list_clear (F.args_list_clear_1 _) (AutoSeq1.list_clear_list_0 l its.toArray n (by rw [List.size_toArray]; omega)) ⟨e, ?_⟩
  exact ⟨.non, _, I.lset (its' := []) (ys := []) hH e rfl .nil (Nat.zero_le _), rfl, q⟩

/-! ### list + list, list += list, list * int -/
def rCat : R2 := fun x y H Q => ∃ l b xs zs, x = .ref l ∧ y = .ref b ∧ H l = some (.lst xs) ∧ H b = some (.lst zs) ∧ xs.length + zs.length ≤ sizeLine ∧ ∀ p, H p = none → Q (.ref p) (upd H p (.lst (xs ++ zs)))
theorem op_cat : OpR X (binaryOp .Add) rCat := by
  intro pins s σ H x y v u Q I rx ry h
  obtain ⟨l, b, xs, zs, rfl, rfl, hH, hB, hz, q⟩ := h
  cases rx
  cases ry
  obtain ⟨z, its, n, r, hl, e⟩ := I.lstM hH
  obtain ⟨z2, its2, n2, r2, hl2, e2⟩ := I.lstM hB
  refine PySem.P.add_list e e2 ?_ (by rw [List.size_toArray, List.size_toArray]; omega)
  have ea : its.toArray ++ its2.toArray = (its ++ its2).toArray := by simp
  rw [ea]
  exact ⟨.ref _, _, I.lnew (t' := s.toks) (r.append r2) (by rw [List.length_append]; omega), rfl, q _ I.fresh⟩
/-! ### del xs[i] -/
end

/-! ### xs[a:b] = ys -/
section
variable {prog : Program} {w : World} {A : Around} {E : Value → Shared → Prop} {s : Shared}
set_option maxRecDepth 100000 in
end

section
variable {X : Cx}
end
end L2

namespace Att
open PySem PySem.W PySem.Calls PyProof.Rows

/-! ### the script -/
theorem ints_of_wellAll {P : Params} {h : Heap} : ∀ (ns : List Int) (vs : List Value), WellAll P h vs (ns.map WData.int) → IntsAre vs ns := by
  intro ns
  induction ns with
  | nil =>
    intro vs w
    rw [List.map_nil] at w
    cases w
    exact .nil
  | cons n ns ih =>
    intro vs w
    rw [List.map_cons] at w
    cases w with
    | cons a b =>
      cases a
      exact .cons _ _ (ih _ b)

theorem script_of {l : OpenLaw} {n : Nat} (hn : l.most = some n) {P : Params} {h : Heap} {args : List WData} {vals : List Value}
    (hpre : l.row.toRowW.claim.pre args = true) (hwl : WellAll P h vals args) :
    ∃ a vs ns, vals = [Value.ref a] ∧ args = [WData.list (ns.map WData.int)] ∧ h.get? a = some { cls := .type "list", data := .seq vs.toArray } ∧ IntsAre vs ns ∧ ns.length ≤ n := by
  have hsh : WShape.hasAll [] args [.list .int] = true := (pre_splitW hpre).1
  have hc : l.pre.holds [] { args := args } = true := (pre_splitW hpre).2
  obtain ⟨d, r, rfl, h1, h2⟩ := hasAllW_cons hsh
  obtain rfl := hasAllW_nil h2
  obtain ⟨xs, rfl, h3⟩ := hasW_list h1
  obtain ⟨ns, rfl⟩ := items_int h3
  have hlen : ns.length ≤ n := by
    unfold OpenLaw.pre at hc
    have h4 : (WTm.not (.lt (.lit (.int (n : Int))) (.len (.arg 0)))).holds [] { args := [.list (ns.map .int)] } = true := by
      have h4 := (holds_andW hc).1
      rw [hn] at h4
      exact h4
    have h5 := condW_of h4 (w_not (w_lt w_lit (w_len_list (w_arg rfl))))
    rw [List.length_map] at h5
    refine Nat.le_of_not_lt fun q => ?_
    have q' : (n : Int) < ((ns.length : Nat) : Int) := by omega
    first
      | (rw [decide_eq_true q'] at h5; exact absurd h5 (by decide))
      | (simp at h5; omega)
  cases hwl with
  | cons w1 w2 =>
    cases w2
    cases w1 with
    | list ho hall => exact ⟨_, _, ns, rfl, rfl, ho, ints_of_wellAll ns _ hall, hlen⟩

theorem post_true (l : OpenLaw) (args : List WData) : l.row.toRowW.claim.post args (.bool true) args = true :=
  postW_of (r := l.row.toRowW) (X := (true == true))
    (show WShape.has [] (.bool true) .bool = true by first | rfl | decide | simp [WShape.has, WShape.arms, WShape.armsAll])
    (show (WTm.eq .res (.lit (.bool true))).value [] { args := args, res := some (.bool true), after := args } = some (.bool (true == true)) from w_eq_bool (w_res rfl) w_lit) rfl

/-! ### the attachment: holds_open's last premise (the goal 'hc' behind k_head) from a wpAny of the law's body -/
/-- the same from a codeAny of the CALL (for a layer whose function contracts speak of calls) -/
theorem attach_call {l : OpenLaw} {n : Nat} {q : Program} {loose : List Str} {XP : (Str → Option Value) → Heap → Prop} {YP : World → Heap → Prop} {d : DefRec}
    (hn : l.most = some n) (hdf : d.params.defaults = [])
    (call : ∀ (w : World) (s₀ s₁ : Shared) (mg mb : Str → Option Value) (fa : Addr) (o : Obj) (pm cd doc : Value) (a : Addr) (vs : List Value) (ns : List Int),
      Ground q loose [] XP w s₀ mg mb s₁.heap → YP w s₁.heap →
      s₁.heap.get? fa = some o → o.data = .func (docDef d.name d.params d.body d.scope pm cd doc) → s₁.heap.CodeRec cd d.name → mg d.name = some (.ref fa) →
      s₁.heap.get? a = some { cls := .type "list", data := .seq vs.toArray } → IntsAre vs ns → ns.length ≤ n → s₁.gens = #[] →
      codeAny (model l.prog w) callerA (.call (.ref fa) ⟨[.ref a], []⟩) (fun r s' => r = .ok (.ret (.bool true)) ∧ OldK s₁.heap s'.heap ∧ s'.os = s₁.os ∧ AllBare s'.gens) s₁) :
    WalkO q loose XP YP l.row.toRowW d [] (fun f vs => PySem.call f vs) := by
  intro w s₀ s₁ mg mb G Y fa o pm cd doc dV kV ho hd hcd hD hmg hg args vals as hpre hlay hrd hwl hlo
  obtain rfl : dV = .none := Dflts.none hD hdf
  obtain rfl : kV = .none := Dflts.noKw hD
  obtain ⟨a, vs, ns, rfl, rfl, hobj, hints, hlen⟩ := script_of hn hpre hwl
  refine enter_call (codeAny_mono (call w s₀ s₁ mg mb fa o pm cd doc a vs ns G Y ho (fd_plain hd) hcd hmg hobj hints hlen hg) fun r s' hq => ?_)
  obtain ⟨rfl, h2, h3, h4⟩ := hq
  exact ⟨.inl ⟨.bool true, .bool true, [], rfl, fun _ => rfl, .bool true, post_true l _, fun _ => ⟨List.Pairwise.nil, fun _ hm => (nomatch hm)⟩⟩, h2, h3, h4⟩

/-! ### rules over ANY heap (no ledger) from facts about the written part K: the library's own take a ledger (News) for what they write -/
section
variable {prog : Program} {w : World} {A : Around} {E : Value → Shared → Prop} {s : Shared} {K : Frag}

/-! the whole heap as the ledger: makes every rule that writes through a ledger a rule over any heap -/
def ledger (h : Heap) (L d : Addr) : List (Addr × Obj) := (List.range h.objs.size).filterMap fun a => if a = L ∨ a = d then none else (h.get? a).map fun o => (a, o)
end
end Att

namespace L2
open PySem PySem.Spec PyProof.Rows

theorem vals_ints : ∀ {vs : List Value} {ns : List Int}, IntsAre vs ns → Vals (ns.map V.int) vs
  | _, _, .nil => .nil
  | _, _, .cons n t h => .cons ⟨t, rfl⟩ (vals_ints h)

/-- nothing is tracked but the script, known to the object (or it is an object of the module) -/
def Only (H : Hp) : Prop := ∀ b, H b = none ∨ ∃ o xs, H b = some (.frz o (.lst xs))

/-- THE HEAD: the law's promise, at the heap behind the top. F, the promise of the law's def, may use that base is part of the heap (so K.In base, base.Ns mainGlobals mg stand in Mod) -/
theorem law_call {P : Program} {w : World} {K : PySem.W.Frag} {mg mb : Str → Option Value} {CX : CXT} {k : Nat} {fa a : Addr} {fd : FuncData} {x : Str} {sp : Sp} {s₁ : Shared} {vs : List Value} {ns : List Int}
    (KX : K.In s₁.heap) (hns : s₁.heap.Ns mainGlobals mg) (hb : s₁.heap.Ns builtinsNs mb) (hbb : ∀ x : Str, x ≠ "__name__" → mb x = bootBuiltins x) (hlim : s₁.heap.NoLimit) (hg : s₁.gens = #[])
    (ha : s₁.heap.get? a = some { cls := .type "list", data := .seq vs.toArray }) (hi : IntsAre vs ns) (hl : ns.length ≤ sizeLine) (hr : Room k callerA)
    (F : ∀ base : Heap, K.In base → base.Ns mainGlobals mg → FnOk P w K mg base CX k fa fd [x] sp) (hbind : ∀ (s : Shared) (u : Value), BindsTo s fd ⟨[u], []⟩ [(x, u)])
    (hsp : ∀ H : Hp, Only H → SqL K H a (ns.map V.int) → sp [.ref a] H (fun v _ => v = .bl true) fun _ _ _ => False)
    (hCX : ∀ H e s', CX [] H s₁ (fun _ _ _ => False) e s' → False) :
    codeAny (model P w) callerA (.call (.ref fa) ⟨[.ref a], []⟩) (fun r s' => r = .ok (.ret (.bool true)) ∧ OldK s₁.heap s'.heap ∧ s'.os = s₁.os ∧ AllBare s'.gens) s₁ := by
  have rv := vals_ints hi
  have lenV := hi.length
  -- from an abstract heap in which nothing but the script may be tracked
  have core : ∀ H : Hp, Only H → SqL K H a (ns.map V.int) → HOk P w H s₁.heap → (∀ b, H b ≠ none → b = a) → (H a ≠ none → K.lookup a = none) →
      codeAny (model P w) callerA (.call (.ref fa) ⟨[.ref a], []⟩) (fun r s' => r = .ok (.ret (.bool true)) ∧ OldK s₁.heap s'.heap ∧ s'.os = s₁.os ∧ AllBare s'.gens) s₁ := by
    intro H hO hS hok hA hK
    have base_of : ∀ {b : Addr} {o : Obj}, s₁.heap.get? b = some o → H b = none → (hidT s₁.heap H).get? b = some o := fun e n => hidT_get e n
    have noA : ∀ {b : Addr} {o : Obj} {es : Array DictEntry} {ep : Nat}, s₁.heap.get? b = some o → o.data = .dict es ep → H b = none := fun {b o es ep} e d => by
      cases q : H b with
      | none => rfl
      | some u =>
        have e' : b = a := hA b (by rw [q]; simp)
        subst e'
        rw [ha] at e; cases e
        have d' : Data.seq vs.toArray _ = Data.dict es ep := d
        cases d'
    have nsK : ∀ {b : Addr} {m : Str → Option Value}, s₁.heap.Ns b m → (hidT s₁.heap H).Ns b m := fun {b m} ⟨o, es, ep, e, d, r⟩ => ⟨o, es, ep, base_of e (noA e d), d, r⟩
    have hKb : K.In (hidT s₁.heap H) := fun b o e => base_of (KX b o e) (by
      cases q : H b with
      | none => rfl
      | some u =>
        have e' : b = a := hA b (by rw [q]; simp)
        subst e'
        rw [hK (by rw [q]; simp)] at e; cases e)
    have hM : Mod K mg (hidT s₁.heap H) := ⟨hKb, nsK hns, ⟨mb, nsK hb, hbb⟩, let ⟨mc, h1, h2⟩ := hlim; ⟨mc, nsK h1, h2⟩⟩
    have e0 : Env0 P w K mg (hidT s₁.heap H) callerA [] s₁ H := ⟨rfl, hM, fun b o e => of_hidT e, Nat.le_of_eq (hidT_size _ _), trivial, fun b hb => absurd (show b ∈ ([] : List Addr) from hb) (by simp), hok, .of_eq hg⟩
    refine codeAny_mono ((F _ hKb (nsK hns)).run callerA [] s₁ H ⟨[.ref a], []⟩ [.ref a] [.ref a] _ _ hr e0 (hbind s₁ (.ref a)) (.cons rfl .nil) (hsp H hO hS)) fun r s' h => ?_
    cases r with
    | error e => exact (hCX H e s' h).elim
    | ok fl =>
      cases fl with
      | next => exact False.elim h
      | brk => exact False.elim h
      | cont => exact False.elim h
      | ret u =>
        obtain ⟨v, H', os, bare, un, hok', r', q⟩ := h
        have q' : v = .bl true := q
        subst q'
        obtain rfl : u = Value.bool true := r'
        refine ⟨rfl, OldK.of_keep fun b o e => ?_, os, bare⟩
        cases q : H b with
        | none => exact un.keep b o e q (by intro z; exact absurd (show b ∈ ([] : List Addr) from z) (by simp)) (by simp)
        | some u =>
          rcases hO b with z | ⟨ob, xs, z⟩
          · rw [q] at z; cases z
          · have z2 := un.frzs b ob _ z
            obtain ⟨e1, _⟩ := hok b _ z
            obtain ⟨e2, _⟩ := hok' b _ z2
            rw [e] at e1; cases e1
            exact e2
  cases hk : K.lookup a with
  | some o =>
    -- the script is one of the module's own objects
    have e := KX a o hk
    rw [ha] at e
    cases e
    refine core (fun _ => none) (fun _ => .inl rfl) (.inr ⟨_, vs.toArray, _, hk, rfl, rfl, rfl, by rw [List.size_toArray, lenV]; exact hl, by simpa using rv⟩) (fun b u z => by have z' : (none : Option HO) = some u := z; cases z') (fun b z => absurd rfl z) fun z => absurd rfl z
  | none =>
    refine core (fun b => if b = a then some (.frz { cls := .type "list", data := .seq vs.toArray } (.lst (ns.map V.int))) else none) (fun b => ?_) (.inl (.inr ⟨{ cls := .type "list", data := .seq vs.toArray }, if_pos rfl⟩)) (fun b u z => ?_) (fun b z => ?_) fun _ => hk
    · by_cases hb : b = a
      · exact .inr ⟨_, _, if_pos hb⟩
      · exact .inl (if_neg hb)
    · by_cases hb : b = a
      · have z' := (if_pos hb).symm.trans z
        cases z'
        subst hb
        exact ⟨ha, by rw [List.length_map]; exact hl, vs, _, rv, ha⟩
      · have z' := (if_neg hb).symm.trans z
        cases z'
    · by_cases hb : b = a
      · exact hb
      · exact absurd (if_neg hb) z
end L2

namespace L2
open PySem PySem.Spec PyProof.Rows

abbrev KOf {K : PySem.W.Frag} {h : Heap} (_ : K.In h) : PySem.W.Frag := K

/-- the goal that k_head leaves (case hc), from the law's promise. F gives the function object fd (K's own) once, then the promise over every base -/
theorem walk_of {l : PySem.W.OpenLaw} {n k : Nat} {q : Program} {loose : List Str} {XP : (Str → Option Value) → Heap → Prop} {YP : World → Heap → Prop} {d : DefRec} {K : Params → PySem.W.Frag} {CX : World → CXT} {sp : World → Sp} {x : Str}
    (hn : l.most = some n) (hn2 : n ≤ sizeLine) (hdf : d.params.defaults = []) (hr : Room k callerA)
    (hY : ∀ (w : World) (h : Heap), YP w h → (K w.params).In h)
    (F : ∀ (w : World) (mg : Str → Option Value) (fa : Addr) (h : Heap), (K w.params).In h → h.Ns mainGlobals mg → mg d.name = some (.ref fa) →
      ∃ fd : FuncData, (∀ (s : Shared) (u : Value), BindsTo s fd ⟨[u], []⟩ [(x, u)]) ∧
        ∀ base : Heap, (K w.params).In base → base.Ns mainGlobals mg → FnOk l.prog w (K w.params) mg base (CX w) k fa fd [x] (sp w))
    (hsp : ∀ (w : World) (H : Hp) (a : Addr) (ns : List Int), ns.length ≤ n → Only H → SqL (K w.params) H a (ns.map V.int) → sp w [.ref a] H (fun v _ => v = .bl true) fun _ _ _ => False)
    (hCX : ∀ (w : World) (H : Hp) (s : Shared) (e : Value) (s' : Shared), CX w [] H s (fun _ _ _ => False) e s' → False) :
    PySem.W.WalkO q loose XP YP l.row.toRowW d [] (fun f vs => PySem.call f vs) := by
  refine Att.attach_call hn hdf fun w s₀ s₁ mg mb fa o pm cd doc a vs ns G Y ho hd hcd hmg hobj hints hlen hg => ?_
  have KX := hY w _ Y
  obtain ⟨fd, hb, hF⟩ := F w mg fa _ KX G.T.g hmg
  exact law_call KX G.T.g G.T.b G.T.builtins G.T.nolimit hg hobj hints (Nat.le_trans hlen hn2) hr hF hb (fun H hO hS => hsp w H a ns hlen hO hS) fun H e s' => hCX w H s₁ e s'
end L2

/- THE LAST THEOREM (shape; LID, My.* are yours):
   My.Adr: a structure of the addresses that your layer names (classes, functions); My.Txt K t: a structure (Prop) of the equations over K;
   My.txt_mk : {K} {implicit addresses ..} (e1 : nsIn K mainGlobals "law" = some (some (.ref f))) (e2 : K.lookup f = some ⟨oc, od, .func (fnOf "law" "law" params body scope dV kV doc pm an cdv ct), sl⟩) (e3 : codeIn K cdv "law" = true) .. : ∃ t, My.Txt K t

set_option maxRecDepth 100000 in
set_option maxHeartbeats 0 in
theorem PySem.Challenge.cw_LID_holds : PySem.Challenge.rw_LID.Holds := by
  w_on; o_law; k_head; (case hw => w_witness2)
  k_fill
  refine L2.walk_of (l := PySem.Challenge.rw_LID) (n := 63) (k := 40) (x := "script") (CX := fun w => ..) (sp := fun _ => My.sp_law) rfl (by decide) rfl ⟨rfl, by decide, by decide⟩ (fun w h Y => PySem.W.kIn_of Y) ?F ?S ?C
  case F =>
    intro w mg fa h KX G hmg
    have T : ∃ t, My.Txt (L2.KOf KX) t := by
      dsimp only [L2.KOf]                          -- K must stand as «<heap const> w.params» for k_is
      refine' My.txt_mk ?e1 ?e2 ?e3 ..
      (case e1 => PySem.W.k_is)                    -- in the order: a name -> its address -> its object -> its parts
      (case e2 => PySem.W.k_is)
      ..
    obtain ⟨t, T⟩ := T
    have e0 := hmg.symm.trans (PySem.W.mg_of KX G T.law)
    cases e0                                       -- fa is the law's own address
    exact ⟨_, fun s u => .of_eq rfl, fun base kb nb => My.law_fn T kb nb⟩     -- if «.of_eq rfl» comes too early: refine' ⟨_, ?b, fun base kb nb => My.law_fn T kb nb⟩; exact fun s u => .of_eq rfl
  case S => exact fun w H a ns hl hO hS => ..
  case C => exact ..
(the tactic k_is has no namespace: write k_is) -/

/-! SHORT WORDS over the layer: a def of the text, its body, what a loop and a test want. -/
namespace L2
open PySem PySem.Spec PyProof.Rows

/-! ### the text by places -/
def defArgs (s : Stmt) : Arguments := match s with
  | .FunctionDef _ a _ _ _ _ _ _ _ _ => a
  | _ => { posonlyargs := [], args := [], vararg := none, kwonlyargs := [], kw_defaults := [], kwarg := none, defaults := [] }
def defBody (s : Stmt) : List Stmt := match s with
  | .FunctionDef _ _ b _ _ _ _ _ _ _ => b
  | _ => []
def defScope (s : Stmt) : Scope := match s with
  | .FunctionDef _ _ _ _ _ _ sc _ _ _ => sc
  | _ => { kind := .function, names := [], isGenerator := false, isCoroutine := false }

/-! ### no exception leaves a def -/
abbrev CX0 : CXT := fun _ _ _ _ _ _ => False
abbrev E0 : XK := fun _ _ _ => False
theorem pass0 {X : Cx} : Passes CX0 X E0 := fun _ _ _ _ _ _ _ h => h.elim

/-! ### a def (or method) of the text as it stands behind the top -/
structure Fun (K : PySem.W.Frag) (x qual : Str) (st : Stmt) (f : Addr) (fd : FuncData) : Prop where
  ex : ∃ (oc : Value) (od : Option Addr) (kV doc pm : Value) (an : Option Addr) (cdv ct : Value) (osl : Array (Option Value)),
    fd = PySem.W.fnOf x qual (defArgs st) (defBody st) (defScope st) .none kV doc pm an cdv ct ∧ K.lookup f = some ⟨oc, od, .func fd, osl⟩ ∧ PySem.W.codeIn K cdv qual = true
  kp : PySem.W.keepIn K (.ref f) = true
section
variable {P : Program} {w : World} {K : PySem.W.Frag} {mg : Str → Option Value} {base : Heap}
/-- THE RULE for a def: its body as a term of rules, and the reading of that term -/
theorem Fun.ok {x qual : Str} {st : Stmt} {f : Addr} {fd : FuncData} {N ps : List Str} {k : Nat} {sp : Sp} (F : Fun K x qual st f fd) (S : FnScope N ps (defScope st)) (len : ∀ vs H Q E, sp vs H Q E → vs.length = ps.length)
    (hbody : ∀ (cdv : Value) (A : Around) (outer : List Env) (s : Shared) (H : Hp) (vs : List V) (Q : VK) (E : XK), Room k (A.deeper (envOfC qual (defScope st) s.heap.objs.size f cdv)) → sp vs H Q E →
      ∃ t, PSs (cxOf CX0 P w K mg base N qual (defScope st) f cdv A outer s H E).nox (defBody st) t ∧ t { nx := fun _ H' => Q .non H', rt := Q } (start N vs) H) : FnOk P w K mg base CX0 (k + 1) f fd ps sp := by
  obtain ⟨oc, od, kV, doc, pm, an, cdv, ct, osl, rfl, lk, hcd⟩ := F.ex
  refine fn_of lk hcd S len fun A outer s H vs Q E hr hsp => ?_
  obtain ⟨t, h, q⟩ := hbody cdv A outer s H vs Q E hr hsp
  exact ⟨t, h.nox, q⟩
/-- how its arguments bind (no defaults): h is «fun _ _ _ _ _ _ us hl => match us, hl with | [_, _], _ => rfl», one _ a parameter -/
theorem Fun.binds {x qual : Str} {st : Stmt} {f : Addr} {fd : FuncData} {ps : List Str} (F : Fun K x qual st f fd)
    (h : ∀ (kV doc pm : Value) (an : Option Addr) (cdv ct : Value) (us : List Value), us.length = ps.length → bindArgs (PySem.W.fnOf x qual (defArgs st) (defBody st) (defScope st) .none kV doc pm an cdv ct) ⟨us, []⟩ = pure (ps.zip us)) : Binds K fd ps [] := by
  obtain ⟨oc, od, kV, doc, pm, an, cdv, ct, osl, rfl, lk, hcd⟩ := F.ex
  exact .all (h kV doc pm an cdv ct)
theorem fun_mk {x qual : Str} {st : Stmt} {f : Addr} {oc : Value} {od an : Option Addr} {osl : Array (Option Value)} {kV doc pm cdv ct : Value} (l : K.lookup f = some ⟨oc, od, .func (PySem.W.fnOf x qual (defArgs st) (defBody st) (defScope st) .none kV doc pm an cdv ct), osl⟩)
    (c : PySem.W.codeIn K cdv qual = true) (k : PySem.W.keepIn K (.ref f) = true) : Fun K x qual st f (PySem.W.fnOf x qual (defArgs st) (defBody st) (defScope st) .none kV doc pm an cdv ct) := ⟨⟨oc, od, kV, doc, pm, an, cdv, ct, osl, rfl, l, c⟩, k⟩
end
theorem small1000 {n : Nat} (h : n ≤ 1000) : n < sizeLine := Nat.lt_of_le_of_lt h (by decide)

/-! ### expressions in short: the name that stands in the i-th slot -/
section
variable {X : Cx}
theorem pv (i : Nat) {x : Str} {pos : Pos} (hN : X.N[i]? = some x := by rfl) (hv : Vis X.env.scope x := by first | exact Or.inl rfl | exact Or.inr (Or.inl rfl) | exact Or.inr (Or.inr rfl)) (hd : (x == ("__debug__" : Str)) = false := by decide)
    (hcd : (x == ("__classdict__" : Str)) = false := by decide) : PE X (.Name x pos) (tVar i) := pe_var hN hv hd hcd
end

/-! ### tests -/
theorem iteF {A B : Prop} (h : B) : if false = true then A else B := by
  rw [if_neg Bool.false_ne_true]
  exact h
theorem iteT {A B : Prop} (h : A) : if true = true then A else B := by
  rw [if_pos rfl]
  exact h
theorem ite2 {c A B : Prop} [Decidable c] (h1 : c → A) (h2 : ¬ c → B) : if c then A else B := by
  by_cases h : c
  · rw [if_pos h]
    exact h1 h
  · rw [if_neg h]
    exact h2 h
theorem iteNS {c A B : Prop} [Decidable c] (hc : c) (h : B) : if (!decide c) = true then A else B := by
  rw [decide_eq_true hc]
  exact iteF h

/-! ### heaps -/
/-- all that was tracked is as it was -/
def Same (H H' : Hp) : Prop := ∀ b o, H b = some o → H' b = some o
theorem Same.refl (H : Hp) : Same H H := fun _ _ h => h
theorem Same.trans {H H1 H2 : Hp} (a : Same H H1) (b : Same H1 H2) : Same H H2 := fun c o h => b c o (a c o h)
theorem Same.free {H H' : Hp} (e : Same H H') {l : Addr} (h : H' l = Option.none) : H l = Option.none := by
  cases q : H l with
  | none => rfl
  | some o =>
    rw [e l o q] at h
    cases h
theorem Same.seq {K : PySem.W.Frag} {H H' : Hp} {a : Addr} {xs : List V} (e : Same H H') (h : SqL K H a xs) : SqL K H' a xs := by
  rcases h with (h | ⟨o, h⟩) | h
  · exact .inl (.inl (e _ _ h))
  · exact .inl (.inr ⟨o, e _ _ h⟩)
  · exact .inr h

end L2
set_option Elab.async false
set_option linter.all false
set_option maxRecDepth 100000
set_option maxHeartbeats 4000000
namespace L2
open PySem PySem.Spec PyProof.Rows

section
variable {prog : Program} {w : World} {A : Around} {R : Result → Shared → Prop} {s : Shared}
/-- the comprehension's loop, the step ahead of the store kept -/
theorem compLoop_go {elt target iter : Expr} {ifs : List Expr} {scope : Scope} {pos : Pos} {it acc : Value} {env : Env} (I : Nat → Shared → Prop)
    (turn : ∀ n s, I n s → wpAny (model prog w) A (pyNext it) (fun r s₁ => match r with
      | none => R (.ok .next) s₁
      | some v => wpAny (model prog w) A (letOwnedTupleGo target it v) (fun _ s₀ => wpAny (model prog w) A (assign target env v) (fun _ s₂ =>
          wpAny (model prog w) A (forIn ifs true fun c r => if r = true then do let ok ← isTrue c env (eval c env); pure (ForInStep.yield ok) else pure (ForInStep.yield r)) (fun ok s₃ =>
            if ok = true then wpAny (model prog w) A (eval elt env) (fun x s₄ =>
              wpAny (model prog w) A (call (.builtin "list.append") [acc, x]) (fun _ s₅ => ∃ m, m < n ∧ I m s₅) (notedBy (model prog w) A env fun e s' => R (.error e) s') s₄) (notedBy (model prog w) A env fun e s' => R (.error e) s') s₃
            else ∃ m, m < n ∧ I m s₃) (notedBy (model prog w) A env fun e s' => R (.error e) s') s₂) (notedBy (model prog w) A env fun e s' => R (.error e) s') s₀) (notedBy (model prog w) A env fun e s' => R (.error e) s') s₁) (notedBy (model prog w) A env fun e s' => R (.error e) s') s)
    (n : Nat) (h : I n s) :
    codeAny (model prog w) A (.compLoop (.ListComp elt [⟨target, iter, ifs, 0⟩] scope pos) 0 it acc env) R s := by
  refine codeAny_loop rfl I (fun n s hI => ?_) n h
  show wpAny _ A ((compTurn (.ListComp elt [⟨target, iter, ifs, 0⟩] scope pos) 0 it acc env).onRaise (fun x => do noteFrame x env; theTreesLotGoes x)) _ _ s
  refine wpAny_noted ?_
  rw [compTurn_list]
  refine wpAny_bind (wpAny_standAt (wpAny_bind (wpAny_mono (turn n s hI) (fun r s₁ h₁ => ?_) fun _ _ h' => h')))
  cases r with
  | none => exact wpAny_pure h₁
  | some v =>
    refine wpAny_bind (wpAny_mono h₁ (fun _ s₀ h₀ => ?_) fun _ _ h' => h')
    refine wpAny_bind (wpAny_mono h₀ (fun _ s₂ h₂ => wpAny_bind (wpAny_mono h₂ (fun ok s₃ h₃ => ?_) fun _ _ h' => h')) fun _ _ h' => h')
    cases ok with
    | false => exact wpAny_pure ⟨rfl, h₃⟩
    | true =>
      exact wpAny_bind (wpAny_bind (wpAny_mono h₃ (fun x s₄ h₄ => wpAny_bind (wpAny_mono h₄ (fun _ s₅ h₅ => wpAny_pure (wpAny_pure ⟨rfl, h₅⟩)) fun _ _ h' => h')) fun _ _ h' => h'))
end

/-- the closure that a comprehension takes -/
def closL (env : Env) (l : List (Str × NameKind)) : List (Str × Addr) → List (Str × Addr) := fun cs => l.foldl (fun cs p => if p.2 == .free then (p.1, (env.cells.lookup p.1).getD 0) :: cs else cs) cs
def FreeIn (env : Env) (l : List (Str × NameKind)) : Prop := ∀ p ∈ l, p.2 = .free → ∃ c, env.cells.lookup p.1 = some c
theorem closure_eq {env : Env} {scope : Scope} (h : FreeIn env scope.names) : closureFor scope env = pure (closL env scope.names []) := by
  have all : ∀ (l : List (Str × NameKind)) (cs : List (Str × Addr)), FreeIn env l → (forIn l cs fun x r => if (x.2 == .free) = true then do let a ← cellOf env x.1; pure (ForInStep.yield ((x.1, a) :: r)) else pure (ForInStep.yield r) : Sem (List (Str × Addr))) = pure (closL env l cs) := by
    intro l
    induction l with
    | nil => intro cs _; rfl
    | cons p r ih =>
      intro cs hf
      have e : closL env (p :: r) cs = closL env r (if p.2 == .free then (p.1, (env.cells.lookup p.1).getD 0) :: cs else cs) := rfl
      rw [List.forIn_cons, e]
      cases hk : (p.2 == NameKind.free) with
      | true =>
        obtain ⟨c, hc⟩ := hf p List.mem_cons_self (eq_of_beq hk)
        have hcell : cellOf env p.1 = pure c := by unfold cellOf; rw [hc]
        simp only [if_true, hcell, pure_bind]
        rw [ih _ fun q hq => hf q (List.mem_cons_of_mem _ hq), hc]
        rfl
      | false =>
        simp only [Bool.false_eq_true, if_false, pure_bind]
        exact ih _ fun q hq => hf q (List.mem_cons_of_mem _ hq)
  have := all scope.names [] h
  simpa [closureFor] using this
theorem clos_sub {env : Env} : ∀ {l : List (Str × NameKind)} {cs : List (Str × Addr)} {x : Str} {c : Addr}, FreeIn env l → (closL env l cs).lookup x = some c → cs.lookup x = some c ∨ env.cells.lookup x = some c
  | [], _, _, _, _, h => .inl h
  | p :: r, cs, x, c, hf, h => by
    have h' : (closL env r (if p.2 == .free then (p.1, (env.cells.lookup p.1).getD 0) :: cs else cs)).lookup x = some c := h
    rcases clos_sub (fun q hq => hf q (List.mem_cons_of_mem _ hq)) h' with q | q
    · cases hk : (p.2 == NameKind.free) with
      | true =>
        rw [hk, if_pos rfl, List.lookup_cons] at q
        cases e : x == p.1 with
        | true =>
          rw [e] at q
          obtain ⟨d, hd⟩ := hf p List.mem_cons_self (eq_of_beq hk)
          refine .inr ?_
          rw [eq_of_beq e, hd]
          rw [hd] at q
          exact q
        | false =>
          rw [e] at q
          exact .inl q
      | false =>
        rw [hk, if_neg Bool.false_ne_true] at q
        exact .inl q
    · exact .inr q
theorem clos_mono {env : Env} {x : Str} : ∀ {l : List (Str × NameKind)} {cs : List (Str × Addr)}, (cs.lookup x).isSome = true → ((closL env l cs).lookup x).isSome = true
  | [], _, h => h
  | p :: r, cs, h => by
    show ((closL env r (if p.2 == .free then (p.1, (env.cells.lookup p.1).getD 0) :: cs else cs)).lookup x).isSome = true
    refine clos_mono ?_
    cases hk : (p.2 == NameKind.free) with
    | true =>
      rw [if_pos rfl, List.lookup_cons]
      cases e : x == p.1 with
      | true => rfl
      | false => exact h
    | false => rw [if_neg Bool.false_ne_true]; exact h
theorem clos_has {env : Env} {x : Str} : ∀ {l : List (Str × NameKind)} {cs : List (Str × Addr)}, (x, NameKind.free) ∈ l → ((closL env l cs).lookup x).isSome = true
  | [], _, h => by cases h
  | p :: r, cs, h => by
    show ((closL env r (if p.2 == .free then (p.1, (env.cells.lookup p.1).getD 0) :: cs else cs)).lookup x).isSome = true
    rcases List.mem_cons.mp h with e | h
    · subst e
      refine clos_mono ?_
      show (List.lookup x ((x, (env.cells.lookup x).getD 0) :: cs)).isSome = true
      rw [List.lookup_cons, beq_self_eq_true]
      rfl
    · exact clos_has h
def SubCells (env : Env) (cl : List (Str × Addr)) : Prop := ∀ x c, cl.lookup x = some c → env.cells.lookup x = some c
theorem SubCells.get {env : Env} {cl : List (Str × Addr)} {x : Str} {c : Addr} (h : SubCells env cl) (e : cl.lookup x = some c) : env.cells.lookup x = some c := h x c e
theorem sub_clos {env : Env} {l : List (Str × NameKind)} (h : FreeIn env l) : SubCells env (closL env l []) := fun x c e => by
  rcases clos_sub h e with q | q
  · cases q
  · exact q
/-- a free name of the block is a cell of it, or still free -/
theorem relabel_free {env : Env} : ∀ {names : List (Str × NameKind)} {x : Str}, names.lookup x = some .free →
    (names.map fun (n, k) => if (k == NameKind.free && env.scope.kind == .function && env.kindOf n == some .cell) then (n, NameKind.cell) else (n, k)).lookup x = some .cell ∨
    (names.map fun (n, k) => if (k == NameKind.free && env.scope.kind == .function && env.kindOf n == some .cell) then (n, NameKind.cell) else (n, k)).lookup x = some .free
  | [], _, h => by simp at h
  | (n, k) :: r, x, h => by
    rw [List.lookup_cons] at h
    simp only [List.map_cons]
    cases hx : x == n with
    | true =>
      rw [hx] at h
      cases h
      split
      · exact .inl (by rw [List.lookup_cons, hx])
      · exact .inr (by rw [List.lookup_cons, hx])
    | false =>
      rw [hx] at h
      have ih := relabel_free (env := env) h
      split
      · rw [List.lookup_cons, hx]; exact ih
      · rw [List.lookup_cons, hx]; exact ih
theorem relabel_back {env : Env} : ∀ {names : List (Str × NameKind)} {x : Str}, (∀ y ∈ names, y.2 ≠ .cell) →
    ((names.map fun (n, k) => if (k == NameKind.free && env.scope.kind == .function && env.kindOf n == some .cell) then (n, NameKind.cell) else (n, k)).lookup x = some .cell ∨
    (names.map fun (n, k) => if (k == NameKind.free && env.scope.kind == .function && env.kindOf n == some .cell) then (n, NameKind.cell) else (n, k)).lookup x = some .free) → (x, NameKind.free) ∈ names
  | [], _, _, h => by simp at h
  | (n, k) :: r, x, hc, h => by
    have hr : ∀ y ∈ r, y.2 ≠ .cell := fun y hy => hc y (List.mem_cons_of_mem _ hy)
    simp only [List.map_cons] at h
    cases hx : x == n with
    | true =>
      have en := eq_of_beq hx
      subst en
      by_cases hk : k = .free
      · subst hk; exact List.mem_cons_self
      · have hb : (k == NameKind.free) = false := by simpa using hk
        simp only [hb, Bool.false_and, Bool.false_eq_true, if_false, List.lookup_cons, beq_self_eq_true] at h
        rcases h with h | h
        · exact absurd (Option.some.inj h) (hc _ List.mem_cons_self)
        · exact absurd (Option.some.inj h) hk
    | false =>
      refine List.mem_cons_of_mem _ (relabel_back (env := env) hr ?_)
      split at h
      · simpa only [List.lookup_cons, hx] using h
      · simpa only [List.lookup_cons, hx] using h
def FreeOk (X : Cx) (scope : Scope) : List Nat → List Str → Prop
  | [], [] => True
  | i :: is, y :: ys => X.N[i]? = some y ∧ (X.env.kindOf y = some .cell ∨ X.env.kindOf y = some .free) ∧ scope.names.lookup y = some .free ∧ FreeOk X scope is ys
  | _, _ => False
theorem FreeOk.len {X : Cx} {scope : Scope} : ∀ {is : List Nat} {ys : List Str}, FreeOk X scope is ys → is.length = ys.length
  | [], [], _ => rfl
  | _ :: _, _ :: _, h => congrArg (· + 1) h.2.2.2.len
theorem FreeOk.get {X : Cx} {scope : Scope} : ∀ {is : List Nat} {ys : List Str} {j : Nat} {y : Str}, FreeOk X scope is ys → ys[j]? = some y →
    ∃ i, is[j]? = some i ∧ X.N[i]? = some y ∧ (X.env.kindOf y = some .cell ∨ X.env.kindOf y = some .free) ∧ scope.names.lookup y = some .free
  | [], [], _, _, _, h => by simp at h
  | i :: _, z :: _, 0, y, f, h => by
    simp at h
    subst h
    exact ⟨i, rfl, f.1, f.2.1, f.2.2.1⟩
  | _ :: is, _ :: ys, j + 1, y, f, h => by
    obtain ⟨i, e, r⟩ := FreeOk.get (j := j) f.2.2.2 (by simpa using h)
    exact ⟨i, by simpa using e, r⟩

/-- the context of a comprehension's block -/
def cxComp (X : Cx) (N : List Str) (scope : Scope) (cl : List (Str × Addr)) (C : Addr) (s : Shared) (H : Hp) (fp : List Addr) (E : Value → Shared → Prop) : Cx where
  prog := X.prog
  w := X.w
  K := X.K
  mg := X.mg
  base := X.base
  A := X.A
  N := N
  s₀ := s
  H₀ := H
  env := compEnvC scope cl C X.env
  outer := X.stack
  stack := X.stack
  ex := fp
  fn := fun _ => false
  calm := X.calm
  pn := []
  xe := E

def cSlots (σ : St) (ix : List Nat) (x : V) : St := some x :: ix.map fun i => (σ[i]?).join

def PTs (X : Cx) (ifs : List Expr) (tt : TT) : Prop :=
  ∀ (pins : List (Addr × Obj)) (s : Shared) (σ : St) (H : Hp) (Q : Bool → Hp → Prop), Inv X pins σ H s → tt σ H Q →
    wpAny (model X.prog X.w) X.A (forIn ifs true fun c r => if r = true then do let ok ← isTrue c X.env (eval c X.env); pure (ForInStep.yield ok) else pure (ForInStep.yield r)) (TP X pins σ Q) X.xe s
def tTrue : TT := fun _ H Q => Q true H
theorem pts_nil {X : Cx} : PTs X [] tTrue := fun _ _ _ H _ I h => wpAny_tests_nil ⟨H, I, h⟩
theorem pts_one {X : Cx} {c : Expr} {t : TT} (h : PT X c t) : PTs X [c] t := fun pins s σ H Q I hw => wpAny_tests_one (h pins s σ H Q I hw)

/-- the comprehension's end: D its list; W the invariant by the turn and a measure -/
def cEnd (J : It) (σ : St) (ix : List Nat) (tt : TT) (te : TE) (H1 : Hp) (Q : VK) : Prop :=
  ∀ D, H1 D = none → ∃ W : Nat → Nat → Hp → Prop, (∃ m, W 0 m (upd H1 D (.lst []))) ∧ ∀ i m H, W i m H →
    (J.stop i H ∧ Q (.ref D) H) ∨ (J.go i H ∧ ∀ x H', J.yld i H x H' → tt (cSlots σ ix x) H' fun c H2 =>
      if c = true then te (cSlots σ ix x) H2 fun y H3 => ∃ ys m', H3 D = some (.lst ys) ∧ ys.length < sizeLine ∧ m' < m ∧ W (i + 1) m' (upd H3 D (.lst (ys ++ [y])))
      else ∃ m', m' < m ∧ W (i + 1) m' H2)
def tComp (wi : TI) (ix : List Nat) (tt : TT) (te : TE) : TE := fun σ H Q => wi σ H fun J H1 => cEnd J σ ix tt te H1 Q

section
variable {X : Cx} {pins : List (Addr × Obj)} {σ : St} {H : Hp} {s : Shared}

theorem slots_get {ix : List Nat} {j : Nat} {v : V} (h : (ix.map fun i => (σ[i]?).join)[j]? = some (some v)) : ∃ i, ix[j]? = some i ∧ σ[i]? = some (some v) := by
  rw [List.getElem?_map] at h
  cases e : ix[j]? with
  | none => rw [e] at h; cases h
  | some i =>
    rw [e] at h
    have h' : (σ[i]?).join = some v := Option.some.inj h
    refine ⟨i, rfl, ?_⟩
    cases q : σ[i]? with
    | none => rw [q] at h'; cases h'
    | some o =>
      rw [q] at h'
      cases o with
      | none => cases h'
      | some z => cases h'; rfl

def kindsOk (env : Env) (l : List (Str × NameKind)) : Bool := l.all fun p => !(p.2 == .free) || env.kindOf p.1 == some .cell || env.kindOf p.1 == some .free
theorem kinds_free {X : Cx} {l : List (Str × NameKind)} (ok : X.Ok) (h : kindsOk X.env l = true) : FreeIn X.env l := fun p hp hk => by
  have q := List.all_eq_true.mp h p hp
  rw [hk] at q
  have q' : (X.env.kindOf p.1 == some .cell || X.env.kindOf p.1 == some .free) = true := by simpa using q
  rcases Bool.or_eq_true_iff.mp q' with q | q
  · exact ok.has p.1 (.inl (eq_of_beq q))
  · exact ok.has p.1 (.inr (eq_of_beq q))
/-- what a block's scope must be: its own names local, no cells of its own -/
def blockOk (scope : Scope) (x : Str) : Bool := scope.kind == .function && scope.names.lookup x == some .local && scope.names.all (fun p => !(p.2 == .cell)) && scope.names.all (fun p => !(p.2 == .local) || scope.names.lookup p.1 == some .local)
structure BlockOk (scope : Scope) (x : Str) : Prop where
  kind : scope.kind = .function
  own : scope.names.lookup x = some .local
  cell : ∀ y ∈ scope.names, y.2 ≠ .cell
  names : ∀ y ∈ scope.names, y.2 = .local → scope.names.lookup y.1 = some .local
theorem block_of {scope : Scope} {x : Str} (h : blockOk scope x = true) : BlockOk scope x := by
  unfold blockOk at h
  rw [Bool.and_eq_true, Bool.and_eq_true, Bool.and_eq_true] at h
  obtain ⟨⟨⟨h1, h2⟩, h3⟩, h4⟩ := h
  refine ⟨eq_of_beq h1, eq_of_beq h2, fun y hy z => ?_, fun y hy z => ?_⟩
  · have := List.all_eq_true.mp h3 y hy
    rw [z] at this
    cases this
  · have := List.all_eq_true.mp h4 y hy
    rw [z] at this
    have q : (scope.names.lookup y.1 == some NameKind.local) = true := by simpa using this
    exact eq_of_beq q
theorem has_of {scope : Scope} {env : Env} (hcell : ∀ y ∈ scope.names, y.2 ≠ .cell) (y : Str) (h : (relabel scope env).names.lookup y = some .cell ∨ (relabel scope env).names.lookup y = some .free) : ∃ c, (closL env scope.names []).lookup y = some c :=
  Option.isSome_iff_exists.mp (clos_has (relabel_back hcell h))

/-- y = [.. for ..] where the stores are exchanged -/
def tSetComp (i : Nat) (t : TE) : TS := fun D σ H => t σ H fun v H1 => D.nx (σ.set i (some v)) H1
end
end L2
set_option Elab.async false
set_option linter.all false
set_option maxRecDepth 100000
set_option maxHeartbeats 4000000
namespace L2
open PySem PySem.Spec PyProof.Rows
/-- a comprehension whose target is any target: xs its names -/
def tSlots0 (xs : List Str) (σ : St) (ix : List Nat) : St := xs.map (fun _ => (none : Option V)) ++ ix.map fun i => (σ[i]?).join
def cEndT (J : It) (k : Nat) (g : TG) (σ : St) (ix : List Nat) (tt : TT) (te : TE) (H1 : Hp) (Q : VK) : Prop :=
  ∀ D, H1 D = none → ∃ W : Nat → Nat → Hp → Prop, (∃ m, W 0 m (upd H1 D (.lst []))) ∧ ∀ i m H, W i m H →
    (J.stop i H ∧ Q (.ref D) H) ∨ (J.go i H ∧ ∀ x H', J.yld i H x H' → ∀ os : St, os.length = k → g x (os ++ ix.map fun i => (σ[i]?).join) H' fun σ6 H6 => (∃ os' : St, os'.length = k ∧ σ6 = os' ++ ix.map fun i => (σ[i]?).join) ∧ tt σ6 H6 fun c H2 =>
      if c = true then te σ6 H2 fun y H3 => ∃ ys m', H3 D = some (.lst ys) ∧ ys.length < sizeLine ∧ m' < m ∧ W (i + 1) m' (upd H3 D (.lst (ys ++ [y])))
      else ∃ m', m' < m ∧ W (i + 1) m' H2)
def tCompT (k : Nat) (g : TG) (wi : TI) (ix : List Nat) (tt : TT) (te : TE) : TE := fun σ H Q => wi σ H fun J H1 => cEndT J k g σ ix tt te H1 Q
section
variable {X : Cx} {pins : List (Addr × Obj)} {σ : St} {H : Hp} {s : Shared}
theorem inv_compT {xs : List Str} {ys : List Str} {ix : List Nat} {scope : Scope} {cl : List (Str × Addr)} {fp : List Addr} {E : Value → Shared → Prop} {h₁ : Heap} {D C n : Nat} {tk : Nat} {m : Str → Option Value}
    (I : Inv X pins σ H s) (hf : ∀ b ∈ fp, FpOk X pins H b ∧ b < s.heap.objs.size) (sub : SubCells X.env cl) (hkind : scope.kind = .function)
    (hhas : ∀ y, ((relabel scope X.env).names.lookup y = some .cell ∨ (relabel scope X.env).names.lookup y = some .free) → ∃ c, cl.lookup y = some c) (fo : FreeOk X scope ix ys)
    (hD : s.heap.objs.size ≤ D) (hC : s.heap.objs.size ≤ C) (hDC : D ≠ C) (hns : h₁.Ns C m) (k : ∀ b o, s.heap.get? b = some o → h₁.get? b = some o)
    (hd : h₁.get? D = some { cls := .type "list", data := .seq ([] : List Value).toArray n }) :
    Inv (cxComp X (xs ++ ys) scope cl C s H fp E) [] (tSlots0 xs σ ix) (upd H D (.lst [])) { s with heap := h₁, toks := tk } := by
  have lt_of_cell : ∀ y c, cl.lookup y = some c → c < s.heap.objs.size := fun y c e => by
    obtain ⟨v, q⟩ := I.cell y c (sub.get e)
    exact q.lt
  refine ⟨⟨I.ok.mod, hkind, I.ok.glob, I.ok.blt, hC, fun y z c h1 h2 => I.ok.inj y z c (sub.get h1) (sub.get h2), hhas, fun y c h _ => absurd h (by simp [cxComp]), I.ok.hd, I.ok.frames, .inl rfl, fun b hb => ⟨?_, fun y c e => ?_⟩, I.bs, Nat.le_trans I.ok.bsz I.sz, fun b o e hb => ?_, fun b hb z => ?_, I.stack, I.stkFree⟩,
    rfl, I.bare, Un.laid k hD (I.hok.fresh hD), ⟨m, hns, fun j y v e1 e2 e3 => ?_⟩, fun y c e => ?_, ?_, fun y c e => ?_, fun p hp => absurd (show p ∈ ([] : List (Addr × Obj)) from hp) (by simp), I.hok.laid k hD ?_, ?_⟩
  · exact Nat.ne_of_lt (Nat.lt_of_lt_of_le (hf b hb).2 hC)
  · exact (hf b hb).1.2.2.2.2.1 y c (sub.get e)
  · obtain ⟨_, _, _, z, _⟩ := (hf b hb).1
    rcases z with z | z
    · exact I.ok.noex b o e z
    · exact absurd (Nat.lt_of_lt_of_le (Heap.lt_size (I.ok.bs b o e).1) z) (Nat.lt_irrefl _)
  · obtain ⟨_, z1, z2, _⟩ := (hf b hb).1
    rcases List.mem_cons.mp (I.stkSub b z) with q | q
    · exact z1 q
    · exact z2 q
  · by_cases hj : j < xs.length
    · exfalso
      have e3 : (xs.map (fun _ => (none : Option V)) ++ ix.map fun i => (σ[i]?).join)[j]? = some (some v) := e2
      rw [List.getElem?_append_left (by rw [List.length_map]; exact hj), List.getElem?_map, List.getElem?_eq_getElem hj] at e3
      cases e3
    · have e0 : (xs ++ ys)[j]? = some y := e1
      have e1' : ys[j - xs.length]? = some y := by rw [List.getElem?_append_right (Nat.le_of_not_lt hj)] at e0; exact e0
      have e3 : (xs.map (fun _ => (none : Option V)) ++ ix.map fun i => (σ[i]?).join)[j]? = some (some v) := e2
      have e2' : (ix.map fun i => (σ[i]?).join)[j - xs.length]? = some (some v) := by
        rw [List.getElem?_append_right (by rw [List.length_map]; exact Nat.le_of_not_lt hj), List.length_map] at e3
        exact e3
      obtain ⟨i, q1, q2⟩ := slots_get e2'
      obtain ⟨i', p1, p2, p3, p4'⟩ := fo.get e1'
      rw [q1] at p1
      cases p1
      have p4 : (relabel scope X.env).names.lookup y = some .cell ∨ (relabel scope X.env).names.lookup y = some .free := relabel_free p4'
      obtain ⟨c, p5⟩ := hhas y p4
      obtain ⟨m0, hn0, hl⟩ := I.loc
      obtain ⟨u, r, l⟩ := hl i y v p2 q2 (.inr p3)
      refine ⟨u, r, .inr ⟨p4, c, p5, ?_⟩⟩
      rcases l with ⟨l1, _⟩ | ⟨_, c', l2, l3⟩
      · rcases p3 with p3 | p3
        · rw [l1] at p3; cases p3
        · rw [l1] at p3; cases p3
      · rw [sub.get p5] at l2
        cases l2
        obtain ⟨o, ho, hd'⟩ := l3
        exact ⟨o, k _ _ ho, hd'⟩
  · obtain ⟨v, o, ho, hd'⟩ := I.cell y c (sub.get e)
    exact ⟨v, o, k _ _ ho, hd'⟩
  · show upd H D (.lst []) C = none
    rw [upd_ne (Ne.symm hDC)]
    exact I.hok.fresh hC
  · show upd H D (.lst []) c = none
    rw [upd_ne (Nat.ne_of_lt (Nat.lt_of_lt_of_le (lt_of_cell y c e) hD))]
    exact I.freeC y c (sub.get e)
  · exact ⟨Nat.zero_le _, [], n, .nil, hd⟩
  · show (tSlots0 xs σ ix).length = (xs ++ ys).length
    unfold tSlots0
    rw [List.length_append, List.length_map, List.length_map, fo.len, List.length_append]

theorem comp_blockT {elt iter tg : Expr} {xs : List Str} {g : TG} {ifs : List Expr} {scope : Scope} {cl : List (Str × Addr)} {pos : Pos} {ix : List Nat} {ys : List Str} {tt : TT} {te : TE} {it : Addr} {fp : List Addr} {tn : Nat → Heap → Prop} {J : It} {Q : VK} {E : Value → Shared → Prop}
    {RR : Value → Addr → Result → Shared → Prop}
    (hc : X.calm = true) (hg : ∀ C s H fp E, PG (cxComp X (xs ++ ys) scope cl C s H fp E) tg g) (ht : ∀ C s H fp E, PTs (cxComp X (xs ++ ys) scope cl C s H fp E) ifs tt) (he : ∀ C s H fp E, PE (cxComp X (xs ++ ys) scope cl C s H fp E) elt te)
    (sub : SubCells X.env cl) (hkind : scope.kind = .function) (hcell : ∀ y ∈ scope.names, y.2 ≠ .cell)
    (hhas : ∀ y, ((relabel scope X.env).names.lookup y = some .cell ∨ (relabel scope X.env).names.lookup y = some .free) → ∃ c, cl.lookup y = some c) (fo : FreeOk X scope ix ys)
    (I : Inv X pins σ H s) (T : Turn X.prog X.w X.K tg J fp it tn) (st : tn 0 s.heap) (hf : ∀ b ∈ fp, FpOk X pins H b) (q : cEndT J xs.length g σ ix tt te H Q)
    (hRR : ∀ D C s' H' m, s.heap.objs.size ≤ C → Inv X pins σ H' s' → FpOk X pins H' C → s'.heap.Ns C m → Q (.ref D) H' → RR (.ref D) C (.ok .next) s') :
    wpAny (model X.prog X.w) X.A (newList []) (fun acc s₃ => wpAny (model X.prog X.w) X.A (newFunctionEnv scope X.env.globals cl [] X.env.qual none .none (some X.env)) (fun cenv s₄ =>
      codeAny (model X.prog X.w) X.A (.compStart (.ListComp elt [⟨tg, iter, ifs, 0⟩] scope pos) 0 (.ref it) acc { cenv with scope := relabel scope X.env }) (RR acc cenv.locals) s₄) E s₃) E s := by
  refine wpAny_newObj_type (wpAny_newFunctionEnv hcell (by intro y hy; simp at hy) (fun h₁ hns₁ hsb₁ => ?_) hkind)
  dsimp only at hns₁ hsb₁ ⊢
  generalize hH2 : s.heap.push { cls := .type "list", dict := none, data := .seq ([] : List Value).toArray } = H2 at hns₁ hsb₁ ⊢
  have hC : H2.objs.size = s.heap.objs.size + 1 := by rw [← hH2, Heap.size_push]
  have hDC : s.heap.objs.size ≠ H2.objs.size := by rw [hC]; exact Nat.ne_of_lt (Nat.lt_succ_self _)
  have hCle : s.heap.objs.size ≤ H2.objs.size := by rw [hC]; exact Nat.le_succ _
  have below : ∀ b, b < s.heap.objs.size → b ≠ H2.objs.size ∧ b ≠ s.heap.objs.size := fun b hb => ⟨by rw [hC]; exact Nat.ne_of_lt (Nat.lt_succ_of_lt hb), Nat.ne_of_lt hb⟩
  have old : ∀ b o, s.heap.get? b = some o → h₁.get? b = some o := fun b o e => hsb₁.extBut b o (below b (Heap.lt_size e)).1 (Heap.get?_push_of_some _ (hH2 ▸ Heap.get?_push_of_some _ e))
  have hacc : ∃ n, h₁.get? s.heap.objs.size = some { cls := .type "list", data := .seq ([] : List Value).toArray n } := ⟨_, hsb₁.extBut _ _ hDC (Heap.get?_push_of_some _ (hH2 ▸ Heap.get?_push_size _ rfl))⟩
  obtain ⟨nD, hacc⟩ := hacc
  have hf' : ∀ b ∈ fp, FpOk X pins H b ∧ b < s.heap.objs.size := fun b hb => ⟨hf b hb, by obtain ⟨o, e, _⟩ := T.obj 0 _ st b hb; exact Heap.lt_size e⟩
  have hDn : H s.heap.objs.size = none := I.hok.fresh (Nat.le_refl _)
  obtain ⟨W, ⟨m0, w0⟩, turn⟩ := q _ hDn
  generalize hE : notedBy (model X.prog X.w) X.A (compEnvC scope cl H2.objs.size X.env) (fun e s' => RR (.ref s.heap.objs.size) H2.objs.size (.error e) s') = EE
  have I0 : Inv (cxComp X (xs ++ ys) scope cl H2.objs.size s H fp EE) [] (tSlots0 xs σ ix) (upd H s.heap.objs.size (.lst [])) { s with heap := h₁, toks := s.toks + ([] : List (Str × Value)).length } :=
    inv_compT I hf' sub hkind hhas fo (Nat.le_refl _) hCle hDC hns₁ old hacc
  have st1 : tn 0 h₁ := T.keep _ _ _ st fun b _ o e => old b o e
  have fr1 : ∀ b ∈ fp, upd H s.heap.objs.size (.lst []) b = none := fun b hb => by rw [upd_ne (below b (hf' b hb).2).2]; exact (hf b hb).1
  have stat : ∀ {H' : Hp}, (∀ b ∈ fp, H' b = none) → ∀ b ∈ fp, FpOk (cxComp X (xs ++ ys) scope cl H2.objs.size s H fp EE) [] H' b := fun hn b hb =>
    ⟨hn b hb, (I0.ok.exf b hb).1, I0.ok.exfs b hb, .inl hb, (I0.ok.exf b hb).2, fun p hp => absurd (show p ∈ ([] : List (Addr × Obj)) from hp) (by simp)⟩
  have loop : ∀ s₃ : Shared, s₃ = { s with heap := h₁, toks := s.toks + ([] : List (Str × Value)).length } →
      codeAny (model X.prog X.w) X.A (.compLoop (.ListComp elt [⟨tg, iter, ifs, 0⟩] scope pos) 0 (.ref it) (.ref s.heap.objs.size) (compEnvC scope cl H2.objs.size X.env)) (RR (.ref s.heap.objs.size) H2.objs.size) s₃ := by
    rintro s₃ rfl
    refine compLoop_go (fun n s' => ∃ i σ' H', Inv (cxComp X (xs ++ ys) scope cl H2.objs.size s H fp EE) [] σ' H' s' ∧ (∃ os : St, os.length = xs.length ∧ σ' = os ++ ix.map fun i => (σ[i]?).join) ∧ tn i s'.heap ∧ (∀ b ∈ fp, H' b = none) ∧ W i n H') ?_ m0 ⟨0, _, _, I0, ⟨_, List.length_map _, rfl⟩, st1, fr1, w0⟩
    rintro n s3 ⟨i, σ3, H3, I3, ⟨o3, ho3, hσ3⟩, st3, fr3, w3⟩
    rw [hE]
    rcases turn i n H3 w3 with ⟨stop, qn⟩ | ⟨go, step⟩
    · refine thn (T.done (cxComp X (xs ++ ys) scope cl H2.objs.size s H fp EE) rfl rfl rfl hc i [] s3 σ3 H3 EE I3 (stat fr3) st3 stop) fun r s4 ⟨hr, I4⟩ => ?_
      subst hr
      obtain ⟨m4, hn4, _⟩ := I4.loc
      have Ix : Inv X pins σ H3 s4 := I.call' (s' := s4) (ch := fp) I4.os I4.base I4.hok I4.bare fun b hb => by
        obtain ⟨_, z1, _, z3, z4, z5⟩ := hf b hb
        exact ⟨z3, z1, z4, z5⟩
      exact hRR _ _ s4 H3 m4 hCle Ix (I.fpOk hCle I4.free) hn4 qn
    · refine thn (T.item (cxComp X (xs ++ ys) scope cl H2.objs.size s H fp EE) rfl rfl rfl hc i [] s3 σ3 H3 EE I3 (stat fr3) st3 go) fun r s4 ⟨u, hr, h4⟩ => ?_
      subst hr
      refine thn h4 fun _ s5 ⟨xv, H5, I5, r5, y5, st5, fr5⟩ => ?_
      have I5' := I5.pinned (stat fr5) (T.obj _ _ st5)
      have again : ∀ {σ7 : St} {H7 : Hp} {s7 : Shared} {m' : Nat}, Inv (cxComp X (xs ++ ys) scope cl H2.objs.size s H fp EE) ([] ++ pinsAt fp s5.heap) σ7 H7 s7 → (∃ os : St, os.length = xs.length ∧ σ7 = os ++ ix.map fun i => (σ[i]?).join) → m' < n → W (i + 1) m' H7 →
          ∃ m, m < n ∧ ∃ i σ' H', Inv (cxComp X (xs ++ ys) scope cl H2.objs.size s H fp EE) [] σ' H' s7 ∧ (∃ os : St, os.length = xs.length ∧ σ' = os ++ ix.map fun i => (σ[i]?).join) ∧ tn i s7.heap ∧ (∀ b ∈ fp, H' b = none) ∧ W i m H' := fun {σ7 H7 s7 m'} I7 e7 hm w7 => by
        refine ⟨m', hm, i + 1, σ7, H7, I7.unpinned, e7, T.keep _ _ _ st5 fun b hb o e => (I7.pin (b, o) (List.mem_append_right _ (List.mem_append_right _ (mem_pinsAt hb e)))).1, fun b hb => ?_, w7⟩
        obtain ⟨o, e, d⟩ := T.obj _ _ st5 b hb
        exact (I7.pin (b, o) (List.mem_append_right _ (List.mem_append_right _ (mem_pinsAt hb e)))).2.1
      have stp := step xv _ y5 o3 ho3
      rw [← hσ3] at stp
      refine thn (hg _ _ _ _ _ _ s5 σ3 H5 xv u _ I5' r5 stp) fun _ s6 ⟨σ6, H6, I6, e6, q6⟩ => ?_
      refine thn (ht _ _ _ _ _ _ s6 _ _ _ I6 q6) fun ok s7 ⟨H7, I7, q7⟩ => ?_
      cases ok with
      | false =>
        rw [if_neg Bool.false_ne_true] at q7 ⊢
        obtain ⟨m', hm, w7⟩ := q7
        exact again I7 e6 hm w7
      | true =>
        rw [if_pos rfl] at q7 ⊢
        refine thn (he _ _ _ _ _ _ s7 _ _ _ I7 q7) fun y s8 ⟨yv, H8, I8, r8, ys8, m', e8, z8, hm, w8⟩ => ?_
        refine thn (mt_append _ s8 _ H8 (.ref s.heap.objs.size) [yv] (.ref s.heap.objs.size) [y] (fun _ H9 => W (i + 1) m' H9) I8 rfl (.cons r8 .nil) ⟨_, ys8, yv, rfl, rfl, e8, z8, w8⟩) fun _ s9 ⟨_, H9, I9, _, w9⟩ => ?_
        exact again I9 e6 hm w9
  exact codeAny_compStart_list (loop _ rfl) (T.self _ 0 _ _ _ st1 (loop _ rfl))

theorem pe_compT {elt iter tg : Expr} (xs : List Str) (x : Str) {g : TG} {ifs : List Expr} {scope : Scope} {pos : Pos} {wi : TI} {tt : TT} {te : TE} (ix : List Nat) (ys : List Str)
    (hc : X.calm = true) (hg : ∀ C s H fp E, PG (cxComp X (xs ++ ys) scope (closL X.env scope.names []) C s H fp E) tg g) (hi : PI X tg iter wi) (ht : ∀ C s H fp E, PTs (cxComp X (xs ++ ys) scope (closL X.env scope.names []) C s H fp E) ifs tt) (he : ∀ C s H fp E, PE (cxComp X (xs ++ ys) scope (closL X.env scope.names []) C s H fp E) elt te)
    (fo : FreeOk X scope ix ys) (hk : kindsOk X.env scope.names = true := by rfl) (hb : blockOk scope x = true := by rfl)
    (hs : ∀ x, foldedSetIterable iter X.env x = pure x := by intro _; rfl) :
    PE X (.ListComp elt [⟨tg, iter, ifs, 0⟩] scope pos) (tCompT xs.length g wi ix tt te) := by
  intro pins s σ H Q I h
  have B := block_of hb
  have F := kinds_free I.ok hk
  rw [eval_ListComp]
  refine wpAny_comprehension_free (use := none) rfl hs (closure_eq F) B.kind B.names (thn (hi pins s σ H _ I h) fun v s1 h1 => thn h1 fun itv s2 h2 => ?_)
  obtain ⟨it, fp, tn, J, H2, e, I2, T, st2, f2, q2⟩ := h2
  subst e
  refine comp_blockT (RR := fun acc C => compPost (model X.prog X.w) X.A X.xe none (EP X pins σ Q) acc C) hc hg ht he (sub_clos F) B.kind B.cell (has_of B.cell) fo I2 T st2 f2 q2 ?_
  intro D C s' H' m hC Ix fC hn q
  refine ⟨m, hn, fun h' sb => ⟨.ref D, H', ?_, rfl, q⟩⟩
  obtain ⟨f0, f1, _, f3, f4, f5⟩ := fC
  exact Ix.turned (t' := s'.toks) (fun b o hb e => (sb.2 b hb).trans e) f0 f1 f3 f4 f5

theorem ps_setCompT {elt iter tg : Expr} (xs : List Str) (x : Str) {g : TG} {y : Str} {py : Pos} {ifs : List Expr} {scope : Scope} {pos spos : Pos} {wi : TI} {tt : TT} {te : TE} {i : Nat} (ix : List Nat) (ys : List Str)
    (hN : X.N.Nodup) (hiN : X.N[i]? = some y) (hy : X.env.scope.names.lookup y = some .local)
    (hc : X.calm = true) (hg : ∀ C s H fp E, PG (cxComp X (xs ++ ys) scope (closL X.env scope.names []) C s H fp E) tg g) (hi : PI X tg iter wi) (ht : ∀ C s H fp E, PTs (cxComp X (xs ++ ys) scope (closL X.env scope.names []) C s H fp E) ifs tt) (he : ∀ C s H fp E, PE (cxComp X (xs ++ ys) scope (closL X.env scope.names []) C s H fp E) elt te)
    (fo : FreeOk X scope ix ys)
    (hsw : swapsWith (.ListComp elt [⟨tg, iter, ifs, 0⟩] scope pos) (some (.Name y py)) spos.line X.env = pure true := by rfl)
    (hk : kindsOk X.env scope.names = true := by rfl) (hb : blockOk scope x = true := by rfl)
    (hs : ∀ x, foldedSetIterable iter X.env x = pure x := by intro _; rfl) :
    PS X (.Assign [.Name y py] (.ListComp elt [⟨tg, iter, ifs, 0⟩] scope pos) spos) (tSetComp i (tCompT xs.length g wi ix tt te)) := by
  intro pins s σ H D I h
  have B := block_of hb
  have F := kinds_free I.ok hk
  rw [exec_Assign_Name_used _ _ _ _ hsw]
  refine wpAny_bind (wpAny_standAt (wpAny_bind ?_))
  show wpAny _ X.A (do let _ ← comprehension (.ListComp elt [⟨tg, iter, ifs, 0⟩] scope pos) scope X.env _ (newList []) false (eval iter X.env) (some (assign (.Name y py) X.env))) _ _ s
  refine wpAny_bind (wpAny_mono (wpAny_comprehension_free (use := some (assign (.Name y py) X.env)) (Q := fun _ s' => SP X pins D .next s') rfl hs (closure_eq F) B.kind B.names
    (thn (hi pins s σ H _ I h) fun v s1 h1 => thn h1 fun itv s2 h2 => ?_)) (fun _ s' hq => wpAny_pure (wpAny_pure hq)) fun _ _ e => e)
  obtain ⟨it, fp, tn, J, H2, e, I2, T, st2, f2, q2⟩ := h2
  subst e
  refine comp_blockT (RR := fun acc C => compPost (model X.prog X.w) X.A X.xe (some (assign (.Name y py) X.env)) (fun _ s' => SP X pins D .next s') acc C) hc hg ht he (sub_clos F) B.kind B.cell (has_of B.cell) fo I2 T st2 f2 q2 ?_
  intro Dd C s' H' m hC Ix fC hn q
  obtain ⟨f0, f1, _, f3, f4, f5⟩ := fC
  show wpAny _ X.A (assign (.Name y py) X.env (.ref Dd)) _ _ _
  refine wpAny_assign_Name (store_ok2 Ix hN hiN (.inl hy) (v := .ref Dd) rfl (fun s3 I3 ⟨a, sb, ha⟩ => ?_) (.inr hy))
  have ne : C ≠ a := by
    rcases ha with ha | ha
    · rw [ha]; exact f1
    · exact fun z => f4 y a ha z.symm
  refine ⟨m, hn.sameBut sb ne, fun h' sb' => ⟨_, H', ?_, q⟩⟩
  exact I3.turned (t' := s3.toks) (fun b o hb e => (sb'.2 b hb).trans e) f0 f1 f3 f4 f5
end
end L2
set_option Elab.async false
set_option linter.all false
set_option maxRecDepth 100000
set_option maxHeartbeats 4000000
namespace L2
open PySem PySem.Spec PyProof.Rows
/-! ### a comprehension whose target is a name -/
section
variable {X : Cx} {pins : List (Addr × Obj)} {σ : St} {H : Hp} {s : Shared}
theorem cEnd.toT {J : It} {ix : List Nat} {tt : TT} {te : TE} {Q : VK} (h : cEnd J σ ix tt te H Q) : cEndT J 1 (gName 0) σ ix tt te H Q := fun D hD => by
  obtain ⟨W, h0, hs⟩ := h D hD
  refine ⟨W, h0, fun i m H hw => (hs i m H hw).imp id fun q => ⟨q.1, fun x H' y os ho => ?_⟩⟩
  match os, ho with
  | [_], _ => exact ⟨⟨[some x], rfl, rfl⟩, q.2 x H' y⟩
/-- more may be asked of an iterator -/
def moreI (wi : TI) : TI := fun σ H K => ∃ K0 : It → Hp → Prop, wi σ H K0 ∧ ∀ J H1, K0 J H1 → K J H1
theorem PI.more {tg iter : Expr} {wi : TI} (h : PI X tg iter wi) : PI X tg iter (moreI wi) := fun pins s σ H R I ⟨K0, hw, f⟩ =>
  wpAny_mono (h pins s σ H K0 I hw) (fun _ _ z => wpAny_mono z (fun _ _ ⟨it, fp, tn, J, H', a, b, c, d, e, r⟩ => ⟨it, fp, tn, J, H', a, b, c, d, e, f _ _ r⟩) fun _ _ z => z) fun _ _ z => z
theorem pe_comp {elt iter : Expr} {x : Str} {px : Pos} {ifs : List Expr} {scope : Scope} {pos : Pos} {wi : TI} {tt : TT} {te : TE} (ix : List Nat) (ys : List Str)
    (hc : X.calm = true) (hi : PI X (.Name x px) iter wi) (ht : ∀ C s H fp E, PTs (cxComp X (x :: ys) scope (closL X.env scope.names []) C s H fp E) ifs tt) (he : ∀ C s H fp E, PE (cxComp X (x :: ys) scope (closL X.env scope.names []) C s H fp E) elt te)
    (fo : FreeOk X scope ix ys) (hk : kindsOk X.env scope.names = true := by rfl) (hb : blockOk scope x = true := by rfl) (hnd : (x :: ys).Nodup := by decide +kernel)
    (hs : ∀ x, foldedSetIterable iter X.env x = pure x := by intro _; rfl) :
    PE X (.ListComp elt [⟨.Name x px, iter, ifs, 0⟩] scope pos) (tComp wi ix tt te) := by
  intro pins s σ H Q I h
  have hl : (relabel scope X.env).names.lookup x = some .local := lookup_relabel_local (block_of hb).own
  exact pe_compT [x] x (g := gName 0) ix ys hc (fun _ _ _ _ _ => pg_name (i := 0) hnd rfl (Or.inl hl) (Or.inr hl)) (PI.more hi) ht he fo hk hb hs pins s σ H Q I ⟨_, h, fun _ _ z => cEnd.toT z⟩
theorem ps_setComp {elt iter : Expr} {x y : Str} {px py : Pos} {ifs : List Expr} {scope : Scope} {pos spos : Pos} {wi : TI} {tt : TT} {te : TE} {i : Nat} (ix : List Nat) (ys : List Str)
    (hN : X.N.Nodup) (hiN : X.N[i]? = some y) (hy : X.env.scope.names.lookup y = some .local)
    (hc : X.calm = true) (hi : PI X (.Name x px) iter wi) (ht : ∀ C s H fp E, PTs (cxComp X (x :: ys) scope (closL X.env scope.names []) C s H fp E) ifs tt) (he : ∀ C s H fp E, PE (cxComp X (x :: ys) scope (closL X.env scope.names []) C s H fp E) elt te)
    (fo : FreeOk X scope ix ys)
    (hsw : swapsWith (.ListComp elt [⟨.Name x px, iter, ifs, 0⟩] scope pos) (some (.Name y py)) spos.line X.env = pure true := by rfl)
    (hk : kindsOk X.env scope.names = true := by rfl) (hb : blockOk scope x = true := by rfl) (hnd : (x :: ys).Nodup := by decide +kernel)
    (hs : ∀ x, foldedSetIterable iter X.env x = pure x := by intro _; rfl) :
    PS X (.Assign [.Name y py] (.ListComp elt [⟨.Name x px, iter, ifs, 0⟩] scope pos) spos) (tSetComp i (tComp wi ix tt te)) := by
  intro pins s σ H D I h
  have hl : (relabel scope X.env).names.lookup x = some .local := lookup_relabel_local (block_of hb).own
  exact ps_setCompT [x] x (g := gName 0) ix ys hN hiN hy hc (fun _ _ _ _ _ => pg_name (i := 0) hnd rfl (Or.inl hl) (Or.inr hl)) (PI.more hi) ht he fo hsw hk hb hs pins s σ H D I ⟨_, h, fun _ _ z => cEnd.toT z⟩
end
end L2
set_option Elab.async false
set_option linter.all false
set_option maxRecDepth 100000
set_option maxHeartbeats 4000000
namespace L2
open PySem PySem.Spec PyProof.Rows

section
variable {X : Cx}
/-! ### isinstance(x, T), T a built-in type's name -/
def rIsi (K : PySem.W.Frag) : List V → Hp → VK → Prop := fun xs H Q => ∃ x n t b, xs = [x, .ty n] ∧ TyOf K H x t ∧ PySem.W.kitOne K t (.type n) = some b ∧ Q (.bl b) H
theorem tw_isinst : CallR X (.builtin "isinstance") (rIsi X.K) := by
  intro pins s σ H xs us Q I r h
  obtain ⟨x, n, t, b, rfl, ty, e, q⟩ := h
  obtain ⟨u, w', rfl, rx, rn⟩ := vals2 r
  cases (show w' = Value.type n from rn)
  exact isinst_ok I rx ty e fun tk => ⟨.bl b, H, I.tok tk, rfl, q⟩
theorem kit_ib {K : PySem.W.Frag} : PySem.W.kitOne K (.type "int") (.type "bool") = some false := by kernel_rfl
theorem kit_ii {K : PySem.W.Frag} : PySem.W.kitOne K (.type "int") (.type "int") = some true := by kernel_rfl
theorem kit_si {K : PySem.W.Frag} : PySem.W.kitOne K (.type "str") (.type "int") = some false := by kernel_rfl
theorem kit_ti {K : PySem.W.Frag} : PySem.W.kitOne K (.type "tuple") (.type "int") = some false := by kernel_rfl
theorem kit_is' {K : PySem.W.Frag} : PySem.W.kitOne K (.type "int") (.type "str") = some false := by kernel_rfl
theorem kit_ss {K : PySem.W.Frag} : PySem.W.kitOne K (.type "str") (.type "str") = some true := by kernel_rfl
theorem kit_ts {K : PySem.W.Frag} : PySem.W.kitOne K (.type "tuple") (.type "str") = some false := by kernel_rfl
theorem kit_it {K : PySem.W.Frag} : PySem.W.kitOne K (.type "int") (.type "tuple") = some false := by kernel_rfl
theorem kit_st {K : PySem.W.Frag} : PySem.W.kitOne K (.type "str") (.type "tuple") = some false := by kernel_rfl
theorem kit_tt {K : PySem.W.Frag} : PySem.W.kitOne K (.type "tuple") (.type "tuple") = some true := by kernel_rfl
theorem tb_isinstance : bootBuiltins "isinstance" = some (.builtin "isinstance") := by decide +kernel
theorem tb_all : bootBuiltins "all" = some (.builtin "all") := by decide +kernel
theorem tb_max : bootBuiltins "max" = some (.builtin "max") := by decide +kernel
theorem tb_min : bootBuiltins "min" = some (.builtin "min") := by decide +kernel
theorem tb_abs : bootBuiltins "abs" = some (.builtin "abs") := by decide +kernel
theorem tb_len : bootBuiltins "len" = some (.builtin "len") := by decide +kernel
theorem tb_bool : bootBuiltins "bool" = some (.type "bool") := by decide +kernel
theorem tb_int : bootBuiltins "int" = some (.type "int") := by decide +kernel
theorem tb_str : bootBuiltins "str" = some (.type "str") := by decide +kernel
theorem tb_tuple : bootBuiltins "tuple" = some (.type "tuple") := by decide +kernel
theorem tb_list : bootBuiltins "list" = some (.type "list") := by decide +kernel

/-! ### operators -/
def CDivL (i j : Int) : Prop := 0 < j ∧ j.natAbs.log2 < 9000
theorem tw_fdiv : OpR X (binaryOp .FloorDiv) (rI CDivL fun i j => .int (i / j)) := opI fun i j _ _ _ _ _ hc q => by
  have h1 : (0 : Int) < j := hc.1
  exact floordiv_int (by omega) (by rw [Int.fdiv_eq_ediv_of_nonneg i (by omega)]; exact q) (.inl (PyProof.noPylong_of_log2 hc.2))

/-! ### xs.insert(i, y), 0 ≤ i -/
/-! ### all of a list of bools -/
theorem tw_all (hc : X.calm = true) : CallR X (.builtin "all") (fun xs H Q => ∃ (p : Addr) (bs : List Bool), xs = [.ref p] ∧ SqL X.K H p (bs.map V.bl) ∧ Q (.bl (bs.all id)) H) := by
  intro pins s σ H xs us Q I r h
  obtain ⟨p, bs, rfl, hq, q⟩ := h
  obtain ⟨u, rfl, rx⟩ := vals1 r
  cases rx
  obtain ⟨its, rv, pl, hz⟩ := I.list hq
  have hl := rv.length
  have hlt : p < s.heap.objs.size := by obtain ⟨_, e, _⟩ := pl.isList; exact Heap.lt_size e
  have hne : p ≠ s.heap.objs.size := Nat.ne_of_lt hlt
  have hh := I.ok.hd hc
  have tr : ∀ (i : Nat) (v : Value), its.toArray[i]? = some v → v = .bool (bs.getD i true) := fun i v hv => by
    have hv' : its[i]? = some v := by simpa using hv
    have hi : i < its.length := (List.getElem?_eq_some_iff.mp hv').1
    have hb : i < bs.length := by rw [List.length_map] at hl; omega
    obtain ⟨u, e1, e2⟩ := rv.get (i := i) (x := .bl bs[i]) (by rw [List.getElem?_map, List.getElem?_eq_getElem hb]; rfl)
    rw [hv'] at e1
    cases e1
    rw [show v = Value.bool bs[i] from e2, List.getD_eq_getElem?_getD, List.getElem?_eq_getElem hb]
    rfl
  refine call_all_walk (wpAny_pyIter_list pl.isList ?_)
  refine ⟨_, _, _, _, _, _, (fun i => bs.getD i true), rfl, Walks.list (A := X.A.in1) hh s.heap.objs.size p hne its.toArray, ⟨⟨_, Heap.get?_push_size _ rfl, rfl, rfl⟩, pl.isList.push _⟩, fun i v s' Q' E' hP hQ => ?_, fun h' tk hk => ?_⟩
  · rw [tr i v hP]
    exact wpAny_truthy_bool hQ
  · have e : (List.range its.toArray.size).all (fun i => bs.getD i true) = bs.all id := by
      rw [List.size_toArray, ← hl, List.length_map]
      have e2 : bs.all id = ((List.range bs.length).map fun i => bs.getD i true).all id := by rw [range_getD]
      rw [e2, List.all_map]
      rfl
    rw [e]
    refine ⟨.bl (bs.all id), H, I.kept (t' := tk) fun b o eb => hk b o ?_ (Heap.get?_push_of_some _ eb), rfl, q⟩
    intro hm
    exact absurd (Heap.lt_size eb) (by rw [List.mem_singleton.mp hm]; exact Nat.lt_irrefl _)
end

/-! ### max of a list of ints, with a default -/
section
variable {prog : Program} {w : World} {A : Around} {R : Result → Shared → Prop}
end
section
variable {X : Cx}
end

/-! ### the signs of a text -/
section
variable {X : Cx} {tg : Expr}
end

/-! ### the forms of a comprehension that one uses: D its list, after i items it holds ys -/
section
variable {σ : St} {H : Hp} {ix : List Nat} {te : TE} {Q : VK} {K : PySem.W.Frag}
theorem comp_map {J : It} {n : Nat} (item : Nat → V → Prop) (Pv : Addr → Nat → List V → Hp → Prop) (hn : n < sizeLine)
    (hgo : ∀ D i ys H, i < n → Pv D i ys H → J.go i H) (hy : ∀ D i ys H x H', i < n → Pv D i ys H → J.yld i H x H' → H' = H ∧ item i x) (hstop : ∀ D ys H, Pv D n ys H → J.stop n H)
    (h0 : ∀ D, H D = none → Pv D 0 [] (upd H D (.lst [])))
    (step : ∀ D i ys H x, H D = some (.lst ys) → ys.length ≤ i → i < n → item i x → Pv D i ys H → ∀ R : VK, (∀ y H3, H3 D = some (.lst ys) → Pv D (i + 1) (ys ++ [y]) (upd H3 D (.lst (ys ++ [y]))) → R y H3) → te (cSlots σ ix x) H R)
    (fin : ∀ D ys H, H D = some (.lst ys) → Pv D n ys H → Q (.ref D) H) : cEnd J σ ix tTrue te H Q := by
  intro D hD
  refine ⟨fun i m H => m = n - i ∧ i ≤ n ∧ ∃ ys, H D = some (.lst ys) ∧ ys.length ≤ i ∧ Pv D i ys H, ⟨n, rfl, Nat.zero_le _, [], upd_same, Nat.le_refl _, h0 D hD⟩, ?_⟩
  rintro i m H ⟨rfl, hi, ys, e, hl, p⟩
  by_cases hlt : i < n
  · refine .inr ⟨hgo D i ys H hlt p, fun x H' y => ?_⟩
    obtain ⟨rfl, it⟩ := hy D i ys H x H' hlt p y
    unfold tTrue
    dsimp only
    rw [if_pos rfl]
    refine step D i ys _ x e hl hlt it p _ fun y H3 e3 p3 => ?_
    exact ⟨ys, n - (i + 1), e3, by omega, by omega, rfl, hlt, ys ++ [y], upd_same, by rw [List.length_append, List.length_singleton]; omega, p3⟩
  · have e' : i = n := by omega
    subst e'
    exact .inl ⟨hstop D ys H p, fin D ys H e p⟩
end
end L2
set_option linter.all false
namespace Tw
open PySem

/-- a key, as a tree -/
inductive KT where
  | int (i : Int)
  | str (x : Str)
  | tup (l : List KT)

mutual
def KT.depth : KT → Nat
  | .int _ => 0
  | .str _ => 0
  | .tup l => 1 + depthL l
def depthL : List KT → Nat
  | [] => 0
  | t :: r => max t.depth (depthL r)
end
mutual
def KT.size : KT → Nat
  | .int _ => 1
  | .str _ => 1
  | .tup l => 1 + sizeL l
def sizeL : List KT → Nat
  | [] => 0
  | t :: r => t.size + sizeL r
end
def signOk (c : Nat) : Bool := decide (32 ≤ c) && decide (c ≤ 126)
def textOk (x : Str) : Bool := decide (x.length ≤ 40) && x.cps.toList.all signOk
mutual
def KT.fits : KT → Nat → Bool
  | .int i, _ => decide (i.natAbs < 10 ^ 60)
  | .str x, _ => textOk x
  | .tup l, r => decide (0 < r) && (decide (l.length ≤ 4) && fitsL l (r - 1))
def fitsL : List KT → Nat → Bool
  | [], _ => true
  | t :: l, r => t.fits r && fitsL l r
end

theorem fitsL_all (r : Nat) : ∀ l : List KT, fitsL l r = l.all fun t => t.fits r
  | [] => by simp [fitsL]
  | t :: l => by rw [fitsL, List.all_cons, fitsL_all r l]

mutual
theorem fits_depth : ∀ (t : KT) (r : Nat), t.fits r = true → t.depth ≤ r
  | .int _, r, _ => by rw [KT.depth]; exact Nat.zero_le _
  | .str _, r, _ => by rw [KT.depth]; exact Nat.zero_le _
  | .tup l, r, h => by
    rw [KT.fits, Bool.and_eq_true, Bool.and_eq_true] at h
    obtain ⟨h1, _, h3⟩ := h
    have h1' : 0 < r := of_decide_eq_true h1
    have := fitsL_depth l (r - 1) h3
    rw [KT.depth]
    omega
theorem fitsL_depth : ∀ (l : List KT) (r : Nat), fitsL l r = true → depthL l ≤ r
  | [], r, _ => by rw [depthL]; exact Nat.zero_le _
  | t :: l, r, h => by
    rw [fitsL, Bool.and_eq_true] at h
    have a := fits_depth t r h.1
    have b := fitsL_depth l r h.2
    rw [depthL]
    omega
end
def KT.things : KT → List KT
  | .tup l => l
  | _ => []
def below (l : List KT) : List KT := l.flatMap KT.things
end Tw
set_option Elab.async false
set_option linter.all false
set_option maxRecDepth 100000
set_option maxHeartbeats 4000000
namespace Tw
open PySem PySem.Spec L2

/-- a def of the text with its promise -/
structure DefOk (P : Program) (w : World) (K : PySem.W.Frag) (mg : Str → Option Value) (base : Heap) (k : Nat) (x : Str) (ps : List Str) (sp : Sp) : Prop where
  ex : ∃ f fd, FnOk P w K mg base CX0 k f fd ps sp ∧ Binds K fd ps [] ∧ PySem.W.keepIn K (.ref f) = true ∧ mg x = some (.ref f)
theorem pe_def {X : Cx} {k : Nat} {x : Str} {ps : List Str} {sp : Sp} {e : Expr} {es : List Expr} {t : TA} {p pos : Pos} (D : DefOk X.prog X.w X.K X.mg X.base k x ps sp) (hr : Room k X.A) (ha : PA X (e :: es) t) (hg : Gl X x := by rfl)
    (hdb : (x == ("__debug__" : Str)) = false := by decide) (he : starEach (e :: es) X.env = (false, eval e X.env) :: starEach es X.env := by rfl) (hpl : (backTo pos (starEach es X.env)).any (·.1) = false := by rfl) :
    PE X (.Call (.Name x p) (e :: es) [] pos) (tCall sp [] E0 t) := by
  obtain ⟨f, fd, F, b, kp, m⟩ := D.ex
  exact pe_call F hr hg m kp b .nil pass0 ha hdb he hpl

/-! ### keys on the heap -/
mutual
def KeyAt (H : Hp) : KT → V → Prop
  | .int i, v => v = .int i
  | .str x, v => v = .str x
  | .tup l, v => ∃ a vs, v = .ref a ∧ H a = some (.tup vs) ∧ KeysAt H l vs
def KeysAt (H : Hp) : List KT → List V → Prop
  | [], vs => vs = []
  | t :: l, vs => ∃ v r, vs = v :: r ∧ KeyAt H t v ∧ KeysAt H l r
end
/-- the tuples stay -/
def Tups (H H' : Hp) : Prop := ∀ b xs, H b = some (.tup xs) → H' b = some (.tup xs)
mutual
theorem KeyAt.mono {H H' : Hp} (m : Tups H H') : ∀ (t : KT) (v : V), KeyAt H t v → KeyAt H' t v
  | .int _, _, h => by rw [KeyAt] at h ⊢; exact h
  | .str _, _, h => by rw [KeyAt] at h ⊢; exact h
  | .tup l, _, h => by
    rw [KeyAt] at h ⊢
    obtain ⟨a, vs, e, h1, h2⟩ := h
    exact ⟨a, vs, e, m a vs h1, KeysAt.mono m l vs h2⟩
theorem KeysAt.mono {H H' : Hp} (m : Tups H H') : ∀ (l : List KT) (vs : List V), KeysAt H l vs → KeysAt H' l vs
  | [], _, h => by rw [KeysAt] at h ⊢; exact h
  | t :: l, _, h => by
    rw [KeysAt] at h ⊢
    obtain ⟨v, r, e, h1, h2⟩ := h
    exact ⟨v, r, e, KeyAt.mono m t v h1, KeysAt.mono m l r h2⟩
end
theorem KeysAt.nil {H : Hp} : KeysAt H [] [] := by rw [KeysAt]
theorem KeysAt.cons {H : Hp} {t : KT} {l : List KT} {v : V} {r : List V} (h : KeyAt H t v) (hr : KeysAt H l r) : KeysAt H (t :: l) (v :: r) := by
  rw [KeysAt]
  exact ⟨v, r, rfl, h, hr⟩
theorem KeyAt.tup {H : Hp} {a : Addr} {vs : List V} {l : List KT} (e : H a = some (.tup vs)) (h : KeysAt H l vs) : KeyAt H (.tup l) (.ref a) := by
  rw [KeyAt]
  exact ⟨a, vs, rfl, e, h⟩
theorem KeyAt.int {H : Hp} (i : Int) : KeyAt H (.int i) (.int i) := by rw [KeyAt]
theorem KeyAt.str {H : Hp} (x : Str) : KeyAt H (.str x) (.str x) := by rw [KeyAt]
theorem KeysAt.append {H : Hp} : ∀ {l m : List KT} {vs ws : List V}, KeysAt H l vs → KeysAt H m ws → KeysAt H (l ++ m) (vs ++ ws)
  | [], m, vs, ws, h, g => by rw [KeysAt] at h; subst h; exact g
  | t :: l, m, vs, ws, h, g => by
    rw [KeysAt] at h
    obtain ⟨v, r, rfl, h1, h2⟩ := h
    exact .cons h1 (h2.append g)
theorem KeysAt.length {H : Hp} : ∀ {l : List KT} {vs : List V}, KeysAt H l vs → l.length = vs.length
  | [], vs, h => by rw [KeysAt] at h; subst h; rfl
  | t :: l, vs, h => by
    rw [KeysAt] at h
    obtain ⟨v, r, rfl, _, h2⟩ := h
    rw [List.length_cons, List.length_cons, h2.length]
theorem KeysAt.get {H : Hp} : ∀ {l : List KT} {vs : List V} {i : Nat} {v : V}, KeysAt H l vs → vs[i]? = some v → ∃ t, l[i]? = some t ∧ KeyAt H t v
  | [], vs, i, v, h, e => by rw [KeysAt] at h; subst h; simp at e
  | t :: l, vs, 0, v, h, e => by
    rw [KeysAt] at h
    obtain ⟨v', r, rfl, h1, _⟩ := h
    simp at e
    subst e
    exact ⟨t, rfl, h1⟩
  | t :: l, vs, i + 1, v, h, e => by
    rw [KeysAt] at h
    obtain ⟨v', r, rfl, _, h2⟩ := h
    obtain ⟨t', e1, e2⟩ := h2.get (i := i) (by simpa using e)
    exact ⟨t', by simpa using e1, e2⟩
def KT.ty : KT → Value
  | .int _ => .type "int"
  | .str _ => .type "str"
  | .tup _ => .type "tuple"
theorem KeyAt.ty {H : Hp} {K : PySem.W.Frag} {t : KT} {v : V} (h : KeyAt H t v) : TyOf K H v t.ty := by
  cases t with
  | int i => rw [KeyAt] at h; subst h; exact .int i
  | str x => rw [KeyAt] at h; subst h; exact .str x
  | tup l => rw [KeyAt] at h; obtain ⟨a, vs, rfl, e, _⟩ := h; exact .tup e

/-! ### what stays -/
/-- all but p -/
def SameX (p : Addr) (H H' : Hp) : Prop := ∀ b o, H b = some o → b ≠ p → H' b = some o
theorem SameX.refl (p : Addr) (H : Hp) : SameX p H H := fun _ _ h _ => h
theorem SameX.trans {p : Addr} {H H1 H2 : Hp} (a : SameX p H H1) (b : SameX p H1 H2) : SameX p H H2 := fun c o h n => b c o (a c o h n) n
theorem SameX.upd {p : Addr} {H H' : Hp} {o : HO} (a : SameX p H H') : SameX p H (L2.upd H' p o) := fun c u h n => by rw [upd_ne n]; exact a c u h n
theorem SameX.of {p : Addr} {H H' : Hp} (a : Same H H') : SameX p H H' := fun c o h _ => a c o h
theorem SameX.tups {p : Addr} {H H' : Hp} {xs : List V} (a : SameX p H H') (h : H p = some (.lst xs)) : Tups H H' := fun b ys e => a b _ e (ne_of e h (by intro z; cases z))
theorem Same.tups {H H' : Hp} (a : Same H H') : Tups H H' := fun b ys e => a b _ e
theorem same_new {H : Hp} {p : Addr} (h : H p = none) (o : HO) : Same H (L2.upd H p o) := fun b u q => by rw [upd_ne (ne_of_none q h)]; exact q
/-! ### the well of draws: a list of four ints -/
structure WellAt (H : Hp) (p : Addr) : Prop where
  ex : ∃ a b c d : Int, H p = some (.lst [.int a, .int b, .int c, .int d]) ∧ 0 ≤ a ∧ a < 2147483647 ∧ 0 ≤ c ∧ 0 ≤ d
theorem WellAt.stay {H H' : Hp} {p q : Addr} (w : WellAt H p) (s : SameX q H H') (n : p ≠ q) : WellAt H' p := by
  obtain ⟨a, b, c, d, e, r⟩ := w.ex
  exact ⟨a, b, c, d, s p _ e n, r⟩
theorem WellAt.same {H H' : Hp} {p : Addr} (w : WellAt H p) (s : Same H H') : WellAt H' p := by
  obtain ⟨a, b, c, d, e, r⟩ := w.ex
  exact ⟨a, b, c, d, s p _ e, r⟩
theorem WellAt.some {H : Hp} {p : Addr} (w : WellAt H p) : ∃ xs, H p = Option.some (.lst xs) := by
  obtain ⟨a, b, c, d, e, r⟩ := w.ex
  exact ⟨_, e⟩
theorem SameX.tupsW {p : Addr} {H H' : Hp} (a : SameX p H H') (w : WellAt H p) : Tups H H' := by
  obtain ⟨xs, e⟩ := w.some
  exact a.tups e

/-! ### the promises -/
def small (m : Int) : Prop := 0 < m ∧ m.natAbs.log2 < 9000
def spWell (K : PySem.W.Frag) : Sp := fun vs H Q _ => ∃ (a : Addr) (ns : List Int) (k : Int), vs = [.ref a, .int k] ∧ SqL K H a (ns.map V.int) ∧ ns.length ≤ 63 ∧ 0 ≤ k ∧ k ≤ 1000 ∧
  ∀ (p : Addr) (H' : Hp), H p = none → Same H H' → WellAt H' p → Q (.ref p) H'
def spPull : Sp := fun vs H Q _ => ∃ (p : Addr) (m : Int), vs = [.ref p, .int m] ∧ WellAt H p ∧ small m ∧ ∀ (r : Int) (H' : Hp), 0 ≤ r → r < m → WellAt H' p → SameX p H H' → Q (.int r) H'
def spText : Sp := fun vs H Q _ => ∃ (p : Addr), vs = [.ref p] ∧ WellAt H p ∧ ∀ (x : Str) (H' : Hp), textOk x = true → WellAt H' p → SameX p H H' → Q (.str x) H'
def spKey (n : Nat) : Sp := fun vs H Q _ => ∃ (p : Addr) (r : Nat), vs = [.ref p, .int (r : Int)] ∧ WellAt H p ∧ r < n ∧ ∀ (v : V) (t : KT) (H' : Hp), KeyAt H' t v → t.fits r = true → WellAt H' p → SameX p H H' → Q v H'
def spLaw (K : PySem.W.Frag) : Sp := fun vs H Q _ => ∃ (a : Addr) (ns : List Int), vs = [.ref a] ∧ SqL K H a (ns.map V.int) ∧ ns.length ≤ 63 ∧ ∀ H', Q (.bl true) H'

/-! ### small facts -/
theorem nn {n : Nat} (h : n ≤ 1000) : n ≤ sizeLine := Nat.le_of_lt (small1000 h)
theorem at2 {x y : V} {i : Int} (h0 : 0 ≤ i) (h1 : i < 2) : ∃ v, atI [x, y] i = some v ∧ (v = x ∨ v = y) := by
  rcases (show i = 0 ∨ i = 1 by omega) with e | e
  · subst e; exact ⟨x, rfl, .inl rfl⟩
  · subst e; exact ⟨y, rfl, .inr rfl⟩
theorem atI_in {α : Type} {xs : List α} {i : Int} (h0 : 0 ≤ i) (h1 : i < (xs.length : Int)) : ∃ v, atI xs i = some v ∧ v ∈ xs := by
  have hk : i.toNat < xs.length := by omega
  have e : i = ((i.toNat : Nat) : Int) := by omega
  rw [e]
  exact ⟨xs[i.toNat], atI_nat (List.getElem?_eq_getElem hk), List.getElem_mem hk⟩
theorem small_lit {m : Int} (h0 : 0 < m) (h1 : m.natAbs < 2 ^ 250) : small m := by
  refine ⟨h0, ?_⟩
  have : m.natAbs.log2 < 250 := (Nat.log2_lt (by omega)).mpr h1
  omega
theorem vint_inj {i j : Int} (h : V.int i = V.int j) : i = j := by injection h
end Tw
set_option linter.all false
namespace Tw
open PySem

/-! ### keys alike; Python's own order; the keys' order -/
mutual
def KT.eqb : KT → KT → Bool
  | .int i, .int j => i == j
  | .str x, .str y => x == y
  | .tup l, .tup m => eqbL l m
  | _, _ => false
def eqbL : List KT → List KT → Bool
  | [], [] => true
  | a :: l, b :: m => a.eqb b && eqbL l m
  | _, _ => false
end
mutual
def KT.plt : KT → KT → Bool
  | .int i, .int j => decide (i < j)
  | .str x, .str y => decide (x.cps.toList < y.cps.toList)
  | .tup l, .tup m => pltL l m
  | _, _ => false
def pltL : List KT → List KT → Bool
  | [], [] => false
  | [], _ :: _ => true
  | _ :: _, [] => false
  | a :: l, b :: m => if a.eqb b = true then pltL l m else a.plt b
end
mutual
def KT.cmp : KT → KT → Bool
  | .int _, .int _ => true
  | .str _, .str _ => true
  | .tup l, .tup m => cmpL l m
  | _, _ => false
def cmpL : List KT → List KT → Bool
  | [], _ => true
  | _ :: _, [] => true
  | a :: l, b :: m => if a.eqb b = true then cmpL l m else a.cmp b
end
def KT.kind : KT → Nat
  | .int _ => 0
  | .str _ => 1
  | .tup _ => 2
mutual
def KT.lt : KT → KT → Bool
  | .int i, .int j => decide (i < j)
  | .int _, .str _ => true
  | .int _, .tup _ => true
  | .str _, .int _ => false
  | .str x, .str y => decide (x.cps.toList < y.cps.toList)
  | .str _, .tup _ => true
  | .tup _, .int _ => false
  | .tup _, .str _ => false
  | .tup l, .tup m => ltL l m
def ltL : List KT → List KT → Bool
  | [], [] => false
  | [], _ :: _ => true
  | _ :: _, [] => false
  | a :: l, b :: m => if a.eqb b = true then ltL l m else a.lt b
end
mutual
def KT.st : KT → KT
  | .int i => .tup [.int 0, .int i]
  | .str x => .tup [.int 1, .str x]
  | .tup l => .tup [.int 2, .tup (stL l)]
def stL : List KT → List KT
  | [] => []
  | t :: l => t.st :: stL l
end
theorem stL_map : ∀ l : List KT, stL l = l.map KT.st
  | [] => by rw [stL]; rfl
  | t :: l => by rw [stL, stL_map l]; rfl

mutual
theorem eqb_eq : ∀ (a b : KT), a.eqb b = true → a = b
  | .int i, .int j, h => by rw [KT.eqb] at h; rw [eq_of_beq h]
  | .str x, .str y, h => by rw [KT.eqb] at h; rw [eq_of_beq h]
  | .tup l, .tup m, h => by rw [KT.eqb] at h; rw [eqbL_eq l m h]
  | .int _, .str _, h => by simp [KT.eqb] at h
  | .int _, .tup _, h => by simp [KT.eqb] at h
  | .str _, .int _, h => by simp [KT.eqb] at h
  | .str _, .tup _, h => by simp [KT.eqb] at h
  | .tup _, .int _, h => by simp [KT.eqb] at h
  | .tup _, .str _, h => by simp [KT.eqb] at h
theorem eqbL_eq : ∀ (l m : List KT), eqbL l m = true → l = m
  | [], [], _ => rfl
  | a :: l, b :: m, h => by
    rw [eqbL, Bool.and_eq_true] at h
    rw [eqb_eq a b h.1, eqbL_eq l m h.2]
  | [], _ :: _, h => by simp [eqbL] at h
  | _ :: _, [], h => by simp [eqbL] at h
end
mutual
theorem eqb_self : ∀ a : KT, a.eqb a = true
  | .int i => by rw [KT.eqb]; exact beq_self_eq_true i
  | .str x => by rw [KT.eqb]; exact beq_self_eq_true x
  | .tup l => by rw [KT.eqb]; exact eqbL_self l
theorem eqbL_self : ∀ l : List KT, eqbL l l = true
  | [] => by rw [eqbL]
  | a :: l => by rw [eqbL, eqb_self a, eqbL_self l]; rfl
end
theorem eqb_iff {a b : KT} : a.eqb b = true ↔ a = b := ⟨eqb_eq a b, fun e => by rw [e]; exact eqb_self b⟩

mutual
theorem eqb_st : ∀ a b : KT, a.st.eqb b.st = a.eqb b
  | .int i, .int j => by simp [KT.st, KT.eqb, eqbL]
  | .str x, .str y => by simp [KT.st, KT.eqb, eqbL]
  | .tup l, .tup m => by simp [KT.st, KT.eqb, eqbL, eqbL_st l m]
  | .int _, .str _ => by simp [KT.st, KT.eqb, eqbL]
  | .int _, .tup _ => by simp [KT.st, KT.eqb, eqbL]
  | .str _, .int _ => by simp [KT.st, KT.eqb, eqbL]
  | .str _, .tup _ => by simp [KT.st, KT.eqb, eqbL]
  | .tup _, .int _ => by simp [KT.st, KT.eqb, eqbL]
  | .tup _, .str _ => by simp [KT.st, KT.eqb, eqbL]
theorem eqbL_st : ∀ l m : List KT, eqbL (stL l) (stL m) = eqbL l m
  | [], [] => by simp [stL, eqbL]
  | a :: l, b :: m => by simp [stL, eqbL, eqb_st a b, eqbL_st l m]
  | [], _ :: _ => by simp [stL, eqbL]
  | _ :: _, [] => by simp [stL, eqbL]
end
theorem ltL_self : ∀ l : List KT, ltL l l = false
  | [] => by rw [ltL]
  | a :: l => by rw [ltL, eqb_self a, if_pos rfl, ltL_self l]
theorem ltL_eqb {l m : List KT} (h : eqbL l m = true) : ltL l m = false := by
  rw [eqbL_eq l m h]; exact ltL_self m

mutual
theorem cmp_st : ∀ a b : KT, a.st.cmp b.st = true
  | .int i, .int j => by simp [KT.st, KT.eqb, KT.cmp, cmpL]
  | .str x, .str y => by simp [KT.st, KT.eqb, KT.cmp, cmpL]
  | .tup l, .tup m => by simp [KT.st, KT.eqb, KT.cmp, cmpL, cmpL_st l m]
  | .int _, .str _ => by simp [KT.st, KT.eqb, KT.cmp, cmpL]
  | .int _, .tup _ => by simp [KT.st, KT.eqb, KT.cmp, cmpL]
  | .str _, .int _ => by simp [KT.st, KT.eqb, KT.cmp, cmpL]
  | .str _, .tup _ => by simp [KT.st, KT.eqb, KT.cmp, cmpL]
  | .tup _, .int _ => by simp [KT.st, KT.eqb, KT.cmp, cmpL]
  | .tup _, .str _ => by simp [KT.st, KT.eqb, KT.cmp, cmpL]
theorem cmpL_st : ∀ l m : List KT, cmpL (stL l) (stL m) = true
  | [], _ => by simp [stL, cmpL]
  | _ :: _, [] => by simp [stL, cmpL]
  | a :: l, b :: m => by
    rw [stL, stL, cmpL, cmpL_st l m, cmp_st a b]
    split <;> rfl
end
mutual
theorem plt_st : ∀ a b : KT, a.st.plt b.st = a.lt b
  | .int i, .int j => by
    simp only [KT.st, KT.eqb, KT.plt, pltL, KT.lt, beq_self_eq_true, if_true]
    by_cases h : i = j
    · subst h; simp
    · simp [h]
  | .str x, .str y => by
    simp only [KT.st, KT.eqb, KT.plt, pltL, KT.lt, beq_self_eq_true, if_true]
    by_cases h : x = y
    · subst h; simp
    · simp [h]
  | .tup l, .tup m => by
    simp only [KT.st, KT.eqb, KT.plt, pltL, KT.lt, beq_self_eq_true, if_true, eqbL_st, pltL_st l m]
    cases h : eqbL l m with
    | true => rw [if_pos rfl, ltL_eqb h]
    | false => rw [if_neg Bool.false_ne_true]
  | .int _, .str _ => by simp [KT.st, KT.eqb, KT.plt, pltL, KT.lt]
  | .int _, .tup _ => by simp [KT.st, KT.eqb, KT.plt, pltL, KT.lt]
  | .str _, .int _ => by simp [KT.st, KT.eqb, KT.plt, pltL, KT.lt]
  | .str _, .tup _ => by simp [KT.st, KT.eqb, KT.plt, pltL, KT.lt]
  | .tup _, .int _ => by simp [KT.st, KT.eqb, KT.plt, pltL, KT.lt]
  | .tup _, .str _ => by simp [KT.st, KT.eqb, KT.plt, pltL, KT.lt]
theorem pltL_st : ∀ l m : List KT, pltL (stL l) (stL m) = ltL l m
  | [], [] => by simp [stL, pltL, ltL]
  | [], _ :: _ => by simp [stL, pltL, ltL]
  | _ :: _, [] => by simp [stL, pltL, ltL]
  | a :: l, b :: m => by rw [stL, stL, pltL, ltL, eqb_st a b, pltL_st l m, plt_st a b]
end
mutual
theorem depth_st : ∀ t : KT, t.st.depth ≤ 2 * t.depth + 1
  | .int i => by simp [KT.st, KT.depth, depthL]
  | .str x => by simp [KT.st, KT.depth, depthL]
  | .tup l => by
    have := depthL_st l
    simp only [KT.st, KT.depth, depthL]
    omega
theorem depthL_st : ∀ l : List KT, depthL (stL l) ≤ 2 * depthL l + 1
  | [] => by simp [stL, depthL]
  | t :: l => by
    have a := depth_st t
    have b := depthL_st l
    rw [stL, depthL, depthL]
    omega
end

/-! ### the laws' own way, from place to place -/
/-! ### keys near one another -/
end Tw
set_option Elab.async false
set_option linter.all false
set_option maxRecDepth 100000
set_option maxHeartbeats 4000000
namespace Tw
open PySem PySem.Spec L2 PyProof.Rows

/-! ### keys as values -/
mutual
def KVal (h : Heap) : KT → Value → Prop
  | .int i, v => ∃ t, v = .int i t
  | .str x, v => ∃ t, v = .str x t
  | .tup l, v => ∃ (a : Addr) (its : List Value), v = .ref a ∧ IsTup h a its.toArray ∧ KVals h l its
def KVals (h : Heap) : List KT → List Value → Prop
  | [], vs => vs = []
  | t :: l, vs => ∃ v r, vs = v :: r ∧ KVal h t v ∧ KVals h l r
end
section
variable {X : Cx} {pins : List (Addr × Obj)} {σ : L2.St} {H : Hp} {s : Shared}
mutual
theorem kval_of (I : Inv X pins σ H s) : ∀ (t : KT) (x : V) (v : Value), KeyAt H t x → RelV x v → KVal s.heap t v
  | .int i, x, v, h, r => by
    rw [KeyAt] at h
    subst h
    rw [KVal]
    exact r
  | .str y, x, v, h, r => by
    rw [KeyAt] at h
    subst h
    rw [KVal]
    exact r
  | .tup l, x, v, h, r => by
    rw [KeyAt] at h
    obtain ⟨a, vs, rfl, e, hk⟩ := h
    obtain ⟨its, rv, pl, _⟩ := I.tuple (SqT.of e)
    rw [KVal]
    exact ⟨a, its, r, pl, kvals_of I l vs its hk rv⟩
theorem kvals_of (I : Inv X pins σ H s) : ∀ (l : List KT) (vs : List V) (us : List Value), KeysAt H l vs → Vals vs us → KVals s.heap l us
  | [], vs, us, h, r => by
    rw [KeysAt] at h
    subst h
    rw [KVals]
    cases r
    rfl
  | t :: l, vs, us, h, r => by
    rw [KeysAt] at h
    obtain ⟨v, q, rfl, h1, h2⟩ := h
    cases r with
    | cons r1 r2 =>
      rw [KVals]
      exact ⟨_, _, rfl, kval_of I t v _ h1 r1, kvals_of I l q _ h2 r2⟩
end
end
theorem isTup_inj {h : Heap} {a : Addr} {its its' : List Value} (x : IsTup h a its.toArray) (y : IsTup h a its'.toArray) : its = its' := by
  obtain ⟨o, e, _, n, d⟩ := x
  obtain ⟨o', e', _, n', d'⟩ := y
  rw [e] at e'
  cases e'
  rw [d] at d'
  injection d' with d1 _
  simpa using congrArg Array.toList d1
mutual
theorem KVal.inj {h : Heap} : ∀ (a b : KT) (v : Value), KVal h a v → KVal h b v → a.eqb b = true
  | .int i, b, v, x, y => by
    rw [KVal] at x
    obtain ⟨t, rfl⟩ := x
    cases b with
    | int j => rw [KVal] at y; obtain ⟨u, e⟩ := y; injection e with e _; rw [KT.eqb, e]; exact beq_self_eq_true j
    | str z => rw [KVal] at y; obtain ⟨u, e⟩ := y; cases e
    | tup m => rw [KVal] at y; obtain ⟨_, _, e, _⟩ := y; cases e
  | .str w, b, v, x, y => by
    rw [KVal] at x
    obtain ⟨t, rfl⟩ := x
    cases b with
    | int j => rw [KVal] at y; obtain ⟨u, e⟩ := y; cases e
    | str z => rw [KVal] at y; obtain ⟨u, e⟩ := y; injection e with e _; rw [KT.eqb, e]; exact beq_self_eq_true z
    | tup m => rw [KVal] at y; obtain ⟨_, _, e, _⟩ := y; cases e
  | .tup l, b, v, x, y => by
    rw [KVal] at x
    obtain ⟨p, its, rfl, px, kx⟩ := x
    cases b with
    | int j => rw [KVal] at y; obtain ⟨u, e⟩ := y; cases e
    | str z => rw [KVal] at y; obtain ⟨u, e⟩ := y; cases e
    | tup m =>
      rw [KVal] at y
      obtain ⟨q, its', e, py, ky⟩ := y
      cases e
      cases isTup_inj px py
      rw [KT.eqb]
      exact KVals.inj l m its kx ky
theorem KVals.inj {h : Heap} : ∀ (l m : List KT) (us : List Value), KVals h l us → KVals h m us → eqbL l m = true
  | [], m, us, x, y => by
    rw [KVals] at x
    subst x
    cases m with
    | nil => rw [eqbL]
    | cons b m => rw [KVals] at y; obtain ⟨_, _, e, _⟩ := y; cases e
  | a :: l, m, us, x, y => by
    rw [KVals] at x
    obtain ⟨v, r, rfl, x1, x2⟩ := x
    cases m with
    | nil => rw [KVals] at y; cases y
    | cons b m =>
      rw [KVals] at y
      obtain ⟨v', r', e, y1, y2⟩ := y
      injection e with e1 e2
      subst e1 e2
      rw [eqbL, KVal.inj a b v x1 y1, KVals.inj l m r x2 y2]
      rfl
end
theorem KVals.length {h : Heap} : ∀ {l : List KT} {us : List Value}, KVals h l us → l.length = us.length
  | [], us, x => by rw [KVals] at x; subst x; rfl
  | a :: l, us, x => by
    rw [KVals] at x
    obtain ⟨v, r, rfl, _, x2⟩ := x
    rw [List.length_cons, List.length_cons, x2.length]
theorem KVals.get {h : Heap} : ∀ {l : List KT} {us : List Value} {j : Nat} {u : Value}, KVals h l us → us[j]? = some u → ∃ t, l[j]? = some t ∧ KVal h t u
  | [], us, j, u, x, e => by rw [KVals] at x; subst x; simp at e
  | a :: l, us, 0, u, x, e => by
    rw [KVals] at x
    obtain ⟨v, r, rfl, x1, _⟩ := x
    simp at e
    subst e
    exact ⟨a, rfl, x1⟩
  | a :: l, us, j + 1, u, x, e => by
    rw [KVals] at x
    obtain ⟨v, r, rfl, _, x2⟩ := x
    obtain ⟨t, e1, e2⟩ := x2.get (j := j) (by simpa using e)
    exact ⟨t, by simpa using e1, e2⟩
theorem depth_in : ∀ {l : List KT} {t : KT}, t ∈ l → t.depth ≤ depthL l
  | [], _, h => by cases h
  | u :: l, t, h => by
    rw [depthL]
    rcases List.mem_cons.mp h with e | h
    · subst e; omega
    · have := depth_in h; omega
theorem eqbL_range : ∀ (l m : List KT), ((List.range (min l.length m.length)).all (fun j => (l.getD j (.int 0)).eqb (m.getD j (.int 0))) && l.length == m.length) = eqbL l m
  | [], [] => by simp [eqbL]
  | [], _ :: _ => by simp [eqbL]
  | _ :: _, [] => by simp [eqbL]
  | a :: l, b :: m => by
    have ih := eqbL_range l m
    have e : min (a :: l).length (b :: m).length = min l.length m.length + 1 := by simp only [List.length_cons]; omega
    rw [e, List.range_succ_eq_map, List.all_cons, List.all_map, eqbL, ← ih, Bool.and_assoc]
    simp [Function.comp_def]

/-! ### == -/
theorem eqAt_key {s : Shared} : ∀ (n : Nat) (a b : KT) (A : Around) (v u : Value), a.depth ≤ n → KVal s.heap a v → KVal s.heap b u → A.units + a.depth < cLine → SeqAt.EqAt A s v u (a.eqb b)
  | n, .int i, b, A, v, u, _, x, y, hu => by
    rw [KVal] at x
    obtain ⟨t, rfl⟩ := x
    have hu' : A.units < cLine := by omega
    cases b with
    | int j => rw [KVal] at y; obtain ⟨t', rfl⟩ := y; rw [KT.eqb]; exact SeqAt.EqAt.int_int i t j t'
    | str z => rw [KVal] at y; obtain ⟨t', rfl⟩ := y; rw [show (KT.int i).eqb (.str z) = false by simp [KT.eqb]]; exact SeqAt.EqAt.int_str i t z t'
    | tup m => rw [KVal] at y; obtain ⟨p, its, rfl, py, _⟩ := y; rw [show (KT.int i).eqb (.tup m) = false by simp [KT.eqb]]; exact SeqAt.EqAt.int_tuple i t py hu'
  | n, .str w, b, A, v, u, _, x, y, hu => by
    rw [KVal] at x
    obtain ⟨t, rfl⟩ := x
    have hu' : A.units < cLine := by omega
    cases b with
    | int j => rw [KVal] at y; obtain ⟨t', rfl⟩ := y; rw [show (KT.str w).eqb (.int j) = false by simp [KT.eqb]]; exact SeqAt.EqAt.str_int w t j t'
    | str z => rw [KVal] at y; obtain ⟨t', rfl⟩ := y; rw [KT.eqb]; exact SeqAt.EqAt.str_str w t z t'
    | tup m => rw [KVal] at y; obtain ⟨p, its, rfl, py, _⟩ := y; rw [show (KT.str w).eqb (.tup m) = false by simp [KT.eqb]]; exact SeqAt.EqAt.str_tuple w t py hu'
  | 0, .tup l, b, A, v, u, hn, x, y, hu => by
    rw [KT.depth] at hn
    omega
  | n + 1, .tup l, b, A, v, u, hn, x, y, hu => by
    have x' := x
    rw [KVal] at x
    obtain ⟨p, its, rfl, px, kx⟩ := x
    rw [KT.depth] at hn hu
    have hu' : A.units < cLine := by omega
    cases b with
    | int j => rw [KVal] at y; obtain ⟨t', rfl⟩ := y; rw [show (KT.tup l).eqb (.int j) = false by simp [KT.eqb]]; exact SeqAt.EqAt.tuple_int j t' px hu'
    | str z => rw [KVal] at y; obtain ⟨t', rfl⟩ := y; rw [show (KT.tup l).eqb (.str z) = false by simp [KT.eqb]]; exact SeqAt.EqAt.tuple_str z t' px hu'
    | tup m =>
      have y' := y
      rw [KVal] at y
      obtain ⟨q, its', rfl, py, ky⟩ := y
      by_cases hpq : p = q
      · subst hpq
        rw [KVal.inj _ _ _ x' y']
        exact SeqAt.EqAt.same _
      · have lx := kx.length
        have ly := ky.length
        have rc := SeqAt.RcAt.tuples (A := A) (s := s) (e := fun j => (l.getD j (.int 0)).eqb (m.getD j (.int 0))) px py hu' (fun j h1 h2 => by
          have h1' : j < its.length := by simpa using h1
          have h2' : j < its'.length := by simpa using h2
          obtain ⟨t1, e1, k1⟩ := kx.get (j := j) (u := its[j]) (by simp [h1'])
          obtain ⟨t2, e2, k2⟩ := ky.get (j := j) (u := its'[j]) (by simp [h2'])
          have d1 := depth_in (List.mem_of_getElem? e1)
          have g1 : l.getD j (.int 0) = t1 := by rw [List.getD_eq_getElem?_getD, e1]; rfl
          have g2 : m.getD j (.int 0) = t2 := by rw [List.getD_eq_getElem?_getD, e2]; rfl
          have := eqAt_key n t1 t2 A.in1 its[j] its'[j] (by omega) k1 k2 (by show A.units + 1 + t1.depth < cLine; omega)
          show SeqAt.EqAt A.in1 s _ _ ((l.getD j (.int 0)).eqb (m.getD j (.int 0)))
          rw [g1, g2]
          simpa using this)
        have er : ((List.range (min its.toArray.size its'.toArray.size)).all (fun j => (l.getD j (.int 0)).eqb (m.getD j (.int 0))) && its.toArray.size == its'.toArray.size) = (KT.tup l).eqb (.tup m) := by
          rw [List.size_toArray, List.size_toArray, ← lx, ← ly, KT.eqb]
          exact eqbL_range l m
        rw [er] at rc
        exact .of_refs hpq rc
/-! ### < -/
def LtAt (A : Around) (s : Shared) (v u : Value) (b : Bool) : Prop :=
  ∀ (prog : Program) (w : World) (E : Value → Shared → Prop) (Q : Value → Shared → Prop), Q (.bool b) s → wpAny (model prog w) A (richCompare .Lt v u) Q E s
section
open PySem.SeqAt
open PySem.AutoSeq1 (wpAny_loadPart')
open PySem.MeetsSeq PySem.MeetsSeq2 PySem.MeetsSeq3
theorem tuple_lt_keys (l b : Addr) (items items2 : Array Value) (n n2 : Nat) (dd dd2 : Option Addr) (sl sl2 : Array (Option Value)) (ts us : List KT) :
    Meets (Builtin.«tuple.__lt__» ⟨[.ref l, .ref b], []⟩)
      (fun A R s => s.heap.get? l = some { cls := .type "tuple", dict := dd, data := .seq items n, slots := sl } ∧ s.heap.get? b = some { cls := .type "tuple", dict := dd2, data := .seq items2 n2, slots := sl2 } ∧
        KVals s.heap ts items.toList ∧ KVals s.heap us items2.toList ∧ cmpL ts us = true ∧
        (∀ x y v u, x ∈ ts → KVal s.heap x v → KVal s.heap y u → EqAt A.in1 s v u (x.eqb y)) ∧ (∀ x y v u, x ∈ ts → KVal s.heap x v → KVal s.heap y u → x.cmp y = true → LtAt A.in1 s v u (x.plt y)) ∧
        R (.ok (.ret (.bool (pltL ts us)))) s) :=
  .of_wp fun prog w A R s h => by
    obtain ⟨hp, g, d, tk, os⟩ := s; obtain ⟨hl, hb, hi, hj, hc, hE, hL, h⟩ := h
    have f2 := AutoSeq1.sub_tuple_tuple
    have z1 : items.size = ts.length := by rw [hi.length]; simp
    have z2 : items2.size = us.length := by rw [hj.length]; simp
    wp_walk using wpAny_loadPart' hl, wpAny_loadPart' hb, wpAny_forIn_list _ (fun rest b s' => b.1 = none ∧ s' = ⟨hp, g, d, tk, os⟩ ∧ ∃ (vs ws : List Value) (ts' us' : List KT), rest = vs.zip ws ∧
      KVals hp ts' vs ∧ KVals hp us' ws ∧ (∀ x ∈ ts', x ∈ ts) ∧ cmpL ts' us' = true ∧ ts'.length + items2.size = us'.length + items.size ∧ R (.ok (.ret (.bool (pltL ts' us')))) ⟨hp, g, d, tk, os⟩) _
    case turn =>
      rintro ⟨y, x⟩ rest b s' ⟨hb', rfl, vs, ws, ts', us', hz, hvi, hwi, hin, hcm, hlen, hR⟩
      cases ts' with
      | nil => rw [KVals] at hvi; subst hvi; rw [List.zip_nil_left] at hz; cases hz
      | cons a ts' =>
        cases us' with
        | nil => rw [KVals] at hwi; subst hwi; rw [List.zip_nil_right] at hz; cases hz
        | cons c us' =>
          rw [KVals] at hvi hwi
          obtain ⟨v, vr, rfl, ka, hvi'⟩ := hvi
          obtain ⟨u, ur, rfl, kc, hwi'⟩ := hwi
          rw [List.zip_cons_cons] at hz
          injection hz with hyx hrest
          injection hyx with hy hx
          subst hy hx
          rw [pltL] at hR
          rw [cmpL] at hcm
          simp only [List.length_cons] at hlen
          have he := hE a c y x (hin a List.mem_cons_self) ka kc
          refine wpAny_bind (he prog w _ _ ?_)
          cases hq : a.eqb c with
          | true =>
            rw [hq, if_pos rfl] at hR hcm
            wp_walk
            exact ⟨rfl, rfl, _, _, _, _, hrest, hvi', hwi', fun z hz => hin z (List.mem_cons_of_mem _ hz), hcm, by omega, hR⟩
          | false =>
            rw [hq, if_neg Bool.false_ne_true] at hR hcm
            have hri := hL a c y x (hin a List.mem_cons_self) ka kc hcm prog w
            wp_walk using hri
            exact ⟨_, rfl, by simpa using hR⟩
    case fin =>
      rintro ⟨b1, b2⟩ s' ⟨hb', rfl, vs, ws, ts', us', hz, hvi, hwi, hin, hcm, hlen, hR⟩
      simp only at hb'
      subst hb'
      have hv : pltL ts' us' = decide (items.size < items2.size) := by
        cases ts' with
        | nil =>
          cases us' with
          | nil =>
            simp only [List.length_nil] at hlen
            rw [pltL]
            exact (decide_eq_false (by omega)).symm
          | cons c us' =>
            simp only [List.length_nil, List.length_cons] at hlen
            rw [pltL]
            exact (decide_eq_true (by omega)).symm
        | cons a ts' =>
          cases us' with
          | nil =>
            simp only [List.length_nil, List.length_cons] at hlen
            rw [pltL]
            exact (decide_eq_false (by omega)).symm
          | cons c us' =>
            rw [KVals] at hvi hwi
            obtain ⟨v, vr, rfl, _, _⟩ := hvi
            obtain ⟨u, ur, rfl, _, _⟩ := hwi
            rw [List.zip_cons_cons] at hz
            cases hz
      rw [hv] at hR
      wp_walk
      exact ⟨_, rfl, by simpa [Builtin.Tuple.tupleCompareSizes] using hR⟩
    case h =>
      exact ⟨rfl, rfl, items.toList, items2.toList, ts, us, rfl, hi, hj, fun _ hx => hx, hc, by omega, h⟩
end
theorem ltAt_key {s : Shared} : ∀ (n : Nat) (a b : KT) (A : Around) (v u : Value), a.depth ≤ n → KVal s.heap a v → KVal s.heap b u → a.cmp b = true → A.units + a.depth < cLine → LtAt A s v u (a.plt b)
  | n, .int i, b, A, v, u, _, x, y, hc, hu => by
    rw [KVal] at x
    obtain ⟨t, rfl⟩ := x
    cases b with
    | int j => rw [KVal] at y; obtain ⟨t', rfl⟩ := y; rw [KT.plt]; exact fun prog w E Q h => HT.rcLt_int A s i t j t' prog w E Q h
    | str z => simp [KT.cmp] at hc
    | tup m => simp [KT.cmp] at hc
  | n, .str w, b, A, v, u, _, x, y, hc, hu => by
    rw [KVal] at x
    obtain ⟨t, rfl⟩ := x
    cases b with
    | int j => simp [KT.cmp] at hc
    | str z => rw [KVal] at y; obtain ⟨t', rfl⟩ := y; rw [KT.plt]; exact fun prog w' E Q h => (lt_str h : wpAny (model prog w') A (compareOp .Lt (.str w t) (.str z t')) Q E s)
    | tup m => simp [KT.cmp] at hc
  | 0, .tup l, b, A, v, u, hn, x, y, hc, hu => by
    rw [KT.depth] at hn
    omega
  | n + 1, .tup l, b, A, v, u, hn, x, y, hc, hu => by
    rw [KVal] at x
    obtain ⟨p, its, rfl, px, kx⟩ := x
    rw [KT.depth] at hn hu
    have hu' : A.units < cLine := by omega
    cases b with
    | int j => simp [KT.cmp] at hc
    | str z => simp [KT.cmp] at hc
    | tup m =>
      rw [KVal] at y
      obtain ⟨q, its', rfl, py, ky⟩ := y
      rw [KT.cmp] at hc
      rw [KT.plt]
      intro prog w E Q h
      obtain ⟨⟨cls, dd, data, sl⟩, ho, hcl, nn1, hd⟩ := id px
      obtain ⟨⟨cls2, dd2, data2, sl2⟩, ho2, hcl2, nn2, hd2⟩ := id py
      simp only at hcl hd hcl2 hd2
      subst hcl hd hcl2 hd2
      refine richCompare_meets_room (op := .Lt) ⟨_, ho, rfl⟩ ⟨_, ho2, rfl⟩ PySem.F.slot_tuple_lt PySem.F.entry_tuple_lt (PySem.F.args_tuple_lt_2 _ _) (tuple_lt_keys p q its.toArray its'.toArray nn1 nn2 dd dd2 sl sl2 l m)
        ⟨ho, ho2, kx, ky, hc, fun x y v u hx k1 k2 => ?_, fun x y v u hx k1 k2 k3 => ?_, show Value.bool (pltL l m) ≠ Value.notImplemented ∧ Q (.bool (pltL l m)) s from ⟨(fun x => nomatch x), h⟩⟩ hu'
      · have d1 := depth_in hx
        exact eqAt_key x.depth x y A.in1 v u (Nat.le_refl _) k1 k2 (by show A.units + 1 + x.depth < cLine; omega)
      · have d1 := depth_in hx
        exact ltAt_key n x y A.in1 v u (by omega) k1 k2 k3 (by show A.units + 1 + x.depth < cLine; omega)

section
variable {X : Cx}
theorem Room.key {k : Nat} {A : Around} (r : Room k A) {n : Nat} (h : n ≤ 200) : A.units + n < cLine := by have := r.un; omega
end
end Tw
set_option Elab.async false
set_option linter.all false
set_option maxRecDepth 100000
set_option maxHeartbeats 4000000
namespace Tw
open PySem PySem.Spec L2 PyProof.Rows
/-! ### dicts whose keys are keys of any kind: finding one -/
mutual
def hashK (w : World) : KT → Int
  | .int i => hashInt i
  | .str x => keyH w (.inr x)
  | .tup l => reduceHash (Builtin.Tuple.tupleHashOf (hashL w l))
def hashL (w : World) : List KT → List Int
  | [] => []
  | t :: l => hashK w t :: hashL w l
end
theorem hashL_append (w : World) : ∀ (l m : List KT), hashL w (l ++ m) = hashL w l ++ hashL w m
  | [], m => by rw [hashL]; rfl
  | t :: l, m => by rw [List.cons_append, hashL, hashL, hashL_append w l m]; rfl
section
variable {prog : Program} {w : World}
/-- hash(key) -/
theorem kv_hash : ∀ (n : Nat) (t : KT) {A : Around} {E : Value → Shared → Prop} {s : Shared} {v : Value} {Q : Int → Shared → Prop}, t.depth ≤ n → KVal s.heap t v → A.units + t.depth < cLine → (∀ tk, s.toks ≤ tk → Q (hashK w t) { s with toks := tk }) → wpAny (model prog w) A (pyHash v) Q E s
  | n, .int i, A, E, s, v, Q, _, x, hu, q => by
    rw [KVal] at x
    obtain ⟨t, rfl⟩ := x
    rw [hashK] at q
    exact wpAny_pyHash_int (q _ (Nat.le_succ _))
  | n, .str i, A, E, s, v, Q, _, x, hu, q => by
    rw [KVal] at x
    obtain ⟨t, rfl⟩ := x
    rw [hashK] at q
    exact wpAny_pyHash_str (q _ (Nat.le_succ _))
  | 0, .tup l, A, E, s, v, Q, hn, x, hu, q => by rw [KT.depth] at hn; omega
  | n + 1, .tup l, A, E, s, v, Q, hn, x, hu, q => by
    rw [KT.depth] at hn hu
    rw [KVal] at x
    obtain ⟨a, its, rfl, pt, ks⟩ := x
    have hT := pt.typeIs
    obtain ⟨o, ho, hc, nn, hd⟩ := pt
    unfold pyHash
    first | unfold pyHashByItsType | skip
    first | refine wpAny_bind (wpAny_cRoomFor_or (.inr (by omega)) ?_) | skip
    refine wpAny_bind (wpAny_specialOf hT PySem.F.slot_tuple_hash.lookup ?_)
    show wpAny _ _ (if (some (Value.builtin "tuple.__hash__") == some Value.none) = true then _ else _) Q E s
    rw [if_neg (by rw [beq_builtin_none]; exact Bool.false_ne_true)]
    refine wpAny_bind (wpAny_specialOf hT PySem.F.slot_tuple_hash.lookup ?_)
    show wpAny _ _ (callSpecialIfBoundUnlessNone? (.ref a) "__hash__" _ >>= _) Q E s
    refine wpAny_bind (wpAny_callSpecialIfBoundUnlessNone?_slot hT PySem.F.slot_tuple_hash (wpAny_call_entry PySem.F.slot_tuple_hash hT PySem.F.entry_tuple_hash ?_ (PySem.F.args_tuple_hash_1 _)))
    show wpAny _ _ (Builtin.Tuple.tupleItemsOf (.ref a) >>= _) _ _ s
    refine wpAny_bind (wpAny_tupleItemsOf ho hd (wpAny_bind ?_))
    rw [← Array.forIn_toList]
    refine wpAny_forIn_list _ (fun rest (b : Array Int) s' => ∃ dn lf tk, l = dn ++ lf ∧ KVals s.heap lf rest ∧ b.toList = hashL w dn ∧ s' = { s with toks := tk } ∧ s.toks ≤ tk) _ ?_ ?_ _ _ ⟨[], l, s.toks, rfl, ks, by rw [hashL], rfl, Nat.le_refl _⟩
    · rintro x rest b s' ⟨dn, lf, tk, e0, hl, hb, rfl, htk⟩
      cases lf with
      | nil => rw [KVals] at hl; cases hl
      | cons t lf =>
        rw [KVals] at hl
        obtain ⟨v', r', e, k1, k2⟩ := hl
        injection e with e1 e2
        subst e1 e2
        have hd' : t.depth ≤ depthL l := by rw [e0]; exact depth_in (by simp)
        refine wpAny_bind (kv_hash n t (s := { s with toks := tk }) (by omega) k1 (by show A.units + 1 + _ < _; omega) fun tk2 h2 => ?_)
        have fin : ∃ dn' lf' tk', l = dn' ++ lf' ∧ KVals s.heap lf' rest ∧ (b.push (hashK w t)).toList = hashL w dn' ∧ ({ s with toks := tk2 } : Shared) = { s with toks := tk' } ∧ s.toks ≤ tk' :=
          ⟨dn ++ [t], lf, tk2, by rw [e0]; simp, k2, by rw [Array.toList_push, hb, hashL_append, hashL, hashL], rfl, Nat.le_trans htk h2⟩
        first | exact wpAny_pure fin | exact wpAny_bind (wpAny_pure (wpAny_pure fin))
    · rintro b s' ⟨dn, lf, tk, e0, hl, hb, rfl, htk⟩
      cases lf with
      | cons t lf => rw [KVals] at hl; obtain ⟨_, _, e, _⟩ := hl; cases e
      | nil =>
        rw [List.append_nil] at e0
        subst e0
        show wpAny _ _ (retInt (Builtin.Tuple.tupleHashOf b.toList)) _ _ _
        rw [hb]
        refine wpAny_ret_mkInt ?_
        show wpAny _ _ (if (decide (-(2 : Int) ^ 63 ≤ Builtin.Tuple.tupleHashOf (hashL w l)) && decide (Builtin.Tuple.tupleHashOf (hashL w l) < 2 ^ 63)) = true then _ else _) Q E _
        have q' := q (tk + 1) (by omega)
        rw [hashK] at q'
        unfold reduceHash at q'
        split
        · rename_i hr
          rw [if_pos hr] at q'
          exact wpAny_pure q'
        · rename_i hr
          rw [if_neg hr] at q'
          exact wpAny_bind (wpAny_rule (wpAny_pure q'))
/-- a key is compared without a noise -/
theorem kv_quiet : ∀ (n : Nat) (t : KT) {A : Around} {E : Value → Shared → Prop} {s : Shared} {v : Value} {Q : Bool → Shared → Prop}, t.depth ≤ n → KVal s.heap t v → Q true s → wpAny (model prog w) A (eqIsQuiet n v) Q E s
  | n, .int i, A, E, s, v, Q, _, x, q => by
    rw [KVal] at x
    obtain ⟨t, rfl⟩ := x
    rw [eqIsQuiet_byValue n rfl]
    exact wpAny_pure q
  | n, .str i, A, E, s, v, Q, _, x, q => by
    rw [KVal] at x
    obtain ⟨t, rfl⟩ := x
    rw [eqIsQuiet_byValue n rfl]
    exact wpAny_pure q
  | 0, .tup l, A, E, s, v, Q, hn, x, q => by rw [KT.depth] at hn; omega
  | n + 1, .tup l, A, E, s, v, Q, hn, x, q => by
    rw [KT.depth] at hn
    rw [KVal] at x
    obtain ⟨a, its, rfl, pt, ks⟩ := x
    have hT := pt.typeIs
    obtain ⟨o, ho, hc, nn, hd⟩ := pt
    unfold eqIsQuiet
    refine wpAny_bind (wpAny_specialOf hT PySem.F.slot_tuple_eq.lookup ?_)
    show wpAny _ _ (isInstance (.ref a) (.type "tuple") >>= _) _ _ s
    refine wpAny_bind (wpAny_isInstance hT isSubtype_tuple_tuple ?_)
    simp only [Bool.not_true, Bool.false_eq_true, if_false]
    refine wpAny_bind (wpAny_seqItems ho hd (wpAny_bind ?_))
    show wpAny _ _ (forIn its.toArray _ _) _ _ s
    rw [← Array.forIn_toList]
    refine wpAny_forIn_list _ (fun rest r s' => r.1 = none ∧ s' = s ∧ ∃ lf, KVals s.heap lf rest ∧ depthL lf ≤ n) _ ?_ ?_ _ _ ⟨rfl, rfl, l, ks, by omega⟩
    · rintro x rest r s' ⟨hr, rfl, lf, hl, hdp⟩
      cases lf with
      | nil => rw [KVals] at hl; cases hl
      | cons t lf =>
        rw [KVals] at hl
        obtain ⟨v', r', e, k1, k2⟩ := hl
        injection e with e1 e2
        subst e1 e2
        rw [depthL] at hdp
        refine wpAny_bind (kv_quiet n t (by omega) k1 ?_)
        simp only [Bool.not_true, Bool.false_eq_true, if_false]
        exact wpAny_pure ⟨rfl, rfl, lf, k2, by omega⟩
    · rintro ⟨r1, r2⟩ s' ⟨hr, rfl, _⟩
      dsimp only at hr
      subst hr
      exact wpAny_pure q
end
end Tw
set_option Elab.async false
set_option linter.all false
set_option maxRecDepth 100000
set_option maxHeartbeats 4000000
namespace Tw
open PySem PySem.Spec L2 PyProof.Rows
structure EsK (w : World) (h : Heap) (ks : List KT) (es : Array DictEntry) : Prop where
  len : es.size = ks.length
  ent : ∀ (i : Nat) (e : DictEntry), es[i]? = some e → ∃ t, ks[i]? = some t ∧ e.hash = hashK w t ∧ KVal h t e.key ∧ t.depth ≤ 3
  nd : ks.Nodup
section
variable {prog : Program} {w : World} {A : Around} {E : Value → Shared → Prop} {s : Shared}
theorem EsK.uniq {h : Heap} {ks : List KT} {es : Array DictEntry} (x : EsK w h ks es) {i j : Nat} {t : KT} (hi : ks[i]? = some t) (hj : ks[j]? = some t) : i = j := by
  obtain ⟨a, ea⟩ := List.getElem?_eq_some_iff.mp hi
  exact (List.getElem?_inj a x.nd).mp (hi.trans hj.symm)
theorem EsK.get {h : Heap} {ks : List KT} {es : Array DictEntry} (x : EsK w h ks es) {j : Nat} {t : KT} (hj : ks[j]? = some t) : ∃ e, es[j]? = some e ∧ e.hash = hashK w t ∧ KVal h t e.key ∧ t.depth ≤ 3 := by
  obtain ⟨a, _⟩ := List.getElem?_eq_some_iff.mp hj
  have lt : j < es.size := by have := x.len; omega
  have e : es[j]? = some es[j] := Array.getElem?_eq_getElem lt
  obtain ⟨t', e1, e2, e3, e4⟩ := x.ent j _ e
  rw [hj] at e1
  cases e1
  exact ⟨_, e, e2, e3, e4⟩
theorem quiet_tell {v : Value} {stored : List Value} {Q : Bool → Shared → Prop} (hv : ∃ t, KVal s.heap t v ∧ t.depth ≤ 8) (hs : ∀ u ∈ stored, ∃ t, KVal s.heap t u ∧ t.depth ≤ 8) (h : Q false s) : wpAny (model prog w) A (tableMayTell v stored) Q E s := by
  unfold tableMayTell
  refine wpAny_ite_split (fun _ => wpAny_pure h) (fun _ => ?_)
  obtain ⟨t, kv, dt⟩ := hv
  refine wpAny_bind (kv_quiet 8 t dt kv ?_)
  simp only [Bool.not_true, Bool.false_eq_true, if_false]
  refine wpAny_bind ?_
  refine wpAny_forIn_list _ (fun rest r s' => s' = s ∧ r = (none, ()) ∧ ∀ u ∈ rest, u ∈ stored) _ ?_ ?_ _ _ ⟨rfl, rfl, fun _ z => z⟩
  · rintro u rest r s' ⟨rfl, rfl, hr⟩
    obtain ⟨t2, kv2, dt2⟩ := hs u (hr u (List.mem_cons_self ..))
    refine wpAny_bind (kv_quiet 8 t2 dt2 kv2 ?_)
    simp only [Bool.not_true, Bool.false_eq_true, if_false]
    exact wpAny_pure ⟨rfl, rfl, fun u hu => hr u (List.mem_cons_of_mem _ hu)⟩
  · rintro r s' ⟨rfl, rfl, _⟩
    exact wpAny_pure h
theorem kd_find {d : Addr} {o : Obj} {es : Array DictEntry} {ep : Nat} {ks : List KT} {t : KT} {v : Value} {Q : Option Nat → Shared → Prop} (hv : KVal s.heap t v) (dt : t.depth ≤ 3) (hu : A.units + 3 < cLine) (ho : s.heap.get? d = some o) (hd : o.data = .dict es ep) (x : EsK w s.heap ks es)
    (hno : t ∉ ks → Q none s) (hyes : ∀ j, ks[j]? = some t → Q (some j) s) : wpAny (model prog w) A (dictFind d v (hashK w t)) Q E s := by
  have inPl : ∀ j, ks[j]? = some t → j ∈ placesWithHash es.size (fun i => es[i]?.map (·.hash)) (hashK w t) := fun j hj => by
    obtain ⟨e, e1, e2, _⟩ := x.get hj
    obtain ⟨lt, _⟩ := Array.getElem?_eq_some_iff.mp e1
    unfold placesWithHash
    rw [List.mem_filter, List.mem_range]
    exact ⟨lt, by show (Option.map _ es[j]? == _) = true; rw [e1, Option.map_some, e2]; simp⟩
  have ofPl : ∀ i, i ∈ placesWithHash es.size (fun i => es[i]?.map (·.hash)) (hashK w t) → ∃ e u, es[i]? = some e ∧ e.hash = hashK w t ∧ ks[i]? = some u ∧ KVal s.heap u e.key ∧ u.depth ≤ 3 := fun i hi => by
    unfold placesWithHash at hi
    rw [List.mem_filter, List.mem_range] at hi
    have e1 : es[i]? = some es[i] := Array.getElem?_eq_getElem hi.1
    obtain ⟨u, e2, _, e4, e5⟩ := x.ent i _ e1
    have : (Option.map (·.hash) es[i]? == some (hashK w t)) = true := hi.2
    rw [e1, Option.map_some] at this
    exact ⟨_, u, e1, by simpa using this, e2, e4, e5⟩
  have pnd : (placesWithHash es.size (fun i => es[i]?.map (·.hash)) (hashK w t)).Nodup := by
    unfold placesWithHash
    exact List.nodup_range.filter _
  have eq_at : ∀ (u : KT) (e : DictEntry), KVal s.heap u e.key → u.depth ≤ 3 → SeqAt.EqAt A s e.key v (u.eqb t) := fun u e k1 d1 => eqAt_key u.depth u t A e.key v (Nat.le_refl _) k1 hv (by omega)
  have stored : ∀ u ∈ (placesWithHash es.size (fun i => es[i]?.map (·.hash)) (hashK w t)).filterMap (fun i => es[i]?.map (·.key)), ∃ t, KVal s.heap t u ∧ t.depth ≤ 8 := fun u hu => by
    obtain ⟨i, hi, e⟩ := List.mem_filterMap.mp hu
    obtain ⟨en, z, e1, _, _, e4, e5⟩ := ofPl i hi
    rw [e1, Option.map_some] at e
    cases e
    exact ⟨z, e4, by omega⟩
  unfold dictFind
  try with_reducible refine wpAny_holding ?_
  refine wpAny_bind (wpAny_dictEntries ho hd ?_)
  generalize hP : placesWithHash es.size (fun i => es[i]?.map (·.hash)) (hashK w t) = pl at inPl ofPl pnd stored
  have plain : wpAny (model prog w) A (dictWalkPlain d v (hashK w t) es pl) Q E s := by
    unfold dictWalkPlain
    refine wpAny_bind ?_
    refine wpAny_forIn_list _ (fun rest b s' => s' = s ∧ b = (none, ()) ∧ (∀ i ∈ rest, i ∈ pl) ∧ ∀ i ∈ pl, i ∈ rest ∨ ks[i]? ≠ some t) _ ?_ ?_ _ _ ⟨rfl, rfl, fun _ z => z, fun _ z => .inl z⟩
    · rintro i rest b s' ⟨rfl, rfl, h1, h2⟩
      obtain ⟨e, u, e1, e2, e3, e4, e5⟩ := ofPl i (h1 i (List.mem_cons_self ..))
      rw [e1]
      dsimp only
      rw [e2, if_pos (by simp)]
      refine wpAny_bind (wpAny_dictEpoch ho hd (wpAny_bind (eq_at u e e4 e5 prog w _ _ (wpAny_bind (wpAny_dictEpoch ho hd ?_)))))
      rw [if_neg (by simp)]
      cases hq : u.eqb t with
      | true =>
        have : u = t := eqb_eq u t hq
        subst this
        rw [if_pos rfl]
        exact wpAny_bind (wpAny_rule (wpAny_pure (wpAny_pure (hyes i e3))))
      | false =>
        rw [if_neg Bool.false_ne_true]
        refine wpAny_bind (wpAny_rule (wpAny_pure ⟨rfl, rfl, fun j hj => h1 j (List.mem_cons_of_mem _ hj), fun j hj => ?_⟩))
        rcases h2 j hj with z | z
        · rcases List.mem_cons.mp z with z | z
          · subst z
            refine .inr fun z => ?_
            rw [e3] at z
            cases z
            rw [eqb_self] at hq
            cases hq
          · exact .inl z
        · exact .inr z
    · rintro b s' ⟨rfl, rfl, _, h2⟩
      refine wpAny_pure (hno fun z => ?_)
      obtain ⟨j, hj⟩ := List.mem_iff_getElem?.mp z
      rcases h2 j (inPl j hj) with q | q
      · cases q
      · exact q hj
  -- the way of all keys
  have hitLoop : ∀ (f : Nat → Option (Option Nat) × Option Nat → Sem (ForInStep (Option (Option Nat) × Option Nat))) (g : Option (Option Nat) × Option Nat → Sem (Option Nat)), (∀ r, g (some r, none) = pure r) → (∀ h, g (none, h) = pure h) →
      (∀ i u e (R : ForInStep (Option (Option Nat) × Option Nat) → Shared → Prop), es[i]? = some e → e.hash = hashK w t → KVal s.heap u e.key → u.depth ≤ 3 → u = t → R (.done (some (some i), none)) s → R (.yield (none, some i)) s → wpAny (model prog w) A (f i (none, none)) R E s) →
      (∀ i u e hit (R : ForInStep (Option (Option Nat) × Option Nat) → Shared → Prop), es[i]? = some e → e.hash = hashK w t → KVal s.heap u e.key → u.depth ≤ 3 → u ≠ t → R (.yield (none, hit)) s → wpAny (model prog w) A (f i (none, hit)) R E s) →
      wpAny (model prog w) A (forIn pl (none, none) f >>= g) Q E s := fun f g g1 g2 f1 f2 => by
    refine wpAny_bind ?_
    refine wpAny_forIn_list _ (fun rest b s' => s' = s ∧ rest.Nodup ∧ (∀ i ∈ rest, i ∈ pl) ∧ ((b = (none, none) ∧ ∀ i ∈ pl, i ∈ rest ∨ ks[i]? ≠ some t) ∨ ∃ j, b = (none, some j) ∧ ks[j]? = some t ∧ j ∉ rest)) _ ?_ ?_ _ _ ⟨rfl, pnd, fun _ z => z, .inl ⟨rfl, fun _ z => .inl z⟩⟩
    · rintro i rest b s' ⟨rfl, nd, h1, h2⟩
      obtain ⟨e, u, e1, e2, e3, e4, e5⟩ := ofPl i (h1 i (List.mem_cons_self ..))
      have nd' := List.nodup_cons.mp nd
      have h1' : ∀ j ∈ rest, j ∈ pl := fun j hj => h1 j (List.mem_cons_of_mem _ hj)
      by_cases hq : u = t
      · have e3' := e3
        rw [hq] at e3'
        rcases h2 with ⟨rfl, h2⟩ | ⟨j, rfl, hj, hn⟩
        · refine f1 i u e _ e1 e2 e4 e5 hq ?_ ?_
          · show wpAny _ _ (g (some (some i), none)) _ _ _
            rw [g1]
            exact wpAny_pure (hyes i e3')
          · exact ⟨rfl, nd'.2, h1', .inr ⟨i, rfl, e3', nd'.1⟩⟩
        · have : i = j := x.uniq e3' hj
          exact absurd (this ▸ List.mem_cons_self ..) hn
      · rcases h2 with ⟨rfl, h2⟩ | ⟨j, rfl, hj, hn⟩
        · refine f2 i u e none _ e1 e2 e4 e5 hq ⟨rfl, nd'.2, h1', .inl ⟨rfl, fun j hj => ?_⟩⟩
          rcases h2 j hj with z | z
          · rcases List.mem_cons.mp z with z | z
            · subst z
              exact .inr fun z => hq (by rw [e3] at z; exact Option.some.inj z)
            · exact .inl z
          · exact .inr z
        · exact f2 i u e (some j) _ e1 e2 e4 e5 hq ⟨rfl, nd'.2, h1', .inr ⟨j, rfl, hj, fun z => hn (List.mem_cons_of_mem _ z)⟩⟩
    · rintro b s' ⟨rfl, _, _, h2⟩
      rcases h2 with ⟨rfl, h2⟩ | ⟨j, rfl, hj, hn⟩
      · rw [g2]
        refine wpAny_pure (hno fun z => ?_)
        obtain ⟨j, hj⟩ := List.mem_iff_getElem?.mp z
        rcases h2 j (inPl j hj) with q | q
        · cases q
        · exact q hj
      · rw [g2]
        exact wpAny_pure (hyes j hj)
  have vs : (∃ a, v = .ref a) ∨ (∃ i tk, v = .int i tk) ∨ ∃ y tk, v = .str y tk ∧ t = .str y := by
    cases t with
    | int i => rw [KVal] at hv; obtain ⟨tk, e⟩ := hv; exact .inr (.inl ⟨i, tk, e⟩)
    | str y => rw [KVal] at hv; obtain ⟨tk, e⟩ := hv; exact .inr (.inr ⟨y, tk, e, rfl⟩)
    | tup l => rw [KVal] at hv; obtain ⟨a, _, e, _⟩ := hv; exact .inl ⟨a, e⟩
  rcases vs with ⟨a, rfl⟩ | ⟨i, tk, rfl⟩ | ⟨y, tk, rfl, ht⟩
  case' inl =>
    dsimp only
    rw [if_neg (by simp [carriedByValue])]
    have hany : ¬ (es.any fun e => e.key == Value.ref a && e.hash != hashK w t) = true := by
      rw [← Array.any_toList, List.any_eq_true]
      rintro ⟨e, hin, hc⟩
      obtain ⟨j, hj⟩ := List.mem_iff_getElem?.mp hin
      rw [Array.getElem?_toList] at hj
      obtain ⟨u, _, e2, e3, _⟩ := x.ent j e hj
      rw [Bool.and_eq_true] at hc
      rw [eq_of_beq hc.1] at e3
      have : u = t := eqb_eq _ _ (KVal.inj _ _ _ e3 hv)
      rw [e2, this] at hc
      simp at hc
    rw [if_neg hany]
    refine wpAny_ite_split (fun _ => wpAny_bind (wpAny_pure ?_)) (fun _ => wpAny_bind (quiet_tell ⟨t, hv, by omega⟩ stored ?_))
  case' inr.inl =>
    dsimp only
    refine wpAny_ite_split (fun _ => plain) (fun _ => ?_)
    refine wpAny_ite_split (fun _ => wpAny_bind (wpAny_pure ?_)) (fun _ => wpAny_bind (quiet_tell ⟨t, hv, by omega⟩ stored ?_))
  case' inr.inr =>
    have byStr : wpAny (model prog w) A (foundByValue d (.str y tk) es y) Q E s := by
      unfold foundByValue
      cases hf : es.findIdx? (fun e => e.key.isStr y) with
      | none =>
        refine wpAny_pure (hno fun z => ?_)
        obtain ⟨j, hj⟩ := List.mem_iff_getElem?.mp z
        obtain ⟨e, e1, e2, e3, _⟩ := x.get hj
        have := Array.findIdx?_eq_none_iff.mp hf e (Array.mem_of_getElem? e1)
        rw [ht, KVal] at e3
        obtain ⟨tk', ek⟩ := e3
        rw [ek] at this
        simp [Value.isStr] at this
      | some i =>
        obtain ⟨hlt, hi, _⟩ := Array.findIdx?_eq_some_iff_getElem.mp hf
        have e1 : es[i]? = some es[i] := Array.getElem?_eq_getElem hlt
        obtain ⟨u, e2, e3, e4, e5⟩ := x.ent i _ e1
        have hut : u = t := by
          have hs : ∃ tk', es[i].key = .str y tk' := by
            cases q : es[i].key with
            | str z tz => rw [q] at hi; simp [Value.isStr] at hi; exact ⟨tz, by rw [hi]⟩
            | _ => rw [q] at hi; simp [Value.isStr] at hi
          obtain ⟨tk', ek⟩ := hs
          have hk : KVal s.heap (.str y) es[i].key := by rw [KVal]; exact ⟨tk', ek⟩
          rw [ht]
          exact eqb_eq _ _ (KVal.inj _ _ _ e4 hk)
        dsimp only
        rw [e1]
        dsimp only
        refine wpAny_bind (wpAny_dictEpoch ho hd (wpAny_bind (eq_at u _ e4 e5 prog w _ _ (wpAny_bind (wpAny_dictEpoch ho hd ?_)))))
        rw [if_neg (by simp), hut, eqb_self, if_pos rfl]
        exact wpAny_bind (wpAny_rule (wpAny_pure (hyes i (by rw [e2, hut]))))
    dsimp only
    refine wpAny_ite_split (fun _ => byStr) (fun _ => ?_)
    refine wpAny_ite_split (fun _ => plain) (fun _ => ?_)
    refine wpAny_ite_split (fun _ => wpAny_bind (wpAny_pure ?_)) (fun _ => wpAny_bind (quiet_tell ⟨t, hv, by omega⟩ stored ?_))
  all_goals
    rw [if_neg (by simp)]
    refine hitLoop _ _ (fun r => rfl) (fun h => rfl) (fun i u e R e1 e2 e4 e5 hq r1 r2 => ?_) (fun i u e hit R e1 e2 e4 e5 hq r1 => ?_)
    · rw [e1]
      dsimp only
      rw [e2, if_pos (by simp)]
      refine wpAny_bind (wpAny_dictEpoch ho hd (wpAny_bind (eq_at u e e4 e5 prog w _ _ (wpAny_bind (wpAny_dictEpoch ho hd ?_)))))
      rw [if_neg (by simp), hq, eqb_self, if_pos rfl]
      simp only [Option.isSome_none, Bool.false_eq_true, if_false]
      refine wpAny_bind (wpAny_rule (wpAny_ite_split (fun _ => wpAny_pure r1) (fun _ => wpAny_pure r2)))
    · rw [e1]
      dsimp only
      rw [e2, if_pos (by simp)]
      refine wpAny_bind (wpAny_dictEpoch ho hd (wpAny_bind (eq_at u e e4 e5 prog w _ _ (wpAny_bind (wpAny_dictEpoch ho hd ?_)))))
      have hf : u.eqb t = false := by
        cases q : u.eqb t with
        | false => rfl
        | true => exact absurd (eqb_eq _ _ q) hq
      rw [if_neg (by simp), hf, if_neg Bool.false_ne_true]
      refine wpAny_bind (wpAny_rule ?_)
      rw [if_neg (by simp)]
      exact wpAny_pure r1
end
end Tw
set_option Elab.async false
set_option linter.all false
set_option maxRecDepth 100000
set_option maxHeartbeats 4000000
namespace L2
open PySem PySem.Spec PyProof.Rows

/-! ### an exception that flies: what stands but the frames stays -/
theorem ObjOk.there {P : Program} {w : World} {H : Hp} {h : Heap} {a : Addr} : ∀ {o : HO}, ObjOk P w H h a o → ∃ ob, h.get? a = some ob := by
  intro o x
  induction o with
  | lst xs => obtain ⟨z, its, n, r, e⟩ := x; exact ⟨_, e⟩
  | tup xs => obtain ⟨z, its, r, ob, e, c⟩ := x; exact ⟨_, e⟩
  | dK kvs => obtain ⟨z, y, vs, r, ob, es, ep, e, c⟩ := x; exact ⟨_, e⟩
  | dT kvs => obtain ⟨z, y, xs, r, ob, es, ep, e, c⟩ := x; exact ⟨_, e⟩
  | set S n => obtain ⟨ob, es, ep, t, e, c⟩ := x; exact ⟨_, e⟩
  | ins C dx fs => obtain ⟨d, z, ne, e, _⟩ := x; exact ⟨_, e⟩
  | own y => exact x
  | xd fs => obtain ⟨mA, ⟨od, es, ep, e, c⟩, r⟩ := x; exact ⟨_, e⟩
  | rng lo hi => obtain ⟨t, u, v, e⟩ := x; exact ⟨_, e⟩
  | frz ob u ih => exact ⟨_, x.1⟩
  | tbl ps => exact ⟨_, x⟩
  | met f y => exact ⟨_, x⟩
  | ext φ => exact x.2.1
theorem HOk.there {P : Program} {w : World} {H : Hp} {h : Heap} {a : Addr} (x : HOk P w H h) (n : H a ≠ none) : ∃ ob, h.get? a = some ob := by
  cases e : H a with
  | none => exact absurd e n
  | some o => exact ObjOk.there (x a o e)
theorem HOk.keptT {P : Program} {w : World} {H : Hp} {h h' : Heap} (x : HOk P w H h) (k : ∀ b u, h.get? b = some u → H b ≠ none → h'.get? b = some u) : HOk P w H h' := fun a o e =>
  (x a o e).stay (fun b u hb q => k b u q (by
    rcases hb with rfl | hb
    · rw [e]; exact fun z => nomatch z
    · rw [hb]; exact fun z => nomatch z)) (fun _ q => q) fun _ _ q => q
section
variable {X : Cx} {pins : List (Addr × Obj)} {σ : St} {H H' : Hp} {s s' : Shared} {E : XK}
theorem Inv.noloc (I : Inv X pins σ H s) : X.s₀.heap.get? X.env.locals = none := Heap.get?_none_of_le I.ok.above
theorem frames_nf (I : Inv X pins σ H s) : ∀ b ∈ frs X.stack, ∀ o, s.heap.get? b = some o → ∀ vs, o.data ≠ .fields vs := fun b hb o q vs z => by
  obtain ⟨_, o', e, d⟩ := I.stack.mem hb
  rw [q] at e
  cases e
  exact d vs z

/-! ### raise C(), C without an __init__ of its own -/
end
end L2
set_option Elab.async false
set_option linter.all false
set_option maxRecDepth 100000
set_option maxHeartbeats 4000000
namespace L2
open PySem PySem.Spec PySem.W PyProof.Rows
/-- an object of the class at C stands there -/
def IsOf (x C : Addr) (h : Heap) : Prop := ∃ o, h.get? x = some o ∧ o.cls = .ref C
theorem IsOf.ty {x C : Addr} {h : Heap} (I : IsOf x C h) (M : Model) : Looks M h (typeOf (.ref x)) (.ref C) := by
  obtain ⟨o, e, c⟩ := I
  rw [← c]
  exact Looks.andThen (Looks.ld e) Looks.now
/-- what the written part says of an own exception class -/
structure ExcC (K : Frag) (C : Addr) : Prop where
  ga : findIn K (.ref C) "__getattribute__" = some (some (.builtin "BaseException.__getattribute__"))
  hk : findIn K (.ref C) "__getattr__" = some none
  mB : mroIn K C (.type "BaseException") = some true
  mO : mroIn K C (.type "object") = some true
  ca : findIn K (.ref C) "__class__" = some (some (.builtin "object.__class__"))
  hn : specialIn K (.builtin "object.__class__") "__get__" = some (some (.builtin "getset_descriptor.__get__"))
  tk : takesIn K (.builtin "object.__class__") = some true
section
variable {prog : Program} {w : World} {A : Around} {E : Value → Shared → Prop} {s : Shared} {K : Frag} {x C : Addr}
theorem exc_check {nv : Value} {Q : Unit → Shared → Prop} (X : K.In s.heap) (I : IsOf x C s.heap) (hm : mroIn K C (.type "BaseException") = some true) (hq : Q () s) :
    wpAny (model prog w) A (checkBuiltinCall "BaseException.__getattribute__" ⟨[.ref x, nv], []⟩) Q E s := by
  obtain ⟨hh, g, d, t, os⟩ := s
  have k1 : builtinKind "BaseException.__getattribute__" = some .slot := by decide +kernel
  have k2 : splitId "BaseException.__getattribute__" = some ("BaseException", "__getattribute__") := by decide +kernel
  have la := I.ty (model prog w)
  have lb := looks_mroIn (M := model prog w) X hm
  have lc := F.args_bexc_ga (.ref x) nv
  simp only [checkBuiltinCall, k1, k2]
  refine wpAny_bind ?_
  unfold isInstance
  repeat lk
  exact hq
theorem exc_entry {name : Str} {tk : Tok} {r : Builtin.ObjectAttr.Found} {Q : Fin → Shared → Prop} (X : K.In s.heap) (I : IsOf x C s.heap) (fd : Looks (model prog w) s.heap (Builtin.ObjectAttr.find (.ref x) (.ref C) name) r)
    (h : match r with
      | .value v => Q (.done (.ret v)) s
      | .bind g a => wpAny (model prog w) A (call g [a, .ref x, .ref C]) (fun v s' => Q (.done (.ret v)) s') E s
      | .missing => False) : wpAny (model prog w) A (Builtin.«object.__getattribute__» ⟨[.ref x, .str name tk], []⟩) Q E s := by
  obtain ⟨hh, g, d, t, os⟩ := s
  have la := I.ty (model prog w)
  unfold Builtin.«object.__getattribute__»
  refine wpAny_bind (wpAny_pure ?_)
  refine wpAny_bind (wpAny_pure ?_)
  refine wpAny_bind (la.at ?_)
  refine wpAny_bind (fd.at ?_)
  cases r with
  | value v => exact wpAny_pure h
  | bind g a =>
    show wpAny _ _ (holding [a] (call g [a, .ref x, .ref C]) >>= ret) _ _ _
    exact wpAny_bind (wpAny_holding (wpAny_mono h (fun v s' z => wpAny_pure z) fun _ _ z => z))
  | missing => exact h.elim
theorem exc_attr {name : Str} {r : Builtin.ObjectAttr.Found} {expr fill : Bool} {tk : Tok} {Q : Value → Shared → Prop} (X : K.In s.heap) (I : IsOf x C s.heap) (e : ExcC K C) (fd : Looks (model prog w) s.heap (Builtin.ObjectAttr.find (.ref x) (.ref C) name) r)
    (h : match r with
      | .value v => handedIn v = true ∧ Q v s
      | .bind g a => wpAny (model prog w) A.in1 (call g [a, .ref x, .ref C]) (fun v s' => handedIn v = true ∧ Q v s') (fun _ _ => False) s
      | .missing => False) : wpAny (model prog w) A (getAttrBy (.ref x) (.str name tk) fill expr) Q E s := by
  have FA := F.excAttr_ValueError
  have la := I.ty (model prog w)
  have lb := looks_findIn (M := model prog w) X e.ga
  have lc := looks_findIn (M := model prog w) X e.hk
  have ne : (Value.builtin "BaseException.__getattribute__" == Value.builtin "object.__getattribute__") = false := by decide +kernel
  obtain ⟨hh, g, d, t, os⟩ := s
  unfold getAttrBy
  refine wpAny_holding (wpAny_bind (la.at (wpAny_bind (lb.at ?_))))
  show wpAny _ _ (if (true && (Value.builtin "BaseException.__getattribute__" == Value.builtin "object.__getattribute__")) = true then _ else getAttrByItsOwn (.ref x) (.str name tk) (.ref C) (.builtin "BaseException.__getattribute__") fill expr) _ _ _
  rw [ne, if_neg (by decide)]
  unfold getAttrByItsOwn hookBefore
  refine wpAny_bind (lc.at ?_)
  refine wpAny_bind (wpAny_attempt (wpAny_holding ?_))
  unfold callGetattribute
  rw [if_neg (by cases expr <;> decide)]
  unfold boundAndCalled
  rw [FA.ga.bind (.ref x)]
  refine wpAny_bind (wpAny_pure ?_)
  refine wpAny_call (codeAny_call_builtin FA.ga.plain F.entry_bexc_ga (exc_check X I e.mB (exc_entry X I fd ?_)))
  cases r with
  | value v => exact handed_on h.1 h.2
  | bind g a => exact wpAny_mono h (fun v s' z => handed_on z.1 z.2) fun _ _ z => z.elim
  | missing => exact h.elim
theorem exc_cls {R : Result → Shared → Prop} {tp : Value} (X : K.In s.heap) (I : IsOf x C s.heap) (e : ExcC K C) (h : R (.ok (.ret (.ref C))) s) :
    codeAny (model prog w) A (.call (.builtin "getset_descriptor.__get__") ⟨[.builtin "object.__class__", .ref x, tp], []⟩) R s := by
  obtain ⟨hh, gs, dr, tt, oss⟩ := s
  have la := I.ty (model prog w)
  have lb := looks_mroIn (M := model prog w) X e.mO
  refine codeAny_call_builtin KF.slot_gs.plain KF.entry_gs ?_
  refine KF.slot_gs.check _ _ _ _ _ _ _ _ KF.type_class (KF.args_gs _ _ _) ?_
  unfold Builtin.«getset_descriptor.__get__»
  unfold Builtin.Getset_descriptor.descrGet
  rw [dga_obj]
  refine wpAny_bind (wpAny_pure ?_)
  unfold Builtin.Getset_descriptor.descrGetter
  unfold Builtin.Getset_descriptor.descrCheckInstance
  unfold Builtin.Getset_descriptor.descrNameAndClass
  unfold isInstance
  simp only [KF.owner_class]
  repeat lk
  refine ⟨Code.quiet_builtin _ (by decide +kernel), ?_⟩
  refine codeAny_builtin KF.entry_class ?_
  unfold Builtin.«object.__class__»
  unfold shownTypeOf
  repeat lk
  exact h
theorem exc_find (X : K.In s.heap) (e : ExcC K C) (M : Model) : Looks M s.heap (Builtin.ObjectAttr.find (.ref x) (.ref C) "__class__") (.bind (.builtin "getset_descriptor.__get__") (.builtin "object.__class__")) := by
  have la := looks_findIn (M := M) X e.ca
  have lb := looks_specialIn (M := M) X e.hn
  have lc := looks_takesIn (M := M) X e.tk
  refine Looks.andThen la (Looks.andThen lb ?_)
  exact Looks.andThen (show Looks M s.heap (Builtin.ObjectAttr.dataDescriptor? (some (.builtin "object.__class__")) (some (.builtin "getset_descriptor.__get__"))) (some (_, _)) from Looks.andThen lc Looks.now) (Looks.tag Looks.now)
end
theorem ExcC.cls {K : Frag} {C : Addr} (e : ExcC K C) : ∃ cl d cd sl, K.lookup C = some ⟨cl, d, .cls cd, sl⟩ := by
  obtain ⟨cd, h, _⟩ := Option.bind_eq_some_iff.mp e.mB
  unfold clsIn at h
  split at h
  · rename_i c' d' cd' sl' ho
    exact ⟨c', d', cd', sl', ho⟩
  · cases h
theorem kitx_exc {K : Frag} {x C : Addr} (e : ExcC K C) : KitX K (.ref x) (.ref C) (IsOf x C) where
  ty := fun M _ _ I => I.ty M
  it := fun _ _ X _ => by
    obtain ⟨cl, d, cd, sl, ho⟩ := e.cls
    intro A' Q' E' s' k q
    unfold isType loadHead
    have z := k _ _ (X _ _ ho)
    exact wpAny_bind (wpAny_loadPart z (wpAny_pure q))
  ne := fun h tp dd its n sl X htp => by
    obtain ⟨cl, d, cd, sl', ho⟩ := e.cls
    cases q : (Value.ref C == Value.ref tp) with
    | false => rfl
    | true =>
      have e2 : C = tp := Value.ref.inj (eq_of_beq q)
      rw [← e2, X _ _ ho] at htp
      cases htp
  ca := fun {prog w A E Q s} X I k => by
    unfold getAttr? getAttrBy?
    refine wpAny_bind (wpAny_mkText (wpAny_bind (wpAny_attempt ?_)))
    refine exc_attr (s := { s with toks := s.toks + 1 }) X I e (exc_find (s := { s with toks := s.toks + 1 }) X e _) ?_
    exact wpAny_call (exc_cls (s := { s with toks := s.toks + 1 }) X I e ⟨rfl, wpAny_pure k⟩)
end L2
set_option Elab.async false
set_option linter.all false
set_option maxRecDepth 100000
set_option maxHeartbeats 4000000
namespace L2
open PySem PySem.Spec PyProof.Rows

/-- the context of an except suite -/
def Cx.held (X : Cx) (ea : Addr) (E : Value → Shared → Prop) : Cx := { X with A := X.A.mark (some (.ref ea)), calm := false, xe := E }
section
variable {X : Cx} {pins : List (Addr × Obj)} {σ : St} {H H' : Hp} {s s' : Shared} {ea : Addr} {E : Value → Shared → Prop}
theorem Inv.held (I : Inv X pins σ H s) (ea : Addr) (E : Value → Shared → Prop) : Inv (X.held ea E) pins σ H s :=
  ⟨⟨I.ok.mod, I.ok.kind, I.ok.glob, I.ok.blt, I.ok.above, I.ok.inj, I.ok.has, I.ok.cab, fun z => absurd z Bool.false_ne_true, I.ok.frames, I.ok.stk, I.ok.exf, I.ok.bs, I.ok.bsz, I.ok.noex, I.ok.exfs, I.ok.funs, I.ok.frf⟩,
    I.os, I.bare, I.base, I.loc, I.cell, I.free, I.freeC, I.pin, I.hok, I.len⟩
theorem Inv.unheld (ok : X.Ok) (I : Inv (X.held ea E) pins σ H s) : Inv X pins σ H s := ⟨ok, I.os, I.bare, I.base, I.loc, I.cell, I.free, I.freeC, I.pin, I.hok, I.len⟩
/-- a thing that stands already is tracked from here on -/
theorem Inv.track {a : Addr} {o : HO} (I : Inv X pins σ H s) (h0 : X.s₀.heap.get? a = none) (hl : a ≠ X.env.locals) (hc : ∀ x c, X.env.cells.lookup x = some c → c ≠ a) (hp : ∀ p ∈ X.pn ++ pins, p.1 ≠ a) (hn : H a = none)
    (new : ObjOk X.prog X.w (upd H a o) s.heap a o) : Inv X pins σ (upd H a o) s := by
  have nt : ∀ {b : Addr} {u : HO}, H b = some u → b ≠ a := fun {b u} e z => by rw [z, hn] at e; cases e
  refine ⟨I.ok, I.os, I.bare, ⟨I.base.keep, I.base.slot, fun b ob q n hx => ?_, I.base.there, fun b xs q => ?_, fun b ob u q => ?_, fun b ps q => ?_⟩, I.loc, I.cell, ?_, fun x c e => ?_, fun p hp' => ?_, fun b u e => ?_, I.len⟩
  · rw [upd_ne (fun z => by rw [z, h0] at q; cases q)]
    exact I.base.free b ob q n hx
  · have e := I.base.tups b xs q
    rw [upd_ne (nt e)]; exact e
  · have e := I.base.frzs b ob u q
    rw [upd_ne (nt e)]; exact e
  · obtain ⟨more, e⟩ := I.base.tbls b ps q
    exact ⟨more, by rw [upd_ne (nt e)]; exact e⟩
  · rw [upd_ne (Ne.symm hl)]; exact I.free
  · rw [upd_ne (hc x c e)]; exact I.freeC x c e
  · obtain ⟨e, n, r⟩ := I.pin p hp'
    exact ⟨e, by rw [upd_ne (hp p hp')]; exact n, r⟩
  · by_cases hb : b = a
    · subst hb
      rw [upd_same] at e
      cases e
      exact new
    · rw [upd_ne hb] at e
      exact (I.hok b u e).stay (fun _ _ _ q => q) (fun c q => by rw [upd_ne (nt q)]; exact q) fun c xs q => by rw [upd_ne (nt q)]; exact q
/-- a name of the frame goes: its slot is forgotten -/
theorem Inv.goes {i : Nat} {n : Str} {M : Model} {A : Around} {Q : Unit → Shared → Prop} {pos : Pos} (I : Inv X pins σ H s) (hN : X.N.Nodup) (hi : X.N[i]? = some n) (hx : X.env.scope.names.lookup n = some .local)
    (h : ∀ s', Inv X pins (σ.set i none) H s' → Q () s') : wpAny M A (do bindName X.env n .none; unbindBehindTheSuite X.env n pos) Q E s := by
  obtain ⟨m, hn, hl⟩ := id I.loc
  have hcls : (X.env.scope.kind == .class || (X.env.scope.kind == .module && X.env.locals != X.env.globals)) = false := by rw [I.ok.kind]; rfl
  have hiσ : i < σ.length := by rw [I.len]; exact (List.getElem?_eq_some_iff.mp hi).1
  refine wpAny_nameGoes_keeps hx hn hcls fun h' v hn' hs => h _ ?_
  obtain ⟨oL, _, _, hoL, _⟩ := id hn
  have neL : ∀ b o, X.s₀.heap.get? b = some o → b ≠ X.env.locals := fun b o e => Nat.ne_of_lt (Nat.lt_of_lt_of_le (Heap.lt_size e) I.ok.above)
  refine ⟨I.ok, I.os, I.bare, ⟨fun b o e n hb hx => ?_, fun b o e n hb hx => ?_, I.base.free, fun b o e hx => ?_, I.base.tups, I.base.frzs, I.base.tbls⟩, ⟨_, hn', fun j y v' e1 e2 e3 => ?_⟩, fun y c e => ?_, I.free, I.freeC, fun p hp => ?_, fun b ob e => ?_, by simpa using I.len⟩
  · exact (hs.2 b (neL b o e)).trans (I.base.keep b o e n hb hx)
  · obtain ⟨sl, e1⟩ := I.base.slot b o e n hb hx
    exact ⟨sl, (hs.2 b (neL b o e)).trans e1⟩
  · obtain ⟨o', e1⟩ := I.base.there b o e hx
    exact ⟨o', (hs.2 b (neL b o e)).trans e1⟩
  · by_cases hj : j = i
    · subst hj
      rw [List.getElem?_set_self hiσ] at e2
      cases e2
    · rw [List.getElem?_set_ne (Ne.symm hj)] at e2
      obtain ⟨u', r', q⟩ := hl j y v' e1 e2 e3
      refine ⟨u', r', ?_⟩
      rcases q with ⟨k, e⟩ | ⟨k, c, e, z⟩
      · refine .inl ⟨k, ?_⟩
        have : y ≠ n := fun e => hj (nodup_ix hN e1 (e ▸ hi))
        simp [this, e]
      · exact .inr ⟨k, c, e, z.sameBut hs (I.cne y c e)⟩
  · obtain ⟨w', z⟩ := I.cell y c e
    exact ⟨w', z.sameBut hs (I.cne y c e)⟩
  · obtain ⟨e, n, ne, nf, d⟩ := I.pin p hp
    exact ⟨(hs.2 p.1 ne).trans e, n, ne, nf, d⟩
  · refine (I.hok b ob e).stay (fun c w' hc q => (hs.2 c ?_).trans q) (fun _ q => q) fun _ _ q => q
    rintro rfl
    rcases hc with rfl | hc
    · rw [I.free] at e; cases e
    · rw [I.free] at hc; cases hc
end
section
variable {prog : Program} {w : World} {A : Around} {E : Value → Shared → Prop} {s : Shared} {K : PySem.W.Frag} {x C CB : Addr}
theorem exc_matches {b : Bool} {Q : Bool → Shared → Prop} (X : K.In s.heap) (I : IsOf x C s.heap) (ht : PySem.W.typeIn K (.ref CB) = some (.type "type")) (hB : PySem.W.mroIn K CB (.type "BaseException") = some true)
    (hC : PySem.W.mroIn K C (.ref CB) = some b) (h : Q b s) : wpAny (model prog w) A (excMatches (.ref x) (.ref CB)) Q E s := by
  obtain ⟨hh, g, d, t, os⟩ := s
  have L0 := I.ty (model prog w)
  have L1 := PySem.W.looks_mroIn (M := model prog w) X hB
  have L2 := PySem.W.looks_mroIn (M := model prog w) X hC
  have L3 := PySem.W.looks_typeIn (M := model prog w) X ht
  have f := tc_notTuple
  have L4 : PySem.W.Looks (model prog w) hh (isType (.ref CB)) true := by
    obtain ⟨cdD, hcD, _⟩ := Option.bind_eq_some_iff.mp hB
    unfold PySem.W.clsIn at hcD
    split at hcD
    · rename_i c' d' cd' sl' ho
      intro A' Q' E' s' k q
      unfold isType loadHead
      exact wpAny_bind (wpAny_loadPart (k _ _ (X _ _ ho)) (wpAny_pure q))
    · cases hcD
  unfold excMatches isInstance isExcClass
  refine wpAny_bind (wpAny_bind (L3.at ?_))
  rw [f]
  refine wpAny_pure ?_
  rw [if_neg Bool.false_ne_true]
  refine wpAny_bind (wpAny_pure ?_)
  simp only [List.forIn_cons, List.forIn_nil]
  cases b with
  | true =>
    repeat (first | lk | wp_step)
    all_goals first | exact h | trace_state
  | false =>
    repeat (first | lk | wp_step)
    all_goals first | exact h | trace_state
end

/-! ### try: f(..) / except Y as n: suite -/
end L2
set_option linter.all false
namespace Tw
open PySem
/-- a thing of any kind, as a tree; odd: what is no number, text or tuple, by its type's name -/
inductive TG where
  | int (i : Int)
  | str (x : Str)
  | tup (l : List TG)
  | odd (n : String)
mutual
def TG.fits : TG → Nat → Bool
  | .int i, _ => decide (i.natAbs < 10 ^ 60)
  | .str x, _ => textOk x
  | .tup l, r => decide (0 < r) && (decide (l.length ≤ 4) && gfitsL l (r - 1))
  | .odd _, _ => false
def gfitsL : List TG → Nat → Bool
  | [], _ => true
  | t :: l, r => t.fits r && gfitsL l r
end
/-! no text in it is long, no tuple in it is wide -/
end Tw
set_option Elab.async false
set_option linter.all false
set_option maxRecDepth 100000
set_option maxHeartbeats 4000000
namespace L2
open PySem PySem.Spec PyProof.Rows
section
variable {X : Cx}
/-! ### more rules -/
theorem Inv.big {pins : List (Addr × Obj)} {σ : St} {H : Hp} {s : Shared} (I : Inv X pins σ H s) : sysModules < s.heap.objs.size := by
  have h : mainGlobals < s.heap.objs.size := (I.mod.glob.keeps I.bk).lt
  exact Nat.lt_trans (by decide) h
/-! ### isinstance of an exception that was caught -/
def cV : V → Value
  | .ty n => .type n
  | .ref a => .ref a
  | _ => .none
def isC : V → Bool
  | .ty _ => true
  | .ref _ => true
  | _ => false
theorem rel_cV {c : V} {u : Value} (r : RelV c u) (h : isC c = true) : u = cV c := by
  cases c with
  | ty n => exact r
  | ref a => exact r
  | _ => cases h
theorem vals_cV : ∀ {cs : List V} {us : List Value}, Vals cs us → (∀ c ∈ cs, isC c = true) → us = cs.map cV
  | _, _, .nil, _ => rfl
  | _, _, .cons r t, h => by rw [rel_cV r (h _ List.mem_cons_self), vals_cV t fun c hc => h c (List.mem_cons_of_mem _ hc)]; rfl
end
end L2
set_option Elab.async false
set_option linter.all false
set_option maxRecDepth 100000
set_option maxHeartbeats 4000000
namespace L2
open PySem PySem.Spec PyProof.Rows
/-! ### lists of pairs as tables -/
section
variable {κ : Type} [DecidableEq κ]
end


/-! ### a tracked dict, its keys ints and texts or tuples of these -/
/-- raw entries of a dict with tuple keys -/
abbrev KT (H : Hp) : List (List Key × V) → List (List Key × Addr × Value) → Prop := Paired fun p q => p.1 = q.1 ∧ H q.2.1 = some (.tup (p.1.map kV)) ∧ RelV p.2 q.2.2
section
variable {P : Program} {w : World} {H : Hp} {h : Heap} {a : Addr}
end

section
variable {X : Cx} {pins : List (Addr × Obj)} {σ : St} {H : Hp} {s : Shared} {a : Addr} {y v : V} {u r : Value} {o : Option V} {A : Around} {E : Value → Shared → Prop}


/-- a dict's object is replaced -/
theorem d_write {h' : Heap} {t' : Nat} {ob : HO} (I : Inv X pins σ H s) (mu : Mut (H a)) (hs : Heap.SameBut a s.heap h') (he : ∃ q, h'.get? a = some q) (new : ObjOk X.prog X.w (upd H a ob) h' a ob) :
    Inv X pins σ (upd H a ob) { s with heap := h', toks := t' } :=
  I.write (x := a) (e := a) mu (.inl rfl) (fun b q hb z => (hs.2 b hb).trans z) he new
end

section
variable {X : Cx} {pins : List (Addr × Obj)} {σ : St} {H : Hp} {s : Shared} {a : Addr} {kvs : List (Key × V)} {k : Key} {u : Value} {A : Around} {E : Value → Shared → Prop}
end


/-! ### readings and rules -/
/-- the element of a subscription, not a slice -/
def NoSl (i : Expr) : Prop := ∀ ov iv, subscripted i false ov iv = operate [ov, iv] (getItem ov iv)
theorem subD_of {prog : Program} {w : World} {A : Around} {E : Value → Shared → Prop} {s : Shared} {env : Env} {value slice : Expr} {pos : Pos} {T id : String} {Q : Value → Shared → Prop}
    (hl : typeLookup (.type T) "__getitem__" = pure (some (.builtin id))) (hs : NoSl slice)
    (h : wpAny (model prog w) A (eval value env) (fun o s₁ => wpAny (model prog w) A (eval slice env) (fun i s₂ => s₂.TypeIs o T ∧ wpAny (model prog w) A (getItem o i) Q E s₂) E s₁) E s) :
    wpAny (model prog w) A (eval (.Subscript value slice pos) env) Q E s := by
  refine Subscript_ (wpAny_mono h (fun o s₁ h₁ => wpAny_mono h₁ (fun i s₂ h₂ => ?_) fun _ _ x => x) fun _ _ x => x)
  obtain ⟨hT, h₂⟩ := h₂
  unfold subscriptTail
  refine wpAny_bind ?_
  rw [getitemInPython_of_ne hT.not_modules]
  refine wpAny_bind (wpAny_specialOf hT hl ?_)
  have fin : wpAny (model prog w) A (subscripted slice false o i) (fun r s₃ => wpAny (model prog w) A (letTemporaryGo value o r >>= fun _ => pure r) Q E s₃) E s₂ := by
    rw [hs o i]
    exact wpAny_operating (wpAny_mono h₂ (fun r s₃ h₃ => wpAny_bind (wpAny_letTemporaryGo (wpAny_pure h₃))) fun _ _ x => x)
  first
    | exact wpAny_pure (wpAny_bind fin)
    | exact wpAny_bind (wpAny_pure (wpAny_bind fin))
    | exact wpAny_bind fin

section
variable {X : Cx} {o i e value : Expr} {pos pos' tpos : Pos} {td ty tv : TE}
end


/-! ### displays -/
section
variable {X : Cx} {pos : Pos}
end

/-! ### methods -/
/-- a method call o.m(e) of a built-in, with one argument: what must be seen of the text -/
structure M1 (X : Cx) (o : Expr) (m : Str) (apos : Pos) (e : Expr) (cpos : Pos) : Prop where
  base : attributeBase o m X.env (eval o X.env) = eval o X.env
  few : ((backTo cpos (starEach [e] X.env)).all (fun x => !x.1) && (backToKw cpos (keywordEach [] X.env)).all (fun x => x.1.isSome)
    && decide (([e] : List Expr).length + ([] : List Keyword).length + (if ([] : List Keyword).isEmpty then 0 else 1) < 30)) = true
  line : (apos.endLine == cpos.line) = true
  trees : backTo cpos (starEach [e] X.env) = [(false, eval e X.env)]
structure M2 (X : Cx) (o : Expr) (m : Str) (apos : Pos) (e f : Expr) (cpos : Pos) : Prop where
  base : attributeBase o m X.env (eval o X.env) = eval o X.env
  few : ((backTo cpos (starEach [e, f] X.env)).all (fun x => !x.1) && (backToKw cpos (keywordEach [] X.env)).all (fun x => x.1.isSome)
    && decide (([e, f] : List Expr).length + ([] : List Keyword).length + (if ([] : List Keyword).isEmpty then 0 else 1) < 30)) = true
  line : (apos.endLine == cpos.line) = true
  trees : backTo cpos (starEach [e, f] X.env) = [(false, eval e X.env), (false, eval f X.env)]

section
variable {X : Cx} {pins : List (Addr × Obj)} {σ : St} {H : Hp} {s : Shared} {a : Addr} {y d : V} {u r : Value} {o : Option V} {A : Around} {E : Value → Shared → Prop}
end

section
variable {X : Cx} {o e f : Expr} {apos cpos : Pos} {td ty tx : TE}
end

/-! ### dict(d): a copy -/
section
variable {X : Cx} {pins : List (Addr × Obj)} {σ : St} {H : Hp} {s : Shared} {a : Addr} {kvs : List (Key × V)} {A : Around} {E : Value → Shared → Prop}
end


section
variable {X : Cx} {pins : List (Addr × Obj)} {σ : St} {H : Hp} {s : Shared} {a : Addr} {y : V} {u : Value} {A : Around} {E : Value → Shared → Prop}
end
section
variable {X : Cx}
end
/-! ### a dict's pairs: keys that differ -/
section
variable {κ : Type} [DecidableEq κ]
end
end L2
set_option Elab.async false
set_option linter.all false
set_option maxRecDepth 100000
set_option maxHeartbeats 4000000
namespace Tw
open PySem PySem.Spec L2 PyProof.Rows
/-! ### dicts whose keys are keys of any kind -/
def dkO (d : Addr) (es : Array DictEntry) : HO := .ext fun h => (d == sysModules) = false ∧ es.size ≤ sizeLine ∧ ∃ o ep, h.get? d = some o ∧ o.ExactDict ∧ o.data = .dict es ep
abbrev QRel (w : World) (x : KT × V × V) (e : DictEntry) : Prop := e.hash = hashK w x.1 ∧ RelV x.2.1 e.key ∧ RelV x.2.2 e.val
structure DkAt (w : World) (H : Hp) (d : Addr) (xs : List (KT × V × V)) : Prop where
  ex : ∃ es, H d = some (dkO d es) ∧ Paired (QRel w) xs es.toList
  key : ∀ x ∈ xs, KeyAt H x.1 x.2.1 ∧ x.1.depth ≤ 3
  nd : (xs.map (·.1)).Nodup
theorem dk_ok {P : Program} {w : World} {H : Hp} {h : Heap} {d : Addr} {es : Array DictEntry} (h1 : (d == sysModules) = false) (h2 : es.size ≤ sizeLine) (h3 : ∃ o ep, h.get? d = some o ∧ o.ExactDict ∧ o.data = .dict es ep) : ObjOk P w H h d (dkO d es) := by
  refine ⟨⟨h1, h2, h3⟩, ?_, ?_⟩
  · obtain ⟨o, ep, g, _⟩ := h3
    exact ⟨o, g⟩
  · rintro a b ⟨q1, q2, o, ep, g, r⟩ k
    exact ⟨q1, q2, o, ep, k o g, r⟩
theorem paired_right {α β : Type} {F : α → β → Prop} : ∀ {l : List α} {m : List β} {i : Nat} {b : β}, Paired F l m → m[i]? = some b → ∃ a, l[i]? = some a ∧ F a b
  | _, _, _, _, .nil, e => by simp at e
  | _, _, 0, _, .cons r _, e => by simp at e; subst e; exact ⟨_, rfl, r⟩
  | _, _, i + 1, b, .cons _ t, e => by
    obtain ⟨a, h1, h2⟩ := paired_right (i := i) (b := b) t (by simpa using e)
    exact ⟨a, by simpa using h1, h2⟩
theorem paired_of {α β : Type} {F : α → β → Prop} : ∀ {l : List α} {m : List β}, l.length = m.length → (∀ (i : Nat) a b, l[i]? = some a → m[i]? = some b → F a b) → Paired F l m
  | [], [], _, _ => .nil
  | [], _ :: _, h, _ => by simp at h
  | _ :: _, [], h, _ => by simp at h
  | a :: l, b :: m, h, f => .cons (f 0 a b rfl rfl) (paired_of (by simpa using h) fun i x y hx hy => f (i + 1) x y (by simpa using hx) (by simpa using hy))
theorem paired_snoc {α β : Type} {F : α → β → Prop} {a : α} {b : β} (h : F a b) : ∀ {l : List α} {m : List β}, Paired F l m → Paired F (l ++ [a]) (m ++ [b])
  | _, _, .nil => .cons h .nil
  | _, _, .cons r t => .cons r (paired_snoc h t)
def valQ (xs : List (KT × V × V)) (t : KT) : Option V := (xs.find? fun x => x.1.eqb t).map (·.2.2)
def setQ (t : KT) (v : V) (x : KT × V × V) : KT × V × V := if x.1.eqb t = true then (x.1, x.2.1, v) else x
def putQ (xs : List (KT × V × V)) (t : KT) (y v : V) : List (KT × V × V) := if (xs.any fun x => x.1.eqb t) = true then xs.map (setQ t v) else xs ++ [(t, y, v)]
theorem any_key {xs : List (KT × V × V)} {t : KT} : (xs.any fun x => x.1.eqb t) = true ↔ t ∈ xs.map (·.1) := by
  rw [List.any_eq_true, List.mem_map]
  constructor
  · rintro ⟨x, hx, e⟩
    exact ⟨x, hx, eqb_eq _ _ e⟩
  · rintro ⟨x, hx, e⟩
    exact ⟨x, hx, by rw [e]; exact eqb_self _⟩
theorem setQ_key (t : KT) (v : V) (x : KT × V × V) : (setQ t v x).1 = x.1 ∧ (setQ t v x).2.1 = x.2.1 := by
  unfold setQ
  split <;> exact ⟨rfl, rfl⟩
theorem putQ_keys (xs : List (KT × V × V)) (t : KT) (y v : V) : (putQ xs t y v).map (·.1) = if (xs.any fun x => x.1.eqb t) = true then xs.map (·.1) else xs.map (·.1) ++ [t] := by
  unfold putQ
  split
  · rw [List.map_map]
    exact List.map_congr_left fun x _ => (setQ_key t v x).1
  · rw [List.map_append]
    rfl
theorem putQ_len (xs : List (KT × V × V)) (t : KT) (y v : V) : (putQ xs t y v).length ≤ xs.length + 1 := by
  have := congrArg List.length (putQ_keys xs t y v)
  rw [List.length_map] at this
  rw [this]
  split
  · rw [List.length_map]; omega
  · rw [List.length_append, List.length_map]; simp
theorem valQ_at {xs : List (KT × V × V)} (nd : (xs.map (·.1)).Nodup) {j : Nat} {x : KT × V × V} (e : xs[j]? = some x) : valQ xs x.1 = some x.2.2 := by
  induction xs generalizing j with
  | nil => simp at e
  | cons z xs ih =>
    rw [List.map_cons, List.nodup_cons] at nd
    cases j with
    | zero =>
      simp at e
      subst e
      simp [valQ, eqb_self]
    | succ j =>
      have e' : xs[j]? = some x := by simpa using e
      have hne : z.1.eqb x.1 = false := by
        cases q : z.1.eqb x.1 with
        | false => rfl
        | true => exact absurd (List.mem_map.mpr ⟨x, List.mem_of_getElem? e', (eqb_eq _ _ q).symm⟩) nd.1
      have := ih nd.2 e'
      simpa [valQ, List.find?_cons, hne] using this
theorem valQ_none {xs : List (KT × V × V)} {t : KT} (h : t ∉ xs.map (·.1)) : valQ xs t = none := by
  unfold valQ
  rw [Option.map_eq_none_iff, List.find?_eq_none]
  intro x hx z
  exact h (List.mem_map.mpr ⟨x, hx, eqb_eq _ _ z⟩)
theorem DkAt.same {w : World} {H H' : Hp} {d : Addr} {xs : List (KT × V × V)} (x : DkAt w H d xs) (s : Same H H') : DkAt w H' d xs := by
  obtain ⟨es, h1, h2⟩ := x.ex
  exact ⟨⟨es, s _ _ h1, h2⟩, fun z hz => ⟨(x.key z hz).1.mono (Same.tups s), (x.key z hz).2⟩, x.nd⟩
theorem DkAt.but {w : World} {H H' : Hp} {d p : Addr} {xs : List (KT × V × V)} (x : DkAt w H d xs) (s : SameX p H H') (t : Tups H H') (n : d ≠ p) : DkAt w H' d xs := by
  obtain ⟨es, h1, h2⟩ := x.ex
  exact ⟨⟨es, s _ _ h1 n, h2⟩, fun z hz => ⟨(x.key z hz).1.mono t, (x.key z hz).2⟩, x.nd⟩
section
variable {X : Cx} {pins : List (Addr × Obj)} {σ : L2.St} {H : Hp} {s : Shared} {A : Around} {E : Value → Shared → Prop}
theorem DkAt.es {d : Addr} {xs : List (KT × V × V)} {es : Array DictEntry} (I : Inv X pins σ H s) (x : DkAt X.w H d xs) (r : Paired (QRel X.w) xs es.toList) : EsK X.w s.heap (xs.map (·.1)) es := by
  refine ⟨by have := Paired.length r; simpa using this.symm, fun i e he => ?_, x.nd⟩
  rw [← Array.getElem?_toList] at he
  obtain ⟨z, e1, e2, e3, e4⟩ := paired_right r he
  have hz := x.key z (List.mem_of_getElem? e1)
  exact ⟨z.1, by rw [List.getElem?_map, e1]; rfl, e2, kval_of I _ _ _ hz.1 e3, hz.2⟩
theorem q_find {d : Addr} {xs : List (KT × V × V)} {es : Array DictEntry} {o : Obj} {ep : Nat} {t : KT} {y : V} {u : Value} {Q : Option Nat → Shared → Prop} (I : Inv X pins σ H s) (x : DkAt X.w H d xs) (r : Paired (QRel X.w) xs es.toList) (ho : s.heap.get? d = some o) (hd : o.data = .dict es ep) (hy : KeyAt H t y) (dt : t.depth ≤ 3) (ry : RelV y u) (hu : A.units + 3 < cLine)
    (hno : t ∉ xs.map (·.1) → Q none s) (hyes : ∀ j z e, xs[j]? = some z → z.1 = t → es[j]? = some e → QRel X.w z e → Q (some j) s) : wpAny (model X.prog X.w) A (dictFind d u (hashK X.w t)) Q E s := by
  refine kd_find (kval_of I t y u hy ry) dt hu ho hd (x.es I r) hno fun j hj => ?_
  rw [List.getElem?_map] at hj
  obtain ⟨z, e1, e2⟩ := Option.map_eq_some_iff.mp hj
  have lt : j < es.size := by
    have := Paired.length r
    obtain ⟨a, _⟩ := List.getElem?_eq_some_iff.mp e1
    simp at this
    omega
  have e3 : es[j]? = some es[j] := Array.getElem?_eq_getElem lt
  obtain ⟨z', e4, e5⟩ := paired_right r (by rw [Array.getElem?_toList]; exact e3)
  rw [e1] at e4
  cases e4
  exact hyes j z _ e1 e2 e3 e5
/-- d[y] = v -/
theorem q_set {d : Addr} {xs : List (KT × V × V)} {t : KT} {y v : V} {u r : Value} {Q : Unit → Shared → Prop} (hu : A.units + 4 < cLine) (I : Inv X pins σ H s) (x : DkAt X.w H d xs) (hl : xs.length < 1000) (hy : KeyAt H t y) (dt : t.depth ≤ 3) (ry : RelV y u) (rv : RelV v r)
    (h : ∀ s' H', Inv X pins σ H' s' → SameX d H H' → DkAt X.w H' d (putQ xs t y v) → Q () s') : wpAny (model X.prog X.w) A (setItem (.ref d) u r) Q E s := by
  obtain ⟨es, hH, rel⟩ := x.ex
  obtain ⟨⟨hsys, hsz, o, ep, ho, hx, hd⟩, _⟩ := I.hok d _ hH
  have len : es.size = xs.length := by have := Paired.length rel; simpa using this.symm
  have hT : s.TypeIs (.ref d) "dict" := ⟨o, ho, hx.1⟩
  unfold setItem
  try with_reducible refine wpAny_holding ?_
  refine wpAny_bind (wpAny_sequenceKey hT (by decide) ?_)
  refine wpAny_bind (wpAny_callSpecial?_slot (name := Str.ofString "__setitem__") hT slot_dict_setitem (wpAny_call_entry slot_dict_setitem hT entry_dict_setitem ?_ (args_dict_setitem _ _ _)))
  show wpAny _ _ (Builtin.Dict.notOrdered "__setitem__" ⟨[.ref d, u, r], []⟩ >>= _) _ _ s
  refine wpAny_bind (wpAny_notOrdered_dict hT ?_)
  show wpAny _ _ (dictSet d u r >>= _) _ _ s
  refine wpAny_bind ?_
  unfold dictSet
  try with_reducible refine wpAny_holding ?_
  refine wpAny_bind (kv_hash t.depth t (Nat.le_refl _) (kval_of I t y u hy ry) (by show A.units + 1 + _ < _; omega) fun tk htk => ?_)
  unfold dictSetHashed
  try with_reducible refine wpAny_holding ?_
  have I1 : Inv X pins σ H { s with toks := tk } := I.tok tk
  have mu : Mut (H d) := by rw [hH]; exact True.intro
  have tups : ∀ es', Tups H (upd H d (dkO d es')) := fun es' b ws e => by rw [upd_ne (ne_of e hH (by intro z; cases z))]; exact e
  have fin : ∀ (es' : Array DictEntry) (h' : Heap), es'.size ≤ sizeLine → Heap.SameBut d s.heap h' → (∃ o ep, h'.get? d = some o ∧ o.ExactDict ∧ o.data = .dict es' ep) → Paired (QRel X.w) (putQ xs t y v) es'.toList → Q () { s with heap := h', toks := tk } := fun es' h' hz hs hob hp => by
    refine h _ (upd H d (dkO d es')) (d_write I mu hs (by obtain ⟨o, _, g, _⟩ := hob; exact ⟨o, g⟩) (dk_ok hsys hz hob)) (fun b o e n => by rw [upd_ne n]; exact e) ⟨⟨es', upd_same, hp⟩, fun z hz => ?_, ?_⟩
    · unfold putQ at hz
      split at hz
      · obtain ⟨z', hz', rfl⟩ := List.mem_map.mp hz
        rw [(setQ_key t v z').1, (setQ_key t v z').2]
        exact ⟨(x.key z' hz').1.mono (tups es'), (x.key z' hz').2⟩
      · rcases List.mem_append.mp hz with q | q
        · exact ⟨(x.key z q).1.mono (tups es'), (x.key z q).2⟩
        · rw [List.mem_singleton.mp q]
          exact ⟨hy.mono (tups es'), dt⟩
    · rw [putQ_keys]
      split
      · exact x.nd
      · rename_i hn
        rw [List.nodup_append]
        exact ⟨x.nd, by simp, fun a ha b hb => by rw [List.mem_singleton.mp hb]; exact fun z => hn (any_key.mpr (z ▸ ha))⟩
  refine wpAny_bind (q_find (A := A.in1) I1 x rel ho hd hy dt ry (by show A.units + 1 + 3 < _; omega) (fun hn => ?_) fun j z e e1 e2 e3 e4 => ?_)
  · have hn' : ¬ (xs.any fun x => x.1.eqb t) = true := fun q => hn (any_key.mp q)
    refine wpAny_bind (wpAny_rule (wpAny_updateDictKeys (s := { s with toks := tk }) (hz := hsz) ho hd ?_))
    refine wpAny_pure ⟨.none, rfl, wpAny_pure (fin (es.push ⟨hashK X.w t, u, r⟩) _ (by rw [Array.size_push, len]; exact Nat.le_of_lt (small1000 (by omega))) (Heap.SameBut.update ..) ⟨_, ep + 1, Heap.get?_update_self _ ho (Obj.isFreed_of_dict (Obj.data_mapDictKeys hd _)), hx.mapDictKeys _, Obj.data_mapDictKeys hd _⟩ ?_)⟩
    unfold putQ
    rw [if_neg hn', Array.toList_push]
    exact paired_snoc ⟨rfl, ry, rv⟩ rel
  · have hn' : (xs.any fun x => x.1.eqb t) = true := any_key.mpr (List.mem_map.mpr ⟨z, List.mem_of_getElem? e1, e2⟩)
    refine wpAny_bind (wpAny_rule (wpAny_bind (wpAny_updateDict (s := { s with toks := tk }) ho hd (wpAny_point ?_))))
    refine wpAny_pure ⟨.none, rfl, wpAny_pure (fin (es.modify j fun e => { e with val := r }) _ (by rw [Array.size_modify]; exact hsz) (Heap.SameBut.update ..) ⟨_, ep, Heap.get?_update_self _ ho (Obj.isFreed_of_dict (Obj.data_mapDict hd _)), hx.mapDict _, Obj.data_mapDict hd _⟩ ?_)⟩
    unfold putQ
    rw [if_pos hn']
    have lm : (es.modify j fun e => { e with val := r }).toList.length = es.size := by rw [Array.length_toList]; exact Array.size_modify
    refine paired_of (by rw [lm, List.length_map, len]) fun i a b ha hb => ?_
    rw [List.getElem?_map] at ha
    obtain ⟨a', ea, rfl⟩ := Option.map_eq_some_iff.mp ha
    rw [Array.getElem?_toList, Array.getElem?_modify] at hb
    have hes : es[i]? = some (es[i]'(by obtain ⟨l1, _⟩ := List.getElem?_eq_some_iff.mp ea; omega)) := Array.getElem?_eq_getElem _
    obtain ⟨a2, ea2, r1, r2, r3⟩ := paired_right rel (by rw [Array.getElem?_toList]; exact hes)
    rw [ea] at ea2
    cases ea2
    rw [hes] at hb
    by_cases hij : j = i
    · subst hij
      rw [if_pos rfl, Option.map_some] at hb
      cases hb
      rw [e1] at ea
      cases ea
      unfold setQ
      rw [e2, eqb_self, if_pos rfl]
      rw [e2] at r1
      exact ⟨r1, r2, rv⟩
    · rw [if_neg hij] at hb
      cases hb
      have hne : a'.1.eqb t = false := by
        cases q : a'.1.eqb t with
        | false => rfl
        | true =>
          have q1 : (xs.map (·.1))[i]? = some t := by rw [List.getElem?_map, ea]; exact congrArg some (eqb_eq _ _ q)
          have q2 : (xs.map (·.1))[j]? = some t := by rw [List.getElem?_map, e1]; exact congrArg some e2
          obtain ⟨l1, _⟩ := List.getElem?_eq_some_iff.mp q2
          exact absurd ((List.getElem?_inj l1 x.nd).mp (q2.trans q1.symm)) hij
      unfold setQ
      rw [hne, if_neg Bool.false_ne_true]
      exact ⟨r1, r2, r3⟩
end
end Tw
set_option Elab.async false
set_option linter.all false
set_option maxRecDepth 100000
set_option maxHeartbeats 2000000
namespace Srt
open PySem PySem.W PyProof.Rows
/-! ### the sort's questions, answered by an order, lead to a sorted list -/
/-- answers that are an order's -/
structure Ans (lt : Nat → Nat → Bool) : Prop where
  asym : ∀ i j, lt i j = true → lt j i = false
  trans : ∀ i j k, lt j i = false → lt k j = false → lt k i = false
def gt (p : Array Nat) (i : Nat) : Nat := p.getD i 0
theorem gt_eq (p : Array Nat) (i : Nat) : gt p i = (p[i]?).getD 0 := by unfold gt; rw [Array.getD_eq_getD_getElem?]
theorem gt_rev {p : Array Nat} {i j : Nat} (hj : j ≤ p.size) (k : Nat) : gt (kas_rev p i j) k = if i ≤ k ∧ k < j then gt p (i + j - 1 - k) else gt p k := by
  rw [gt_eq, gt_eq, gt_eq]
  unfold kas_rev
  rw [getElem?_mirror_all hj]
  split <;> rfl
theorem gt_bub {p : Array Nat} {k l : Nat} (hk : k < p.size) (hl : l ≤ k) (x : Nat) : gt (bubble p k (k - l)) x = if x = l then gt p k else if l < x ∧ x ≤ k then gt p (x - 1) else gt p x := by
  rw [gt_eq, gt_eq, gt_eq, gt_eq, getElem?_bubble hk (k - l) (by omega)]
  have e : k - (k - l) = l := by omega
  rw [e]
  split
  · rfl
  · split <;> rfl
/-- all of range n -/
def PB (n : Nat) (p : Array Nat) : Prop := p.Perm (List.toArray (List.range n))
theorem PB.size {n : Nat} {p : Array Nat} (h : PB n p) : p.size = n := by rw [h.size_eq]; simp
theorem PB.lt {n : Nat} {p : Array Nat} (h : PB n p) {i : Nat} (hi : i < n) : gt p i < n := by
  have hs := h.size
  rw [gt_eq, Array.getElem?_eq_getElem (by omega)]
  have : p[i]'(by omega) ∈ (List.toArray (List.range n)) := h.mem_iff.mp (Array.getElem_mem _)
  simpa using this
theorem PB.rev {n : Nat} {p : Array Nat} (h : PB n p) (i j : Nat) : PB n (kas_rev p i j) := (mirror_perm _ _ _ _).trans h
theorem PB.bub {n : Nat} {p : Array Nat} (h : PB n p) (i j : Nat) : PB n (bubble p i j) := (bubble_perm _ _ _).trans h
section
variable {lt : Nat → Nat → Bool} {n : Nat} {cmp : Nat → Nat → (Bool → Shared → Prop) → Shared → Prop} {s : Shared}
def SortedTo (lt : Nat → Nat → Bool) (p : Array Nat) (k : Nat) : Prop := ∀ i j, i ≤ j → j < k → lt (gt p j) (gt p i) = false
def NonInc (lt : Nat → Nat → Bool) (p : Array Nat) (k : Nat) : Prop := ∀ i j, i ≤ j → j < k → lt (gt p i) (gt p j) = false
theorem Ans.irr (O : Ans lt) (i : Nat) : lt i i = false := by
  cases h : lt i i with
  | false => rfl
  | true => exact absurd (O.asym i i h) (by rw [h]; decide)
def Right (lt : Nat → Nat → Bool) (n : Nat) (cmp : Nat → Nat → (Bool → Shared → Prop) → Shared → Prop) (s : Shared) : Prop := ∀ i j, i < n → j < n → ∀ C : Bool → Shared → Prop, C (lt i j) s → cmp i j C s
theorem asc_ok (O : Ans lt) (hc : Right lt n cmp s) {p : Array Nat} (hp : PB n p) : ∀ (f m N : Nat) (Q : Nat → Shared → Prop), f + m = N → N ≤ n → 1 ≤ m → SortedTo lt p m →
    (∀ m', m ≤ m' → m' ≤ N → SortedTo lt p m' → (m' = N ∨ lt (gt p m') (gt p (m' - 1)) = true) → Q m' s) → (kas_asc p f m).kasWp cmp Q s
  | 0, m, N, Q, h1, h2, h3, hs, hq => hq m (Nat.le_refl _) (by omega) hs (.inl (by omega))
  | f + 1, m, N, Q, h1, h2, h3, hs, hq => by
    refine hc _ _ (hp.lt (i := m) (by omega)) (hp.lt (i := m - 1) (by omega)) _ ?_
    show (if lt (gt p m) (gt p (m - 1)) = true then KasT.ret m else kas_asc p f (m + 1)).kasWp cmp Q s
    cases hl : lt (gt p m) (gt p (m - 1)) with
    | true => rw [if_pos rfl]; exact hq m (Nat.le_refl _) (by omega) hs (.inr hl)
    | false =>
      rw [if_neg Bool.false_ne_true]
      refine asc_ok O hc hp f (m + 1) N Q (by omega) h2 (by omega) (fun i j hij hj => ?_) fun m' g1 g2 g3 g4 => hq m' (by omega) g2 g3 g4
      rcases Nat.lt_or_ge j m with h | h
      · exact hs i j hij h
      · have ej : j = m := by omega
        subst ej
        rcases Nat.lt_or_ge i j with h' | h'
        · exact O.trans _ _ _ (hs i (j - 1) (by omega) (by omega)) hl
        · have : i = j := by omega
          rw [this]; exact O.irr _
/-- the last q + 1 of the first m are alike -/
def Flat (lt : Nat → Nat → Bool) (p : Array Nat) (m q : Nat) : Prop := q + 1 ≤ m ∧ ∀ i j, m - (q + 1) ≤ i → i < m → m - (q + 1) ≤ j → j < m → lt (gt p i) (gt p j) = false
theorem flat_rev (O : Ans lt) {p : Array Nat} {m q : Nat} (hm : m ≤ p.size) (hf : Flat lt p m q) (hn : NonInc lt p m) : NonInc lt (kas_rev p (m - (q + 1)) m) m := by
  obtain ⟨h1, h2⟩ := hf
  have g (k : Nat) := gt_rev (p := p) (i := m - (q + 1)) hm k
  intro i j hij hj
  rw [g i, g j]
  split
  · rename_i c1
    rw [if_pos ⟨by omega, by omega⟩]
    exact h2 _ _ (by omega) (by omega) (by omega) (by omega)
  · rename_i c1
    split
    · exact hn _ _ (by omega) (by omega)
    · exact hn _ _ hij hj
theorem desc_ok (O : Ans lt) (hc : Right lt n cmp s) : ∀ (f : Nat) (p : Array Nat) (m q N : Nat) (Q : Array Nat × Nat × Nat → Shared → Prop), PB n p → f + m = N → N ≤ n → NonInc lt p m → Flat lt p m q →
    (∀ p' m' q', PB n p' → m ≤ m' → m' ≤ N → NonInc lt p' m' → Flat lt p' m' q' → Q (p', m', q') s) → (kas_desc f p m q).kasWp cmp Q s
  | 0, p, m, q, N, Q, hp, h1, h2, hn, hf, hq => hq p m q hp (Nat.le_refl _) (by omega) hn hf
  | f + 1, p, m, q, N, Q, hp, h1, h2, hn, hf, hq => by
    have hf1 := hf.1
    have hs := hp.size
    refine hc _ _ (hp.lt (i := m) (by omega)) (hp.lt (i := m - 1) (by omega)) _ ?_
    show (if lt (gt p m) (gt p (m - 1)) = true then (if q > 0 then kas_desc f (kas_rev p (m - (q + 1)) m) (m + 1) 0 else kas_desc f p (m + 1) 0) else .ask (p.getD (m - 1) 0) (p.getD m 0) fun d => if d = true then .ret (p, m, q) else kas_desc f p (m + 1) (q + 1) : KasT _).kasWp cmp Q s
    have more : ∀ p' : Array Nat, PB n p' → NonInc lt p' m → gt p' m = gt p m → lt (gt p m) (gt p (m - 1)) = true → (∀ i, i < m → lt (gt p' i) (gt p (m - 1)) = false) → NonInc lt p' (m + 1) := fun p' _ hn' e hl hb i j hij hj => by
      rcases Nat.lt_or_ge j m with h | h
      · exact hn' i j hij h
      · have ej : j = m := by omega
        subst ej
        rcases Nat.lt_or_ge i j with h' | h'
        · rw [e]
          exact O.trans _ _ _ (O.asym _ _ hl) (hb i h')
        · have : i = j := by omega
          rw [this]; exact O.irr _
    cases hl : lt (gt p m) (gt p (m - 1)) with
    | true =>
      rw [if_pos rfl]
      split
      · have hn' := flat_rev O (by omega) hf hn
        have g (k : Nat) := gt_rev (p := p) (i := m - (q + 1)) (j := m) (by omega) k
        refine desc_ok O hc f _ (m + 1) 0 N Q (hp.rev _ _) (by omega) h2 (more _ (hp.rev _ _) hn' (by rw [g m, if_neg (by omega)]) hl fun i hi => ?_) ⟨by omega, fun i j a1 a2 a3 a4 => ?_⟩ fun p' m' q' b1 b2 b3 b4 b5 => hq p' m' q' b1 (by omega) b3 b4 b5
        · rw [g i]
          split
          · exact hf.2 _ _ (by omega) (by omega) (by omega) (by omega)
          · exact hn _ _ (by omega) (by omega)
        · have : i = j := by omega
          rw [this]; exact O.irr _
      · refine desc_ok O hc f _ (m + 1) 0 N Q hp (by omega) h2 (more _ hp hn rfl hl fun i hi => hn _ _ (by omega) (by omega)) ⟨by omega, fun i j a1 a2 a3 a4 => ?_⟩ fun p' m' q' b1 b2 b3 b4 b5 => hq p' m' q' b1 (by omega) b3 b4 b5
        have : i = j := by omega
        rw [this]; exact O.irr _
    | false =>
      rw [if_neg Bool.false_ne_true]
      refine hc _ _ (hp.lt (i := m - 1) (by omega)) (hp.lt (i := m) (by omega)) _ ?_
      show (if lt (gt p (m - 1)) (gt p m) = true then KasT.ret (p, m, q) else kas_desc f p (m + 1) (q + 1)).kasWp cmp Q s
      cases hd : lt (gt p (m - 1)) (gt p m) with
      | true => rw [if_pos rfl]; exact hq p m q hp (Nat.le_refl _) (by omega) hn hf
      | false =>
        rw [if_neg Bool.false_ne_true]
        refine desc_ok O hc f _ (m + 1) (q + 1) N Q hp (by omega) h2 (fun i j hij hj => ?_) ⟨by omega, fun i j a1 a2 a3 a4 => ?_⟩ fun p' m' q' b1 b2 b3 b4 b5 => hq p' m' q' b1 (by omega) b3 b4 b5
        · rcases Nat.lt_or_ge j m with h | h
          · exact hn i j hij h
          · have ej : j = m := by omega
            subst ej
            rcases Nat.lt_or_ge i j with h' | h'
            · exact O.trans _ _ _ hd (hn i (j - 1) (by omega) (by omega))
            · have : i = j := by omega
              rw [this]; exact O.irr _
        · rcases Nat.lt_or_ge i m with h | h
          · rcases Nat.lt_or_ge j m with h' | h'
            · exact hf.2 i j (by omega) h (by omega) h'
            · have ej : j = m := by omega
              subst ej
              exact O.trans _ _ _ hd (hf.2 i (j - 1) (by omega) h (by omega) (by omega))
          · have ei : i = m := by omega
            subst ei
            rcases Nat.lt_or_ge j i with h' | h'
            · exact O.trans _ _ _ (hf.2 (i - 1) j (by omega) (by omega) (by omega) h') hl
            · have : i = j := by omega
              rw [this]; exact O.irr _
theorem rev_sorted {p : Array Nat} {m : Nat} (hm : m ≤ p.size) (hn : NonInc lt p m) : SortedTo lt (kas_rev p 0 m) m := fun i j hij hj => by
  have g (k : Nat) := gt_rev (p := p) (i := 0) hm k
  rw [g i, g j, if_pos ⟨by omega, by omega⟩, if_pos ⟨by omega, by omega⟩]
  exact hn _ _ (by omega) (by omega)
theorem tail3_ok (O : Ans lt) (hc : Right lt n cmp s) {p : Array Nat} (hp : PB n p) {m N : Nat} {Q : Nat × Array Nat → Shared → Prop} (h1 : 1 ≤ m) (h2 : m ≤ N) (h3 : N ≤ n) (hn : NonInc lt p m)
    (hq : ∀ m' p', PB n p' → 1 ≤ m' → m' ≤ N → SortedTo lt p' m' → Q (m', p') s) : (kas_tail3 m N p).kasWp cmp Q s := by
  unfold kas_tail3
  rw [KasT.kasWp_bind]
  exact asc_ok O hc (hp.rev 0 m) (N - m) m N _ (by omega) h3 h1 (rev_sorted (by have := hp.size; omega) hn) fun m' g1 g2 g3 _ => hq m' _ (hp.rev 0 m) (by omega) g2 g3
theorem descPart_ok (O : Ans lt) (hc : Right lt n cmp s) {p : Array Nat} (hp : PB n p) {m N : Nat} {Q : Nat × Array Nat → Shared → Prop} (h2 : m + 1 ≤ N) (h3 : N ≤ n) (hn : NonInc lt p (m + 1))
    (hq : ∀ m' p', PB n p' → 1 ≤ m' → m' ≤ N → SortedTo lt p' m' → Q (m', p') s) : (kas_descPart m N p).kasWp cmp Q s := by
  unfold kas_descPart
  rw [KasT.kasWp_bind]
  refine desc_ok O hc (N - (m + 1)) p (m + 1) 0 N _ hp (by omega) h3 hn ⟨by omega, fun i j a1 a2 a3 a4 => ?_⟩ fun p' m' q' b1 b2 b3 b4 b5 => ?_
  · have : i = j := by omega
    rw [this]; exact O.irr _
  · have hs := b1.size
    show (if q' > 0 then kas_tail3 m' N (kas_rev p' (m' - (q' + 1)) m') else kas_tail3 m' N p').kasWp cmp Q s
    split
    · exact tail3_ok O hc (b1.rev _ _) (by omega) b3 h3 (flat_rev O (by omega) b5 b4) hq
    · exact tail3_ok O hc b1 (by omega) b3 h3 b4 hq
theorem count_ok (O : Ans lt) (hc : Right lt n cmp s) {p : Array Nat} (hp : PB n p) {Q : Nat × Array Nat → Shared → Prop} (h1 : 1 ≤ n)
    (hq : ∀ m' p', PB n p' → 1 ≤ m' → m' ≤ n → SortedTo lt p' m' → Q (m', p') s) : (kas_count n p).kasWp cmp Q s := by
  unfold kas_count
  rw [KasT.kasWp_bind]
  have hs := hp.size
  refine asc_ok O hc hp (n - 1) 1 n _ (by omega) (Nat.le_refl _) (Nat.le_refl _) (fun i j hij hj => ?_) fun m g1 g2 g3 g4 => ?_
  · have : i = j := by omega
    rw [this]; exact O.irr _
  · split
    · exact hq m p hp g1 g2 g3
    · rename_i hne
      have hm : m < n := by have : m ≠ n := fun e => hne (by rw [e]; simp); omega
      have hl : lt (gt p m) (gt p (m - 1)) = true := by
        rcases g4 with g4 | g4
        · omega
        · exact g4
      split
      · rename_i hgt
        refine hc _ _ (hp.lt (i := 0) (by omega)) (hp.lt (i := m - 1) (by omega)) _ ?_
        show (if lt (gt p 0) (gt p (m - 1)) = true then KasT.ret (m, p) else kas_descPart m n (kas_rev p 0 m)).kasWp cmp Q s
        cases h0 : lt (gt p 0) (gt p (m - 1)) with
        | true => rw [if_pos rfl]; exact hq m p hp g1 g2 g3
        | false =>
          rw [if_neg Bool.false_ne_true]
          -- all of the first m are alike
          have al : ∀ i j, i < m → j < m → lt (gt p i) (gt p j) = false := fun i j hi hj =>
            O.trans _ _ _ (g3 j (m - 1) (by omega) (by omega)) (O.trans _ _ _ h0 (g3 0 i (by omega) hi))
          have g (k : Nat) := gt_rev (p := p) (i := 0) (j := m) (by omega) k
          refine descPart_ok O hc (hp.rev 0 m) (by omega) (Nat.le_refl _) (fun i j hij hj => ?_) hq
          rw [g i, g j]
          rcases Nat.lt_or_ge j m with h | h
          · rw [if_pos ⟨by omega, by omega⟩, if_pos ⟨by omega, by omega⟩]
            exact al _ _ (by omega) (by omega)
          · have ej : j = m := by omega
            subst ej
            rcases Nat.lt_or_ge i j with h' | h'
            · rw [if_pos ⟨by omega, h'⟩, if_neg (by omega)]
              exact O.trans _ _ _ (O.asym _ _ hl) (al _ _ (by omega) (by omega))
            · have : i = j := by omega
              rw [this, if_neg (by omega)]; exact O.irr _
      · have em : m = 1 := by omega
        subst em
        refine descPart_ok O hc hp (by omega) (Nat.le_refl _) (fun i j hij hj => ?_) hq
        rcases Nat.lt_or_ge i j with h' | h'
        · have ei : i = 0 := by omega
          have ej : j = 1 := by omega
          subst ei ej
          exact O.asym _ _ hl
        · have : i = j := by omega
          rw [this]; exact O.irr _
theorem place_ok (O : Ans lt) (hc : Right lt n cmp s) {p : Array Nat} (hp : PB n p) {k : Nat} (hk : k < n) (hs : SortedTo lt p k) : ∀ (f l r : Nat) (Q : Nat → Shared → Prop), l ≤ r → r ≤ k → r - l ≤ f → (∀ i, i < l → lt (gt p k) (gt p i) = false) → (∀ i, r ≤ i → i < k → lt (gt p k) (gt p i) = true) →
    (∀ l', l' ≤ k → (∀ i, i < l' → lt (gt p k) (gt p i) = false) → (∀ i, l' ≤ i → i < k → lt (gt p k) (gt p i) = true) → Q l' s) → (kas_place p k f l r).kasWp cmp Q s
  | 0, l, r, Q, h1, h2, h3, a, b, hq => hq l (by omega) a fun i hi => b i (by omega)
  | f + 1, l, r, Q, h1, h2, h3, a, b, hq => by
    unfold kas_place
    split
    · exact hq l (by omega) a fun i hi => b i (by omega)
    · rename_i hlr
      refine hc _ _ (hp.lt (i := k) hk) (hp.lt (i := (l + r) / 2) (by omega)) _ ?_
      show (if lt (gt p k) (gt p ((l + r) / 2)) = true then kas_place p k f l ((l + r) / 2) else kas_place p k f ((l + r) / 2 + 1) r).kasWp cmp Q s
      cases hl : lt (gt p k) (gt p ((l + r) / 2)) with
      | true =>
        rw [if_pos rfl]
        refine place_ok O hc hp hk hs f l ((l + r) / 2) Q (by omega) (by omega) (by omega) a (fun i hi hik => ?_) hq
        -- p[mid] ≤ p[i], so pivot < p[i]
        cases h : lt (gt p k) (gt p i) with
        | true => rfl
        | false =>
          have := O.trans _ _ _ (hs ((l + r) / 2) i hi hik) h
          rw [hl] at this
          cases this
      | false =>
        rw [if_neg Bool.false_ne_true]
        refine place_ok O hc hp hk hs f ((l + r) / 2 + 1) r Q (by omega) h2 (by omega) (fun i hi => ?_) b hq
        exact O.trans _ _ _ (hs i ((l + r) / 2) (by omega) (by omega)) hl
theorem bin_ok (O : Ans lt) (hc : Right lt n cmp s) : ∀ (f : Nat) (p : Array Nat) (k : Nat) (Q : Array Nat → Shared → Prop), PB n p → f + k = n → 1 ≤ k → SortedTo lt p k → (∀ p', PB n p' → SortedTo lt p' n → Q p' s) → (kas_bin f p k).kasWp cmp Q s
  | 0, p, k, Q, hp, h1, h2, hs, hq => hq p hp (by rw [← h1, Nat.zero_add]; exact hs)
  | f + 1, p, k, Q, hp, h1, h2, hs, hq => by
    unfold kas_bin
    rw [KasT.kasWp_bind]
    have hz := hp.size
    refine place_ok O hc hp (by omega) hs k 0 k _ (Nat.zero_le _) (Nat.le_refl _) (by omega) (fun i hi => absurd hi (by omega)) (fun i hi hk => absurd hk (by omega)) fun l hl a b => ?_
    have g (x : Nat) := gt_bub (p := p) (k := k) (l := l) (by omega) hl x
    refine bin_ok O hc f _ (k + 1) Q (hp.bub _ _) (by omega) (by omega) (fun i j hij hj => ?_) hq
    rw [g i, g j]
    by_cases e1 : i = l
    · rw [if_pos e1]
      by_cases e2 : j = l
      · rw [if_pos e2]; exact O.irr _
      · rw [if_neg e2, if_pos ⟨by omega, by omega⟩]
        exact O.asym _ _ (b (j - 1) (by omega) (by omega))
    · rw [if_neg e1]
      by_cases e2 : j = l
      · rw [if_pos e2, if_neg (by omega)]
        exact a i (by omega)
      · rw [if_neg e2]
        by_cases c1 : l < i ∧ i ≤ k
        · rw [if_pos c1, if_pos ⟨by omega, by omega⟩]
          exact hs _ _ (by omega) (by omega)
        · rw [if_neg c1]
          by_cases c2 : l < j ∧ j ≤ k
          · rw [if_pos c2]
            exact hs _ _ (by omega) (by omega)
          · rw [if_neg c2]
            exact hs _ _ hij (by omega)
theorem sort_ok (O : Ans lt) (hc : Right lt n cmp s) (h1 : 1 ≤ n) {Q : Array Nat → Shared → Prop} (hq : ∀ p, PB n p → SortedTo lt p n → Q p s) : (kas_sort n).kasWp cmp Q s := by
  unfold kas_sort
  rw [KasT.kasWp_bind]
  refine count_ok O hc (p := List.toArray (List.range n)) (Array.Perm.refl _) h1 fun m p hp g1 g2 g3 => ?_
  show (if m < n then kas_bin (n - max m 1) p (max m 1) else .ret p : KasT _).kasWp cmp Q s
  split
  · have e : max m 1 = m := by omega
    rw [e]
    exact bin_ok O hc (n - m) p m Q hp (by omega) g1 g3 hq
  · have e : m = n := by omega
    subst e
    exact hq p hp g3
end
end Srt
set_option linter.all false
namespace Tw
open PySem
/-! ### the keys' order is a strict one in which all keys stand -/
theorem nat_asym : ∀ (l m : List Nat), l < m → ¬ m < l
  | [], [], h, _ => absurd h (List.not_lt_nil _)
  | [], _ :: _, _, h => absurd h (List.not_lt_nil _)
  | _ :: _, [], h, _ => absurd h (List.not_lt_nil _)
  | a :: l, b :: m, h, h' => by
    rw [List.cons_lt_cons_iff] at h h'
    rcases h with h | ⟨rfl, h⟩
    · rcases h' with h' | ⟨rfl, h'⟩
      · omega
      · omega
    · rcases h' with h' | ⟨_, h'⟩
      · omega
      · exact nat_asym l m h h'
theorem nat_total : ∀ (l m : List Nat), ¬ l < m → ¬ m < l → l = m
  | [], [], _, _ => rfl
  | [], _ :: _, h, _ => absurd (List.nil_lt_cons _ _) h
  | _ :: _, [], _, h => absurd (List.nil_lt_cons _ _) h
  | a :: l, b :: m, h, h' => by
    rw [List.cons_lt_cons_iff] at h h'
    have e : a = b := by
      rcases Nat.lt_trichotomy a b with c | c | c
      · exact absurd (.inl c) h
      · exact c
      · exact absurd (.inl c) h'
    subst e
    rw [nat_total l m (fun z => h (.inr ⟨rfl, z⟩)) fun z => h' (.inr ⟨rfl, z⟩)]
theorem nat_trans : ∀ (l m k : List Nat), l < m → m < k → l < k
  | _, _, [], _, h => absurd h (List.not_lt_nil _)
  | [], _, _ :: _, _, _ => List.nil_lt_cons _ _
  | _ :: _, [], _, h, _ => absurd h (List.not_lt_nil _)
  | a :: l, b :: m, c :: k, h, h' => by
    rw [List.cons_lt_cons_iff] at h h' ⊢
    rcases h with h | ⟨rfl, h⟩
    · rcases h' with h' | ⟨rfl, h'⟩
      · exact .inl (Nat.lt_trans h h')
      · exact .inl h
    · rcases h' with h' | ⟨rfl, h'⟩
      · exact .inl h'
      · exact .inr ⟨rfl, nat_trans l m k h h'⟩
theorem eqb_comm' (a b : KT) : a.eqb b = b.eqb a := by
  rw [Bool.eq_iff_iff, eqb_iff, eqb_iff]
  exact eq_comm
mutual
theorem lt_asym : ∀ (a b : KT), a.lt b = true → b.lt a = false
  | .int i, .int j, h => by rw [KT.lt] at h ⊢; have := of_decide_eq_true h; exact decide_eq_false (by omega)
  | .int _, .str _, _ => by rw [KT.lt]
  | .int _, .tup _, _ => by rw [KT.lt]
  | .str _, .int _, h => by rw [KT.lt] at h; cases h
  | .str x, .str y, h => by rw [KT.lt] at h ⊢; exact decide_eq_false (nat_asym _ _ (of_decide_eq_true h))
  | .str _, .tup _, _ => by rw [KT.lt]
  | .tup _, .int _, h => by rw [KT.lt] at h; cases h
  | .tup _, .str _, h => by rw [KT.lt] at h; cases h
  | .tup l, .tup m, h => by rw [KT.lt] at h ⊢; exact ltL_asym l m h
theorem ltL_asym : ∀ (l m : List KT), ltL l m = true → ltL m l = false
  | [], [], h => by rw [ltL] at h; cases h
  | [], _ :: _, _ => by rw [ltL]
  | _ :: _, [], h => by rw [ltL] at h; cases h
  | a :: l, b :: m, h => by
    rw [ltL] at h ⊢
    rw [eqb_comm' b a]
    cases e : a.eqb b with
    | true => rw [e, if_pos rfl] at h; rw [if_pos rfl]; exact ltL_asym l m h
    | false => rw [e, if_neg Bool.false_ne_true] at h; rw [if_neg Bool.false_ne_true]; exact lt_asym a b h
end
mutual
theorem lt_total : ∀ (a b : KT), a.lt b = false → b.lt a = false → a = b
  | .int i, .int j, h, h' => by rw [KT.lt] at h h'; have := of_decide_eq_false h; have := of_decide_eq_false h'; rw [show i = j by omega]
  | .int _, .str _, h, _ => by rw [KT.lt] at h; cases h
  | .int _, .tup _, h, _ => by rw [KT.lt] at h; cases h
  | .str _, .int _, _, h => by rw [KT.lt] at h; cases h
  | .str x, .str y, h, h' => by
    rw [KT.lt] at h h'
    have e := nat_total _ _ (of_decide_eq_false h) (of_decide_eq_false h')
    obtain ⟨⟨x⟩⟩ := x
    obtain ⟨⟨y⟩⟩ := y
    dsimp only at e
    rw [e]
  | .str _, .tup _, h, _ => by rw [KT.lt] at h; cases h
  | .tup _, .int _, _, h => by rw [KT.lt] at h; cases h
  | .tup _, .str _, _, h => by rw [KT.lt] at h; cases h
  | .tup l, .tup m, h, h' => by rw [KT.lt] at h h'; rw [ltL_total l m h h']
theorem ltL_total : ∀ (l m : List KT), ltL l m = false → ltL m l = false → l = m
  | [], [], _, _ => rfl
  | [], _ :: _, h, _ => by rw [ltL] at h; cases h
  | _ :: _, [], _, h => by rw [ltL] at h; cases h
  | a :: l, b :: m, h, h' => by
    rw [ltL] at h h'
    rw [eqb_comm' b a] at h'
    cases e : a.eqb b with
    | true => rw [e, if_pos rfl] at h h'; rw [eqb_iff.mp e, ltL_total l m h h']
    | false =>
      rw [e, if_neg Bool.false_ne_true] at h h'
      have := lt_total a b h h'
      rw [this, eqb_self] at e
      cases e
end
theorem lt_self (a : KT) : a.lt a = false := by
  cases h : a.lt a with
  | false => rfl
  | true => have := lt_asym a a h; rw [h] at this; cases this
mutual
theorem lt_trans' : ∀ (a b c : KT), a.lt b = true → b.lt c = true → a.lt c = true
  | .int i, .int j, .int k, h, h' => by rw [KT.lt] at h h' ⊢; have := of_decide_eq_true h; have := of_decide_eq_true h'; exact decide_eq_true (by omega)
  | .int _, _, .str _, _, _ => by rw [KT.lt]
  | .int _, _, .tup _, _, _ => by rw [KT.lt]
  | .str _, _, .tup _, _, _ => by rw [KT.lt]
  | .int _, .str _, .int _, _, h => by rw [KT.lt] at h; cases h
  | .int _, .tup _, .int _, _, h => by rw [KT.lt] at h; cases h
  | .str _, .int _, _, h, _ => by rw [KT.lt] at h; cases h
  | .str x, .str y, .str z, h, h' => by rw [KT.lt] at h h' ⊢; exact decide_eq_true (nat_trans _ _ _ (of_decide_eq_true h) (of_decide_eq_true h'))
  | .str _, .str _, .int _, _, h => by rw [KT.lt] at h; cases h
  | .str _, .tup _, .str _, _, h => by rw [KT.lt] at h; cases h
  | .str _, .tup _, .int _, _, h => by rw [KT.lt] at h; cases h
  | .tup _, .int _, _, h, _ => by rw [KT.lt] at h; cases h
  | .tup _, .str _, _, h, _ => by rw [KT.lt] at h; cases h
  | .tup l, .tup m, .tup k, h, h' => by rw [KT.lt] at h h' ⊢; exact ltL_trans l m k h h'
  | .tup _, .tup _, .int _, _, h => by rw [KT.lt] at h; cases h
  | .tup _, .tup _, .str _, _, h => by rw [KT.lt] at h; cases h
theorem ltL_trans : ∀ (l m k : List KT), ltL l m = true → ltL m k = true → ltL l k = true
  | _, [], [], _, h => by rw [ltL] at h; cases h
  | _, _ :: _, [], _, h => by rw [ltL] at h; cases h
  | [], _, _ :: _, _, _ => by rw [ltL]
  | _ :: _, [], _ :: _, h, _ => by rw [ltL] at h; cases h
  | a :: l, b :: m, c :: k, h, h' => by
    rw [ltL] at h h' ⊢
    cases e : a.eqb b with
    | true =>
      rw [e, if_pos rfl] at h
      have ab := eqb_iff.mp e
      subst ab
      cases e2 : a.eqb c with
      | true => rw [e2, if_pos rfl] at h'; rw [if_pos rfl]; exact ltL_trans l m k h h'
      | false => rw [e2, if_neg Bool.false_ne_true] at h'; rw [if_neg Bool.false_ne_true]; exact h'
    | false =>
      rw [e, if_neg Bool.false_ne_true] at h
      cases e2 : b.eqb c with
      | true =>
        have bc := eqb_iff.mp e2
        subst bc
        rw [e, if_neg Bool.false_ne_true]
        exact h
      | false =>
        rw [e2, if_neg Bool.false_ne_true] at h'
        have ac := lt_trans' a b c h h'
        cases e3 : a.eqb c with
        | true =>
          have := eqb_iff.mp e3
          subst this
          rw [lt_self] at ac
          cases ac
        | false => rw [if_neg Bool.false_ne_true]; exact ac
end
/-- not behind is not behind -/
theorem le_trans' {a b c : KT} (h1 : b.lt a = false) (h2 : c.lt b = false) : c.lt a = false := by
  cases h : c.lt a with
  | false => rfl
  | true =>
    cases h3 : a.lt b with
    | true => rw [lt_trans' c a b h h3] at h2; cases h2
    | false => rw [lt_total a b h3 h1, h2] at h; cases h
end Tw
set_option Elab.async false
set_option linter.all false
set_option maxRecDepth 100000
set_option maxHeartbeats 4000000
namespace Tw
open PySem PySem.Spec L2 PyProof.Rows
/-! ### sorted(keys, key=g), g a key's standing by tuples: fewer than 64 keys -/
structure Kg (g : KT → KT) : Prop where
  plt : ∀ t u, (g t).plt (g u) = t.lt u
  cmp : ∀ t u, (g t).cmp (g u) = true
  shape : ∃ n : Nat, ∀ t, ∃ (k : Int) (r : List KT), g t = .tup (.int k :: r) ∧ r.length = n
def GVal (g : KT → KT) (h : Heap) (t : KT) (v : Value) : Prop := KVal h (g t) v
section
variable {prog : Program} {w : World} {A : Around} {E : Value → Shared → Prop} {s : Shared} {g : KT → KT}
/-- what is left of two tuples, behind the first items -/
theorem lex_rest : ∀ {l m : List KT} {vs us : List Value} {i : Nat} {Q : Bool → Shared → Prop}, l.length = m.length → KVals s.heap l vs → KVals s.heap m us → cmpL l m = true → A.units + depthL l < cLine → Q (pltL l m) s → PySem.W.KatLex prog w A true false Q (vs.zip us) (i + 1) s
  | [], m, vs, us, i, Q, hl, x, y, _, _, h => by
    rw [KVals] at x
    subst x
    cases m with
    | nil => rw [pltL] at h; exact PySem.W.kat_nil h
    | cons _ _ => simp at hl
  | a :: l, m, vs, us, i, Q, hl, x, y, hc, hu, h => by
    cases m with
    | nil => simp at hl
    | cons b m =>
      rw [KVals] at x y
      obtain ⟨v, r, rfl, x1, x2⟩ := x
      obtain ⟨v', r', rfl, y1, y2⟩ := y
      rw [depthL] at hu
      rw [pltL] at h
      rw [cmpL] at hc
      refine PySem.W.kat_cons (eqAt_key a.depth a b A v v' (Nat.le_refl _) x1 y1 (by omega) prog w _ _ ?_)
      refine PySem.W.kat_go (fun e => PySem.W.kat_yes ?_) (fun e => PySem.W.kat_no ?_)
      · rw [e, if_pos rfl] at h hc
        exact lex_rest (by simpa using hl) x2 y2 hc (by omega) h
      · rw [e, if_neg Bool.false_ne_true] at h hc
        exact PySem.W.kat_one v v' (ltAt_key a.depth a b A v v' (Nat.le_refl _) x1 y1 hc (by omega) prog w _ _ h)
/-- one of them ahead of another, as the sort asks it -/
theorem g_lt (hg : Kg g) {t u : KT} {x y : Value} {Q : Bool → Shared → Prop} (hx : GVal g s.heap t x) (hy : GVal g s.heap u y) (hu : A.units + (g t).depth < cLine) (h : Q (t.lt u) s) : wpAny (model prog w) A (keyLt' (tuples' true) x y) Q E s := by
  obtain ⟨n, sh⟩ := hg.shape
  obtain ⟨k, r, ea, la⟩ := sh t
  obtain ⟨m, q, ec, lc⟩ := sh u
  have hp := hg.plt t u
  have hc := hg.cmp t u
  unfold GVal at hx hy
  rw [ea] at hp hc hx hu
  rw [ec] at hp hc hy
  rw [KVal] at hx hy
  obtain ⟨a, its, rfl, ⟨⟨cl, dd, da', sl⟩, ho, hcl, n1, hd⟩, kx⟩ := hx
  obtain ⟨c, its2, rfl, ⟨⟨cl2, dd2, da2, sl2⟩, ho2, hcl2, n2, hd2⟩, ky⟩ := hy
  have l1 := kx.length
  have l2 := ky.length
  rw [KVals] at kx ky
  obtain ⟨v1, r1, rfl, k1, kx⟩ := kx
  obtain ⟨v2, r2, rfl, k2, ky⟩ := ky
  rw [KVal] at k1 k2
  obtain ⟨tk, rfl⟩ := k1
  obtain ⟨tm, rfl⟩ := k2
  rw [KT.plt, pltL] at hp
  rw [KT.cmp, cmpL] at hc
  rw [KT.depth, depthL] at hu
  refine PySem.W.kat_lt ho hd ho2 hd2 ?_
  have hfin : decide ((Value.int k tk :: r1).toArray.size < (Value.int m tm :: r2).toArray.size) = false := by
    simp only [List.length_cons] at l1 l2
    simp only [List.size_toArray, List.length_cons, decide_eq_false_iff_not]
    omega
  rw [hfin]
  show PySem.W.KatLex prog w A true false Q ((.int k tk, .int m tm) :: r1.zip r2) 0 s
  refine PySem.W.kat_cons (SeqAt.EqAt.int_int k tk m tm prog w _ _ ?_)
  refine PySem.W.kat_go (fun e => PySem.W.kat_yes ?_) (fun e => PySem.W.kat_no ?_)
  · have e1 : (KT.int k).eqb (KT.int m) = true := by rw [KT.eqb]; exact e
    rw [e1, if_pos rfl] at hp hc
    refine lex_rest (by rw [la, lc]) kx ky hc (by omega) ?_
    rw [hp]
    exact h
  · have e1 : (KT.int k).eqb (KT.int m) = false := by rw [KT.eqb]; exact e
    rw [e1, if_neg Bool.false_ne_true, KT.plt] at hp
    refine oneLt_int ?_
    rw [hp]
    exact h
end
def GVals (g : KT → KT) (h : Heap) : List KT → List Value → Prop
  | [], [] => True
  | t :: ts, v :: vs => GVal g h t v ∧ GVals g h ts vs
  | _, _ => False
theorem GVals.len {g : KT → KT} {h : Heap} : ∀ {ts : List KT} {vs : List Value}, GVals g h ts vs → ts.length = vs.length
  | [], [], _ => rfl
  | _ :: _, _ :: _, x => congrArg (· + 1) x.2.len
  | [], _ :: _, x => x.elim
  | _ :: _, [], x => x.elim
theorem GVals.get {g : KT → KT} {h : Heap} : ∀ {ts : List KT} {vs : List Value}, GVals g h ts vs → ∀ i, i < vs.length → GVal g h (ts.getD i (.int 0)) (vs.getD i Value.none)
  | _ :: _, _ :: _, x, 0, _ => x.1
  | _ :: _, _ :: _, x, i + 1, hi => x.2.get i (by simpa using hi)
  | [], [], _, _, hi => absurd hi (by simp)
  | [], _ :: _, x, _, _ => x.elim
  | _ :: _, [], x, _, _ => x.elim
theorem GVals.firsts {g : KT → KT} (hg : Kg g) {h : Heap} : ∀ {ts : List KT} {vs : List Value}, GVals g h ts vs → ∃ fs, PySem.W.KatTups h vs fs ∧ fs.length = vs.length ∧ ∀ v ∈ fs, ∃ k t, v = Value.int k t
  | [], [], _ => ⟨[], .nil, rfl, fun v hv => absurd hv (by simp)⟩
  | t :: ts, v :: vs, x => by
    obtain ⟨fs, h1, h2, h3⟩ := GVals.firsts hg x.2
    obtain ⟨_, sh⟩ := hg.shape
    obtain ⟨k, r, ea, _⟩ := sh t
    have x1 := x.1
    unfold GVal at x1
    rw [ea, KVal] at x1
    obtain ⟨a, its, rfl, ⟨o, ho, hc, n, hd⟩, kx⟩ := x1
    rw [KVals] at kx
    obtain ⟨v1, r1, rfl, k1, kx⟩ := kx
    rw [KVal] at k1
    obtain ⟨tk, rfl⟩ := k1
    refine ⟨.int k tk :: fs, .cons ho hc hd rfl h1, by simp [h2], fun v hv => ?_⟩
    rcases List.mem_cons.mp hv with rfl | hv
    · exact ⟨k, tk, rfl⟩
    · exact h3 v hv
  | [], _ :: _, x => x.elim
  | _ :: _, [], x => x.elim
section
variable {prog : Program} {w : World} {A : Around} {E : Value → Shared → Prop} {s : Shared} {g : KT → KT}
/-- what kind of keys they are -/
theorem g_kind (hg : Kg g) {ts : List KT} {ks : List Value} {Q : PyProof.Rows.SortKind → Shared → Prop} (hl : 0 < ks.length) (h : GVals g s.heap ts ks) (hq : Q (tuples' true) s) : wpAny (model prog w) A (keyKind' ks.toArray) Q E s := by
  obtain ⟨fs, h1, h2, h3⟩ := h.firsts hg
  refine PySem.W.kat_kind (T := .type "int") h1 (by omega) (fun v hv => ?_) (by decide) hq
  obtain ⟨k, t, rfl⟩ := h3 v hv
  exact PySem.W.Looks.of_pure rfl
/-- the runs of the sort: the keys come out in order -/
theorem g_run (hg : Kg g) {ts : List KT} {ks vs : List Value} {Q : SortSt → Shared → Prop} (hl : ks.length = vs.length) (h2 : 2 ≤ vs.length) (h64 : vs.length < 64) (h : GVals g s.heap ts ks) (hu : ∀ t ∈ ts, A.units + (g t).depth < cLine)
    (hq : ∀ (p : Array Nat) (st' : SortSt), Srt.PB vs.length p → (∀ i j, i ≤ j → j < vs.length → (ts.getD (p.getD j 0) (.int 0)).lt (ts.getD (p.getD i 0) (.int 0)) = false) → arrOf st' = p.map (PySem.W.kas_item (ks.toArray.zip vs.toArray)) → failedOf st' = none → Q st' s) :
    wpAny (model prog w) A ((sortRuns').run (SortSt.mk' (tuples' true) (ks.toArray.zip vs.toArray) #[] 7 none)) (fun r s' => Q r.2 s') E s := by
  have hln := h.len
  refine PySem.W.kat_run (G := fun p s' => s' = s ∧ Srt.PB vs.length p ∧ ∀ i j, i ≤ j → j < vs.length → (ts.getD (p.getD j 0) (.int 0)).lt (ts.getD (p.getD i 0) (.int 0)) = false) hl h2 h64 (fun p st' s' a1 a2 a3 a4 => ?_) ?_
  · obtain ⟨rfl, b1, b2⟩ := a4
    exact hq p st' b1 b2 a2 a3
  · refine Srt.sort_ok (lt := fun i j => (ts.getD i (.int 0)).lt (ts.getD j (.int 0))) ⟨fun i j => lt_asym _ _, fun i j k => le_trans'⟩ (fun i j hi hj C hC => ?_) (by omega) fun p b1 b2 => ⟨rfl, b1, fun i j hij hj => b2 i j hij hj⟩
    unfold PySem.W.kas_ask
    refine g_lt hg (h.get i (by omega)) (h.get j (by omega)) (hu _ ?_) hC
    have hi' : i < ts.length := by omega
    rw [List.getD_eq_getElem?_getD, List.getElem?_eq_getElem hi']
    exact List.getElem_mem _
end
end Tw
set_option Elab.async false
set_option linter.all false
set_option maxRecDepth 100000
set_option maxHeartbeats 4000000
namespace Tw
open PySem PySem.Spec L2 PyProof.Rows
/-- what a key's standing is promised to be -/
def spKg (g : KT → KT) : Sp := fun vs H Q _ => ∃ (v : V) (t : KT), vs = [v] ∧ KeyAt H t v ∧ t.fits 3 = true ∧ ∀ (v' : V) (H' : Hp), KeyAt H' (g t) v' → Same H H' → Q v' H'
theorem gvals_of {g : KT → KT} {X : Cx} {pins : List (Addr × Obj)} {σ : L2.St} {H : Hp} {s : Shared} (I : Inv X pins σ H s) : ∀ {ts : List KT} {kvs : List V} {ks : List Value}, KeysAt H (ts.map g) kvs → Vals kvs ks → GVals g s.heap ts ks
  | [], kvs, ks, h, r => by
    rw [List.map_nil, KeysAt] at h
    subst h
    cases r
    trivial
  | t :: ts, kvs, ks, h, r => by
    rw [List.map_cons, KeysAt] at h
    obtain ⟨v, kr, rfl, h1, h2⟩ := h
    cases r with
    | cons ra rb => exact ⟨kval_of I _ _ _ h1 ra, gvals_of I h2 rb⟩
section
variable {X : Cx} {pins : List (Addr × Obj)} {σ : L2.St}
theorem notfrG {H : Hp} {s : Shared} {b : Addr} (I : Inv X pins σ H s) (h : s.heap.objs.size ≤ b) : b ∉ frs X.stack := fun z => by
  obtain ⟨_, o, e, _⟩ := I.stack.mem z
  exact absurd (Heap.lt_size e) (Nat.not_lt.mpr h)
/-- the keys are asked for, one after another -/
theorem ask_keysG {g : KT → KT} {x0 : Str} {k : Nat} {f D kS : Addr} {fd : FuncData} {oD : Obj} {H0 : Hp} {A : Around} {E : Value → Shared → Prop} {body : Value → PUnit → Sem (ForInStep PUnit)} {all : List KT}
    (F : FnOk X.prog X.w X.K X.mg X.base CX0 k f fd [x0] (spKg g)) (hb : Binds X.K fd [x0] []) (hr : Room k A) (hA : A.frames = X.A.frames) (nD : D ∉ frs X.stack) (nS : kS ∉ frs X.stack) (hDS : D ≠ kS) (hD0 : H0 D = none)
    (hbody : ∀ x (s : Shared) (R : Shared → Prop), wpAny (model X.prog X.w) A (call (.ref f) [x]) (fun kv s' => ∃ (ks : List Value) (e : Nat), ks.length < 64 ∧ s'.heap.get? kS = some (seqObj "list" ks.toArray e) ∧ R { s' with heap := s'.heap.update kS (Obj.mapSeq (·.push kv)) }) (fun _ _ => False) s →
      wpAny (model X.prog X.w) A (body x ⟨⟩) (fun r s' => r = .yield ⟨⟩ ∧ R s') E s) :
    ∀ (r : List Value) (rU : List V) (rT dT : List KT) (H : Hp) (s : Shared) (ks : List Value) (kvs : List V) (e : Nat), all = dT ++ rT → all.length < 64 → Inv X pins σ H s → Same H0 H → FpOk X pins H kS → H D = none → Vals rU r → KeysAt H rT rU → (∀ t ∈ rT, t.fits 3 = true) →
      s.heap.get? D = some oD → s.heap.get? kS = some (seqObj "list" ks.toArray e) → KeysAt H (dT.map g) kvs → Vals kvs ks →
      wpAny (model X.prog X.w) A (forIn r PUnit.unit body) (fun _ s' => ∃ (H' : Hp) (ks' : List Value) (kvs' : List V) (e' : Nat), Inv X pins σ H' s' ∧ Same H0 H' ∧ FpOk X pins H' kS ∧ H' D = none ∧ s'.heap.get? D = some oD ∧ s'.heap.get? kS = some (seqObj "list" ks'.toArray e') ∧ KeysAt H' (all.map g) kvs' ∧ Vals kvs' ks') E s
  | [], rU, rT, dT, H, s, ks, kvs, e, ha, hl, I, s0, fp, hD, r, hk, hf, oo, os, hks, rk => by
    cases r
    have er : rT = [] := by
      cases rT with
      | nil => rfl
      | cons t l => rw [KeysAt] at hk; obtain ⟨_, _, h, _⟩ := hk; cases h
    subst er
    rw [List.append_nil] at ha
    subst ha
    rw [List.forIn_nil]
    exact wpAny_pure ⟨H, ks, kvs, e, I, s0, fp, hD, oo, os, hks, rk⟩
  | x :: r, rU, rT, dT, H, s, ks, kvs, e, ha, hl, I, s0, fp, hD, rr, hk, hf, oo, os, hks, rk => by
    cases rr with
    | cons ra rb =>
    rename_i u ur
    cases rT with
    | nil => rw [KeysAt] at hk; cases hk
    | cons t rT =>
    rw [KeysAt] at hk
    obtain ⟨v, vr, ev, hk1, hk2⟩ := hk
    cases ev
    rw [List.forIn_cons]
    have hlen : ks.length = dT.length := by
      have a := hks.length
      have b := rk.length
      rw [List.length_map] at a
      omega
    have hlall : dT.length + (rT.length + 1) < 64 := by rw [ha, List.length_append, List.length_cons] at hl; omega
    refine wpAny_bind (thn (hbody x s (fun s' => ∃ (H' : Hp) (ks' : List Value) (kvs' : List V) (e' : Nat), Inv X pins σ H' s' ∧ Same H0 H' ∧ Same H H' ∧ FpOk X pins H' kS ∧ H' D = none ∧ s'.heap.get? D = some oD ∧ s'.heap.get? kS = some (seqObj "list" ks'.toArray e') ∧ KeysAt H' ((dT ++ [t]).map g) kvs' ∧ Vals kvs' ks') ?_) fun q s' hq => ?_)
    · have env : Env0 X.prog X.w X.K X.mg X.base A X.stack s H := ⟨by rw [hA]; exact I.ok.frames, I.env0.mod, I.env0.bs, I.env0.bsz, I.env0.funs, I.env0.frf, I.env0.hok, I.env0.bare⟩
      have hsp : spKg g [u] H (fun v' H' => KeyAt H' (g t) v' ∧ Same H H') E0 := ⟨u, t, rfl, hk1, hf t List.mem_cons_self, fun v' H' a b => ⟨a, b⟩⟩
      have r2 : Vals [u] [x] := .cons ra .nil
      refine wpAny_call (codeAny_mono (F.run A X.stack s H ⟨[x], []⟩ [x] [u] _ E0 hr env (hb s [x] I.kIn rfl) r2 hsp) fun rr s' hq => ?_)
      cases rr with
      | error ev => exact hq.elim
      | ok fl =>
        cases fl with
        | next => exact False.elim hq
        | brk => exact False.elim hq
        | cont => exact False.elim hq
        | ret kv =>
          obtain ⟨v', H', os', bare, un, hok, rv, kt, sm⟩ := hq
          have J : Inv X pins σ H' s' := I.call' os' un hok bare (fun b hb => absurd hb (by simp))
          have oo' := un.keep D oD oo hD nD (by simp)
          have oS' := un.keep kS _ os fp.1 nS (by simp)
          have hS' : H' kS = none := un.free kS _ os fp.1 (by simp)
          have hD' : H' D = none := un.free D _ oo hD (by simp)
          refine ⟨ks, e, by omega, oS', ?_⟩
          have fp' : FpOk X pins H' kS := ⟨hS', fp.2⟩
          have ea : (List.toArray ks).push kv = List.toArray (ks ++ [kv]) := by simp
          obtain ⟨c2, hc2⟩ : ∃ c2, (s'.heap.update kS (Obj.mapSeq (·.push kv))).get? kS = some (seqObj "list" (List.toArray (ks ++ [kv])) c2) := ⟨_, by rw [← ea]; exact get?_update_seq oS' (·.push kv)⟩
          have sb := Heap.SameBut.update s'.heap kS (Obj.mapSeq (·.push kv))
          have J2 : Inv X pins σ H' { s' with heap := s'.heap.update kS (Obj.mapSeq (·.push kv)) } := J.turned (t' := s'.toks) (it := kS) (fun b o n q => (sb.2 b n).trans q) fp'.1 fp'.2.1 fp'.2.2.2.1 fp'.2.2.2.2.1 fp'.2.2.2.2.2
          refine ⟨H', ks ++ [kv], kvs ++ [v'], c2, J2, s0.trans sm, sm, fp', hD', (sb.2 D hDS).trans oo', hc2, ?_, rk.append (.cons rv .nil)⟩
          rw [List.map_append]
          exact (hks.mono (Same.tups sm) _ _).append (.cons kt .nil)
    · obtain ⟨rfl, H', ks', kvs', e', J, s0', sm, fp', hD', oo', os', hks', rk'⟩ := hq
      show wpAny (model X.prog X.w) A (forIn r PUnit.unit body) _ E s'
      exact ask_keysG F hb hr hA nD nS hDS hD0 hbody r _ rT (dT ++ [t]) H' s' ks' kvs' e' (by rw [ha]; simp) hl J s0' fp' hD' rb (hk2.mono (Same.tups sm) _ _) (fun z hz => hf z (List.mem_cons_of_mem _ hz)) oo' os' hks' rk'
end
end Tw
set_option Elab.async false
set_option linter.all false
set_option maxRecDepth 100000
set_option maxHeartbeats 4000000
namespace Tw
open PySem PySem.Spec L2 PyProof.Rows
section
variable {X : Cx} {pins : List (Addr × Obj)} {σ : L2.St} {H : Hp} {s : Shared}
/-- a thing that stands already is tracked from here on -/
theorem track2 {a : Addr} {o : HO} (I : Inv X pins σ H s) (h0 : X.s₀.heap.get? a = none) (hl : a ≠ X.env.locals) (hc : ∀ x c, X.env.cells.lookup x = some c → c ≠ a) (hp : ∀ p ∈ X.pn ++ pins, p.1 ≠ a) (hn : H a = none)
    (new : ObjOk X.prog X.w (upd H a o) s.heap a o) : Inv X pins σ (upd H a o) s := by
  have nt : ∀ {b : Addr} {u : HO}, H b = some u → b ≠ a := fun {b u} e z => by rw [z, hn] at e; cases e
  refine ⟨I.ok, I.os, I.bare, ⟨I.base.keep, I.base.slot, fun b ob q n hx => ?_, I.base.there, fun b xs q => ?_, fun b ob u q => ?_, fun b ps q => ?_⟩, I.loc, I.cell, ?_, fun x c e => ?_, fun p hp' => ?_, fun b u e => ?_, I.len⟩
  · rw [upd_ne (fun z => by rw [z, h0] at q; cases q)]; exact I.base.free b ob q n hx
  · have e := I.base.tups b xs q
    rw [upd_ne (nt e)]; exact e
  · have e := I.base.frzs b ob u q
    rw [upd_ne (nt e)]; exact e
  · obtain ⟨more, e⟩ := I.base.tbls b ps q
    exact ⟨more, by rw [upd_ne (nt e)]; exact e⟩
  · rw [upd_ne (Ne.symm hl)]; exact I.free
  · rw [upd_ne (hc x c e)]; exact I.freeC x c e
  · obtain ⟨e, n, r⟩ := I.pin p hp'
    exact ⟨e, by rw [upd_ne (hp p hp')]; exact n, r⟩
  · by_cases hb : b = a
    · subst hb
      rw [upd_same] at e
      cases e
      exact new
    · rw [upd_ne hb] at e
      exact (I.hok b u e).stay (fun _ _ _ q => q) (fun c q => by rw [upd_ne (nt q)]; exact q) fun c xs q => by rw [upd_ne (nt q)]; exact q
theorem Vals.getD {us : List V} {its : List Value} (r : Vals us its) {i : Nat} (h : i < us.length) : RelV (us.getD i .non) (its.getD i Value.none) := by
  have hl := r.length
  obtain ⟨u, e1, e2⟩ := r.get (i := i) (x := us[i]) (by simp [h])
  rw [List.getD_eq_getElem?_getD, List.getD_eq_getElem?_getD, e1, List.getElem?_eq_getElem h]
  exact e2
theorem vals_map {us : List V} {its : List Value} (r : Vals us its) : ∀ (l : List Nat), (∀ i ∈ l, i < us.length) → Vals (l.map fun i => us.getD i .non) (l.map fun i => its.getD i Value.none)
  | [], _ => .nil
  | i :: l, h => .cons (Vals.getD r (h i List.mem_cons_self)) (vals_map r l fun j hj => h j (List.mem_cons_of_mem _ hj))
theorem keys_map {ts : List KT} {us : List V} (hk : KeysAt H ts us) : ∀ (l : List Nat), (∀ i ∈ l, i < us.length) → KeysAt H (l.map fun i => ts.getD i (.int 0)) (l.map fun i => us.getD i .non)
  | [], _ => .nil
  | i :: l, h => by
    have hi := h i List.mem_cons_self
    obtain ⟨t, et, kt⟩ := hk.get (i := i) (v := us[i]) (by simp [hi])
    refine .cons (show KeyAt H (ts.getD i (.int 0)) (us.getD i .non) from ?_) (keys_map hk l fun j hj => h j (List.mem_cons_of_mem _ hj))
    rw [List.getD_eq_getElem?_getD, List.getD_eq_getElem?_getD, et, List.getElem?_eq_getElem hi]
    exact kt
theorem range_getD {α : Type} (l : List α) (d : α) : (List.range l.length).map (fun i => l.getD i d) = l := by
  apply List.ext_getElem
  · simp
  · intro i h1 h2
    simp [h2]
/-- sorted(l, key = f), f a key's standing; l anything that is collected to keys -/
theorem sorted_keyG {g : KT → KT} (hg : Kg g) (dg : ∀ t, (g t).depth ≤ 2 * t.depth + 2) {x0 : Str} {k : Nat} {f : Addr} {lv : Value} {fd : FuncData} {us : List V} {ts : List KT} {Q : VK} (hr : Room (k + 2) X.A) (F : FnOk X.prog X.w X.K X.mg X.base CX0 k f fd [x0] (spKg g)) (hb : Binds X.K fd [x0] []) (I0 : Inv X pins σ H s) (hk : KeysAt H ts us) (hf : ∀ t ∈ ts, t.fits 3 = true) (h64 : us.length < 64)
    (hcol : ∀ (Q' : List Value → Shared → Prop), (∀ (s1 : Shared) (its : List Value), Inv X pins σ H s1 → Vals us its → Q' its s1) → wpAny (model X.prog X.w) X.A.in1 (collect lv) Q' X.xe s)
    (q : ∀ (D : Addr) (ws : List V) (rs : List KT) (H' : Hp), Same H H' → H D = none → H' D = some (.lst ws) → KeysAt H' rs ws → rs.Perm ts → rs.Pairwise (fun a b => b.lt a = false) → Q (.ref D) H') :
    wpAny (model X.prog X.w) X.A (call (.builtin "sorted") [lv] [(Str.ofString "key", .ref f)]) (EP X pins σ Q) X.xe s := by
  have hkl := hk.length
  have hr6 : Room k X.A.in1.in1 := (Room.in1 (k := k + 1) hr).in1
  refine call_function_entry_kw kind_sorted plain_sorted entry_sorted (ksk_s1 _ _) ?_
  unfold Builtin.«sorted»
  refine wpAny_bind (m := checkCount "sorted" 1 1 _) (wpAny_pure ?_)
  refine wpAny_bind (hcol _ fun s its I rv => ?_)
  have hlen := rv.length
  refine wpAny_bind (wpAny_newList ?_ (by rw [sizeLine_eq]; omega))
  obtain ⟨h1, eh1⟩ : ∃ h1, s.heap.push (seqObj "list" its.toArray 0) = h1 := ⟨_, rfl⟩
  have hoL : h1.get? s.heap.objs.size = some (seqObj "list" its.toArray 0) := by rw [← eh1]; exact Heap.get?_push_size _ rfl
  have keep : ∀ b o, s.heap.get? b = some o → h1.get? b = some o := fun b o z => by rw [← eh1]; exact Heap.get?_push_of_some _ z
  have hs1 : h1.objs.size = s.heap.objs.size + 1 := by rw [← eh1, size_push']
  obtain ⟨D, eD⟩ : ∃ D, s.heap.objs.size = D := ⟨_, rfl⟩
  rw [eD] at hoL
  have hDs : s.heap.objs.size ≤ D := by omega
  have hHD : H D = none := I.hok.fresh hDs
  have fD : FpOk X pins H D := I.fpOk hDs hHD
  have nD : D ∉ frs X.stack := notfrG I hDs
  have h0D : X.s₀.heap.get? D = none := Heap.get?_none_of_le (Nat.le_trans I.sz hDs)
  have I1 : Inv X pins σ H { s with heap := h1 } := I.kept (t' := s.toks) keep
  show wpAny _ _ _ _ _ { s with heap := s.heap.push (seqObj "list" its.toArray 0) }
  rw [eh1, eD]
  refine wpAny_bind (wpAny_holding (wpAny_call_entry_kw slot_list_sort ⟨_, hoL, rfl⟩ entry_list_sort ?body (ksk_l1 _ _)))
  rw [ksk_t1]
  unfold ksk_tree
  refine wpAny_bind (listItems_at hoL rfl ?_)
  refine wpAny_bind (listUpdate_at hoL rfl ?_ (by rw [List.size_toArray, sizeLine_eq]; omega) (Nat.zero_le _))
  have sb1 := Heap.SameBut.update h1 D (Obj.mapSeq fun _ => (#[] : Array Value))
  obtain ⟨e1, ho1⟩ : ∃ e1, (h1.update D (Obj.mapSeq fun _ => (#[] : Array Value))).get? D = some (seqObj "list" #[] e1) := ⟨_, get?_update_seq hoL fun _ => #[]⟩
  obtain ⟨h2, eh2⟩ : ∃ h2, h1.update D (Obj.mapSeq fun _ => (#[] : Array Value)) = h2 := ⟨_, rfl⟩
  rw [eh2] at ho1 sb1
  show wpAny _ _ _ _ _ { s with heap := h1.update D (Obj.mapSeq fun _ => (#[] : Array Value)) }
  rw [eh2]
  have I2 : Inv X pins σ H { s with heap := h2 } := Inv.turned (s := { s with heap := h1 }) (t' := s.toks) (it := D) I1 (fun b o n z => (sb1.2 b n).trans z) fD.1 fD.2.1 fD.2.2.2.1 fD.2.2.2.2.1 fD.2.2.2.2.2
  refine wpAny_bind (seqEpoch_at ho1 rfl ?_)
  refine wpAny_bind (wpAny_newTuple ?_ (by show its.length ≤ _; rw [sizeLine_eq]; omega))
  refine wpAny_bind (wpAny_newList ?_ (Nat.zero_le _))
  refine wpAny_holding ?_
  have hs2 : h2.objs.size = s.heap.objs.size + 1 := by rw [← eh2, Heap.size_update, hs1]
  obtain ⟨h3, eh3⟩ : ∃ h3, (h2.push (seqObj "tuple" its.toArray 0)).push (seqObj "list" #[] 0) = h3 := ⟨_, rfl⟩
  have ekS : (h2.push (seqObj "tuple" its.toArray 0)).objs.size = s.heap.objs.size + 2 := by rw [size_push', hs2]
  have keep3 : ∀ b o, h2.get? b = some o → h3.get? b = some o := fun b o z => by rw [← eh3]; exact Heap.get?_push_of_some _ (Heap.get?_push_of_some _ z)
  have hoS : h3.get? (s.heap.objs.size + 2) = some (seqObj "list" (List.toArray []) 0) := by rw [← eh3, ← ekS]; exact Heap.get?_push_size _ rfl
  obtain ⟨kS, ekS2⟩ : ∃ kS, s.heap.objs.size + 2 = kS := ⟨_, rfl⟩
  rw [ekS2] at hoS ekS
  have hSs : s.heap.objs.size ≤ kS := by omega
  have hDk0 : D ≠ kS := by omega
  have hHS : H kS = none := I.hok.fresh hSs
  have fS : FpOk X pins H kS := I.fpOk hSs hHS
  have nS : kS ∉ frs X.stack := notfrG I hSs
  have I3 : Inv X pins σ H { s with heap := h3 } := I2.kept (t' := s.toks) keep3
  show wpAny _ _ (ksk_rest D (.ref f) false its.toArray e1 (.ref (h2.push (seqObj "tuple" its.toArray 0)).objs.size)) _ _ { s with heap := (h2.push (seqObj "tuple" its.toArray 0)).push (seqObj "list" #[] 0) }
  rw [eh3, ekS]
  -- the end: the keys stand in kS, the list is empty at D
  have fin : ∀ (H' : Hp) (s' : Shared) (ks : List Value) (kvs : List V) (e : Nat), Inv X pins σ H' s' → Same H H' → FpOk X pins H' kS → H' D = none → s'.heap.get? D = some (seqObj "list" #[] e1) → s'.heap.get? kS = some (seqObj "list" ks.toArray e) → KeysAt H' (ts.map g) kvs → Vals kvs ks →
      wpAny (model X.prog X.w) X.A.in1.in1 (ksk_end D false its.toArray e1 (.ref kS) ks.toArray) (fun fin s' => ∃ v, fin = .done (.ret v) ∧ wpAny (model X.prog X.w) X.A.in1 (ret (.ref D)) (fun fin s' => ∃ v, fin = .done (.ret v) ∧ EP X pins σ Q v s') X.xe s') X.xe s' := by
    intro H' s' ks kvs e J sm fp hD' oo os hks rk
    have hkl2 : ks.length = its.length := by
      have a := hks.length
      have b := rk.length
      rw [List.length_map] at a
      omega
    have sv : GVals g s'.heap ts ks := gvals_of J hks rk
    -- behind the runs
    have tail : ∀ (st : SortSt) (p : Array Nat), Srt.PB its.length p → (∀ i j, i ≤ j → j < its.length → (ts.getD (p.getD j 0) (.int 0)).lt (ts.getD (p.getD i 0) (.int 0)) = false) → (arrOf st).map (·.2) = List.toArray (p.toList.map fun i => its.getD i Value.none) → failedOf st = none →
        wpAny (model X.prog X.w) X.A.in1.in1 (ksk_tail D false e1 (.ref kS) st) (fun fin s' => ∃ v, fin = .done (.ret v) ∧ wpAny (model X.prog X.w) X.A.in1 (ret (.ref D)) (fun fin s' => ∃ v, fin = .done (.ret v) ∧ EP X pins σ Q v s') X.xe s') X.xe s' := by
      intro st p hp hs hout hfail
      have hps := hp.size
      have hmem : ∀ i ∈ p.toList, i < us.length := fun i hi => by
        have : i ∈ (List.toArray (List.range its.length)) := hp.mem_iff.mp (Array.mem_toList_iff.mp hi)
        have := (List.mem_range.mp (by simpa using this) : i < its.length)
        omega
      have hpl : p.toList.length = its.length := by rw [Array.length_toList, hps]
      have s1 := Heap.SameBut.update s'.heap kS (Obj.mapSeq fun _ => (#[] : Array Value))
      have hDk : D ≠ kS := by omega
      have oD1 := (s1.2 D hDk).trans oo
      have s2 := Heap.SameBut.update (s'.heap.update kS (Obj.mapSeq fun _ => (#[] : Array Value))) D (Obj.mapSeq fun _ => List.toArray (p.toList.map fun i => its.getD i Value.none))
      obtain ⟨c2, hc2⟩ : ∃ c2, ((s'.heap.update kS (Obj.mapSeq fun _ => (#[] : Array Value))).update D (Obj.mapSeq fun _ => List.toArray (p.toList.map fun i => its.getD i Value.none))).get? D = some (seqObj "list" (List.toArray (p.toList.map fun i => its.getD i Value.none)) c2) := ⟨_, get?_update_seq oD1 fun _ => List.toArray (p.toList.map fun i => its.getD i Value.none)⟩
      unfold ksk_tail
      dsimp only
      rw [hout, if_neg Bool.false_ne_true]
      refine wpAny_bind (listUpdate_at os rfl ?_ (by rw [List.size_toArray, sizeLine_eq]; omega) (Nat.zero_le _))
      refine wpAny_bind (wpAny_letGo ?_)
      refine wpAny_bind (seqEpoch_at oD1 rfl ?_)
      refine wpAny_bind (listUpdate_at oD1 rfl ?_ (Nat.zero_le _) (by rw [List.size_toArray, List.length_map, hpl, sizeLine_eq]; omega))
      rw [hfail]
      simp only [bne_self_eq_false, Bool.false_eq_true, if_false]
      have J1 : Inv X pins σ H' { s' with heap := s'.heap.update kS (Obj.mapSeq fun _ => (#[] : Array Value)) } := J.turned (t' := s'.toks) (it := kS) (fun b o n z => (s1.2 b n).trans z) fp.1 fp.2.1 fp.2.2.2.1 fp.2.2.2.2.1 fp.2.2.2.2.2
      have J2 : Inv X pins σ H' { s' with heap := (s'.heap.update kS (Obj.mapSeq fun _ => (#[] : Array Value))).update D (Obj.mapSeq fun _ => List.toArray (p.toList.map fun i => its.getD i Value.none)) } := Inv.turned (s := { s' with heap := s'.heap.update kS (Obj.mapSeq fun _ => (#[] : Array Value)) }) (t' := s'.toks) (it := D) J1 (fun b o n z => (s2.2 b n).trans z) hD' fD.2.1 fD.2.2.2.1 fD.2.2.2.2.1 fD.2.2.2.2.2
      have J3 := track2 (a := D) (o := .lst (p.toList.map fun i => us.getD i .non)) J2 h0D fD.2.1 fD.2.2.2.2.1 fD.2.2.2.2.2 hD' ⟨by rw [List.length_map, hpl, sizeLine_eq]; omega, _, c2, vals_map rv _ hmem, hc2⟩
      have g := same_new hD' (.lst (p.toList.map fun i => us.getD i .non))
      refine wpAny_pure ⟨.none, rfl, wpAny_pure ⟨_, rfl, .ref D, _, J3, rfl, q D _ (p.toList.map fun i => ts.getD i (.int 0)) _ (sm.trans g) hHD upd_same (keys_map (hk.mono (Same.tups (sm.trans g)) _ _) _ hmem) ?_ ?_⟩⟩
      · have hpp : p.toList.Perm (List.range its.length) := by simpa using Array.perm_iff_toList_perm.mp hp
        have := hpp.map (fun i => ts.getD i (KT.int 0))
        rw [show its.length = ts.length by omega, range_getD] at this
        exact this
      · rw [List.pairwise_iff_getElem]
        intro i j hi hj hij
        rw [List.length_map, hpl] at hi hj
        simp only [List.getElem_map]
        have := hs i j (Nat.le_of_lt hij) hj
        have e (x : Nat) (hx : x < its.length) : p.getD x 0 = p.toList[x]'(by omega) := by simp [Array.getD, hps, hx]
        rw [e i hi, e j hj] at this
        exact this
    unfold ksk_end
    dsimp only
    rw [if_neg Bool.false_ne_true, if_neg Bool.false_ne_true]
    by_cases h2 : its.length < 2
    · rw [if_pos (by rw [List.size_toArray]; exact h2), if_pos (by rw [List.size_toArray]; exact h2)]
      refine wpAny_bind (wpAny_pure (wpAny_bind (wpAny_pure ?_)))
      refine tail _ (List.toArray (List.range its.length)) (Array.Perm.refl _) (fun i j hij hj => ?_) ?_ rfl
      · have : i = j := by omega
        rw [this]; exact lt_self _
      · show ((ks.toArray.zip its.toArray).map (·.2)) = _
        apply Array.toList_inj.mp
        rw [Array.toList_map, ksk_zip]
        simp only [List.toList_toArray]
        rw [range_getD, List.map_snd_zip (by omega)]
    · rw [if_neg (by rw [List.size_toArray]; exact h2), if_neg (by rw [List.size_toArray]; exact h2)]
      refine wpAny_bind (g_kind hg (by omega) sv ?_)
      refine wpAny_bind (thn (g_run hg (Q := fun st' s'' => s'' = s' ∧ ∃ p : Array Nat, Srt.PB its.length p ∧ (∀ i j, i ≤ j → j < its.length → (ts.getD (p.getD j 0) (.int 0)).lt (ts.getD (p.getD i 0) (.int 0)) = false) ∧ arrOf st' = p.map (PySem.W.kas_item (ks.toArray.zip its.toArray)) ∧ failedOf st' = none)
        hkl2 (by omega) (by omega) sv (fun t ht => ?_) fun p st' b1 b2 b3 b4 => ⟨rfl, p, b1, b2, b3, b4⟩) fun r s'' hr' => ?_)
      · have a := hr6.un
        have d1 := dg t
        have d2 := fits_depth t 3 (hf t ht)
        omega
      · obtain ⟨⟨⟩, st'⟩ := r
        obtain ⟨rfl, p, b1, b2, b3, b4⟩ := hr'
        exact tail st' p b1 b2 (PySem.W.kat_snds hkl2 b3) b4
  unfold ksk_rest
  refine wpAny_bind (wpAny_rule ?_)
  first
    | rw [List.forIn_toArray]
    | (rw [← Array.forIn_toList]; simp only [List.toList_toArray])
  refine wpAny_bind (thn (ask_keysG (all := ts) (H0 := H) (D := D) (kS := kS) F hb hr6 rfl nD nS hDk0 hHD (fun x s4 R hx => ?_) its us ts [] H { s with heap := h3 } [] [] 0 rfl (by omega) I3 (Same.refl H) fS hHD rv hk hf (keep3 _ _ ho1) hoS .nil .nil) fun _ s4 h4 => ?_)
  · refine wpAny_bind (wpAny_attempt (wpAny_mono hx (fun kv s5 h5 => ?_) fun _ _ z => z.elim))
    obtain ⟨ks, e, l64, o5, R5⟩ := h5
    try dsimp only
    refine wpAny_bind (listUpdate_at o5 rfl ?_ (by rw [List.size_toArray, sizeLine_eq]; omega) (Nat.le_trans (Nat.le_of_eq (Array.size_push ..)) (by rw [List.size_toArray, sizeLine_eq]; omega)))
    exact wpAny_pure ⟨rfl, R5⟩
  · obtain ⟨H', ks, kvs, e, J, sm, fp, hD', oo, os, hks, rk⟩ := h4
    try dsimp only
    exact wpAny_bind (listItems_at os rfl (fin H' s4 ks kvs e J sm fp hD' oo os hks rk))
end
end Tw
set_option Elab.async false
set_option linter.all false
set_option maxRecDepth 100000
set_option maxHeartbeats 4000000
namespace L2
open PySem PySem.Spec PyProof.Rows
/-! ### sorted(d), d a dict of ints -/
section
variable {prog : Program} {w : World} {A : Around} {E : Value → Shared → Prop} {s : Shared} {T : String} {r d : Addr} {n : Nat} {P : Nat → Value → Prop} {OK : Heap → Prop}
theorem iadd_src {R : Result → Shared → Prop} (K : PySem.W.KdlSrc prog w T r d n P OK) (hh : A.handled = none) (hok : OK s.heap) (S : Addr) (hSr : S ≠ r) (hSd : S ≠ d) (c₀ : Nat) (hS : s.heap.get? S = some { cls := .type "list", data := .seq #[] c₀ })
    (hR : ∀ h' tk acc' c', (∀ b o, b ≠ S → s.heap.get? b = some o → h'.get? b = some o) → h'.get? S = some { cls := .type "list", dict := none, data := .seq acc' c', slots := #[] } → ItemsOf P acc' n → R (.ok (.ret (.ref S))) { s with heap := h', toks := tk }) (hn : n ≤ sizeLine) :
    codeAny (model prog w) A (.builtin "list.__iadd__" ⟨[.ref S, .ref r], []⟩) R s := by
  refine codeAny_builtin PySem.F.entry_list_iadd ?_
  rw [Around.under_plainId PySem.F.plain_list_iadd _]
  exact PySem.W.kdl_extend (R := R) K hh hok S hSr hSd (.ref S) c₀ hS hR hn
theorem collect_src {Q : List Value → Shared → Prop} (K : PySem.W.KdlSrc prog w T r d n P OK) (hh : A.handled = none) (hok : OK s.heap) (hn : n ≤ sizeLine)
    (hQ : ∀ h' tk acc, (∀ b o, s.heap.get? b = some o → h'.get? b = some o) → s.heap.objs.size < h'.objs.size → ItemsOf P acc n → Q acc.toList { s with heap := h', toks := tk }) : wpAny (model prog w) A (collect (.ref r)) Q E s := by
  have hlt := K.there _ hok
  unfold collect
  refine wpAny_bind (wpAny_runValue (codeAny_builtin PySem.F.entry_proto_collect ?_))
  rw [Around.under_plainId PySem.F.plain_proto_collect _]
  show wpAny _ A.in1 (newList [] >>= fun l => again (.builtin "list.__iadd__" ⟨[l, .ref r], []⟩)) _ _ s
  refine wpAny_bind (wpAny_newObj_type ?_)
  have hS : (s.heap.push { cls := .type "list", data := .seq ([] : List Value).toArray }).get? s.heap.objs.size = some { cls := .type "list", data := .seq #[] 0 } := Heap.get?_push_size _ rfl
  refine wpAny_pure ⟨plainId_quiet PySem.F.plain_list_iadd _, iadd_src (s := { s with heap := s.heap.push { cls := .type "list", data := .seq ([] : List Value).toArray } }) K hh (K.keep _ _ hok fun b _ o e => Heap.get?_push_of_some _ e) s.heap.objs.size (Nat.ne_of_gt hlt.1) (Nat.ne_of_gt hlt.2) _ hS (fun h' tk acc' c' hk hS' hacc => ?_) hn⟩
  show wpAny _ A (load s.heap.objs.size >>= _) _ _ _
  refine wpAny_bind (wpAny_load hS' ?_)
  exact wpAny_pure (hQ h' tk acc' (fun b o e => hk b o (Nat.ne_of_lt (Heap.lt_size e)) (Heap.get?_push_of_some _ e)) (Heap.lt_size hS') hacc)
end
section
variable {X : Cx}
theorem nn' {n : Nat} (h : n < 64) : n ≤ sizeLine := Nat.le_of_lt (small1000 (by omega))
end
end L2
set_option Elab.async false
set_option linter.all false
set_option maxRecDepth 100000
set_option maxHeartbeats 4000000
namespace Tw
open PySem PySem.Spec L2 PyProof.Rows
/-! ### such a dict walked -/
def RawD (d : Addr) (es : Array DictEntry) (ep : Nat) (h : Heap) : Prop := ∃ o, h.get? d = some o ∧ o.ExactDict ∧ o.data = .dict es ep
section
variable {prog : Program} {w : World} {A : Around} {E : Value → Shared → Prop} {s : Shared} {d : Addr} {es : Array DictEntry} {ep : Nat}
theorem RawD.type (x : RawD d es ep s.heap) : s.TypeIs (.ref d) "dict" := let ⟨o, g, hx, _⟩ := x; ⟨o, g, hx.1⟩
theorem RawD.at {h h' : Heap} (x : RawD d es ep h) (k : ∀ o, h.get? d = some o → h'.get? d = some o) : RawD d es ep h' := let ⟨o, g, r⟩ := x; ⟨o, k o g, r⟩
theorem raw_iter {Q : Value → Shared → Prop} (hd : (d == sysModules) = false) (x : RawD d es ep s.heap) (hQ : Q (.ref s.heap.objs.size) { s with heap := s.heap.push { cls := .type "dict_keyiterator", data := .fields #[.ref d, .int 0 0, .int es.size 0, .int ep 0] } }) :
    wpAny (model prog w) A (pyIter (.ref d)) Q E s := by
  have hT := x.type
  obtain ⟨o, ho, hx, hdat⟩ := x
  refine wpAny_pyIter_slot hT PySem.F.slot_dict_iter (wpAny_call_entry PySem.F.slot_dict_iter hT PySem.F.entry_dict_iter ?_ (PySem.F.args_dict_iter_1 _))
  unfold Builtin.«dict.__iter__»
  refine wpAny_bind ?_
  unfold Builtin.Dict.dictSlotNone
  refine wpAny_bind (wpAny_notOrdered_dict hT (wpAny_pure ?_))
  show wpAny _ _ (Builtin.Dict.showsAll d >>= _) _ _ s
  unfold Builtin.Dict.showsAll
  rw [if_neg (by rw [hd]; exact Bool.false_ne_true)]
  refine wpAny_bind (wpAny_pure (wpAny_bind (wpAny_dictEntries ho hdat (wpAny_bind (wpAny_dictEpoch ho hdat ?_)))))
  exact wpAny_bind (wpAny_newObj_type (wpAny_pure ⟨_, rfl, "dict_keyiterator", _, ⟨_, Heap.get?_push_size _ rfl, rfl⟩, PySem.F.slot_dict_keyiterator_next.lookup, hQ⟩))
theorem raw_next {it : Addr} {i : Nat} {Q : Option Value → Shared → Prop} (hh : A.handled = none) (hit : s.heap.IsKeyIter it d i es.size ep) (x : RawD d es ep s.heap)
    (hQ : ∀ e h', es[i]? = some e → h'.IsKeyIter it d (i + 1) es.size ep → Heap.SameBut it s.heap h' → Q (some e.key) { s with heap := h' })
    (hN : ∀ h', es[i]? = none → Heap.ExtBut it s.heap h' → Q none { s with heap := h' }) : wpAny (model prog w) A (pyNext (.ref it)) Q E s := by
  obtain ⟨o, ho, hc, hd⟩ := id hit
  obtain ⟨od, hod, hxd, hdd⟩ := x
  unfold pyNext
  refine wpAny_bind (wpAny_attempt (wpAny_callSpecial?_slot (name := Str.ofString "__next__") hit.typeIs PySem.F.slot_dict_keyiterator_next (wpAny_call_entry PySem.F.slot_dict_keyiterator_next hit.typeIs PySem.F.entry_dict_keyiterator_next ?_ (PySem.F.args_dict_keyiterator_next_1 _))))
  refine wpAny_bind (wpAny_pure (wpAny_bind (wpAny_bind ?_)))
  first | refine wpAny_bind (wpAny_typeNameOfWhole_keyiter hit.typeIs (wpAny_pure ?_)) | refine wpAny_bind (wpAny_typeNameOf_keyiter hit.typeIs (wpAny_pure ?_))
  refine wpAny_bind (wpAny_fieldsOf ho hd ?_)
  have hown : Builtin.Dict_items.ownsTuple "dict_keyiterator" = false := by decide
  simp only [hown, Bool.false_eq_true, if_false]
  show wpAny _ _ (if (Value.ref d == Value.none) = true then _ else _) _ _ s
  rw [if_neg (show ¬ ((Value.ref d == Value.none) = true) from Bool.false_ne_true)]
  refine wpAny_bind (wpAny_pure (wpAny_bind (wpAny_dictEntries hod hdd ?_)))
  rw [if_neg (by simp)]
  refine wpAny_bind (wpAny_pure (wpAny_bind (wpAny_dictEpoch hod hdd ?_)))
  rw [if_neg (by simp)]
  refine wpAny_pure ?_
  simp only [show ¬ ((i : Int) < 0) from by omega, if_false, Int.toNat_natCast]
  cases he : es[i]? with
  | some e =>
    refine wpAny_bind ?_
    first | refine wpAny_bind (wpAny_typeNameOfWhole_keyiter hit.typeIs (wpAny_pure ?_)) | refine wpAny_bind (wpAny_typeNameOf_keyiter hit.typeIs (wpAny_pure ?_))
    refine wpAny_bind (wpAny_isOneOf_keyiter hit.typeIs ?_)
    show wpAny _ _ (setField (.ref it) 1 (rawInt ((i : Int) + 1)) >>= _) _ _ s
    refine wpAny_bind (wpAny_setField ho hd (by simp) ?_)
    have hit' : (s.heap.update it (Obj.mapFields (·.setIfInBounds 1 (rawInt ((i : Int) + 1))))).IsKeyIter it d (i + 1) es.size ep :=
      ⟨_, Heap.get?_update_self _ ho (Obj.isFreed_of_fields (Obj.data_mapFields hd _)), (Obj.cls_mapFields ..).trans hc, by rw [Obj.data_mapFields hd]; simp [rawInt]⟩
    refine wpAny_bind (wpAny_holding (wpAny_bind (wpAny_isOneOf_keyiter (s := { s with heap := s.heap.update it (Obj.mapFields (·.setIfInBounds 1 (rawInt ((i : Int) + 1)))) }) hit'.typeIs ?_)))
    show wpAny _ _ (pure e.key) _ _ _
    exact wpAny_pure (wpAny_pure ⟨_, rfl, wpAny_pure (hQ e _ he hit' (Heap.SameBut.update ..))⟩)
  | none =>
    refine wpAny_bind ?_
    first | refine wpAny_bind (wpAny_typeNameOfWhole_keyiter hit.typeIs (wpAny_pure ?_)) | refine wpAny_bind (wpAny_typeNameOf_keyiter hit.typeIs (wpAny_pure ?_))
    show wpAny _ _ (setField (.ref it) 0 .none >>= _) _ _ s
    refine wpAny_bind (wpAny_setField ho hd (by simp) ?_)
    show wpAny _ _ (newExc (.type "StopIteration") [] >>= _) _ _ _
    refine wpAny_bind ?_
    simp only [newExc, newTuple]
    refine wpAny_bind (wpAny_newObj_type ?_ (by size_fits))
    refine wpAny_bind (m := firstArgMember _ _) (wpAny_of_eq (a := Value.none) (by first | rfl | (simp only [firstArgMember]; rfl)) (wpAny_newObj_type ?_ (by size_fits)))
    simp only [raiseNew]
    refine wpAny_bind (wpAny_handled ?_)
    rw [show A.in1.handled = none from hh]
    refine wpAny_bind (wpAny_pure (wpAny_throw ?_))
    refine wpAny_bind (wpAny_isInstance (T := "StopIteration") (b := true) ⟨_, Heap.get?_push_size _ rfl, rfl⟩ isSubtype_stop ?_)
    exact wpAny_pure (hN _ he (((Heap.SameBut.update ..).extBut.push _).push _))
theorem raw_walks (hh : A.handled = none) (I : Addr) (hne : d ≠ I) : Walks prog w A I [I, d] [I] es.size (fun i v => (es[i]?).map (·.key) = some v) (fun i h => h.IsKeyIter I d i es.size ep ∧ RawD d es ep h) where
  sub := fun b hb => by simp at hb; simp [hb]
  frame := fun _ _ _ st hk => ⟨st.1.at fun o e => hk I (by simp) o e, st.2.at fun o e => hk d (by simp) o e⟩
  item := fun i s Q E hi st hQ => by
    refine raw_next hh st.1 st.2 (fun e h' he hit' sb => ?_) (fun h' he => by rw [Array.getElem?_eq_getElem hi] at he; cases he)
    exact hQ e.key h' s.toks (by rw [he]; rfl) ⟨hit', st.2.at fun o z => (sb.2 d hne).trans z⟩ fun b o hb e => (sb.2 b (fun h => hb (by simp [h]))).trans e
  done := fun s Q E st hQ => by
    refine raw_next hh st.1 st.2 (fun e h' he => by rw [Array.getElem?_eq_none (Nat.le_refl _)] at he; cases he) (fun h' _ ex => ?_)
    exact hQ h' s.toks fun b o hb e => ex b o (fun h => hb (by simp [h])) e
  self := fun _ _ _ _ st hQ => wpAny_pyIter_keyiter st.1 hQ
theorem raw_src (lo : (d == sysModules) = false) : PySem.W.KdlSrc prog w "dict" d d es.size (fun i v => (es[i]?).map (·.key) = some v) (RawD d es ep) where
  type := fun _ x => x.type
  there := fun _ x => by obtain ⟨o, g, _⟩ := x; exact ⟨Heap.lt_size g, Heap.lt_size g⟩
  keep := fun _ _ x hk => x.at fun o e => hk d (.inl rfl) o e
  notList := by decide
  notTuple := by decide
  hint := fun _ _ _ _ x hq => PySem.W.kdl_hint_dict x.type hq
  iter := fun _ s hh x => ⟨_, _, (fun _ _ hq => raw_iter lo x hq), raw_walks hh _ (by obtain ⟨o, g, _⟩ := x; exact Nat.ne_of_lt (Heap.lt_size g)), ⟨⟨_, Heap.get?_push_size _ rfl, rfl, rfl⟩, x.at fun o e => Heap.get?_push_of_some _ e⟩⟩
end
section
variable {X : Cx} {pins : List (Addr × Obj)} {σ : L2.St} {H : Hp} {s : Shared} {A : Around} {E : Value → Shared → Prop}
theorem keys_items {w : World} {xs : List (KT × V × V)} {es : Array DictEntry} {acc : Array Value} (r : Paired (QRel w) xs es.toList) (h : ItemsOf (fun i v => (es[i]?).map (·.key) = some v) acc es.size) : Vals (xs.map (·.2.1)) acc.toList := by
  have ln := Paired.length r
  have l2 : acc.toList.length = es.size := by have := h.1; simpa using this
  refine paired_of (by rw [List.length_map, l2, ln]; simp) fun i a b ha hb => ?_
  rw [List.getElem?_map] at ha
  obtain ⟨z, ez, rfl⟩ := Option.map_eq_some_iff.mp ha
  rw [Array.getElem?_toList] at hb
  have := h.2 i b hb
  obtain ⟨e, ee, rfl⟩ := Option.map_eq_some_iff.mp this
  obtain ⟨z', e1, e2⟩ := paired_right r (by rw [Array.getElem?_toList]; exact ee)
  rw [ez] at e1
  cases e1
  exact e2.2.1
/-- the keys of such a dict, as a list is made of them -/
theorem q_collect {d : Addr} {xs : List (KT × V × V)} {Q : List Value → Shared → Prop} (hh : A.handled = none) (I : Inv X pins σ H s) (x : DkAt X.w H d xs) (hQ : ∀ (s1 : Shared) (its : List Value), Inv X pins σ H s1 → Vals (xs.map (·.2.1)) its → Q its s1) : wpAny (model X.prog X.w) A (collect (.ref d)) Q E s := by
  obtain ⟨es, hH, rel⟩ := x.ex
  obtain ⟨⟨hsys, hsz, o, ep, ho, hx, hd⟩, _⟩ := I.hok d _ hH
  refine collect_src (raw_src (ep := ep) hsys) hh ⟨o, ho, hx, hd⟩ hsz fun h' tk acc k1 _ hacc => ?_
  exact hQ _ acc.toList (I.kept (t' := tk) k1) (keys_items rel hacc)
end
end Tw
set_option Elab.async false
set_option linter.all false
set_option maxRecDepth 100000
set_option maxHeartbeats 4000000
namespace Tw
open PySem PySem.Spec L2 PyProof.Rows
section
variable {X : Cx}
theorem tb_sortedG : bootBuiltins "sorted" = some (.builtin "sorted") := by decide +kernel
/-- {}, to be a dict of keys of any kind -/
def tQNew : TE := fun _ H Q => ∀ (p : Addr) (H' : Hp), H p = none → SameX p H H' → Same H H' → DkAt X.w H' p [] → Q (.ref p) H'
theorem pe_qnew {pos : Pos} : PE X (.Dict [] [] pos) (tQNew (X := X)) := fun pins s σ H Q I h => by
  have hn := I.hok.fresh (Nat.le_refl s.heap.objs.size)
  refine wpAny_Dict_empty ⟨.ref s.heap.objs.size, _, I.laid (a := s.heap.objs.size) (o := dkO s.heap.objs.size #[]) (t' := s.toks) (fun _ _ q => Heap.get?_push_of_some _ q) (Nat.le_refl _) (dk_ok (beq_eq_false_iff_ne.mpr (Ne.symm (Nat.ne_of_lt I.big))) (Nat.zero_le _) ⟨_, 0, Heap.get?_push_size _ rfl, ⟨rfl, rfl, rfl⟩, rfl⟩), rfl, ?_⟩
  exact h _ _ hn (fun b o e n => by rw [upd_ne n]; exact e) (same_new hn _) ⟨⟨#[], upd_same, .nil⟩, fun z hz => by simp at hz, .nil⟩
/-- d[y] = v -/
def sQPut (w : World) (td ty tv : TE) : TS := fun D σ H => tv σ H fun v H1 => td σ H1 fun x H2 => ty σ H2 fun y H3 => ∃ (a : Addr) (xs : List (KT × V × V)) (t : KT), x = .ref a ∧ DkAt w H3 a xs ∧ xs.length < 1000 ∧ KeyAt H3 t y ∧ t.depth ≤ 3 ∧ ∀ H4, SameX a H3 H4 → DkAt w H4 a (putQ xs t y v) → D.nx σ H4
theorem ps_qput {o i value : Expr} {pos pos' : Pos} {td ty tv : TE} (hu : X.A.units + 4 < cLine) (ho : PE X o td) (hi : PE X i ty) (hv : PE X value tv) (hs : swapsWith value (some (.Subscript o i pos')) pos.line X.env = pure false) :
    PS X (.Assign [.Subscript o i pos'] value pos) (sQPut X.w td ty tv) := by
  intro pins s σ H D I h
  refine wpAny_Assign_Subscript (thn (hv pins s σ H _ I h) fun r s1 ⟨v, H1, I1, rv, q1⟩ => thn (ho pins s1 σ H1 _ I1 q1) fun u s2 ⟨x, H2, I2, rx, q2⟩ => thn (hi pins s2 σ H2 _ I2 q2) fun iv s3 ⟨y, H3, I3, ry, a, xs, t, ex, dk, lx, ky, dt, q3⟩ => ?_) hs
  subst ex
  obtain rfl : u = Value.ref a := rx
  exact q_set hu I3 dk lx ky dt ry rv fun s4 H4 I4 sx dk4 => ⟨σ, H4, I4, q3 H4 sx dk4⟩
/-- what sorted(.., key = g) tells -/
def SortK (ts : List KT) (H1 : Hp) (Q : VK) : Prop := ∀ (D : Addr) (ws : List V) (rs : List KT) (H' : Hp), Same H1 H' → H1 D = none → H' D = some (.lst ws) → KeysAt H' rs ws → rs.Perm ts → rs.Pairwise (fun a b => b.lt a = false) → Q (.ref D) H'
def tSortQ (w : World) (t : TA) : TE := fun σ H Q => t σ H fun vs H1 => ∃ (d : Addr) (xs : List (KT × V × V)), vs = [.ref d] ∧ DkAt w H1 d xs ∧ (∀ x ∈ xs, x.1.fits 3 = true) ∧ xs.length < 64 ∧ SortK (xs.map (·.1)) H1 Q
theorem pe_sortQ {g : KT → KT} (hg : Kg g) (dg : ∀ t, (g t).depth ≤ 2 * t.depth + 2) {k : Nat} {p pos kp p2 : Pos} {e : Expr} {x x0 : Str} {t : TA} (DS : DefOk X.prog X.w X.K X.mg X.base k x [x0] (spKg g)) (hr : Room (k + 2) X.A) (hgl : Gl X "sorted") (hm : X.mg "sorted" = none) (hgx : Gl X x) (ha : PA X [e] t) (hdx : (x == ("__debug__" : Str)) = false := by decide)
    (he : backTo pos (starEach [e] X.env) = (false, eval e X.env) :: backTo pos (starEach [] X.env) := by rfl) (hplain : (backTo pos (starEach [e] X.env)).any (·.1) = false := by rfl) :
    PE X (.Call (.Name "sorted" p) [e] [⟨some (Str.ofString "key"), .Name x p2, kp⟩] pos) (tSortQ X.w t) := by
  intro pins s σ H Q I h
  obtain ⟨f, fd, F, b, kp', m⟩ := DS.ex
  refine wpAny_Call_Name_kw (ld_blt I hgl hm tb_sortedG (callWith_kw (thn (ha pos pins s σ H _ I h) fun us s1 ⟨vs, H1, I1, r, d, xs, e1, dk, hf, h64, q⟩ => ?_) he hplain))
  have pk : PK X [⟨some (Str.ofString "key"), .Name x p2, kp⟩] (tCons (tC (.ref f)) tNil) := pk_cons (pe_glob (v := .ref f) (pos := p2) hgx m rfl hdx) pk_nil
  refine thn (pk pos pins s1 σ H1 (fun zs H2 => zs = [.ref f] ∧ H2 = H1) I1 ⟨rfl, rfl⟩) fun zs s2 ⟨zv, H2, I2, rz, ez, eH⟩ => ?_
  subst e1 ez eH
  obtain ⟨u, rfl, ru⟩ := vals1 r
  obtain ⟨u2, rfl, ru2⟩ := vals1 rz
  cases ru
  cases ru2
  have ka : KeysAt H2 (xs.map (·.1)) (xs.map (·.2.1)) := by
    have := dk.key
    clear q h64 hf dk
    induction xs with
    | nil => exact .nil
    | cons z xs ih => exact .cons (this z (List.mem_cons_self ..)).1 (ih fun z hz => this z (List.mem_cons_of_mem _ hz))
  exact sorted_keyG hg dg hr F b I2 ka (fun t ht => by obtain ⟨z, hz, rfl⟩ := List.mem_map.mp ht; exact hf z hz) (by rw [List.length_map]; exact h64) (fun Q' hq => q_collect hr.hd I2 dk hq) q
end
end Tw
set_option Elab.async false
set_option linter.all false
set_option maxRecDepth 100000
set_option maxHeartbeats 4000000
namespace L2
open PySem PySem.Spec PyProof.Rows
/-! ### sorted(xs), xs a list of ints -/
section
variable {X : Cx}
end
/-! ### dict(xs), xs a list of pairs -/
theorem lk_list_keys : typeLookup (.type "list") "keys" = pure none := by rw [typeLookup_type, builtinLookup_eq_fast]; kernel_rfl
theorem sub_AE : isSubtype (.type "AttributeError") (.type "AttributeError") = pure true := by rw [isSubtype_type]; kernel_rfl
section
variable {prog : Program} {w : World} {A : Around} {E : Value → Shared → Prop} {s : Shared}
theorem keys_miss {a : Addr} {o : Obj} {xs : Array Value} {k : Nat} {Q : Option Value → Shared → Prop} (hx : s.heap.get? a = some o) (hc : o.cls = .type "list") (hdat : o.data = .seq xs k) (hd : o.dict = none) (hA : A.handled = none)
    (h : ∀ h' tk, (∀ b ob, s.heap.get? b = some ob → h'.get? b = some ob) → Q none { s with heap := h', toks := tk }) : wpAny (model prog w) A (getAttr? (.ref a) "keys") Q E s := by
  obtain ⟨oc, od, oda, sl⟩ := o
  dsimp only at hc hdat hd
  subst hc hdat hd
  obtain ⟨hp, g, d, tk, os⟩ := s
  have hT : ∀ tk', (⟨hp, g, d, tk', os⟩ : Shared).TypeIs (.ref a) "list" := fun _ => ⟨_, hx, rfl⟩
  have f1 := sub_AE
  have f3 := F.slot_list_getattribute.lookup
  have f4 := F.slot_list_getattribute.bind (.ref a)
  have f5 := am_list_getattr_none
  unfold getAttr? getAttrBy? getAttrBy
  repeat (any_goals (first | assumption | exact hT _ | ((with_reducible show wpAny _ _ (call (Value.builtin "list.__getattribute__") _ _) _ _ _); refine call_meets F.slot_list_getattribute (hT _) am_entry_list_getattribute (F.args_list_getattribute_2 _ _) (meets_getattribute_miss_list a xs k sl "keys" _ lk_list_keys (by decide) (by size_fits)) ⟨hx, hA, fun h' tk' e hxx => ?_⟩) | wp_step))
  obtain ⟨t', u', he⟩ := hxx.there
  show wpAny _ _ (getattributeRaised _ _ _ _ _ _ _) _ _ _
  unfold getattributeRaised
  repeat (any_goals (first | assumption | wp_step))
  exact h h' tk' hxx.keeps
theorem entry_dul : entryFor table "dict.update.loop" = some Builtin.«dict.update.loop» := entryFor_of_tree (by kernel_rfl)
theorem plain_dul : plainId "dict.update.loop" = true := by decide +kernel
end
section
variable {X : Cx} {pins : List (Addr × Obj)} {σ : St} {H : Hp} {s : Shared}
end
end L2
set_option Elab.async false
set_option linter.all false
set_option maxRecDepth 100000
set_option maxHeartbeats 4000000
namespace Tw
open PySem PySem.Spec L2 PyProof.Rows
def QO : Option V → Option Value → Prop
  | some v, some r => RelV v r
  | none, none => True
  | _, _ => False
mutual
theorem KVal.keep {h h' : Heap} (k : ∀ b o, h.get? b = some o → h'.get? b = some o) : ∀ (t : KT) (v : Value), KVal h t v → KVal h' t v
  | .int i, v, x => by rw [KVal] at x ⊢; exact x
  | .str i, v, x => by rw [KVal] at x ⊢; exact x
  | .tup l, v, x => by
    rw [KVal] at x ⊢
    obtain ⟨a, its, e, ⟨o, g, r⟩, e2⟩ := x
    exact ⟨a, its, e, ⟨o, k _ _ g, r⟩, KVals.keep k l its e2⟩
theorem KVals.keep {h h' : Heap} (k : ∀ b o, h.get? b = some o → h'.get? b = some o) : ∀ (l : List KT) (vs : List Value), KVals h l vs → KVals h' l vs
  | [], vs, x => by rw [KVals] at x ⊢; exact x
  | t :: l, vs, x => by
    rw [KVals] at x ⊢
    obtain ⟨v, r, e, e1, e2⟩ := x
    exact ⟨v, r, e, KVal.keep k t v e1, KVals.keep k l r e2⟩
end
section
variable {X : Cx} {pins : List (Addr × Obj)} {σ : L2.St} {H : Hp} {s : Shared} {A : Around} {E : Value → Shared → Prop}
theorem q_type {d : Addr} {xs : List (KT × V × V)} (I : Inv X pins σ H s) (x : DkAt X.w H d xs) : (d == sysModules) = false ∧ s.TypeIs (.ref d) "dict" ∧ ∀ b, Value.ref d = .ref b → ∃ ob, s.heap.get? b = some ob ∧ ob.dict = none := by
  obtain ⟨es, hH, rel⟩ := x.ex
  obtain ⟨⟨hsys, hsz, o, ep, ho, hx, hd⟩, _⟩ := I.hok d _ hH
  refine ⟨hsys, ⟨o, ho, hx.1⟩, fun b q => ?_⟩
  cases q
  exact ⟨o, ho, hx.2.1⟩
theorem q_dictGet {d : Addr} {xs : List (KT × V × V)} {t : KT} {y : V} {u : Value} {Q : Option Value → Shared → Prop} (hu : A.units + 4 < cLine) (I : Inv X pins σ H s) (x : DkAt X.w H d xs) (hy : KeyAt H t y) (dt : t.depth ≤ 3) (ry : RelV y u)
    (h : ∀ s' r, Inv X pins σ H s' → (∀ b ob, s.heap.get? b = some ob → s'.heap.get? b = some ob) → QO (valQ xs t) r → Q r s') : wpAny (model X.prog X.w) A (dictGet d u) Q E s := by
  obtain ⟨es, hH, rel⟩ := x.ex
  obtain ⟨⟨hsys, hsz, o, ep, ho, hx, hd⟩, _⟩ := I.hok d _ hH
  unfold dictGet
  try with_reducible refine wpAny_holding ?_
  refine wpAny_bind (kv_hash t.depth t (Nat.le_refl _) (kval_of I t y u hy ry) (by omega) fun tk htk => ?_)
  have I1 : Inv X pins σ H { s with toks := tk } := I.tok tk
  refine wpAny_bind (q_find (A := A) I1 x rel ho hd hy dt ry (by omega) (fun hn => ?_) fun j z e e1 e2 e3 e4 => ?_)
  · refine wpAny_pure (h _ none I1 (fun _ _ e => e) ?_)
    rw [valQ_none hn]
    trivial
  · refine wpAny_bind (wpAny_dictEntries (s := { s with toks := tk }) ho hd ?_)
    rw [e3]
    refine wpAny_pure (h _ (some e.val) I1 (fun _ _ e => e) ?_)
    rw [← e2, valQ_at x.nd e1]
    exact e4.2.2
/-- d[y], y there -/
theorem q_getItem {d : Addr} {xs : List (KT × V × V)} {t : KT} {y v : V} {u : Value} {Q : Value → Shared → Prop} (hu : A.units + 5 < cLine) (I : Inv X pins σ H s) (x : DkAt X.w H d xs) (hy : KeyAt H t y) (dt : t.depth ≤ 3) (ry : RelV y u) (hv : valQ xs t = some v)
    (h : ∀ w' s', Inv X pins σ H s' → RelV v w' → Q w' s') : wpAny (model X.prog X.w) A (getItem (.ref d) u) Q E s := by
  obtain ⟨hsys, hT, _⟩ := q_type I x
  unfold getItem
  try with_reducible refine wpAny_holding ?_
  refine wpAny_bind (wpAny_sequenceKey hT (by decide) ?_)
  refine wpAny_bind (wpAny_callSpecial?_slot (name := Str.ofString "__getitem__") hT slot_dict_getitem (wpAny_call_entry slot_dict_getitem hT entry_dict_getitem ?_ (args_dict_getitem _ _)))
  show wpAny _ _ (dictGet d u >>= _) _ _ s
  refine wpAny_bind (q_dictGet (by show A.units + 1 + 4 < _; omega) I x hy dt ry fun s' r I' _ ro => ?_)
  rw [hv] at ro
  cases r with
  | none => exact ro.elim
  | some r => exact wpAny_pure ⟨r, rfl, wpAny_pure (h r s' I' ro)⟩
/-- y in d -/
theorem q_in {d : Addr} {xs : List (KT × V × V)} {t : KT} {y : V} {u : Value} {Q : Value → Shared → Prop} (hu : A.units + 5 < cLine) (I : Inv X pins σ H s) (x : DkAt X.w H d xs) (hy : KeyAt H t y) (dt : t.depth ≤ 3) (ry : RelV y u)
    (h : ∀ s', Inv X pins σ H s' → Q (.bool (valQ xs t).isSome) s') : wpAny (model X.prog X.w) A (compareOp .In u (.ref d)) Q E s := by
  obtain ⟨hsys, hT, _⟩ := q_type I x
  show wpAny _ _ (do return .bool (← contains (.ref d) u)) Q E s
  refine wpAny_bind ?_
  unfold contains
  try with_reducible refine wpAny_holding ?_
  refine wpAny_bind (wpAny_specialOf hT slot_dict_contains.lookup ?_)
  show wpAny _ _ (if (some (Value.builtin "dict.__contains__") == some Value.none) = true then _ else _) _ E s
  rw [if_neg (by rw [beq_builtin_none]; exact Bool.false_ne_true)]
  refine wpAny_bind (wpAny_callSpecialUnlessNone?_slot (name := Str.ofString "__contains__") hT slot_dict_contains (wpAny_call_entry slot_dict_contains hT entry_dict_contains ?_ (args_dict_contains _ _)))
  show wpAny _ _ (dictGet d u >>= _) _ _ s
  refine wpAny_bind (q_dictGet (by show A.units + 1 + 4 < _; omega) I x hy dt ry fun s' r I' _ ro => ?_)
  have h' := h s' I'
  cases r with
  | some r =>
    cases q : valQ xs t with
    | none => rw [q] at ro; exact ro.elim
    | some v =>
      rw [q] at h'
      show wpAny _ _ (ret (.bool true)) _ _ _
      exact wpAny_pure ⟨_, rfl, wpAny_truthy_bool (wpAny_pure h')⟩
  | none =>
    cases q : valQ xs t with
    | some v => rw [q] at ro; exact ro.elim
    | none =>
      rw [q] at h'
      show wpAny _ _ (Builtin.Dict.pendingKey? d u >>= _) _ _ _
      exact wpAny_bind (wpAny_pendingKey_other hsys (wpAny_pure ⟨_, rfl, wpAny_truthy_bool (wpAny_pure h')⟩))
/-- d.get(y, z) -/
theorem q_get2 {d : Addr} {xs : List (KT × V × V)} {t : KT} {y z : V} {u r : Value} {Q : Value → Shared → Prop} (hu : A.units + 9 < cLine) (I : Inv X pins σ H s) (x : DkAt X.w H d xs) (hy : KeyAt H t y) (dt : t.depth ≤ 3) (ry : RelV y u) (rz : RelV z r)
    (h : ∀ w' s', Inv X pins σ H s' → RelV ((valQ xs t).getD z) w' → Q w' s') : wpAny (model X.prog X.w) A (call (.builtin "dict.get") [.ref d, u, r]) Q E s := by
  obtain ⟨hsys, hT, _⟩ := q_type I x
  have M : MeetsIn X.prog X.w (Builtin.«dict.get» ⟨[.ref d, u, r], []⟩) (fun A' R s' => s' = s ∧ A'.units + 8 < cLine ∧ ∀ w' s'', Inv X pins σ H s'' → RelV ((valQ xs t).getD z) w' → R (.ok (.ret w')) s'') := .of_wp fun A' R s' ⟨e, hu', h'⟩ => by
    subst e
    show wpAny _ _ (dictGet d u >>= _) _ _ _
    refine wpAny_bind (q_dictGet (by first | (show A'.units + 1 + 4 < _; omega) | omega) I x hy dt ry fun s'' ro I'' _ hro => ?_)
    cases ro with
    | some w' =>
      cases q : valQ xs t with
      | none => rw [q] at hro; exact hro.elim
      | some v => exact wpAny_pure ⟨w', rfl, h' w' s'' I'' (by rw [q]; rw [q] at hro; exact hro)⟩
    | none =>
      cases q : valQ xs t with
      | some v => rw [q] at hro; exact hro.elim
      | none =>
        show wpAny _ _ (Builtin.Dict.missed d u >>= _) _ _ _
        exact wpAny_bind (wpAny_missed_other hsys (wpAny_pure ⟨r, rfl, h' r s'' I'' (by rw [q]; exact rz)⟩))
  exact call_meetsIn PySem.F.slot_dict_get hT PySem.F.entry_dict_get (PySem.F.args_dict_get_3 _ _ _) M ⟨rfl, by omega, h⟩
end
end Tw
set_option Elab.async false
set_option linter.all false
set_option maxRecDepth 100000
set_option maxHeartbeats 4000000
namespace Tw
open PySem PySem.Spec L2 PyProof.Rows
section
variable {X : Cx} {o i e f : Expr} {pos apos cpos : Pos} {td ty tx : TE}
/-- d[y] -/
def tQGet (w : World) (td ty : TE) : TE := fun σ H Q => td σ H fun x H1 => ty σ H1 fun y H2 => ∃ (a : Addr) (xs : List (KT × V × V)) (t : KT) (v : V), x = .ref a ∧ DkAt w H2 a xs ∧ KeyAt H2 t y ∧ t.depth ≤ 3 ∧ valQ xs t = some v ∧ Q v H2
theorem pe_qget (hu : X.A.units + 5 < cLine) (ho : PE X o td) (hi : PE X i ty) (hs : NoSl i) : PE X (.Subscript o i pos) (tQGet X.w td ty) := by
  intro pins s σ H Q I h
  refine subD_of PySem.F.slot_dict_getitem.lookup hs (thn (ho pins s σ H _ I h) fun u s1 ⟨x, H1, I1, rx, q1⟩ => thn (hi pins s1 σ H1 _ I1 q1) fun iv s2 ⟨y, H2, I2, ry, a, xs, t, v, ex, dk, ky, dt, hv, q2⟩ => ?_)
  subst ex
  obtain rfl : u = Value.ref a := rx
  exact ⟨(q_type I2 dk).2.1, q_getItem hu I2 dk ky dt ry hv fun w' s3 I3 rw' => ⟨v, H2, I3, rw', q2⟩⟩
/-- y in d -/
theorem op_inQ (hu : X.A.units + 5 < cLine) : OpR X (compareOp .In) (fun y x H Q => ∃ (a : Addr) (xs : List (KT × V × V)) (t : KT), x = .ref a ∧ DkAt X.w H a xs ∧ KeyAt H t y ∧ t.depth ≤ 3 ∧ Q (.bl (valQ xs t).isSome) H) := by
  intro pins s σ H y x v u Q I ry rx h
  obtain ⟨a, xs, t, rfl, dk, ky, dt, q⟩ := h
  cases rx
  exact q_in hu I dk ky dt ry fun s' I' => ⟨.bl _, H, I', rfl, q⟩
/-- d.get(y, z) -/
def tQGet2 (w : World) (td ty tx : TE) : TE := fun σ H Q => td σ H fun x H1 => ∃ (a : Addr) (xs : List (KT × V × V)), x = .ref a ∧ DkAt w H1 a xs ∧ ty σ H1 fun y H2 => tx σ H2 fun z H3 => ∃ t, DkAt w H3 a xs ∧ KeyAt H3 t y ∧ t.depth ≤ 3 ∧ Q ((valQ xs t).getD z) H3
theorem pe_qget2 (hu : X.A.units + 9 < cLine) (ho : PE X o td) (he : PE X e ty) (hf : PE X f tx) (m : M2 X o "get" apos e f cpos) : PE X (.Call (.Attribute o "get" apos) [e, f] [] cpos) (tQGet2 X.w td ty tx) := by
  intro pins s σ H Q I h
  refine wpAny_Call_method m.base m.few m.line PySem.F.plainAttrs_dict PySem.F.slot_dict_get PySem.F.type_dict_get (thn (ho pins s σ H _ I h) fun u s1 ⟨x, H1, I1, rx, a, xs, ex, d, q1⟩ => ?_)
  subst ex
  obtain rfl : u = Value.ref a := rx
  obtain ⟨_, t1, t2⟩ := q_type I1 d
  refine ⟨t1, t2, ?_⟩
  rw [m.trees]
  refine Calls.callWith_builtin rfl (Calls.evalArgs_plain (Calls.spliced_cons (thn (he pins s1 σ H1 _ I1 q1) fun iv s2 ⟨y, H2, I2, ry, q2⟩ =>
    Calls.spliced_cons (thn (hf pins s2 σ H2 _ I2 q2) fun fv s3 ⟨z, H3, I3, rz, t, dk, ky, dt, q3⟩ => Calls.spliced_nil ?_))))
  exact q_get2 hu I3 dk ky dt ry rz fun w' s4 I4 rw' => ⟨_, H3, I4, rw', q3⟩
/-- list(d) -/
def rListQ (w : World) : List V → Hp → VK → Prop := fun vs H Q => ∃ (a : Addr) (xs : List (KT × V × V)), vs = [.ref a] ∧ DkAt w H a xs ∧ xs.length ≤ 900 ∧ ∀ p, H p = none → Q (.ref p) (upd H p (.lst (xs.map (·.2.1))))
theorem call_listQ (hc : X.calm = true) : CallR X (.type "list") (rListQ X.w) := by
  intro pins s σ H vs us Q I r h
  obtain ⟨a, xs, rfl, dk, l900, q⟩ := h
  obtain ⟨u, rfl, ru⟩ := vals1 r
  cases ru
  obtain ⟨es, hH, rel⟩ := dk.ex
  obtain ⟨⟨hsys, hsz, o, ep, ho, hx, hd⟩, _⟩ := I.hok a _ hH
  refine PySem.W.kdl_call (raw_src (ep := ep) hsys) (I.ok.hd hc) ⟨o, ho, hx, hd⟩ hsz fun h' tk acc c k1 hg hacc => ?_
  exact ⟨.ref s.heap.objs.size, _, I.laid (a := s.heap.objs.size) (o := .lst (xs.map (·.2.1))) (t' := tk) k1 (Nat.le_refl _) ⟨by rw [List.length_map]; exact Nat.le_of_lt (small1000 (by omega)), acc.toList, c, keys_items rel hacc, by rw [Array.toArray_toList]; exact hg⟩, rfl, q _ (I.hok.fresh (Nat.le_refl _))⟩
end
/-! ### dict(xs), xs a list of pairs -/
section
variable {prog : Program} {w : World} {A : Around} {E : Value → Shared → Prop} {s : Shared}
/-- d[key] = value within a builtin -/
theorem raw_set {d : Addr} {es : Array DictEntry} {ep : Nat} {o : Obj} {xs : List (KT × V × V)} {t : KT} {y v : V} {u r : Value} {Q : Unit → Shared → Prop} (hu : A.units + 4 < cLine) (ho : s.heap.get? d = some o) (hx : o.ExactDict) (hd : o.data = .dict es ep) (hsz : es.size ≤ sizeLine) (rel : Paired (QRel w) xs es.toList) (hk : EsK w s.heap (xs.map (·.1)) es) (hl : xs.length < 1000)
    (kv : KVal s.heap t u) (dt : t.depth ≤ 3) (ry : RelV y u) (rv : RelV v r)
    (h : ∀ (es' : Array DictEntry) (h' : Heap) (tk : Nat), es'.size ≤ sizeLine → Heap.SameBut d s.heap h' → (∃ o ep, h'.get? d = some o ∧ o.ExactDict ∧ o.data = .dict es' ep) → Paired (QRel w) (putQ xs t y v) es'.toList → Q () { s with heap := h', toks := tk }) : wpAny (model prog w) A (dictSet d u r) Q E s := by
  have len : es.size = xs.length := by have := Paired.length rel; simpa using this.symm
  have nd := hk.nd
  unfold dictSet
  try with_reducible refine wpAny_holding ?_
  refine wpAny_bind (kv_hash t.depth t (Nat.le_refl _) kv (by omega) fun tk htk => ?_)
  unfold dictSetHashed
  try with_reducible refine wpAny_holding ?_
  refine wpAny_bind (kd_find (s := { s with toks := tk }) (A := A) kv dt (by omega) ho hd hk (fun hn => ?_) fun j hj => ?_)
  · have hn' : ¬ (xs.any fun x => x.1.eqb t) = true := fun q => hn (any_key.mp q)
    refine wpAny_bind (wpAny_rule (wpAny_updateDictKeys (s := { s with toks := tk }) (hz := hsz) ho hd ?_))
    refine h (es.push ⟨hashK w t, u, r⟩) _ tk (by rw [Array.size_push, len]; exact Nat.le_of_lt (small1000 (by omega))) ?_ ?_ ?_
    · exact Heap.SameBut.update ..
    · exact ⟨_, ep + 1, Heap.get?_update_self _ ho (Obj.isFreed_of_dict (Obj.data_mapDictKeys hd _)), hx.mapDictKeys _, Obj.data_mapDictKeys hd _⟩
    unfold putQ
    rw [if_neg hn', Array.toList_push]
    exact paired_snoc ⟨rfl, ry, rv⟩ rel
  · rw [List.getElem?_map] at hj
    obtain ⟨z, e1, e2⟩ := Option.map_eq_some_iff.mp hj
    have hn' : (xs.any fun x => x.1.eqb t) = true := any_key.mpr (List.mem_map.mpr ⟨z, List.mem_of_getElem? e1, e2⟩)
    refine wpAny_bind (wpAny_rule (wpAny_bind (wpAny_updateDict (s := { s with toks := tk }) ho hd (wpAny_point ?_))))
    refine h (es.modify j fun e => { e with val := r }) _ tk (by rw [Array.size_modify]; exact hsz) ?_ ?_ ?_
    · exact Heap.SameBut.update ..
    · exact ⟨_, ep, Heap.get?_update_self _ ho (Obj.isFreed_of_dict (Obj.data_mapDict hd _)), hx.mapDict _, Obj.data_mapDict hd _⟩
    unfold putQ
    rw [if_pos hn']
    have lm : (es.modify j fun e => { e with val := r }).toList.length = es.size := by rw [Array.length_toList]; exact Array.size_modify
    refine paired_of (by rw [lm, List.length_map, len]) fun i a b ha hb => ?_
    rw [List.getElem?_map] at ha
    obtain ⟨a', ea, rfl⟩ := Option.map_eq_some_iff.mp ha
    rw [Array.getElem?_toList, Array.getElem?_modify] at hb
    have hes : es[i]? = some (es[i]'(by obtain ⟨l1, _⟩ := List.getElem?_eq_some_iff.mp ea; omega)) := Array.getElem?_eq_getElem _
    obtain ⟨a2, ea2, r1, r2, r3⟩ := paired_right rel (by rw [Array.getElem?_toList]; exact hes)
    rw [ea] at ea2
    cases ea2
    rw [hes] at hb
    by_cases hij : j = i
    · subst hij
      rw [if_pos rfl, Option.map_some] at hb
      cases hb
      rw [e1] at ea
      cases ea
      unfold setQ
      rw [e2, eqb_self, if_pos rfl]
      rw [e2] at r1
      exact ⟨r1, r2, rv⟩
    · rw [if_neg hij] at hb
      cases hb
      have hne : a'.1.eqb t = false := by
        cases q : a'.1.eqb t with
        | false => rfl
        | true =>
          have q1 : (xs.map (·.1))[i]? = some t := by rw [List.getElem?_map, ea]; exact congrArg some (eqb_eq _ _ q)
          have q2 : (xs.map (·.1))[j]? = some t := by rw [List.getElem?_map, e1]; exact congrArg some e2
          obtain ⟨l1, _⟩ := List.getElem?_eq_some_iff.mp q2
          exact absurd ((List.getElem?_inj l1 nd).mp (q2.trans q1.symm)) hij
      unfold setQ
      rw [hne, if_neg Bool.false_ne_true]
      exact ⟨r1, r2, r3⟩
end
theorem Paired.ixR {α β : Type} {F : α → β → Prop} : ∀ {l : List α} {m : List β} {i : Nat} {u : β}, Paired F l m → m[i]? = some u → ∃ r, l[i]? = some r ∧ F r u
  | _, _, _, _, .nil, e => by simp at e
  | _, _, 0, _, .cons r _, e => by simp at e; subst e; exact ⟨_, rfl, r⟩
  | _, _, i + 1, u, .cons _ t, e => by
    obtain ⟨r, h1, h2⟩ := Paired.ixR (i := i) (u := u) t (by simpa using e)
    exact ⟨r, by simpa using h1, h2⟩
def foldQ (ps : List (KT × V × V)) : List (KT × V × V) := ps.foldl (fun acc p => putQ acc p.1 p.2.1 p.2.2) []
theorem foldQ_snoc (ps : List (KT × V × V)) (p : KT × V × V) : foldQ (ps ++ [p]) = putQ (foldQ ps) p.1 p.2.1 p.2.2 := by
  unfold foldQ
  rw [List.foldl_append]
  rfl
theorem putQ_nd {xs : List (KT × V × V)} (nd : (xs.map (·.1)).Nodup) (t : KT) (y v : V) : ((putQ xs t y v).map (·.1)).Nodup := by
  rw [putQ_keys]
  split
  · exact nd
  · rename_i hn
    rw [List.nodup_append]
    exact ⟨nd, by simp, fun a ha b hb => by rw [List.mem_singleton.mp hb]; exact fun z => hn (any_key.mpr (z ▸ ha))⟩
theorem putQ_mem {xs : List (KT × V × V)} {t : KT} {y v : V} {z : KT × V × V} (h : z ∈ putQ xs t y v) : (∃ z' ∈ xs, z'.1 = z.1 ∧ z'.2.1 = z.2.1) ∨ (z.1 = t ∧ z.2.1 = y) := by
  unfold putQ at h
  split at h
  · obtain ⟨z', hz', rfl⟩ := List.mem_map.mp h
    exact .inl ⟨z', hz', (setQ_key t v z').1.symm, (setQ_key t v z').2.symm⟩
  · rcases List.mem_append.mp h with q | q
    · exact .inl ⟨z, q, rfl, rfl⟩
    · rw [List.mem_singleton.mp q]
      exact .inr ⟨rfl, rfl⟩
end Tw
set_option Elab.async false
set_option linter.all false
set_option maxRecDepth 100000
set_option maxHeartbeats 4000000
namespace Tw
open PySem PySem.Spec L2 PyProof.Rows
/-! ### dict(xs) of pairs: the loop -/
theorem vals_two {a b : V} {its : List Value} (h : Vals [a, b] its) : ∃ u v, its = [u, v] ∧ RelV a u ∧ RelV b v := by
  cases h with
  | cons r h => cases h with
    | cons r' h => cases h; exact ⟨_, _, rfl, r, r'⟩
theorem esk_of {X : Cx} {pins : List (Addr × Obj)} {σ : L2.St} {H : Hp} {s : Shared} (I : Inv X pins σ H s) {h : Heap} (kp : ∀ b o, s.heap.get? b = some o → h.get? b = some o) {xs : List (KT × V × V)} {es : Array DictEntry} (rel : Paired (QRel X.w) xs es.toList) (hk : ∀ x ∈ xs, KeyAt H x.1 x.2.1 ∧ x.1.depth ≤ 3) (nd : (xs.map (·.1)).Nodup) : EsK X.w h (xs.map (·.1)) es := by
  refine ⟨by have := Paired.length rel; simpa using this.symm, fun i e he => ?_, nd⟩
  rw [← Array.getElem?_toList] at he
  obtain ⟨z, e1, e2, e3, e4⟩ := paired_right rel he
  have hz := hk z (List.mem_of_getElem? e1)
  exact ⟨z.1, by rw [List.getElem?_map, e1]; rfl, e2, KVal.keep kp _ _ (kval_of I _ _ _ hz.1 e3), hz.2⟩
/-- pairs, as a list holds them -/
def PrQ (H : Hp) (u : V) (p : KT × V × V) : Prop := ∃ t, u = .ref t ∧ H t = some (.tup [p.2.1, p.2.2]) ∧ KeyAt H p.1 p.2.1 ∧ p.1.depth ≤ 3
theorem foldQ_facts {H : Hp} {us : List V} : ∀ (i : Nat) (ps : List (KT × V × V)), Paired (PrQ H) us ps → (∀ x ∈ foldQ (ps.take i), KeyAt H x.1 x.2.1 ∧ x.1.depth ≤ 3) ∧ ((foldQ (ps.take i)).map (·.1)).Nodup ∧ (foldQ (ps.take i)).length ≤ i
  | 0, ps, _ => ⟨fun x hx => by simp [foldQ] at hx, by simp [foldQ], by simp [foldQ]⟩
  | i + 1, ps, hp => by
    obtain ⟨a, b, c⟩ := foldQ_facts i ps hp
    rw [List.take_add_one]
    cases e : ps[i]? with
    | none =>
      simp only [Option.toList_none, List.append_nil]
      exact ⟨a, b, by omega⟩
    | some p =>
      simp only [Option.toList_some]
      rw [foldQ_snoc]
      refine ⟨fun x hx => ?_, putQ_nd b _ _ _, by have := putQ_len (foldQ (ps.take i)) p.1 p.2.1 p.2.2; omega⟩
      rcases putQ_mem hx with ⟨z, hz, e1, e2⟩ | ⟨e1, e2⟩
      · rw [← e1, ← e2]; exact a z hz
      · obtain ⟨u, _, t, _, _, h3, h4⟩ := Paired.ixR hp e
        rw [e1, e2]; exact ⟨h3, h4⟩
section
variable {X : Cx} {pins : List (Addr × Obj)} {σ : L2.St} {H : Hp} {s0 s : Shared} {A : Around}
theorem dictQ_loop {R : Result → Shared → Prop} {d it l : Addr} {items : Array Value} {us : List V} {ps : List (KT × V × V)} (hA : A.handled = none) (hu : A.units + 6 < cLine) (I : Inv X pins σ H s0) (hp : Paired (PrQ H) us ps) (rv : Vals us items.toList) (hli : l ≠ it) (hld : l ≠ d) (hid : it ≠ d) (hl : s0.heap.IsList l items) (h900 : ps.length ≤ 900)
    (hlt : ∀ b o, s0.heap.get? b = some o → b ≠ it ∧ b ≠ d)
    (hR : ∀ h' tk es, (∀ b o, s0.heap.get? b = some o → h'.get? b = some o) → es.size ≤ sizeLine → (∃ o ep, h'.get? d = some o ∧ o.ExactDict ∧ o.data = .dict es ep) → Paired (QRel X.w) (foldQ ps) es.toList → R (.ok (.ret .none)) { s with heap := h', toks := tk }) :
    ∀ (n i : Nat) (h : Heap) (tk : Nat) (es : Array DictEntry), n = items.size - i → i ≤ items.size → h.IsListIter it l i → es.size ≤ sizeLine → (∃ o ep, h.get? d = some o ∧ o.ExactDict ∧ o.data = .dict es ep) → Paired (QRel X.w) (foldQ (ps.take i)) es.toList → (∀ b o, s0.heap.get? b = some o → h.get? b = some o) →
      codeAny (model X.prog X.w) A (.builtin "dict.update.loop" ⟨[.ref d, .ref it, rawInt (i : Int), .none], []⟩) R { s with heap := h, toks := tk } := by
  have lus : us.length = items.size := by have := rv.length; simpa using this
  have lps := Paired.length hp
  intro n
  induction n with
  | zero =>
    intro i h tk es hn hi hit hsz hd rel kp
    have hi' : i = items.size := by omega
    refine codeAny_builtin entry_dul ?_
    rw [Around.under_plainId plain_dul _]
    unfold Builtin.«dict.update.loop»
    dsimp only [rawInt]
    have hl' : h.IsList l items := by obtain ⟨o, ho, r⟩ := hl; exact ⟨o, kp _ _ ho, r⟩
    refine wpAny_bind (wpAny_pyNext_list_end (s := { s with heap := h, toks := tk }) hA hit hl' (by rw [hi']; simp) fun h2 ex => ?_)
    dsimp only
    refine wpAny_bind (wpAny_pure (wpAny_pure ?_))
    rw [List.take_of_length_le (by omega)] at rel
    refine hR h2 tk es (fun b o e => ex b o (hlt b o e).1 (kp b o e)) hsz ?_ rel
    obtain ⟨o, ep, ho, r⟩ := hd
    exact ⟨o, ep, ex d o (Ne.symm hid) ho, r⟩
  | succ n ih =>
    intro i h tk es hn hi hit hsz hd rel kp
    have hlt' : i < items.size := by omega
    refine codeAny_builtin entry_dul ?_
    rw [Around.under_plainId plain_dul _]
    unfold Builtin.«dict.update.loop»
    dsimp only [rawInt]
    have hl' : h.IsList l items := by obtain ⟨o, ho, r⟩ := hl; exact ⟨o, kp _ _ ho, r⟩
    have hx : items[i]? = some items[i] := Array.getElem?_eq_getElem hlt'
    have hui : us[i]? = some (us[i]'(by omega)) := List.getElem?_eq_getElem (by omega)
    obtain ⟨x, ex1, rx⟩ := rv.get hui
    rw [Array.getElem?_toList, hx] at ex1
    cases ex1
    have hpi : ps[i]? = some (ps[i]'(by omega)) := List.getElem?_eq_getElem (by omega)
    obtain ⟨u, eu, t, rfl, ht, ky, dt⟩ := Paired.ixR hp hpi
    rw [hui] at eu
    injection eu with eu
    rw [eu] at rx
    have rx' : items[i] = Value.ref t := rx
    rw [rx'] at hx
    obtain ⟨its, q1, ptup, _⟩ := I.tuple (SqT.of ht)
    obtain ⟨key, v, rfl, ra, rb⟩ := vals_two q1
    refine wpAny_bind (wpAny_pyNext_list_item (s := { s with heap := h, toks := tk }) hit hl' hx fun h2 hit2 sb => ?_)
    dsimp only
    have kp2 : ∀ b o, s0.heap.get? b = some o → h2.get? b = some o := fun b o e => (sb.2 b (hlt b o e).1).trans (kp b o e)
    obtain ⟨ot, hot0, hct, nt, hdt⟩ := ptup
    have hot := kp2 _ _ hot0
    have hT : ({ s with heap := h2, toks := tk } : Shared).TypeIs (.ref t) "tuple" := ⟨ot, hot, hct⟩
    refine wpAny_bind (wpAny_holding (wpAny_bind (wpAny_tryCatch ?_)))
    unfold Builtin.Dict.pairItems
    refine wpAny_bind (wpAny_typeOf hT ?_)
    rw [if_pos (by decide)]
    refine wpAny_bind (wpAny_seqItems (s := { s with heap := h2, toks := tk }) hot hdt (wpAny_pure ?_))
    show wpAny _ _ (holding [key, v] (dictSet d key v)) _ _ _
    obtain ⟨o, ep, ho, hxd, hdd⟩ := hd
    have ho2 : h2.get? d = some o := (sb.2 d (Ne.symm hid)).trans ho
    obtain ⟨f1, f2, f3⟩ := foldQ_facts i ps hp
    refine wpAny_holding (raw_set (s := { s with heap := h2, toks := tk }) (w := X.w) (by first | omega | (show A.units + 1 + 4 < _; omega) | (show A.units + 1 + 1 + 4 < _; omega)) ho2 hxd hdd hsz rel (esk_of I kp2 rel f1 f2) (by omega) (KVal.keep kp2 _ _ (kval_of I _ _ _ ky ra)) dt ra rb fun es' h3 tk3 hz' sb3 hd3 rel3 => ?_)
    have e1 : ((i : Int) + 1) = ((i + 1 : Nat) : Int) := by omega
    have hit3 : h3.IsListIter it l (i + 1) := by
      obtain ⟨o, ho, r⟩ := hit2
      exact ⟨o, (sb3.2 it hid).trans ho, r⟩
    refine wpAny_pure ⟨plainId_quiet plain_dul _, ?_⟩
    rw [e1]
    refine ih (i + 1) h3 tk3 es' (by omega) (by omega) hit3 hz' hd3 ?_ fun b o e => (sb3.2 b (hlt b o e).2).trans (kp2 b o e)
    rw [List.take_add_one, hpi]
    simp only [Option.toList_some]
    rw [foldQ_snoc]
    exact rel3
end
section
variable {X : Cx}
/-- dict(xs) -/
def rDictQ (w : World) : List V → Hp → VK → Prop := fun vs H Q => ∃ (a : Addr) (us : List V) (ps : List (KT × V × V)), vs = [.ref a] ∧ H a = some (.lst us) ∧ Paired (PrQ H) us ps ∧ ps.length ≤ 900 ∧ ∀ (D : Addr) (H' : Hp), H D = none → Same H H' → DkAt w H' D (foldQ ps) → Q (.ref D) H'
theorem call_dictQ {k : Nat} (hr : Room k X.A) : CallR X (.type "dict") (rDictQ X.w) := by
  intro pins s σ H vs us Q I r h
  obtain ⟨l, ws, ps, rfl, ha, hp, h900, q⟩ := h
  obtain ⟨u, rfl, ru⟩ := vals1 r
  cases ru
  obtain ⟨z, its, n, rv, hl, e⟩ := I.lstM ha
  have hA : X.A.handled = none := hr.hd
  have hun := Room.key hr (n := 20) (by decide)
  refine callType_codes (Q₁ := fun obj s₁ => obj = .ref s.heap.objs.size ∧ s₁ = { s with heap := s.heap.push { cls := .type "dict", data := .dict #[] } }) F.kt_called_dict (F.kt_typeCall_dict_1 _) F.entry_dict_init (kt_code_dict_new _ ⟨rfl, rfl⟩) ?_
  rintro obj s₁ ⟨rfl, rfl⟩
  have god : (s.heap.push { cls := .type "dict", data := .dict #[] }).get? s.heap.objs.size = some { cls := .type "dict", data := .dict #[] } := Heap.get?_push_size _ rfl
  have hl1 : (s.heap.push { cls := .type "dict", data := .dict #[] }).get? l = some { cls := .type "list", data := .seq its.toArray n } := Heap.get?_push_of_some _ e
  refine ⟨⟨_, god, rfl⟩, F.args_dict_init_2 _ _, ?_⟩
  unfold Builtin.«dict.__init__»
  refine wpAny_bind ?_
  unfold Builtin.Dict.selfAndRest
  refine wpAny_bind (wpAny_notOrdered_dict ⟨_, god, rfl⟩ ?_)
  show wpAny _ _ (pure (s.heap.objs.size, [Value.ref l])) _ _ _
  refine wpAny_pure ?_
  show wpAny _ _ (Builtin.Dict.updateFrom "dict.__init__" s.heap.objs.size (.ref l) [] .none) _ _ _
  unfold Builtin.Dict.updateFrom
  refine wpAny_bind (wpAny_typeOf (T := "list") ⟨_, hl1, rfl⟩ ?_)
  rw [if_pos (by decide)]
  refine wpAny_bind (keys_miss hl1 rfl rfl rfl hA fun h2 tk2 k2 => ?_)
  show wpAny _ _ (rule _ >>= _) _ _ _
  refine wpAny_bind (wpAny_rule ?_)
  have hl2 : h2.IsList l its.toArray := ⟨_, k2 _ _ hl1, rfl, _, rfl⟩
  refine wpAny_bind (wpAny_pyIter_list hl2 ?_)
  have lts : l < s.heap.objs.size := Heap.lt_size e
  have lt2 : s.heap.objs.size < h2.objs.size := Heap.lt_size (k2 _ _ god)
  have old : ∀ b o, s.heap.get? b = some o → (h2.push { cls := .type "list_iterator", data := .fields #[.ref l, .int 0 0] }).get? b = some o := fun b o e => Heap.get?_push_of_some _ (k2 _ _ (Heap.get?_push_of_some _ e))
  refine wpAny_pure ⟨plainId_quiet plain_dul _, ?_⟩
  refine dictQ_loop (A := X.A.in1) (s := { s with heap := h2, toks := tk2 }) (items := its.toArray) hA (by show X.A.units + 1 + 6 < _; omega) I hp (by simpa using rv) (Nat.ne_of_lt (Nat.lt_trans lts lt2)) (Nat.ne_of_lt lts) (Nat.ne_of_gt lt2) ⟨_, e, rfl, _, rfl⟩ h900 (fun b o e => ⟨Nat.ne_of_lt (Nat.lt_trans (Heap.lt_size e) lt2), Nat.ne_of_lt (Heap.lt_size e)⟩) (fun h3 tk3 es k3 hz hd3 rel3 => ?_) _ 0 _ _ #[] rfl (Nat.zero_le _) ⟨_, Heap.get?_push_size _ rfl, rfl, rfl⟩ (Nat.zero_le _) ⟨_, 0, Heap.get?_push_of_some _ (k2 _ _ god), ⟨rfl, rfl, rfl⟩, rfl⟩ .nil old
  have hn := I.hok.fresh (Nat.le_refl s.heap.objs.size)
  have sm := same_new hn (dkO s.heap.objs.size es)
  obtain ⟨f1, f2, f3⟩ := foldQ_facts ps.length ps hp
  rw [List.take_length] at f1 f2 f3
  refine ⟨rfl, .ref s.heap.objs.size, _, I.laid (a := s.heap.objs.size) (o := dkO s.heap.objs.size es) (t' := tk3) k3 (Nat.le_refl _) (dk_ok (beq_eq_false_iff_ne.mpr (Ne.symm (Nat.ne_of_lt I.big))) hz hd3), rfl, q _ _ hn sm ⟨⟨es, upd_same, rel3⟩, fun z hz => ⟨(f1 z hz).1.mono (Same.tups sm), (f1 z hz).2⟩, f2⟩⟩
end
end Tw
set_option Elab.async false
set_option linter.all false
set_option maxRecDepth 100000
set_option maxHeartbeats 4000000
namespace Tw
open PySem PySem.Spec L2
/-! ### things on the heap; N: where no list or dict of theirs lies -/
def OddAt (N : Addr → Prop) (H : Hp) (n : String) (v : V) : Prop :=
  (n = "bool" ∧ ∃ b, v = .bl b) ∨ (n = "NoneType" ∧ v = .non) ∨ (n = "list" ∧ ∃ a xs, v = .ref a ∧ H a = some (.lst xs) ∧ ¬ N a) ∨ (n = "dict" ∧ ∃ a kvs, v = .ref a ∧ H a = some (.dK kvs) ∧ ¬ N a)
mutual
def ThAt (N : Addr → Prop) (H : Hp) : TG → V → Prop
  | .int i, v => v = .int i
  | .str x, v => v = .str x
  | .tup l, v => ∃ a vs, v = .ref a ∧ H a = some (.tup vs) ∧ ThsAt N H l vs
  | .odd n, v => OddAt N H n v
def ThsAt (N : Addr → Prop) (H : Hp) : List TG → List V → Prop
  | [], vs => vs = []
  | t :: l, vs => ∃ v r, vs = v :: r ∧ ThAt N H t v ∧ ThsAt N H l r
end
/-- what stays for things -/
structure Keeps (N : Addr → Prop) (H H' : Hp) : Prop where
  tup : Tups H H'
  rest : ∀ b o, H b = some o → ¬ N b → H' b = some o
mutual
theorem ThAt.mono {N : Addr → Prop} {H H' : Hp} (m : Keeps N H H') : ∀ (t : TG) (v : V), ThAt N H t v → ThAt N H' t v
  | .int _, _, h => by rw [ThAt] at h ⊢; exact h
  | .str _, _, h => by rw [ThAt] at h ⊢; exact h
  | .tup l, _, h => by
    rw [ThAt] at h ⊢
    obtain ⟨a, vs, e, h1, h2⟩ := h
    exact ⟨a, vs, e, m.tup a vs h1, ThsAt.mono m l vs h2⟩
  | .odd n, _, h => by
    rw [ThAt] at h ⊢
    rcases h with h | h | ⟨e, a, xs, e1, e2, e3⟩ | ⟨e, a, xs, e1, e2, e3⟩
    · exact .inl h
    · exact .inr (.inl h)
    · exact .inr (.inr (.inl ⟨e, a, xs, e1, m.rest _ _ e2 e3, e3⟩))
    · exact .inr (.inr (.inr ⟨e, a, xs, e1, m.rest _ _ e2 e3, e3⟩))
theorem ThsAt.mono {N : Addr → Prop} {H H' : Hp} (m : Keeps N H H') : ∀ (l : List TG) (vs : List V), ThsAt N H l vs → ThsAt N H' l vs
  | [], _, h => by rw [ThsAt] at h ⊢; exact h
  | t :: l, _, h => by
    rw [ThsAt] at h ⊢
    obtain ⟨v, r, e, h1, h2⟩ := h
    exact ⟨v, r, e, ThAt.mono m t v h1, ThsAt.mono m l r h2⟩
end
mutual
theorem ThAt.less {N N' : Addr → Prop} {H : Hp} (m : ∀ b, N' b → N b) : ∀ (t : TG) (v : V), ThAt N H t v → ThAt N' H t v
  | .int _, _, h => by rw [ThAt] at h ⊢; exact h
  | .str _, _, h => by rw [ThAt] at h ⊢; exact h
  | .tup l, _, h => by
    rw [ThAt] at h ⊢
    obtain ⟨a, vs, e, h1, h2⟩ := h
    exact ⟨a, vs, e, h1, ThsAt.less m l vs h2⟩
  | .odd n, _, h => by
    rw [ThAt] at h ⊢
    rcases h with h | h | ⟨e, a, xs, e1, e2, e3⟩ | ⟨e, a, xs, e1, e2, e3⟩
    · exact .inl h
    · exact .inr (.inl h)
    · exact .inr (.inr (.inl ⟨e, a, xs, e1, e2, fun z => e3 (m a z)⟩))
    · exact .inr (.inr (.inr ⟨e, a, xs, e1, e2, fun z => e3 (m a z)⟩))
theorem ThsAt.less {N N' : Addr → Prop} {H : Hp} (m : ∀ b, N' b → N b) : ∀ (l : List TG) (vs : List V), ThsAt N H l vs → ThsAt N' H l vs
  | [], _, h => by rw [ThsAt] at h ⊢; exact h
  | t :: l, _, h => by
    rw [ThsAt] at h ⊢
    obtain ⟨v, r, e, h1, h2⟩ := h
    exact ⟨v, r, e, ThAt.less m t v h1, ThsAt.less m l r h2⟩
end
end Tw
set_option Elab.async false
set_option linter.all false
set_option maxRecDepth 100000
set_option maxHeartbeats 4000000
namespace L2
open PySem PySem.Spec PyProof.Rows
/-! ### try: y = f(..) / except Y as n: suite -/
end L2
set_option Elab.async false
set_option linter.all false
set_option maxRecDepth 100000
set_option maxHeartbeats 4000000
namespace L2
open PySem PySem.Spec PyProof.Rows

section
variable {P : Program} {w : World} {H H2 : Hp} {h h' : Heap} {cs fs ex : List Addr}
end

section
variable {P : Program} {w : World} {K : PySem.W.Frag} {mg : Str → Option Value} {base : Heap}
end
end L2
set_option Elab.async false
set_option linter.all false
set_option maxRecDepth 100000
set_option maxHeartbeats 4000000
namespace L2
open PySem PySem.Spec PyProof.Rows

/-! ### f(e, ..), the callee given the cells of this frame to see -/
/-! ### try: y = c() / except Y as n: suite, c a function in the slot q -/
end L2
set_option Elab.async false
set_option linter.all false
set_option maxRecDepth 100000
set_option maxHeartbeats 4000000
namespace L2
open PySem PySem.Spec PyProof.Rows

end L2
set_option Elab.async false
set_option linter.all false
set_option maxRecDepth 100000
set_option maxHeartbeats 4000000
namespace L2
open PySem PySem.Spec PyProof.Rows
section
variable {P : Program} {w : World} {K : PySem.W.Frag} {mg : Str → Option Value} {base : Heap}
end
end L2
set_option Elab.async false
set_option linter.all false
set_option maxRecDepth 100000
set_option maxHeartbeats 4000000
namespace L2
open PySem PySem.Spec PyProof.Rows
section
variable {X : Cx}
end
/-! ### behind a call that saw the cells -/
section
variable {cs : List Addr} {HL Hc H' H3 : Hp}
end
end L2
set_option Elab.async false
set_option linter.all false
set_option maxRecDepth 100000
set_option maxHeartbeats 4000000
namespace L2
open PySem PySem.Spec PyProof.Rows
/-! ### list(reversed(xs)) -/
section
variable {prog : Program} {w : World} {A : Around} {E : Value → Shared → Prop} {s : Shared}
end
section
variable {X : Cx}
end
end L2
set_option Elab.async false
set_option linter.all false
set_option maxRecDepth 100000
set_option maxHeartbeats 8000000
namespace L2
open PySem PySem.Spec PyProof.Rows
section
variable {P : Program} {w : World} {K : PySem.W.Frag} {mg : Str → Option Value} {base : Heap}
end
theorem po_fn {P : Program} {w : World} {K : PySem.W.Frag} {mg : Str → Option Value} {base : Heap} {CX : CXT} {N : List Str} {qual : Str} {scope : Scope} {f : Addr} {cdv : Value} {A : Around} {outer : List Env} {s : Shared} {H : Hp} {E : XK} :
    PassesOwn (model (cxOf CX P w K mg base N qual scope f cdv A outer s H E).prog (cxOf CX P w K mg base N qual scope f cdv A outer s H E).w) (cxOf CX P w K mg base N qual scope f cdv A outer s H E).A (cxOf CX P w K mg base N qual scope f cdv A outer s H E).env (cxOf CX P w K mg base N qual scope f cdv A outer s H E).xe := by
  show PassesOwn (model P w) (A.deeper (envOfC qual scope s.heap.objs.size f cdv)) (envOfC qual scope s.heap.objs.size f cdv) _
  passes_own
def starless : Expr → Bool
  | .Starred _ _ => false
  | _ => true
theorem star_plain {e : Expr} {es : List Expr} {env : Env} (h : starless e = true) : starEach (e :: es) env = (false, eval e env) :: starEach es env := by
  cases e <;> first | rfl | cases h
theorem pa_c {X : Cx} {e : Expr} {es : List Expr} {te : TE} {t : TA} (ha : PE X e te) (hr : PA X es t) (h : starless e = true := by rfl) : PA X (e :: es) (tCons te t) := pa_cons ha hr (star_plain h)
theorem pa3 {X : Cx} {e0 e1 e2 : Expr} {t0 t1 t2 : TE} (g0 : PE X e0 t0) (g1 : PE X e1 t1) (g2 : PE X e2 t2) (h : [e0, e1, e2].all starless = true := by rfl) : PA X [e0, e1, e2] (tCons t0 (tCons t1 (tCons t2 tNil))) :=
  (pa_cons g0 (pa_cons g1 (pa_cons g2 pa_nil (star_plain (List.all_eq_true.mp h e2 (by simp)))) (star_plain (List.all_eq_true.mp h e1 (by simp)))) (star_plain (List.all_eq_true.mp h e0 (by simp))))
theorem pa4 {X : Cx} {e0 e1 e2 e3 : Expr} {t0 t1 t2 t3 : TE} (g0 : PE X e0 t0) (g1 : PE X e1 t1) (g2 : PE X e2 t2) (g3 : PE X e3 t3) (h : [e0, e1, e2, e3].all starless = true := by rfl) : PA X [e0, e1, e2, e3] (tCons t0 (tCons t1 (tCons t2 (tCons t3 tNil)))) :=
  (pa_cons g0 (pa_cons g1 (pa_cons g2 (pa_cons g3 pa_nil (star_plain (List.all_eq_true.mp h e3 (by simp)))) (star_plain (List.all_eq_true.mp h e2 (by simp)))) (star_plain (List.all_eq_true.mp h e1 (by simp)))) (star_plain (List.all_eq_true.mp h e0 (by simp))))
theorem pa6 {X : Cx} {e0 e1 e2 e3 e4 e5 : Expr} {t0 t1 t2 t3 t4 t5 : TE} (g0 : PE X e0 t0) (g1 : PE X e1 t1) (g2 : PE X e2 t2) (g3 : PE X e3 t3) (g4 : PE X e4 t4) (g5 : PE X e5 t5) (h : [e0, e1, e2, e3, e4, e5].all starless = true := by rfl) : PA X [e0, e1, e2, e3, e4, e5] (tCons t0 (tCons t1 (tCons t2 (tCons t3 (tCons t4 (tCons t5 tNil)))))) :=
  (pa_cons g0 (pa_cons g1 (pa_cons g2 (pa_cons g3 (pa_cons g4 (pa_cons g5 pa_nil (star_plain (List.all_eq_true.mp h e5 (by simp)))) (star_plain (List.all_eq_true.mp h e4 (by simp)))) (star_plain (List.all_eq_true.mp h e3 (by simp)))) (star_plain (List.all_eq_true.mp h e2 (by simp)))) (star_plain (List.all_eq_true.mp h e1 (by simp)))) (star_plain (List.all_eq_true.mp h e0 (by simp))))
end L2
namespace Tw
open PySem PySem.Spec L2
end Tw
set_option Elab.async false
set_option linter.all false
set_option maxRecDepth 100000
set_option maxHeartbeats 4000000
namespace L2
open PySem PySem.Spec PyProof.Rows
/-! ### exceptions with a field of their own -/
def ExcD (g : Array Value → Prop) (x C : Addr) (od : Option Addr) (h : Heap) : Prop := ∃ o vs, h.get? x = some o ∧ o.cls = .ref C ∧ o.data = .fields vs ∧ o.dict = od ∧ g vs
/-- not raised yet; any -/
def gNew : Array Value → Prop := fun vs => vs[1]? = some .none
def gAny : Array Value → Prop := fun _ => True
def XO (g : Array Value → Prop) (x C : Addr) (od : Option Addr) : HO := .ext (ExcD g x C od)
theorem ExcD.is {g : Array Value → Prop} {x C : Addr} {od : Option Addr} {h : Heap} (e : ExcD g x C od h) : IsOf x C h := let ⟨o, _, a, b, _⟩ := e; ⟨o, a, b⟩
theorem xo_ok {P : Program} {w : World} {H : Hp} {h : Heap} {g : Array Value → Prop} {x C : Addr} {od : Option Addr} (e : ExcD g x C od h) : ObjOk P w H h x (XO g x C od) := by
  obtain ⟨o, vs, a, b, c, d⟩ := id e
  exact ⟨e, ⟨o, a⟩, fun h1 h2 ⟨o1, vs1, a1, b1, c1, d1⟩ k => ⟨o1, vs1, k o1 a1, b1, c1, d1⟩⟩
abbrev bmV : List Value := [.type "ValueError", .type "Exception", .type "BaseException", .type "object"]
/-- own classes, then those of ValueError -/
def ownThenV : List Value → Bool
  | .ref _ :: r => ownThenV r
  | l => l == bmV
theorem ownV_refuse (self : Value) : ∀ {l : List Value}, ownThenV l = true → PySem.refuseLoop self "__setattr__" l = pure ()
  | .ref c :: r, e => (refuseLoop_ref _ _ _ _).trans (ownV_refuse self (l := r) e)
  | .type n :: r, e => by rw [show (Value.type n :: r) = bmV from beq_iff_eq.mp e]; exact PySem.F.store_ValueError.passes self
  | [], e => by cases e
  | .none :: r, e | .bool _ :: r, e | .int _ _ :: r, e | .str _ _ :: r, e | .bytes _ _ :: r, e | .float _ _ :: r, e | .builtin _ :: r, e => by cases (beq_iff_eq.mp e)
def overV (K : PySem.W.Frag) (C : Addr) : Bool := (PySem.W.clsIn K C).any fun cd => ownThenV cd.mro
/-- made by ValueError's __new__ -/
def newV (K : PySem.W.Frag) (C : Addr) : Bool :=
  match K.lookup C with
  | some ⟨.type t, _, .cls cd, sl⟩ =>
    (match sl.toList, cd.mro with
    | [_, _, _, _, some (.builtin made), _], .ref D :: up => t == "type" && (D == C && (made == "ValueError.__new__" && (PySem.W.tailIn K bmV up && !cd.hasDel)))
    | _, _ => false)
  | _ => false
/-- what the written part says of an exception class whose __init__ sets the field f -/
structure ExcF (K : PySem.W.Frag) (C fI : Addr) (f : Str) : Prop where
  exc : ExcC K C
  made : newV K C = true
  init : PySem.W.findIn K (.ref C) "__init__" = some (some (.ref fI))
  fn : PySem.W.isFn K (.ref fI) = true
  kp : PySem.W.keepIn K (.ref C) = true
  sa : PySem.W.findIn K (.ref C) "__setattr__" = some (some (.builtin "object.__setattr__"))
  no : PySem.W.findIn K (.ref C) f = some none
  hd : PySem.W.hasDictIn K C = true
  over : overV K C = true

section
variable {g : Array Value → Prop} {X : Cx} {pins : List (Addr × Obj)} {σ : St} {H : Hp} {s : Shared} {a C fI : Addr} {f : Str} {v : V} {A : Around} {E : Value → Shared → Prop}
/-- self.f = v, the first one -/
theorem excset_ok {y : V} {u : Value} {Q : Unit → Shared → Prop} (I : Inv X pins σ H s) (e : H a = some (XO g a C none)) (c : ExcF X.K C fI f) (ry : RelV y u)
    (h : ∀ dx s', H dx = none → dx ≠ a → Inv X pins σ (upd (upd H dx (.xd [(f, y)])) a (XO g a C (some dx))) s' → Q () s') : wpAny (model X.prog X.w) A (setAttr (.ref a) f u) Q E s := by
  obtain ⟨o, vs, hx, hc, hda, hdi, hgv⟩ := (I.hok a _ e).1
  obtain ⟨oc, od, oda, osl⟩ := o
  dsimp only at hc hda hdi
  subst hc hda hdi
  have J : PySem.W.InstAt s.heap a ⟨.ref C, none, .fields vs, osl⟩ C none := ⟨hx, rfl, rfl, True.intro⟩
  refine PySem.W.set_plain I.kIn J c.sa ?_
  have SF := PySem.F.store_ValueError
  obtain ⟨cd, hcd, ho⟩ := PySem.W.any_some c.over
  have sub : PySem.W.Looks (model X.prog X.w) s.heap (isInstance (.ref a) (.type "object")) true := J.type.andThen (PySem.W.looks_mroIn I.kIn c.exc.mO)
  refine codeAny_call_builtin SF.slot.plain SF.entry (@PySem.W.check_slot (model X.prog X.w) _ _ { s with toks := s.toks + 1 } "object.__setattr__" "object" "__setattr__" (.ref a) [.str f s.toks, u] [] _ SF.kind SF.split sub (SF.args (.ref a) (.str f s.toks) u) ?_)
  have hm : PySem.W.Looks (model X.prog X.w) s.heap (mroOf (.ref C)) cd.mro := (PySem.W.looks_clsIn I.kIn hcd).andThen .now
  rw [PySem.W.osa_eq, PySem.refuse_eq]
  refine wpAny_bind (wpAny_bind (PySem.W.Looks.here (s := { s with toks := s.toks + 1 }) J.type (wpAny_bind (PySem.W.Looks.here (s := { s with toks := s.toks + 1 }) hm ?_))))
  rw [ownV_refuse _ ho]
  refine wpAny_pure (wpAny_bind (PySem.W.Looks.here (s := { s with toks := s.toks + 1 }) J.type (wpAny_bind (PySem.W.Looks.here (s := { s with toks := s.toks + 1 }) (PySem.W.looks_findIn I.kIn c.no) (wpAny_bind (wpAny_pure ?_))))))
  obtain ⟨cd2, hcd2, hd2⟩ := PySem.W.any_some c.hd
  refine wpAny_bind (wpAny_pure (wpAny_bind (wpAny_bind (wpAny_loadPart hx (wpAny_bind (PySem.W.Looks.here (s := { s with toks := s.toks + 1 }) (PySem.W.looks_clsIn I.kIn hcd2) ?_))))))
  rw [hd2]
  dsimp only
  have hsz : s.heap.get? s.heap.objs.size = none := Heap.get?_none_of_le (Nat.le_refl _)
  have hda : a ≠ s.heap.objs.size := Nat.ne_of_lt (Heap.lt_size hx)
  have hHd : H s.heap.objs.size = none := I.hok.fresh (Nat.le_refl _)
  rw [if_neg (by simp), if_neg (by simp [typeHasDict])]
  have hx1 := Heap.get?_push_of_some { cls := .type "dict", data := .dict #[] } hx
  refine wpAny_bind (wpAny_alloc' (wpAny_bind (wpAny_update' hx1 (wpAny_pure ?_))))
  generalize eh : ((s.heap.push { cls := .type "dict", data := .dict #[] }).update a fun o => { cls := o.cls, dict := some s.heap.objs.size, data := o.data, slots := o.slots }) = h2
  have ga : h2.get? a = some ⟨.ref C, some s.heap.objs.size, .fields vs, osl⟩ := by
    rw [← eh]
    exact Heap.get?_update_self _ hx1 rfl
  have gd : h2.get? s.heap.objs.size = some { cls := .type "dict", data := .dict #[] } := by
    rw [← eh]
    exact (Heap.get?_update_ne _ _ _ _ hda.symm).trans (Heap.get?_push_at rfl rfl)
  have go : ∀ b o, b ≠ a → s.heap.get? b = some o → h2.get? b = some o := fun b o n q => by
    rw [← eh]
    exact (Heap.get?_update_ne _ _ _ _ n).trans (Heap.get?_push_of_some _ q)
  have hnd : h2.Ns s.heap.objs.size (fun _ => none) := ⟨_, #[], _, gd, rfl, fun e he => absurd he (by simp), fun _ => rfl⟩
  show wpAny _ _ (Builtin.ObjectAttr.storeInDict s.heap.objs.size (.str f s.toks) f u) _ _ _
  unfold Builtin.ObjectAttr.storeInDict Builtin.ObjectAttr.newKeyGuard
  refine wpAny_bind (wpAny_pure (wpAny_bind (wpAny_nsSet1 (Heap.Ns1.of_empty hnd) fun h' hn' hs => ?_)))
  obtain ⟨oD, esD, epD, hoD, hdD, hcD⟩ := hn'.count (Within.cons f u Within.nil)
  refine wpAny_bind (wpAny_lookBehind hoD (by rw [hdD]; exact pastItsLine_dict (Nat.le_trans hcD (by rw [List.length_cons, List.length_nil, sizeLine_eq]; omega))) ?_)
  have ga' : h'.get? a = some ⟨.ref C, some s.heap.objs.size, .fields vs, osl⟩ := (hs.2 a hda).trans ga
  have go' : ∀ b o, b ≠ a → s.heap.get? b = some o → h'.get? b = some o := fun b o n q => (hs.2 b (Nat.ne_of_lt (Heap.lt_size q))).trans (go b o n q)
  have nt : ∀ {b : Addr} {o : HO}, H b = some o → b ≠ s.heap.objs.size := fun {b o} q z => by rw [z, hHd] at q; cases q
  have na : ∀ {b : Addr}, H b = none → b ≠ a := fun {b} q z => by rw [z, e] at q; cases q
  refine wpAny_pure (h s.heap.objs.size _ hHd hda.symm (I.call' (s' := { s with heap := h', toks := _ }) (ch := []) rfl ⟨fun b o q n _ _ => go' b o (na n) q, fun b o q n _ _ => ⟨o.slots, go' b o (na n) q⟩, fun b o q n _ => ?_, fun b o q _ => ?_, fun b xs q => ?_, fun b o u q => ?_, fun b ps q => ?_⟩ (fun b ob q => ?_) I.bare (fun b hb => absurd hb (by simp))))
  · rw [upd_ne (na n), upd_ne (Nat.ne_of_lt (Heap.lt_size q))]; exact n
  · by_cases z : b = a
    · rw [z]; exact ⟨_, ga'⟩
    · exact ⟨o, go' b o z q⟩
  · rw [upd_ne (fun z => by rw [z, e] at q; cases q), upd_ne (nt q)]; exact q
  · rw [upd_ne (fun z => by rw [z, e] at q; cases q), upd_ne (nt q)]; exact q
  · exact ⟨#[], by rw [upd_ne (fun z => by rw [z, e] at q; cases q), upd_ne (nt q), q]; simp⟩
  · by_cases z : b = a
    · rw [z, upd_same] at q
      cases q
      rw [z]
      exact xo_ok ⟨_, _, ga', rfl, rfl, rfl, hgv⟩
    · rw [upd_ne z] at q
      by_cases z2 : b = s.heap.objs.size
      · rw [z2, upd_same] at q
        cases q
        rw [z2]
        refine ⟨_, hn', fun g => ?_⟩
        show RelO (List.lookup g [(f, y)]) (if g = f then some u else none)
        by_cases hg : g = f
        · rw [hg, if_pos rfl]; simp only [List.lookup, beq_self_eq_true]; exact ry
        · rw [if_neg hg]; simp only [List.lookup, beq_eq_false_iff_ne.mpr hg]; exact True.intro
      · rw [upd_ne z2] at q
        have oc : ∀ {c : Addr}, H c = some (.own b) → c ≠ a := fun {c} hc z => by rw [z, e] at hc; cases hc
        refine (I.hok b ob q).stay (fun c u hc r => go' c u ?_ r) (fun c hc => ?_) (fun c xs hc => ?_)
        · rcases hc with rfl | hc
          · exact z
          · exact oc hc
        · rw [upd_ne (oc hc), upd_ne (nt hc)]; exact hc
        · rw [upd_ne (fun z => by rw [z, e] at hc; cases hc), upd_ne (nt hc)]; exact hc
/-- e.f -/
theorem excget_ok {b : Bool} {dx : Addr} {fs : List (Str × V)} {Q : Value → Shared → Prop} (I : Inv X pins σ H s) (e : H a = some (XO g a C (some dx))) (d : H dx = some (.xd fs)) (c : ExcF X.K C fI f) (l : fs.lookup f = some v)
    (h : ∀ u s', Inv X pins σ H s' → RelV v u → Q u s') : wpAny (model X.prog X.w) A (getAttr (.ref a) f b) Q E s := by
  obtain ⟨o, vs, hx, hc, hda, hdi, hgv⟩ := id (I.hok a _ e).1
  obtain ⟨mA, hns, hrel⟩ := I.hok dx _ d
  obtain ⟨u, hu, ru⟩ := RelO.some_of (v := v) (o := mA f) (by rw [← l]; exact hrel f)
  obtain ⟨od, hod, hlk⟩ := lookIn_ns hns
  have J : PySem.W.InstAt s.heap a o C (some od) := ⟨hx, hc, by unfold PySem.W.notCls; rw [hda], by rw [hdi]; exact hod⟩
  obtain ⟨cd, hcd, hhd⟩ := PySem.W.any_some c.hd
  have L : PySem.W.Looks (model X.prog X.w) s.heap (Builtin.ObjectAttr.inOwnDict f (.ref a)) (some u) := PySem.W.looks_own I.kIn J hcd (by unfold PySem.W.ownOf; rw [hhd, if_pos rfl]; show PySem.W.lookIn f od = _; rw [hlk, hu])
  have F : PySem.W.Looks (model X.prog X.w) s.heap (Builtin.ObjectAttr.find (.ref a) (.ref C) f) (.value u) := by
    refine PySem.W.Looks.andThen (PySem.W.looks_findIn I.kIn c.no) (PySem.W.Looks.andThen .now (PySem.W.Looks.andThen .now ?_))
    exact PySem.W.Looks.andThen L (PySem.W.Looks.tag PySem.W.Looks.now)
  refine wpAny_bind (wpAny_mkText ?_)
  refine exc_attr (s := { s with toks := s.toks + 1 }) I.kIn (I.hok a _ e).1.is c.exc F ⟨handed_of ru, h u _ (I.tok _) ru⟩
end
/-! ### C(..), C an exception with an __init__ of its own, some own classes under ValueError -/
section
variable {prog : Program} {w : World} {A : Around} {E : Value → Shared → Prop} {s : Shared} {K : PySem.W.Frag} {C fI : Addr} {f : Str}
/-- the heap behind __new__ -/
abbrev bornV (h : Heap) (C : Addr) (us : List Value) : Heap := (h.push { cls := .type "tuple", data := .seq us.toArray }).push { cls := .ref C, data := .fields #[.ref h.objs.size, .none, .none, .none, .bool false, .none] }
theorem exc_born {us : List Value} {Q : Value → Shared → Prop} (X : K.In s.heap) (c : ExcF K C fI f) (hus : us.length ≤ sizeLine)
    (h : wpAny (model prog w) (A.under (.builtin "type.__call__" ⟨.ref C :: us, []⟩)) (call (.ref fI) (.ref (s.heap.objs.size + 1) :: us)) (fun r s' => r = .none ∧ Q (.ref (s.heap.objs.size + 1)) s') E { s with heap := bornV s.heap C us }) :
    wpAny (model prog w) A (call (.ref C) us) Q E s := by
  obtain ⟨hh, g, d, t, os⟩ := s
  have n := c.made
  unfold newV at n
  split at n
  next tt dd cd sl ho =>
    split at n
    next k0 k1 k2 k3 made k5 D up hs hm =>
      simp only [Bool.and_eq_true, beq_iff_eq, Bool.not_eq_true'] at n
      obtain ⟨rfl, rfl, rfl, ht, hdel⟩ := n
      obtain ⟨nm, bs, mro, ns, qn, hd, sn, sub, ab, col, del⟩ := cd
      dsimp only at hm hdel
      subst hm hdel
      obtain ⟨sll⟩ := sl
      dsimp only at hs
      subst hs
      have hC : hh.get? D = some (excClassObj nm qn D ns bs up hd sn sub ab col dd k0 k1 k2 k3 k5 "ValueError.__new__") := X _ _ ho
      have T : OwnTail hh bmV up := PySem.W.tail_of_in X ht
      have FB := PySem.F.excBase_ValueError
      have f1 := tc_lookup
      have f2 := tc_bind (.ref D)
      have hT : (⟨hh, g, d, t, os⟩ : Shared).TypeIs (.ref D) "type" := ⟨_, hC, rfl⟩
      refine wpAny_call (codeAny_of_tree (show wpAny _ _ (callAny (.ref D) _) _ _ _ from ?_))
      repeat (any_goals (first | assumption | with_reducible refine wpAny_loadPart_at hC ?_ | wp_step))
      refine ⟨rfl, codeAny_call_builtin_at (Code.quiet_builtin _ (by decide +kernel)) entry_typeCall (wpAny_check_type_call_sub hC ?_)⟩
      repeat (first | with_reducible refine wpAny_loadPart_at hC ?_ | with_reducible refine wpAny_madeBy_exc hC ?_ | wp_step)
      refine codeAny_call_builtin_code (Code.quiet_builtin _ FB.quiet) (wpAny_check_new_subU FB FB.hasB T hC (codeAny_exc_new_subU FB FB.hasB FB T hC ?_ hus))
      show wpAny _ _ _ _ _ _
      have e1 : (bornV hh D us).get? (hh.objs.size + 1) = some { cls := .ref D, data := .fields #[.ref hh.objs.size, .none, .none, .none, .bool false, .none] } := by heap_get
      have kk : ∀ b o, hh.get? b = some o → (bornV hh D us).get? b = some o := fun b o q => Heap.get?_push_of_some _ (Heap.get?_push_of_some _ q)
      have hC1 := kk _ _ hC
      have hin : (Value.ref D :: up).contains (.ref D) = true := by simp
      unfold isInstance
      show wpAny _ _ _ _ _ ⟨bornV hh D us, g, d, t, os⟩
      repeat (first | with_reducible refine wpAny_loadPart_at e1 ?_ | wp_step)
      refine wpAny_isSubtype_exc (C := D) (h := bornV hh D us) hC1 ?_
      rw [hin]
      repeat wp_step
      have X1 : K.In (bornV hh D us) := fun b o q => kk b o (X b o q)
      show wpAny _ _ (typeLookup (.ref D) _) _ _ _
      refine (PySem.W.looks_findIn X1 c.init).at ?_
      refine wpAny_holding (wpAny_bind ((PySem.W.bind_fn X1 _ (beq_iff_eq.mp c.fn)).at ?_))
      refine wpAny_bind (wpAny_mono h (fun r s' hr => ?_) fun _ _ z => z)
      obtain ⟨rfl, hQ⟩ := hr
      wp_walk
      exact hQ
    next => cases n
  next => cases n
end
/-! ### the rules -/
/-- an exception of the class at C stands there -/
def IsX (H : Hp) (ea C : Addr) : Prop := ∃ φ, H ea = some (.ext φ) ∧ ∀ h, φ h → IsOf ea C h
theorem isx_x {g : Array Value → Prop} {H : Hp} {ea C : Addr} {od : Option Addr} (e : H ea = some (XO g ea C od)) : IsX H ea C := ⟨_, e, fun _ h => h.is⟩
theorem IsX.mono {H H' : Hp} {ea C : Addr} (x : IsX H ea C) (s : Same H H') : IsX H' ea C := let ⟨φ, e, k⟩ := x; ⟨φ, s _ _ e, k⟩
def rIsiO (K : PySem.W.Frag) : List V → Hp → VK → Prop := fun xs H Q => ∃ ea C c b, xs = [.ref ea, c] ∧ IsX H ea C ∧ ExcC K C ∧ isC c = true ∧ PySem.W.kitOne K (.ref C) (cV c) = some b ∧ Q (.bl b) H
def rIsiOT (K : PySem.W.Frag) : List V → Hp → VK → Prop := fun xs H Q => ∃ ea C tp cs b, xs = [.ref ea, .ref tp] ∧ IsX H ea C ∧ ExcC K C ∧ H tp = some (.tup cs) ∧ (∀ c ∈ cs, isC c = true) ∧ PySem.W.kitAny K (.ref C) (cs.map cV) = some b ∧ Q (.bl b) H
/-- self.f = v of a new exception -/
def sFldX (K : PySem.W.Frag) (ta tv : TE) (f : Str) : TS := fun D σ H => tv σ H fun y H1 => ta σ H1 fun x H2 => ∃ g a C fI, x = .ref a ∧ H2 a = some (XO g a C none) ∧ ExcF K C fI f ∧ ∀ dx, H2 dx = none → dx ≠ a → D.nx σ (upd (upd H2 dx (.xd [(f, y)])) a (XO g a C (some dx)))
/-- e.f -/
def tFldX (K : PySem.W.Frag) (ta : TE) (f : Str) : TE := fun σ H Q => ta σ H fun x H1 => ∃ g a C dx fs v fI, x = .ref a ∧ H1 a = some (XO g a C (some dx)) ∧ H1 dx = some (.xd fs) ∧ ExcF K C fI f ∧ fs.lookup f = some v ∧ Q v H1
def spInitX (K : PySem.W.Frag) (C fI : Addr) (f : Str) : Sp := fun vs H Q _ => ExcF K C fI f ∧ ∃ ea y, vs = [.ref ea, y] ∧ H ea = some (XO gNew ea C none) ∧ ∀ dx, H dx = none → dx ≠ ea → Q .non (upd (upd H dx (.xd [(f, y)])) ea (XO gNew ea C (some dx)))
section
variable {X : Cx}
theorem isi_o : CallR X (.builtin "isinstance") (rIsiO X.K) := by
  intro pins s σ H xs us Q I r h
  obtain ⟨ea, C, c, b, rfl, ⟨φ, e, of⟩, EC, hc, hk, q⟩ := h
  obtain ⟨u, w', rfl, ru, rw'⟩ := vals2 r
  cases (show u = Value.ref ea from ru)
  rw [rel_cV rw' hc]
  exact PySem.W.kia_one (kitx_exc EC) I.kIn (of _ (I.hok ea _ e).1) hk (fun z => nomatch z) fun tk => ⟨.bl b, H, I.tok tk, rfl, q⟩
theorem isi_ot : CallR X (.builtin "isinstance") (rIsiOT X.K) := by
  intro pins s σ H xs us Q I r h
  obtain ⟨ea, C, tp, cs, b, rfl, ⟨φ, e, of⟩, EC, et, hc, hk, q⟩ := h
  obtain ⟨u, w', rfl, ru, rw'⟩ := vals2 r
  cases (show u = Value.ref ea from ru)
  cases (show w' = Value.ref tp from rw')
  obtain ⟨its, rv, pt, _⟩ := I.tuple (SqT.of et)
  have ei := vals_cV rv hc
  subst ei
  obtain ⟨⟨cls, dd, data, sl⟩, ho, hcl, n, hd⟩ := pt
  simp only at hcl hd
  subst hcl hd
  exact PySem.W.kia_tup (kitx_exc EC) I.kIn (of _ (I.hok ea _ e).1) ho hk (fun z => nomatch z) fun tk => ⟨.bl b, H, I.tok tk, rfl, q⟩
variable {C fI : Addr} {f : Str} {e o value : Expr} {es : List Expr} {ta tv : TE} {t : TA} {pos pos' p : Pos} {x : Str}
theorem ps_fldX (ha : PE X o ta) (hv : PE X value tv) (hs : swapsWith value (some (.Attribute o f pos')) pos.line X.env = pure false) : PS X (.Assign [.Attribute o f pos'] value pos) (sFldX X.K ta tv f) := by
  intro pins s σ H D I h
  refine plainObj_wpAny_Assign_Attribute (thn (hv pins s σ H _ I h) fun u s1 ⟨y, H1, I1, ry, q⟩ => thn (ha pins s1 σ H1 _ I1 q) fun ov s2 ⟨x, H2, I2, rx, g, a, C, fI, ex, ea, c, q2⟩ => ?_) hs
  subst ex
  obtain rfl : ov = Value.ref a := rx
  exact excset_ok I2 ea c ry fun dx s' hd hn I3 => ⟨σ, _, I3, q2 dx hd hn⟩
theorem pe_fldX (he : PE X e ta) (hb : attributeBase e f X.env (eval e X.env) = eval e X.env) : PE X (.Attribute e f pos) (tFldX X.K ta f) := by
  intro pins s σ H Q I h
  refine attr_of hb (thn (he pins s σ H _ I h) fun u s1 ⟨x, H1, I1, rx, g, a, C, dx, fs, v, fI, ex, ea, ed, c, l, q⟩ => ?_)
  subst ex
  obtain rfl : u = Value.ref a := rx
  exact excget_ok I1 ea ed c l fun u s' I2 ru => ⟨v, H1, I2, ru, q⟩
/-- a new thing, tracked -/
theorem Inv.newx {pins : List (Addr × Obj)} {σ : St} {H : Hp} {s : Shared} {h' : Heap} {ea : Addr} (I : Inv X pins σ H s) (keeps : ∀ b o, s.heap.get? b = some o → h'.get? b = some o) (n : s.heap.get? ea = none) (hx : ExcD gNew ea C none h') : Inv X pins σ (upd H ea (XO gNew ea C none)) { s with heap := h' } := by
  have hn : H ea = none := by
    cases z : H ea with
    | none => rfl
    | some o =>
      obtain ⟨o', q⟩ := I.hok.there (a := ea) (by rw [z]; exact fun y => nomatch y)
      rw [n] at q
      cases q
  have nt : ∀ {b : Addr} {o : HO}, H b = some o → b ≠ ea := fun {b o} q z => by rw [z, hn] at q; cases q
  refine I.call' (s' := { s with heap := h' }) (ch := []) rfl ⟨fun b o q _ _ _ => keeps b o q, fun b o q _ _ _ => ⟨o.slots, keeps b o q⟩, fun b o q z _ => ?_, fun b o q _ => ⟨o, keeps b o q⟩, fun b xs q => ?_, fun b o u q => ?_, fun b ps q => ⟨#[], ?_⟩⟩ (fun b ob q => ?_) I.bare (fun b hb => absurd hb (by simp))
  · rw [upd_ne (fun y => by rw [y, n] at q; cases q)]; exact z
  · rw [upd_ne (nt q)]; exact q
  · rw [upd_ne (nt q)]; exact q
  · rw [upd_ne (nt q), q]; simp
  · by_cases z : b = ea
    · rw [z, upd_same] at q
      cases q
      rw [z]
      exact xo_ok hx
    · rw [upd_ne z] at q
      exact (I.hok b ob q).stay (fun c u _ r => keeps c u r) (fun c hc => by rw [upd_ne (nt hc)]; exact hc) (fun c xs hc => by rw [upd_ne (nt hc)]; exact hc)
end
end L2
set_option Elab.async false
set_option linter.all false
set_option maxRecDepth 100000
set_option maxHeartbeats 4000000
namespace L2
open PySem PySem.Spec PyProof.Rows
/-! ### an exception that flies and keeps its dict -/
theorem mapF_dict (f : Array Value → Array Value) (o : Obj) : (Obj.mapFields f o).dict = o.dict := by
  obtain ⟨c, d, da, sl⟩ := o
  cases da <;> rfl
/-- its fields, its newest row of the trace, and what that row says of the frame -/
def Trail (h B : Heap) (e : Addr) (cls : Value) (od : Option Addr) (fl : Value) : Prop :=
  ∃ oe vs T oT ts, (h.get? e = some oe ∧ oe.cls = cls ∧ oe.dict = od ∧ oe.data = .fields vs ∧ vs[1]? = some (.ref T)) ∧ B.get? T = none ∧ T ≠ e ∧ h.get? T = some oT ∧ oT.data = .fields ts ∧ ts[3]? = some fl
def Fly (B : Heap) (l : List Env) (e : Addr) (cls : Value) (od : Option Addr) (fl : Value) (h : Heap) : Prop := B.StaysIn h ∧ B.get? e = none ∧ h.FunFrames B l ∧ Trail h B e cls od fl
theorem Fly.at {B h : Heap} {l : List Env} {e C : Addr} {od : Option Addr} {fl : Value} (x : Fly B l e (.ref C) od fl h) : ExcD gAny e C od h := by
  obtain ⟨_, _, _, oe, vs, T, oT, ts, ⟨a, b, c, d, _⟩, _⟩ := x
  exact ⟨oe, vs, a, b, d, c, trivial⟩
section
variable {M : Model} {A : Around} {E : Value → Shared → Prop} {s : Shared} {B : Heap} {env : Env} {outer l : List Env} {L e : Addr} {cls : Value} {od : Option Addr} {Q : Unit → Shared → Prop}
theorem fly_entry {oe : Obj} {vs : Array Value} {first : Value} {nx : Bool} (fr : A.frames = some (env :: outer)) (ff : s.heap.FunFrames B (env :: outer)) (eL : env.frame = some L) (ge : s.heap.get? e = some oe) (sb : B.StaysIn s.heap) (eB : B.get? e = none)
    (dd : oe.data = .fields vs) (two : 1 < vs.size) (h : ∀ h', Fly B (env :: outer) e oe.cls oe.dict (rawInt L) h' → s.heap.UpToSlots h' → Q () { s with heap := h' }) :
    wpAny M A (frameOf env >>= fun a => entryPlaceOf L nx >>= fun pl => EntryCells.newEntry first a .none (rawInt L) .none pl >>= fun b => setField (.ref e) 1 b) Q E s := by
  have en : e ∉ (env :: outer).filterMap (·.frame) := fun z => by
    obtain ⟨_, o, g1, g2⟩ := ff.mem z
    rw [ge] at g1
    cases g1
    exact g2 vs dd
  refine wpAny_bind (wpAny_frameOf_fun fr ff eL fun h1 k1 => wpAny_bind (wpAny_entryPlaceOf fun pl kp => ?_))
  unfold EntryCells.newEntry newFields
  refine wpAny_bind (wpAny_newObj_type ?_ (kp.sizeOk5 _ _ _ _ _))
  have t3 : ([first, Value.ref L, .none, rawInt L, .none] ++ (if pl.isEmpty then List.replicate 6 Value.none else pl)).toArray[3]? = some (rawInt L) := by
    first | (simp; done) | (rcases kp with rfl | ⟨_, _, _, _, _, _, _, rfl⟩ <;> simp)
  generalize ([first, Value.ref L, .none, rawInt L, .none] ++ (if pl.isEmpty then List.replicate 6 Value.none else pl)).toArray = ts at t3 ⊢
  have g1 : h1.get? e = some oe := (k1.2.1 e en).trans ge
  have sb1 : B.StaysIn h1 := fun b o q => (k1.2.1 b fun z => by rw [(ff.mem z).1] at q; cases q).trans (sb b o q)
  have eT : h1.objs.size ≠ e := fun z => Nat.lt_irrefl _ (by have := Heap.lt_size g1; rw [← z] at this; exact this)
  have g2 := Heap.get?_push_of_some (h := h1) ({ cls := .type "traceback", dict := none, data := .fields ts } : Obj) g1
  have d3 := Obj.data_mapFields dd (·.setIfInBounds 1 (Value.ref h1.objs.size))
  have g3 := Heap.get?_update_self (Obj.mapFields (·.setIfInBounds 1 (Value.ref h1.objs.size))) g2 (Obj.isFreed_of_fields d3)
  have gT := (Heap.get?_update_other (h1.push ({ cls := .type "traceback", dict := none, data := .fields ts } : Obj)) (Obj.mapFields (·.setIfInBounds 1 (Value.ref h1.objs.size))) eT.symm).trans (Heap.get?_push_size h1 rfl)
  have stay : ∀ b o, b ≠ e → h1.get? b = some o → ((h1.push ({ cls := .type "traceback", dict := none, data := .fields ts } : Obj)).update e (Obj.mapFields (·.setIfInBounds 1 (Value.ref h1.objs.size)))).get? b = some o := fun b o n q =>
    (Heap.get?_update_other _ _ n.symm).trans (Heap.get?_push_of_some _ q)
  have notE : ∀ b o, s.heap.get? b = some o → (∀ ws, o.data ≠ .fields ws) → b ≠ e := fun b o q nf z => by
    rw [z, ge] at q
    cases q
    exact nf vs dd
  refine wpAny_setField g2 dd two (h _ ⟨fun b o q => stay b o (fun z => by rw [z, eB] at q; cases q) (sb1 b o q), eB, ff.of_keeps fun b o q nf => ?_, _, _, h1.objs.size, _, _, ⟨g3, Obj.cls_mapFields _ _, mapF_dict _ _, d3, by simp [two]⟩, sb1.fresh, eT, gT, rfl, t3⟩ fun b o q nf => ?_)
  · obtain ⟨sl, z⟩ := k1.2.2 b o q
    exact ⟨_, stay b _ (notE b o q nf) z, rfl⟩
  · obtain ⟨sl, z⟩ := k1.2.2 b o q
    exact ⟨sl, stay b _ (notE b o q nf) z⟩
theorem fly_none {fl : Value} (x : Fly B l e cls od fl s.heap) (h : ∀ h', Fly B l e cls od .none h' → s.heap.UpToSlots h' → Q () { s with heap := h' }) : wpAny M A (setFlight (.ref e) none) Q E s := by
  obtain ⟨sb, eB, ff, oe, vs, T, oT, ts, ⟨ge, c1, c2, dd, v1⟩, TB, Te, gT, dT, t3⟩ := x
  have n3 : 3 < ts.size := (Array.getElem?_eq_some_iff.mp t3).1
  have far : ∀ b, b ≠ T → (s.heap.update T (Obj.mapFields (·.setIfInBounds 3 ((none : Option Addr).elim Value.none fun f => rawInt f)))).get? b = s.heap.get? b := fun b n => Heap.get?_update_other _ _ n.symm
  have notT : ∀ b o, s.heap.get? b = some o → (∀ ws, o.data ≠ .fields ws) → b ≠ T := fun b o q nf z => by
    rw [z, gT] at q
    cases q
    exact nf ts dT
  unfold setFlight
  refine wpAny_bind (wpAny_field ge dd v1 ?_)
  rw [if_pos (show (Value.ref T != Value.none) = true by simp)]
  refine wpAny_setField gT dT n3 (h _ ⟨fun b o q => (far b fun z => by rw [z, TB] at q; cases q).trans (sb b o q), eB, ff.of_keeps fun b o q nf => ⟨o, (far b (notT b o q nf)).trans q, rfl⟩, ?_⟩ fun b o q nf => ⟨o.slots, (far b (notT b o q nf)).trans q⟩)
  exact ⟨oe, vs, T, _, _, ⟨(far e Te.symm).trans ge, c1, c2, dd, v1⟩, TB, Te, Heap.get?_update_self _ gT (Obj.isFreed_of_fields (Obj.data_mapFields dT _)), Obj.data_mapFields dT _, by simp [n3]⟩
/-- the first frame that notes it -/
theorem fly_first {oe : Obj} {vs : Array Value} (fr : A.frames = some (env :: outer)) (ff : s.heap.FunFrames B (env :: outer)) (eL : env.frame = some L) (ge : s.heap.get? e = some oe) (sb : B.StaysIn s.heap) (eB : B.get? e = none)
    (dd : oe.data = .fields vs) (v1 : vs[1]? = some .none) (h : ∀ h', Fly B (env :: outer) e oe.cls oe.dict (rawInt L) h' → s.heap.UpToSlots h' → Q () { s with heap := h' }) : wpAny M A (noteFrame (.ref e) env) Q E s := by
  unfold noteFrame
  simp only [eL]
  refine wpAny_bind (wpAny_field ge dd v1 ?_)
  rw [if_neg (by decide)]
  exact fly_entry fr ff eL ge sb eB dd (Array.getElem?_eq_some_iff.mp v1).1 h
/-- each further one -/
theorem fly_next (fr : A.frames = some (env :: outer)) (eL : env.frame = some L) (x : Fly B (env :: outer) e cls od .none s.heap) (h : ∀ h', Fly B (env :: outer) e cls od (rawInt L) h' → s.heap.UpToSlots h' → Q () { s with heap := h' }) :
    wpAny M A (noteFrame (.ref e) env) Q E s := by
  obtain ⟨sb, eB, ff, oe, vs, T, oT, ts, ⟨ge, c1, c2, dd, v1⟩, TB, Te, gT, dT, t3⟩ := x
  subst c1 c2
  have n3 : 3 < ts.size := (Array.getElem?_eq_some_iff.mp t3).1
  have far : ∀ b, b ≠ T → (s.heap.update T (Obj.mapFields (·.setIfInBounds 3 Value.none))).get? b = s.heap.get? b := fun b n => Heap.get?_update_other _ _ n.symm
  have notT : ∀ b o, s.heap.get? b = some o → (∀ ws, o.data ≠ .fields ws) → b ≠ T := fun b o q nf z => by
    rw [z, gT] at q
    cases q
    exact nf ts dT
  unfold noteFrame
  simp only [eL]
  refine wpAny_bind (wpAny_field ge dd v1 ?_)
  rw [if_pos (show (Value.ref T != Value.none) = true by simp)]
  refine wpAny_bind (wpAny_field gT dT t3 ?_)
  rw [if_neg (show ¬ ((Value.none == rawInt L) = true) by simp [rawInt])]
  refine wpAny_bind (wpAny_setField gT dT n3 ?_)
  refine fly_entry (s := { s with heap := _ }) fr (ff.of_keeps fun b o q nf => ⟨o, (far b (notT b o q nf)).trans q, rfl⟩) eL ((far e Te.symm).trans ge) (fun b o q => (far b fun z => by rw [z, TB] at q; cases q).trans (sb b o q)) eB dd (Array.getElem?_eq_some_iff.mp v1).1 fun h' f' u' => h h' f' fun b o q nf => ?_
  exact u' b o ((far b (notT b o q nf)).trans q) nf
theorem Fly.less {fl : Value} {h : Heap} (x : Fly B (env :: outer) e cls od fl h) : Fly B outer e cls od fl h := by
  obtain ⟨a, b, ⟨_, _, c⟩, d⟩ := x
  exact ⟨a, b, c, d⟩
theorem fly_leaves (fr : A.frames = some (env :: outer)) (eL : env.frame = some L) (x : Fly B (env :: outer) e cls od .none s.heap) (h : ∀ h', Fly B outer e cls od .none h' → s.heap.UpToSlots h' → Q () { s with heap := h' }) : wpAny M A (leaving env (.ref e)) Q E s := by
  unfold leaving
  exact wpAny_bind (fly_next fr eL x fun h1 f1 u1 => fly_none (s := { s with heap := h1 }) f1 fun h2 f2 u2 => h h2 f2.less (u1.trans u2))
theorem fly_begins {oe : Obj} {vs : Array Value} (fr : A.frames = some (env :: outer)) (ff : s.heap.FunFrames B (env :: outer)) (eL : env.frame = some L) (ge : s.heap.get? e = some oe) (sb : B.StaysIn s.heap) (eB : B.get? e = none)
    (dd : oe.data = .fields vs) (v1 : vs[1]? = some .none) (h : ∀ h', Fly B outer e oe.cls oe.dict .none h' → s.heap.UpToSlots h' → Q () { s with heap := h' }) : wpAny M A (leaving env (.ref e)) Q E s := by
  unfold leaving
  exact wpAny_bind (fly_first fr ff eL ge sb eB dd v1 fun h1 f1 u1 => fly_none (s := { s with heap := h1 }) f1 fun h2 f2 u2 => h h2 f2.less (u1.trans u2))
end
end L2
set_option Elab.async false
set_option linter.all false
set_option maxRecDepth 100000
set_option maxHeartbeats 4000000
namespace L2
open PySem PySem.Spec PyProof.Rows
/-! ### raise of an instance -/
theorem raise_made {prog : Program} {w : World} {A : Around} {E : Value → Shared → Prop} {s : Shared} {env : Env} {K : PySem.W.Frag} {C : Addr} {x : Sem Value} {Q : Flow → Shared → Prop} (hh : A.handled = none) (mB : PySem.W.mroIn K C (.type "BaseException") = some true)
    (ht : PySem.W.typeIn K (.ref C) = some (.type "type"))
    (h : wpAny (model prog w) A x (fun v s1 => ∃ e od, v = .ref e ∧ K.In s1.heap ∧ ExcD gNew e C od s1.heap ∧ E (.ref e) s1) E s) : wpAny (model prog w) A (raiseStmt env (some x) none) Q E s := by
  unfold raiseStmt
  refine wpAny_bind (wpAny_mono h (fun v s1 h1 => ?_) fun _ _ z => z)
  obtain ⟨e, od, rfl, KX, ⟨⟨oc, od', oda, osl⟩, vs, ge, c1, c2, c3, v1⟩, hE⟩ := h1
  dsimp only at c1 c2 c3
  subst c1 c2 c3
  obtain ⟨hp, g, d, tk, os⟩ := s1
  have L0 : PySem.W.Looks (model prog w) hp (typeOf (.ref e)) (.ref C) := IsOf.ty ⟨_, ge, rfl⟩ _
  have L1 := PySem.W.looks_mroIn (M := model prog w) KX mB
  have L3 := PySem.W.looks_typeIn (M := model prog w) KX ht
  have ge' : hp.get? e = some ⟨.ref C, od', .fields vs, osl⟩ := ge
  unfold excFromValue isExcClass isInstance isType raisedInstance setFlight
  repeat (first | with_reducible refine wpAny_loadPart_at ge' ?_ | with_reducible refine L1.at ?_ | with_reducible refine L0.at ?_ | with_reducible refine L3.at ?_ | wp_step)
  rw [show vs[1]? = some Value.none from v1]
  repeat wp_step
  all_goals first | exact wpAny_raiseNew_none hh hE | trace_state
/-! ### how it lies behind a call -/
structure FlownD (P : Program) (w : World) (outer : List Env) (H : Hp) (s : Shared) (ea : Addr) (cls : Value) (od : Option Addr) (H' : Hp) (s' : Shared) : Prop where
  ex : ∃ B : Heap, Fly B outer ea cls od .none s'.heap ∧ (∀ b o, s'.heap.get? b = some o → H' b ≠ none → B.get? b = some o) ∧ (∀ b o, s.heap.get? b = some o → H b = none → b ∉ frs outer → B.get? b = some o) ∧ (∀ b o, s.heap.get? b = some o → b ∉ frs outer → ∃ o', B.get? b = some o')
  os : s'.os = s.os
  bare : AllBare s'.gens
  un : Un (frs outer) [] H H' s.heap s'.heap
  hok : HOk P w H' s'.heap
  new : s.heap.get? ea = none
  free : H' ea = none
def CXd (P : Program) (w : World) : CXT := fun outer H s E e s' => ∃ ea cls od H', e = .ref ea ∧ FlownD P w outer H s ea cls od H' s' ∧ E cls od H'
structure FnD (X : Cx) (E : XK) : Prop where
  stack : X.stack = X.env :: X.outer
  frame : X.env.frame = some X.env.locals
  ex : X.ex = []
  calm : X.calm = true
  xe : ∀ e s', wpAny (model X.prog X.w) X.A (leaving X.env e) (fun _ s'' => CXd X.prog X.w X.outer X.H₀ X.s₀ E e s'') (fun e' s'' => CXd X.prog X.w X.outer X.H₀ X.s₀ E e' s'') s' → X.xe e s'
theorem fnd_of {P : Program} {w : World} {K : PySem.W.Frag} {mg : Str → Option Value} {base : Heap} {N : List Str} {qual : Str} {scope : Scope} {f : Addr} {cdv : Value} {A : Around} {outer : List Env} {s : Shared} {H : Hp} {E : XK} :
    FnD (cxOf (CXd P w) P w K mg base N qual scope f cdv A outer s H E) E := ⟨rfl, rfl, rfl, rfl, fun _ _ h => h⟩
section
variable {X : Cx} {pins : List (Addr × Obj)} {σ : St} {H H' : Hp} {s s' : Shared} {E : XK}
theorem FnD.frs (F : FnD X E) : frs X.stack = X.env.locals :: X.fs := by
  rw [F.stack]
  show List.filterMap _ (X.env :: X.outer) = _
  rw [List.filterMap_cons, F.frame]
  rfl
theorem FnD.off (F : FnD X E) (I : Inv X pins σ H s) {b : Addr} {o : Obj} (q : X.s₀.heap.get? b = some o) (n : b ∉ L2.frs X.outer) : b ∉ L2.frs X.stack := fun z => by
  rw [F.frs] at z
  rcases List.mem_cons.mp z with z | z
  · rw [z, I.noloc] at q; cases q
  · exact n z
theorem FnD.on (F : FnD X E) {b : Addr} (n : b ∈ L2.frs X.outer) : b ∈ L2.frs X.stack := by
  rw [F.frs]
  exact List.mem_cons_of_mem _ n
/-- from the entry to behind the flight -/
theorem fly_un {B h3 : Heap} {ea : Addr} (F : FnD X E) (J : Inv X pins σ H s) (st : B.StaysIn h3) (inB : ∀ b o, b ≠ ea → s.heap.get? b = some o → b ∉ L2.frs X.stack → B.get? b = some o) (sm : s.heap.UpToSlots h3) (new : X.s₀.heap.get? ea = none) :
    Un (L2.frs X.outer) [] X.H₀ H X.s₀.heap h3 := by
  have bb := J.base
  rw [F.ex] at bb
  have ne : ∀ {b : Addr} {o : Obj}, X.s₀.heap.get? b = some o → b ≠ ea := fun q z => by rw [z, new] at q; cases q
  have nf : ∀ {b : Addr} {o : Obj}, b ∈ L2.frs X.stack → s.heap.get? b = some o → ∀ vs, o.data ≠ .fields vs := fun hb q => frames_nf J _ hb _ q
  refine ⟨fun b o q n hb _ => st b o (inB b o (ne q) (bb.keep b o q n hb (by simp)) (F.off J q hb)), fun b o q n hb _ => ?_, bb.free, fun b o q _ => ?_, bb.tups, bb.frzs, bb.tbls⟩
  · obtain ⟨sl, e1⟩ := bb.slot b o q n hb (by simp)
    obtain ⟨sl2, e2⟩ := sm b _ e1 (nf (F.on hb) e1)
    exact ⟨sl2, e2⟩
  · obtain ⟨o', q'⟩ := bb.there b o q (by simp)
    by_cases hb : b ∈ L2.frs X.stack
    · obtain ⟨sl, e1⟩ := sm b o' q' (nf hb q')
      exact ⟨_, e1⟩
    · exact ⟨o', st b o' (inB b o' (ne q) q' hb)⟩
/-- a thing is not told of any more -/
theorem Inv.untrack {a : Addr} {φ : Heap → Prop} (I : Inv X pins σ (upd H a (.ext φ)) s) (hn : H a = none) : Inv X pins σ H s := by
  have nt : ∀ {b : Addr} {u : HO}, H b = some u → b ≠ a := fun {b u} e z => by rw [z, hn] at e; cases e
  have dn : ∀ {b : Addr}, upd H a (.ext φ) b = none → H b = none := fun {b} e => by
    by_cases z : b = a
    · rw [z]; exact hn
    · rw [upd_ne z] at e; exact e
  have dt : ∀ {b : Addr} {u : HO}, upd H a (.ext φ) b = some u → (∀ ψ, u ≠ .ext ψ) → H b = some u := fun {b u} e k => by
    by_cases z : b = a
    · rw [z, upd_same] at e
      exact absurd (Option.some.inj e).symm (k φ)
    · rw [upd_ne z] at e; exact e
  refine ⟨I.ok, I.os, I.bare, ⟨I.base.keep, I.base.slot, fun b ob q n hx => dn (I.base.free b ob q n hx), I.base.there, fun b xs q => dt (I.base.tups b xs q) (fun _ z => nomatch z), fun b ob u q => dt (I.base.frzs b ob u q) (fun _ z => nomatch z), fun b ps q => ?_⟩, I.loc, I.cell, dn I.free, fun x c e => dn (I.freeC x c e), fun p hp' => ?_, fun b u e => ?_, I.len⟩
  · obtain ⟨more, e⟩ := I.base.tbls b ps q
    exact ⟨more, dt e (fun _ z => nomatch z)⟩
  · obtain ⟨e, n, r⟩ := I.pin p hp'
    exact ⟨e, dn n, r⟩
  · have e2 : upd H a (.ext φ) b = some u := by rw [upd_ne (nt e)]; exact e
    exact (I.hok b u e2).stay (fun _ _ _ q => q) (fun c q => dt q (fun _ z => nomatch z)) fun c xs q => dt q (fun _ z => nomatch z)
/-- raised here, it leaves this frame -/
theorem fly_out {ea C : Addr} {od : Option Addr} (F : FnD X E) (J : Inv X pins σ H s) (new : X.s₀.heap.get? ea = none) (hn : H ea = none) (hx : ExcD gNew ea C od s.heap) (hE : E (.ref C) od H) : X.xe (.ref ea) s := by
  obtain ⟨oe, vs, ge, c1, c2, c3, v1⟩ := hx
  have fr : X.A.frames = some (X.env :: X.outer) := by rw [J.ok.frames, F.stack]
  have ff : s.heap.FunFrames (PySem.W.hideAll s.heap (ea :: L2.frs X.stack)) (X.env :: X.outer) := by
    have := PySem.W.funFrames_hide (as := ea :: L2.frs X.stack) J.stack (fun env he a ha => List.mem_cons_of_mem _ (List.mem_filterMap.mpr ⟨env, he, ha⟩))
    rw [F.stack] at this ⊢
    exact this
  have inB : ∀ b o, b ≠ ea → s.heap.get? b = some o → b ∉ L2.frs X.stack → (PySem.W.hideAll s.heap (ea :: L2.frs X.stack)).get? b = some o := fun b o n q hb => PySem.W.hideAll_get _ q (fun z => by
    rcases List.mem_cons.mp z with z | z
    · exact n z
    · exact hb z)
  have inT : ∀ b o, s.heap.get? b = some o → H b ≠ none → (PySem.W.hideAll s.heap (ea :: L2.frs X.stack)).get? b = some o := fun b o q n => inB b o (fun z => n (by rw [z]; exact hn)) q fun z => n (J.stkFree b z)
  have eB : (PySem.W.hideAll s.heap (ea :: L2.frs X.stack)).get? ea = none := PySem.W.hideAll_none _ (by simp)
  refine F.xe _ _ (fly_begins fr ff F.frame ge (fun b o q => PySem.W.of_hideAll _ q) eB c2 v1 fun h3 fl sm => ?_)
  rw [c1, c3] at fl
  refine ⟨ea, _, od, H, rfl, ⟨⟨_, fl, fun b o q n => ?_, fun b o q n hb => ?_, fun b o q hb => ?_⟩, J.os, J.bare, fly_un F J fl.1 inB sm new, J.hok.keptT fun b o q n => fl.1 b o (inT b o q n), new, hn⟩, hE⟩
  · obtain ⟨o', q'⟩ := J.hok.there n
    have q2 := fl.1 b o' (inT b o' q' n)
    have q3 : h3.get? b = some o := q
    rw [q2] at q3
    rw [← Option.some.inj q3]
    exact inT b o' q' n
  · have bb := J.base
    rw [F.ex] at bb
    exact inB b o (fun z => by rw [z, new] at q; cases q) (bb.keep b o q n hb (by simp)) (F.off J q hb)
  · obtain ⟨o', q'⟩ := J.base.there b o q (by rw [F.ex]; simp)
    exact ⟨o', inB b o' (fun z => by rw [z, new] at q; cases q) q' (F.off J q hb)⟩
/-- an exception of a callee leaves this frame too -/
theorem passes_d {E1 : XK} (F : FnD X E) (hE : ∀ cls o H, E1 cls o H → E cls o H) : Passes (CXd X.prog X.w) X E1 := by
  intro pins σ H s e s' I h
  obtain ⟨ea, cls, od, H', rfl, W, q⟩ := h
  obtain ⟨B, fl, inT, inB, inA⟩ := W.ex
  have fr : X.A.frames = some (X.env :: X.outer) := by rw [I.ok.frames, F.stack]
  refine F.xe _ _ (fly_leaves fr F.frame (by rw [← F.stack]; exact fl) fun h2 fl2 sm => ?_)
  have bb := I.base
  rw [F.ex] at bb
  have nf : ∀ {b : Addr} {o : Obj}, b ∈ L2.frs X.stack → s.heap.get? b = some o → ∀ vs, o.data ≠ .fields vs := fun hb q => frames_nf I _ hb _ q
  have toB : ∀ b o, X.s₀.heap.get? b = some o → X.H₀ b = none → b ∉ L2.frs X.outer → B.get? b = some o := fun b o q n hb => inB b o (bb.keep b o q n hb (by simp)) (bb.free b o q n (by simp)) (F.off I q hb)
  have sl2 : ∀ b o, s.heap.get? b = some o → b ∈ L2.frs X.stack → ∃ sl, h2.get? b = some { o with slots := sl } := fun b o q hb => by
    obtain ⟨sl, e1⟩ := W.un.slot b o q (I.stkFree b hb) hb (by simp)
    obtain ⟨sl2, e2⟩ := sm b _ e1 (fun vs z => nf hb q vs z)
    exact ⟨sl2, e2⟩
  have u : Un (L2.frs X.outer) [] X.H₀ H' X.s₀.heap h2 := by
    refine ⟨fun b o q n hb _ => fl2.1 b o (toB b o q n hb), fun b o q n hb _ => ?_, fun b o q n _ => ?_, fun b o q _ => ?_, fun b xs q => W.un.tups b xs (bb.tups b xs q), fun b o u q => W.un.frzs b o u (bb.frzs b o u q), fun b ps q => ?_⟩
    · obtain ⟨sl, e1⟩ := bb.slot b o q n hb (by simp)
      obtain ⟨sl3, e3⟩ := sl2 b _ e1 (F.on hb)
      exact ⟨sl3, e3⟩
    · obtain ⟨o', q'⟩ := bb.there b o q (by simp)
      exact W.un.free b o' q' (bb.free b o q n (by simp)) (by simp)
    · obtain ⟨o', q'⟩ := bb.there b o q (by simp)
      by_cases hb : b ∈ L2.frs X.stack
      · obtain ⟨sl, e1⟩ := sl2 b o' q' hb
        exact ⟨_, e1⟩
      · obtain ⟨o2, e2⟩ := inA b o' q' hb
        exact ⟨o2, fl2.1 b o2 e2⟩
    · obtain ⟨m1, e1⟩ := bb.tbls b ps q
      obtain ⟨m2, e2⟩ := W.un.tbls b _ e1
      exact ⟨m1 ++ m2, by rw [e2, Array.append_assoc]⟩
  refine ⟨ea, cls, od, H', rfl, ⟨⟨B, fl2, fun b o q2 n => ?_, toB, fun b o q2 hb => ?_⟩, W.os.trans I.os, W.bare, u, W.hok.keptT fun b o q2 n => fl2.1 b o (inT b o q2 n), ?_, W.free⟩, hE _ _ _ q⟩
  · obtain ⟨o', q'⟩ := W.hok.there n
    have q3 := fl2.1 b o' (inT b o' q' n)
    have q4 : h2.get? b = some o := q2
    rw [q3] at q4
    rw [← Option.some.inj q4]
    exact inT b o' q' n
  · obtain ⟨o', q'⟩ := bb.there b o q2 (by simp)
    exact inA b o' q' (F.off I q2 hb)
  · cases z : X.s₀.heap.get? ea with
    | none => rfl
    | some o =>
      obtain ⟨o', q'⟩ := bb.there ea o z (by simp)
      rw [W.new] at q'
      cases q'
/-! ### raise C(y) -/
def sRaiseX (C : Addr) (f : Str) (E : XK) (t : TA) : TS := fun _ σ H => t σ H fun vs H1 => ∃ y, vs = [y] ∧ ∀ dx, H1 dx = none → E (.ref C) (some dx) (upd H1 dx (.xd [(f, y)]))
theorem ps_raiseX {k : Nat} {C fI : Addr} {f x : Str} {fd : FuncData} {ps : List Str} {e : Expr} {es : List Expr} {t : TA} {p cpos pos : Pos} (F : FnD X E) (c : ExcF X.K C fI f) (ht : PySem.W.typeIn X.K (.ref C) = some (.type "type"))
    (FI : FnOk X.prog X.w X.K X.mg X.base CX0 k fI fd ps (spInitX X.K C fI f)) (hr : Room (k + 1) X.A) (hg : Gl X x) (hm : X.mg x = some (.ref C)) (hb : Binds X.K fd ps [])
    (ha : PA X (e :: es) t) (hdb : (x == ("__debug__" : Str)) = false := by decide) (he : starEach (e :: es) X.env = (false, eval e X.env) :: starEach es X.env := by rfl) (hpl : (backTo cpos (starEach es X.env)).any (·.1) = false := by rfl) :
    PS X (.Raise (some (.Call (.Name x p) (e :: es) [] cpos)) none pos) (sRaiseX C f E t) := by
  intro pins s σ H D I h
  have hh := I.ok.hd F.calm
  rw [arm_exec_Raise]
  refine wpAny_bind (wpAny_standAt ?_)
  refine raise_made hh c.exc.mB ht (wpAny_bind (wpAny_mono ?_ (fun v s3 h3 => wpAny_bind (wpAny_standAt (wpAny_pure h3))) fun _ _ z => z))
  refine wpAny_Call_Name_kw (ld_glob I hg hm ?_ hdb)
  refine PySem.W.callWith_K (h₀ := X.base) I.ok.mod.kin c.kp (thn (ha cpos pins s σ H _ I h) fun us s1 ⟨vs, H1, I1, r, y, ey, q⟩ => ⟨I1.kIn, ?_⟩) he hpl
  subst ey
  obtain ⟨u, rfl, ry⟩ : ∃ u, us = [u] ∧ RelV y u := by
    cases r with
    | cons ry r0 => cases r0; exact ⟨_, rfl, ry⟩
  refine exc_born I1.kIn c (by show 1 ≤ sizeLine; rw [sizeLine_eq]; omega) ?_
  have kk : ∀ b o, s1.heap.get? b = some o → (bornV s1.heap C [u]).get? b = some o := fun b o q => Heap.get?_push_of_some _ (Heap.get?_push_of_some _ q)
  have e1 : (bornV s1.heap C [u]).get? (s1.heap.objs.size + 1) = some { cls := .ref C, data := .fields #[.ref s1.heap.objs.size, .none, .none, .none, .bool false, .none] } := by heap_get
  have e0 : s1.heap.get? (s1.heap.objs.size + 1) = none := Heap.get?_none_of_le (Nat.le_succ _)
  have h0 : H1 (s1.heap.objs.size + 1) = none := I1.hok.fresh (Nat.le_succ _)
  have new0 : X.s₀.heap.get? (s1.heap.objs.size + 1) = none := by
    cases z : X.s₀.heap.get? (s1.heap.objs.size + 1) with
    | none => rfl
    | some o =>
      obtain ⟨o', q'⟩ := I1.base.there _ o z (by rw [F.ex]; simp)
      rw [e0] at q'
      cases q'
  have J := I1.newx (C := C) (ea := s1.heap.objs.size + 1) (h' := bornV s1.heap C [u]) kk e0 ⟨_, _, e1, rfl, rfl, rfl, rfl⟩
  generalize hea : s1.heap.objs.size + 1 = ea at *
  have r2 : Vals [V.ref ea, y] [Value.ref ea, u] := .cons rfl (.cons ry .nil)
  have hsp : spInitX X.K C fI f [V.ref ea, y] (upd H1 ea (XO gNew ea C none)) (fun v H2 => v = .non ∧ ∃ dx, H2 = upd (upd H1 dx (.xd [(f, y)])) ea (XO gNew ea C (some dx)) ∧ H1 dx = none ∧ dx ≠ ea) E0 := by
    refine ⟨c, _, y, rfl, upd_same, fun dx hd hne => ⟨rfl, dx, ?_, ?_, hne⟩⟩
    · funext b
      by_cases z : b = ea
      · rw [z, upd_same, upd_same]
      · rw [upd_ne z, upd_ne z]
        by_cases z2 : b = dx
        · rw [z2, upd_same, upd_same]
        · rw [upd_ne z2, upd_ne z2, upd_ne z]
    · rw [upd_ne hne] at hd; exact hd
  have hl : ([Value.ref ea, u] ++ ([] : List Value)).length = ps.length := by
    have e := r2.length
    rw [FI.len _ _ _ _ hsp] at e
    exact e.symm
  refine wpAny_call (codeAny_mono (FI.run _ X.stack _ _ ⟨[Value.ref ea, u], []⟩ _ _ _ E0 (hr.make C [u] []) (J.env0.make C [u] []) (hb _ [Value.ref ea, u] J.kIn hl) r2 hsp) fun r s' hq' => ?_)
  cases r with
  | error e => exact (pass0 pins σ _ _ e s' J hq')
  | ok fl =>
    cases fl with
    | ret u2 =>
      obtain ⟨v, H', I3, rv, ev, dx, eH, nd, ne⟩ := J.after hq'
      subst ev eH
      refine ⟨rv, ea, some dx, rfl, I3.kIn, (I3.hok ea _ upd_same).1, ?_⟩
      have hn : upd H1 dx (.xd [(f, y)]) ea = none := by rw [upd_ne (Ne.symm ne)]; exact h0
      exact fly_out F (I3.untrack hn) new0 hn (I3.hok ea _ upd_same).1 (q dx nd)
    | next => exact False.elim hq'
    | brk => exact False.elim hq'
    | cont => exact False.elim hq'
end
/-! ### try: y = f(..) / except Y as n: suite, the exception keeps its dict -/
def eTryD (K : PySem.W.Frag) (CB : Addr) (i : Nat) (ts : TS) (D : Ends) (σ : St) : XK := fun cls od H2 => ∃ C, cls = .ref C ∧ PySem.W.mroIn K C (.ref CB) = some true ∧ ∀ ea, H2 ea = none →
  ts { nx := fun σ' H' => D.nx (σ'.set i none) H', rt := D.rt, bk := fun σ' H' => D.bk (σ'.set i none) H', ct := fun σ' H' => D.ct (σ'.set i none) H' } (σ.set i (some (.ref ea))) (upd H2 ea (XO gAny ea C od))
def tTryD (K : PySem.W.Frag) (CB : Addr) (sp : Sp) (t : TA) (j i : Nat) (ts : TS) : TS := fun D σ H => t σ H fun vs H1 => sp (vs ++ []) H1 (fun v H2 => D.nx (σ.set j (some v)) H2) (eTryD K CB i ts D σ)
theorem landD {X : Cx} {pins : List (Addr × Obj)} {σ : St} {H H' : Hp} {s s' : Shared} {ea : Addr} {od : Option Addr} {B h2 : Heap} {cls : Value} (I : Inv X pins σ H s) (W : FlownD X.prog X.w X.stack H s ea cls od H' s') (inT : ∀ b o, s'.heap.get? b = some o → H' b ≠ none → B.get? b = some o)
    (inB : ∀ b o, s.heap.get? b = some o → H b = none → b ∉ frs X.stack → B.get? b = some o) (inA : ∀ b o, s.heap.get? b = some o → b ∉ frs X.stack → ∃ o', B.get? b = some o') (st : B.StaysIn h2) (sm : s'.heap.UpToSlots h2) :
    Inv X pins σ H' { s' with heap := h2 } := by
  have sl2 : ∀ b o, s.heap.get? b = some o → b ∈ frs X.stack → ∃ sl, h2.get? b = some { o with slots := sl } := fun b o q hb => by
    obtain ⟨sl, e1⟩ := W.un.slot b o q (I.stkFree b hb) hb (by simp)
    obtain ⟨sl2, e2⟩ := sm b _ e1 (fun vs z => frames_nf I b hb o q vs z)
    exact ⟨sl2, e2⟩
  refine I.call' (s' := { s' with heap := h2 }) W.os ⟨fun b o q n hb _ => st b o (inB b o q n hb), fun b o q n hb _ => sl2 b o q hb, W.un.free, fun b o q _ => ?_, W.un.tups, W.un.frzs, W.un.tbls⟩ (W.hok.keptT fun b o q n => st b o (inT b o q n)) W.bare (fun b hb => absurd hb (by simp))
  by_cases hb : b ∈ frs X.stack
  · obtain ⟨sl, e1⟩ := sl2 b o q hb
    exact ⟨_, e1⟩
  · obtain ⟨o', e1⟩ := inA b o q hb
    exact ⟨o', st b o' e1⟩
theorem ps_tryD {X : Cx} {k : Nat} {f CB : Addr} {fd : FuncData} {ps : List Str} {sp : Sp} {x y n : Str} {p pos1 pos2 py ph pos : Pos} {e : Expr} {es : List Expr} {t : TA} {j i : Nat} {n0 : Str} {p0 : Pos} {b₀ : Stmt} {suite : List Stmt} {ts : TS}
    (F : FnOk X.prog X.w X.K X.mg X.base (CXd X.prog X.w) k f fd ps sp) (hr : Room k X.A) (hg : Gl X x) (hm : X.mg x = some (.ref f)) (hk : PySem.W.keepIn X.K (.ref f) = true) (hb : Binds X.K fd ps [])
    (ha : ∀ E', PA (X.wish E') (e :: es) t) (hst : X.stack = X.env :: X.outer) (hfm : X.env.frame = some X.env.locals) (hex : X.ex = [])
    (hy : Gl X y) (hyC : X.mg y = some (.ref CB)) (hN : X.N.Nodup) (hi : X.N[i]? = some n) (hn : X.env.scope.names.lookup n = some .local)
    (ht : PySem.W.typeIn X.K (.ref CB) = some (.type "type")) (hB : PySem.W.mroIn X.K CB (.type "BaseException") = some true) (hs : ∀ ea E', PSs (X.held ea E') (b₀ :: suite) ts) (hj : X.N[j]? = some n0) (hn0 : X.env.scope.names.lookup n0 = some .local)
    (hdb : (x == ("__debug__" : Str)) = false := by decide) (hdy : (y == ("__debug__" : Str)) = false := by decide) (he : starEach (e :: es) X.env = (false, eval e X.env) :: starEach es X.env := by rfl) (hpl : (backTo pos1 (starEach es X.env)).any (·.1) = false := by rfl)
    (hsw : swapsWith (.Call (.Name x p) (e :: es) [] pos1) (some (.Name n0 p0)) pos2.line X.env = pure false := by rfl) :
    PS X (.Try [.Assign [.Name n0 p0] (.Call (.Name x p) (e :: es) [] pos1) pos2] [.ExceptHandler (some (.Name y py)) (some n) (b₀ :: suite) ph] [] [] pos) (tTryD X.K CB sp t j i ts) := by
  intro pins s σ H D I h
  refine wpAny_Try_except ?_
  have hfr : X.A.frames = some (X.env :: X.outer) := by rw [I.ok.frames, hst]
  have lands : ∀ (H1 : Hp) (s1 : Shared) (ev : Value) (s' : Shared), Inv X pins σ H1 s1 → CXd X.prog X.w X.stack H1 s1 (eTryD X.K CB i ts D σ) ev s' →
      wpAny (model X.prog X.w) X.A (noteFrame ev X.env) (fun _ s₂ => wpAny (model X.prog X.w) X.A (setFlight ev none) (fun _ s₃ => wpAny (model X.prog X.w) X.A (handleBy ev X.env [.ExceptHandler (some (.Name y py)) (some n) (b₀ :: suite) ph]) (SP X pins D) X.xe s₃) X.xe s₂) X.xe s' := by
    intro H1 s1 ev s' I1 hx
    obtain ⟨ea, cls, od, H', rfl, W, C, rfl, mC, q⟩ := hx
    obtain ⟨B, fl, inT, inB, inA⟩ := W.ex
    have fl' : Fly B (X.env :: X.outer) ea (.ref C) od .none s'.heap := by rw [← hst]; exact fl
    refine fly_next hfr hfm fl' fun h4 held4 sm4 => ?_
    refine fly_none (s := { s' with heap := h4 }) held4 fun h5 fl5 sm5 => ?_
    have J5 : Inv X pins σ H' { s' with heap := h5 } := landD I1 W inT inB inA fl5.1 (sm4.trans sm5)
    refine wpAny_handleBy_cons (codeAny_handlers_test ?_) (by intro q; cases q)
    refine ld_glob (J5.held ea (fun _ _ => False)) hy hyC ?_ hdy
    refine exc_matches (s := { s' with heap := h5 }) J5.kIn fl5.at.is ht hB mC ?_
    refine codeAny_handlers_suite_as ?_
    refine fly_none (s := { s' with heap := h5 }) fl5 fun h6 fl6 sm6 => ?_
    have J6 : Inv X pins σ H' { s' with heap := h6 } := landD I1 W inT inB inA fl6.1 ((sm4.trans sm5).trans sm6)
    have n0 : X.s₀.heap.get? ea = none := by
      cases z : X.s₀.heap.get? ea with
      | none => rfl
      | some o =>
        obtain ⟨o', q'⟩ := I1.base.there ea o z (by rw [hex]; simp)
        rw [W.new] at q'
        cases q'
    have n1 : ea ≠ X.env.locals := fun z => by
      obtain ⟨m, ⟨o, _, _, ho, _⟩, _⟩ := I1.loc
      rw [← z, W.new] at ho
      cases ho
    have n2 : ∀ x c, X.env.cells.lookup x = some c → c ≠ ea := fun x c e z => by
      obtain ⟨v, o, ho, _⟩ := I1.cell x c e
      rw [z, W.new] at ho
      cases ho
    have n3 : ∀ p ∈ X.pn ++ pins, p.1 ≠ ea := fun p hp z => by
      have ho := (I1.pin p hp).1
      rw [z, W.new] at ho
      cases ho
    have K6 : Inv X pins σ (upd H' ea (XO gAny ea C od)) { s' with heap := h6 } := J6.track n0 n1 n2 n3 W.free (xo_ok fl6.at)
    refine store_ok K6 hN hi (.inl hn) (v := .ref ea) rfl (fun s7 I7 => ?_) (.inr hn)
    refine wpAny_mono (hs ea _ pins s7 _ _ _ (I7.held ea _) (q ea W.free)) (fun fl s8 h8 => ?_) fun _ _ z => z
    cases fl with
    | next =>
      obtain ⟨σ8, H8, J8, q8⟩ := h8
      exact (J8.unheld I1.ok).goes hN hi hn fun s9 I9 => ⟨_, H8, I9, q8⟩
    | brk =>
      obtain ⟨σ8, H8, J8, q8⟩ := h8
      exact (J8.unheld I1.ok).goes hN hi hn fun s9 I9 => ⟨_, H8, I9, q8⟩
    | cont =>
      obtain ⟨σ8, H8, J8, q8⟩ := h8
      exact (J8.unheld I1.ok).goes hN hi hn fun s9 I9 => ⟨_, H8, I9, q8⟩
    | ret u =>
      obtain ⟨v8, σ8, H8, J8, r8, q8⟩ := h8
      exact (J8.unheld I1.ok).goes hN hi hn fun s9 I9 => ⟨v8, _, H8, I9, r8, q8⟩
  refine wpAny_execs_cons (wpAny_Assign_Name ?_ hsw)
  have I' := I.wish (fun ev s' => wpAny (model X.prog X.w) X.A (noteFrame ev X.env) (fun _ s₂ => wpAny (model X.prog X.w) X.A (setFlight ev none) (fun _ s₃ => wpAny (model X.prog X.w) X.A (handleBy ev X.env [.ExceptHandler (some (.Name y py)) (some n) (b₀ :: suite) ph]) (SP X pins D) X.xe s₃) X.xe s₂) X.xe s')
  refine wpAny_Call_Name_kw (ld_glob I hg hm ?_ hdb)
  refine PySem.W.callWith_K (h₀ := X.base) I.ok.mod.kin hk (thn (ha _ pos1 pins s σ H _ I' h) fun us s1 ⟨vs, H1, I1, r, q⟩ => ⟨I1.kIn, ?_⟩) he hpl
  have r2 : Vals (vs ++ []) (us ++ []) := r.append .nil
  have hl : (us ++ []).length = ps.length := by rw [← r2.length]; exact F.len _ _ _ _ q
  refine wpAny_call (codeAny_mono (F.run X.A X.stack s1 H1 ⟨us, []⟩ (us ++ []) (vs ++ []) _ _ hr I1.env0 (hb s1 us I1.kIn hl) r2 q) fun rr s' hq => ?_)
  cases rr with
  | error ev => exact lands H1 s1 ev s' I1.unwish hq
  | ok fl =>
    cases fl with
    | ret u =>
      obtain ⟨v, H2, J, rv, q2⟩ := I1.unwish.after hq
      exact store_ok J hN hj (.inl hn0) rv (fun s2 I2 => wpAny_execs_nil (wpAny_execs_nil ⟨_, H2, I2, q2⟩)) (.inr hn0)
    | next => exact False.elim hq
    | brk => exact False.elim hq
    | cont => exact False.elim hq
section
variable {P : Program} {w : World} {K : PySem.W.Frag} {mg : Str → Option Value} {base : Heap}
theorem Fun.okD {x qual : Str} {st : Stmt} {f : Addr} {fd : FuncData} {N ps : List Str} {k : Nat} {sp : Sp} (F : Fun K x qual st f fd) (S : FnScope N ps (defScope st)) (len : ∀ vs H Q E, sp vs H Q E → vs.length = ps.length)
    (hbody : ∀ (cdv : Value) (A : Around) (outer : List Env) (s : Shared) (H : Hp) (vs : List V) (Q : VK) (E : XK), Room k (A.deeper (envOfC qual (defScope st) s.heap.objs.size f cdv)) → sp vs H Q E →
      ∃ t, PSs (cxOf (CXd P w) P w K mg base N qual (defScope st) f cdv A outer s H E) (defBody st) t ∧ t { nx := fun _ H' => Q .non H', rt := Q } (start N vs) H) : FnOk P w K mg base (CXd P w) (k + 1) f fd ps sp := by
  obtain ⟨oc, od, kV, doc, pm, an, cdv, ct, osl, rfl, lk, hcd⟩ := F.ex
  exact fn_of lk hcd S len fun A outer s H vs Q E hr hsp => hbody cdv A outer s H vs Q E hr hsp
end
end L2
set_option Elab.async false
set_option linter.all false
set_option maxRecDepth 100000
set_option maxHeartbeats 8000000
namespace Tw
open PySem PySem.Spec L2
def top (i : Nat) : Stmt := PySem.Challenge.pw_twigmap_k65_behind_and_turned.main.body.getD i (.Pass ⟨0, 0, 0, 0⟩)
abbrev sOrder : Stmt := top 7
abbrev sStanding : Stmt := top 8
abbrev sTurned : Stmt := top 10
abbrev sBehind : Stmt := top 11
abbrev sFollows : Stmt := top 12
abbrev sWell : Stmt := top 14
abbrev sPull : Stmt := top 15
abbrev sGreat : Stmt := top 16
abbrev sText : Stmt := top 17
abbrev sKey : Stmt := top 18
abbrev sRank : Stmt := top 19
abbrev sKeys : Stmt := top 20
abbrev sAlike : Stmt := top 21
abbrev sRowsAlike : Stmt := top 22
abbrev sValue : Stmt := top 23
abbrev sPAlike : Stmt := top 24
abbrev sSide : Stmt := top 25
abbrev sPatches : Stmt := top 26
abbrev sDue : Stmt := top 27
abbrev sTold : Stmt := top 28
abbrev sCopy : Stmt := top 29
abbrev sMarked : Stmt := top 30
abbrev sAsked : Stmt := top 31
abbrev sLaw : Stmt := top 32

/-- what the module says of names -/
structure Txt (mg : Str → Option Value) : Prop where
  isi : mg "isinstance" = none
  bool : mg "bool" = none
  int : mg "int" = none
  str : mg "str" = none
  tuple : mg "tuple" = none
  list : mg "list" = none
  len : mg "len" = none
  all : mg "all" = none
  abs : mg "abs" = none
  max : mg "max" = none
  min : mg "min" = none
  range : mg "range" = none
  sorted : mg "sorted" = none
  dict : mg "dict" = none
  ValueError : mg "ValueError" = none

section
variable {P : Program} {w : World} {K : PySem.W.Frag} {mg : Str → Option Value} {base : Heap} {f : Addr} {fd : FuncData}

/-! ### _law_pull -/
theorem scPull : FnScope ["_law_well_here", "_law_many", "_law_found", "_law_first", "_law_second"] ["_law_well_here", "_law_many"] (defScope sPull) := ⟨rfl, rfl, rfl, by decide +kernel, rfl, by decide +kernel, by decide +kernel⟩
theorem ok_pull (F : Fun K "_law_pull" "_law_pull" sPull f fd) : FnOk P w K mg base CX0 1 f fd ["_law_well_here", "_law_many"] spPull := by
  refine F.ok scPull (fun vs H Q E h => ?_) (fun cdv A outer s H vs Q E hr h => ?_)
  · obtain ⟨p, m, rfl, _⟩ := h
    rfl
  obtain ⟨p, m, rfl, W, ⟨hm, hlog⟩, k⟩ := h
  obtain ⟨a, b, c, d, hw, ha0, ha1, hc, hd⟩ := W.ex
  have nd := scPull.nd
  refine ⟨_, pss_cons (ps_if (pt_cmpR op_eq (pe_ix ix_list (pv 0) pe_int (fun _ _ => rfl)) pe_int (nomark _)) (pss_one (ps_ret pe_int)) pss_nil)
    (pss_cons (ps_asg (pe_op op_sub (pe_ix ix_list (pv 0) pe_int (fun _ _ => rfl)) pe_int) (pg_sub (pv 0) pe_int set_list))
    (pss_cons (ps_if (pt_cmpR op_gt (pe_ix ix_list (pv 0) pe_int (fun _ _ => rfl)) pe_int (nomark _))
      (pss_cons (ps_set (i := 2) nd rfl (Or.inl rfl) (pe_op op_mod (pe_ix ix_list (pv 0) pe_int (fun _ _ => rfl)) (pv 1)))
      (pss_cons (ps_asg (pe_op tw_fdiv (pe_ix ix_list (pv 0) pe_int (fun _ _ => rfl)) (pv 1)) (pg_sub (pv 0) pe_int set_list))
      (pss_one (ps_ret (pv 2))))) pss_nil)
    (pss_cons (ps_asg (pe_op op_add (pe_ix ix_list (pv 0) pe_int (fun _ _ => rfl)) pe_int) (pg_sub (pv 0) pe_int set_list))
    (pss_cons (ps_set (i := 3) nd rfl (Or.inl rfl) (pe_op op_mod (pe_op op_mul (pe_op op_add (pe_ix ix_list (pv 0) pe_int (fun _ _ => rfl)) pe_int) (pe_op op_add pe_int (pe_op op_mul pe_int (pe_ix ix_list (pv 0) pe_int (fun _ _ => rfl))))) pe_int))
    (pss_cons (ps_set (i := 4) nd rfl (Or.inl rfl) (pe_op op_mod (pe_op op_mul (pe_op op_add (pe_op op_fdiv (pv 3) pe_int) pe_int) (pe_op op_add (pe_op op_mod (pv 3) pe_int) pe_int)) pe_int))
    (pss_one (ps_ret (pe_op op_mod (pe_op op_fdiv (pv 4) pe_int) (pv 1))))))))), ?_⟩
  refine ⟨_, rfl, p, _, _, _, rfl, rfl, SqL.of hw, rfl, rfl, _, rfl, ?_⟩
  refine ite2 (fun _ => ?_) (fun c0 => ?_)
  · exact k 0 H (Int.le_refl 0) hm W (SameX.refl p H)
  have d0 : d ≠ 0 := fun e => c0 (decide_eq_true (by rw [e]))
  refine ⟨_, rfl, p, _, _, _, rfl, rfl, SqL.of hw, rfl, _, _, rfl, rfl, _, rfl, p, _, _, _, rfl, rfl, hw, rfl, ?_⟩
  refine ⟨_, rfl, p, _, _, _, rfl, rfl, SqL.of upd_same, rfl, _, _, rfl, rfl, _, rfl, ?_⟩
  refine ite2 (fun c1 => ?_) (fun c1 => ?_)
  · refine ⟨_, rfl, p, _, _, _, rfl, rfl, SqL.of upd_same, rfl, _, rfl, _, _, rfl, rfl, hm, ?_⟩
    refine ⟨_, rfl, p, _, _, _, rfl, rfl, SqL.of upd_same, rfl, _, rfl, _, _, rfl, rfl, ⟨hm, hlog⟩, _, rfl, p, _, _, _, rfl, rfl, upd_same, rfl, ?_⟩
    refine ⟨_, rfl, ?_⟩
    refine k (c % m) _ (Int.emod_nonneg _ (by omega)) (Int.emod_lt_of_pos _ hm) ⟨a, b, c / m, d - 1, upd_same, ha0, ha1, Int.ediv_nonneg hc (by omega), by omega⟩ (SameX.refl p H).upd.upd
  · refine ⟨_, rfl, p, _, _, _, rfl, rfl, SqL.of upd_same, rfl, _, _, rfl, rfl, _, rfl, p, _, _, _, rfl, rfl, upd_same, rfl, ?_⟩
    refine ⟨_, rfl, p, _, _, _, rfl, rfl, SqL.of upd_same, rfl, _, _, rfl, rfl, _, rfl, p, _, _, _, rfl, rfl, SqL.of upd_same, rfl, _, _, rfl, rfl, .inl ⟨by decide, by decide⟩, _, _, rfl, rfl, _, _, rfl, rfl, .inl ⟨by omega, by omega⟩, _, _, rfl, rfl, (by show (0 : Int) < 2147483629; decide), ?_⟩
    generalize hx : (a + 1) * (48271 + 7919 * (b + 1)) % 2147483629 = x
    have x0 : 0 ≤ x := by rw [← hx]; exact Int.emod_nonneg _ (by decide)
    have x1 : x < 2147483629 := by rw [← hx]; exact Int.emod_lt_of_pos _ (by decide)
    refine ⟨_, rfl, _, _, rfl, rfl, ⟨by decide, by decide⟩, _, _, rfl, rfl, _, rfl, _, _, rfl, rfl, (by show (0 : Int) < 1009; decide), _, _, rfl, rfl, _, _, rfl, rfl, .inl ⟨by omega, by omega⟩, _, _, rfl, rfl, (by show (0 : Int) < 1000000007; decide), ?_⟩
    refine ⟨_, rfl, _, _, rfl, rfl, ⟨by decide, by decide⟩, _, rfl, _, _, rfl, rfl, hm, ?_⟩
    exact k _ _ (Int.emod_nonneg _ (by omega)) (Int.emod_lt_of_pos _ hm) ⟨a, b + 1, c, d - 1, upd_same, ha0, ha1, hc, by omega⟩ (SameX.refl p H).upd.upd

/-! ### _law_great -/
theorem scGreat : FnScope ["_law_well_here", "_law_bound", "_law_found", "_law_j"] ["_law_well_here", "_law_bound"] (defScope sGreat) := ⟨rfl, rfl, rfl, by decide +kernel, rfl, by decide +kernel, by decide +kernel⟩
theorem ok_great (F : Fun K "_law_great" "_law_great" sGreat f fd) (T : Txt mg) (DP : DefOk P w K mg base 1 "_law_pull" ["_law_well_here", "_law_many"] spPull) : FnOk P w K mg base CX0 2 f fd ["_law_well_here", "_law_bound"] spPull := by
  refine F.ok scGreat (fun vs H Q E h => ?_) (fun cdv A outer s H vs Q E hr h => ?_)
  · obtain ⟨p, m, rfl, _⟩ := h
    rfl
  obtain ⟨p, m, rfl, W, hm, k⟩ := h
  obtain ⟨a, b, c, d, hw, _⟩ := W.ex
  have nd := scGreat.nd
  refine ⟨_, pss_cons (ps_if (pt_cmpR op_gt (pe_ix ix_list (pv 0) pe_int (fun _ _ => rfl)) pe_int (nomark _)) (pss_one (ps_ret (pe_def DP hr (pa_cons (pv 0) (pa_cons (pv 1) pa_nil))))) pss_nil)
    (pss_cons (ps_set (i := 2) nd rfl (Or.inl rfl) pe_int)
    (pss_cons (ps_for PassesOwn.never rfl (pi_range1 rfl T.range (pa_cons pe_int pa_nil)) (pg_name (i := 3) nd rfl (Or.inl rfl))
      (pss_one (ps_set (i := 2) nd rfl (Or.inl rfl) (pe_op op_add (pe_op op_mul (pv 2) pe_int) (pe_def DP hr (pa_cons (pv 0) (pa_cons pe_int pa_nil)))))))
    (pss_one (ps_ret (pe_op op_mod (pv 2) (pv 1)))))), ?_⟩
  refine ⟨_, rfl, p, _, _, _, rfl, rfl, SqL.of hw, rfl, _, _, rfl, rfl, _, rfl, ?_⟩
  refine ite2 (fun _ => ?_) (fun _ => ?_)
  · exact ⟨_, rfl, _, rfl, p, m, rfl, W, hm, k⟩
  refine ⟨8, rfl, by decide, by decide, for_range (n := 8) (fun i σ H2 => ∃ (z : Int) (j : Option V), σ = [some (.ref p), some (.int m), some (.int z), j] ∧ WellAt H2 p ∧ SameX p H H2) ⟨0, none, rfl, W, SameX.refl p H⟩ ?_ ?_⟩
  · rintro i σ H2 hi ⟨z, j, rfl, W2, s2⟩
    refine ⟨_, rfl, _, _, rfl, rfl, .inr ⟨by decide, by decide⟩, _, rfl, p, 62500000, rfl, W2, small_lit (by decide) (by decide), fun r H3 _ _ W3 s3 => ?_⟩
    exact ⟨_, _, rfl, rfl, _, _, rfl, W3, s2.trans s3⟩
  · rintro σ H2 ⟨z, j, rfl, W2, s2⟩
    refine ⟨_, rfl, _, rfl, _, _, rfl, rfl, hm.1, ?_⟩
    exact k _ _ (Int.emod_nonneg _ (by have := hm.1; omega)) (Int.emod_lt_of_pos _ hm.1) W2 s2
end
def signsS : Str := " \"\\~!#$&'()*+,-./0123456789:;<=>?@ABCDEFGHIJKLMNOPQRSTUVWXYZ[]^_`abcdefghijklmnopqrstuvwxyz{|}"
theorem signs_len : signsS.cps.toList.length = 94 := by decide +kernel
theorem signs_size : signsS.length = 94 := by decide +kernel
theorem signs_ok : signsS.cps.toList.all signOk = true := by decide +kernel
theorem sign_at {i : Int} (h0 : 0 ≤ i) (h1 : i < 94) : ∃ c, atI signsS.cps.toList i = some c ∧ signOk c = true := by
  obtain ⟨c, e, m⟩ := atI_in (xs := signsS.cps.toList) h0 (by rw [signs_len]; exact h1)
  exact ⟨c, e, List.all_eq_true.mp signs_ok c m⟩
/-- a text of at most i signs, all of them right -/
def TextN (x : Str) (i : Nat) : Prop := x.cps.size ≤ i ∧ x.cps.toList.all signOk = true
theorem TextN.ok {x : Str} {i : Nat} (h : TextN x i) (hi : i ≤ 40) : textOk x = true := by
  unfold textOk
  rw [Bool.and_eq_true]
  exact ⟨decide_eq_true (Nat.le_trans h.1 hi), h.2⟩
theorem TextN.more {x : Str} {i c : Nat} (h : TextN x i) (hc : signOk c = true) : TextN (x ++ (⟨#[c]⟩ : Str)) (i + 1) := by
  have e : (x ++ (⟨#[c]⟩ : Str)).cps = x.cps ++ #[c] := rfl
  refine ⟨?_, ?_⟩
  · rw [e, Array.size_append]; exact Nat.succ_le_succ h.1
  · rw [e, Array.toList_append, List.all_append, h.2]; simp [hc]

section
variable {P : Program} {w : World} {K : PySem.W.Frag} {mg : Str → Option Value} {base : Heap} {f : Addr} {fd : FuncData}
/-! ### _law_text -/
abbrev nText : List Str := ["_law_well_here", "_law_signs", "_law_text_here", "_law_few", "_law_j", "_law_sign"]
theorem scText : FnScope nText ["_law_well_here"] (defScope sText) := ⟨rfl, rfl, rfl, by decide +kernel, rfl, by decide +kernel, by decide +kernel⟩
theorem ok_text (F : Fun K "_law_text" "_law_text" sText f fd) (T : Txt mg) (DP : DefOk P w K mg base 1 "_law_pull" ["_law_well_here", "_law_many"] spPull) : FnOk P w K mg base CX0 2 f fd ["_law_well_here"] spText := by
  refine F.ok scText (fun vs H Q E h => ?_) (fun cdv A outer s H vs Q E hr h => ?_)
  · obtain ⟨p, rfl, _⟩ := h
    rfl
  obtain ⟨p, rfl, W, k⟩ := h
  have nd := scText.nd
  refine ⟨_, pss_cons (ps_set (i := 1) nd rfl (Or.inl rfl) pe_str) (pss_cons (ps_set (i := 2) nd rfl (Or.inl rfl) pe_str)
    (pss_cons (ps_set (i := 3) nd rfl (Or.inl rfl) (pe_def DP hr (pa_cons (pv 0) (pa_cons pe_int pa_nil))))
    (pss_cons (ps_for PassesOwn.never rfl (pi_range1 rfl T.range (pa_cons (pe_def DP hr (pa_cons (pv 0) (pa_cons (pe_ix ix_list (pe_lst (pa_cons pe_int (pa_cons pe_int pa_nil))) (pe_def DP hr (pa_cons (pv 0) (pa_cons pe_int pa_nil))) (fun _ _ => rfl)) pa_nil))) pa_nil)) (pg_name (i := 4) nd rfl (Or.inl rfl))
      (pss_cons (ps_set (i := 5) nd rfl (Or.inl rfl) pe_str)
      (pss_cons (ps_if (pw_or (pt_cmpR op_gt (pv 3) pe_int (nomark _)) (pw_or1 (pt_cmpR op_eq (pe_def DP hr (pa_cons (pv 0) (pa_cons pe_int pa_nil))) pe_int (nomark _)))).pt
        (pss_one (ps_set (i := 5) nd rfl (Or.inl rfl) (pe_ix ix_str (pv 1) (pe_def DP hr (pa_cons (pv 0) (pa_cons (pe_ix ix_list (pe_lst (pa_cons pe_int (pa_cons pe_int pa_nil))) (pe_op op_fdiv (pv 3) pe_int) (fun _ _ => rfl)) pa_nil))) (fun _ _ => rfl)))) pss_nil)
      (pss_one (ps_set (i := 2) nd rfl (Or.inl rfl) (pe_op op_add_str (pv 2) (pv 5)))))))
    (pss_one (ps_ret (pv 2)))))), ?_⟩
  refine ⟨_, rfl, p, 3, rfl, W, small_lit (by decide) (by decide), fun pl H1 pl0 pl1 W1 s1 => ?_⟩
  refine ⟨_, rfl, (by show 2 ≤ sizeLine; decide), fun l hl => ?_⟩
  have W1' : WellAt (upd H1 l (.lst [.int 4, .int 41])) p := W1.same (same_new hl _)
  refine ⟨_, rfl, p, 2, rfl, W1', small_lit (by decide) (by decide), fun r H2 r0 r1 W2 s2 => ?_⟩
  have npl : l ≠ p := by
    obtain ⟨xs, e⟩ := W1.some
    exact (ne_of_none e hl).symm
  have hl2 : H2 l = some (.lst [.int 4, .int 41]) := s2 l _ upd_same npl
  obtain ⟨v, hv, hv'⟩ := at2 (x := V.int 4) (y := V.int 41) r0 r1
  have hb : ∃ z : Int, v = .int z ∧ 0 < z ∧ z ≤ 41 := by
    rcases hv' with e | e
    · exact ⟨4, e, by decide, by decide⟩
    · exact ⟨41, e, by decide, by decide⟩
  obtain ⟨z, rfl, z0, z1⟩ := hb
  refine ⟨l, _, _, _, rfl, rfl, SqL.of hl2, hv, p, z, rfl, W2, small_lit z0 (by omega), fun n H3 n0 n1 W3 s3 => ?_⟩
  have sA : SameX p H H3 := (s1.trans (SameX.of (same_new hl _))).trans (s2.trans s3)
  refine ⟨n, rfl, by omega, by omega, for_range (n := n.toNat) (fun i σ H4 => ∃ (x : Str) (j g : Option V), σ = [some (.ref p), some (.str signsS), some (.str x), some (.int pl), j, g] ∧ TextN x i ∧ WellAt H4 p ∧ SameX p H H4)
    ⟨"", none, none, rfl, ⟨by decide, by decide⟩, W3, sA⟩ ?_ ?_⟩
  · rintro i σ H4 hi ⟨x, j, g, rfl, hx, W4, s4⟩
    have fin : ∀ (c : Nat) (H5 : Hp), signOk c = true → WellAt H5 p → SameX p H H5 → ∃ (y : Str) (j g : Option V), [some (V.ref p), some (.str signsS), some (.str (x ++ (⟨#[c]⟩ : Str))), some (.int pl), some (.int (0 + (i : Int))), some (.str ⟨#[c]⟩)] = [some (.ref p), some (.str signsS), some (.str y), some (.int pl), j, g] ∧ TextN y (i + 1) ∧ WellAt H5 p ∧ SameX p H H5 :=
      fun c H5 hc W5 s5 => ⟨_, _, _, rfl, hx.more hc, W5, s5⟩
    have hlen : ∀ c : Nat, x.length + (⟨#[c]⟩ : Str).length ≤ sizeLine := fun c => by
      have h1 : x.length ≤ i := hx.1
      have h2 : (⟨#[c]⟩ : Str).length = 1 := rfl
      rw [h2]
      exact nn (by omega)
    have yes : ∀ H5, WellAt H5 p → SameX p H H5 → ∃ (v : Int), 0 < v ∧ v ≤ 94 ∧ atI [V.int 94, V.int 5] (pl / 2) = some (.int v) := fun H5 _ _ => by
      obtain ⟨v, e, h⟩ := at2 (x := V.int 94) (y := V.int 5) (i := pl / 2) (by omega) (by omega)
      rcases h with rfl | rfl
      · exact ⟨94, by decide, by decide, e⟩
      · exact ⟨5, by decide, by decide, e⟩
    refine ⟨_, rfl, _, _, rfl, rfl, _, rfl, ?_⟩
    refine ite2 (fun _ => ?_) (fun _ => ?_)
    · refine iteT ?_
      refine ⟨_, rfl, _, rfl, (by show 2 ≤ sizeLine; decide), fun l2 hl2 => ?_⟩
      obtain ⟨v, v0, v1, ev⟩ := yes H4 W4 s4
      refine ⟨_, rfl, _, _, rfl, rfl, ⟨by decide, by decide⟩, l2, _, _, _, rfl, rfl, SqL.of upd_same, ev, p, v, rfl, W4.same (same_new hl2 _), small_lit v0 (by omega), fun u H5 u0 u1 W5 s5 => ?_⟩
      obtain ⟨c, ec, hc⟩ := sign_at u0 (by omega)
      refine ⟨signsS, _, c, rfl, rfl, (by rw [signs_size]; exact nn (by decide)), ec, ?_⟩
      exact ⟨_, rfl, _, rfl, _, _, rfl, rfl, hlen c, fin c H5 hc W5 ((s4.trans (SameX.of (same_new hl2 _))).trans s5)⟩
    · refine ⟨_, rfl, p, 8, rfl, W4, small_lit (by decide) (by decide), fun y H6 _ _ W6 s6 => ⟨rfl, _, rfl, ?_⟩⟩
      refine ite2 (fun _ => ?_) (fun _ => ?_)
      · refine ⟨_, rfl, _, rfl, (by show 2 ≤ sizeLine; decide), fun l2 hl2 => ?_⟩
        obtain ⟨v, v0, v1, ev⟩ := yes H6 W6 (s4.trans s6)
        refine ⟨_, rfl, _, _, rfl, rfl, ⟨by decide, by decide⟩, l2, _, _, _, rfl, rfl, SqL.of upd_same, ev, p, v, rfl, W6.same (same_new hl2 _), small_lit v0 (by omega), fun u H5 u0 u1 W5 s5 => ?_⟩
        obtain ⟨c, ec, hc⟩ := sign_at u0 (by omega)
        refine ⟨signsS, _, c, rfl, rfl, (by rw [signs_size]; exact nn (by decide)), ec, ?_⟩
        exact ⟨_, rfl, _, rfl, _, _, rfl, rfl, hlen c, fin c H5 hc W5 (((s4.trans s6).trans (SameX.of (same_new hl2 _))).trans s5)⟩
      · exact ⟨_, rfl, _, rfl, _, _, rfl, rfl, hlen 97, fin 97 H6 (by decide) W6 (s4.trans s6)⟩
  · rintro σ H4 ⟨x, j, g, rfl, hx, W4, s4⟩
    exact ⟨_, rfl, k x H4 (hx.ok (by omega)) W4 s4⟩

/-! ### _law_key -/
theorem scKey : FnScope ["_law_well_here", "_law_room", "_law_way"] ["_law_well_here", "_law_room"] (defScope sKey) := ⟨rfl, rfl, rfl, by decide +kernel, rfl, by decide +kernel, by decide +kernel⟩
theorem key_none {k : Nat} : FnOk P w K mg base CX0 k f fd ["_law_well_here", "_law_room"] (spKey 0) := by
  have no : ∀ vs H Q E, ¬ spKey 0 vs H Q E := fun vs H Q E h => by
    obtain ⟨p, r, _, _, h1, _⟩ := h
    omega
  exact ⟨fun vs H Q E h => absurd h (no vs H Q E), fun A outer s H args us vs Q E _ _ _ _ h => absurd h (no vs H Q E)⟩
theorem ok_key {n : Nat} (F : Fun K "_law_key" "_law_key" sKey f fd) (T : Txt mg) (DP : DefOk P w K mg base 1 "_law_pull" ["_law_well_here", "_law_many"] spPull) (DG : DefOk P w K mg base 2 "_law_great" ["_law_well_here", "_law_bound"] spPull)
    (DT : DefOk P w K mg base 2 "_law_text" ["_law_well_here"] spText) (DK : DefOk P w K mg base (n + 2) "_law_key" ["_law_well_here", "_law_room"] (spKey n)) : FnOk P w K mg base CX0 (n + 3) f fd ["_law_well_here", "_law_room"] (spKey (n + 1)) := by
  refine F.ok scKey (fun vs H Q E h => ?_) (fun cdv A outer s H vs Q E hr h => ?_)
  · obtain ⟨p, r, rfl, _⟩ := h
    rfl
  obtain ⟨p, r, rfl, W, hn, k⟩ := h
  have nd := scKey.nd
  have hr1 := hr.mono (show 1 ≤ n + 2 by omega)
  have hr2 := hr.mono (show 2 ≤ n + 2 by omega)
  refine ⟨_, pss_cons (ps_set (i := 2) nd rfl (Or.inl rfl) (pe_def DP hr1 (pa_cons (pv 0) (pa_cons pe_int pa_nil))))
    (pss_cons (ps_if (pt_cmpR op_lt (pv 2) pe_int (nomark _)) (pss_one (ps_ret (pe_op op_sub (pe_def DP hr1 (pa_cons (pv 0) (pa_cons pe_int pa_nil))) pe_int))) pss_nil)
    (pss_cons (ps_if (pt_cmpR op_eq (pv 2) pe_int (nomark _)) (pss_one (ps_ret (pe_op op_add (pe_op op_sub (pe_def DG hr2 (pa_cons (pv 0) (pa_cons (pe_op op_sub (pe_op op_mul pe_int (pe_op op_pow pe_int pe_int)) pe_int) pa_nil))) (pe_op op_pow pe_int pe_int)) pe_int))) pss_nil)
    (pss_cons (ps_if (pw_or (pt_cmpR op_lt (pv 2) pe_int (nomark _)) (pw_or1 (pt_cmpR op_eq (pv 1) pe_int (nomark _)))).pt (pss_one (ps_ret (pe_def DT hr2 (pa_cons (pv 0) pa_nil)))) pss_nil)
    (pss_one (ps_ret (pe_callTy call_tuple_of rfl T.tuple tb_tuple (pa_cons (pe_comp [0, 1] ["_law_well_here", "_law_room"] rfl (pi_range1 rfl T.range (pa_cons (pe_def DP hr1 (pa_cons (pv 0) (pa_cons pe_int pa_nil))) pa_nil)) (fun _ _ _ _ _ => pts_nil)
      (fun _ _ _ _ _ => pe_def DK hr (pa_cons (pv 1) (pa_cons (pe_op op_sub (pv 2) pe_int) pa_nil))) ⟨rfl, .inl rfl, rfl, rfl, .inl rfl, rfl, trivial⟩) pa_nil))))))), ?_⟩
  refine ⟨_, rfl, p, 8, rfl, W, small_lit (by decide) (by decide), fun y H1 y0 y1 W1 s1 => ?_⟩
  refine ⟨_, rfl, _, _, rfl, rfl, _, rfl, ?_⟩
  refine ite2 (fun _ => ?_) (fun c1 => ?_)
  · refine ⟨_, rfl, p, 41, rfl, W1, small_lit (by decide) (by decide), fun u H2 u0 u1 W2 s2 => ⟨_, _, rfl, rfl, ?_⟩⟩
    refine k (.int (u - 20)) (.int (u - 20)) H2 (KeyAt.int _) ?_ W2 (s1.trans s2)
    rw [KT.fits]
    have e : (10 : Nat) ^ 60 > 1000 := by decide
    exact decide_eq_true (by omega)
  refine ⟨_, rfl, rfl, _, rfl, ?_⟩
  refine ite2 (fun _ => ?_) (fun c2 => ?_)
  · refine ⟨_, rfl, _, _, rfl, rfl, ⟨by decide, by decide, by decide⟩, _, _, rfl, rfl, .inl ⟨by decide, by decide⟩, _, _, rfl, rfl, p, _, rfl, W1, small_lit (by decide +kernel) (by decide +kernel), fun u H2 u0 u1 W2 s2 => ?_⟩
    refine ⟨_, _, rfl, rfl, ⟨by decide, by decide, by decide⟩, _, _, rfl, rfl, _, _, rfl, rfl, ?_⟩
    refine k _ (.int _) H2 (KeyAt.int _) ?_ W2 (s1.trans s2)
    have e : ((10 : Int) ^ (60 : Int).toNat) = ((10 ^ 60 : Nat) : Int) := by decide +kernel
    rw [e] at u1
    rw [KT.fits, e]
    generalize (10 ^ 60 : Nat) = N at *
    exact decide_eq_true (by omega)
  have txt : spText ([.ref p] ++ []) H1 Q E0 := ⟨p, rfl, W1, fun x H2 hx W2 s2 => k (.str x) (.str x) H2 (KeyAt.str x) (by rw [KT.fits]; exact hx) W2 (s1.trans s2)⟩
  refine ⟨_, rfl, _, _, rfl, rfl, _, rfl, ?_⟩
  refine ite2 (fun _ => ?_) (fun _ => ?_)
  · exact iteT ⟨_, rfl, txt⟩
  refine ⟨_, rfl, rfl, _, rfl, ?_⟩
  refine ite2 (fun _ => ?_) (fun c3 => ?_)
  · exact ⟨_, rfl, txt⟩
  have r0 : r ≠ 0 := fun e => c3 (decide_eq_true (by rw [e]; rfl))
  refine ⟨_, rfl, p, 5, rfl, W1, small_lit (by decide) (by decide), fun u H2 u0 u1 W2 s2 => ⟨u, rfl, by omega, by omega, ?_⟩⟩
  have sB : SameX p H H2 := s1.trans s2
  refine comp_map (n := u.toNat) (fun i x => x = .int (0 + (i : Int))) (fun D i ys H3 => WellAt H3 p ∧ SameX p H H3 ∧ D ≠ p ∧ H D = none ∧ ∃ ts, KeysAt H3 ts ys ∧ ts.length = i ∧ fitsL ts (r - 1) = true) (small1000 (by omega))
    (fun D i ys H3 hi _ => hi) (fun D i ys H3 x H4 hi _ hy => hy) (fun D ys H3 _ => Nat.le_refl _) (fun D hD => ?_) (fun D i ys H3 x eD hl hi hx hP R hR => ?_) (fun D ys H3 eD hP => ?_)
  · have nD : D ≠ p := by
      obtain ⟨xs, e⟩ := W2.some
      exact (ne_of_none e hD).symm
    have nH : H D = none := by
      cases e : H D with
      | none => rfl
      | some o => rw [sB D o e nD] at hD; cases hD
    exact ⟨W2.same (same_new hD _), sB.trans (SameX.of (same_new hD _)), nD, nH, [], .nil, rfl, by rw [fitsL]⟩
  · obtain ⟨W3, s3, nD, nH, ts, hk, hlen, hf⟩ := hP
    have er : (r : Int) - 1 = ((r - 1 : Nat) : Int) := by omega
    refine ⟨_, rfl, _, rfl, _, _, rfl, rfl, p, r - 1, congrArg (fun z => [V.ref p, V.int z]) er, W3, by omega, fun v t H4 hv ht W4 s4 => ?_⟩
    have eD4 := s4 D _ eD nD
    have sD : SameX D H4 (upd H4 D (.lst (ys ++ [v]))) := (SameX.refl D H4).upd
    have tD : Tups H4 (upd H4 D (.lst (ys ++ [v]))) := sD.tups eD4
    refine hR v H4 eD4 ⟨W4.stay sD nD.symm, fun b o e n => ?_, nD, nH, ts ++ [t], ((KeysAt.mono (s4.tupsW W3) _ _ hk).append (.cons hv .nil)).mono tD _ _, by simp [hlen], ?_⟩
    · rw [upd_ne (ne_of_none e nH)]
      exact (s3.trans s4) b o e n
    · rw [fitsL_all] at hf ⊢
      rw [List.all_append, hf]
      simp [ht]
  · obtain ⟨W3, s3, nD, nH, ts, hk, hlen, hf⟩ := hP
    refine ⟨D, ys, rfl, .inl ⟨SqL.of eD, fun l hl => ?_⟩⟩
    have sl := same_new hl (.tup ys)
    refine k (.ref l) (.tup ts) _ (.tup upd_same (hk.mono (Same.tups sl) _ _)) ?_ (W3.same sl) (s3.trans (SameX.of sl))
    rw [KT.fits, hf, Bool.and_true, Bool.and_eq_true]
    exact ⟨decide_eq_true (by omega), decide_eq_true (by omega)⟩
end
section
variable {P : Program} {w : World} {K : PySem.W.Frag} {mg : Str → Option Value} {base : Heap} {f : Addr} {fd : FuncData}
/-! ### _law_well -/
abbrev nWell : List Str := ["_law_script", "_law_k", "_law_left", "_law_cell", "_law_digits"]
theorem scWell : FnScope nWell ["_law_script", "_law_k"] (defScope sWell) := ⟨rfl, rfl, rfl, by decide +kernel, rfl, by decide +kernel, by decide +kernel⟩
theorem ok_well (F : Fun K "_law_well" "_law_well" sWell f fd) (T : Txt mg) : FnOk P w K mg base CX0 1 f fd ["_law_script", "_law_k"] (spWell K) := by
  refine F.ok scWell (fun vs H Q E h => ?_) (fun cdv A outer s H vs Q E hr h => ?_)
  · obtain ⟨a, ns, k, rfl, _⟩ := h
    rfl
  obtain ⟨a, ns, k, rfl, hS, hn, k0, k1, q⟩ := h
  have nd := scWell.nd
  refine ⟨_, pss_cons (ps_set (i := 2) nd rfl (Or.inl rfl) (pe_ix ix_list (pe_lst (pa_cons pe_int (pa_cons pe_int pa_nil))) (pe_callTy call_int1 rfl T.int tb_int (pa_cons (pe_cmpR op_eq (pv 1) pe_int (nomark _)) pa_nil)) (fun _ _ => rfl)))
    (pss_cons (ps_set (i := 3) nd rfl (Or.inl rfl) (pe_ix ix_list (pe_op op_cat (pe_callTy call_list_of rfl T.list tb_list (pa_cons (pv 0) pa_nil)) (pe_lst (pa_cons pe_int pa_nil))) (pe_op op_mod (pv 1) (pe_callB (call_max2 rfl) rfl T.max tb_max (pa_cons pe_int (pa_cons (pe_callB call_len_seq rfl T.len tb_len (pa_cons (pv 0) pa_nil)) pa_nil)))) (fun _ _ => rfl)))
    (pss_cons (ps_set (i := 4) nd rfl (Or.inl rfl) (pe_op op_mul (pe_callB call_abs rfl T.abs tb_abs (pa_cons (pv 3) pa_nil)) (pe_callTy call_int1 rfl T.int tb_int (pa_cons (pe_and (pe_cmpR op_ge (pe_callB call_abs rfl T.abs tb_abs (pa_cons (pv 3) pa_nil)) (pe_op op_pow pe_int pe_int) (nomark _)) (pe_one (pe_cmpR op_lt (pv 1) (pe_callB call_len_seq rfl T.len tb_len (pa_cons (pv 0) pa_nil)) (nomark _)))) pa_nil))))
    (pss_one (ps_ret (pe_lst (pa_cons (pe_op op_mod (pv 3) pe_int) (pa_cons (pe_op op_mul pe_int (pv 1)) (pa_cons (pv 4) (pa_cons (pv 2) pa_nil))))))))), ?_⟩
  refine ⟨(by show 2 ≤ sizeLine; decide), fun l1 hl1 => ?_⟩
  have g1 := same_new hl1 (.lst [V.int 240, V.int 2400])
  refine ⟨_, rfl, rfl, .inr ⟨_, rfl, ?_⟩⟩
  obtain ⟨lv, elv, hlv⟩ : ∃ z : Int, atI [V.int 240, V.int 2400] (if decide (V.int k = V.int 0) = true then 1 else 0) = some (.int z) ∧ 0 ≤ z := by
    split
    · exact ⟨2400, rfl, by decide⟩
    · exact ⟨240, rfl, by decide⟩
  refine ⟨l1, _, _, _, rfl, rfl, SqL.of upd_same, elv, ?_⟩
  refine ⟨_, rfl, a, _, rfl, .inl (g1.seq hS), fun l2 hl2 => ?_⟩
  have g2 := g1.trans (same_new hl2 (.lst (ns.map V.int)))
  refine ⟨(by show 1 ≤ sizeLine; decide), fun l3 hl3 => ?_⟩
  have g3 := g2.trans (same_new hl3 (.lst [V.int 0]))
  have n23 : l2 ≠ l3 := ne_of_none upd_same hl3
  refine ⟨l2, l3, _, _, rfl, rfl, (by rw [upd_ne n23]; exact upd_same), upd_same, (by rw [List.length_map]; exact nn (by show ns.length + 1 ≤ 1000; omega)), fun l4 hl4 => ?_⟩
  have g4 := g3.trans (same_new hl4 (.lst (ns.map V.int ++ [V.int 0])))
  refine ⟨_, rfl, _, rfl, a, _, rfl, .inl (g4.seq hS), _, _, rfl, ?_⟩
  have hlm : (ns.map V.int).length = ns.length := List.length_map _
  generalize hM : (if (((ns.map V.int).length : Nat) : Int) > 1 then (((ns.map V.int).length : Nat) : Int) else 1) = M
  have M1 : 1 ≤ M ∧ M ≤ (ns.length : Int) + 1 := by
    rw [hlm] at hM
    rw [← hM]
    split <;> omega
  refine ⟨_, _, rfl, rfl, by omega, ?_⟩
  have i0 : 0 ≤ k % M := Int.emod_nonneg _ (by omega)
  have i1 : k % M < M := Int.emod_lt_of_pos _ (by omega)
  obtain ⟨cv, ecv, mcv⟩ := atI_in (xs := ns.map V.int ++ [V.int 0]) i0 (by rw [List.length_append, List.length_map, List.length_singleton]; omega)
  obtain ⟨cell, rfl⟩ : ∃ z : Int, cv = .int z := by
    rcases List.mem_append.mp mcv with m | m
    · obtain ⟨z, _, e⟩ := List.mem_map.mp m
      exact ⟨z, e.symm⟩
    · exact ⟨0, List.mem_singleton.mp m⟩
  refine ⟨l4, _, _, _, rfl, rfl, SqL.of upd_same, ecv, ?_⟩
  -- digits
  have dig : ∀ b : Bool, 0 ≤ (if cell < 0 then -cell else cell) * (if b = true then 1 else 0) := fun b => by
    cases b
    · simp
    · simp; split <;> omega
  have cm : ∀ (x : Int) (b : Bool), CMul x (if b = true then 1 else 0) := fun x b => .inr (by cases b <;> exact ⟨by decide, by decide⟩)
  have done : ∀ (z : Int) (H5 : Hp), 0 ≤ z → Same H H5 → ∀ l5, H5 l5 = none → Q (.ref l5) (upd H5 l5 (.lst [.int (cell % 2147483647), .int (1000 * k), .int z, .int lv])) := fun z H5 z0 s5 l5 hl5 =>
    q l5 _ (s5.free hl5) (s5.trans (same_new hl5 _)) ⟨_, _, _, _, upd_same, Int.emod_nonneg _ (by decide), Int.emod_lt_of_pos _ (by decide), z0, hlv⟩
  refine ⟨_, rfl, _, rfl, _, rfl, _, rfl, _, _, rfl, rfl, ⟨by decide, by decide, by decide⟩, _, _, rfl, rfl, _, rfl, ?_⟩
  refine ite2 (fun _ => ?_) (fun _ => ?_)
  · refine ⟨_, rfl, _, rfl, a, _, rfl, .inl (g4.seq hS), _, _, rfl, rfl, .inr ⟨_, rfl, _, _, rfl, rfl, cm _ _, ?_⟩⟩
    refine ⟨_, rfl, _, _, rfl, rfl, (by show (0 : Int) < 2147483647; decide), _, rfl, _, _, rfl, rfl, .inl ⟨by decide, by decide⟩, _, rfl, _, rfl, (by show 4 ≤ sizeLine; decide), fun l5 hl5 => ?_⟩
    exact done _ _ (dig _) g4 l5 hl5
  · refine .inr ⟨_, rfl, _, _, rfl, rfl, cm _ false, ?_⟩
    refine ⟨_, rfl, _, _, rfl, rfl, (by show (0 : Int) < 2147483647; decide), _, rfl, _, _, rfl, rfl, .inl ⟨by decide, by decide⟩, _, rfl, _, rfl, (by show 4 ≤ sizeLine; decide), fun l5 hl5 => ?_⟩
    exact done _ _ (dig false) g4 l5 hl5

end
/-- a def as the top has laid it -/
structure Laid (K : PySem.W.Frag) (mg : Str → Option Value) (x : Str) (st : Stmt) (ps : List Str) : Prop where
  ex : ∃ f fd, Fun K x x st f fd ∧ Binds K fd ps [] ∧ mg x = some (.ref f)
theorem Laid.of {P : Program} {w : World} {K : PySem.W.Frag} {mg : Str → Option Value} {base : Heap} {x : Str} {st : Stmt} {ps : List Str} {k : Nat} {sp : Sp} (L : Laid K mg x st ps) (h : ∀ f fd, Fun K x x st f fd → FnOk P w K mg base CX0 k f fd ps sp) : DefOk P w K mg base k x ps sp := by
  obtain ⟨f, fd, F, b, m⟩ := L.ex
  exact ⟨f, fd, h f fd F, b, F.kp, m⟩
theorem laid_mk {K : PySem.W.Frag} {h : Heap} {mg : Str → Option Value} {x : Str} {st : Stmt} {ps : List Str} {f : Addr} {od an : Option Addr} {sl : Array (Option Value)} {oc kV dc pm cd ct : Value} (X : K.In h) (G : h.Ns mainGlobals mg)
    (a : PySem.W.nsIn K mainGlobals x = some (some (.ref f))) (l : K.lookup f = some ⟨oc, od, .func (PySem.W.fnOf x x (defArgs st) (defBody st) (defScope st) .none kV dc pm an cd ct), sl⟩) (c : PySem.W.codeIn K cd x = true) (k : PySem.W.keepIn K (.ref f) = true)
    (hb : ∀ (kV doc pm : Value) (an : Option Addr) (cdv ct : Value) (us : List Value), us.length = ps.length → bindArgs (PySem.W.fnOf x x (defArgs st) (defBody st) (defScope st) .none kV doc pm an cdv ct) ⟨us, []⟩ = pure (ps.zip us)) : Laid K mg x st ps :=
  ⟨f, _, fun_mk (st := st) l c k, (fun_mk (st := st) l c k).binds hb, PySem.W.mg_of X G a⟩
section
variable {P : Program} {w : World} {K : PySem.W.Frag} {mg : Str → Option Value} {base : Heap}
theorem all_key (T : Txt mg) (L : Laid K mg "_law_key" sKey ["_law_well_here", "_law_room"]) (DP : DefOk P w K mg base 1 "_law_pull" ["_law_well_here", "_law_many"] spPull) (DG : DefOk P w K mg base 2 "_law_great" ["_law_well_here", "_law_bound"] spPull)
    (DT : DefOk P w K mg base 2 "_law_text" ["_law_well_here"] spText) : ∀ n : Nat, DefOk P w K mg base (n + 2) "_law_key" ["_law_well_here", "_law_room"] (spKey n)
  | 0 => L.of fun _ _ _ => key_none
  | n + 1 => L.of fun _ _ F => ok_key F T DP DG DT (all_key T L DP DG DT n)
end
end Tw
set_option Elab.async false
set_option linter.all false
set_option maxRecDepth 100000
set_option maxHeartbeats 8000000
namespace Tw
open PySem PySem.Spec L2
/-! ### the promises -/
def spSt (n : Nat) : Sp := fun vs H Q _ => ∃ (v : V) (t : KT) (q : Nat), vs = [v] ∧ KeyAt H t v ∧ t.fits q = true ∧ t.depth < n ∧ ∀ (v' : V) (H' : Hp), KeyAt H' t.st v' → Same H H' → Q v' H'
section
variable {P : Program} {w : World} {K : PySem.W.Frag} {mg : Str → Option Value} {base : Heap} {f : Addr} {fd : FuncData}
/-! ### standing -/
theorem scStanding : FnScope ["key"] ["key"] (defScope sStanding) := ⟨rfl, rfl, rfl, by decide +kernel, rfl, by decide +kernel, by decide +kernel⟩
theorem st_none {k : Nat} : FnOk P w K mg base CX0 k f fd ["key"] (spSt 0) := by
  have no : ∀ vs H Q E, ¬ spSt 0 vs H Q E := fun vs H Q E h => by
    obtain ⟨v, t, q, _, _, _, h1, _⟩ := h
    omega
  exact ⟨fun vs H Q E h => absurd h (no vs H Q E), fun A outer s H args us vs Q E _ _ _ _ h => absurd h (no vs H Q E)⟩
theorem ok_standing {n : Nat} (F : Fun K "standing" "standing" sStanding f fd) (T : Txt mg) (DS : DefOk P w K mg base (n + 1) "standing" ["key"] (spSt n)) : FnOk P w K mg base CX0 (n + 2) f fd ["key"] (spSt (n + 1)) := by
  refine F.ok scStanding (fun vs H Q E h => ?_) (fun cdv A outer s H vs Q E hr h => ?_)
  · obtain ⟨v, t, q, rfl, _⟩ := h
    rfl
  obtain ⟨v, t, q, rfl, hv, hq, hn, k⟩ := h
  refine ⟨_, pss_cons (ps_if (pt_val (pe_callB tw_isinst rfl T.isi tb_isinstance (pa_cons (pv 0) (pa_cons (pe_bltn (v := .ty "int") rfl T.int tb_int rfl) pa_nil)))) (pss_one (ps_ret (pe_tup (pa_cons pe_int (pa_cons (pv 0) pa_nil))))) pss_nil)
    (pss_cons (ps_if (pt_val (pe_callB tw_isinst rfl T.isi tb_isinstance (pa_cons (pv 0) (pa_cons (pe_bltn (v := .ty "str") rfl T.str tb_str rfl) pa_nil)))) (pss_one (ps_ret (pe_tup (pa_cons pe_int (pa_cons (pv 0) pa_nil))))) pss_nil)
    (pss_one (ps_ret (pe_tup (pa_cons pe_int (pa_cons (pe_callTy call_tuple_of rfl T.tuple tb_tuple (pa_cons (pe_comp [] [] rfl (pi_tup (pv 0)) (fun _ _ _ _ _ => pts_nil) (fun _ _ _ _ _ => pe_def DS hr (pa_cons (pv 0) pa_nil)) trivial) pa_nil)) pa_nil)))))), ?_⟩
  cases t with
  | int i =>
    have ev : v = .int i := by rw [KeyAt] at hv; exact hv
    subst ev
    refine ⟨_, rfl, _, _, _, _, rfl, hv.ty, kit_ii, _, rfl, iteT ?_⟩
    refine ⟨_, rfl, (by show 2 ≤ sizeLine; decide), fun p hp => ?_⟩
    refine k _ _ ?_ (same_new hp _)
    rw [KT.st]
    exact .tup upd_same (.cons (.int 0) (.cons (.int i) .nil))
  | str x =>
    have ev : v = .str x := by rw [KeyAt] at hv; exact hv
    subst ev
    refine ⟨_, rfl, _, _, _, _, rfl, hv.ty, kit_si, _, rfl, iteF ?_⟩
    refine ⟨_, rfl, _, _, _, _, rfl, hv.ty, kit_ss, _, rfl, iteT ?_⟩
    refine ⟨_, rfl, (by show 2 ≤ sizeLine; decide), fun p hp => ?_⟩
    refine k _ _ ?_ (same_new hp _)
    rw [KT.st]
    exact .tup upd_same (.cons (.int 1) (.cons (.str x) .nil))
  | tup l =>
    have hv' := hv
    rw [KeyAt] at hv'
    obtain ⟨a, vs, rfl, ea, hvs⟩ := hv'
    have hl := hvs.length
    rw [KT.fits, Bool.and_eq_true, Bool.and_eq_true] at hq
    obtain ⟨hq0, hq1, hq2⟩ := hq
    have hl4 : l.length ≤ 4 := of_decide_eq_true hq1
    rw [KT.depth] at hn
    refine ⟨_, rfl, _, _, _, _, rfl, hv.ty, kit_ti, _, rfl, iteF ?_⟩
    refine ⟨_, rfl, _, _, _, _, rfl, hv.ty, kit_ts, _, rfl, iteF ?_⟩
    refine ⟨_, rfl, a, rfl, ⟨vs, SqT.of ea⟩, ?_⟩
    refine comp_map (n := vs.length) (fun i z => vs[i]? = some z) (fun D i ys H3 => Same H H3 ∧ H D = none ∧ KeysAt H3 ((l.take i).map KT.st) ys) (small1000 (by omega))
      (fun D i ys H3 hi hP => ⟨vs, vs[i], SqT.of (hP.1 _ _ ea), by simp [hi]⟩) (fun D i ys H3 z H4 hi hP hy => ⟨hy.1, hy.2 vs (SqT.of (hP.1 _ _ ea))⟩) (fun D ys H3 hP => ⟨vs, SqT.of (hP.1 _ _ ea), Nat.le_refl _⟩)
      (fun D hD => ⟨same_new hD _, hD, .nil⟩) (fun D i ys H3 z eD hl' hi hz hP R hR => ?_) (fun D ys H3 eD hP => ?_)
    · obtain ⟨s3, nD, hys⟩ := hP
      obtain ⟨t, et, kt⟩ := hvs.get hz
      have mt := List.mem_of_getElem? et
      have htq : t.fits (q - 1) = true := by
        rw [fitsL_all] at hq2
        exact List.all_eq_true.mp hq2 t mt
      have hdt := depth_in mt
      refine ⟨_, rfl, z, t, q - 1, rfl, kt.mono (Same.tups s3) _ _, htq, by omega, fun v' H4 k4 s4 => ?_⟩
      have eD4 := s4 D _ eD
      have tD : Tups H4 (upd H4 D (.lst (ys ++ [v']))) := (SameX.refl D H4).upd.tups eD4
      refine hR v' H4 eD4 ⟨fun b o e => by rw [upd_ne (ne_of_none e nD)]; exact s4 b o (s3 b o e), nD, ?_⟩
      rw [List.take_add_one, et, List.map_append]
      exact ((hys.mono (Same.tups s4) _ _).append (.cons k4 .nil)).mono tD _ _
    · obtain ⟨s3, nD, hys⟩ := hP
      have et : l.take vs.length = l := List.take_of_length_le (by omega)
      rw [et] at hys
      have hyl := hys.length
      rw [List.length_map] at hyl
      refine ⟨D, ys, rfl, .inl ⟨SqL.of eD, fun p1 hp1 => ?_⟩⟩
      have g1 := same_new hp1 (.tup ys)
      refine ⟨(by show 2 ≤ sizeLine; decide), fun p2 hp2 => ?_⟩
      have g2 := same_new hp2 (.tup [.int 2, .ref p1])
      refine k _ _ ?_ ((s3.trans g1).trans g2)
      rw [KT.st, stL_map]
      exact .tup upd_same (.cons (.int 2) (.cons (.tup (g2 _ _ upd_same) (hys.mono (Same.tups (g1.trans g2)) _ _)) .nil))
theorem all_standing (T : Txt mg) (L : Laid K mg "standing" sStanding ["key"]) : ∀ n : Nat, DefOk P w K mg base (n + 1) "standing" ["key"] (spSt n)
  | 0 => L.of fun _ _ _ => st_none
  | n + 1 => L.of fun _ _ F => ok_standing F T (all_standing T L n)
end
end Tw
set_option Elab.async false
set_option linter.all false
set_option maxRecDepth 100000
set_option maxHeartbeats 8000000
namespace Tw
open PySem PySem.Spec L2
mutual
def KT.wide : KT → Nat → Bool
  | .int _, _ => true
  | .str _, _ => true
  | .tup l, r => decide (0 < r) && (decide (l.length ≤ 100) && wideL l (r - 1))
def wideL : List KT → Nat → Bool
  | [], _ => true
  | t :: l, r => t.wide r && wideL l r
end
theorem wideL_all : ∀ (l : List KT) (r : Nat), wideL l r = l.all (·.wide r)
  | [], r => by rw [wideL]; rfl
  | t :: l, r => by rw [wideL, wideL_all l r]; rfl
mutual
theorem wide_of : ∀ (t : KT) (r : Nat), t.fits r = true → t.wide r = true
  | .int _, _, _ => by rw [KT.wide]
  | .str _, _, _ => by rw [KT.wide]
  | .tup l, r, h => by
    rw [KT.fits, Bool.and_eq_true, Bool.and_eq_true] at h
    rw [KT.wide, Bool.and_eq_true, Bool.and_eq_true]
    have := of_decide_eq_true h.2.1
    exact ⟨h.1, decide_eq_true (by omega), wideL_of l (r - 1) h.2.2⟩
theorem wideL_of : ∀ (l : List KT) (r : Nat), fitsL l r = true → wideL l r = true
  | [], _, _ => by rw [wideL]
  | t :: l, r, h => by
    rw [fitsL, Bool.and_eq_true] at h
    rw [wideL, Bool.and_eq_true]
    exact ⟨wide_of t r h.1, wideL_of l r h.2⟩
end
section
variable {P : Program} {w : World} {K : PySem.W.Frag} {mg : Str → Option Value} {base : Heap} {f : Addr} {fd : FuncData}
theorem sp_noneS {sp : Sp} {k : Nat} {ps : List Str} (no : ∀ vs H Q E, ¬ sp vs H Q E) : FnOk P w K mg base CX0 k f fd ps sp :=
  ⟨fun vs H Q E h => absurd h (no vs H Q E), fun A outer s H args us vs Q E _ _ _ _ h => absurd h (no vs H Q E)⟩
theorem scAlike : FnScope ["_law_found", "_law_due_here"] ["_law_found", "_law_due_here"] (defScope sAlike) := ⟨rfl, rfl, rfl, by decide +kernel, rfl, by decide +kernel, by decide +kernel⟩
end
end Tw
set_option Elab.async false
set_option linter.all false
set_option maxRecDepth 100000
set_option maxHeartbeats 8000000
namespace Tw
open PySem PySem.Spec L2
/-! ### the law's own order -/
mutual
def KT.rk : KT → KT
  | .int i => .tup [.int 0, .int i, .str "", .tup []]
  | .str x => .tup [.int 1, .int 0, .str x, .tup []]
  | .tup l => .tup [.int 2, .int 0, .str "", .tup (rkL l)]
def rkL : List KT → List KT
  | [] => []
  | t :: l => t.rk :: rkL l
end
theorem rkL_map : ∀ l : List KT, rkL l = l.map KT.rk
  | [] => by rw [rkL]; rfl
  | t :: l => by rw [rkL, rkL_map l]; rfl
mutual
theorem eqb_rk : ∀ a b : KT, a.rk.eqb b.rk = a.eqb b
  | .int i, .int j => by simp [KT.rk, KT.eqb, eqbL]
  | .str x, .str y => by simp [KT.rk, KT.eqb, eqbL]
  | .tup l, .tup m => by simp [KT.rk, KT.eqb, eqbL, eqbL_rk l m]
  | .int _, .str _ => by simp [KT.rk, KT.eqb, eqbL]
  | .int _, .tup _ => by simp [KT.rk, KT.eqb, eqbL]
  | .str _, .int _ => by simp [KT.rk, KT.eqb, eqbL]
  | .str _, .tup _ => by simp [KT.rk, KT.eqb, eqbL]
  | .tup _, .int _ => by simp [KT.rk, KT.eqb, eqbL]
  | .tup _, .str _ => by simp [KT.rk, KT.eqb, eqbL]
theorem eqbL_rk : ∀ l m : List KT, eqbL (rkL l) (rkL m) = eqbL l m
  | [], [] => by simp [rkL, eqbL]
  | a :: l, b :: m => by simp [rkL, eqbL, eqb_rk a b, eqbL_rk l m]
  | [], _ :: _ => by simp [rkL, eqbL]
  | _ :: _, [] => by simp [rkL, eqbL]
end
mutual
theorem cmp_rk : ∀ a b : KT, a.rk.cmp b.rk = true
  | .int i, .int j => by simp [KT.rk, KT.eqb, KT.cmp, cmpL, eqbL]
  | .str x, .str y => by simp [KT.rk, KT.eqb, KT.cmp, cmpL, eqbL]
  | .tup l, .tup m => by simp [KT.rk, KT.eqb, KT.cmp, cmpL, cmpL_rk l m]
  | .int _, .str _ => by simp [KT.rk, KT.eqb, KT.cmp, cmpL]
  | .int _, .tup _ => by simp [KT.rk, KT.eqb, KT.cmp, cmpL]
  | .str _, .int _ => by simp [KT.rk, KT.eqb, KT.cmp, cmpL]
  | .str _, .tup _ => by simp [KT.rk, KT.eqb, KT.cmp, cmpL]
  | .tup _, .int _ => by simp [KT.rk, KT.eqb, KT.cmp, cmpL]
  | .tup _, .str _ => by simp [KT.rk, KT.eqb, KT.cmp, cmpL]
theorem cmpL_rk : ∀ l m : List KT, cmpL (rkL l) (rkL m) = true
  | [], _ => by simp [rkL, cmpL]
  | _ :: _, [] => by simp [rkL, cmpL]
  | a :: l, b :: m => by
    rw [rkL, rkL, cmpL, cmpL_rk l m, cmp_rk a b]
    split <;> rfl
end
mutual
theorem plt_rk : ∀ a b : KT, a.rk.plt b.rk = a.lt b
  | .int i, .int j => by
    simp only [KT.rk, KT.eqb, KT.plt, pltL, eqbL, KT.lt, beq_self_eq_true, if_true]
    by_cases h : i = j
    · subst h; simp
    · simp [h]
  | .str x, .str y => by
    simp only [KT.rk, KT.eqb, KT.plt, pltL, eqbL, KT.lt, beq_self_eq_true, if_true]
    by_cases h : x = y
    · subst h; simp
    · simp [h]
  | .tup l, .tup m => by
    simp only [KT.rk, KT.eqb, KT.plt, pltL, KT.lt, beq_self_eq_true, if_true, eqbL_rk, pltL_rk l m]
    cases h : eqbL l m with
    | true => rw [if_pos rfl, ltL_eqb h]
    | false => rw [if_neg Bool.false_ne_true]
  | .int _, .str _ => by simp [KT.rk, KT.eqb, KT.plt, pltL, KT.lt]
  | .int _, .tup _ => by simp [KT.rk, KT.eqb, KT.plt, pltL, KT.lt]
  | .str _, .int _ => by simp [KT.rk, KT.eqb, KT.plt, pltL, KT.lt]
  | .str _, .tup _ => by simp [KT.rk, KT.eqb, KT.plt, pltL, KT.lt]
  | .tup _, .int _ => by simp [KT.rk, KT.eqb, KT.plt, pltL, KT.lt]
  | .tup _, .str _ => by simp [KT.rk, KT.eqb, KT.plt, pltL, KT.lt]
theorem pltL_rk : ∀ l m : List KT, pltL (rkL l) (rkL m) = ltL l m
  | [], [] => by simp [rkL, pltL, ltL]
  | [], _ :: _ => by simp [rkL, pltL, ltL]
  | _ :: _, [] => by simp [rkL, pltL, ltL]
  | a :: l, b :: m => by rw [rkL, rkL, pltL, ltL, eqb_rk a b, pltL_rk l m, plt_rk a b]
end
mutual
theorem depth_rk : ∀ t : KT, t.rk.depth ≤ 2 * t.depth + 2
  | .int i => by simp [KT.rk, KT.depth, depthL]
  | .str x => by simp [KT.rk, KT.depth, depthL]
  | .tup l => by
    have := depthL_rk l
    simp only [KT.rk, KT.depth, depthL]
    omega
theorem depthL_rk : ∀ l : List KT, depthL (rkL l) ≤ 2 * depthL l + 2
  | [] => by simp [rkL, depthL]
  | t :: l => by
    have a := depth_rk t
    have b := depthL_rk l
    rw [rkL, depthL, depthL]
    omega
end
section
variable {P : Program} {w : World} {K : PySem.W.Frag} {mg : Str → Option Value} {base : Heap} {f : Addr} {fd : FuncData}
/-! ### _law_rank -/
def spRank (n : Nat) : Sp := fun vs H Q _ => ∃ (v : V) (t : KT) (q : Nat), vs = [v] ∧ KeyAt H t v ∧ t.fits q = true ∧ t.depth < n ∧ ∀ (v' : V) (H' : Hp), KeyAt H' t.rk v' → Same H H' → Q v' H'
theorem scRank : FnScope ["_law_spot"] ["_law_spot"] (defScope sRank) := ⟨rfl, rfl, rfl, by decide +kernel, rfl, by decide +kernel, by decide +kernel⟩
theorem ok_rank {n : Nat} (F : Fun K "_law_rank" "_law_rank" sRank f fd) (T : Txt mg) (DS : DefOk P w K mg base (n + 1) "_law_rank" ["_law_spot"] (spRank n)) : FnOk P w K mg base CX0 (n + 2) f fd ["_law_spot"] (spRank (n + 1)) := by
  refine F.ok scRank (fun vs H Q E h => (by obtain ⟨_, _, _, rfl, _⟩ := h; rfl)) (fun cdv A outer s H vs Q E hr h => ?_)
  obtain ⟨v, t, q, rfl, hv, hq, hn, k⟩ := h
  refine ⟨_, pss_cons (ps_if (pt_val (pe_callB tw_isinst rfl T.isi tb_isinstance (pa_c (pv 0) (pa_c (pe_bltn (v := .ty "int") rfl T.int tb_int rfl) pa_nil)))) (pss_one (ps_ret (pe_tup (pa4 pe_int (pv 0) pe_str (pe_tup pa_nil))))) pss_nil)
    (pss_cons (ps_if (pt_val (pe_callB tw_isinst rfl T.isi tb_isinstance (pa_c (pv 0) (pa_c (pe_bltn (v := .ty "str") rfl T.str tb_str rfl) pa_nil)))) (pss_one (ps_ret (pe_tup (pa4 pe_int pe_int (pv 0) (pe_tup pa_nil))))) pss_nil)
    (pss_one (ps_ret (pe_tup (pa4 pe_int pe_int pe_str (pe_callTy call_tuple_of rfl T.tuple tb_tuple (pa_c (pe_comp [] [] rfl (pi_tup (pv 0)) (fun _ _ _ _ _ => pts_nil) (fun _ _ _ _ _ => pe_def DS hr (pa_c (pv 0) pa_nil)) trivial) pa_nil))))))), ?_⟩
  cases t with
  | int i =>
    have ev : v = .int i := by rw [KeyAt] at hv; exact hv
    subst ev
    refine ⟨_, rfl, _, _, _, _, rfl, hv.ty, kit_ii, _, rfl, iteT ?_⟩
    refine ⟨_, rfl, (by show 0 ≤ sizeLine; decide), fun p0 h0 => ⟨(by show 4 ≤ sizeLine; decide), fun p hp => ?_⟩⟩
    have g0 := same_new h0 (.tup [])
    have g1 := same_new hp (.tup [.int 0, .int i, .str "", .ref p0])
    refine k _ _ ?_ (g0.trans g1)
    rw [KT.rk]
    exact .tup upd_same (.cons (.int 0) (.cons (.int i) (.cons (.str _) (.cons (.tup (g1 _ _ upd_same) .nil) .nil))))
  | str x =>
    have ev : v = .str x := by rw [KeyAt] at hv; exact hv
    subst ev
    refine ⟨_, rfl, _, _, _, _, rfl, hv.ty, kit_si, _, rfl, iteF ?_⟩
    refine ⟨_, rfl, _, _, _, _, rfl, hv.ty, kit_ss, _, rfl, iteT ?_⟩
    refine ⟨_, rfl, (by show 0 ≤ sizeLine; decide), fun p0 h0 => ⟨(by show 4 ≤ sizeLine; decide), fun p hp => ?_⟩⟩
    have g0 := same_new h0 (.tup [])
    have g1 := same_new hp (.tup [.int 1, .int 0, .str x, .ref p0])
    refine k _ _ ?_ (g0.trans g1)
    rw [KT.rk]
    exact .tup upd_same (.cons (.int 1) (.cons (.int 0) (.cons (.str x) (.cons (.tup (g1 _ _ upd_same) .nil) .nil))))
  | tup l =>
    have hv' := hv
    rw [KeyAt] at hv'
    obtain ⟨a, vs, rfl, ea, hvs⟩ := hv'
    have hl := hvs.length
    rw [KT.fits, Bool.and_eq_true, Bool.and_eq_true] at hq
    obtain ⟨hq0, hq1, hq2⟩ := hq
    have hl4 : l.length ≤ 4 := of_decide_eq_true hq1
    rw [KT.depth] at hn
    refine ⟨_, rfl, _, _, _, _, rfl, hv.ty, kit_ti, _, rfl, iteF ?_⟩
    refine ⟨_, rfl, _, _, _, _, rfl, hv.ty, kit_ts, _, rfl, iteF ?_⟩
    refine ⟨_, rfl, a, rfl, ⟨vs, SqT.of ea⟩, ?_⟩
    refine comp_map (n := vs.length) (fun i z => vs[i]? = some z) (fun D i ys H3 => Same H H3 ∧ H D = none ∧ KeysAt H3 ((l.take i).map KT.rk) ys) (small1000 (by omega))
      (fun D i ys H3 hi hP => ⟨vs, vs[i], SqT.of (hP.1 _ _ ea), by simp [hi]⟩) (fun D i ys H3 z H4 hi hP hy => ⟨hy.1, hy.2 vs (SqT.of (hP.1 _ _ ea))⟩) (fun D ys H3 hP => ⟨vs, SqT.of (hP.1 _ _ ea), Nat.le_refl _⟩)
      (fun D hD => ⟨same_new hD _, hD, .nil⟩) (fun D i ys H3 z eD hl' hi hz hP R hR => ?_) (fun D ys H3 eD hP => ?_)
    · obtain ⟨s3, nD, hys⟩ := hP
      obtain ⟨t, et, kt⟩ := hvs.get hz
      have mt := List.mem_of_getElem? et
      have htq : t.fits (q - 1) = true := by
        rw [fitsL_all] at hq2
        exact List.all_eq_true.mp hq2 t mt
      have hdt := depth_in mt
      refine ⟨_, rfl, z, t, q - 1, rfl, kt.mono (Same.tups s3) _ _, htq, by omega, fun v' H4 k4 s4 => ?_⟩
      have eD4 := s4 D _ eD
      have tD : Tups H4 (upd H4 D (.lst (ys ++ [v']))) := (SameX.refl D H4).upd.tups eD4
      refine hR v' H4 eD4 ⟨fun b o e => by rw [upd_ne (ne_of_none e nD)]; exact s4 b o (s3 b o e), nD, ?_⟩
      rw [List.take_add_one, et, List.map_append]
      exact ((hys.mono (Same.tups s4) _ _).append (.cons k4 .nil)).mono tD _ _
    · obtain ⟨s3, nD, hys⟩ := hP
      have et : l.take vs.length = l := List.take_of_length_le (by omega)
      rw [et] at hys
      have hyl := hys.length
      rw [List.length_map] at hyl
      refine ⟨D, ys, rfl, .inl ⟨SqL.of eD, fun p1 hp1 => ?_⟩⟩
      have g1 := same_new hp1 (.tup ys)
      refine ⟨(by show 4 ≤ sizeLine; decide), fun p2 hp2 => ?_⟩
      have g2 := same_new hp2 (.tup [.int 2, .int 0, .str "", .ref p1])
      refine k _ _ ?_ ((s3.trans g1).trans g2)
      rw [KT.rk, rkL_map]
      exact .tup upd_same (.cons (.int 2) (.cons (.int 0) (.cons (.str _) (.cons (.tup (g2 _ _ upd_same) (hys.mono (Same.tups (g1.trans g2)) _ _)) .nil))))
theorem all_rank (T : Txt mg) (L : Laid K mg "_law_rank" sRank ["_law_spot"]) : ∀ n : Nat, DefOk P w K mg base (n + 1) "_law_rank" ["_law_spot"] (spRank n)
  | 0 => L.of fun _ _ _ => sp_noneS fun vs H Q E h => by obtain ⟨v, t, q, _, _, _, h1, _⟩ := h; omega
  | n + 1 => L.of fun _ _ F => ok_rank F T (all_rank T L n)
/-! ### _law_less -/
end
end Tw
set_option Elab.async false
set_option linter.all false
set_option maxRecDepth 100000
set_option maxHeartbeats 8000000
namespace Tw
open PySem PySem.Spec L2 PyProof.Rows
theorem kg_rk : Kg KT.rk := ⟨plt_rk, cmp_rk, 3, fun t => by cases t <;> (rw [KT.rk]; exact ⟨_, _, rfl, rfl⟩)⟩
/-! ### the law's keys: drawn, put into a dict, sorted -/
/-- keys that rise -/
def RisK (ts : List KT) : Prop := ts.Pairwise fun a b => a.lt b = true
theorem ris_of {rs : List KT} (nd : rs.Nodup) (h : rs.Pairwise fun a b => b.lt a = false) : RisK rs := by
  induction rs with
  | nil => exact .nil
  | cons a rs ih =>
    rw [List.nodup_cons] at nd
    rw [List.pairwise_cons] at h
    refine List.pairwise_cons.mpr ⟨fun b hb => ?_, ih nd.2 h.2⟩
    cases q : a.lt b with
    | true => rfl
    | false =>
      have e := lt_total a b q (h.1 b hb)
      exact absurd (e ▸ hb) nd.1
theorem hu4 {k : Nat} {A : Around} (r : Room k A) : A.units + 4 < cLine := by have := r.un; omega
theorem sx_free {p D : Addr} {H H' : Hp} (s : SameX p H H') (w : WellAt H' p) (n : H' D = none) : H D = none := by
  cases e : H D with
  | none => rfl
  | some o =>
    by_cases h : D = p
    · subst h
      obtain ⟨xs, e'⟩ := w.some
      rw [n] at e'
      cases e'
    · rw [s D o e h] at n
      cases n
section
variable {P : Program} {w : World} {K : PySem.W.Frag} {mg : Str → Option Value} {base : Heap} {f : Addr} {fd : FuncData}
def spKeys : Sp := fun vs H Q _ => ∃ (p : Addr) (n : Nat), vs = [.ref p, .int (n : Int)] ∧ WellAt H p ∧ n < 64 ∧ ∀ (D : Addr) (ws : List V) (ts : List KT) (H' : Hp), H D = none → H' D = some (.lst ws) → KeysAt H' ts ws → (∀ t ∈ ts, t.fits 3 = true) → RisK ts → ts.length ≤ n → WellAt H' p → SameX p H H' → Q (.ref D) H'
theorem scKeys : FnScope ["_law_well_here", "_law_many", "_law_found", "_law_j"] ["_law_well_here", "_law_many"] (defScope sKeys) := ⟨rfl, rfl, rfl, by decide +kernel, rfl, by decide +kernel, by decide +kernel⟩
theorem ok_keys (F : Fun K "_law_keys" "_law_keys" sKeys f fd) (T : Txt mg) (DK : DefOk P w K mg base 6 "_law_key" ["_law_well_here", "_law_room"] (spKey 4)) (DR : DefOk P w K mg base 6 "_law_rank" ["_law_spot"] (spRank 5)) :
    FnOk P w K mg base CX0 9 f fd ["_law_well_here", "_law_many"] spKeys := by
  refine F.ok scKeys (fun vs H Q E h => (by obtain ⟨_, _, rfl, _⟩ := h; rfl)) (fun cdv A outer s H vs Q E hr h => ?_)
  obtain ⟨p, n, rfl, hw, hn, k⟩ := h
  have nd := scKeys.nd
  have hr6 := hr.mono (show 6 ≤ 8 by omega)
  have DS : DefOk P w K mg base 6 "_law_rank" ["_law_spot"] (spKg KT.rk) := by
    obtain ⟨g, gd, FG, b, kp, m⟩ := DR.ex
    exact ⟨g, gd, FG.imp fun vs H Q E h => by
      obtain ⟨v, t, e, a, c, d⟩ := h
      have := fits_depth t 3 c
      exact ⟨v, t, 3, e, a, c, by omega, d⟩, b, kp, m⟩
  refine ⟨_, pss_cons (ps_set (i := 2) nd rfl (Or.inl rfl) pe_qnew)
    (pss_cons (ps_for PassesOwn.never rfl (pi_range1 rfl T.range (pa_c (pv 1) pa_nil)) (pg_name (i := 3) nd rfl (Or.inl rfl))
      (pss_one (ps_qput (hu4 hr) (pv 2) (pe_def DK hr6 (pa_c (pv 0) (pa_c pe_int pa_nil))) pe_bl rfl)))
    (pss_one (ps_ret (pe_sortQ kg_rk depth_rk DS hr rfl T.sorted rfl (pa_c (pv 2) pa_nil))))), ?_⟩
  intro fa H1 nfa _ s1 dk1
  obtain ⟨xsw, hxw⟩ := hw.some
  have hpf : p ≠ fa := ne_of_none hxw nfa
  refine ⟨_, rfl, (n : Int), rfl, by omega, by omega, for_range (n := (n : Int).toNat) (fun i σ H' => ∃ (xs : List (KT × V × V)) (o : Option V), σ = [some (.ref p), some (.int (n : Int)), some (.ref fa), o] ∧ DkAt w H' fa xs ∧ xs.length ≤ i ∧ (∀ x ∈ xs, x.1.fits 3 = true) ∧ WellAt H' p ∧ SameX p H H')
    ⟨[], none, rfl, dk1, Nat.le_refl _, fun x hx => by simp at hx, hw.same s1, SameX.of s1⟩ (fun i σ H' hi hP => ?_) (fun σ H' hP => ?_)⟩
  · obtain ⟨xs, o, rfl, dk, lx, fx, hw', sx⟩ := hP
    refine ⟨_, rfl, _, rfl, p, 3, rfl, hw', by omega, fun v t H3 kv ft hw3 sx3 => ?_⟩
    have tu := sx3.tupsW hw'
    refine ⟨fa, xs, t, rfl, dk.but sx3 tu (Ne.symm hpf), by omega, kv, fits_depth t 3 ft, fun H4 sx4 dk4 => ⟨_, _, rfl, dk4, by have := putQ_len xs t v (.bl true); omega, fun x hx => ?_, hw3.stay sx4 hpf, fun b ob e nb => ?_⟩⟩
    · have : x.1 ∈ (putQ xs t v (.bl true)).map (·.1) := List.mem_map_of_mem hx
      rw [putQ_keys] at this
      split at this
      · obtain ⟨z, hz, e⟩ := List.mem_map.mp this
        rw [← e]
        exact fx z hz
      · rcases List.mem_append.mp this with q | q
        · obtain ⟨z, hz, e⟩ := List.mem_map.mp q
          rw [← e]
          exact fx z hz
        · rw [List.mem_singleton.mp q]
          exact ft
    · exact sx4 b ob (sx3 b ob (sx b ob e nb) nb) (ne_of_none e nfa)
  · obtain ⟨xs, o, rfl, dk, lx, fx, hw', sx⟩ := hP
    refine ⟨_, rfl, fa, xs, rfl, dk, fx, by omega, fun D ws rs H5 s5 nD hD ka pm pw => ?_⟩
    have lr := pm.length_eq
    rw [List.length_map] at lr
    refine k D ws rs H5 (sx_free sx hw' nD) hD ka (fun t ht => ?_) (ris_of (pm.nodup_iff.mpr dk.nd) pw) (by omega) (hw'.same s5) (sx.trans (SameX.of s5))
    obtain ⟨z, hz, e⟩ := List.mem_map.mp (pm.mem_iff.mp ht)
    rw [← e]
    exact fx z hz
end
end Tw
set_option Elab.async false
set_option linter.all false
set_option maxRecDepth 100000
set_option maxHeartbeats 4000000
namespace Tw
open PySem PySem.Spec L2 PyProof.Rows
/-! ### >= of keys -/
section
open PySem.SeqAt
open PySem.AutoSeq1 (wpAny_loadPart')
open PySem.MeetsSeq PySem.MeetsSeq2 PySem.MeetsSeq3
end
section
variable {X : Cx}
end
end Tw
set_option Elab.async false
set_option linter.all false
set_option maxRecDepth 100000
set_option maxHeartbeats 8000000
namespace Tw
open PySem PySem.Spec L2 PyProof.Rows
/-- alike of any two keys -/
def spAlikeG (n : Nat) : Sp := fun vs H Q _ => ∃ (v u : V) (t m : KT) (r : Nat), vs = [v, u] ∧ KeyAt H t v ∧ KeyAt H m u ∧ m.wide r = true ∧ r < n ∧ ∀ H', Same H H' → Q (.bl (t.eqb m)) H'
theorem eqb_len {l m : List KT} (h : l.length ≠ m.length) : eqbL l m = false := by
  rw [← eqbL_range, show (l.length == m.length) = false by simp [h], Bool.and_false]
theorem eqb_all {l m : List KT} (h : l.length = m.length) : ((List.range m.length).map fun j => (l.getD j (.int 0)).eqb (m.getD j (.int 0))).all id = eqbL l m := by
  rw [← eqbL_range, h, Nat.min_self, List.all_map]
  simp
section
variable {P : Program} {w : World} {K : PySem.W.Frag} {mg : Str → Option Value} {base : Heap} {f : Addr} {fd : FuncData}
theorem ok_alikeG {n : Nat} (F : Fun K "_law_alike" "_law_alike" sAlike f fd) (T : Txt mg) (DA : DefOk P w K mg base (n + 1) "_law_alike" ["_law_found", "_law_due_here"] (spAlikeG n)) :
    FnOk P w K mg base CX0 (n + 2) f fd ["_law_found", "_law_due_here"] (spAlikeG (n + 1)) := by
  refine F.ok scAlike (fun vs H Q E h => ?_) (fun cdv A outer s H vs Q E hr h => ?_)
  · obtain ⟨v, u, t, m, r, rfl, _⟩ := h
    rfl
  obtain ⟨v, u, t, m, r, rfl, hv, hu, hf, hn, k⟩ := h
  refine ⟨_, pss_cons (ps_if (pt_val (pe_callB tw_isinst rfl T.isi tb_isinstance (pa_cons (pv 1) (pa_cons (pe_bltn (v := .ty "tuple") rfl T.tuple tb_tuple rfl) pa_nil))))
      (pss_cons (ps_if (PW.pt (pw_or (pt_not (pt_val (pe_callB tw_isinst rfl T.isi tb_isinstance (pa_cons (pv 0) (pa_cons (pe_bltn (v := .ty "tuple") rfl T.tuple tb_tuple rfl) pa_nil)))))
        (pw_or1 (pt_cmpR op_ne (pe_callB call_len_seq rfl T.len tb_len (pa_cons (pv 0) pa_nil)) (pe_callB call_len_seq rfl T.len tb_len (pa_cons (pv 1) pa_nil)) (nomark _))))) (pss_one (ps_ret pe_bl)) pss_nil)
      (pss_one (ps_ret (pe_callB (tw_all rfl) rfl T.all tb_all (pa_cons (pe_comp [0, 1] ["_law_found", "_law_due_here"] rfl (pi_range1 rfl T.range (pa_cons (pe_callB call_len_seq rfl T.len tb_len (pa_cons (pv 1) pa_nil)) pa_nil)) (fun _ _ _ _ _ => pts_nil)
        (fun _ _ _ _ _ => pe_def DA hr (pa_cons (pe_ix (r := rIx K) ix_seq (pv 1) (pv 0) (fun _ _ => rfl)) (pa_cons (pe_ix (r := rIx K) ix_seq (pv 2) (pv 0) (fun _ _ => rfl)) pa_nil))) ⟨rfl, .inl rfl, rfl, rfl, .inl rfl, rfl, trivial⟩) pa_nil))))) pss_nil)
    (pss_cons (ps_if (pt_val (pe_callB tw_isinst rfl T.isi tb_isinstance (pa_cons (pv 1) (pa_cons (pe_bltn (v := .ty "str") rfl T.str tb_str rfl) pa_nil))))
      (pss_one (ps_ret (pe_and (pe_callB tw_isinst rfl T.isi tb_isinstance (pa_cons (pv 0) (pa_cons (pe_bltn (v := .ty "str") rfl T.str tb_str rfl) pa_nil))) (pe_one (pe_cmpR op_eq (pv 0) (pv 1) (nomark _)))))) pss_nil)
    (pss_one (ps_ret (pe_and (pe_callB tw_isinst rfl T.isi tb_isinstance (pa_cons (pv 0) (pa_cons (pe_bltn (v := .ty "int") rfl T.int tb_int rfl) pa_nil)))
      (pe_and (pe_not (pe_callB tw_isinst rfl T.isi tb_isinstance (pa_cons (pv 0) (pa_cons (pe_bltn (v := .ty "bool") rfl T.bool tb_bool rfl) pa_nil)))) (pe_one (pe_cmpR op_eq (pv 0) (pv 1) (nomark _)))))))), ?_⟩
  have kk := k H (Same.refl H)
  cases m with
  | int j =>
    have eu : u = .int j := by rw [KeyAt] at hu; exact hu
    subst eu
    refine ⟨_, rfl, _, _, _, _, rfl, .int j, kit_it, _, rfl, iteF ?_⟩
    refine ⟨_, rfl, _, _, _, _, rfl, .int j, kit_is', _, rfl, iteF ?_⟩
    cases t with
    | int i =>
      have ev : v = .int i := by rw [KeyAt] at hv; exact hv
      subst ev
      refine ⟨_, rfl, _, _, _, _, rfl, .int i, kit_ii, _, rfl, iteT ?_⟩
      refine ⟨_, rfl, _, _, _, _, rfl, .int i, kit_ib, _, rfl, _, rfl, iteT ?_⟩
      refine ⟨_, rfl, _, rfl, rfl, ?_⟩
      rw [KT.eqb] at kk
      have e : decide (V.int i = V.int j) = (i == j) := by
        by_cases z : i = j
        · subst z; simp
        · simp [z]
      rw [e]
      exact kk
    | str x =>
      rw [show (KT.str x).eqb (.int j) = false by simp [KT.eqb]] at kk
      exact ⟨_, rfl, _, _, _, _, rfl, hv.ty, kit_si, _, rfl, iteF kk⟩
    | tup l =>
      rw [show (KT.tup l).eqb (.int j) = false by simp [KT.eqb]] at kk
      exact ⟨_, rfl, _, _, _, _, rfl, hv.ty, kit_ti, _, rfl, iteF kk⟩
  | str y =>
    have eu : u = .str y := by rw [KeyAt] at hu; exact hu
    subst eu
    refine ⟨_, rfl, _, _, _, _, rfl, .str y, kit_st, _, rfl, iteF ?_⟩
    refine ⟨_, rfl, _, _, _, _, rfl, .str y, kit_ss, _, rfl, iteT ?_⟩
    cases t with
    | int i =>
      rw [show (KT.int i).eqb (.str y) = false by simp [KT.eqb]] at kk
      exact ⟨_, rfl, _, _, _, _, rfl, hv.ty, kit_is', _, rfl, iteF kk⟩
    | str x =>
      have ev : v = .str x := by rw [KeyAt] at hv; exact hv
      subst ev
      refine ⟨_, rfl, _, _, _, _, rfl, .str x, kit_ss, _, rfl, iteT ?_⟩
      refine ⟨_, rfl, _, rfl, rfl, ?_⟩
      rw [KT.eqb] at kk
      have e : decide (V.str x = V.str y) = (x == y) := by
        by_cases z : x = y
        · subst z; simp
        · simp [z]
      rw [e]
      exact kk
    | tup l =>
      rw [show (KT.tup l).eqb (.str y) = false by simp [KT.eqb]] at kk
      exact ⟨_, rfl, _, _, _, _, rfl, hv.ty, kit_ts, _, rfl, iteF kk⟩
  | tup m =>
    have tu := hu.ty (K := K)
    rw [KeyAt] at hu
    obtain ⟨b, us, rfl, eb, hus⟩ := hu
    have hl2 := hus.length
    rw [KT.wide, Bool.and_eq_true, Bool.and_eq_true] at hf
    obtain ⟨f0, f1, f2⟩ := hf
    have r0 := of_decide_eq_true f0
    have l4 := of_decide_eq_true f1
    refine ⟨_, rfl, _, _, _, _, rfl, tu, kit_tt, _, rfl, iteT ?_⟩
    cases t with
    | int i =>
      rw [show (KT.int i).eqb (.tup m) = false by simp [KT.eqb]] at kk
      exact ⟨_, rfl, _, _, _, _, rfl, hv.ty, kit_it, _, rfl, iteT (iteT kk)⟩
    | str x =>
      rw [show (KT.str x).eqb (.tup m) = false by simp [KT.eqb]] at kk
      exact ⟨_, rfl, _, _, _, _, rfl, hv.ty, kit_st, _, rfl, iteT (iteT kk)⟩
    | tup l =>
    have tv := hv.ty (K := K)
    rw [KeyAt] at hv
    obtain ⟨a, vs, rfl, ea, hvs⟩ := hv
    have hl := hvs.length
    rw [KT.eqb] at k kk
    refine ⟨_, rfl, _, _, _, _, rfl, tv, kit_tt, _, rfl, iteF ?_⟩
    refine ⟨_, rfl, a, vs, rfl, .inr (SqT.of ea), _, rfl, b, us, rfl, .inr (SqT.of eb), rfl, _, rfl, ?_⟩
    by_cases luv : vs.length = us.length
    · refine iteNS (by rw [luv]) ?_
      refine ⟨_, rfl, b, us, rfl, .inr (SqT.of eb), _, rfl, by omega, by omega, ?_⟩
      rw [Int.toNat_natCast]
      refine comp_map (n := us.length) (fun i x => x = .int (0 + (i : Int))) (fun D i ys H3 => Same H H3 ∧ H D = none ∧ ys = ((List.range i).map fun j => (l.getD j (.int 0)).eqb (m.getD j (.int 0))).map V.bl) (small1000 (by omega))
        (fun D i ys H3 hi _ => hi) (fun D i ys H3 x H4 hi _ hy => hy) (fun D ys H3 _ => Nat.le_refl _) (fun D hD => ⟨same_new hD _, hD, rfl⟩) (fun D i ys H3 x eD hl' hi hx hP R hR => ?_) (fun D ys H3 eD hP => ?_)
      · subst hx
        obtain ⟨s3, nD, rfl⟩ := hP
        have hi' : i < vs.length := by omega
        have hiv : vs[i]? = some vs[i] := by simp [hi']
        have hiu : us[i]? = some us[i] := by simp [hi]
        obtain ⟨t, et, kt⟩ := hvs.get hiv
        obtain ⟨t', et', kt'⟩ := hus.get hiu
        have ft : t'.wide (r - 1) = true := by rw [wideL_all] at f2; exact List.all_eq_true.mp f2 t' (List.mem_of_getElem? et')
        have av : atI vs (0 + (i : Int)) = some vs[i] := by rw [Int.zero_add]; exact atI_nat hiv
        have au : atI us (0 + (i : Int)) = some us[i] := by rw [Int.zero_add]; exact atI_nat hiu
        refine ⟨_, rfl, _, rfl, .inr (.inl ⟨a, vs, _, _, rfl, rfl, SqT.of (s3 _ _ ea), av, _, rfl, _, rfl, .inr (.inl ⟨b, us, _, _, rfl, rfl, SqT.of (s3 _ _ eb), au, vs[i], us[i], t, t', r - 1, rfl, kt.mono (Same.tups s3) _ _, kt'.mono (Same.tups s3) _ _, ft, by omega, fun H4 s4 => ?_⟩)⟩)⟩
        refine hR _ H4 (s4 D _ eD) ⟨fun b o e => by rw [upd_ne (ne_of_none e nD)]; exact s4 b o (s3 b o e), nD, ?_⟩
        rw [List.range_succ, List.map_append, List.map_append]
        congr 1
        show [V.bl (t.eqb t')] = [V.bl ((l.getD i (.int 0)).eqb (m.getD i (.int 0)))]
        rw [List.getD_eq_getElem?_getD, List.getD_eq_getElem?_getD, et, et']
        rfl
      · obtain ⟨s3, nD, rfl⟩ := hP
        refine ⟨D, _, rfl, SqL.of eD, ?_⟩
        rw [← hl2, eqb_all (by omega)]
        exact k H3 s3
    · rw [eqb_len (by omega)] at kk
      rw [decide_eq_false (fun z => luv (by have := vint_inj z; omega))]
      exact iteT kk
theorem all_alikeG (T : Txt mg) (L : Laid K mg "_law_alike" sAlike ["_law_found", "_law_due_here"]) : ∀ n : Nat, DefOk P w K mg base (n + 1) "_law_alike" ["_law_found", "_law_due_here"] (spAlikeG n)
  | 0 => L.of fun _ _ _ => sp_noneS fun vs H Q E h => by obtain ⟨v, u, t, m, r, _, _, _, _, h1, _⟩ := h; omega
  | n + 1 => L.of fun _ _ F => ok_alikeG F T (all_alikeG T L n)
/-! ### _law_rows_alike -/
def spRAlike : Sp := fun vs H Q _ => ∃ (a b : Addr) (xs ys : List V) (ts us : List KT), vs = [.ref a, .ref b] ∧ H a = some (.lst xs) ∧ H b = some (.lst ys) ∧ KeysAt H ts xs ∧ KeysAt H us ys ∧ (∀ t ∈ us, t.fits 3 = true) ∧ us.length ≤ 100 ∧ ∀ H', Same H H' → Q (.bl (eqbL ts us)) H'
theorem scRAlike : FnScope ["_law_found", "_law_due_here"] ["_law_found", "_law_due_here"] (defScope sRowsAlike) := ⟨rfl, rfl, rfl, by decide +kernel, rfl, by decide +kernel, by decide +kernel⟩
theorem ok_ralike (F : Fun K "_law_rows_alike" "_law_rows_alike" sRowsAlike f fd) (T : Txt mg) (DA : DefOk P w K mg base 6 "_law_alike" ["_law_found", "_law_due_here"] (spAlikeG 5)) : FnOk P w K mg base CX0 7 f fd ["_law_found", "_law_due_here"] spRAlike := by
  refine F.ok scRAlike (fun vs H Q E h => (by obtain ⟨_, _, _, _, _, _, rfl, _⟩ := h; rfl)) (fun cdv A outer s H vs Q E hr h => ?_)
  obtain ⟨a, b, xs, ys, ts, us, rfl, ha, hb, kx, ky, hf, h100, k⟩ := h
  refine ⟨_, pss_one (ps_ret (pe_and (pe_callB tw_isinst rfl T.isi tb_isinstance (pa_c (pv 0) (pa_c (pe_bltn (v := .ty "list") rfl T.list tb_list rfl) pa_nil)))
    (pe_one (pe_def DA hr (pa_c (pe_callTy call_tuple_of rfl T.tuple tb_tuple (pa_c (pv 0) pa_nil)) (pa_c (pe_callTy call_tuple_of rfl T.tuple tb_tuple (pa_c (pv 1) pa_nil)) pa_nil)))))), ?_⟩
  refine ⟨_, rfl, _, _, _, _, rfl, .lst ha, (by kernel_rfl), _, rfl, iteT ?_⟩
  refine ⟨_, rfl, a, xs, rfl, .inl ⟨SqL.of ha, fun p1 hp1 => ?_⟩⟩
  have g1 := same_new hp1 (.tup xs)
  refine ⟨_, rfl, b, ys, rfl, .inl ⟨SqL.of (g1 _ _ hb), fun p2 hp2 => ?_⟩⟩
  have g2 := same_new hp2 (.tup ys)
  have g := g1.trans g2
  refine ⟨.ref p1, .ref p2, .tup ts, .tup us, 4, rfl, .tup (g2 _ _ upd_same) (kx.mono (Same.tups g) _ _), .tup upd_same (ky.mono (Same.tups g) _ _), ?_, by decide, fun H' s' => ?_⟩
  · rw [KT.wide, Bool.and_eq_true, Bool.and_eq_true, wideL_all]
    exact ⟨by decide, decide_eq_true h100, List.all_eq_true.mpr fun t ht => wide_of t 3 (hf t ht)⟩
  · rw [KT.eqb]
    exact k H' (g.trans s')
end
end Tw
set_option Elab.async false
set_option linter.all false
set_option maxRecDepth 100000
set_option maxHeartbeats 8000000
namespace Tw
open PySem PySem.Spec L2 PyProof.Rows
theorem well_ne {H : Hp} {p q : Addr} (W : WellAt H p) (h : H q = none) : q ≠ p := fun z => by
  obtain ⟨xs, e⟩ := W.some
  rw [z, e] at h; cases h
section
variable {P : Program} {w : World} {K : PySem.W.Frag} {mg : Str → Option Value} {base : Heap} {f : Addr} {fd : FuncData}
/-! ### _law_value -/
def spValue : Sp := fun vs H Q _ => ∃ (p : Addr), vs = [.ref p] ∧ WellAt H p ∧ ∀ (v : V) (t : KT) (H' : Hp), KeyAt H' t v → t.fits 3 = true → WellAt H' p → SameX p H H' → Q v H'
theorem scValue : FnScope ["_law_well_here"] ["_law_well_here"] (defScope sValue) := ⟨rfl, rfl, rfl, by decide +kernel, rfl, by decide +kernel, by decide +kernel⟩
theorem ok_value (F : Fun K "_law_value" "_law_value" sValue f fd) (DP : DefOk P w K mg base 1 "_law_pull" ["_law_well_here", "_law_many"] spPull) (DK : DefOk P w K mg base 6 "_law_key" ["_law_well_here", "_law_room"] (spKey 4)) : FnOk P w K mg base CX0 7 f fd ["_law_well_here"] spValue := by
  refine F.ok scValue (fun vs H Q E h => (by obtain ⟨_, rfl, _⟩ := h; rfl)) (fun cdv A outer s H vs Q E hr h => ?_)
  obtain ⟨p, rfl, W, q⟩ := h
  have hr1 := hr.mono (show 1 ≤ 6 by decide)
  refine ⟨_, pss_cons (ps_if (pt_cmpR op_eq (pe_def DP hr1 (pa_c (pv 0) (pa_c pe_int pa_nil))) pe_int (nomark _)) (pss_one (ps_ret (pe_def DK hr (pa_c (pv 0) (pa_c pe_int pa_nil))))) pss_nil)
    (pss_one (ps_ret (pe_ix (r := rIx K) ix_seq (pe_lst (pa6 pe_int pe_int pe_str (pe_tup (pa_c pe_int pa_nil)) pe_str (pe_tup pa_nil))) (pe_def DP hr1 (pa_c (pv 0) (pa_c pe_int pa_nil))) (fun _ _ => rfl)))), ?_⟩
  refine ⟨_, rfl, p, 3, rfl, W, small_lit (by decide) (by decide), fun w0 H1 w00 w01 W1 s1 => ⟨rfl, _, rfl, ?_⟩⟩
  refine ite2 (fun c => ?_) (fun c => ?_)
  · exact ⟨_, rfl, p, 3, rfl, W1, by decide, fun v t H3 hv ht W3 s3 => q v t H3 hv ht W3 (s1.trans s3)⟩
  refine ⟨nn (Nat.le_of_ble_eq_true rfl), fun t1 n1 => ?_⟩
  have g1 := same_new n1 (.tup [.int 1])
  refine ⟨nn (Nat.le_of_ble_eq_true rfl), fun t2 n2 => ?_⟩
  have g2 := same_new n2 (.tup [])
  refine ⟨nn (Nat.le_of_ble_eq_true rfl), fun d nd' => ?_⟩
  have g3 := same_new nd' (.lst [.int 0, .int 1, .str "1", .ref t1, .str "", .ref t2])
  have gA : Same H1 _ := (g1.trans g2).trans g3
  have nd2 : d ≠ p := well_ne (W1.same (g1.trans g2)) nd'
  refine ⟨_, rfl, p, 6, rfl, W1.same gA, small_lit (by decide) (by decide), fun r H3 r0 r1 W3 s3 => ?_⟩
  have tA := s3.tupsW (W1.same gA)
  have sA : SameX p H H3 := (s1.trans (SameX.of gA)).trans s3
  have k1 : KeyAt H3 (.tup [.int 1]) (.ref t1) := .tup (tA _ _ (g3 _ _ (g2 _ _ upd_same))) (.cons (.int 1) .nil)
  have k2 : KeyAt H3 (.tup []) (.ref t2) := .tup (tA _ _ (g3 _ _ upd_same)) .nil
  have eL : H3 d = some (.lst [.int 0, .int 1, .str "1", .ref t1, .str "", .ref t2]) := s3 d _ upd_same nd2
  obtain ⟨v, av, mv⟩ := atI_in (xs := [V.int 0, .int 1, .str "1", .ref t1, .str "", .ref t2]) r0 r1
  refine .inl ⟨d, _, _, v, rfl, rfl, SqL.of eL, av, ?_⟩
  simp only [List.mem_cons, List.not_mem_nil, or_false] at mv
  rcases mv with rfl | rfl | rfl | rfl | rfl | rfl
  · exact q _ _ H3 (.int 0) (by decide +kernel) W3 sA
  · exact q _ _ H3 (.int 1) (by decide +kernel) W3 sA
  · exact q _ _ H3 (.str _) (by decide +kernel) W3 sA
  · exact q _ _ H3 k1 (by decide +kernel) W3 sA
  · exact q _ _ H3 (.str _) (by decide +kernel) W3 sA
  · exact q _ _ H3 k2 (by decide +kernel) W3 sA
end
end Tw
set_option Elab.async false
set_option linter.all false
set_option maxRecDepth 100000
set_option maxHeartbeats 4000000
namespace L2
open PySem PySem.Spec
section
variable {X : Cx}
/-- three names in a comprehension -/
def gTri (K : PySem.W.Frag) : TG := gTup K 3 (gCons (gName 0) (gCons (gName 1) (gCons (gName 2) gNil)))
theorem pg_tri {x y z : Str} {px py pz pos : Pos} {k : Nat} (hc : X.calm = true) (hN : X.N.Nodup) (h0 : X.N[0]? = some x) (h1 : X.N[1]? = some y) (h2 : X.N[2]? = some z) (lx : X.env.scope.names.lookup x = some .local) (ly : X.env.scope.names.lookup y = some .local) (lz : X.env.scope.names.lookup z = some .local) : PG X (.Tuple [.Name x px, .Name y py, .Name z pz] k pos) (gTri X.K) :=
  pg_tup hc (pgs_cons (pg_name hN h0 (.inl lx) (.inr lx)) (pgs_cons (pg_name hN h1 (.inl ly) (.inr ly)) (pgs_cons (pg_name hN h2 (.inl lz) (.inr lz)) pgs_nil)))
end
theorem comp_map3 {J : It} {K : PySem.W.Frag} {ix : List Nat} {te : TE} {Q : VK} {n : Nat} {σ : St} {H : Hp} (item : Nat → V → Prop) (Pv : Addr → Nat → List V → Hp → Prop) (hn : n < sizeLine)
    (hgo : ∀ D i ys H, i < n → Pv D i ys H → J.go i H) (hy : ∀ D i ys H x H', i < n → Pv D i ys H → J.yld i H x H' → H' = H ∧ item i x) (hstop : ∀ D ys H, Pv D n ys H → J.stop n H)
    (h0 : ∀ D, H D = none → Pv D 0 [] (upd H D (.lst [])))
    (step : ∀ D i ys H x, H D = some (.lst ys) → ys.length ≤ i → i < n → item i x → Pv D i ys H → ∃ a u v w, x = .ref a ∧ SqT K H a [u, v, w] ∧ ∀ R : VK, (∀ y H3, H3 D = some (.lst ys) → Pv D (i + 1) (ys ++ [y]) (upd H3 D (.lst (ys ++ [y]))) → R y H3) → te ([some u, some v, some w] ++ ix.map fun i => (σ[i]?).join) H R)
    (fin : ∀ D ys H, H D = some (.lst ys) → Pv D n ys H → Q (.ref D) H) : cEndT J 3 (gTri K) σ ix tTrue te H Q := by
  intro D hD
  refine ⟨fun i m H => m = n - i ∧ i ≤ n ∧ ∃ ys, H D = some (.lst ys) ∧ ys.length ≤ i ∧ Pv D i ys H, ⟨n, rfl, Nat.zero_le _, [], upd_same, Nat.le_refl _, h0 D hD⟩, ?_⟩
  rintro i m H ⟨rfl, hi, ys, e, hl, p⟩
  by_cases hlt : i < n
  · refine .inr ⟨hgo D i ys H hlt p, fun x H' y os ho => ?_⟩
    obtain ⟨rfl, it⟩ := hy D i ys H x H' hlt p y
    obtain ⟨a, u, v, w, rfl, hq, st⟩ := step D i ys _ x e hl hlt it p
    match os, ho with
    | [o1, o2, o3], _ =>
      refine ⟨a, _, rfl, hq, rfl, u, _, rfl, v, _, rfl, w, _, rfl, rfl, ⟨[some u, some v, some w], rfl, rfl⟩, ?_⟩
      unfold tTrue
      dsimp only
      rw [if_pos rfl]
      refine st _ fun y H3 e3 p3 => ?_
      exact ⟨ys, n - (i + 1), e3, by omega, by omega, rfl, hlt, ys ++ [y], upd_same, by rw [List.length_append, List.length_singleton]; omega, p3⟩
  · have e' : i = n := by omega
    subst e'
    exact .inl ⟨hstop D ys H p, fin D ys H e p⟩
end L2
set_option Elab.async false
set_option linter.all false
set_option maxRecDepth 100000
set_option maxHeartbeats 8000000
namespace Tw
open PySem PySem.Spec L2 PyProof.Rows
/-! ### rows of patches, all of keys -/
abbrev KR := KT × List KT × List KT
def KSide (H : Hp) (ts : List KT) (a : Addr) : Prop := ∃ xs, H a = some (.lst xs) ∧ KeysAt H ts xs
def KRow (H : Hp) (r : KR) (u : V) : Prop := ∃ t x a b, u = .ref t ∧ H t = some (.tup [x, .ref a, .ref b]) ∧ KeyAt H r.1 x ∧ KSide H r.2.1 a ∧ KSide H r.2.2 b
abbrev KRows (H : Hp) : List KR → List V → Prop := Paired (KRow H)
theorem KSide.same {H H' : Hp} {ts : List KT} {a : Addr} (h : KSide H ts a) (s : Same H H') : KSide H' ts a := by
  obtain ⟨xs, e, k⟩ := h
  exact ⟨xs, s _ _ e, k.mono (Same.tups s) _ _⟩
theorem KRow.same {H H' : Hp} {r : KR} {u : V} (h : KRow H r u) (s : Same H H') : KRow H' r u := by
  obtain ⟨t, x, a, b, e, h1, h2, h3, h4⟩ := h
  exact ⟨t, x, a, b, e, s _ _ h1, h2.mono (Same.tups s), h3.same s, h4.same s⟩
theorem KRows.same {H H' : Hp} {rs : List KR} {us : List V} (h : KRows H rs us) (s : Same H H') : KRows H' rs us := Paired.mapP h fun _ _ z => z.same s
/-- such a row, away from a place -/
def KRowD (D : Addr) (H : Hp) (r : KR) (u : V) : Prop := ∃ t x a b xs ys, u = .ref t ∧ H t = some (.tup [x, .ref a, .ref b]) ∧ KeyAt H r.1 x ∧ H a = some (.lst xs) ∧ KeysAt H r.2.1 xs ∧ H b = some (.lst ys) ∧ KeysAt H r.2.2 ys ∧ a ≠ D ∧ b ≠ D
theorem KRowD.row {D : Addr} {H : Hp} {r : KR} {u : V} (h : KRowD D H r u) : KRow H r u := by
  obtain ⟨t, x, a, b, xs, ys, e, h1, h2, h3, h4, h5, h6, _⟩ := h
  exact ⟨t, x, a, b, e, h1, h2, ⟨xs, h3, h4⟩, ⟨ys, h5, h6⟩⟩
theorem KRowD.put {D : Addr} {H H' : Hp} {r : KR} {u : V} (h : KRowD D H r u) (s : SameX D H H') (t : Tups H H') : KRowD D H' r u := by
  obtain ⟨tt, x, a, b, xs, ys, e, h1, h2, h3, h4, h5, h6, n1, n2⟩ := h
  exact ⟨tt, x, a, b, xs, ys, e, t _ _ h1, h2.mono t, s _ _ h3 n1, h4.mono t _ _, s _ _ h5 n2, h6.mono t _ _, n1, n2⟩
/-- what lies within is new -/
def NewR (D : Addr) (n : Nat) (Hb H : Hp) (u : V) : Prop := ∃ t x a b xs ys, u = .ref t ∧ H t = some (.tup [x, .ref a, .ref b]) ∧ H a = some (.lst xs) ∧ H b = some (.lst ys) ∧ xs.length ≤ n ∧ ys.length ≤ n ∧ Hb a = none ∧ Hb b = none ∧ a ≠ D ∧ b ≠ D
def rListOf (K : PySem.W.Frag) : List V → Hp → VK → Prop := fun xs H Q => ∃ p ys, xs = [.ref p] ∧ (SqL K H p ys ∨ SqT K H p ys) ∧ ∀ l, H l = none → Q (.ref l) (upd H l (.lst ys))
theorem call_listOf {X : Cx} : CallR X (.type "list") (rListOf X.K) := call_list_of
theorem nd3 : (["_law_spot", "_law_old", "_law_new"] : List Str).Nodup := by decide +kernel
/-- the sides are short -/
def Shrt (rs : List KR) : Prop := ∀ r ∈ rs, r.2.1.length ≤ 10 ∧ r.2.2.length ≤ 10
section
variable {P : Program} {w : World} {K : PySem.W.Frag} {mg : Str → Option Value} {base : Heap} {f : Addr} {fd : FuncData}
/-- what a new list of rows is -/
def NewRows (H : Hp) (rs : List KR) (Q : VK) : Prop := ∀ (D : Addr) (us' : List V) (H' : Hp), Same H H' → H D = none → H' D = some (.lst us') → KRows H' rs us' → (∀ u ∈ us', NewR D 10 H H' u) → Q (.ref D) H'
/-! ### _law_copy -/
def spCopy : Sp := fun vs H Q _ => ∃ (l : Addr) (us : List V) (rs : List KR), vs = [.ref l] ∧ H l = some (.lst us) ∧ KRows H rs us ∧ Shrt rs ∧ us.length ≤ 900 ∧ NewRows H rs Q
theorem scCopy : FnScope ["_law_rows"] ["_law_rows"] (defScope sCopy) := ⟨rfl, rfl, rfl, by decide +kernel, rfl, by decide +kernel, by decide +kernel⟩
theorem ok_copy (F : Fun K "_law_copy" "_law_copy" sCopy f fd) (T : Txt mg) : FnOk P w K mg base CX0 1 f fd ["_law_rows"] spCopy := by
  refine F.ok scCopy (fun vs H Q E h => (by obtain ⟨_, _, _, rfl, _⟩ := h; rfl)) (fun cdv A outer s H vs Q E hr h => ?_)
  obtain ⟨l, us, rs, rfl, hl, hp, hsh, h900, k⟩ := h
  refine ⟨_, pss_one (ps_ret (pe_compT (g := gTri K) ["_law_spot", "_law_old", "_law_new"] "_law_spot" [] [] rfl (fun _ _ _ _ _ => pg_tri rfl nd3 rfl rfl rfl rfl rfl rfl) (pi_list (pv 0)) (fun _ _ _ _ _ => pts_nil)
    (fun _ _ _ _ _ => pe_tup (pa3 (pv 0) (pe_callTy (r := rListOf K) call_listOf rfl T.list tb_list (pa_c (pv 1) pa_nil)) (pe_callTy (r := rListOf K) call_listOf rfl T.list tb_list (pa_c (pv 2) pa_nil)))) trivial)), ?_⟩
  refine ⟨_, rfl, l, rfl, ⟨us, SqL.of hl⟩, ?_⟩
  have ln := Paired.length hp
  refine comp_map3 (n := us.length) (fun i z => us[i]? = some z) (fun D i ys H3 => Same H H3 ∧ H D = none ∧ ys.length = i ∧ Paired (KRowD D H3) (rs.take i) ys ∧ ∀ u ∈ ys, ∃ t x a b, u = .ref t ∧ H3 t = some (.tup [x, .ref a, .ref b]) ∧ H a = none ∧ H b = none) (small1000 (by omega))
    (fun D i ys H3 hi hP => ⟨us, us[i], SqL.of (hP.1 _ _ hl), by simp [hi]⟩) (fun D i ys H3 z H4 hi hP hy => ⟨hy.1, hy.2 us (SqL.of (hP.1 _ _ hl))⟩) (fun D ys H3 hP => ⟨us, SqL.of (hP.1 _ _ hl), Nat.le_refl _⟩)
    (fun D hD => ⟨same_new hD _, hD, rfl, .nil, fun u hu => by simp at hu⟩) (fun D i ys H3 z eD hl' hi hz hPv => ?_) (fun D ys H3 eD hPv => ?_)
  · obtain ⟨s3, nD, ly, hys, hnew⟩ := hPv
    obtain ⟨r, er, hrow⟩ := Paired.ixR hp hz
    obtain ⟨t, x, a, b, rfl, ht, hx, ⟨xs, ha, ka⟩, zs, hb, kb⟩ := hrow
    refine ⟨t, x, .ref a, .ref b, rfl, SqT.of (s3 _ _ ht), fun R hR => ?_⟩
    refine ⟨_, rfl, _, rfl, a, xs, rfl, .inl (SqL.of (s3 _ _ ha)), fun a' na' => ?_⟩
    have g1 := same_new na' (.lst xs)
    refine ⟨_, rfl, b, zs, rfl, .inl (SqL.of (g1 _ _ (s3 _ _ hb))), fun b' nb' => ⟨nn (Nat.le_of_ble_eq_true rfl), fun t' nt' => ?_⟩⟩
    have g2 := same_new nb' (.lst zs)
    have g3 := same_new nt' (.tup [x, .ref a', .ref b'])
    have g := (g1.trans g2).trans g3
    have ea := (g2.trans g3) _ _ (upd_same (H := H3) (a := a') (o := .lst xs))
    have eb := g3 _ _ (upd_same (H := upd H3 a' (.lst xs)) (a := b') (o := .lst zs))
    have et := upd_same (H := upd (upd H3 a' (.lst xs)) b' (.lst zs)) (a := t') (o := .tup [x, .ref a', .ref b'])
    have na0 : H a' = none := Same.free s3 na'
    have nb0 : H b' = none := Same.free (s3.trans g1) nb'
    generalize upd (upd (upd H3 a' (.lst xs)) b' (.lst zs)) t' (.tup [x, .ref a', .ref b']) = H5 at g ea eb et ⊢
    have eD5 := g _ _ eD
    have s5 := s3.trans g
    have aD : a' ≠ D := fun z => by rw [z, eD] at na'; cases na'
    have bD : b' ≠ D := fun z => by rw [z, g1 _ _ eD] at nb'; cases nb'
    have sD : SameX D H5 (upd H5 D (.lst (ys ++ [.ref t']))) := (SameX.refl D H5).upd
    have tD := sD.tups eD5
    have tu := Same.tups s5
    refine hR _ H5 eD5 ⟨fun c o e => by rw [upd_ne (ne_of_none e nD)]; exact s5 c o e, nD, by simp [ly], ?_, fun u hu => ?_⟩
    · rw [List.take_add_one, er]
      have h1 : Paired (KRowD D (upd H5 D (.lst (ys ++ [.ref t'])))) (rs.take i) ys := Paired.mapP hys fun _ _ z => (z.put (SameX.of g) (Same.tups g)).put sD tD
      exact paired_snoc (KRowD.put ⟨t', x, a', b', xs, zs, rfl, et, hx.mono tu, ea, ka.mono tu _ _, eb, kb.mono tu _ _, aD, bD⟩ sD tD) h1
    · rcases List.mem_append.mp hu with z | z
      · obtain ⟨t, x, a, b, e1, e2, e3⟩ := hnew u z
        exact ⟨t, x, a, b, e1, tD _ _ (g _ _ e2), e3⟩
      · rw [List.mem_singleton] at z
        exact ⟨t', x, a', b', z, tD _ _ et, na0, nb0⟩
  · obtain ⟨s3, nD, ly, hys, hnew⟩ := hPv
    rw [List.take_of_length_le (by omega)] at hys
    refine k D ys H3 s3 nD eD (Paired.mapP hys fun _ _ z => z.row) fun u hu => ?_
    obtain ⟨j, hj⟩ := List.getElem?_of_mem hu
    obtain ⟨r, er, t, x, a, b, xs, zs, e, h1, h2, h3, h4, h5, h6, n1, n2⟩ := Paired.ixR hys hj
    obtain ⟨t', x', a', b', e1, e2, e3, e4⟩ := hnew u hu
    rw [e] at e1
    cases e1
    rw [h1] at e2
    cases e2
    have := hsh r (List.mem_of_getElem? er)
    have l1 := h4.length
    have l2 := h6.length
    exact ⟨t, x, a, b, xs, zs, e, h1, h3, h5, by omega, by omega, e3, e4, n1, n2⟩
end
end Tw
set_option Elab.async false
set_option linter.all false
set_option maxRecDepth 100000
set_option maxHeartbeats 8000000
namespace Tw
open PySem PySem.Spec L2 PyProof.Rows
def flipR (r : KR) : KR := (r.1, r.2.2, r.2.1)
theorem len_put {H : Hp} {a c : Addr} {n : Nat} {xs zs : List V} (hx : xs.length ≤ n) (hc : H c = some (.lst zs)) (lz : zs.length ≤ n) : ∃ zs', upd H a (.lst xs) c = some (.lst zs') ∧ zs'.length ≤ n := by
  by_cases e : c = a
  · subst e; exact ⟨xs, upd_same, hx⟩
  · exact ⟨zs, by rw [upd_ne e]; exact hc, lz⟩
/-- an append to one of the new lists -/
theorem NewR.put {D : Addr} {n : Nat} {Hb H : Hp} {a : Addr} {xs : List V} {w : V} (hw : NewR D n Hb H w) (ha : ∃ o, H a = some (.lst o)) (l : xs.length ≤ n + 1) : NewR D (n + 1) Hb (upd H a (.lst xs)) w := by
  obtain ⟨t, x, c, b, zs, ys, e, h1, h2, h3, l1, l2, r⟩ := hw
  obtain ⟨o, ho⟩ := ha
  obtain ⟨zs', z1, z2⟩ := len_put (a := a) (xs := xs) (n := n + 1) l h2 (by omega)
  obtain ⟨ys', y1, y2⟩ := len_put (a := a) (xs := xs) (n := n + 1) l h3 (by omega)
  exact ⟨t, x, c, b, zs', ys', e, by rw [upd_ne (ne_of h1 ho (by intro z; cases z))]; exact h1, z1, y1, z2, y2, r⟩
section
variable {P : Program} {w : World} {K : PySem.W.Frag} {mg : Str → Option Value} {base : Heap} {f : Addr} {fd : FuncData}
/-! ### turned -/
def spTurned : Sp := fun vs H Q _ => ∃ (l : Addr) (us : List V) (rs : List KR), vs = [.ref l] ∧ H l = some (.lst us) ∧ KRows H rs us ∧ Shrt rs ∧ us.length ≤ 900 ∧ NewRows H (rs.map flipR) Q
theorem scTurned : FnScope ["patch"] ["patch"] (defScope sTurned) := ⟨rfl, rfl, rfl, by decide +kernel, rfl, by decide +kernel, by decide +kernel⟩
theorem ok_turned (F : Fun K "turned" "turned" sTurned f fd) (T : Txt mg) : FnOk P w K mg base CX0 1 f fd ["patch"] spTurned := by
  refine F.ok scTurned (fun vs H Q E h => (by obtain ⟨_, _, _, rfl, _⟩ := h; rfl)) (fun cdv A outer s H vs Q E hr h => ?_)
  obtain ⟨l, us, rs, rfl, hl, hp, hsh, h900, k⟩ := h
  refine ⟨_, pss_one (ps_ret (pe_comp [] [] rfl (pi_list (pv 0)) (fun _ _ _ _ _ => pts_nil)
    (fun _ _ _ _ _ => pe_tup (pa3 (pe_ix (r := rIxT K) ix_tup (pv 0) pe_int (fun _ _ => rfl)) (pe_callTy (r := rListOf K) call_listOf rfl T.list tb_list (pa_c (pe_ix (r := rIxT K) ix_tup (pv 0) pe_int (fun _ _ => rfl)) pa_nil)) (pe_callTy (r := rListOf K) call_listOf rfl T.list tb_list (pa_c (pe_ix (r := rIxT K) ix_tup (pv 0) pe_int (fun _ _ => rfl)) pa_nil)))) trivial)), ?_⟩
  refine ⟨_, rfl, l, rfl, ⟨us, SqL.of hl⟩, ?_⟩
  have ln := Paired.length hp
  refine comp_map (n := us.length) (fun i z => us[i]? = some z) (fun D i ys H3 => Same H H3 ∧ H D = none ∧ ys.length = i ∧ Paired (KRowD D H3) ((rs.map flipR).take i) ys ∧ ∀ u ∈ ys, ∃ t x a b, u = .ref t ∧ H3 t = some (.tup [x, .ref a, .ref b]) ∧ H a = none ∧ H b = none) (small1000 (by omega))
    (fun D i ys H3 hi hP => ⟨us, us[i], SqL.of (hP.1 _ _ hl), by simp [hi]⟩) (fun D i ys H3 z H4 hi hP hy => ⟨hy.1, hy.2 us (SqL.of (hP.1 _ _ hl))⟩) (fun D ys H3 hP => ⟨us, SqL.of (hP.1 _ _ hl), Nat.le_refl _⟩)
    (fun D hD => ⟨same_new hD _, hD, rfl, .nil, fun u hu => by simp at hu⟩) (fun D i ys H3 z eD hl' hi hz hPv R hR => ?_) (fun D ys H3 eD hPv => ?_)
  · obtain ⟨s3, nD, ly, hys, hnew⟩ := hPv
    obtain ⟨r, er, hrow⟩ := Paired.ixR hp hz
    obtain ⟨t, x, a, b, rfl, ht, hx, ⟨xs, ha, ka⟩, zs, hb, kb⟩ := hrow
    refine ⟨_, rfl, t, _, _, x, rfl, rfl, SqT.of (s3 _ _ ht), rfl, ?_⟩
    refine ⟨_, rfl, t, _, _, .ref b, rfl, rfl, SqT.of (s3 _ _ ht), rfl, b, zs, rfl, .inl (SqL.of (s3 _ _ hb)), fun a' na' => ?_⟩
    have g1 := same_new na' (.lst zs)
    refine ⟨_, rfl, t, _, _, .ref a, rfl, rfl, SqT.of (g1 _ _ (s3 _ _ ht)), rfl, a, xs, rfl, .inl (SqL.of (g1 _ _ (s3 _ _ ha))), fun b' nb' => ⟨nn (Nat.le_of_ble_eq_true rfl), fun t' nt' => ?_⟩⟩
    have g2 := same_new nb' (.lst xs)
    have g3 := same_new nt' (.tup [x, .ref a', .ref b'])
    have g := (g1.trans g2).trans g3
    have ea := (g2.trans g3) _ _ (upd_same (H := H3) (a := a') (o := .lst zs))
    have eb := g3 _ _ (upd_same (H := upd H3 a' (.lst zs)) (a := b') (o := .lst xs))
    have et := upd_same (H := upd (upd H3 a' (.lst zs)) b' (.lst xs)) (a := t') (o := .tup [x, .ref a', .ref b'])
    have na0 : H a' = none := Same.free s3 na'
    have nb0 : H b' = none := Same.free (s3.trans g1) nb'
    generalize upd (upd (upd H3 a' (.lst zs)) b' (.lst xs)) t' (.tup [x, .ref a', .ref b']) = H5 at g ea eb et ⊢
    have eD5 := g _ _ eD
    have s5 := s3.trans g
    have aD : a' ≠ D := fun z => by rw [z, eD] at na'; cases na'
    have bD : b' ≠ D := fun z => by rw [z, g1 _ _ eD] at nb'; cases nb'
    have sD : SameX D H5 (upd H5 D (.lst (ys ++ [.ref t']))) := (SameX.refl D H5).upd
    have tD := sD.tups eD5
    have tu := Same.tups s5
    refine hR _ H5 eD5 ⟨fun c o e => by rw [upd_ne (ne_of_none e nD)]; exact s5 c o e, nD, by simp [ly], ?_, fun u hu => ?_⟩
    · rw [List.take_add_one, List.getElem?_map, er]
      have h1 : Paired (KRowD D (upd H5 D (.lst (ys ++ [.ref t'])))) ((rs.map flipR).take i) ys := Paired.mapP hys fun _ _ z => (z.put (SameX.of g) (Same.tups g)).put sD tD
      exact paired_snoc (a := flipR r) (KRowD.put (r := flipR r) ⟨t', x, a', b', zs, xs, rfl, et, hx.mono tu, ea, kb.mono tu _ _, eb, ka.mono tu _ _, aD, bD⟩ sD tD) h1
    · rcases List.mem_append.mp hu with z | z
      · obtain ⟨t, x, a, b, e1, e2, e3⟩ := hnew u z
        exact ⟨t, x, a, b, e1, tD _ _ (g _ _ e2), e3⟩
      · rw [List.mem_singleton] at z
        exact ⟨t', x, a', b', z, tD _ _ et, na0, nb0⟩
  · obtain ⟨s3, nD, ly, hys, hnew⟩ := hPv
    rw [List.take_of_length_le (by rw [List.length_map]; omega)] at hys
    refine k D ys H3 s3 nD eD (Paired.mapP hys fun _ _ z => z.row) fun u hu => ?_
    obtain ⟨j, hj⟩ := List.getElem?_of_mem hu
    obtain ⟨r, er, t, x, a, b, xs, zs, e, h1, h2, h3, h4, h5, h6, n1, n2⟩ := Paired.ixR hys hj
    obtain ⟨t', x', a', b', e1, e2, e3, e4⟩ := hnew u hu
    rw [e] at e1
    cases e1
    rw [h1] at e2
    cases e2
    rw [List.getElem?_map] at er
    obtain ⟨r0, er0, rfl⟩ := Option.map_eq_some_iff.mp er
    have := hsh r0 (List.mem_of_getElem? er0)
    have l1 := h4.length
    have l2 := h6.length
    have q1 : (flipR r0).2.1.length = r0.2.2.length := rfl
    have q2 : (flipR r0).2.2.length = r0.2.1.length := rfl
    exact ⟨t, x, a, b, xs, zs, e, h1, h3, h5, by omega, by omega, e3, e4, n1, n2⟩
/-! ### _law_marked -/
def spMarked : Sp := fun vs H Q _ => ∃ (D : Addr) (us : List V) (Hb : Hp), vs = [.ref D] ∧ H D = some (.lst us) ∧ Same Hb H ∧ Hb D = none ∧ (∀ u ∈ us, NewR D 10 Hb H u) ∧ us.length ≤ 100 ∧ ∀ H', Same Hb H' → Q .non H'
abbrev nMarked : List Str := ["_law_rows", "_law_spot", "_law_old", "_law_new"]
theorem scMarked : FnScope nMarked ["_law_rows"] (defScope sMarked) := ⟨rfl, rfl, rfl, by decide +kernel, rfl, by decide +kernel, by decide +kernel⟩
theorem ok_marked (F : Fun K "_law_marked" "_law_marked" sMarked f fd) : FnOk P w K mg base CX0 1 f fd ["_law_rows"] spMarked := by
  refine F.ok scMarked (fun vs H Q E h => (by obtain ⟨_, _, _, rfl, _⟩ := h; rfl)) (fun cdv A outer s H vs Q E hr h => ?_)
  obtain ⟨D, us, Hb, rfl, hD, sb, nD, hnew, h100, k⟩ := h
  have nd := scMarked.nd
  refine ⟨_, pss_cons (ps_for PassesOwn.never rfl (pi_list (pv 0)) (pg_tup rfl (pgs_cons (pg_name (i := 1) nd rfl (Or.inl rfl)) (pgs_cons (pg_name (i := 2) nd rfl (Or.inl rfl)) (pgs_cons (pg_name (i := 3) nd rfl (Or.inl rfl)) pgs_nil))))
      (pss_cons (ps_expr (pe_bm PySem.F.plainAttrs_list PySem.F.slot_list_append PySem.F.type_list_append mt_append (pv 2) (pa_c pe_int pa_nil)))
      (pss_one (ps_expr (pe_bm PySem.F.plainAttrs_list PySem.F.slot_list_append PySem.F.type_list_append mt_append (pv 3) (pa_c pe_int pa_nil))))))
    (pss_one (ps_expr (pe_bm0 PySem.F.plainAttrs_list PySem.F.slot_list_clear PySem.F.type_list_clear mt_clear (pv 0)))), ?_⟩
  refine ⟨_, rfl, D, rfl, ⟨us, SqL.of hD⟩, for_list (K := K) (a := D) (xs := us) (fun i σ H' => ∃ (o1 o2 o3 : Option V), σ = [some (.ref D), o1, o2, o3] ∧ H' D = some (.lst us) ∧ Same Hb H' ∧ ∀ u ∈ us, NewR D (10 + 2 * i) Hb H' u)
    ⟨_, _, _, rfl, hD, sb, hnew⟩ (fun i σ H' _ hP => by obtain ⟨_, _, _, _, h, _⟩ := hP; exact SqL.of h) ?_ ?_⟩
  · rintro i u σ H' hu ⟨o1, o2, o3, rfl, hD', sb', hn'⟩
    have hi : i < us.length := (List.getElem?_eq_some_iff.mp hu).1
    obtain ⟨t, x, a, b, xs, ys, rfl, ht, ha, hb, l1, l2, na, nb, aD, bD⟩ := hn' u (List.mem_of_getElem? hu)
    refine ⟨t, _, rfl, SqT.of ht, rfl, _, _, rfl, _, _, rfl, _, _, rfl, rfl, ?_⟩
    refine ⟨_, rfl, .inl ⟨rfl, _, SqL.of ha⟩, a, xs, .int 0, rfl, rfl, ha, nn (by omega), ?_⟩
    obtain ⟨ys', hb', l2'⟩ := len_put (a := a) (xs := xs ++ [.int 0]) (n := 10 + 2 * i + 1) (by simp; omega) hb (by omega)
    have hn1 : ∀ u ∈ us, NewR D (10 + 2 * i + 1) Hb (upd H' a (.lst (xs ++ [.int 0]))) u := fun u hu => (hn' u hu).put ⟨_, ha⟩ (by simp; omega)
    have sb1 : Same Hb (upd H' a (.lst (xs ++ [.int 0]))) := fun c o e => by rw [upd_ne (ne_of_none e na)]; exact sb' c o e
    have hD1 : upd H' a (.lst (xs ++ [.int 0])) D = some (.lst us) := by rw [upd_ne (Ne.symm aD)]; exact hD'
    generalize upd H' a (.lst (xs ++ [.int 0])) = H1 at hb' hn1 sb1 hD1 ⊢
    refine ⟨_, rfl, .inl ⟨rfl, _, SqL.of hb'⟩, b, ys', .int 0, rfl, rfl, hb', nn (by omega), ?_⟩
    exact ⟨_, _, _, rfl, by rw [upd_ne (Ne.symm bD)]; exact hD1, fun c o e => by rw [upd_ne (ne_of_none e nb)]; exact sb1 c o e, fun u hu => (hn1 u hu).put ⟨_, hb'⟩ (by simp; omega)⟩
  · rintro σ H' ⟨o1, o2, o3, rfl, hD', sb', hn'⟩
    refine ⟨_, rfl, .inl ⟨rfl, _, SqL.of hD'⟩, D, _, rfl, rfl, hD', ?_⟩
    exact k _ fun c o e => by rw [upd_ne (ne_of_none e nD)]; exact sb' c o e
end
end Tw
set_option Elab.async false
set_option linter.all false
set_option maxRecDepth 100000
set_option maxHeartbeats 8000000
namespace Tw
open PySem PySem.Spec L2 PyProof.Rows
/-- all that stands in rows are keys -/
def FitR (rs : List KR) : Prop := ∀ r ∈ rs, r.1.fits 3 = true ∧ (∀ t ∈ r.2.1, t.fits 3 = true) ∧ (∀ t ∈ r.2.2, t.fits 3 = true) ∧ r.2.1.length ≤ 10 ∧ r.2.2.length ≤ 10
theorem kit_ll {K : PySem.W.Frag} : PySem.W.kitOne K (.type "list") (.type "list") = some true := by kernel_rfl
theorem eqbL_id (l : List KT) : eqbL l l = true := by
  have := eqb_self (KT.tup l)
  rw [KT.eqb] at this
  exact this
section
variable {P : Program} {w : World} {K : PySem.W.Frag} {mg : Str → Option Value} {base : Heap} {f : Addr} {fd : FuncData}
/-! ### _law_patch_alike -/
def spPAlike : Sp := fun vs H Q _ => ∃ (d l : Addr) (us' us : List V) (rs : List KR), vs = [.ref d, .ref l] ∧ H d = some (.lst us') ∧ H l = some (.lst us) ∧ KRows H rs us' ∧ KRows H rs us ∧ FitR rs ∧ us.length ≤ 100 ∧ ∀ H', Same H H' → Q (.bl true) H'
abbrev nPAlike : List Str := ["_law_found", "_law_due_here", "_law_j", "_law_row"]
theorem scPAlike : FnScope nPAlike ["_law_found", "_law_due_here"] (defScope sPAlike) := ⟨rfl, rfl, rfl, by decide +kernel, rfl, by decide +kernel, by decide +kernel⟩
theorem ok_palike (F : Fun K "_law_patch_alike" "_law_patch_alike" sPAlike f fd) (T : Txt mg) (DA : DefOk P w K mg base 6 "_law_alike" ["_law_found", "_law_due_here"] (spAlikeG 5)) (DR : DefOk P w K mg base 7 "_law_rows_alike" ["_law_found", "_law_due_here"] spRAlike) :
    FnOk P w K mg base CX0 8 f fd ["_law_found", "_law_due_here"] spPAlike := by
  refine F.ok scPAlike (fun vs H Q E h => (by obtain ⟨_, _, _, _, _, rfl, _⟩ := h; rfl)) (fun cdv A outer s H vs Q E hr h => ?_)
  obtain ⟨d, l, us', us, rs, rfl, hd, hl, kd, kl, hf, h100, k⟩ := h
  have nd := scPAlike.nd
  have l1 := Paired.length kd
  have l2 := Paired.length kl
  have hr6 := hr.mono (show 6 ≤ 7 by decide)
  refine ⟨_, pss_cons (ps_if (PW.pt (pw_or (pt_not (pt_val (pe_callB tw_isinst rfl T.isi tb_isinstance (pa_c (pv 0) (pa_c (pe_bltn (v := .ty "list") rfl T.list tb_list rfl) pa_nil))))) (pw_or1 (pt_cmpR op_ne (pe_callB call_len_seq rfl T.len tb_len (pa_c (pv 0) pa_nil)) (pe_callB call_len_seq rfl T.len tb_len (pa_c (pv 1) pa_nil)) (nomark _))))) (pss_one (ps_ret pe_bl)) pss_nil)
    (pss_cons (ps_for PassesOwn.never rfl (pi_range1 rfl T.range (pa_c (pe_callB call_len_seq rfl T.len tb_len (pa_c (pv 1) pa_nil)) pa_nil)) (pg_name (i := 2) nd rfl (Or.inl rfl))
      (pss_cons (ps_set (i := 3) nd rfl (Or.inl rfl) (pe_ix (r := rIx K) ix_seq (pv 0) (pv 2) (fun _ _ => rfl)))
      (pss_cons (ps_if (PW.pt (pw_or (pt_not (pt_val (pe_callB tw_isinst rfl T.isi tb_isinstance (pa_c (pv 3) (pa_c (pe_bltn (v := .ty "tuple") rfl T.tuple tb_tuple rfl) pa_nil))))) (pw_or (pt_cmpR op_ne (pe_callB call_len_seq rfl T.len tb_len (pa_c (pv 3) pa_nil)) pe_int (nomark _))
        (pw_or1 (pt_not (pt_val (pe_def DA hr6 (pa_c (pe_ix (r := rIx K) ix_seq (pv 3) pe_int (fun _ _ => rfl)) (pa_c (pe_ix (r := rIx K) ix_seq (pe_ix (r := rIx K) ix_seq (pv 1) (pv 2) (fun _ _ => rfl)) pe_int (fun _ _ => rfl)) pa_nil))))))))) (pss_one (ps_ret pe_bl)) pss_nil)
      (pss_one (ps_if (PW.pt (pw_or (pt_not (pt_val (pe_def DR hr (pa_c (pe_ix (r := rIx K) ix_seq (pv 3) pe_int (fun _ _ => rfl)) (pa_c (pe_ix (r := rIx K) ix_seq (pe_ix (r := rIx K) ix_seq (pv 1) (pv 2) (fun _ _ => rfl)) pe_int (fun _ _ => rfl)) pa_nil)))))
        (pw_or1 (pt_not (pt_val (pe_def DR hr (pa_c (pe_ix (r := rIx K) ix_seq (pv 3) pe_int (fun _ _ => rfl)) (pa_c (pe_ix (r := rIx K) ix_seq (pe_ix (r := rIx K) ix_seq (pv 1) (pv 2) (fun _ _ => rfl)) pe_int (fun _ _ => rfl)) pa_nil)))))))) (pss_one (ps_ret pe_bl)) pss_nil)))))
    (pss_one (ps_ret pe_bl))), ?_⟩
  refine ⟨_, rfl, _, _, _, _, rfl, .lst hd, kit_ll, _, rfl, iteF ?_⟩
  refine ⟨_, rfl, d, us', rfl, .inl (SqL.of hd), _, rfl, l, us, rfl, .inl (SqL.of hl), rfl, _, rfl, iteNS (by rw [← l1, ← l2]) ?_⟩
  refine ⟨_, rfl, l, us, rfl, .inl (SqL.of hl), _, rfl, by omega, by omega, ?_⟩
  rw [Int.toNat_natCast]
  refine for_range (n := us.length) (fun i σ H' => ∃ o2 o3 : Option V, σ = [some (.ref d), some (.ref l), o2, o3] ∧ Same H H') ⟨_, _, rfl, Same.refl _⟩ ?_ ?_
  · rintro i σ H1 hi ⟨o2, o3, rfl, s1⟩
    have hu : us[i]? = some us[i] := List.getElem?_eq_getElem hi
    have hu' : us'[i]? = some (us'[i]'(by omega)) := List.getElem?_eq_getElem (by omega)
    obtain ⟨r, er, t, x, a, b, e1, ht, hx, ha, hb⟩ := Paired.ixR kl hu
    obtain ⟨r', er', t', x', a', b', e1', ht', hx', ha', hb'⟩ := Paired.ixR kd hu'
    rw [er] at er'
    cases er'
    obtain ⟨f1, f2, f3, f4, f5⟩ := hf r (List.mem_of_getElem? er)
    rw [e1] at hu
    rw [e1'] at hu'
    have av : atI us (0 + (i : Int)) = some (.ref t) := by rw [Int.zero_add]; exact atI_nat hu
    have av' : atI us' (0 + (i : Int)) = some (.ref t') := by rw [Int.zero_add]; exact atI_nat hu'
    refine ⟨_, rfl, _, rfl, .inl ⟨d, us', _, _, rfl, rfl, SqL.of (s1 _ _ hd), av', ?_⟩⟩
    refine ⟨_, rfl, _, _, _, _, rfl, .tup (s1 _ _ ht'), kit_tt, _, rfl, iteF ?_⟩
    refine ⟨_, rfl, t', _, rfl, .inr (SqT.of (s1 _ _ ht')), rfl, _, rfl, iteNS rfl ?_⟩
    refine ⟨_, rfl, .inr (.inl ⟨t', _, _, x', rfl, rfl, SqT.of (s1 _ _ ht'), rfl, ?_⟩)⟩
    refine ⟨_, rfl, _, rfl, .inl ⟨l, us, _, _, rfl, rfl, SqL.of (s1 _ _ hl), av, .inr (.inl ⟨t, _, _, x, rfl, rfl, SqT.of (s1 _ _ ht), rfl, ?_⟩)⟩⟩
    refine ⟨x', x, r.1, r.1, 3, rfl, hx'.mono (Same.tups s1), hx.mono (Same.tups s1), wide_of _ _ f1, by decide, fun H2 s2 => ⟨_, rfl, ?_⟩⟩
    rw [eqb_self]
    refine iteF ?_
    have s12 := s1.trans s2
    obtain ⟨xs, q1, q2⟩ := ha.same s12
    obtain ⟨xs', q1', q2'⟩ := ha'.same s12
    refine ⟨_, rfl, .inr (.inl ⟨t', _, _, .ref a', rfl, rfl, SqT.of (s12 _ _ ht'), rfl, ?_⟩)⟩
    refine ⟨_, rfl, _, rfl, .inl ⟨l, us, _, _, rfl, rfl, SqL.of (s12 _ _ hl), av, .inr (.inl ⟨t, _, _, .ref a, rfl, rfl, SqT.of (s12 _ _ ht), rfl, ?_⟩)⟩⟩
    refine ⟨a', a, xs', xs, r.2.1, r.2.1, rfl, q1', q1, q2', q2, f2, by omega, fun H3 s3 => ⟨_, rfl, ?_⟩⟩
    rw [eqbL_id]
    refine iteF ?_
    have s13 := s12.trans s3
    obtain ⟨ys, p1, p2⟩ := hb.same s13
    obtain ⟨ys', p1', p2'⟩ := hb'.same s13
    refine ⟨_, rfl, .inr (.inl ⟨t', _, _, .ref b', rfl, rfl, SqT.of (s13 _ _ ht'), rfl, ?_⟩)⟩
    refine ⟨_, rfl, _, rfl, .inl ⟨l, us, _, _, rfl, rfl, SqL.of (s13 _ _ hl), av, .inr (.inl ⟨t, _, _, .ref b, rfl, rfl, SqT.of (s13 _ _ ht), rfl, ?_⟩)⟩⟩
    refine ⟨b', b, ys', ys, r.2.2, r.2.2, rfl, p1', p1, p2', p2, f3, by omega, fun H4 s4 => ⟨_, rfl, ?_⟩⟩
    rw [eqbL_id]
    exact iteF ⟨_, _, rfl, s13.trans s4⟩
  · rintro σ H1 ⟨o2, o3, rfl, s1⟩
    exact k H1 s1
end
end Tw
set_option Elab.async false
set_option linter.all false
set_option maxRecDepth 100000
set_option maxHeartbeats 4000000
namespace L2
open PySem PySem.Spec
section
variable {X : Cx}
/-- xs != [] -/
theorem tw_ne_nil (hu : X.A.units < cLine) : OpR X (compareOp .NotEq) (fun x y H Q => ∃ p b xs, x = .ref p ∧ y = .ref b ∧ SqL X.K H p xs ∧ SqL X.K H b [] ∧ Q (.bl (!xs.isEmpty)) H) := by
  intro pins s σ H x y v u Q I rx ry h
  obtain ⟨p, b, xs, rfl, rfl, h1, h2, q⟩ := h
  cases rx
  cases ry
  obtain ⟨its, r1, p1, z1⟩ := I.list h1
  obtain ⟨its2, r2, p2, z2⟩ := I.list h2
  have l1 := r1.length
  have l2 := r2.length
  have e2 : its2 = [] := List.eq_nil_of_length_eq_zero (by rw [← l2]; rfl)
  subst e2
  cases xs with
  | nil =>
    have e1 : its = [] := List.eq_nil_of_length_eq_zero (by rw [← l1]; rfl)
    subst e1
    exact PySem.SeqAt.RcNeAt.lists (e := fun _ => true) p1.isList p2.isList rfl hu (fun j h1 _ => absurd h1 (by simp)) X.prog X.w X.xe _ (fin_bl I q (by simp))
  | cons x r => exact PySem.SeqAt.RcNeAt.lists_lengths p1.isList p2.isList (by simp; intro e; subst e; simp at l1) hu X.prog X.w X.xe _ (fin_bl I q rfl)
end
end L2
set_option Elab.async false
set_option linter.all false
set_option maxRecDepth 100000
set_option maxHeartbeats 8000000
namespace Tw
open PySem PySem.Spec L2 PyProof.Rows
section
variable {P : Program} {w : World} {K : PySem.W.Frag} {mg : Str → Option Value} {base : Heap} {f : Addr} {fd : FuncData}
/-! ### _law_side -/
def spSide : Sp := fun vs H Q _ => ∃ (p o : Addr) (ts : List KT), vs = [.ref p, .ref o] ∧ WellAt H p ∧ o ≠ p ∧ KSide H ts o ∧ (∀ t ∈ ts, t.fits 3 = true) ∧ ts.length ≤ 10 ∧
  ∀ (a : Addr) (us : List KT) (H' : Hp), H a = none → KSide H' us a → (∀ t ∈ us, t.fits 3 = true) → us.length ≤ 1 → WellAt H' p → SameX p H H' → Q (.ref a) H'
abbrev nSide : List Str := ["_law_well_here", "_law_other", "_law_value_here"]
theorem scSide : FnScope nSide ["_law_well_here", "_law_other"] (defScope sSide) := ⟨rfl, rfl, rfl, by decide +kernel, rfl, by decide +kernel, by decide +kernel⟩
theorem ok_side (F : Fun K "_law_side" "_law_side" sSide f fd) (DP : DefOk P w K mg base 1 "_law_pull" ["_law_well_here", "_law_many"] spPull) (DV : DefOk P w K mg base 7 "_law_value" ["_law_well_here"] spValue) (DR : DefOk P w K mg base 7 "_law_rows_alike" ["_law_found", "_law_due_here"] spRAlike) :
    FnOk P w K mg base CX0 8 f fd ["_law_well_here", "_law_other"] spSide := by
  refine F.ok scSide (fun vs H Q E h => (by obtain ⟨_, _, _, rfl, _⟩ := h; rfl)) (fun cdv A outer s H vs Q E hr h => ?_)
  obtain ⟨p, o, ts, rfl, W, op, ho, hf, h10, k⟩ := h
  have nd := scSide.nd
  have hr1 := hr.mono (show 1 ≤ 7 by decide)
  refine ⟨_, pss_cons (ps_if (PW.pt (pw_and (pt_cmpR op_eq (pe_def DP hr1 (pa_c (pv 0) (pa_c pe_int pa_nil))) pe_int (nomark _)) (pw_and1 (pt_cmpR (tw_ne_nil hr.units0) (pv 1) (pe_lst pa_nil) (nomark _))))) (pss_one (ps_ret (pe_lst pa_nil))) pss_nil)
    (pss_cons (ps_set (i := 2) nd rfl (Or.inl rfl) (pe_def DV hr (pa_c (pv 0) pa_nil)))
    (pss_cons (ps_if (pt_val (pe_def DR hr (pa_c (pe_lst (pa_c (pv 2) pa_nil)) (pa_c (pv 1) pa_nil)))) (pss_one (ps_ret (pe_lst pa_nil))) pss_nil)
    (pss_one (ps_ret (pe_lst (pa_c (pv 2) pa_nil)))))), ?_⟩
  obtain ⟨xs, hxs, kxs⟩ := ho
  -- behind the first
  have goOn : ∀ {H1 : Hp}, WellAt H1 p → SameX p H H1 → ∀ (R : V → Hp → Prop), (∀ v t H2, KeyAt H2 t v → t.fits 3 = true → WellAt H2 p → SameX p H H2 → R v H2) → ∃ q, [V.ref p] = [V.ref q] ∧ WellAt H1 q ∧ ∀ v t H2, KeyAt H2 t v → t.fits 3 = true → WellAt H2 q → SameX q H1 H2 → R v H2 := fun W1 s1 R hR => ⟨p, rfl, W1, fun v t H2 kv fv W2 s2 => hR v t H2 kv fv W2 (s1.trans s2)⟩
  have nil : ∀ {H1 : Hp}, WellAt H1 p → SameX p H H1 → ∀ a, H1 a = none → Q (.ref a) (upd H1 a (.lst [])) := fun {H1} W1 s1 a na => by
    have g := same_new na (.lst [])
    exact k a [] _ (sx_free s1 W1 na) ⟨[], upd_same, .nil⟩ (fun t h => by simp at h) (by simp) (W1.same g) (s1.trans (SameX.of g))
  have last : ∀ {v : V} {t : KT} {H2 : Hp}, KeyAt H2 t v → t.fits 3 = true → WellAt H2 p → SameX p H H2 → ∀ a, H2 a = none → Q (.ref a) (upd H2 a (.lst [v])) := fun {v t H2} kv fv W2 s2 a na => by
    have g := same_new na (.lst [v])
    exact k a [t] _ (sx_free s2 W2 na) ⟨[v], upd_same, .cons (kv.mono (Same.tups g)) .nil⟩ (fun z h => by rw [List.mem_singleton.mp h]; exact fv) (by simp) (W2.same g) (s2.trans (SameX.of g))
  refine ⟨_, rfl, p, 3, rfl, W, small_lit (by decide) (by decide), fun w0 H1 w00 w01 W1 s1 => ⟨rfl, _, rfl, ?_⟩⟩
  have hx1 := s1 _ _ hxs op
  refine ite2 (fun c => ?_) (fun c => ?_)
  · refine ⟨_, rfl, nn (Nat.le_of_ble_eq_true rfl), fun e0 ne0 => ?_⟩
    have g0 := same_new ne0 (.lst [])
    refine ⟨o, e0, xs, rfl, rfl, SqL.of (g0 _ _ hx1), SqL.of upd_same, _, rfl, ?_⟩
    have W1' := W1.same g0
    have s1' := s1.trans (SameX.of g0)
    cases he : xs.isEmpty with
    | false => exact iteT ⟨nn (Nat.le_of_ble_eq_true rfl), fun a na => nil W1' s1' a na⟩
    | true =>
      refine iteF ⟨_, rfl, goOn W1' s1' _ fun v t H2 kv fv W2 s2 => ?_⟩
      refine ⟨_, rfl, nn (Nat.le_of_ble_eq_true rfl), fun b nb => ?_⟩
      have g := same_new nb (.lst [v])
      have s2' := s2.trans (SameX.of g)
      refine ⟨_, rfl, b, o, [v], xs, [t], ts, rfl, upd_same, s2' _ _ hxs op, .cons (kv.mono (Same.tups g)) .nil, kxs.mono (s2'.tupsW W) _ _, hf, by omega, fun H3 s3 => ⟨_, rfl, ?_⟩⟩
      have W3 := (W2.same g).same s3
      have s03 := s2'.trans (SameX.of s3)
      refine ite2 (fun _ => ⟨nn (Nat.le_of_ble_eq_true rfl), fun a na => nil W3 s03 a na⟩) (fun _ => ⟨_, rfl, nn (Nat.le_of_ble_eq_true rfl), fun a na => last (kv.mono (Same.tups (g.trans s3))) fv W3 s03 a na⟩)
  · refine iteF ⟨_, rfl, goOn W1 s1 _ fun v t H2 kv fv W2 s2 => ?_⟩
    refine ⟨_, rfl, nn (Nat.le_of_ble_eq_true rfl), fun b nb => ?_⟩
    have g := same_new nb (.lst [v])
    have s2' := s2.trans (SameX.of g)
    refine ⟨_, rfl, b, o, [v], xs, [t], ts, rfl, upd_same, s2' _ _ hxs op, .cons (kv.mono (Same.tups g)) .nil, kxs.mono (s2'.tupsW W) _ _, hf, by omega, fun H3 s3 => ⟨_, rfl, ?_⟩⟩
    have W3 := (W2.same g).same s3
    have s03 := s2'.trans (SameX.of s3)
    refine ite2 (fun _ => ⟨nn (Nat.le_of_ble_eq_true rfl), fun a na => nil W3 s03 a na⟩) (fun _ => ⟨_, rfl, nn (Nat.le_of_ble_eq_true rfl), fun a na => last (kv.mono (Same.tups (g.trans s3))) fv W3 s03 a na⟩)
end
end Tw
set_option Elab.async false
set_option linter.all false
set_option maxRecDepth 100000
set_option maxHeartbeats 4000000
namespace Tw
open PySem PySem.Spec L2 PyProof.Rows
section
variable {X : Cx}
/-- sorted(xs, key = g), xs a list of keys -/
def tSortLg (t : TA) : TE := fun σ H Q => t σ H fun vs H1 => ∃ (l : Addr) (us : List V) (ts : List KT), vs = [.ref l] ∧ H1 l = some (.lst us) ∧ KeysAt H1 ts us ∧ (∀ t ∈ ts, t.fits 3 = true) ∧ us.length < 64 ∧ SortK ts H1 Q
theorem pe_sortLg {g : KT → KT} (hg : Kg g) (dg : ∀ t, (g t).depth ≤ 2 * t.depth + 2) {k : Nat} {p pos kp p2 : Pos} {e : Expr} {x x0 : Str} {t : TA} (DS : DefOk X.prog X.w X.K X.mg X.base k x [x0] (spKg g)) (hr : Room (k + 2) X.A) (hgl : Gl X "sorted") (hm : X.mg "sorted" = none) (hgx : Gl X x) (ha : PA X [e] t) (hdx : (x == ("__debug__" : Str)) = false := by decide)
    (he : backTo pos (starEach [e] X.env) = (false, eval e X.env) :: backTo pos (starEach [] X.env) := by rfl) (hplain : (backTo pos (starEach [e] X.env)).any (·.1) = false := by rfl) :
    PE X (.Call (.Name "sorted" p) [e] [⟨some (Str.ofString "key"), .Name x p2, kp⟩] pos) (tSortLg t) := by
  intro pins s σ H Q I h
  obtain ⟨f, fd, F, b, kp', m⟩ := DS.ex
  refine wpAny_Call_Name_kw (ld_blt I hgl hm tb_sortedG (callWith_kw (thn (ha pos pins s σ H _ I h) fun us s1 ⟨vs, H1, I1, r, l, ws, ts, e1, hl, hk, hf, h64, q⟩ => ?_) he hplain))
  have pk : PK X [⟨some (Str.ofString "key"), .Name x p2, kp⟩] (tCons (tC (.ref f)) tNil) := pk_cons (pe_glob (v := .ref f) (pos := p2) hgx m rfl hdx) pk_nil
  refine thn (pk pos pins s1 σ H1 (fun zs H2 => zs = [.ref f] ∧ H2 = H1) I1 ⟨rfl, rfl⟩) fun zs s2 ⟨zv, H2, I2, rz, ez, eH⟩ => ?_
  subst e1 ez eH
  obtain ⟨u, rfl, ru⟩ := vals1 r
  obtain ⟨u2, rfl, ru2⟩ := vals1 rz
  cases ru
  cases ru2
  obtain ⟨its, rv, pl, hz⟩ := I2.list (SqL.of hl)
  have lv := rv.length
  exact sorted_keyG hg dg hr F b I2 hk hf h64 (fun Q' hq => collect_list pl.isList (hq _ its (I2.kept (t' := s2.toks) fun b o e => (Heap.get?_update_other _ _ (Ne.symm (Nat.ne_of_lt (Heap.lt_size e)))).trans (Heap.get?_push_of_some _ e)) rv) (by rw [sizeLine_eq]; first | omega | (simp; omega))) q
end
end Tw
set_option Elab.async false
set_option linter.all false
set_option maxRecDepth 100000
set_option maxHeartbeats 4000000
namespace Tw
open PySem PySem.Spec L2 PyProof.Rows
theorem valQ_cons (z : KT × V × V) (xs : List (KT × V × V)) (t : KT) : valQ (z :: xs) t = if z.1.eqb t = true then some z.2.2 else valQ xs t := by
  unfold valQ
  rw [List.find?_cons]
  cases h : z.1.eqb t <;> simp
theorem valQ_set {t : KT} {v : V} : ∀ (xs : List (KT × V × V)), (xs.any fun x => x.1.eqb t) = true → valQ (xs.map (setQ t v)) t = some v
  | [], h => by simp at h
  | z :: xs, h => by
    rw [List.map_cons, valQ_cons, (setQ_key t v z).1]
    cases q : z.1.eqb t with
    | true =>
      rw [if_pos rfl]
      unfold setQ
      rw [if_pos q]
    | false =>
      rw [if_neg Bool.false_ne_true]
      rw [List.any_cons, q, Bool.false_or] at h
      exact valQ_set xs h
theorem eqb_ne {a b : KT} (h : a.eqb b = false) : b.eqb a = false := by
  cases q : b.eqb a with
  | false => rfl
  | true =>
    have := eqb_eq _ _ q
    rw [this, eqb_self] at h
    cases h
theorem valQ_setN {t t' : KT} {v : V} (hn : t.eqb t' = false) : ∀ (xs : List (KT × V × V)), valQ (xs.map (setQ t v)) t' = valQ xs t'
  | [] => rfl
  | z :: xs => by
    rw [List.map_cons, valQ_cons, valQ_cons, (setQ_key t v z).1, valQ_setN hn xs]
    cases q : z.1.eqb t' with
    | false => rfl
    | true =>
      have e := eqb_eq _ _ q
      rw [if_pos rfl, if_pos rfl]
      unfold setQ
      rw [e, eqb_ne hn, if_neg Bool.false_ne_true]
theorem valQ_app (xs : List (KT × V × V)) (z : KT × V × V) (t : KT) : valQ (xs ++ [z]) t = match valQ xs t with | some v => some v | none => if z.1.eqb t = true then some z.2.2 else none := by
  induction xs with
  | nil => rw [List.nil_append, valQ_cons]; rfl
  | cons y xs ih =>
    rw [List.cons_append, valQ_cons, valQ_cons, ih]
    cases y.1.eqb t <;> simp
theorem valQ_no {xs : List (KT × V × V)} {t : KT} (h : (xs.any fun x => x.1.eqb t) = false) : valQ xs t = none := valQ_none fun z => by
  rw [any_key.mpr z] at h
  cases h
/-- what a dict tells behind d[t] = v -/
theorem valQ_put (xs : List (KT × V × V)) (t : KT) (y v : V) (t' : KT) : valQ (putQ xs t y v) t' = if t.eqb t' = true then some v else valQ xs t' := by
  unfold putQ
  cases ha : xs.any fun x => x.1.eqb t with
  | true =>
    rw [if_pos rfl]
    cases q : t.eqb t' with
    | true =>
      have e := eqb_eq _ _ q
      subst e
      rw [if_pos rfl, valQ_set xs ha]
    | false => rw [if_neg Bool.false_ne_true, valQ_setN q xs]
  | false =>
    rw [if_neg Bool.false_ne_true, valQ_app]
    cases q : t.eqb t' with
    | true =>
      have e := eqb_eq _ _ q
      subst e
      rw [valQ_no ha]
    | false => cases valQ xs t' <;> rfl
theorem mem_put (xs : List (KT × V × V)) (t : KT) (y v : V) (t' : KT) : t' ∈ (putQ xs t y v).map (·.1) ↔ t' ∈ xs.map (·.1) ∨ t' = t := by
  rw [putQ_keys]
  cases ha : xs.any fun x => x.1.eqb t with
  | true =>
    rw [if_pos rfl]
    exact ⟨.inl, fun z => z.elim id fun e => by rw [e]; exact any_key.mp ha⟩
  | false =>
    rw [if_neg Bool.false_ne_true, List.mem_append, List.mem_singleton]
/-- the keys of dict(ps) -/
theorem mem_fold (t : KT) (ps : List (KT × V × V)) : t ∈ (foldQ ps).map (·.1) ↔ t ∈ ps.map (·.1) := by
  have key : ∀ (ps acc : List (KT × V × V)), t ∈ (ps.foldl (fun acc p => putQ acc p.1 p.2.1 p.2.2) acc).map (·.1) ↔ t ∈ acc.map (·.1) ∨ t ∈ ps.map (·.1) := by
    intro ps
    induction ps with
    | nil => intro acc; simp
    | cons p ps ih =>
      intro acc
      rw [List.foldl_cons, ih, mem_put, List.map_cons, List.mem_cons]
      constructor
      · rintro ((a | b) | c)
        · exact .inl a
        · exact .inr (.inl b)
        · exact .inr (.inr c)
      · rintro (a | b | c)
        · exact .inl (.inl a)
        · exact .inl (.inr b)
        · exact .inr c
  have := key ps []
  simpa [foldQ] using this
/-- what dict(ps ++ qs) tells: of qs first -/
theorem valQ_fold (ps : List (KT × V × V)) (t : KT) : valQ (foldQ ps) t = valQ ps.reverse t := by
  have key : ∀ (qs : List (KT × V × V)), valQ (foldQ qs.reverse) t = valQ qs t := by
    intro qs
    induction qs with
    | nil => rfl
    | cons q qs ih => rw [List.reverse_cons, foldQ_snoc, valQ_put, ih, valQ_cons]
  have := key ps.reverse
  rwa [List.reverse_reverse] at this
/-- of unlike keys the order says nothing -/
theorem valQ_some {xs : List (KT × V × V)} (nd : (xs.map (·.1)).Nodup) {z : KT × V × V} (h : z ∈ xs) : valQ xs z.1 = some z.2.2 := by
  obtain ⟨j, hj⟩ := List.getElem?_of_mem h
  exact valQ_at nd hj
theorem valQ_append (xs ys : List (KT × V × V)) (t : KT) : valQ (xs ++ ys) t = match valQ xs t with | some v => some v | none => valQ ys t := by
  induction xs with
  | nil => rfl
  | cons y xs ih =>
    rw [List.cons_append, valQ_cons, valQ_cons, ih]
    cases y.1.eqb t <;> simp
theorem valQ_rev {xs : List (KT × V × V)} (nd : (xs.map (·.1)).Nodup) (t : KT) : valQ xs.reverse t = valQ xs t := by
  by_cases h : t ∈ xs.map (·.1)
  · obtain ⟨z, hz, rfl⟩ := List.mem_map.mp h
    have nd' : (xs.reverse.map (·.1)).Nodup := by rw [List.map_reverse]; exact List.pairwise_reverse.mpr (nd.imp Ne.symm)
    rw [valQ_some nd hz, valQ_some nd' (List.mem_reverse.mpr hz)]
  · rw [valQ_none h, valQ_none (by rw [List.map_reverse]; exact fun z => h (List.mem_reverse.mp z))]
end Tw
set_option Elab.async false
set_option linter.all false
set_option maxRecDepth 100000
set_option maxHeartbeats 8000000
namespace Tw
open PySem PySem.Spec L2 PyProof.Rows
theorem kg_st : Kg KT.st := ⟨plt_st, cmp_st, 1, fun t => by cases t <;> (rw [KT.st]; exact ⟨_, _, rfl, rfl⟩)⟩
theorem depth_st2 (t : KT) : t.st.depth ≤ 2 * t.depth + 2 := by
  have := depth_st t
  omega
section
variable {P : Program} {w : World} {K : PySem.W.Frag} {mg : Str → Option Value} {base : Heap} {f : Addr} {fd : FuncData}
/-! ### order -/
def spOrder : Sp := fun vs H Q _ => ∃ (l : Addr) (us : List V) (ts : List KT), vs = [.ref l] ∧ H l = some (.lst us) ∧ KeysAt H ts us ∧ (∀ t ∈ ts, t.fits 3 = true) ∧ us.length < 64 ∧ SortK ts H Q
theorem scOrder : FnScope ["keys"] ["keys"] (defScope sOrder) := ⟨rfl, rfl, rfl, by decide +kernel, rfl, by decide +kernel, by decide +kernel⟩
theorem ok_order (F : Fun K "order" "order" sOrder f fd) (T : Txt mg) (DS : DefOk P w K mg base 6 "standing" ["key"] (spSt 5)) : FnOk P w K mg base CX0 9 f fd ["keys"] spOrder := by
  refine F.ok scOrder (fun vs H Q E h => (by obtain ⟨_, _, _, rfl, _⟩ := h; rfl)) (fun cdv A outer s H vs Q E hr h => ?_)
  obtain ⟨l, us, ts, rfl, hl, hk, hf, h64, q⟩ := h
  have DS2 : DefOk P w K mg base 6 "standing" ["key"] (spKg KT.st) := by
    obtain ⟨g, gd, FG, b, kp, m⟩ := DS.ex
    exact ⟨g, gd, FG.imp fun vs H Q E h => by
      obtain ⟨v, t, e, a, c, d⟩ := h
      have := fits_depth t 3 c
      exact ⟨v, t, 3, e, a, c, by omega, d⟩, b, kp, m⟩
  refine ⟨_, pss_one (ps_ret (pe_sortLg kg_st depth_st2 DS2 hr rfl T.sorted rfl (pa_c (pv 0) pa_nil))), ?_⟩
  exact ⟨_, rfl, l, us, ts, rfl, hl, hk, hf, h64, q⟩
end
end Tw
set_option Elab.async false
set_option linter.all false
set_option maxRecDepth 100000
set_option maxHeartbeats 4000000
namespace Tw
open PySem PySem.Spec L2 PyProof.Rows
section
variable {X : Cx}
/-- two lists of keys, != -/
theorem op_neKL {k : Nat} (hr : Room k X.A) : OpR X (compareOp .NotEq) (fun x y H Q => ∃ (a b : Addr) (xs ys : List V) (ts us : List KT), x = .ref a ∧ y = .ref b ∧ SqL X.K H a xs ∧ SqL X.K H b ys ∧ KeysAt H ts xs ∧ KeysAt H us ys ∧ (∀ t ∈ ts, t.fits 3 = true) ∧ Q (.bl (!eqbL ts us)) H) := by
  intro pins s σ H x y v u Q I rx ry h
  obtain ⟨a, b, xs, ys, ts, us, rfl, rfl, h1, h2, k1, k2, hf, q⟩ := h
  cases rx
  cases ry
  obtain ⟨its, r1, p1, z1⟩ := I.list h1
  obtain ⟨its2, r2, p2, z2⟩ := I.list h2
  have l1 := r1.length
  have l2 := r2.length
  have m1 := k1.length
  have m2 := k2.length
  have un := hr.un
  by_cases hl : its.length = its2.length
  · refine PySem.SeqAt.RcNeAt.lists (e := fun j => (ts.getD j (.int 0)).eqb (us.getD j (.int 0))) p1.isList p2.isList (by simpa using hl) (by omega) (fun j g1 g2 => ?_) X.prog X.w X.xe _ ⟨.bl _, H, I, rfl, ?_⟩
    · have j1 : j < xs.length := by simp at g1; omega
      have j2 : j < ys.length := by simp at g2; omega
      obtain ⟨t1, e1, a1⟩ := k1.get (List.getElem?_eq_getElem j1)
      obtain ⟨t2, e2, a2⟩ := k2.get (List.getElem?_eq_getElem j2)
      obtain ⟨u1, f1, b1⟩ := r1.get (List.getElem?_eq_getElem j1)
      obtain ⟨u2, f2, b2⟩ := r2.get (List.getElem?_eq_getElem j2)
      have q1 : its.toArray[j] = u1 := by
        have : its.toArray[j]? = some u1 := by simpa using f1
        rw [Array.getElem?_eq_getElem g1] at this
        exact Option.some.inj this
      have q2 : its2.toArray[j] = u2 := by
        have : its2.toArray[j]? = some u2 := by simpa using f2
        rw [Array.getElem?_eq_getElem g2] at this
        exact Option.some.inj this
      rw [q1, q2, List.getD_eq_getElem?_getD, List.getD_eq_getElem?_getD, e1, e2]
      have dp := fits_depth t1 3 (hf t1 (List.mem_of_getElem? e1))
      exact eqAt_key t1.depth t1 t2 _ _ _ (Nat.le_refl _) (kval_of I _ _ _ a1 b1) (kval_of I _ _ _ a2 b2) (by show X.A.units + 1 + _ < _; omega)
    · have e := eqbL_range ts us
      have hmin : min ts.length us.length = its.toArray.size := by simp; omega
      rw [hmin, show (ts.length == us.length) = true by simp; omega, Bool.and_true] at e
      rw [e]
      exact q
  · refine PySem.SeqAt.RcNeAt.lists_lengths p1.isList p2.isList (by simpa using hl) (by omega) X.prog X.w X.xe _ ⟨.bl _, H, I, rfl, ?_⟩
    have e := eqbL_range ts us
    rw [show (ts.length == us.length) = false by simp; omega, Bool.and_false] at e
    rw [← e] at q
    exact q
end
end Tw
set_option Elab.async false
set_option linter.all false
set_option maxRecDepth 100000
set_option maxHeartbeats 8000000
namespace Tw
open PySem PySem.Spec L2 PyProof.Rows
/-- a row's pair: its key and one of its sides -/
def PrsOf (H : Hp) (sel : Bool) (r : KR) (p : KT × V × V) : Prop := p.1 = r.1 ∧ ∃ a, p.2.2 = .ref a ∧ KSide H (if sel = true then r.2.2 else r.2.1) a
theorem PrQ.tups {H H' : Hp} {u : V} {p : KT × V × V} (h : PrQ H u p) (t : Tups H H') : PrQ H' u p := by
  obtain ⟨tt, e, h1, h2, h3⟩ := h
  exact ⟨tt, e, t _ _ h1, h2.mono t, h3⟩
theorem comp_pairs {K : PySem.W.Frag} {l : Addr} {us : List V} {rs : List KR} {σ : L2.St} {ix : List Nat} {te : TE} {H : Hp} {Q : VK} (sel : Bool) (hl : H l = some (.lst us)) (hp : KRows H rs us) (hd : ∀ r ∈ rs, r.1.depth ≤ 3) (h900 : us.length ≤ 900)
    (step : ∀ (t a b : Addr) (x : V) (H3 : Hp) (R : VK), H3 t = some (.tup [x, .ref a, .ref b]) → (∀ q, H3 q = none → R (.ref q) (upd H3 q (.tup [x, .ref (if sel = true then b else a)]))) → te (cSlots σ ix (.ref t)) H3 R)
    (fin : ∀ (D : Addr) (us' : List V) (ps : List (KT × V × V)) (H3 : Hp), Same H H3 → H D = none → H3 D = some (.lst us') → Paired (PrQ H3) us' ps → Paired (PrsOf H sel) rs ps → Q (.ref D) H3) : cEnd (Itl K l) σ ix tTrue te H Q := by
  have ln := Paired.length hp
  refine comp_map (n := us.length) (fun i z => us[i]? = some z) (fun D i ys H3 => Same H H3 ∧ H D = none ∧ ys.length = i ∧ ∃ ps, Paired (PrQ H3) ys ps ∧ Paired (PrsOf H sel) (rs.take i) ps) (small1000 (by omega))
    (fun D i ys H3 hi hP => ⟨us, us[i], SqL.of (hP.1 _ _ hl), by simp [hi]⟩) (fun D i ys H3 z H4 hi hP hy => ⟨hy.1, hy.2 us (SqL.of (hP.1 _ _ hl))⟩) (fun D ys H3 hP => ⟨us, SqL.of (hP.1 _ _ hl), Nat.le_refl _⟩)
    (fun D hD => ⟨same_new hD _, hD, rfl, [], .nil, .nil⟩) (fun D i ys H3 z eD hl' hi hz hPv R hR => ?_) (fun D ys H3 eD hPv => ?_)
  · obtain ⟨s3, nD, ly, ps, h1, h2⟩ := hPv
    obtain ⟨r, er, t, x, a, b, rfl, ht, hx, ha, hb⟩ := Paired.ixR hp hz
    refine step t a b x H3 R (s3 _ _ ht) fun q nq => ?_
    have g := same_new nq (.tup [x, .ref (if sel = true then b else a)])
    have eq := upd_same (H := H3) (a := q) (o := .tup [x, .ref (if sel = true then b else a)])
    generalize upd H3 q (.tup [x, .ref (if sel = true then b else a)]) = H5 at g eq ⊢
    have eD5 := g _ _ eD
    have s5 := s3.trans g
    have sD : SameX D H5 (upd H5 D (.lst (ys ++ [.ref q]))) := (SameX.refl D H5).upd
    have tD := sD.tups eD5
    refine hR _ H5 eD5 ⟨fun c o e => by rw [upd_ne (ne_of_none e nD)]; exact s5 c o e, nD, by simp [ly], ps ++ [(r.1, x, .ref (if sel = true then b else a))], ?_, ?_⟩
    · exact paired_snoc ⟨q, rfl, tD _ _ eq, (hx.mono (Same.tups s5)).mono tD, hd r (List.mem_of_getElem? er)⟩ (Paired.mapP h1 fun _ _ z => (z.tups (Same.tups g)).tups tD)
    · rw [List.take_add_one, er]
      refine paired_snoc (a := r) ⟨rfl, _, rfl, ?_⟩ h2
      cases sel
      · exact ha
      · exact hb
  · obtain ⟨s3, nD, ly, ps, h1, h2⟩ := hPv
    rw [List.take_of_length_le (by omega)] at h2
    exact fin D ys ps H3 s3 nD eD h1 h2
/-- what the dict of such pairs tells -/
def atK (sel : Bool) (rs : List KR) (k : KT) : Option (List KT) := (rs.find? fun r => r.1.eqb k).map fun r => if sel = true then r.2.2 else r.2.1
theorem val_at {H : Hp} {sel : Bool} {k : KT} : ∀ {rs : List KR} {ps : List (KT × V × V)}, Paired (PrsOf H sel) rs ps → (valQ ps k = none ∧ atK sel rs k = none) ∨ ∃ a ts, valQ ps k = some (.ref a) ∧ atK sel rs k = some ts ∧ KSide H ts a
  | _, _, .nil => .inl ⟨rfl, rfl⟩
  | _, _, .cons (a := r) (b := p) (l₁ := rs) (l₂ := ps) h t => by
    obtain ⟨e, a, ea, ka⟩ := h
    have ih := val_at (k := k) t
    rw [valQ_cons, e]
    unfold atK at ih ⊢
    rw [List.find?_cons]
    cases q : r.1.eqb k with
    | true => exact .inr ⟨a, _, by rw [if_pos rfl, ea], rfl, ka⟩
    | false =>
      rw [if_neg Bool.false_ne_true]
      exact ih
theorem keys_prs {H : Hp} {sel : Bool} : ∀ {rs : List KR} {ps : List (KT × V × V)}, Paired (PrsOf H sel) rs ps → ps.map (·.1) = rs.map (·.1)
  | _, _, .nil => rfl
  | _, _, .cons h t => by rw [List.map_cons, List.map_cons, h.1, keys_prs t]
/-- a row of the first that the second doesn't follow -/
def isSt (ss : List KR) (r : KR) : Bool := match atK false ss r.1 with
  | some o => !eqbL o r.2.2
  | none => false
/-- the first stale key -/
def staleOf (fs ss : List KR) : Option KT := (fs.find? (isSt ss)).map (·.1)
end Tw
set_option Elab.async false
set_option linter.all false
set_option maxRecDepth 100000
set_option maxHeartbeats 8000000
namespace Tw
open PySem PySem.Spec L2 PyProof.Rows
/-- a def whose exceptions keep their field -/
structure DefD (P : Program) (w : World) (K : PySem.W.Frag) (mg : Str → Option Value) (base : Heap) (k : Nat) (x : Str) (ps : List Str) (sp : Sp) : Prop where
  ex : ∃ f fd, FnOk P w K mg base (CXd P w) k f fd ps sp ∧ Binds K fd ps [] ∧ PySem.W.keepIn K (.ref f) = true ∧ mg x = some (.ref f)
theorem Laid.ofD {P : Program} {w : World} {K : PySem.W.Frag} {mg : Str → Option Value} {base : Heap} {x : Str} {st : Stmt} {ps : List Str} {k : Nat} {sp : Sp} (L : Laid K mg x st ps) (h : ∀ f fd, Fun K x x st f fd → FnOk P w K mg base (CXd P w) k f fd ps sp) : DefD P w K mg base k x ps sp := by
  obtain ⟨f, fd, F, b, m⟩ := L.ex
  exact ⟨f, fd, h f fd F, b, F.kp, m⟩
theorem pe_defD {X : Cx} {E : XK} {k : Nat} {x : Str} {ps : List Str} {sp : Sp} {e : Expr} {es : List Expr} {t : TA} {p pos : Pos} (F : FnD X E) (D : DefD X.prog X.w X.K X.mg X.base k x ps sp) (hr : Room k X.A) (ha : PA X (e :: es) t) (hg : Gl X x := by rfl)
    (hdb : (x == ("__debug__" : Str)) = false := by decide) (he : starEach (e :: es) X.env = (false, eval e X.env) :: starEach es X.env := by rfl) (hpl : (backTo pos (starEach es X.env)).any (·.1) = false := by rfl) :
    PE X (.Call (.Name x p) (e :: es) [] pos) (tCall sp [] E t) := by
  obtain ⟨f, fd, FF, b, kp, m⟩ := D.ex
  exact pe_call FF hr hg m kp b .nil (passes_d F fun _ _ _ h => h) ha hdb he hpl
/-- Stale, ready to be raised -/
structure ST (P : Program) (w : World) (K : PySem.W.Frag) (mg : Str → Option Value) (base : Heap) (C : Addr) : Prop where
  ex : ∃ fI fd, ExcF K C fI "key" ∧ FnOk P w K mg base CX0 1 fI fd ["self", "key"] (spInitX K C fI "key") ∧ Binds K fd ["self", "key"] []
  at_ : mg "Stale" = some (.ref C)
  ty : PySem.W.typeIn K (.ref C) = some (.type "type")
theorem ps_stale {X : Cx} {E : XK} {C : Addr} {e : Expr} {es : List Expr} {t : TA} {p cpos pos : Pos} (F : FnD X E) (N : ST X.prog X.w X.K X.mg X.base C) (hr : Room 2 X.A) (ha : PA X (e :: es) t) (hg : Gl X "Stale" := by rfl)
    (he : starEach (e :: es) X.env = (false, eval e X.env) :: starEach es X.env := by rfl) (hpl : (backTo cpos (starEach es X.env)).any (·.1) = false := by rfl) : PS X (.Raise (some (.Call (.Name "Stale" p) (e :: es) [] cpos)) none pos) (sRaiseX C "key" E t) := by
  obtain ⟨fI, fd, c, G, b⟩ := N.ex
  exact ps_raiseX F c N.ty G hr hg N.at_ b ha (by decide) he hpl
theorem stale_step {fs ss : List KR} {i : Nat} {r : KR} (e : fs[i]? = some r) (hb : ∀ j r', j < i → fs[j]? = some r' → isSt ss r' = false) (h : isSt ss r = true) : staleOf fs ss = some r.1 := by
  unfold staleOf
  have : fs.find? (isSt ss) = some r := by
    induction fs generalizing i with
    | nil => simp at e
    | cons z fs ih =>
      rw [List.find?_cons]
      cases i with
      | zero =>
        simp at e
        subst e
        rw [h]
      | succ i =>
        rw [hb 0 z (by omega) rfl]
        exact ih (i := i) (by simpa using e) fun j r' hj e' => hb (j + 1) r' (by omega) (by simpa using e')
  rw [this]
  rfl
theorem stale_none {fs ss : List KR} (hb : ∀ (j : Nat) r', fs[j]? = some r' → isSt ss r' = false) : staleOf fs ss = none := by
  unfold staleOf
  rw [Option.map_eq_none_iff, List.find?_eq_none]
  intro r hr z
  obtain ⟨j, hj⟩ := List.getElem?_of_mem hr
  rw [hb j r hj] at z
  cases z
section
variable {P : Program} {w : World} {K : PySem.W.Frag} {mg : Str → Option Value} {base : Heap} {f : Addr} {fd : FuncData} {C : Addr}
theorem tb_dict : bootBuiltins "dict" = some (.type "dict") := by decide +kernel
/-! ### check_follows -/
def spFollows (C : Addr) : Sp := fun vs H Q E => ∃ (a b : Addr) (us ws : List V) (fs ss : List KR), vs = [.ref a, .ref b] ∧ H a = some (.lst us) ∧ H b = some (.lst ws) ∧ KRows H fs us ∧ KRows H ss ws ∧ FitR fs ∧ FitR ss ∧ (ss.map (·.1)).Nodup ∧ us.length ≤ 60 ∧ ws.length ≤ 60 ∧
  (staleOf fs ss = none → ∀ H', Same H H' → Q .non H') ∧ ∀ k, staleOf fs ss = some k → ∀ dx x H', Same H H' → KeyAt H' k x → H' dx = some (.xd [("key", x)]) → E (.ref C) (some dx) H'
theorem scFollows : FnScope ["first", "second", "olds", "row"] ["first", "second"] (defScope sFollows) := ⟨rfl, rfl, rfl, by decide +kernel, rfl, by decide +kernel, by decide +kernel⟩
theorem ok_follows (F : Fun K "check_follows" "check_follows" sFollows f fd) (T : Txt mg) (N : ST P w K mg base C) : FnOk P w K mg base (CXd P w) 3 f fd ["first", "second"] (spFollows C) := by
  refine F.okD scFollows (fun vs H Q E h => (by obtain ⟨_, _, _, _, _, _, rfl, _⟩ := h; rfl)) (fun cdv A outer s H vs Q E hr h => ?_)
  obtain ⟨a, b, us, ws, fs, ss, rfl, ha, hb, kf, ks, ff, fs', hnd, l1, l2, k1, k2⟩ := h
  have nd := scFollows.nd
  have hu9 := Room.key hr (n := 9) (by decide)
  refine ⟨_, pss_cons (ps_set (i := 2) nd rfl (Or.inl rfl) (pe_callTy (r := rDictQ w) (call_dictQ hr) rfl T.dict tb_dict (pa_c (pe_comp [] [] rfl (pi_list (pv 1)) (fun _ _ _ _ _ => pts_nil) (fun _ _ _ _ _ => pe_tup (pa_c (pe_ix (r := rIxT K) ix_tup (pv 0) pe_int (fun _ _ => rfl)) (pa_c (pe_ix (r := rIxT K) ix_tup (pv 0) pe_int (fun _ _ => rfl)) pa_nil))) trivial) pa_nil)))
    (pss_one (ps_for po_fn rfl (pi_list (pv 0)) (pg_name (i := 3) nd rfl (Or.inl rfl))
      (pss_one (ps_if (pt_cmpR (op_neKL hr) (pe_qget2 hu9 (pv 2) (pe_ix (r := rIxT K) ix_tup (pv 3) pe_int (fun _ _ => rfl)) (pe_ix (r := rIxT K) ix_tup (pv 3) pe_int (fun _ _ => rfl)) ⟨rfl, rfl, rfl, rfl⟩) (pe_ix (r := rIxT K) ix_tup (pv 3) pe_int (fun _ _ => rfl)) (nomark _))
        (pss_one (ps_stale fnd_of N hr (pa_c (pe_ix (r := rIxT K) ix_tup (pv 3) pe_int (fun _ _ => rfl)) pa_nil))) pss_nil)))), ?_⟩
  refine ⟨_, rfl, b, rfl, ⟨ws, SqL.of hb⟩, comp_pairs false hb ks (fun r hr => fits_depth _ 3 (fs' r hr).1) (by omega) (fun t a b x H3 R ht hR => ?_) (fun D us' ps H3 s3 nD hD hp hs => ?_)⟩
  · exact ⟨_, rfl, t, _, _, x, rfl, rfl, SqT.of ht, rfl, _, rfl, t, _, _, .ref a, rfl, rfl, SqT.of ht, rfl, nn (Nat.le_of_ble_eq_true rfl), hR⟩
  have lps : ps.length ≤ 900 := by
    have := Paired.length hs
    have := Paired.length ks
    omega
  have ndp : (ps.map (·.1)).Nodup := by rw [keys_prs hs]; exact hnd
  refine ⟨D, us', ps, rfl, hD, hp, lps, fun O H4 nO s4 dk => ?_⟩
  have s04 := s3.trans s4
  refine ⟨_, rfl, a, rfl, ⟨us, SqL.of (s04 _ _ ha)⟩, for_list (K := K) (a := a) (xs := us) (fun i σ H' => ∃ (o3 : Option V), σ = [some (.ref a), some (.ref b), some (.ref O), o3] ∧ H' = H4 ∧ ∀ j r', j < i → fs[j]? = some r' → isSt ss r' = false) ⟨_, rfl, rfl, fun j r' hj => absurd hj (by omega)⟩ (fun i σ H' _ hP => by obtain ⟨_, _, rfl, _⟩ := hP; exact SqL.of (s04 _ _ ha)) ?_ ?_⟩
  · rintro i u σ H' hu ⟨o3, rfl, rfl, hbe⟩
    obtain ⟨r, er, t, x, c, d, rfl, ht, hx, hc, hd⟩ := Paired.ixR kf hu
    obtain ⟨f1, f2, f3, f4, f5⟩ := ff r (List.mem_of_getElem? er)
    have ht4 := s04 _ _ ht
    have kx := hx.mono (Same.tups s04)
    obtain ⟨zs, hzs, kzs⟩ := hd.same s04
    refine ⟨_, rfl, O, foldQ ps, rfl, dk, _, rfl, t, _, _, x, rfl, rfl, SqT.of ht4, rfl, _, rfl, t, _, _, .ref d, rfl, rfl, SqT.of ht4, rfl, r.1, dk, kx, fits_depth _ 3 f1, ?_⟩
    rw [valQ_fold, valQ_rev ndp]
    have next : isSt ss r = false → ∀ j r', j < i + 1 → fs[j]? = some r' → isSt ss r' = false := fun h j r' hj e' => by
      rcases Nat.lt_or_ge j i with z | z
      · exact hbe j r' z e'
      · have : j = i := by omega
        subst this
        rw [er] at e'
        cases e'
        exact h
    rcases val_at (k := r.1) hs with ⟨e1, e2⟩ | ⟨c', ts, e1, e2, kts⟩
    · rw [e1]
      refine ⟨_, rfl, t, _, _, .ref d, rfl, rfl, SqT.of ht4, rfl, d, d, zs, zs, r.2.2, r.2.2, rfl, rfl, SqL.of hzs, SqL.of hzs, kzs, kzs, f3, _, rfl, ?_⟩
      rw [eqbL_id]
      exact iteF ⟨_, rfl, rfl, next (by unfold isSt; rw [e2])⟩
    · rw [e1]
      obtain ⟨es, hes, kes⟩ := kts.same s04
      have fts : ∀ t ∈ ts, t.fits 3 = true := by
        unfold atK at e2
        obtain ⟨z, hz, ez⟩ := Option.map_eq_some_iff.mp e2
        have := (fs' z (List.mem_of_find?_eq_some hz)).2.1
        rw [← ez]
        exact this
      refine ⟨_, rfl, t, _, _, .ref d, rfl, rfl, SqT.of ht4, rfl, c', d, es, zs, ts, r.2.2, rfl, rfl, SqL.of hes, SqL.of hzs, kes, kzs, fts, _, rfl, ?_⟩
      cases he : eqbL ts r.2.2 with
      | true => exact iteF ⟨_, rfl, rfl, next (by unfold isSt; rw [e2]; show (!eqbL ts r.2.2) = _; rw [he]; rfl)⟩
      | false =>
        refine iteT ⟨_, rfl, t, _, _, x, rfl, rfl, SqT.of ht4, rfl, x, rfl, fun dx hdx => ?_⟩
        have g := same_new hdx (.xd [("key", x)])
        exact k2 r.1 (stale_step er hbe (by unfold isSt; rw [e2]; show (!eqbL ts r.2.2) = _; rw [he]; rfl)) dx x _ (s04.trans g) (kx.mono (Same.tups g)) upd_same
  · rintro σ H' ⟨o3, rfl, rfl, hbe⟩
    exact k1 (stale_none fun j r' e => hbe j r' (by have := (List.getElem?_eq_some_iff.mp e).1; have := Paired.length kf; omega) e) _ s04
end
end Tw
set_option Elab.async false
set_option linter.all false
set_option maxRecDepth 100000
set_option maxHeartbeats 8000000
namespace Tw
open PySem PySem.Spec L2 PyProof.Rows
/-! ### two patches, one behind the other: pure -/
theorem atK_append (sel : Bool) (a b : List KR) (k : KT) : atK sel (a ++ b) k = (atK sel a k).or (atK sel b k) := by
  unfold atK
  rw [List.find?_append]
  cases a.find? fun r => r.1.eqb k <;> rfl
theorem atK_none {sel : Bool} {rs : List KR} {k : KT} : atK sel rs k = none ↔ k ∉ rs.map (·.1) := by
  unfold atK
  rw [Option.map_eq_none_iff, List.find?_eq_none]
  constructor
  · intro h hk
    obtain ⟨r, hr, rfl⟩ := List.mem_map.mp hk
    exact h r hr (eqb_self _)
  · intro h r hr e
    exact h (List.mem_map.mpr ⟨r, hr, eqb_eq _ _ e⟩)
theorem atK_some {sel : Bool} {rs : List KR} {k : KT} {ts : List KT} (h : atK sel rs k = some ts) : ∃ r ∈ rs, r.1 = k ∧ (if sel = true then r.2.2 else r.2.1) = ts := by
  unfold atK at h
  obtain ⟨r, h1, h2⟩ := Option.map_eq_some_iff.mp h
  have := List.find?_some h1
  exact ⟨r, List.mem_of_find?_eq_some h1, eqb_eq _ _ this, h2⟩
theorem atK_one (sel : Bool) (r : KR) (k : KT) : atK sel [r] k = if r.1.eqb k = true then some (if sel = true then r.2.2 else r.2.1) else none := by
  unfold atK
  rw [List.find?_cons]
  cases r.1.eqb k <;> rfl
theorem atK_mem {sel : Bool} {rs : List KR} (nd : (rs.map (·.1)).Nodup) {r : KR} (h : r ∈ rs) : atK sel rs r.1 = some (if sel = true then r.2.2 else r.2.1) := by
  induction rs with
  | nil => simp at h
  | cons z rs ih =>
    rw [List.map_cons, List.nodup_cons] at nd
    have e : atK sel (z :: rs) r.1 = (atK sel [z] r.1).or (atK sel rs r.1) := atK_append sel [z] rs r.1
    rw [e, atK_one]
    rcases List.mem_cons.mp h with rfl | q
    · rw [if_pos (eqb_self _)]; rfl
    · have : z.1.eqb r.1 = false := by
        cases w : z.1.eqb r.1 with
        | false => rfl
        | true => exact absurd (List.mem_map.mpr ⟨r, q, (eqb_eq _ _ w).symm⟩) nd.1
      rw [this, if_neg Bool.false_ne_true]
      exact ih nd.2 q
theorem eqbL_comm (l m : List KT) : eqbL l m = eqbL m l := by
  cases h : eqbL l m with
  | true => rw [eqbL_eq _ _ h, eqbL_self]
  | false =>
    cases q : eqbL m l with
    | false => rfl
    | true =>
      rw [eqbL_eq _ _ q, eqbL_self] at h
      cases h
/-- what stands at a key behind both -/
def rowOf (fs ss : List KR) (k : KT) : KR := (k, ((atK false fs k).or (atK false ss k)).getD [], ((atK true ss k).or (atK true fs k)).getD [])
def bhd (fs ss : List KR) (ks : List KT) : List KR := (ks.map (rowOf fs ss)).filter fun r => !eqbL r.2.1 r.2.2
def Keys2 (fs ss : List KR) (k : KT) : Prop := k ∈ fs.map (·.1) ∨ k ∈ ss.map (·.1)
theorem ris_uniq : ∀ {a b : List KT}, RisK a → RisK b → (∀ k, k ∈ a ↔ k ∈ b) → a = b
  | [], [], _, _, _ => rfl
  | [], y :: b, _, _, h => by simp at h; exact absurd rfl (h y).1
  | x :: a, [], _, _, h => by simp at h; exact absurd rfl (h x).1
  | x :: a, y :: b, ha, hb, h => by
    have ha' := List.pairwise_cons.mp ha
    have hb' := List.pairwise_cons.mp hb
    have e : x = y := by
      rcases List.mem_cons.mp ((h x).mp (List.mem_cons_self ..)) with e | q
      · exact e
      rcases List.mem_cons.mp ((h y).mpr (List.mem_cons_self ..)) with e | q'
      · exact e.symm
      have h1 := hb'.1 x q
      have h2 := ha'.1 y q'
      rw [lt_asym _ _ h1] at h2
      cases h2
    subst e
    have : a = b := ris_uniq ha'.2 hb'.2 fun k => by
      constructor
      · intro hk
        rcases List.mem_cons.mp ((h k).mp (List.mem_cons_of_mem _ hk)) with e | q
        · have := ha'.1 k hk
          rw [e, lt_self] at this
          cases this
        · exact q
      · intro hk
        rcases List.mem_cons.mp ((h k).mpr (List.mem_cons_of_mem _ hk)) with e | q
        · have := hb'.1 k hk
          rw [e, lt_self] at this
          cases this
        · exact q
    rw [this]
theorem ris_nd {ts : List KT} (h : RisK ts) : ts.Nodup := h.imp fun {a b} q e => by rw [e, lt_self] at q; cases q
/-- a row of the second that the first doesn't lead to -/
def isSf (fs : List KR) (r : KR) : Bool := match atK true fs r.1 with
  | some n => !eqbL n r.2.1
  | none => false
def staleL (fs ss : List KR) : List KT := (ss.filter (isSf fs)).map (·.1)
theorem stale_mem {fs ss : List KR} (nf : (fs.map (·.1)).Nodup) (ns : (ss.map (·.1)).Nodup) {k : KT} : k ∈ staleL fs ss ↔ ∃ r ∈ fs, r.1 = k ∧ isSt ss r = true := by
  unfold staleL
  constructor
  · intro h
    obtain ⟨r, hr, rfl⟩ := List.mem_map.mp h
    obtain ⟨h1, h2⟩ := List.mem_filter.mp hr
    unfold isSf at h2
    cases e : atK true fs r.1 with
    | none => rw [e] at h2; cases h2
    | some n =>
      rw [e] at h2
      obtain ⟨r', m', e1, e2⟩ := atK_some e
      refine ⟨r', m', e1, ?_⟩
      unfold isSt
      rw [e1, atK_mem ns h1]
      rw [if_pos rfl] at e2
      rw [e2]
      show (!eqbL r.2.1 n) = true
      rw [eqbL_comm]
      exact h2
  · rintro ⟨r, hr, rfl, h⟩
    unfold isSt at h
    cases e : atK false ss r.1 with
    | none => rw [e] at h; cases h
    | some o =>
      rw [e] at h
      obtain ⟨r', m', e1, e2⟩ := atK_some e
      refine List.mem_map.mpr ⟨r', List.mem_filter.mpr ⟨m', ?_⟩, e1⟩
      unfold isSf
      rw [e1, atK_mem nf hr]
      have e3 : r'.2.1 = o := e2
      rw [e3]
      show (!eqbL r.2.2 o) = true
      rw [eqbL_comm]
      exact h
theorem stale_no {fs ss : List KR} (nf : (fs.map (·.1)).Nodup) (ns : (ss.map (·.1)).Nodup) (h : staleL fs ss = []) : staleOf fs ss = none := by
  unfold staleOf
  rw [Option.map_eq_none_iff, List.find?_eq_none]
  intro r hr q
  have := (stale_mem nf ns).mpr ⟨r, hr, rfl, q⟩
  rw [h] at this
  simp at this
theorem find_first {fs : List KR} (p : KR → Bool) (hr : RisK (fs.map (·.1))) {r0 r : KR} (h0 : fs.find? p = some r0) (h : r ∈ fs) (hp : p r = true) : r0.1.lt r.1 = true ∨ r0 = r := by
  induction fs with
  | nil => simp at h
  | cons z fs ih =>
    rw [List.map_cons] at hr
    have hr' := List.pairwise_cons.mp hr
    rw [List.find?_cons] at h0
    cases e : p z with
    | true =>
      rw [e] at h0
      cases h0
      rcases List.mem_cons.mp h with rfl | q
      · exact .inr rfl
      · exact .inl (hr'.1 _ (List.mem_map.mpr ⟨r, q, rfl⟩))
    | false =>
      rw [e] at h0
      rcases List.mem_cons.mp h with rfl | q
      · rw [e] at hp; cases hp
      · exact ih hr'.2 h0 q
theorem stale_least {fs ss : List KR} (hf : RisK (fs.map (·.1))) (ns : (ss.map (·.1)).Nodup) {m : KT} {tl : List KT} (pm : (m :: tl).Perm (staleL fs ss)) (pw : (m :: tl).Pairwise fun a b => b.lt a = false) : staleOf fs ss = some m := by
  have nf := ris_nd hf
  obtain ⟨r, hr, e1, e2⟩ := (stale_mem nf ns).mp (pm.mem_iff.mp (List.mem_cons_self ..))
  unfold staleOf
  cases h0 : fs.find? (isSt ss) with
  | none => exact absurd e2 (List.find?_eq_none.mp h0 r hr)
  | some r0 =>
    show some r0.1 = some m
    congr 1
    have m0 : r0.1 ∈ m :: tl := pm.mem_iff.mpr ((stale_mem nf ns).mpr ⟨r0, List.mem_of_find?_eq_some h0, rfl, by simpa using List.find?_some h0⟩)
    rcases find_first _ hf h0 hr e2 with q | q
    · rcases List.mem_cons.mp m0 with z | z
      · exact z
      · have := (List.pairwise_cons.mp pw).1 _ z
        rw [e1] at q
        rw [q] at this
        cases this
    · rw [q, e1]
theorem row_fits {fs ss : List KR} (hf : FitR fs) (hs : FitR ss) {k : KT} (hk : Keys2 fs ss k) : (rowOf fs ss k).1.fits 3 = true ∧ (∀ t ∈ (rowOf fs ss k).2.1, t.fits 3 = true) ∧ (∀ t ∈ (rowOf fs ss k).2.2, t.fits 3 = true) ∧ (rowOf fs ss k).2.1.length ≤ 10 ∧ (rowOf fs ss k).2.2.length ≤ 10 := by
  have one : ∀ (sel : Bool) (o : List KT), atK sel fs k = some o ∨ atK sel ss k = some o → (∀ t ∈ o, t.fits 3 = true) ∧ o.length ≤ 10 := by
    rintro sel o (h | h)
    · obtain ⟨r, m, _, e⟩ := atK_some h
      obtain ⟨_, a, b, c, d⟩ := hf r m
      cases sel
      · exact e ▸ ⟨a, c⟩
      · exact e ▸ ⟨b, d⟩
    · obtain ⟨r, m, _, e⟩ := atK_some h
      obtain ⟨_, a, b, c, d⟩ := hs r m
      cases sel
      · exact e ▸ ⟨a, c⟩
      · exact e ▸ ⟨b, d⟩
  have two : ∀ (sel : Bool) (x y : Option (List KT)), (∀ o, x = some o ∨ y = some o → atK sel fs k = some o ∨ atK sel ss k = some o) → (∀ t ∈ (x.or y).getD [], t.fits 3 = true) ∧ ((x.or y).getD []).length ≤ 10 := by
    intro sel x y h
    cases x with
    | some o => exact one sel o (h o (.inl rfl))
    | none =>
      cases y with
      | some o => exact one sel o (h o (.inr rfl))
      | none => exact ⟨fun t ht => by simp at ht, by simp⟩
  have k1 : k.fits 3 = true := by
    rcases hk with q | q
    · obtain ⟨r, hr, rfl⟩ := List.mem_map.mp q
      exact (hf r hr).1
    · obtain ⟨r, hr, rfl⟩ := List.mem_map.mp q
      exact (hs r hr).1
  have h1 := two false (atK false fs k) (atK false ss k) fun o h => h
  have h2 := two true (atK true ss k) (atK true fs k) fun o h => h.symm
  exact ⟨k1, h1.1, h2.1, h1.2, h2.2⟩
theorem bhd_fits {fs ss : List KR} (hf : FitR fs) (hs : FitR ss) {ks : List KT} (hk : ∀ k ∈ ks, Keys2 fs ss k) : FitR (bhd fs ss ks) := by
  intro r hr
  obtain ⟨h1, _⟩ := List.mem_filter.mp hr
  obtain ⟨k, hk', rfl⟩ := List.mem_map.mp h1
  exact row_fits hf hs (hk k hk')
end Tw
set_option Elab.async false
set_option linter.all false
set_option maxRecDepth 100000
set_option maxHeartbeats 4000000
namespace L2
open PySem PySem.Spec PyProof.Rows
section
variable {σ : St} {H : Hp} {ix : List Nat} {te : TE} {Q : VK} {K : PySem.W.Frag}
/-- a comprehension whose test and thing may lay new things -/
theorem comp_gen {J : It} {n : Nat} {tt : TT} (item : Nat → V → Prop) (keep : Nat → Bool) (Pv : Addr → Nat → List V → Hp → Prop) (hn : n < sizeLine)
    (hgo : ∀ D i ys H, i < n → Pv D i ys H → J.go i H) (hy : ∀ D i ys H x H', i < n → Pv D i ys H → J.yld i H x H' → H' = H ∧ item i x) (hstop : ∀ D ys H, Pv D n ys H → J.stop n H)
    (h0 : ∀ D, H D = none → Pv D 0 [] (upd H D (.lst [])))
    (test : ∀ D i ys H x, H D = some (.lst ys) → i < n → item i x → Pv D i ys H → ∀ R : Bool → Hp → Prop, (∀ H2, H2 D = some (.lst ys) → Pv D i ys H2 → R (keep i) H2) → tt (cSlots σ ix x) H R)
    (elt : ∀ D i ys H x, H D = some (.lst ys) → i < n → item i x → keep i = true → Pv D i ys H → ∀ R : VK, (∀ y H3, H3 D = some (.lst ys) → Pv D (i + 1) (ys ++ [y]) (upd H3 D (.lst (ys ++ [y]))) → R y H3) → te (cSlots σ ix x) H R)
    (no : ∀ D i ys H, H D = some (.lst ys) → i < n → keep i = false → Pv D i ys H → Pv D (i + 1) ys H)
    (fin : ∀ D ys H, H D = some (.lst ys) → Pv D n ys H → Q (.ref D) H) : cEnd J σ ix tt te H Q := by
  intro D hD
  refine ⟨fun i m H => m = n - i ∧ i ≤ n ∧ ∃ ys, H D = some (.lst ys) ∧ ys.length ≤ i ∧ Pv D i ys H, ⟨n, rfl, Nat.zero_le _, [], upd_same, Nat.le_refl _, h0 D hD⟩, ?_⟩
  rintro i m H ⟨rfl, hi, ys, e, hl, p⟩
  by_cases hlt : i < n
  · refine .inr ⟨hgo D i ys H hlt p, fun x H' y => ?_⟩
    obtain ⟨rfl, it⟩ := hy D i ys H x H' hlt p y
    refine test D i ys _ x e hlt it p _ fun H2 e2 p2 => ?_
    cases hk : keep i with
    | true =>
      rw [if_pos rfl]
      refine elt D i ys H2 x e2 hlt it hk p2 _ fun y H3 e3 p3 => ?_
      exact ⟨ys, n - (i + 1), e3, by omega, by omega, rfl, hlt, ys ++ [y], upd_same, by rw [List.length_append, List.length_singleton]; omega, p3⟩
    | false =>
      rw [if_neg Bool.false_ne_true]
      exact ⟨n - (i + 1), by omega, rfl, hlt, ys, e2, Nat.le_succ_of_le hl, no D i ys H2 e2 hlt hk p2⟩
  · have e' : i = n := by omega
    subst e'
    exact .inl ⟨hstop D ys H p, fin D ys H e p⟩
end
end L2
set_option Elab.async false
set_option linter.all false
set_option maxRecDepth 100000
set_option maxHeartbeats 8000000
namespace Tw
open PySem PySem.Spec L2 PyProof.Rows
theorem Paired.app {α β : Type} {F : α → β → Prop} : ∀ {l l' : List α} {m m' : List β}, Paired F l m → Paired F l' m' → Paired F (l ++ l') (m ++ m')
  | _, _, _, _, .nil, h => h
  | _, _, _, _, .cons r t, h => .cons r (Paired.app t h)
theorem Paired.split {α β : Type} {F : α → β → Prop} : ∀ {l l' : List α} {m : List β}, Paired F (l ++ l') m → ∃ a b, m = a ++ b ∧ Paired F l a ∧ Paired F l' b
  | [], _, m, h => ⟨[], m, rfl, .nil, h⟩
  | _ :: _, _, _, .cons (b := y) r t => by
    obtain ⟨a, b, e, h1, h2⟩ := Paired.split t
    exact ⟨y :: a, b, by rw [e]; rfl, .cons r h1, h2⟩
/-- what dict([..]) tells of two lists of rows: of the last first -/
theorem fold_at {H : Hp} {sel : Bool} {as bs : List KR} {ps : List (KT × V × V)} (na : (as.map (·.1)).Nodup) (nb : (bs.map (·.1)).Nodup) (h : Paired (PrsOf H sel) (as ++ bs) ps) (k : KT) :
    (valQ (foldQ ps) k = none ∧ (atK sel bs k).or (atK sel as k) = none) ∨ ∃ a ts, valQ (foldQ ps) k = some (.ref a) ∧ (atK sel bs k).or (atK sel as k) = some ts ∧ KSide H ts a := by
  obtain ⟨p1, p2, rfl, h1, h2⟩ := Paired.split h
  have n1 : (p1.map (·.1)).Nodup := by rw [keys_prs h1]; exact na
  have n2 : (p2.map (·.1)).Nodup := by rw [keys_prs h2]; exact nb
  rw [valQ_fold, List.reverse_append, valQ_append, valQ_rev n1, valQ_rev n2]
  rcases val_at (k := k) h2 with ⟨e1, e2⟩ | ⟨a, ts, e1, e2, e3⟩
  · rw [e1, e2]
    exact val_at (k := k) h1
  · rw [e1, e2]
    exact .inr ⟨a, ts, rfl, rfl, e3⟩
theorem fold_key {H : Hp} {sel : Bool} {as bs : List KR} {ps : List (KT × V × V)} (h : Paired (PrsOf H sel) (as ++ bs) ps) (k : KT) : k ∈ (foldQ ps).map (·.1) ↔ k ∈ as.map (·.1) ∨ k ∈ bs.map (·.1) := by
  rw [mem_fold, keys_prs h, List.map_append, List.mem_append]
theorem or_some {α : Type} {x y : Option (List α)} {ts : List α} (h : x.or y = some ts) : (x.or y).getD [] = ts := by rw [h]; rfl
theorem or_key {fs ss : List KR} {sel : Bool} {k : KT} (hk : Keys2 fs ss k) : (atK sel fs k).or (atK sel ss k) ≠ none ∧ (atK sel ss k).or (atK sel fs k) ≠ none := by
  have : atK sel fs k ≠ none ∨ atK sel ss k ≠ none := by
    rcases hk with q | q
    · exact .inl fun z => atK_none.mp z q
    · exact .inr fun z => atK_none.mp z q
  cases h1 : atK sel fs k <;> cases h2 : atK sel ss k <;> simp_all
theorem DkAt.keys {w : World} {H : Hp} {d : Addr} {xs : List (KT × V × V)} (dk : DkAt w H d xs) : KeysAt H (xs.map (·.1)) (xs.map (·.2.1)) := by
  have := dk.key
  clear dk
  induction xs with
  | nil => exact .nil
  | cons z xs ih => exact .cons (this z (List.mem_cons_self ..)).1 (ih fun z hz => this z (List.mem_cons_of_mem _ hz))
/-- in a comprehension the world and the written part must be named -/
theorem pe_qgetW {X : Cx} {w : World} {o i : Expr} {pos : Pos} {td ty : TE} (hu : X.A.units + 5 < cLine) (ho : PE X o td) (hi : PE X i ty) (hs : NoSl i) (hw : X.w = w := by rfl) : PE X (.Subscript o i pos) (tQGet w td ty) := by
  subst hw
  exact pe_qget hu ho hi hs
def rNeKL (K : PySem.W.Frag) : R2 := fun x y H Q => ∃ (a b : Addr) (xs ys : List V) (ts us : List KT), x = .ref a ∧ y = .ref b ∧ SqL K H a xs ∧ SqL K H b ys ∧ KeysAt H ts xs ∧ KeysAt H us ys ∧ (∀ t ∈ ts, t.fits 3 = true) ∧ Q (.bl (!eqbL ts us)) H
theorem op_neKLK {X : Cx} {K : PySem.W.Frag} {k : Nat} (hr : Room k X.A) (hK : X.K = K := by rfl) : OpR X (compareOp .NotEq) (rNeKL K) := by
  subst hK
  exact op_neKL hr
section
variable {P : Program} {w : World} {K : PySem.W.Frag} {mg : Str → Option Value} {base : Heap} {f : Addr} {fd : FuncData} {C : Addr}
/-! ### behind -/
def spBehind (C : Addr) : Sp := fun vs H Q E => ∃ (a b : Addr) (us ws : List V) (fs ss : List KR), vs = [.ref a, .ref b] ∧ H a = some (.lst us) ∧ H b = some (.lst ws) ∧ KRows H fs us ∧ KRows H ss ws ∧ FitR fs ∧ FitR ss ∧ (fs.map (·.1)).Nodup ∧ (ss.map (·.1)).Nodup ∧ us.length ≤ 30 ∧ ws.length ≤ 30 ∧
  (staleOf fs ss = none → ∀ ks, RisK ks → (∀ k, k ∈ ks ↔ Keys2 fs ss k) → ks.length ≤ 60 → NewRows H (bhd fs ss ks) Q) ∧ ∀ k, staleOf fs ss = some k → ∀ dx x H', Same H H' → KeyAt H' k x → H' dx = some (.xd [("key", x)]) → E (.ref C) (some dx) H'
abbrev nBehind : List Str := ["first", "second", "olds", "news", "rows"]
theorem scBehind : FnScope nBehind ["first", "second"] (defScope sBehind) := ⟨rfl, rfl, rfl, by decide +kernel, rfl, by decide +kernel, by decide +kernel⟩
theorem NewR.same {D : Addr} {n : Nat} {Hb H H' : Hp} {u : V} (h : NewR D n Hb H u) (s : Same H H') : NewR D n Hb H' u := by
  obtain ⟨t, x, a, b, xs, ys, e, h1, h2, h3, r⟩ := h
  exact ⟨t, x, a, b, xs, ys, e, s _ _ h1, s _ _ h2, s _ _ h3, r⟩
/-- the last of it: rows whose sides are alike are left out -/
theorem comp_unlike {R : Addr} {us : List V} {rs : List KR} {σ : L2.St} {tt : TT} {Hb H : Hp} {Q : VK} (sb : Same Hb H) (hR : H R = some (.lst us)) (hp : KRows H rs us) (hnew : ∀ u ∈ us, NewR R 10 Hb H u) (h900 : us.length ≤ 900)
    (test : ∀ (t a b : Addr) (x : V) (r : KR) (H3 : Hp) (B : Bool → Hp → Prop), H3 t = some (.tup [x, .ref a, .ref b]) → r ∈ rs → KSide H3 r.2.1 a → KSide H3 r.2.2 b → B (!eqbL r.2.1 r.2.2) H3 → tt (cSlots σ [] (.ref t)) H3 B)
    (q : NewRows Hb (rs.filter fun r => !eqbL r.2.1 r.2.2) Q) : cEnd (Itl K R) σ [] tt (tVar 0) H Q := by
  have ln := Paired.length hp
  refine comp_gen (n := us.length) (fun i z => us[i]? = some z) (fun i => match rs[i]? with | some r => !eqbL r.2.1 r.2.2 | none => false)
    (fun D i ys H3 => Same H H3 ∧ H D = none ∧ Paired (KRow H) ((rs.take i).filter fun r => !eqbL r.2.1 r.2.2) ys ∧ ∀ u ∈ ys, u ∈ us) (small1000 (by omega))
    (fun D i ys H3 hi hP => ⟨us, us[i], SqL.of (hP.1 _ _ hR), by simp [hi]⟩) (fun D i ys H3 z H4 hi hP hy => ⟨hy.1, hy.2 us (SqL.of (hP.1 _ _ hR))⟩) (fun D ys H3 hP => ⟨us, SqL.of (hP.1 _ _ hR), Nat.le_refl _⟩)
    (fun D hD => ⟨same_new hD _, hD, .nil, fun u hu => by simp at hu⟩) (fun D i ys H3 z eD hi hz hPv B hB => ?_) (fun D i ys H3 z eD hi hz hk hPv B hB => ?_) (fun D i ys H3 eD hi hk hPv => ?_) (fun D ys H3 eD hPv => ?_)
  · obtain ⟨s3, nD, hys, hin⟩ := hPv
    obtain ⟨r, er, t, x, a, b, rfl, ht, hx, ha, hb⟩ := Paired.ixR hp hz
    have hB' := hB H3 eD ⟨s3, nD, hys, hin⟩
    simp only [er] at hB'
    exact test t a b x r H3 B (s3 _ _ ht) (List.mem_of_getElem? er) (ha.same s3) (hb.same s3) hB'
  · obtain ⟨s3, nD, hys, hin⟩ := hPv
    obtain ⟨r, er, hrow⟩ := Paired.ixR hp hz
    simp only [er] at hk
    refine ⟨_, rfl, hB _ H3 eD ⟨fun c o e => by rw [upd_ne (ne_of_none e nD)]; exact s3 c o e, nD, ?_, fun u hu => ?_⟩⟩
    · rw [List.take_add_one, er, Option.toList_some, List.filter_append]
      have : [r].filter (fun r => !eqbL r.2.1 r.2.2) = [r] := by rw [List.filter_cons, if_pos hk]; rfl
      rw [this]
      exact paired_snoc hrow hys
    · rcases List.mem_append.mp hu with w | w
      · exact hin u w
      · rw [List.mem_singleton.mp w]
        exact List.mem_of_getElem? hz
  · obtain ⟨s3, nD, hys, hin⟩ := hPv
    refine ⟨s3, nD, ?_, hin⟩
    have hi' : i < rs.length := by omega
    have er : rs[i]? = some rs[i] := List.getElem?_eq_getElem hi'
    simp only [er] at hk
    rw [List.take_add_one, er, Option.toList_some, List.filter_append]
    have : [rs[i]].filter (fun r => !eqbL r.2.1 r.2.2) = [] := by rw [List.filter_cons, if_neg (by rw [hk]; exact Bool.false_ne_true)]; rfl
    rw [this, List.append_nil]
    exact hys
  · obtain ⟨s3, nD, hys, hin⟩ := hPv
    rw [List.take_of_length_le (by omega)] at hys
    refine q D ys H3 (sb.trans s3) (Same.free sb nD) eD (Paired.mapP hys fun _ _ z => z.same s3) fun u hu => ?_
    obtain ⟨t, x, a, b, xs, ys', e, h1, h2, h3, l1, l2, n1, n2, _⟩ := hnew u (hin u hu)
    exact ⟨t, x, a, b, xs, ys', e, s3 _ _ h1, s3 _ _ h2, s3 _ _ h3, l1, l2, n1, n2, (fun z => by rw [z, nD] at h2; cases h2), (fun z => by rw [z, nD] at h3; cases h3)⟩
theorem ok_behind (F : Fun K "behind" "behind" sBehind f fd) (T : Txt mg) (DF : DefD P w K mg base 3 "check_follows" ["first", "second"] (spFollows C)) (DO : DefOk P w K mg base 9 "order" ["keys"] spOrder) : FnOk P w K mg base (CXd P w) 10 f fd ["first", "second"] (spBehind C) := by
  refine F.okD scBehind (fun vs H Q E h => (by obtain ⟨_, _, _, _, _, _, rfl, _⟩ := h; rfl)) (fun cdv A outer s H vs Q E hr h => ?_)
  obtain ⟨a, b, us, ws, fs, ss, rfl, ha, hb, kf, ks, ff, fs', nf, ns, l1, l2, k1, k2⟩ := h
  have nd := scBehind.nd
  have hu5 := Room.key hr (n := 5) (by decide)
  have hr3 := hr.mono (show 3 ≤ 9 by decide)
  refine ⟨_, pss_cons (ps_expr (pe_defD fnd_of DF hr3 (pa_c (pv 0) (pa_c (pv 1) pa_nil))))
    (pss_cons (ps_set (i := 2) nd rfl (Or.inr rfl) (pe_callTy (r := rDictQ w) (call_dictQ hr) rfl T.dict tb_dict (pa_c (pe_comp [] [] rfl (pi_list (pe_op op_cat (pv 1) (pv 0))) (fun _ _ _ _ _ => pts_nil) (fun _ _ _ _ _ => pe_tup (pa_c (pe_ix (r := rIxT K) ix_tup (pv 0) pe_int (fun _ _ => rfl)) (pa_c (pe_ix (r := rIxT K) ix_tup (pv 0) pe_int (fun _ _ => rfl)) pa_nil))) trivial) pa_nil)))
    (pss_cons (ps_set (i := 3) nd rfl (Or.inr rfl) (pe_callTy (r := rDictQ w) (call_dictQ hr) rfl T.dict tb_dict (pa_c (pe_comp [] [] rfl (pi_list (pe_op op_cat (pv 0) (pv 1))) (fun _ _ _ _ _ => pts_nil) (fun _ _ _ _ _ => pe_tup (pa_c (pe_ix (r := rIxT K) ix_tup (pv 0) pe_int (fun _ _ => rfl)) (pa_c (pe_ix (r := rIxT K) ix_tup (pv 0) pe_int (fun _ _ => rfl)) pa_nil))) trivial) pa_nil)))
    (pss_cons (ps_setComp (i := 4) [2, 3] ["olds", "news"] nd rfl rfl rfl (pi_list (pe_def DO hr (pa_c (pe_callTy (r := rListQ w) (call_listQ rfl) rfl T.list tb_list (pa_c (pv 2) pa_nil)) pa_nil))) (fun _ _ _ _ _ => pts_nil)
      (fun _ _ _ _ _ => pe_tup (pa3 (pv 0) (pe_callTy (r := rListOf K) call_listOf rfl T.list tb_list (pa_c (pe_qgetW (w := w) hu5 (pv 1) (pv 0) (fun _ _ => rfl)) pa_nil)) (pe_callTy (r := rListOf K) call_listOf rfl T.list tb_list (pa_c (pe_qgetW (w := w) hu5 (pv 2) (pv 0) (fun _ _ => rfl)) pa_nil)))) ⟨rfl, .inl rfl, rfl, rfl, .inl rfl, rfl, trivial⟩)
    (pss_one (ps_ret (pe_comp [] [] rfl (pi_list (pv 4)) (fun _ _ _ _ _ => pts_one (pt_cmpR (r := rNeKL K) (op_neKLK hr) (pe_ix (r := rIxT K) ix_tup (pv 0) pe_int (fun _ _ => rfl)) (pe_ix (r := rIxT K) ix_tup (pv 0) pe_int (fun _ _ => rfl)) (nomark _))) (fun _ _ _ _ _ => pv 0) trivial)))))), ?_⟩
  have lf := Paired.length kf
  have ls := Paired.length ks
  refine ⟨_, rfl, _, rfl, a, b, us, ws, fs, ss, rfl, ha, hb, kf, ks, ff, fs', ns, by omega, by omega, fun hst H1 s1 => ?_, k2⟩
  have fits : ∀ k, Keys2 fs ss k → k.fits 3 = true := fun k hk => (row_fits ff fs' hk).1
  refine ⟨_, rfl, _, rfl, b, a, ws, us, rfl, rfl, s1 _ _ hb, s1 _ _ ha, nn (by omega), fun p1 np1 => ?_⟩
  have g1 := same_new np1 (.lst (ws ++ us))
  have e1 := upd_same (H := H1) (a := p1) (o := .lst (ws ++ us))
  generalize upd H1 p1 (.lst (ws ++ us)) = H2 at g1 e1 ⊢
  have s2 := s1.trans g1
  have kA : KRows H2 (ss ++ fs) (ws ++ us) := Paired.app (KRows.same ks s2) (KRows.same kf s2)
  have kB : KRows H2 (fs ++ ss) (us ++ ws) := Paired.app (KRows.same kf s2) (KRows.same ks s2)
  have hdA : ∀ r ∈ ss ++ fs, r.1.depth ≤ 3 := fun r hr => (List.mem_append.mp hr).elim (fun q => fits_depth _ 3 (fs' r q).1) (fun q => fits_depth _ 3 (ff r q).1)
  have hdB : ∀ r ∈ fs ++ ss, r.1.depth ≤ 3 := fun r hr => hdA r (List.mem_append.mpr (List.mem_append.mp hr).symm)
  refine ⟨p1, rfl, ⟨_, SqL.of e1⟩, comp_pairs false e1 kA hdA (by simp; omega) (fun t a b x H3 R ht hR => ?_) (fun D1 us1 ps1 H3 s3 nD1 hD1 hp1 hs1 => ?_)⟩
  · exact ⟨_, rfl, t, _, _, x, rfl, rfl, SqT.of ht, rfl, _, rfl, t, _, _, .ref a, rfl, rfl, SqT.of ht, rfl, nn (Nat.le_of_ble_eq_true rfl), hR⟩
  have lp1 : ps1.length ≤ 60 := by
    have := Paired.length hs1
    simp at this
    omega
  refine ⟨D1, us1, ps1, rfl, hD1, hp1, by omega, fun O1 H4 nO1 s4 dk1 => ?_⟩
  have s24 := s3.trans s4
  have s14 := g1.trans s24
  have s04 := s1.trans s14
  refine ⟨_, rfl, _, rfl, a, b, us, ws, rfl, rfl, s04 _ _ ha, s04 _ _ hb, nn (by omega), fun p2 np2 => ?_⟩
  have g2 := same_new np2 (.lst (us ++ ws))
  have e2 := upd_same (H := H4) (a := p2) (o := .lst (us ++ ws))
  generalize upd H4 p2 (.lst (us ++ ws)) = H5 at g2 e2 ⊢
  have s25 := s24.trans g2
  refine ⟨p2, rfl, ⟨_, SqL.of e2⟩, comp_pairs true e2 (KRows.same kB s25) hdB (by simp; omega) (fun t a b x H3 R ht hR => ?_) (fun D2 us2 ps2 H6 s6 nD2 hD2 hp2 hs2 => ?_)⟩
  · exact ⟨_, rfl, t, _, _, x, rfl, rfl, SqT.of ht, rfl, _, rfl, t, _, _, .ref b, rfl, rfl, SqT.of ht, rfl, nn (Nat.le_of_ble_eq_true rfl), hR⟩
  have lp2 : ps2.length ≤ 60 := by
    have := Paired.length hs2
    simp at this
    omega
  refine ⟨D2, us2, ps2, rfl, hD2, hp2, by omega, fun O2 H7 nO2 s7 dk2 => ?_⟩
  have s47 := g2.trans (s6.trans s7)
  have dk1' := dk1.same s47
  have lk : (foldQ ps1).length ≤ 60 := by
    have := (foldQ_facts ps1.length ps1 hp1).2.2
    rw [List.take_length] at this
    omega
  refine ⟨_, rfl, O1, foldQ ps1, rfl, dk1', by omega, fun l nl => ?_⟩
  have g8 := same_new nl (.lst ((foldQ ps1).map (·.2.1)))
  have dk1l := dk1'.same g8
  have km : ∀ k, k ∈ (foldQ ps1).map (·.1) ↔ Keys2 fs ss k := fun k => (fold_key hs1 k).trans Or.comm
  refine ⟨l, _, _, rfl, upd_same, dk1l.keys, fun t ht => fits t ((km t).mp ht), by rw [List.length_map]; omega, fun S vs' rs H9 s9 nS hS ka pm pw => ?_⟩
  have rk : ∀ k, k ∈ rs ↔ Keys2 fs ss k := fun k => pm.mem_iff.trans (km k)
  have rris : RisK rs := ris_of (pm.nodup_iff.mpr dk1'.nd) pw
  have s79 := g8.trans s9
  have dkA := dk1'.same s79
  have dkB := dk2.same s79
  have lrs : rs.length ≤ 60 := by rw [pm.length_eq, List.length_map]; exact lk
  have lvs := ka.length
  have s09 := (s04.trans s47).trans s79
  have s29 := (s24.trans s47).trans s79
  have s59 := (s6.trans s7).trans s79
  have sd : ∀ k, Keys2 fs ss k → ∃ a b, valQ (foldQ ps1) k = some (.ref a) ∧ KSide H9 (rowOf fs ss k).2.1 a ∧ valQ (foldQ ps2) k = some (.ref b) ∧ KSide H9 (rowOf fs ss k).2.2 b := fun k hk => by
    rcases fold_at ns nf hs1 k with ⟨_, z⟩ | ⟨a, ts, v1, v2, v3⟩
    · exact absurd z (or_key hk).1
    rcases fold_at nf ns hs2 k with ⟨_, z⟩ | ⟨b, ts', w1, w2, w3⟩
    · exact absurd z (or_key hk).2
    refine ⟨a, b, v1, ?_, w1, ?_⟩
    · show KSide H9 (((atK false fs k).or (atK false ss k)).getD []) a
      rw [or_some v2]
      exact v3.same s29
    · show KSide H9 (((atK true ss k).or (atK true fs k)).getD []) b
      rw [or_some w2]
      exact w3.same s59
  have hsh : ∀ k, Keys2 fs ss k → (rowOf fs ss k).2.1.length ≤ 10 ∧ (rowOf fs ss k).2.2.length ≤ 10 := fun k hk => (row_fits ff fs' hk).2.2.2
  refine ⟨S, rfl, ⟨_, SqL.of hS⟩, comp_map (n := vs'.length) (fun i z => vs'[i]? = some z) (fun D i ys H3 => Same H9 H3 ∧ H9 D = none ∧ ys.length = i ∧ Paired (KRowD D H3) ((rs.map (rowOf fs ss)).take i) ys ∧ ∀ u ∈ ys, NewR D 10 H9 H3 u) (small1000 (by omega))
    (fun D i ys H3 hi hP => ⟨vs', vs'[i], SqL.of (hP.1 _ _ hS), by simp [hi]⟩) (fun D i ys H3 z H4 hi hP hy => ⟨hy.1, hy.2 vs' (SqL.of (hP.1 _ _ hS))⟩) (fun D ys H3 hP => ⟨vs', SqL.of (hP.1 _ _ hS), Nat.le_refl _⟩)
    (fun D hD => ⟨same_new hD _, hD, rfl, .nil, fun u hu => by simp at hu⟩) (fun D i ys H3 z eD hl' hi hz hPv R hR => ?_) (fun D ys H3 eD hPv => ?_)⟩
  · obtain ⟨s3, nD, ly, hys, hnew⟩ := hPv
    obtain ⟨t, et, kt⟩ := ka.get hz
    have hk : Keys2 fs ss t := (rk t).mp (List.mem_of_getElem? et)
    obtain ⟨a, b, v1, ⟨xs, ha', kx⟩, w1, ⟨zs, hb', kz⟩⟩ := sd t hk
    have hsh' := hsh t hk
    have lx := kx.length
    have lz := kz.length
    have dt := fits_depth t 3 (fits t hk)
    refine ⟨_, rfl, _, rfl, _, rfl, O1, _, t, .ref a, rfl, dkA.same s3, kt.mono (Same.tups s3) _ _, dt, v1, a, xs, rfl, .inl (SqL.of (s3 _ _ ha')), fun a' na' => ?_⟩
    have g1 := same_new na' (.lst xs)
    refine ⟨_, rfl, _, rfl, O2, _, t, .ref b, rfl, (dkB.same s3).same g1, kt.mono (Same.tups (s3.trans g1)) _ _, dt, w1, b, zs, rfl, .inl (SqL.of (g1 _ _ (s3 _ _ hb'))), fun b' nb' => ⟨nn (Nat.le_of_ble_eq_true rfl), fun t' nt' => ?_⟩⟩
    have g2 := same_new nb' (.lst zs)
    have g3 := same_new nt' (.tup [z, .ref a', .ref b'])
    have g := (g1.trans g2).trans g3
    have ea := (g2.trans g3) _ _ (upd_same (H := H3) (a := a') (o := .lst xs))
    have eb := g3 _ _ (upd_same (H := upd H3 a' (.lst xs)) (a := b') (o := .lst zs))
    have et' := upd_same (H := upd (upd H3 a' (.lst xs)) b' (.lst zs)) (a := t') (o := .tup [z, .ref a', .ref b'])
    have na0 : H9 a' = none := Same.free s3 na'
    have nb0 : H9 b' = none := Same.free (s3.trans g1) nb'
    generalize upd (upd (upd H3 a' (.lst xs)) b' (.lst zs)) t' (.tup [z, .ref a', .ref b']) = H5 at g ea eb et' ⊢
    have eD5 := g _ _ eD
    have s5 := s3.trans g
    have aD : a' ≠ D := fun z => by rw [z, eD] at na'; cases na'
    have bD : b' ≠ D := fun z => by rw [z, g1 _ _ eD] at nb'; cases nb'
    have sD : SameX D H5 (upd H5 D (.lst (ys ++ [.ref t']))) := (SameX.refl D H5).upd
    have tD := sD.tups eD5
    have tu := Same.tups s5
    refine hR _ H5 eD5 ⟨fun c o e => by rw [upd_ne (ne_of_none e nD)]; exact s5 c o e, nD, by simp [ly], ?_, fun u hu => ?_⟩
    · rw [List.take_add_one, List.getElem?_map, et]
      have h1 : Paired (KRowD D (upd H5 D (.lst (ys ++ [.ref t'])))) ((rs.map (rowOf fs ss)).take i) ys := Paired.mapP hys fun _ _ z => (z.put (SameX.of g) (Same.tups g)).put sD tD
      exact paired_snoc (a := rowOf fs ss t) (KRowD.put (r := rowOf fs ss t) ⟨t', z, a', b', xs, zs, rfl, et', kt.mono tu _ _, ea, kx.mono tu _ _, eb, kz.mono tu _ _, aD, bD⟩ sD tD) h1
    · rcases List.mem_append.mp hu with w | w
      · obtain ⟨t, x, a, b, xs, ys', e, h1, h2, h3, m1, m2, m3, m4, m5, m6⟩ := hnew u w
        exact ⟨t, x, a, b, xs, ys', e, tD _ _ (g _ _ h1), sD _ _ (g _ _ h2) m5, sD _ _ (g _ _ h3) m6, m1, m2, m3, m4, m5, m6⟩
      · rw [List.mem_singleton] at w
        exact ⟨t', z, a', b', xs, zs, w, tD _ _ et', sD _ _ ea aD, sD _ _ eb bD, by omega, by omega, na0, nb0, aD, bD⟩
  · obtain ⟨s3, nD, ly, hys, hnew⟩ := hPv
    rw [List.take_of_length_le (by rw [List.length_map]; omega)] at hys
    refine ⟨_, rfl, D, rfl, ⟨ys, SqL.of eD⟩, ?_⟩
    have lys : ys.length ≤ 900 := by omega
    have s0 := s09.trans s3
    refine comp_unlike (rs := rs.map (rowOf fs ss)) s0 eD (Paired.mapP hys fun _ _ z => z.row) (fun u hu => ?_) lys (fun t a b x r H3 B ht hr' ha hb hB => ?_) (k1 hst rs rris rk lrs)
    · obtain ⟨t, x, a, b, xs, ys', e, h1, h2, h3, m1, m2, m3, m4, m5⟩ := hnew u hu
      exact ⟨t, x, a, b, xs, ys', e, h1, h2, h3, m1, m2, Same.free s09 m3, Same.free s09 m4, m5⟩
    · obtain ⟨k, hk, rfl⟩ := List.mem_map.mp hr'
      obtain ⟨xs, hx, kx⟩ := ha
      obtain ⟨zs, hz, kz⟩ := hb
      exact ⟨_, rfl, t, _, _, .ref a, rfl, rfl, SqT.of ht, rfl, _, rfl, t, _, _, .ref b, rfl, rfl, SqT.of ht, rfl, a, b, xs, zs, _, _, rfl, rfl, SqL.of hx, SqL.of hz, kx, kz, (row_fits ff fs' ((rk k).mp hk)).2.1, _, rfl, hB⟩
end
end Tw
set_option Elab.async false
set_option linter.all false
set_option maxRecDepth 100000
set_option maxHeartbeats 8000000
namespace Tw
open PySem PySem.Spec L2 PyProof.Rows
/-! ### places that a patch in the making must keep away from -/
def NA (p a b : Addr) (c : Addr) : Prop := c = p ∨ c = a ∨ c = b
def SmN (N : Addr → Prop) (H H' : Hp) : Prop := Tups H H' ∧ ∀ b o, H b = some o → ¬ N b → H' b = some o
theorem SmN.same {N : Addr → Prop} {H H' : Hp} (s : Same H H') : SmN N H H' := ⟨Same.tups s, fun b o e _ => s b o e⟩
theorem SmN.well {p a b : Addr} {H H' : Hp} (W : WellAt H p) (s : SameX p H H') : SmN (NA p a b) H H' := ⟨s.tupsW W, fun c o e n => s c o e fun z => n (.inl z)⟩
theorem SmN.list {N : Addr → Prop} {H : Hp} {a : Addr} {us zs : List V} (h : H a = some (.lst us)) (hN : N a) : SmN N H (upd H a (.lst zs)) :=
  ⟨(SameX.refl a H).upd.tups h, fun b o e n => by rw [upd_ne (show b ≠ a from fun z => n (by rw [z]; exact hN))]; exact e⟩
structure Sd (N : Addr → Prop) (H : Hp) (ts : List KT) (a : Addr) : Prop where
  ks : KSide H ts a
  off : ¬ N a
  fit : ∀ t ∈ ts, t.fits 3 = true
  len : ts.length ≤ 10
theorem Sd.go {N : Addr → Prop} {H H' : Hp} {ts : List KT} {a : Addr} (h : Sd N H ts a) (s : SmN N H H') : Sd N H' ts a := by
  obtain ⟨⟨xs, e, k⟩, off, fit, len⟩ := h
  exact ⟨⟨xs, s.2 _ _ e off, k.mono s.1 _ _⟩, off, fit, len⟩
def KRowA (N : Addr → Prop) (H : Hp) (r : KR) (u : V) : Prop := ∃ t x a b, u = .ref t ∧ H t = some (.tup [x, .ref a, .ref b]) ∧ KeyAt H r.1 x ∧ r.1.fits 3 = true ∧ Sd N H r.2.1 a ∧ Sd N H r.2.2 b
theorem KRowA.go {N : Addr → Prop} {H H' : Hp} {r : KR} {u : V} (h : KRowA N H r u) (s : SmN N H H') : KRowA N H' r u := by
  obtain ⟨t, x, a, b, e, h1, h2, h3, h4, h5⟩ := h
  exact ⟨t, x, a, b, e, s.1 _ _ h1, h2.mono s.1 _ _, h3, Sd.go h4 s, Sd.go h5 s⟩
theorem KRowA.row {N : Addr → Prop} {H : Hp} {r : KR} {u : V} (h : KRowA N H r u) : KRow H r u := by
  obtain ⟨t, x, a, b, e, h1, h2, h3, h4, h5⟩ := h
  exact ⟨t, x, a, b, e, h1, h2, h4.ks, h5.ks⟩
theorem rowsA_fit {N : Addr → Prop} {H : Hp} {rs : List KR} {us : List V} (h : Paired (KRowA N H) rs us) : FitR rs := by
  intro r hr
  obtain ⟨j, hj⟩ := List.getElem?_of_mem hr
  obtain ⟨h0, _⟩ := List.getElem?_eq_some_iff.mp hj
  have ln := Paired.length h
  obtain ⟨r', e', t, x, a, b, _, _, _, h3, h4, h5⟩ := Paired.ixR h (List.getElem?_eq_getElem (i := j) (by omega))
  rw [hj] at e'
  cases e'
  exact ⟨h3, h4.fit, h5.fit, h4.len, h5.len⟩
/-- two patches in the making -/
structure RdA (H0 H : Hp) (p D a b : Addr) (vs : List V) (ts : List KT) (us ws : List V) (fs ss : List KR) (i j : Nat) : Prop where
  w : WellAt H p
  sx : SameX p H0 H
  fa : H0 a = none
  fb : H0 b = none
  pa : a ≠ p
  pb : b ≠ p
  ab : a ≠ b
  pD : D ≠ p
  aD : D ≠ a
  bD : D ≠ b
  hD : H D = some (.lst vs)
  ha : H a = some (.lst us)
  hb : H b = some (.lst ws)
  kt : KeysAt H ts vs
  ft : ∀ t ∈ ts, t.fits 3 = true
  lt : ts.length ≤ 6
  ka : Paired (KRowA (NA p a b) H) fs us
  kb : Paired (KRowA (NA p a b) H) ss ws
  sa : (fs.map (·.1)).Sublist (ts.take i)
  sb : (ss.map (·.1)).Sublist (ts.take j)
section
variable {H0 H H' : Hp} {p D a b : Addr} {vs : List V} {ts : List KT} {us ws : List V} {fs ss : List KR} {i j : Nat}
theorem RdA.go (r : RdA H0 H p D a b vs ts us ws fs ss i j) (s : SameX p H H') (w : WellAt H' p) : RdA H0 H' p D a b vs ts us ws fs ss i j :=
  have m : SmN (NA p a b) H H' := SmN.well r.w s
  ⟨w, r.sx.trans s, r.fa, r.fb, r.pa, r.pb, r.ab, r.pD, r.aD, r.bD, s _ _ r.hD r.pD, s _ _ r.ha r.pa, s _ _ r.hb r.pb, r.kt.mono m.1 _ _, r.ft, r.lt, Paired.mapP r.ka fun _ _ z => KRowA.go z m, Paired.mapP r.kb fun _ _ z => KRowA.go z m, r.sa, r.sb⟩
theorem RdA.new (r : RdA H0 H p D a b vs ts us ws fs ss i j) {c : Addr} (h : H c = none) : ¬ NA p a b c := by
  rintro (z | z | z)
  · exact well_ne r.w h z
  · rw [z, r.ha] at h; cases h
  · rw [z, r.hb] at h; cases h
theorem take_more (ts : List KT) (i : Nat) : (ts.take i).Sublist (ts.take (i + 1)) := by
  rw [List.take_add_one]
  exact List.sublist_append_left _ _
theorem take_put {l ts : List KT} {i : Nat} {k : KT} (h : l.Sublist (ts.take i)) (e : ts[i]? = some k) : (l ++ [k]).Sublist (ts.take (i + 1)) := by
  rw [List.take_add_one, e]
  exact List.Sublist.append h (List.Sublist.refl _)
theorem RdA.more1 (r : RdA H0 H p D a b vs ts us ws fs ss i j) : RdA H0 H p D a b vs ts us ws fs ss (i + 1) j := { r with sa := r.sa.trans (take_more ts i) }
theorem RdA.more2 (r : RdA H0 H p D a b vs ts us ws fs ss i j) : RdA H0 H p D a b vs ts us ws fs ss i (j + 1) := { r with sb := r.sb.trans (take_more ts j) }
theorem RdA.put1 (r : RdA H0 H p D a b vs ts us ws fs ss i j) {k : KT} (hk : ts[i]? = some k) {u : V} {z : KR} (hz : KRowA (NA p a b) H z u) (e : z.1 = k) : RdA H0 (upd H a (.lst (us ++ [u]))) p D a b vs ts (us ++ [u]) ws (fs ++ [z]) ss (i + 1) j := by
  have m : SmN (NA p a b) H (upd H a (.lst (us ++ [u]))) := SmN.list r.ha (.inr (.inl rfl))
  refine ⟨r.w.stay ((SameX.refl a H).upd) (Ne.symm r.pa), fun c o q n => by rw [upd_ne (ne_of_none q r.fa)]; exact r.sx c o q n, r.fa, r.fb, r.pa, r.pb, r.ab, r.pD, r.aD, r.bD, by rw [upd_ne r.aD]; exact r.hD, upd_same, by rw [upd_ne (Ne.symm r.ab)]; exact r.hb, r.kt.mono m.1 _ _, r.ft, r.lt, paired_snoc (KRowA.go hz m) (Paired.mapP r.ka fun _ _ z => KRowA.go z m), Paired.mapP r.kb fun _ _ z => KRowA.go z m, ?_, r.sb⟩
  rw [List.map_append, List.map_cons, List.map_nil, e]
  exact take_put r.sa hk
theorem RdA.put2 (r : RdA H0 H p D a b vs ts us ws fs ss i j) {k : KT} (hk : ts[j]? = some k) {u : V} {z : KR} (hz : KRowA (NA p a b) H z u) (e : z.1 = k) : RdA H0 (upd H b (.lst (ws ++ [u]))) p D a b vs ts us (ws ++ [u]) fs (ss ++ [z]) i (j + 1) := by
  have m : SmN (NA p a b) H (upd H b (.lst (ws ++ [u]))) := SmN.list r.hb (.inr (.inr rfl))
  refine ⟨r.w.stay ((SameX.refl b H).upd) (Ne.symm r.pb), fun c o q n => by rw [upd_ne (ne_of_none q r.fb)]; exact r.sx c o q n, r.fa, r.fb, r.pa, r.pb, r.ab, r.pD, r.aD, r.bD, by rw [upd_ne r.bD]; exact r.hD, by rw [upd_ne r.ab]; exact r.ha, upd_same, r.kt.mono m.1 _ _, r.ft, r.lt, Paired.mapP r.ka fun _ _ z => KRowA.go z m, paired_snoc (KRowA.go hz m) (Paired.mapP r.kb fun _ _ z => KRowA.go z m), r.sa, ?_⟩
  rw [List.map_append, List.map_cons, List.map_nil, e]
  exact take_put r.sb hk
theorem RdA.l1 (r : RdA H0 H p D a b vs ts us ws fs ss i j) : us.length ≤ 6 ∧ ws.length ≤ 6 := by
  have h1 := r.sa.length_le
  have h2 := r.sb.length_le
  have h3 := r.lt
  have h4 := Paired.length r.ka
  have h5 := Paired.length r.kb
  rw [List.length_map, List.length_take] at h1 h2
  omega
end
def bodyOf : Option Stmt → List Stmt
  | some (.For _ _ b _ _) => b
  | _ => []
def bPat : List Stmt := bodyOf ((defBody sPatches)[3]?)
/-- behind i spots -/
def PatInv (H0 : Hp) (p D a b : Addr) (vs : List V) (ts : List KT) (i : Nat) (σ : L2.St) (H : Hp) : Prop := ∃ (us ws : List V) (fs ss : List KR) (x4 x5 x6 x7 x8 x9 : Option V), σ = [some (.ref p), some (.ref D), some (.ref a), some (.ref b), x4, x5, x6, x7, x8, x9] ∧ RdA H0 H p D a b vs ts us ws fs ss i i
abbrev nPatches : List Str := ["_law_well_here", "_law_spots", "_law_first", "_law_second", "_law_spot", "_law_way", "_law_old", "_law_new", "_law_begin", "_law_end"]
theorem scPatches : FnScope nPatches ["_law_well_here"] (defScope sPatches) := ⟨rfl, rfl, rfl, by decide +kernel, rfl, by decide +kernel, by decide +kernel⟩
theorem zeros {H : Hp} : ∀ {xs : List V}, (∀ x ∈ xs, x = .int 0) → KeysAt H (xs.map fun _ => .int 0) xs
  | [], _ => .nil
  | x :: xs, h => by
    rw [h x (List.mem_cons_self ..)]
    exact .cons (.int 0) (zeros fun y hy => h y (List.mem_cons_of_mem _ hy))
theorem cutV_sub (us : List V) (lo hi : Option Int) : ∀ z ∈ cutV us lo hi, z ∈ us := fun z hz => List.mem_of_mem_drop (List.mem_of_mem_take hz)
section
variable {P : Program} {w : World} {K : PySem.W.Frag} {mg : Str → Option Value} {base : Heap} {f : Addr} {fd : FuncData} {cdv : Value} {A : Around} {outer : List Env} {s : Shared} {Hs : Hp} {E : XK}
theorem tp8 : ∃ t, PSs (cxOf CX0 P w K mg base nPatches "_law_patches" (defScope sPatches) f cdv A outer s Hs E).nox (bPat.drop 8) t ∧ ∀ (D0 : Ends) (H0 H : Hp) (p D a b : Addr) (vs : List V) (ts : List KT) (us ws : List V) (fs ss : List KR) (i : Nat) (k : KT) (x : V) (way : Int) (o n bg en : Addr) (tb te : List KT),
    RdA H0 H p D a b vs ts us ws fs ss (i + 1) i → ts[i]? = some k → KeyAt H k x → Sd (NA p a b) H tb bg → Sd (NA p a b) H te en → (∀ σ' H', PatInv H0 p D a b vs ts (i + 1) σ' H' → D0.nx σ' H') →
      t D0 [some (.ref p), some (.ref D), some (.ref a), some (.ref b), some x, some (.int way), some (.ref o), some (.ref n), some (.ref bg), some (.ref en)] H := by
  have nd := scPatches.nd
  refine ⟨_, pss_one (ps_if (pt_cmpR op_ne (pv 5) pe_int (nomark _)) (pss_one (ps_expr (pe_bm PySem.F.plainAttrs_list PySem.F.slot_list_append PySem.F.type_list_append mt_append (pv 3) (pa_c (pe_tup (pa3 (pv 4) (pv 8) (pv 9))) pa_nil)))) pss_nil), fun D0 H0 H p D a b vs ts us ws fs ss i k x way o n bg en tb te r hk hx sb se fin => ?_⟩
  refine ⟨_, rfl, rfl, _, rfl, ite2 (fun c => ?_) (fun c => fin _ _ ⟨us, ws, fs, ss, _, _, _, _, _, _, rfl, RdA.more2 r⟩)⟩
  refine ⟨_, rfl, .inl ⟨rfl, _, SqL.of r.hb⟩, _, rfl, _, rfl, _, rfl, nn (Nat.le_of_ble_eq_true rfl), fun q nq => ?_⟩
  have g := same_new nq (.tup [x, .ref bg, .ref en])
  have r' := RdA.go r (SameX.of g) (r.w.same g)
  have l6 := (RdA.l1 r').2
  refine ⟨b, ws, .ref q, rfl, rfl, r'.hb, nn (by omega), fin _ _ ⟨us, ws ++ [.ref q], fs, ss ++ [(k, tb, te)], _, _, _, _, _, _, rfl, RdA.put2 r' hk (z := (k, tb, te)) ⟨q, x, bg, en, rfl, upd_same, hx.mono (Same.tups g) _ _, r.ft k (List.mem_of_getElem? hk), Sd.go sb (SmN.same g), Sd.go se (SmN.same g)⟩ rfl⟩⟩
theorem tp6 (T : Txt mg) (DP : DefOk P w K mg base 1 "_law_pull" ["_law_well_here", "_law_many"] spPull) (DS : DefOk P w K mg base 8 "_law_side" ["_law_well_here", "_law_other"] spSide) (DR : DefOk P w K mg base 7 "_law_rows_alike" ["_law_found", "_law_due_here"] spRAlike) (hr : Room 8 (A.deeper (envOfC "_law_patches" (defScope sPatches) s.heap.objs.size f cdv))) :
    ∃ t, PSs (cxOf CX0 P w K mg base nPatches "_law_patches" (defScope sPatches) f cdv A outer s Hs E).nox (bPat.drop 6) t ∧ ∀ (D0 : Ends) (H0 H : Hp) (p D a b : Addr) (vs : List V) (ts : List KT) (us ws : List V) (fs ss : List KR) (i : Nat) (k : KT) (x : V) (way : Int) (o n bg : Addr) (x9 : Option V) (to tb : List KT),
    RdA H0 H p D a b vs ts us ws fs ss (i + 1) i → ts[i]? = some k → KeyAt H k x → Sd (NA p a b) H to o → Sd (NA p a b) H tb bg → (∀ σ' H', PatInv H0 p D a b vs ts (i + 1) σ' H' → D0.nx σ' H') →
      t D0 [some (.ref p), some (.ref D), some (.ref a), some (.ref b), some x, some (.int way), some (.ref o), some (.ref n), some (.ref bg), x9] H := by
  have nd := scPatches.nd
  have hr1 := hr.mono (show 1 ≤ 8 by decide)
  have hr7 := hr.mono (show 7 ≤ 8 by decide)
  obtain ⟨t, ht, hk⟩ := tp8 (P := P) (w := w) (K := K) (mg := mg) (base := base) (f := f) (cdv := cdv) (A := A) (outer := outer) (s := s) (Hs := Hs) (E := E)
  refine ⟨_, pss_cons (ps_set (i := 9) nd rfl (Or.inl rfl) (pe_def DS hr (pa_c (pv 0) (pa_c (pv 8) pa_nil))))
    (pss_cons (ps_if (PW.pt (pw_and (pt_cmpR op_eq (pe_def DP hr1 (pa_c (pv 0) (pa_c pe_int pa_nil))) pe_int (nomark _)) (pw_and1 (pt_not (pt_val (pe_def DR hr7 (pa_c (pv 6) (pa_c (pv 8) pa_nil)))))))) (pss_one (ps_set (i := 9) nd rfl (Or.inl rfl) (pe_callTy (r := rListOf K) call_listOf rfl T.list tb_list (pa_c (pv 6) pa_nil)))) pss_nil) ht), fun D0 H0 H p D a b vs ts us ws fs ss i k x way o n bg x9 to tb r hki hx so sb fin => ?_⟩
  refine ⟨_, rfl, _, rfl, p, bg, tb, rfl, r.w, fun z => sb.off (.inl z), sb.ks, sb.fit, sb.len, fun en te H1 nen ken fen len W1 s1 => ?_⟩
  have r1 := RdA.go r s1 W1
  have m1 : SmN (NA p a b) H H1 := SmN.well r.w s1
  have se : Sd (NA p a b) H1 te en := ⟨ken, RdA.new r nen, fen, by omega⟩
  refine ⟨_, rfl, p, 3, rfl, W1, small_lit (by decide) (by decide), fun c3 H2 c30 c31 W2 s2 => ⟨rfl, _, rfl, ?_⟩⟩
  have r2 := RdA.go r1 s2 W2
  have m2 : SmN (NA p a b) H1 H2 := SmN.well W1 s2
  have hx2 := (hx.mono m1.1 _ _).mono m2.1 _ _
  have so2 := Sd.go (Sd.go so m1) m2
  have sb2 := Sd.go (Sd.go sb m1) m2
  have se2 := Sd.go se m2
  refine ite2 (fun c => ?_) (fun c => iteF (hk D0 H0 H2 p D a b vs ts us ws fs ss i k x way o n bg en tb te r2 hki hx2 sb2 se2 fin))
  obtain ⟨xs, ho, ko⟩ := so2.ks
  obtain ⟨ys, hb, kb⟩ := sb2.ks
  have lo := so2.len
  have lb := sb2.len
  refine ⟨_, rfl, _, rfl, o, bg, xs, ys, to, tb, rfl, ho, hb, ko, kb, sb2.fit, by omega, fun H3 s3 => ⟨_, rfl, ?_⟩⟩
  have r3 := RdA.go r2 (SameX.of s3) (W2.same s3)
  have m3 : SmN (NA p a b) H2 H3 := SmN.same s3
  have hx3 := hx2.mono m3.1 _ _
  have so3 := Sd.go so2 m3
  have sb3 := Sd.go sb2 m3
  cases he : eqbL to tb with
  | true => exact iteF (hk D0 H0 H3 p D a b vs ts us ws fs ss i k x way o n bg en tb te r3 hki hx3 sb3 (Sd.go se2 m3) fin)
  | false =>
    refine iteT ⟨_, rfl, o, xs, rfl, .inl (SqL.of (s3 _ _ ho)), fun e ne => ?_⟩
    have g := same_new ne (.lst xs)
    have r4 := RdA.go r3 (SameX.of g) ((W2.same s3).same g)
    exact hk D0 H0 _ p D a b vs ts us ws fs ss i k x way o n bg e tb to r4 hki (hx3.mono (Same.tups g) _ _) (Sd.go sb3 (SmN.same g)) ⟨⟨xs, upd_same, ko.mono (Same.tups (s3.trans g)) _ _⟩, RdA.new r3 ne, so2.fit, so2.len⟩ fin
theorem tp4 (T : Txt mg) (DP : DefOk P w K mg base 1 "_law_pull" ["_law_well_here", "_law_many"] spPull) (DS : DefOk P w K mg base 8 "_law_side" ["_law_well_here", "_law_other"] spSide) (DR : DefOk P w K mg base 7 "_law_rows_alike" ["_law_found", "_law_due_here"] spRAlike) (hr : Room 8 (A.deeper (envOfC "_law_patches" (defScope sPatches) s.heap.objs.size f cdv))) :
    ∃ t, PSs (cxOf CX0 P w K mg base nPatches "_law_patches" (defScope sPatches) f cdv A outer s Hs E).nox (bPat.drop 4) t ∧ ∀ (D0 : Ends) (H0 H : Hp) (p D a b : Addr) (vs : List V) (ts : List KT) (us ws : List V) (fs ss : List KR) (i : Nat) (k : KT) (x : V) (way : Int) (o n : Addr) (x8 x9 : Option V) (to tn : List KT),
    RdA H0 H p D a b vs ts us ws fs ss (i + 1) i → ts[i]? = some k → KeyAt H k x → Sd (NA p a b) H to o → Sd (NA p a b) H tn n → (∀ σ' H', PatInv H0 p D a b vs ts (i + 1) σ' H' → D0.nx σ' H') →
      t D0 [some (.ref p), some (.ref D), some (.ref a), some (.ref b), some x, some (.int way), some (.ref o), some (.ref n), x8, x9] H := by
  have nd := scPatches.nd
  have hr1 := hr.mono (show 1 ≤ 8 by decide)
  obtain ⟨t, ht, hk⟩ := tp6 (outer := outer) (Hs := Hs) (E := E) T DP DS DR hr
  refine ⟨_, pss_cons (ps_set (i := 8) nd rfl (Or.inl rfl) (pv 7))
    (pss_cons (ps_if (pt_cmpR op_eq (pe_def DP hr1 (pa_c (pv 0) (pa_c pe_int pa_nil))) pe_int (nomark _)) (pss_one (ps_set (i := 8) nd rfl (Or.inl rfl) (pe_def DS hr (pa_c (pv 0) (pa_c (pv 7) pa_nil))))) pss_nil) ht), fun D0 H0 H p D a b vs ts us ws fs ss i k x way o n x8 x9 to tn r hki hx so sn fin => ?_⟩
  refine ⟨_, rfl, _, rfl, p, 6, rfl, r.w, small_lit (by decide) (by decide), fun c6 H1 c60 c61 W1 s1 => ⟨rfl, _, rfl, ?_⟩⟩
  have r1 := RdA.go r s1 W1
  have m1 : SmN (NA p a b) H H1 := SmN.well r.w s1
  have hx1 := hx.mono m1.1 _ _
  have so1 := Sd.go so m1
  have sn1 := Sd.go sn m1
  refine ite2 (fun c => ?_) (fun c => hk D0 H0 H1 p D a b vs ts us ws fs ss i k x way o n n x9 to tn r1 hki hx1 so1 sn1 fin)
  refine ⟨_, rfl, _, rfl, p, n, tn, rfl, W1, fun z => sn1.off (.inl z), sn1.ks, sn1.fit, sn1.len, fun bg tb H2 nbg kbg fbg len W2 s2 => ?_⟩
  have r2 := RdA.go r1 s2 W2
  have m2 : SmN (NA p a b) H1 H2 := SmN.well W1 s2
  exact hk D0 H0 H2 p D a b vs ts us ws fs ss i k x way o n bg x9 to tb r2 hki (hx1.mono m2.1 _ _) (Sd.go so1 m2) ⟨kbg, RdA.new r1 nbg, fbg, by omega⟩ fin
theorem tp0 (T : Txt mg) (DP : DefOk P w K mg base 1 "_law_pull" ["_law_well_here", "_law_many"] spPull) (DS : DefOk P w K mg base 8 "_law_side" ["_law_well_here", "_law_other"] spSide) (DR : DefOk P w K mg base 7 "_law_rows_alike" ["_law_found", "_law_due_here"] spRAlike) (hr : Room 8 (A.deeper (envOfC "_law_patches" (defScope sPatches) s.heap.objs.size f cdv))) :
    ∃ t, PSs (cxOf CX0 P w K mg base nPatches "_law_patches" (defScope sPatches) f cdv A outer s Hs E).nox bPat t ∧ ∀ (D0 : Ends) (H0 H : Hp) (p D a b : Addr) (vs : List V) (ts : List KT) (us ws : List V) (fs ss : List KR) (i : Nat) (k : KT) (x : V) (x5 x6 x7 x8 x9 : Option V),
    RdA H0 H p D a b vs ts us ws fs ss i i → ts[i]? = some k → KeyAt H k x → (∀ σ' H', PatInv H0 p D a b vs ts (i + 1) σ' H' → D0.nx σ' H') →
      t D0 [some (.ref p), some (.ref D), some (.ref a), some (.ref b), some x, x5, x6, x7, x8, x9] H := by
  have nd := scPatches.nd
  have hr1 := hr.mono (show 1 ≤ 8 by decide)
  obtain ⟨t, ht, hk⟩ := tp4 (outer := outer) (Hs := Hs) (E := E) T DP DS DR hr
  refine ⟨_, pss_cons (ps_set (i := 5) nd rfl (Or.inl rfl) (pe_def DP hr1 (pa_c (pv 0) (pa_c pe_int pa_nil))))
    (pss_cons (ps_set (i := 6) nd rfl (Or.inl rfl) (pe_def DS hr (pa_c (pv 0) (pa_c (pe_slice sl_list (pe_lst (pa_c pe_int pa_nil)) po_none (po_some (pe_def DP hr1 (pa_c (pv 0) (pa_c pe_int pa_nil))))) pa_nil))))
    (pss_cons (ps_set (i := 7) nd rfl (Or.inl rfl) (pe_def DS hr (pa_c (pv 0) (pa_c (pv 6) pa_nil))))
    (pss_cons (ps_if (pt_cmpR op_ne (pv 5) pe_int (nomark _)) (pss_one (ps_expr (pe_bm PySem.F.plainAttrs_list PySem.F.slot_list_append PySem.F.type_list_append mt_append (pv 2) (pa_c (pe_tup (pa3 (pv 4) (pv 6) (pv 7))) pa_nil)))) pss_nil) ht))), fun D0 H0 H p D a b vs ts us ws fs ss i k x x5 x6 x7 x8 x9 r hki hx fin => ?_⟩
  refine ⟨_, rfl, p, 5, rfl, r.w, small_lit (by decide) (by decide), fun way H1 w0 w1 W1 s1 => ?_⟩
  have r1 := RdA.go r s1 W1
  have hx1 := hx.mono (s1.tupsW r.w) _ _
  refine ⟨_, rfl, nn (Nat.le_of_ble_eq_true rfl), fun l nl => ?_⟩
  have g1 := same_new nl (.lst [.int 0])
  have el := upd_same (H := H1) (a := l) (o := .lst [.int 0])
  have lp : l ≠ p := well_ne W1 nl
  generalize upd H1 l (.lst [.int 0]) = H2 at g1 el ⊢
  have W2 := W1.same g1
  have r2 := RdA.go r1 (SameX.of g1) W2
  have hx2 := hx1.mono (Same.tups g1) _ _
  refine ⟨_, rfl, p, 2, rfl, W2, small_lit (by decide) (by decide), fun c H3 c0 c1 W3 s3 => ?_⟩
  have r3 := RdA.go r2 s3 W3
  have hx3 := hx2.mono (s3.tupsW W2) _ _
  refine ⟨_, rfl, l, [.int 0], rfl, SqL.of (s3 _ _ el lp), fun q nq => ?_⟩
  have cl := cutV_length [V.int 0] none (some c)
  have cm := cutV_sub [V.int 0] none (some c)
  generalize cutV [V.int 0] none (some c) = zs at cl cm ⊢
  have g4 := same_new nq (.lst zs)
  have eq := upd_same (H := H3) (a := q) (o := .lst zs)
  have qp : q ≠ p := well_ne W3 nq
  generalize upd H3 q (.lst zs) = H4 at g4 eq ⊢
  have W4 := W3.same g4
  have r4 := RdA.go r3 (SameX.of g4) W4
  have hx4 := hx3.mono (Same.tups g4) _ _
  have lz : zs.length ≤ 1 := cl
  refine ⟨p, q, _, rfl, W4, qp, ⟨zs, eq, zeros fun z hz => List.mem_singleton.mp (cm z hz)⟩, fun t ht => ?_, by rw [List.length_map]; omega, fun o to H5 no ko fo lo W5 s5 => ?_⟩
  · obtain ⟨_, _, rfl⟩ := List.mem_map.mp ht
    decide +kernel
  have r5 := RdA.go r4 s5 W5
  have hx5 := hx4.mono (s5.tupsW W4) _ _
  have so5 : Sd (NA p a b) H5 to o := ⟨ko, RdA.new r4 no, fo, by omega⟩
  refine ⟨_, rfl, _, rfl, p, o, to, rfl, W5, fun z => so5.off (.inl z), so5.ks, so5.fit, so5.len, fun n tn H6 nn' kn fn ln W6 s6 => ?_⟩
  have r6 := RdA.go r5 s6 W6
  have m6 : SmN (NA p a b) H5 H6 := SmN.well W5 s6
  have hx6 := hx5.mono m6.1 _ _
  have so6 := Sd.go so5 m6
  have sn6 : Sd (NA p a b) H6 tn n := ⟨kn, RdA.new r5 nn', fn, by omega⟩
  refine ⟨_, rfl, rfl, _, rfl, ite2 (fun c => ?_) (fun c => hk D0 H0 H6 p D a b vs ts us ws fs ss i k x way o n x8 x9 to tn (RdA.more1 r6) hki hx6 so6 sn6 fin)⟩
  refine ⟨_, rfl, .inl ⟨rfl, _, SqL.of r6.ha⟩, _, rfl, _, rfl, _, rfl, nn (Nat.le_of_ble_eq_true rfl), fun q nq => ?_⟩
  have g := same_new nq (.tup [x, .ref o, .ref n])
  have eq7 := upd_same (H := H6) (a := q) (o := .tup [x, .ref o, .ref n])
  generalize upd H6 q (.tup [x, .ref o, .ref n]) = H7 at g eq7 ⊢
  have r7 := RdA.go r6 (SameX.of g) (W6.same g)
  have mg : SmN (NA p a b) H6 H7 := SmN.same g
  have hx7 := hx6.mono mg.1 _ _
  have so7 := Sd.go so6 mg
  have sn7 := Sd.go sn6 mg
  have l6 := (RdA.l1 r7).1
  have m8 : SmN (NA p a b) H7 (upd H7 a (.lst (us ++ [.ref q]))) := SmN.list r7.ha (.inr (.inl rfl))
  refine ⟨a, us, .ref q, rfl, rfl, r7.ha, nn (by omega), ?_⟩
  exact hk D0 H0 _ p D a b vs ts _ ws _ ss i k x way o n x8 x9 to tn (RdA.put1 r7 hki (z := (k, to, tn)) ⟨q, x, o, n, rfl, eq7, hx7, r.ft k (List.mem_of_getElem? hki), so7, sn7⟩ rfl) hki (hx7.mono m8.1 _ _) (Sd.go so7 m8) (Sd.go sn7 m8) fin
/-! ### _law_patches -/
def spPatches : Sp := fun vs H Q _ => ∃ (p : Addr), vs = [.ref p] ∧ WellAt H p ∧ ∀ (t a b : Addr) (us ws : List V) (fs ss : List KR) (H' : Hp), SameX p H H' → H' t = some (.tup [.ref a, .ref b]) → H' a = some (.lst us) → H' b = some (.lst ws) → KRows H' fs us → KRows H' ss ws → FitR fs → FitR ss → RisK (fs.map (·.1)) → RisK (ss.map (·.1)) → us.length ≤ 6 → ws.length ≤ 6 → Q (.ref t) H'
theorem ok_patches (F : Fun K "_law_patches" "_law_patches" sPatches f fd) (T : Txt mg) (DP : DefOk P w K mg base 1 "_law_pull" ["_law_well_here", "_law_many"] spPull) (DK : DefOk P w K mg base 9 "_law_keys" ["_law_well_here", "_law_many"] spKeys) (DS : DefOk P w K mg base 8 "_law_side" ["_law_well_here", "_law_other"] spSide) (DR : DefOk P w K mg base 7 "_law_rows_alike" ["_law_found", "_law_due_here"] spRAlike) :
    FnOk P w K mg base CX0 10 f fd ["_law_well_here"] spPatches := by
  refine F.ok scPatches (fun vs H Q E h => (by obtain ⟨_, rfl, _⟩ := h; rfl)) (fun cdv A outer s H vs Q E hr h => ?_)
  obtain ⟨p, rfl, W, q⟩ := h
  have nd := scPatches.nd
  have hr1 := hr.mono (show 1 ≤ 9 by decide)
  obtain ⟨tb, htb, hk⟩ := tp0 (outer := outer) (Hs := H) (E := E) T DP DS DR (hr.mono (show 8 ≤ 9 by decide))
  refine ⟨_, pss_cons (ps_set (i := 1) nd rfl (Or.inl rfl) (pe_def DK hr (pa_c (pv 0) (pa_c (pe_op op_add pe_int (pe_def DP hr1 (pa_c (pv 0) (pa_c pe_int pa_nil)))) pa_nil))))
    (pss_cons (ps_set (i := 2) nd rfl (Or.inl rfl) (pe_lst pa_nil))
    (pss_cons (ps_set (i := 3) nd rfl (Or.inl rfl) (pe_lst pa_nil))
    (pss_cons (ps_for PassesOwn.never rfl (pi_list (pv 1)) (pg_name (i := 4) nd rfl (Or.inl rfl)) htb)
    (pss_one (ps_ret (pe_tup (pa_c (pv 2) (pa_c (pv 3) pa_nil)))))))), ?_⟩
  refine ⟨_, rfl, _, rfl, p, 6, rfl, W, small_lit (by decide) (by decide), fun m H1 m0 m1 W1 s1 => ?_⟩
  have em : 1 + m = (((1 + m).toNat : Nat) : Int) := by omega
  refine ⟨_, _, rfl, rfl, p, (1 + m).toNat, congrArg (fun y => [V.ref p, V.int y]) em, W1, by omega, fun D vs ts H2 nD hD kD fD rD lD W2 s2 => ?_⟩
  have pD : D ≠ p := well_ne W1 nD
  refine ⟨nn (Nat.le_of_ble_eq_true rfl), fun a na => ?_⟩
  have ga := same_new na (.lst [])
  have ea := upd_same (H := H2) (a := a) (o := .lst [])
  have pa : a ≠ p := well_ne W2 na
  have aD : D ≠ a := fun z => by rw [← z, hD] at na; cases na
  generalize upd H2 a (.lst []) = H3 at ga ea ⊢
  refine ⟨nn (Nat.le_of_ble_eq_true rfl), fun b nb => ?_⟩
  have gb := same_new nb (.lst [])
  have eb := upd_same (H := H3) (a := b) (o := .lst [])
  have W3 := W2.same ga
  have pb : b ≠ p := well_ne W3 nb
  have bD : D ≠ b := fun z => by rw [← z, ga _ _ hD] at nb; cases nb
  have ab : a ≠ b := fun z => by rw [← z, ea] at nb; cases nb
  generalize upd H3 b (.lst []) = H4 at gb eb ⊢
  have g := ga.trans gb
  have s02 := s1.trans s2
  have R0 : RdA H H4 p D a b vs ts [] [] [] [] 0 0 := ⟨W3.same gb, s02.trans (SameX.of g), sx_free s02 W2 na, sx_free (s02.trans (SameX.of ga)) W3 nb, pa, pb, ab, pD, aD, bD, g _ _ hD, gb _ _ ea, eb, kD.mono (Same.tups g) _ _, fD, by omega, .nil, .nil, List.nil_sublist _, List.nil_sublist _⟩
  refine ⟨_, rfl, D, rfl, ⟨vs, SqL.of R0.hD⟩, for_list (K := K) (a := D) (xs := vs) (PatInv H p D a b vs ts) ⟨[], [], [], [], _, _, _, _, _, _, rfl, R0⟩ (fun i σ H' _ hP => by obtain ⟨_, _, _, _, _, _, _, _, _, _, _, r⟩ := hP; exact SqL.of r.hD) ?_ ?_⟩
  · rintro i u σ H' hu ⟨us, ws, fs, ss, x4, x5, x6, x7, x8, x9, rfl, r⟩
    obtain ⟨k, ek, kk⟩ := r.kt.get hu
    exact hk _ H H' p D a b vs ts us ws fs ss i k u x5 x6 x7 x8 x9 r ek kk fun σ' H'' h => h
  · rintro σ H' ⟨us, ws, fs, ss, x4, x5, x6, x7, x8, x9, rfl, r⟩
    have l6 := RdA.l1 r
    refine ⟨_, rfl, _, rfl, nn (Nat.le_of_ble_eq_true rfl), fun t nt => ?_⟩
    have g := same_new nt (.tup [.ref a, .ref b])
    have r' := RdA.go r (SameX.of g) (r.w.same g)
    exact q t a b us ws fs ss _ r'.sx upd_same r'.ha r'.hb (Paired.mapP r'.ka fun _ _ z => KRowA.row z) (Paired.mapP r'.kb fun _ _ z => KRowA.row z) (rowsA_fit r.ka) (rowsA_fit r.kb) (rD.sublist (r.sa.trans (List.take_sublist _ _))) (rD.sublist (r.sb.trans (List.take_sublist _ _))) l6.1 l6.2
end
end Tw
set_option Elab.async false
set_option linter.all false
set_option maxRecDepth 100000
set_option maxHeartbeats 8000000
namespace Tw
open PySem PySem.Spec L2 PyProof.Rows
/-! ### the law's dict of sides, pure -/
theorem atK_ne {sel : Bool} {fs : List KR} {r : KR} {k : KT} (h : r.1.eqb k = false) : atK sel (fs ++ [r]) k = atK sel fs k := by
  rw [atK_append, atK_one, h, if_neg Bool.false_ne_true]
  cases atK sel fs k <;> rfl
theorem atK_eq {sel : Bool} {fs : List KR} {r : KR} (h : r.1 ∉ fs.map (·.1)) : atK sel (fs ++ [r]) r.1 = some (if sel = true then r.2.2 else r.2.1) := by
  rw [atK_append, atK_none.mpr h, atK_one, eqb_self, if_pos rfl]
  rfl
theorem keys_ne {fs : List KR} {r : KR} {k : KT} (h : r.1.eqb k = false) : k ∈ (fs ++ [r]).map (·.1) ↔ k ∈ fs.map (·.1) := by
  rw [List.map_append, List.mem_append]
  constructor
  · rintro (q | q)
    · exact q
    · rw [List.map_cons, List.map_nil, List.mem_singleton] at q
      rw [q, eqb_self] at h
      cases h
  · exact .inl
theorem keys_eq (fs : List KR) (r : KR) : r.1 ∈ (fs ++ [r]).map (·.1) := by
  rw [List.map_append, List.mem_append]
  exact .inr (List.mem_singleton.mpr rfl)
def DInv (H0 H : Hp) (xs : List (KT × V × V)) (fs ss : List KR) : Prop := ∀ k, (valQ xs k = none ∧ ¬ Keys2 fs ss k) ∨ (Keys2 fs ss k ∧ ∃ t a b, valQ xs k = some (.ref t) ∧ H t = some (.tup [.ref a, .ref b]) ∧ KSide H0 (rowOf fs ss k).2.1 a ∧ KSide H0 (rowOf fs ss k).2.2 b)
theorem DInv.tups {H0 H H' : Hp} {xs : List (KT × V × V)} {fs ss : List KR} (h : DInv H0 H xs fs ss) (t : Tups H H') : DInv H0 H' xs fs ss := fun k => by
  rcases h k with q | ⟨q, tt, a, b, h1, h2, h3⟩
  · exact .inl q
  · exact .inr ⟨q, tt, a, b, h1, t _ _ h2, h3⟩
theorem DInv.nil {H0 H : Hp} : DInv H0 H [] [] [] := fun k => .inl ⟨rfl, fun z => by rcases z with q | q <;> simp at q⟩
theorem DInv.fst {H0 H : Hp} {xs : List (KT × V × V)} {fs : List KR} {r : KR} {x : V} {t a b : Addr} (h : DInv H0 H xs fs []) (hn : r.1 ∉ fs.map (·.1)) (ht : H t = some (.tup [.ref a, .ref b])) (ka : KSide H0 r.2.1 a) (kb : KSide H0 r.2.2 b) : DInv H0 H (putQ xs r.1 x (.ref t)) (fs ++ [r]) [] := fun k => by
  rw [valQ_put]
  cases q : r.1.eqb k with
  | true =>
    have e := eqb_eq _ _ q
    subst e
    refine .inr ⟨.inl (keys_eq fs r), t, a, b, if_pos rfl, ht, ?_, ?_⟩
    · show KSide H0 (((atK false (fs ++ [r]) r.1).or (atK false [] r.1)).getD []) a
      rw [atK_eq hn]
      exact ka
    · show KSide H0 (((atK true [] r.1).or (atK true (fs ++ [r]) r.1)).getD []) b
      rw [atK_eq hn]
      exact kb
  | false =>
    rw [if_neg Bool.false_ne_true]
    have er : rowOf (fs ++ [r]) [] k = rowOf fs [] k := by
      unfold rowOf
      rw [atK_ne q, atK_ne q]
    rw [er]
    rcases h k with ⟨h1, h2⟩ | ⟨h1, h2⟩
    · exact .inl ⟨h1, fun z => h2 (z.imp (keys_ne q).mp id)⟩
    · exact .inr ⟨h1.imp (keys_ne q).mpr id, h2⟩
theorem DInv.snd {H0 H : Hp} {xs : List (KT × V × V)} {fs ss : List KR} {r : KR} {x : V} {t a b : Addr} (h : DInv H0 H xs fs ss) (hn : r.1 ∉ ss.map (·.1)) (ht : H t = some (.tup [.ref a, .ref b])) (ka : KSide H0 ((atK false fs r.1).getD r.2.1) a) (kb : KSide H0 r.2.2 b) : DInv H0 H (putQ xs r.1 x (.ref t)) fs (ss ++ [r]) := fun k => by
  rw [valQ_put]
  cases q : r.1.eqb k with
  | true =>
    have e := eqb_eq _ _ q
    subst e
    refine .inr ⟨.inr (keys_eq ss r), t, a, b, if_pos rfl, ht, ?_, ?_⟩
    · show KSide H0 (((atK false fs r.1).or (atK false (ss ++ [r]) r.1)).getD []) a
      rw [atK_eq hn]
      cases z : atK false fs r.1 with
      | none => rw [z] at ka; exact ka
      | some o => rw [z] at ka; exact ka
    · show KSide H0 (((atK true (ss ++ [r]) r.1).or (atK true fs r.1)).getD []) b
      rw [atK_eq hn]
      exact kb
  | false =>
    rw [if_neg Bool.false_ne_true]
    have er : rowOf fs (ss ++ [r]) k = rowOf fs ss k := by
      unfold rowOf
      rw [atK_ne q, atK_ne q]
    rw [er]
    rcases h k with ⟨h1, h2⟩ | ⟨h1, h2⟩
    · exact .inl ⟨h1, fun z => h2 (z.imp id (keys_ne q).mp)⟩
    · exact .inr ⟨h1.imp id (keys_ne q).mpr, h2⟩
theorem DInv.keys {w : World} {H0 H : Hp} {d : Addr} {xs : List (KT × V × V)} {fs ss : List KR} (h : DInv H0 H xs fs ss) (dk : DkAt w H d xs) (k : KT) : k ∈ xs.map (·.1) ↔ Keys2 fs ss k := by
  constructor
  · intro hk
    obtain ⟨z, hz, rfl⟩ := List.mem_map.mp hk
    rcases h z.1 with ⟨h1, _⟩ | ⟨h1, _⟩
    · rw [valQ_some dk.nd hz] at h1
      cases h1
    · exact h1
  · intro hk
    rcases h k with ⟨_, h2⟩ | ⟨_, t, a, b, h1, _⟩
    · exact absurd hk h2
    · exact Classical.byContradiction fun z => by rw [valQ_none z] at h1; cases h1
theorem DkAt.tups {w : World} {H H' : Hp} {d : Addr} {xs : List (KT × V × V)} (dk : DkAt w H d xs) (s : SameX d H H') : Tups H H' := fun b ys e => by
  obtain ⟨es, h, _⟩ := dk.ex
  exact s b _ e (ne_of e h (by unfold dkO; intro z; cases z))
theorem stale_take {fs ss : List KR} {i : Nat} {r : KR} (e : ss[i]? = some r) : staleL fs (ss.take (i + 1)) = staleL fs (ss.take i) ++ (if isSf fs r = true then [r.1] else []) := by
  unfold staleL
  rw [List.take_add_one, e, Option.toList_some, List.filter_append, List.map_append]
  congr 1
  rw [List.filter_cons]
  cases isSf fs r <;> rfl
theorem bhd_take {fs ss : List KR} {ks : List KT} {i : Nat} {k : KT} (e : ks[i]? = some k) : bhd fs ss (ks.take (i + 1)) = bhd fs ss (ks.take i) ++ (if eqbL (rowOf fs ss k).2.1 (rowOf fs ss k).2.2 = true then [] else [rowOf fs ss k]) := by
  unfold bhd
  rw [List.take_add_one, e, Option.toList_some, List.map_append, List.filter_append]
  congr 1
  rw [List.map_cons, List.map_nil, List.filter_cons]
  cases eqbL (rowOf fs ss k).2.1 (rowOf fs ss k).2.2 <;> rfl
/-- a row whose sides lie in the first heap -/
def KRowW (H0 H : Hp) (r : KR) (u : V) : Prop := ∃ t x a b, u = .ref t ∧ H t = some (.tup [x, .ref a, .ref b]) ∧ KeyAt H r.1 x ∧ KSide H0 r.2.1 a ∧ KSide H0 r.2.2 b
theorem KRowW.go {H0 H H' : Hp} {r : KR} {u : V} (h : KRowW H0 H r u) (t : Tups H H') : KRowW H0 H' r u := by
  obtain ⟨tt, x, a, b, e, h1, h2, h3⟩ := h
  exact ⟨tt, x, a, b, e, t _ _ h1, h2.mono t _ _, h3⟩
theorem KRowW.row {H0 H : Hp} {r : KR} {u : V} (h : KRowW H0 H r u) (s : Same H0 H) : KRow H r u := by
  obtain ⟨tt, x, a, b, e, h1, h2, h3, h4⟩ := h
  exact ⟨tt, x, a, b, e, h1, h2, h3.same s, h4.same s⟩
def bDue : List Stmt := bodyOf ((defBody sDue)[3]?)
abbrev nDue : List Str := ["_law_first", "_law_second", "_law_sides", "_law_spot", "_law_old", "_law_new", "_law_stale", "_law_rows"]
theorem scDue : FnScope nDue ["_law_first", "_law_second"] (defScope sDue) := ⟨rfl, rfl, rfl, by decide +kernel, rfl, by decide +kernel, by decide +kernel⟩
section
variable {P : Program} {w : World} {K : PySem.W.Frag} {mg : Str → Option Value} {base : Heap} {f : Addr} {fd : FuncData} {cdv : Value} {A : Around} {outer : List Env} {s : Shared} {Hs : Hp} {E : XK}
theorem td1 {k : Nat} (hr : Room k (A.deeper (envOfC "_law_due" (defScope sDue) s.heap.objs.size f cdv))) : ∃ t, PSs (cxOf CX0 P w K mg base nDue "_law_due" (defScope sDue) f cdv A outer s Hs E).nox (bDue.drop 1) t ∧ ∀ (D0 : Ends) (H0 H : Hp) (a b d l oa ob : Addr) (xs : List (KT × V × V)) (fs ss : List KR) (r : KR) (x : V) (x7 : Option V),
    DkAt w H d xs → xs.length ≤ 900 → KeyAt H r.1 x → r.1.depth ≤ 3 → DInv H0 H xs fs ss → r.1 ∉ ss.map (·.1) → KSide H0 r.2.1 oa → KSide H0 r.2.2 ob →
    (∀ t H', SameX d H H' → Tups H H' → DkAt w H' d (putQ xs r.1 x (.ref t)) → DInv H0 H' (putQ xs r.1 x (.ref t)) fs (ss ++ [r]) → D0.nx [some (.ref a), some (.ref b), some (.ref d), some x, some (.ref oa), some (.ref ob), some (.ref l), x7] H') →
      t D0 [some (.ref a), some (.ref b), some (.ref d), some x, some (.ref oa), some (.ref ob), some (.ref l), x7] H := by
  have nd := scDue.nd
  have hu4 := Room.key hr (n := 4) (by decide)
  have hu9 := Room.key hr (n := 9) (by decide)
  refine ⟨_, pss_one (ps_qput hu4 (pv 2) (pv 3) (pe_tup (pa_c (pe_ix (r := rIxT K) ix_tup (pe_qget2 hu9 (pv 2) (pv 3) (pe_tup (pa_c (pv 4) (pa_c (pv 5) pa_nil))) ⟨rfl, rfl, rfl, rfl⟩) pe_int (fun _ _ => rfl)) (pa_c (pv 5) pa_nil))) rfl), fun D0 H0 H a b d l oa ob xs fs ss r x x7 dk lx kx dt di hn ka kb fin => ?_⟩
  refine ⟨_, rfl, d, xs, rfl, dk, _, rfl, _, rfl, _, rfl, nn (Nat.le_of_ble_eq_true rfl), fun q nq => ?_⟩
  have g1 := same_new nq (.tup [.ref oa, .ref ob])
  have e1 := upd_same (H := H) (a := q) (o := .tup [.ref oa, .ref ob])
  generalize upd H q (.tup [.ref oa, .ref ob]) = H1 at g1 e1 ⊢
  have fnd : ∃ tq a' b', (valQ xs r.1).getD (.ref q) = .ref tq ∧ H1 tq = some (.tup [.ref a', .ref b']) ∧ KSide H0 ((atK false fs r.1).getD r.2.1) a' := by
    rcases di r.1 with ⟨h1, h2⟩ | ⟨h1, t, a', b', h2, h3, h4, h5⟩
    · refine ⟨q, oa, ob, by rw [h1]; rfl, e1, ?_⟩
      rw [atK_none.mpr fun z => h2 (.inl z)]
      exact ka
    · refine ⟨t, a', b', by rw [h2]; rfl, g1 _ _ h3, ?_⟩
      have hf : r.1 ∈ fs.map (·.1) := h1.elim id fun z => absurd z hn
      have h4' : KSide H0 (((atK false fs r.1).or (atK false ss r.1)).getD []) a' := h4
      cases z : atK false fs r.1 with
      | none => exact absurd hf (atK_none.mp z)
      | some o => rw [z] at h4'; exact h4'
  obtain ⟨tq, a', b', ev, et, kq⟩ := fnd
  refine ⟨r.1, dk.same g1, kx.mono (Same.tups g1) _ _, dt, ?_⟩
  rw [ev]
  refine ⟨tq, _, _, .ref a', rfl, rfl, SqT.of et, rfl, _, rfl, nn (Nat.le_of_ble_eq_true rfl), fun q2 nq2 => ?_⟩
  have g2 := same_new nq2 (.tup [.ref a', .ref ob])
  have e2 := upd_same (H := H1) (a := q2) (o := .tup [.ref a', .ref ob])
  generalize upd H1 q2 (.tup [.ref a', .ref ob]) = H2 at g2 e2 ⊢
  have g := g1.trans g2
  refine ⟨_, rfl, _, rfl, d, xs, r.1, rfl, dk.same g, by omega, kx.mono (Same.tups g) _ _, dt, fun H4 sx dk4 => ?_⟩
  have t4 := (dk.same g).tups sx
  have t04 : Tups H H4 := fun c ys e => t4 c ys (g c _ e)
  exact fin q2 H4 (fun c o e n => sx c o (g c o e) n) t04 dk4 ((di.tups t04).snd hn (t4 _ _ e2) kq kb)
/-! ### _law_due -/
def DueAt (H : Hp) (t : Addr) (fs ss : List KR) : Prop := (∃ k x, staleOf fs ss = some k ∧ H t = some (.tup [.str "stale", x]) ∧ KeyAt H k x) ∨ ∃ ks R vs', staleOf fs ss = none ∧ RisK ks ∧ (∀ k, k ∈ ks ↔ Keys2 fs ss k) ∧ ks.length ≤ 60 ∧ H t = some (.tup [.str "told", .ref R]) ∧ H R = some (.lst vs') ∧ KRows H (bhd fs ss ks) vs'
def spDue : Sp := fun vs H Q _ => ∃ (a b : Addr) (us ws : List V) (fs ss : List KR), vs = [.ref a, .ref b] ∧ H a = some (.lst us) ∧ H b = some (.lst ws) ∧ KRows H fs us ∧ KRows H ss ws ∧ FitR fs ∧ FitR ss ∧ RisK (fs.map (·.1)) ∧ RisK (ss.map (·.1)) ∧ us.length ≤ 30 ∧ ws.length ≤ 30 ∧ ∀ t H', Same H H' → DueAt H' t fs ss → Q (.ref t) H'
def DueInv (w : World) (H0 : Hp) (a b d l : Addr) (n : Nat) (fs ss : List KR) (i : Nat) (σ : L2.St) (H : Hp) : Prop := ∃ (xs : List (KT × V × V)) (zs : List V) (x3 x4 x5 : Option V), σ = [some (.ref a), some (.ref b), some (.ref d), x3, x4, x5, some (.ref l), none] ∧ Same H0 H ∧ DkAt w H d xs ∧ xs.length ≤ n + i ∧ H l = some (.lst zs) ∧ KeysAt H (staleL fs (ss.take i)) zs ∧ DInv H0 H xs fs (ss.take i)
theorem ok_due (F : Fun K "_law_due" "_law_due" sDue f fd) (T : Txt mg) (DR : DefOk P w K mg base 6 "_law_rank" ["_law_spot"] (spRank 5)) (DA : DefOk P w K mg base 7 "_law_rows_alike" ["_law_found", "_law_due_here"] spRAlike) :
    FnOk P w K mg base CX0 9 f fd ["_law_first", "_law_second"] spDue := by
  refine F.ok scDue (fun vs H Q E h => (by obtain ⟨_, _, _, _, _, _, rfl, _⟩ := h; rfl)) (fun cdv A outer s H vs Q E hr h => ?_)
  obtain ⟨a, b, us, ws, fs, ss, rfl, ha, hb, kf, ks, ff, fs', rf, rs', l1, l2, kq⟩ := h
  have nd := scDue.nd
  have nf := ris_nd rf
  have ns := ris_nd rs'
  have lf := Paired.length kf
  have ls := Paired.length ks
  have hu4 := Room.key hr (n := 4) (by decide)
  have hu5 := Room.key hr (n := 5) (by decide)
  have hr7 := hr.mono (show 7 ≤ 8 by decide)
  have DS : DefOk P w K mg base 6 "_law_rank" ["_law_spot"] (spKg KT.rk) := by
    obtain ⟨g, gd, FG, b, kp, m⟩ := DR.ex
    exact ⟨g, gd, FG.imp fun vs H Q E h => by
      obtain ⟨v, t, e, a, c, d⟩ := h
      have := fits_depth t 3 c
      exact ⟨v, t, 3, e, a, c, by omega, d⟩, b, kp, m⟩
  obtain ⟨t1, ht1, hk1⟩ := td1 (P := P) (w := w) (K := K) (mg := mg) (base := base) (outer := outer) (Hs := H) (E := E) hr
  refine ⟨_, pss_cons (ps_set (i := 2) nd rfl (Or.inl rfl) pe_qnew)
    (pss_cons (ps_for PassesOwn.never rfl (pi_list (pv 0)) (pg_tup rfl (pgs_cons (pg_name (i := 3) nd rfl (Or.inl rfl)) (pgs_cons (pg_name (i := 4) nd rfl (Or.inl rfl)) (pgs_cons (pg_name (i := 5) nd rfl (Or.inl rfl)) pgs_nil))))
      (pss_one (ps_qput hu4 (pv 2) (pv 3) (pe_tup (pa_c (pv 4) (pa_c (pv 5) pa_nil))) rfl)))
    (pss_cons (ps_set (i := 6) nd rfl (Or.inl rfl) (pe_lst pa_nil))
    (pss_cons (ps_for PassesOwn.never rfl (pi_list (pv 1)) (pg_tup rfl (pgs_cons (pg_name (i := 3) nd rfl (Or.inl rfl)) (pgs_cons (pg_name (i := 4) nd rfl (Or.inl rfl)) (pgs_cons (pg_name (i := 5) nd rfl (Or.inl rfl)) pgs_nil))))
      (pss_cons (ps_if (PW.pt (pw_and (pt_cmpR (op_inQ hu5) (pv 3) (pv 2) rfl) (pw_and1 (pt_not (pt_val (pe_def DA hr7 (pa_c (pe_ix (r := rIxT K) ix_tup (pe_qget hu5 (pv 2) (pv 3) (fun _ _ => rfl)) pe_int (fun _ _ => rfl)) (pa_c (pv 4) pa_nil)))))))) (pss_one (ps_expr (pe_bm PySem.F.plainAttrs_list PySem.F.slot_list_append PySem.F.type_list_append mt_append (pv 6) (pa_c (pv 3) pa_nil)))) pss_nil) ht1))
    (pss_cons (ps_if (pt_cmpR (tw_ne_nil hr.units0) (pv 6) (pe_lst pa_nil) (nomark _)) (pss_one (ps_ret (pe_tup (pa_c pe_str (pa_c (pe_ix (r := rIx K) ix_seq (pe_sortLg kg_rk depth_rk DS hr rfl T.sorted rfl (pa_c (pv 6) pa_nil)) pe_int (fun _ _ => rfl)) pa_nil))))) pss_nil)
    (pss_cons (ps_set (i := 7) nd rfl (Or.inl rfl) (pe_lst pa_nil))
    (pss_cons (ps_for PassesOwn.never rfl (pi_list (pe_sortQ kg_rk depth_rk DS hr rfl T.sorted rfl (pa_c (pv 2) pa_nil))) (pg_name (i := 3) nd rfl (Or.inl rfl))
      (pss_cons (ps_asg (pe_qget hu5 (pv 2) (pv 3) (fun _ _ => rfl)) (pg_tup rfl (pgs_cons (pg_name (i := 4) nd rfl (Or.inl rfl)) (pgs_cons (pg_name (i := 5) nd rfl (Or.inl rfl)) pgs_nil))))
      (pss_one (ps_if (pt_not (pt_val (pe_def DA hr7 (pa_c (pv 4) (pa_c (pv 5) pa_nil))))) (pss_one (ps_expr (pe_bm PySem.F.plainAttrs_list PySem.F.slot_list_append PySem.F.type_list_append mt_append (pv 7) (pa_c (pe_tup (pa3 (pv 3) (pv 4) (pv 5))) pa_nil)))) pss_nil))))
    (pss_one (ps_ret (pe_tup (pa_c pe_str (pa_c (pv 7) pa_nil)))))))))))  , ?_⟩
  intro d H1 nd1 sx1 s1 dk1
  -- the first
  refine ⟨_, rfl, a, rfl, ⟨us, SqL.of (s1 _ _ ha)⟩, for_list (K := K) (a := a) (xs := us) (fun i σ H' => ∃ (xs : List (KT × V × V)) (x3 x4 x5 : Option V), σ = [some (.ref a), some (.ref b), some (.ref d), x3, x4, x5, none, none] ∧ Same H H' ∧ DkAt w H' d xs ∧ xs.length ≤ i ∧ DInv H H' xs (fs.take i) [])
    ⟨[], _, _, _, rfl, s1, dk1, Nat.le_refl _, DInv.nil⟩ (fun i σ H' _ hP => by obtain ⟨_, _, _, _, _, s', _⟩ := hP; exact SqL.of (s' _ _ ha)) ?_ ?_⟩
  · rintro i u σ H2 hu ⟨xs, x3, x4, x5, rfl, s2, dk, lx, di⟩
    obtain ⟨r, er, t, x, oa, ob, rfl, ht, hx, hoa, hob⟩ := Paired.ixR kf hu
    have hi : i < us.length := (List.getElem?_eq_some_iff.mp hu).1
    refine ⟨t, _, rfl, SqT.of (s2 _ _ ht), rfl, _, _, rfl, _, _, rfl, _, _, rfl, rfl, ?_⟩
    refine ⟨_, rfl, _, rfl, nn (Nat.le_of_ble_eq_true rfl), fun q nq => ?_⟩
    have g := same_new nq (.tup [.ref oa, .ref ob])
    have eq := upd_same (H := H2) (a := q) (o := .tup [.ref oa, .ref ob])
    generalize upd H2 q (.tup [.ref oa, .ref ob]) = H3 at g eq ⊢
    refine ⟨_, rfl, _, rfl, d, xs, r.1, rfl, dk.same g, by omega, hx.mono (Same.tups (s2.trans g)) _ _, fits_depth _ 3 (ff r (List.mem_of_getElem? er)).1, fun H4 sx dk4 => ?_⟩
    have t4 := (dk.same g).tups sx
    have lp := putQ_len xs r.1 x (.ref q)
    have hn : r.1 ∉ (fs.take i).map (·.1) := fun z => by
      rw [List.map_take] at z
      obtain ⟨j, hj⟩ := List.getElem?_of_mem z
      have hj1 : (fs.map (·.1))[i]? = some r.1 := by rw [List.getElem?_map, er]; rfl
      rw [List.getElem?_take] at hj
      split at hj
      · have := (List.getElem?_inj (by rw [List.length_map]; omega) nf).mp (hj.trans hj1.symm)
        omega
      · cases hj
    refine ⟨_, _, _, _, rfl, fun c o e => sx c o (g c o (s2 c o e)) (ne_of_none e nd1), dk4, by omega, ?_⟩
    rw [List.take_add_one, er]
    exact ((di.tups (Same.tups g)).tups t4).fst hn (t4 _ _ eq) hoa hob
  rintro σ H2 ⟨xs, x3, x4, x5, rfl, s2, dk, lx, di⟩
  rw [List.take_of_length_le (by omega)] at di
  refine ⟨nn (Nat.le_of_ble_eq_true rfl), fun l nl => ?_⟩
  have gl := same_new nl (.lst [])
  have el := upd_same (H := H2) (a := l) (o := .lst [])
  have nl0 : H l = none := Same.free s2 nl
  have dl : d ≠ l := fun z => by
    obtain ⟨es, e, _⟩ := dk.ex
    rw [z, nl] at e
    cases e
  generalize upd H2 l (.lst []) = H3 at gl el ⊢
  have s3 := s2.trans gl
  -- the second
  refine ⟨_, rfl, b, rfl, ⟨ws, SqL.of (s3 _ _ hb)⟩, for_list (K := K) (a := b) (xs := ws) (DueInv w H a b d l us.length fs ss)
    ⟨xs, [], _, _, _, rfl, s3, dk.same gl, by omega, el, .nil, di.tups (Same.tups gl)⟩ (fun i σ H' _ hP => by obtain ⟨_, _, _, _, _, _, s', _⟩ := hP; exact SqL.of (s' _ _ hb)) ?_ ?_⟩
  · rintro i u σ H4 hu ⟨xs, zs, x3, x4, x5, rfl, s4, dk, lx, hl, kz, di⟩
    obtain ⟨r, er, t, x, oa, ob, rfl, ht, hx, hoa, hob⟩ := Paired.ixR ks hu
    have hi : i < ws.length := (List.getElem?_eq_some_iff.mp hu).1
    obtain ⟨f1, f2, f3, f4, f5⟩ := fs' r (List.mem_of_getElem? er)
    have dt := fits_depth _ 3 f1
    have hn : r.1 ∉ (ss.take i).map (·.1) := fun z => by
      rw [List.map_take] at z
      obtain ⟨j, hj⟩ := List.getElem?_of_mem z
      have hj1 : (ss.map (·.1))[i]? = some r.1 := by rw [List.getElem?_map, er]; rfl
      rw [List.getElem?_take] at hj
      split at hj
      · have := (List.getElem?_inj (by rw [List.length_map]; omega) ns).mp (hj.trans hj1.symm)
        omega
      · cases hj
    have hx4 := hx.mono (Same.tups s4) _ _
    have est := stale_take (fs := fs) er
    have ett : ss.take (i + 1) = ss.take i ++ [r] := by rw [List.take_add_one, er]; rfl
    -- behind the if
    have last : ∀ {D0 : Ends} {H5 : Hp} {zs' : List V}, Same H H5 → DkAt w H5 d xs → KeyAt H5 r.1 x → DInv H H5 xs fs (ss.take i) → H5 l = some (.lst zs') → KeysAt H5 (staleL fs (ss.take (i + 1))) zs' → (∀ σ' H', DueInv w H a b d l us.length fs ss (i + 1) σ' H' → D0.nx σ' H') →
        t1 D0 [some (.ref a), some (.ref b), some (.ref d), some x, some (.ref oa), some (.ref ob), some (.ref l), none] H5 := fun {D0 H5 zs'} s5 dk5 kx5 di5 hl5 kz5 fin => by
      refine hk1 D0 H H5 a b d l oa ob xs fs (ss.take i) r x none dk5 (by omega) kx5 dt di5 hn hoa hob fun t' H6 sx6 t6 dk6 di6 => fin _ _ ?_
      have lp := putQ_len xs r.1 x (.ref t')
      refine ⟨_, zs', _, _, _, rfl, fun c o e => sx6 c o (s5 c o e) (ne_of_none e nd1), dk6, by omega, sx6 _ _ hl5 (Ne.symm dl), kz5.mono t6 _ _, ?_⟩
      rw [ett]
      exact di6
    refine ⟨t, _, rfl, SqT.of (s4 _ _ ht), rfl, _, _, rfl, _, _, rfl, _, _, rfl, rfl, ?_⟩
    refine ⟨_, rfl, _, rfl, d, xs, r.1, rfl, dk, hx4, dt, _, rfl, ?_⟩
    rcases di r.1 with ⟨h1, h2⟩ | ⟨h1, tq, qa, qb, h2, h3, h4, h5⟩
    · have e0 : isSf fs r = false := by
        unfold isSf
        rw [atK_none.mpr fun z => h2 (.inl z)]
      rw [e0, if_neg Bool.false_ne_true, List.append_nil] at est
      rw [h1]
      exact iteF (iteF (last s4 dk hx4 di hl (by rw [est]; exact kz) fun _ _ z => z))
    · rw [h2]
      refine iteT ?_
      have hf : r.1 ∈ fs.map (·.1) := h1.elim id fun z => absurd z hn
      have fr := (row_fits ff (fun r hr => fs' r (List.mem_of_mem_take hr)) h1).2.2.1
      obtain ⟨n, en⟩ : ∃ n, atK true fs r.1 = some n := by
        cases z : atK true fs r.1 with
        | none => exact absurd hf (atK_none.mp z)
        | some n => exact ⟨n, rfl⟩
      have er2 : (rowOf fs (ss.take i) r.1).2.2 = n := by
        show ((atK true (ss.take i) r.1).or (atK true fs r.1)).getD [] = n
        rw [atK_none.mpr hn, en]
        rfl
      have eS : isSf fs r = !eqbL n r.2.1 := by unfold isSf; rw [en]
      rw [er2] at h5
      obtain ⟨ys, hys, kys⟩ := h5.same s4
      obtain ⟨os, hos, kos⟩ := hoa.same s4
      refine ⟨_, rfl, _, rfl, d, xs, r.1, .ref tq, rfl, dk, hx4, dt, h2, tq, _, _, .ref qb, rfl, rfl, SqT.of h3, rfl, _, rfl, qb, oa, ys, os, n, r.2.1, rfl, hys, hos, kys, kos, f2, by omega, fun H5 s5 => ⟨_, rfl, ?_⟩⟩
      have s05 := s4.trans s5
      cases he : eqbL n r.2.1 with
      | true =>
        rw [eS, he] at est
        have est' : staleL fs (ss.take (i + 1)) = staleL fs (ss.take i) := est.trans (List.append_nil _)
        exact iteF (last s05 (dk.same s5) (hx4.mono (Same.tups s5) _ _) (di.tups (Same.tups s5)) (s5 _ _ hl) (by rw [est']; exact kz.mono (Same.tups s5) _ _) fun _ _ z => z)
      | false =>
        rw [eS, he] at est
        have est' : staleL fs (ss.take (i + 1)) = staleL fs (ss.take i) ++ [r.1] := est
        have hl5 := s5 _ _ hl
        have lz := kz.length
        have lst : (staleL fs (ss.take i)).length ≤ 30 := by
          unfold staleL
          rw [List.length_map]
          have := List.length_filter_le (isSf fs) (ss.take i)
          rw [List.length_take] at this
          omega
        refine iteT ⟨_, rfl, .inl ⟨rfl, _, SqL.of hl5⟩, _, rfl, l, zs, x, rfl, rfl, hl5, nn (by omega), ?_⟩
        have sl : SameX l H5 (upd H5 l (.lst (zs ++ [x]))) := (SameX.refl l H5).upd
        have tl := sl.tups hl5
        have t5 : Tups H4 (upd H5 l (.lst (zs ++ [x]))) := fun c ys e => tl c ys (s5 c _ e)
        refine last (fun c o e => by rw [upd_ne (ne_of_none e nl0)]; exact s05 c o e) ((dk.same s5).but sl tl dl) (hx4.mono t5 _ _) (di.tups t5) upd_same ?_ fun _ _ z => z
        rw [est']
        exact KeysAt.append (kz.mono t5 _ _) (.cons (hx4.mono t5 _ _) .nil)
  rintro σ H4 ⟨xs, zs, x3, x4, x5, rfl, s4, dk, lx, hl, kz, di⟩
  rw [List.take_of_length_le (by omega)] at kz di
  have fits : ∀ k, Keys2 fs ss k → k.fits 3 = true := fun k hk => (row_fits ff fs' hk).1
  have lst : (staleL fs ss).length ≤ 30 := by
    unfold staleL
    rw [List.length_map]
    have := List.length_filter_le (isSf fs) ss
    omega
  have lz := kz.length
  refine ⟨_, rfl, nn (Nat.le_of_ble_eq_true rfl), fun e0 ne0 => ?_⟩
  have g0 := same_new ne0 (.lst [])
  have s5 := s4.trans g0
  refine ⟨l, e0, zs, rfl, rfl, SqL.of (g0 _ _ hl), SqL.of upd_same, _, rfl, ?_⟩
  have hl5 := g0 _ _ hl
  have kz5 := kz.mono (Same.tups g0) _ _
  have dk5 := dk.same g0
  have di5 := di.tups (Same.tups g0)
  generalize upd H4 e0 (.lst []) = H5 at g0 s5 hl5 kz5 dk5 di5 ⊢
  rcases (Classical.em (zs = [])).symm with hz | hz
  · have he : (!zs.isEmpty) = true := by
      cases zs with
      | nil => exact absurd rfl hz
      | cons _ _ => rfl
    have hz1 : 0 < zs.length := List.length_pos_iff.mpr hz
    rw [he]
    refine iteT ⟨_, rfl, l, zs, _, rfl, hl5, kz5, fun t ht => ?_, by omega, fun D vs' rs H6 s6 nD hD ka pm pw => ?_⟩
    · obtain ⟨r, hr', rfl⟩ := List.mem_map.mp ht
      exact (fs' r (List.mem_filter.mp hr').1).1
    · have lr := pm.length_eq
      have lv := ka.length
      cases rs with
      | nil => simp at lr; omega
      | cons m tl =>
        obtain ⟨v, vs0, rfl⟩ : ∃ v vs0, vs' = v :: vs0 := by
          cases vs' with
          | nil => simp at lv
          | cons v vs0 => exact ⟨v, vs0, rfl⟩
        obtain ⟨m', em, kv⟩ := ka.get (i := 0) (v := v) rfl
        cases em
        refine .inl ⟨D, _, _, v, rfl, rfl, SqL.of hD, atI_nat (j := 0) rfl, nn (Nat.le_of_ble_eq_true rfl), fun t nt => ?_⟩
        have g := same_new nt (.tup [.str "stale", v])
        exact kq t _ ((s5.trans s6).trans g) (.inl ⟨m, v, stale_least rf ns pm pw, upd_same, kv.mono (Same.tups g) _ _⟩)
  · have he : (!zs.isEmpty) = false := by rw [hz]; rfl
    rw [he]
    have st0 : staleL fs ss = [] := List.eq_nil_of_length_eq_zero (by rw [hz] at lz; exact lz)
    have hno := stale_no nf ns st0
    refine iteF ⟨nn (Nat.le_of_ble_eq_true rfl), fun R nR => ?_⟩
    have gR := same_new nR (.lst [])
    have eR := upd_same (H := H5) (a := R) (o := .lst [])
    have nR0 : H R = none := Same.free s5 nR
    have dR : d ≠ R := fun z => by
      obtain ⟨es, e, _⟩ := dk5.ex
      rw [z, nR] at e
      cases e
    generalize upd H5 R (.lst []) = H6 at gR eR ⊢
    have s6 := s5.trans gR
    have dk6 := dk5.same gR
    have di6 := di5.tups (Same.tups gR)
    refine ⟨_, rfl, d, xs, rfl, dk6, fun x hx => fits _ ((di6.keys dk6 x.1).mp (List.mem_map.mpr ⟨x, hx, rfl⟩)), by omega, fun D vs' rs H7 s7 nD hD ka pm pw => ?_⟩
    have eR7 := s7 _ _ eR
    have DR : D ≠ R := fun z => by rw [z, eR] at nD; cases nD
    have s07 := s6.trans s7
    have dk7 := dk6.same s7
    have di7 := di6.tups (Same.tups s7)
    have rk : ∀ k, k ∈ rs ↔ Keys2 fs ss k := fun k => pm.mem_iff.trans (di6.keys dk6 k)
    have rris : RisK rs := ris_of (pm.nodup_iff.mpr dk6.nd) pw
    have lr := pm.length_eq
    rw [List.length_map] at lr
    have lv := ka.length
    refine ⟨D, rfl, ⟨vs', SqL.of hD⟩, for_list (K := K) (a := D) (xs := vs') (fun i σ H' => ∃ (zs' : List V) (x3 x4 x5 : Option V), σ = [some (.ref a), some (.ref b), some (.ref d), x3, x4, x5, some (.ref l), some (.ref R)] ∧ SameX R H7 H' ∧ Tups H7 H' ∧ H' R = some (.lst zs') ∧ zs'.length ≤ i ∧ Paired (KRowW H H') (bhd fs ss (rs.take i)) zs')
      ⟨[], _, _, _, rfl, SameX.refl _ _, fun _ _ z => z, eR7, Nat.le_refl _, .nil⟩ (fun i σ H' _ hP => by obtain ⟨_, _, _, _, _, s', _⟩ := hP; exact SqL.of (s' _ _ hD DR)) ?_ ?_⟩
    · rintro i u σ H8 hu ⟨zs', x3, x4, x5, rfl, s8, t8, eR8, lz8, p8⟩
      have hi : i < vs'.length := (List.getElem?_eq_some_iff.mp hu).1
      obtain ⟨k, ek, kk⟩ := ka.get hu
      have hk2 : Keys2 fs ss k := (rk k).mp (List.mem_of_getElem? ek)
      rcases di7 k with ⟨_, z⟩ | ⟨_, tq, qa, qb, h2, h3, h4, h5⟩
      · exact absurd hk2 z
      have sH : Same H H8 := fun c o e => s8 c o (s07 c o e) (ne_of_none e nR0)
      have kk8 := kk.mono t8 _ _
      have hft := row_fits ff fs' hk2
      refine ⟨_, rfl, _, rfl, d, xs, k, .ref tq, rfl, dk7.but s8 t8 dR, kk8, fits_depth _ 3 (fits k hk2), h2, tq, _, rfl, SqT.of (t8 _ _ h3), rfl, _, _, rfl, _, _, rfl, rfl, ?_⟩
      obtain ⟨y1, hy1, ky1⟩ := h4.same sH
      obtain ⟨y2, hy2, ky2⟩ := h5.same sH
      refine ⟨_, rfl, _, rfl, qa, qb, y1, y2, _, _, rfl, hy1, hy2, ky1, ky2, hft.2.2.1, by omega, fun H9 s9 => ⟨_, rfl, ?_⟩⟩
      have ebh := bhd_take (fs := fs) (ss := ss) ek
      have s89 : SameX R H7 H9 := s8.trans (SameX.of s9)
      have t89 : Tups H7 H9 := fun c ys e => s9 c _ (t8 c ys e)
      have eR9 := s9 _ _ eR8
      have p9 : Paired (KRowW H H9) (bhd fs ss (rs.take i)) zs' := Paired.mapP p8 fun _ _ z => KRowW.go z (Same.tups s9)
      cases he : eqbL (rowOf fs ss k).2.1 (rowOf fs ss k).2.2 with
      | true =>
        rw [he] at ebh
        have ebh' : bhd fs ss (rs.take (i + 1)) = bhd fs ss (rs.take i) := ebh.trans (List.append_nil _)
        exact iteF ⟨zs', _, _, _, rfl, s89, t89, eR9, by omega, by rw [ebh']; exact p9⟩
      | false =>
        rw [he] at ebh
        have ebh' : bhd fs ss (rs.take (i + 1)) = bhd fs ss (rs.take i) ++ [rowOf fs ss k] := ebh
        refine iteT ⟨_, rfl, .inl ⟨rfl, _, SqL.of eR9⟩, _, rfl, _, rfl, _, rfl, nn (Nat.le_of_ble_eq_true rfl), fun q nq => ?_⟩
        have g := same_new nq (.tup [u, .ref qa, .ref qb])
        have eq := upd_same (H := H9) (a := q) (o := .tup [u, .ref qa, .ref qb])
        generalize upd H9 q (.tup [u, .ref qa, .ref qb]) = H10 at g eq ⊢
        have eR10 := g _ _ eR9
        refine ⟨R, zs', .ref q, rfl, rfl, eR10, nn (by omega), ?_⟩
        have sR : SameX R H10 (upd H10 R (.lst (zs' ++ [.ref q]))) := (SameX.refl R H10).upd
        have tR := sR.tups eR10
        have tA : Tups H9 (upd H10 R (.lst (zs' ++ [.ref q]))) := fun c ys e => tR c ys (g c _ e)
        refine ⟨zs' ++ [.ref q], _, _, _, rfl, (s89.trans (SameX.of g)).trans sR, fun c ys e => tA c ys (t89 c ys e), upd_same, by simp; omega, ?_⟩
        rw [ebh']
        exact paired_snoc (a := rowOf fs ss k) ⟨q, u, qa, qb, rfl, tR _ _ eq, ((kk8.mono (Same.tups s9) _ _)).mono tA _ _, h4, h5⟩ (Paired.mapP p9 fun _ _ z => KRowW.go z tA)
    · rintro σ H8 ⟨zs', x3, x4, x5, rfl, s8, t8, eR8, lz8, p8⟩
      rw [List.take_of_length_le (by omega)] at p8
      refine ⟨_, rfl, nn (Nat.le_of_ble_eq_true rfl), fun t nt => ?_⟩
      have g := same_new nt (.tup [.str "told", .ref R])
      have sH : Same H H8 := fun c o e => s8 c o (s07 c o e) (ne_of_none e nR0)
      have sA := sH.trans g
      exact kq t _ sA (.inr ⟨rs, R, zs', hno, rris, rk, by omega, upd_same, g _ _ eR8, Paired.mapP p8 fun _ _ z => KRowW.row (KRowW.go z (Same.tups g)) sA⟩)
end
end Tw
set_option Elab.async false
set_option linter.all false
set_option maxRecDepth 100000
set_option maxHeartbeats 8000000
namespace Tw
open PySem PySem.Spec L2 PyProof.Rows
theorem tb_ValueError : bootBuiltins "ValueError" = some (.type "ValueError") := by decide +kernel
/-- what the written part says of the classes -/
structure Cl (K : PySem.W.Frag) (mg : Str → Option Value) (CB CS CK CR CO : Addr) : Prop where
  base : mg "TwigError" = some (.ref CB)
  n1 : mg "NoKey" = some (.ref CK)
  n2 : mg "NotRising" = some (.ref CR)
  n3 : mg "Overlap" = some (.ref CO)
  sub : PySem.W.mroIn K CS (.ref CB) = some true
  ty : PySem.W.typeIn K (.ref CB) = some (.type "type")
  mB : PySem.W.mroIn K CB (.type "BaseException") = some true
  self : PySem.W.kitOne K (.ref CS) (.ref CS) = some true
  val : PySem.W.kitOne K (.ref CS) (.type "ValueError") = some true
  non : PySem.W.kitAny K (.ref CS) [.ref CK, .ref CR, .ref CO] = some false
theorem pe_fldK {X : Cx} {K : PySem.W.Frag} {e : Expr} {ta : TE} {f : Str} {pos : Pos} (he : PE X e ta) (hb : attributeBase e f X.env (eval e X.env) = eval e X.env) (hK : X.K = K := by rfl) : PE X (.Attribute e f pos) (tFldX K ta f) := by
  subst hK
  exact pe_fldX he hb
section
variable {P : Program} {w : World} {K : PySem.W.Frag} {mg : Str → Option Value} {base : Heap} {f : Addr} {fd : FuncData} {C CB CK CR CO : Addr}
/-! ### _law_told -/
def ToldOf (H H' : Hp) (t : Addr) (fs ss : List KR) : Prop := (∃ k x, staleOf fs ss = some k ∧ H' t = some (.tup [.str "stale", x]) ∧ KeyAt H' k x) ∨ ∃ ks D us', staleOf fs ss = none ∧ RisK ks ∧ (∀ k, k ∈ ks ↔ Keys2 fs ss k) ∧ ks.length ≤ 60 ∧ H' t = some (.tup [.str "told", .ref D]) ∧ H D = none ∧ H' D = some (.lst us') ∧ KRows H' (bhd fs ss ks) us' ∧ ∀ u ∈ us', NewR D 10 H H' u
def spTold : Sp := fun vs H Q _ => ∃ (a b : Addr) (us ws : List V) (fs ss : List KR), vs = [.ref a, .ref b] ∧ H a = some (.lst us) ∧ H b = some (.lst ws) ∧ KRows H fs us ∧ KRows H ss ws ∧ FitR fs ∧ FitR ss ∧ (fs.map (·.1)).Nodup ∧ (ss.map (·.1)).Nodup ∧ us.length ≤ 30 ∧ ws.length ≤ 30 ∧ ∀ t H', Same H H' → ToldOf H H' t fs ss → Q (.ref t) H'
theorem scTold : FnScope ["_law_first", "_law_second", "_law_found", "e"] ["_law_first", "_law_second"] (defScope sTold) := ⟨rfl, rfl, rfl, by decide +kernel, rfl, by decide +kernel, by decide +kernel⟩
theorem ok_told (F : Fun K "_law_told" "_law_told" sTold f fd) (T : Txt mg) (N : ST P w K mg base C) (L : Cl K mg CB C CK CR CO) (DB : DefD P w K mg base 10 "behind" ["first", "second"] (spBehind C)) : FnOk P w K mg base CX0 11 f fd ["_law_first", "_law_second"] spTold := by
  refine F.ok scTold (fun vs H Q E h => (by obtain ⟨_, _, _, _, _, _, rfl, _⟩ := h; rfl)) (fun cdv A outer s H vs Q E hr h => ?_)
  obtain ⟨a, b, us, ws, fs, ss, rfl, ha, hb, kf, ks, ff, fs', nf, ns, l1, l2, kq⟩ := h
  have nd := scTold.nd
  obtain ⟨g, gd, FC, bC, kC, mC⟩ := DB.ex
  obtain ⟨fI, fdI, ef, _, _⟩ := N.ex
  refine ⟨_, pss_cons (ps_tryD (i := 3) (j := 2) FC hr rfl mC kC bC (fun E' => pa_c (pv 0) (pa_c (pv 1) pa_nil)) rfl rfl rfl rfl L.base nd rfl rfl L.ty L.mB
      (fun ea E' => pss_cons (ps_if (PW.pt (pw_or (pt_not (pt_val (pe_callB (r := rIsiO K) isi_o rfl T.isi tb_isinstance (pa_c (pv 3) (pa_c (pe_glob (v := .ref C) rfl N.at_ rfl) pa_nil)))))
            (pw_or1 (pt_not (pt_val (pe_callB (r := rIsiO K) isi_o rfl T.isi tb_isinstance (pa_c (pv 3) (pa_c (pe_bltn (v := .ty "ValueError") rfl T.ValueError tb_ValueError rfl) pa_nil)))))))) (pss_one (ps_ret (pe_tup (pa_c pe_str (pa_c pe_int pa_nil))))) pss_nil)
        (pss_cons (ps_if (pt_val (pe_callB (r := rIsiOT K) isi_ot rfl T.isi tb_isinstance (pa_c (pv 3) (pa_c (pe_tup (pa3 (pe_glob (v := .ref CK) rfl L.n1 rfl) (pe_glob (v := .ref CR) rfl L.n2 rfl) (pe_glob (v := .ref CO) rfl L.n3 rfl))) pa_nil)))) (pss_one (ps_ret (pe_tup (pa_c pe_str (pa_c pe_int pa_nil))))) pss_nil)
        (pss_one (ps_ret (pe_tup (pa_c pe_str (pa_c (pe_fldK (pv 3) (by rfl)) pa_nil))))))) rfl rfl)
    (pss_one (ps_ret (pe_tup (pa_c pe_str (pa_c (pv 2) pa_nil))))), ?_⟩
  refine ⟨_, rfl, _, rfl, a, b, us, ws, fs, ss, rfl, ha, hb, kf, ks, ff, fs', nf, ns, l1, l2, fun hst kk rk mk lk D us' H1 s1 nD hD kr hnew => ?_, fun k hst dx x H1 s1 kx edx => ⟨C, rfl, L.sub, fun ea hea => ?_⟩⟩
  · refine ⟨_, rfl, nn (Nat.le_of_ble_eq_true rfl), fun t nt => ?_⟩
    have g := same_new nt (.tup [.str "told", .ref D])
    exact kq t _ (s1.trans g) (.inr ⟨kk, D, us', hst, rk, mk, lk, upd_same, nD, g _ _ hD, KRows.same kr g, fun u hu => NewR.same (hnew u hu) g⟩)
  · have g1 := same_new hea (XO gAny ea C (some dx))
    have ee : upd H1 ea (XO gAny ea C (some dx)) ea = some (XO gAny ea C (some dx)) := upd_same
    have ix : IsX (upd H1 ea (XO gAny ea C (some dx))) ea C := isx_x ee
    have ed := g1 _ _ edx
    have kx1 := kx.mono (Same.tups g1) _ _
    have s01 := s1.trans g1
    generalize upd H1 ea (XO gAny ea C (some dx)) = H2 at g1 ee ix ed kx1 s01 ⊢
    refine ⟨_, rfl, ea, C, _, true, rfl, ix, ef.exc, rfl, L.self, _, rfl, iteF ?_⟩
    refine ⟨_, rfl, ea, C, _, true, rfl, ix, ef.exc, rfl, L.val, _, rfl, iteF ?_⟩
    refine ⟨_, rfl, nn (Nat.le_of_ble_eq_true rfl), fun tp ntp => ?_⟩
    have g2 := same_new ntp (.tup [.ref CK, .ref CR, .ref CO])
    refine ⟨ea, C, tp, _, false, rfl, ix.mono g2, ef.exc, upd_same, fun c hc => ?_, L.non, _, rfl, iteF ?_⟩
    · simp only [List.mem_cons, List.not_mem_nil, or_false] at hc
      rcases hc with rfl | rfl | rfl <;> rfl
    refine ⟨_, rfl, gAny, ea, C, dx, _, _, fI, rfl, g2 _ _ ee, g2 _ _ ed, ef, rfl, nn (Nat.le_of_ble_eq_true rfl), fun t nt => ?_⟩
    have g3 := same_new nt (.tup [.str "stale", x])
    have g := g2.trans g3
    exact kq t _ (s01.trans g) (.inl ⟨k, x, hst, upd_same, kx1.mono (Same.tups g) _ _⟩)
end
end Tw
set_option Elab.async false
set_option linter.all false
set_option maxRecDepth 100000
set_option maxHeartbeats 8000000
namespace Tw
open PySem PySem.Spec L2 PyProof.Rows
theorem ts_ne : decide (V.str "told" = V.str "stale") = false := by decide +kernel
theorem st_ne : decide (V.str "stale" = V.str "told") = false := by decide +kernel
theorem flip_fit {rs : List KR} (h : FitR rs) : FitR (rs.map flipR) := by
  intro r hr
  obtain ⟨z, hz, rfl⟩ := List.mem_map.mp hr
  obtain ⟨a, b, c, d, e⟩ := h z hz
  exact ⟨a, c, b, e, d⟩
theorem fit_shrt {rs : List KR} (h : FitR rs) : Shrt rs := fun r hr => (h r hr).2.2.2
theorem bhd_len (fs ss : List KR) (ks : List KT) : (bhd fs ss ks).length ≤ ks.length := by
  unfold bhd
  have := List.length_filter_le (fun r : KR => !eqbL r.2.1 r.2.2) (ks.map (rowOf fs ss))
  rw [List.length_map] at this
  exact this
/-- what was told of both, as it lies there -/
def ToldAt (Hb H : Hp) (t : Addr) : Prop := (∃ y, H t = some (.tup [.str "stale", y])) ∨ ∃ D us', H t = some (.tup [.str "told", .ref D]) ∧ Hb D = none ∧ H D = some (.lst us') ∧ us'.length ≤ 100 ∧ ∀ u ∈ us', NewR D 10 Hb H u
theorem ToldAt.same {Hb H H' : Hp} {t : Addr} (h : ToldAt Hb H t) (s : Same H H') : ToldAt Hb H' t := by
  rcases h with ⟨y, e⟩ | ⟨D, us', e1, e2, e3, e4, e5⟩
  · exact .inl ⟨y, s _ _ e⟩
  · exact .inr ⟨D, us', s _ _ e1, e2, s _ _ e3, e4, fun u hu => NewR.same (e5 u hu) s⟩
def bAsked : List Stmt := bodyOf ((defBody sAsked)[2]?)
abbrev nAsked : List Str := ["_law_first", "_law_second", "_law_handed", "_law_due_here", "_law_turn", "_law_told_here", "_law_back"]
theorem scAsked : FnScope nAsked ["_law_first", "_law_second"] (defScope sAsked) := ⟨rfl, rfl, rfl, by decide +kernel, rfl, by decide +kernel, by decide +kernel⟩
section
variable {P : Program} {w : World} {K : PySem.W.Frag} {mg : Str → Option Value} {base : Heap} {f : Addr} {fd : FuncData} {cdv : Value} {A : Around} {outer : List Env} {s : Shared} {Hs : Hp} {E : XK}
/-- [(spot, new, old) for spot, old, new in rows] -/
theorem comp_flip {l : Addr} {us : List V} {rs : List KR} {σ : L2.St} {te : TE} {H : Hp} {Q : VK} (hl : H l = some (.lst us)) (hp : KRows H rs us) (h900 : us.length ≤ 900)
    (step : ∀ (u v z : V) (H3 : Hp) (R : VK), (∀ q, H3 q = none → R (.ref q) (upd H3 q (.tup [u, z, v]))) → te [some u, some v, some z] H3 R)
    (fin : ∀ (D : Addr) (us' : List V) (H3 : Hp), Same H H3 → H3 D = some (.lst us') → KRows H3 (rs.map flipR) us' → Q (.ref D) H3) : cEndT (Itl K l) 3 (gTri K) σ [] tTrue te H Q := by
  have ln := Paired.length hp
  refine comp_map3 (n := us.length) (fun i z => us[i]? = some z) (fun D i ys H3 => Same H H3 ∧ H D = none ∧ ys.length = i ∧ Paired (KRowW H H3) ((rs.map flipR).take i) ys) (small1000 (by omega))
    (fun D i ys H3 hi hP => ⟨us, us[i], SqL.of (hP.1 _ _ hl), by simp [hi]⟩) (fun D i ys H3 z H4 hi hP hy => ⟨hy.1, hy.2 us (SqL.of (hP.1 _ _ hl))⟩) (fun D ys H3 hP => ⟨us, SqL.of (hP.1 _ _ hl), Nat.le_refl _⟩)
    (fun D hD => ⟨same_new hD _, hD, rfl, .nil⟩) (fun D i ys H3 z eD hl' hi hz hPv => ?_) (fun D ys H3 eD hPv => ?_)
  · obtain ⟨s3, nD, ly, hys⟩ := hPv
    obtain ⟨r, er, t, x, a, b, rfl, ht, hx, ha, hb⟩ := Paired.ixR hp hz
    refine ⟨t, x, .ref a, .ref b, rfl, SqT.of (s3 _ _ ht), fun R hR => step x (.ref a) (.ref b) H3 R fun q nq => ?_⟩
    have g := same_new nq (.tup [x, .ref b, .ref a])
    have eq := upd_same (H := H3) (a := q) (o := .tup [x, .ref b, .ref a])
    generalize upd H3 q (.tup [x, .ref b, .ref a]) = H5 at g eq ⊢
    have eD5 := g _ _ eD
    have s5 := s3.trans g
    have sD : SameX D H5 (upd H5 D (.lst (ys ++ [.ref q]))) := (SameX.refl D H5).upd
    have tD := sD.tups eD5
    refine hR _ H5 eD5 ⟨fun c o e => by rw [upd_ne (ne_of_none e nD)]; exact s5 c o e, nD, by simp [ly], ?_⟩
    rw [List.take_add_one, List.getElem?_map, er]
    exact paired_snoc (a := flipR r) ⟨q, x, b, a, rfl, tD _ _ eq, (hx.mono (Same.tups s5) _ _).mono tD _ _, hb, ha⟩ (Paired.mapP hys fun _ _ z => KRowW.go (KRowW.go z (Same.tups g)) tD)
  · obtain ⟨s3, nD, ly, hys⟩ := hPv
    rw [List.take_of_length_le (by rw [List.length_map]; omega)] at hys
    exact fin D ys H3 s3 eD (Paired.mapP hys fun _ _ z => KRowW.row z s3)
theorem ta3 (T : Txt mg) (DU : DefOk P w K mg base 1 "turned" ["patch"] spTurned) (DA : DefOk P w K mg base 8 "_law_patch_alike" ["_law_found", "_law_due_here"] spPAlike) (DM : DefOk P w K mg base 1 "_law_marked" ["_law_rows"] spMarked) (hr : Room 8 (A.deeper (envOfC "_law_asked" (defScope sAsked) s.heap.objs.size f cdv))) :
    ∃ t, PSs (cxOf CX0 P w K mg base nAsked "_law_asked" (defScope sAsked) f cdv A outer s Hs E).nox (bAsked.drop 3) t ∧ ∀ (D0 : Ends) (Hb H : Hp) (a b hd du tt D1 D2 : Addr) (x4 x6 : Option V) (us us1 : List V) (fs : List KR),
      Same Hb H → ToldAt Hb H tt → H a = some (.lst us) → KRows H fs us → us.length ≤ 30 → H hd = some (.lst [.ref D1, .ref D2]) → H D1 = some (.lst us1) → KRows H fs us1 → FitR fs →
      (∀ x6' H', Same Hb H' → D0.nx [some (.ref a), some (.ref b), some (.ref hd), some (.ref du), x4, some (.ref tt), x6'] H') →
        t D0 [some (.ref a), some (.ref b), some (.ref hd), some (.ref du), x4, some (.ref tt), x6] H := by
  have nd := scAsked.nd
  have hr1 := hr.mono (show 1 ≤ 8 by decide)
  refine ⟨_, pss_cons (ps_set (i := 6) nd rfl (Or.inl rfl) (pe_def DU hr1 (pa_c (pe_ix (r := rIx K) ix_seq (pv 2) pe_int (fun _ _ => rfl)) pa_nil)))
    (pss_cons (ps_if (pt_not (pt_val (pe_def DA hr (pa_c (pv 6) (pa_c (pe_compT (g := gTri K) ["_law_spot", "_law_old", "_law_new"] "_law_spot" [] [] rfl (fun _ _ _ _ _ => pg_tri rfl nd3 rfl rfl rfl rfl rfl rfl) (pi_list (pv 0)) (fun _ _ _ _ _ => pts_nil) (fun _ _ _ _ _ => pe_tup (pa3 (pv 0) (pv 2) (pv 1))) trivial) pa_nil))))) (pss_one (ps_ret pe_bl)) pss_nil)
    (pss_cons (ps_expr (pe_def DM hr1 (pa_c (pv 6) pa_nil)))
    (pss_one (ps_if (pt_cmpR op_eq (pe_ix (r := rIxT K) ix_tup (pv 5) pe_int (fun _ _ => rfl)) pe_str (nomark _)) (pss_one (ps_expr (pe_def DM hr1 (pa_c (pe_ix (r := rIxT K) ix_tup (pv 5) pe_int (fun _ _ => rfl)) pa_nil)))) pss_nil)))), fun D0 Hb H a b hd du tt D1 D2 x4 x6 us us1 fs sb told ha kf l30 hhd hD1 k1 ff fin => ?_⟩
  have lf := Paired.length kf
  have l1 := Paired.length k1
  refine ⟨_, rfl, .inl ⟨hd, _, _, .ref D1, rfl, rfl, SqL.of hhd, rfl, D1, us1, fs, rfl, hD1, k1, fit_shrt ff, by omega, fun B usB H1 s1 nB hB kB newB => ?_⟩⟩
  have lB := Paired.length kB
  rw [List.length_map] at lB
  refine ⟨_, rfl, _, rfl, a, rfl, ⟨us, SqL.of (s1 _ _ ha)⟩, comp_flip (rs := fs) (s1 _ _ ha) (KRows.same kf s1) (by omega) (fun u v z H3 R hR => ⟨_, rfl, _, rfl, _, rfl, nn (Nat.le_of_ble_eq_true rfl), hR⟩) (fun D us' H2 s2 hD kD => ?_)⟩
  have lD := Paired.length kD
  rw [List.length_map] at lD
  refine ⟨B, D, usB, us', _, rfl, s2 _ _ hB, hD, KRows.same kB s2, kD, flip_fit ff, by omega, fun H3 s3 => ⟨_, rfl, iteF ?_⟩⟩
  have s13 := s2.trans s3
  have s03 := s1.trans s13
  refine ⟨_, rfl, B, usB, H, rfl, s13 _ _ hB, s03, nB, fun u hu => NewR.same (newB u hu) s13, by omega, fun H4 s4 => ?_⟩
  have sb4 := sb.trans s4
  rcases ToldAt.same told s4 with ⟨y, e⟩ | ⟨D', us'', e1, e2, e3, e4, e5⟩
  · refine ⟨_, rfl, tt, _, _, .str "stale", rfl, rfl, SqT.of e, rfl, rfl, _, rfl, ?_⟩
    rw [st_ne]
    exact iteF (fin _ _ sb4)
  · refine ⟨_, rfl, tt, _, _, .str "told", rfl, rfl, SqT.of e1, rfl, rfl, _, rfl, ?_⟩
    rw [decide_eq_true rfl]
    exact iteT ⟨_, rfl, tt, _, _, .ref D', rfl, rfl, SqT.of e1, rfl, D', us'', Hb, rfl, e3, sb4, e2, e5, e4, fun H5 s5 => fin _ _ s5⟩
/-! ### _law_asked -/
def spAsked : Sp := fun vs H Q _ => ∃ (a b : Addr) (us ws : List V) (fs ss : List KR), vs = [.ref a, .ref b] ∧ H a = some (.lst us) ∧ H b = some (.lst ws) ∧ KRows H fs us ∧ KRows H ss ws ∧ FitR fs ∧ FitR ss ∧ RisK (fs.map (·.1)) ∧ RisK (ss.map (·.1)) ∧ us.length ≤ 30 ∧ ws.length ≤ 30 ∧ ∀ H', Same H H' → Q (.bl true) H'
theorem ok_asked (F : Fun K "_law_asked" "_law_asked" sAsked f fd) (T : Txt mg) (DC : DefOk P w K mg base 1 "_law_copy" ["_law_rows"] spCopy) (DD : DefOk P w K mg base 9 "_law_due" ["_law_first", "_law_second"] spDue) (DT : DefOk P w K mg base 11 "_law_told" ["_law_first", "_law_second"] spTold) (DL : DefOk P w K mg base 6 "_law_alike" ["_law_found", "_law_due_here"] (spAlikeG 5))
    (DU : DefOk P w K mg base 1 "turned" ["patch"] spTurned) (DA : DefOk P w K mg base 8 "_law_patch_alike" ["_law_found", "_law_due_here"] spPAlike) (DM : DefOk P w K mg base 1 "_law_marked" ["_law_rows"] spMarked) : FnOk P w K mg base CX0 12 f fd ["_law_first", "_law_second"] spAsked := by
  refine F.ok scAsked (fun vs H Q E h => (by obtain ⟨_, _, _, _, _, _, rfl, _⟩ := h; rfl)) (fun cdv A outer s H vs Q E hr h => ?_)
  obtain ⟨a, b, us, ws, fs, ss, rfl, ha, hb, kf, ks, ff, fs', rf, rs', l1, l2, k⟩ := h
  have nd := scAsked.nd
  have nf := ris_nd rf
  have ns := ris_nd rs'
  have hr1 := hr.mono (show 1 ≤ 11 by decide)
  have hr6 := hr.mono (show 6 ≤ 11 by decide)
  have hr8 := hr.mono (show 8 ≤ 11 by decide)
  have hr9 := hr.mono (show 9 ≤ 11 by decide)
  obtain ⟨t3, ht3, hk3⟩ := ta3 (outer := outer) (Hs := H) (E := E) T DU DA DM hr8
  refine ⟨_, pss_cons (ps_set (i := 2) nd rfl (Or.inl rfl) (pe_lst (pa_c (pe_def DC hr1 (pa_c (pv 0) pa_nil)) (pa_c (pe_def DC hr1 (pa_c (pv 1) pa_nil)) pa_nil))))
    (pss_cons (ps_set (i := 3) nd rfl (Or.inl rfl) (pe_def DD hr9 (pa_c (pv 0) (pa_c (pv 1) pa_nil))))
    (pss_cons (ps_for PassesOwn.never rfl (pi_range1 rfl T.range (pa_c pe_int pa_nil)) (pg_name (i := 4) nd rfl (Or.inl rfl))
      (pss_cons (ps_set (i := 5) nd rfl (Or.inl rfl) (pe_def DT hr (pa_c (pe_ix (r := rIx K) ix_seq (pv 2) pe_int (fun _ _ => rfl)) (pa_c (pe_ix (r := rIx K) ix_seq (pv 2) pe_int (fun _ _ => rfl)) pa_nil))))
      (pss_cons (ps_if (PW.pt (pw_or (pt_cmpR op_ne (pe_ix (r := rIxT K) ix_tup (pv 5) pe_int (fun _ _ => rfl)) (pe_ix (r := rIxT K) ix_tup (pv 3) pe_int (fun _ _ => rfl)) (nomark _))
          (pw_or1 (PW.pt (pw_and (pt_cmpR op_eq (pe_ix (r := rIxT K) ix_tup (pv 5) pe_int (fun _ _ => rfl)) pe_str (nomark _)) (pw_and1 (pt_not (pt_val (pe_def DL hr6 (pa_c (pe_ix (r := rIxT K) ix_tup (pv 5) pe_int (fun _ _ => rfl)) (pa_c (pe_ix (r := rIxT K) ix_tup (pv 3) pe_int (fun _ _ => rfl)) pa_nil))))))))))) (pss_one (ps_ret pe_bl)) pss_nil)
      (pss_cons (ps_if (PW.pt (pw_and (pt_cmpR op_eq (pe_ix (r := rIxT K) ix_tup (pv 5) pe_int (fun _ _ => rfl)) pe_str (nomark _)) (pw_and1 (pt_not (pt_val (pe_def DA hr8 (pa_c (pe_ix (r := rIxT K) ix_tup (pv 5) pe_int (fun _ _ => rfl)) (pa_c (pe_ix (r := rIxT K) ix_tup (pv 3) pe_int (fun _ _ => rfl)) pa_nil)))))))) (pss_one (ps_ret pe_bl)) pss_nil)
        ht3))))
    (pss_one (ps_ret (pe_and (pe_def DA hr8 (pa_c (pe_ix (r := rIx K) ix_seq (pv 2) pe_int (fun _ _ => rfl)) (pa_c (pv 0) pa_nil))) (pe_one (pe_def DA hr8 (pa_c (pe_ix (r := rIx K) ix_seq (pv 2) pe_int (fun _ _ => rfl)) (pa_c (pv 1) pa_nil)))))))))  , ?_⟩
  have lf := Paired.length kf
  have ls := Paired.length ks
  refine ⟨_, rfl, a, us, fs, rfl, ha, kf, fit_shrt ff, by omega, fun D1 us1 H1 s1 nD1 hD1 kD1 _ => ?_⟩
  refine ⟨_, rfl, b, ws, ss, rfl, s1 _ _ hb, KRows.same ks s1, fit_shrt fs', by omega, fun D2 us2 H2 s2 nD2 hD2 kD2 _ => ?_⟩
  refine ⟨nn (Nat.le_of_ble_eq_true rfl), fun hd nhd => ?_⟩
  have g3 := same_new nhd (.lst [.ref D1, .ref D2])
  have e3 := upd_same (H := H2) (a := hd) (o := .lst [.ref D1, .ref D2])
  generalize upd H2 hd (.lst [.ref D1, .ref D2]) = H3 at g3 e3 ⊢
  have s23 := s2.trans g3
  have s03 := s1.trans s23
  have hD1' := s23 _ _ hD1
  have kD1' := KRows.same kD1 s23
  have hD2' := g3 _ _ hD2
  have kD2' := KRows.same kD2 g3
  have m1 := Paired.length kD1
  have m2 := Paired.length kD2
  refine ⟨_, rfl, _, rfl, a, b, us, ws, fs, ss, rfl, s03 _ _ ha, s03 _ _ hb, KRows.same kf s03, KRows.same ks s03, ff, fs', rf, rs', l1, l2, fun du H4 s4 due => ?_⟩
  refine ⟨2, rfl, by decide, by decide, for_range (n := 2) (fun j σ H' => ∃ (x4 x5 x6 : Option V), σ = [some (.ref a), some (.ref b), some (.ref hd), some (.ref du), x4, x5, x6] ∧ Same H4 H') ⟨_, _, _, rfl, Same.refl _⟩ ?_ ?_⟩
  · rintro j σ H5 hj ⟨x4, x5, x6, rfl, s5⟩
    have s35 := s4.trans s5
    have s05 := s03.trans s35
    refine ⟨_, rfl, .inl ⟨hd, _, _, .ref D1, rfl, rfl, SqL.of (s35 _ _ e3), rfl, _, rfl, .inl ⟨hd, _, _, .ref D2, rfl, rfl, SqL.of (s35 _ _ e3), rfl, D1, D2, us1, us2, fs, ss, rfl, s35 _ _ hD1', s35 _ _ hD2', KRows.same kD1' s35, KRows.same kD2' s35, ff, fs', nf, ns, by omega, by omega, fun t H6 s6 told => ?_⟩⟩⟩
    have s46 := s5.trans s6
    have go : ∀ (D0 : Ends) (x4 : Option V) {H7 : Hp}, Same H6 H7 → ToldAt H5 H7 t → (∀ x6' H', Same H5 H' → D0.nx [some (.ref a), some (.ref b), some (.ref hd), some (.ref du), x4, some (.ref t), x6'] H') → t3 D0 [some (.ref a), some (.ref b), some (.ref hd), some (.ref du), x4, some (.ref t), x6] H7 := fun D0 x4 {H7} s7 tt fin => by
      have s57 := s6.trans s7
      have s37 := s35.trans s57
      exact hk3 D0 H5 H7 a b hd du t D1 D2 x4 x6 us us1 fs s57 tt ((s05.trans s57) _ _ ha) (KRows.same kf (s05.trans s57)) l1 (s37 _ _ e3) (s37 _ _ hD1') (KRows.same kD1' s37) ff fin
    rcases told with ⟨k', x', h1, h2, h3⟩ | ⟨ks', D, us', h1, h2, h3, h4, h5, h6, h7, h8, h9⟩
    · obtain ⟨k0, x, d1, d2, d3⟩ : ∃ k x, staleOf fs ss = some k ∧ H4 du = some (.tup [.str "stale", x]) ∧ KeyAt H4 k x := by
        rcases due with q | ⟨_, _, _, d1, _⟩
        · exact q
        · rw [h1] at d1; cases d1
      rw [h1] at d1
      cases d1
      have fk : k'.fits 3 = true := by
        unfold staleOf at h1
        obtain ⟨r, hr', rfl⟩ := Option.map_eq_some_iff.mp h1
        exact (ff r (List.mem_of_find?_eq_some hr')).1
      have d26 := s46 _ _ d2
      refine ⟨_, rfl, t, _, _, .str "stale", rfl, rfl, SqT.of h2, rfl, _, rfl, du, _, _, .str "stale", rfl, rfl, SqT.of d26, rfl, rfl, _, rfl, iteNS rfl ?_⟩
      refine ⟨_, rfl, t, _, _, .str "stale", rfl, rfl, SqT.of h2, rfl, rfl, _, rfl, ?_⟩
      rw [decide_eq_true rfl]
      refine iteT ⟨_, rfl, t, _, _, x', rfl, rfl, SqT.of h2, rfl, _, rfl, du, _, _, x, rfl, rfl, SqT.of d26, rfl, x', x, k', k', 3, rfl, h3, d3.mono (Same.tups s46) _ _, wide_of _ _ fk, by decide, fun H7 s7 => ⟨_, rfl, ?_⟩⟩
      rw [eqb_self]
      refine iteF ⟨_, rfl, t, _, _, .str "stale", rfl, rfl, SqT.of (s7 _ _ h2), rfl, rfl, _, rfl, ?_⟩
      rw [st_ne]
      exact iteF (iteF (go _ _ s7 (.inl ⟨x', s7 _ _ h2⟩) fun x6' H' s' => ⟨_, _, _, rfl, s5.trans s'⟩))
    · rcases due with ⟨_, _, d1, _⟩ | ⟨ks, R, vs', d1, d2, d3, d4, d5, d6, d7⟩
      · rw [h1] at d1; cases d1
      have ek : ks' = ks := ris_uniq h2 d2 fun k => (h3 k).trans (d3 k).symm
      subst ek
      have d56 := s46 _ _ d5
      have lb := bhd_len fs ss ks'
      have n1 := Paired.length h8
      have n2 := Paired.length d7
      refine ⟨_, rfl, t, _, _, .str "told", rfl, rfl, SqT.of h5, rfl, _, rfl, du, _, _, .str "told", rfl, rfl, SqT.of d56, rfl, rfl, _, rfl, iteNS rfl ?_⟩
      refine ⟨_, rfl, t, _, _, .str "told", rfl, rfl, SqT.of h5, rfl, rfl, _, rfl, ?_⟩
      rw [ts_ne]
      refine iteF (iteF ⟨_, rfl, t, _, _, .str "told", rfl, rfl, SqT.of h5, rfl, rfl, _, rfl, ?_⟩)
      rw [decide_eq_true rfl]
      refine iteT ⟨_, rfl, t, _, _, .ref D, rfl, rfl, SqT.of h5, rfl, _, rfl, du, _, _, .ref R, rfl, rfl, SqT.of d56, rfl, D, R, us', vs', _, rfl, h7, s46 _ _ d6, h8, KRows.same d7 s46, bhd_fits ff fs' fun k hk => (h3 k).mp hk, by omega, fun H7 s7 => ⟨_, rfl, iteF ?_⟩⟩
      exact go _ _ s7 (.inr ⟨D, us', s7 _ _ h5, h6, s7 _ _ h7, by omega, fun u hu => NewR.same (h9 u hu) s7⟩) fun x6' H' s' => ⟨_, _, _, rfl, s5.trans s'⟩
  · rintro σ H5 ⟨x4, x5, x6, rfl, s5⟩
    have s35 := s4.trans s5
    have s05 := s03.trans s35
    refine ⟨_, rfl, .inl ⟨hd, _, _, .ref D1, rfl, rfl, SqL.of (s35 _ _ e3), rfl, _, rfl, D1, a, us1, us, fs, rfl, s35 _ _ hD1', s05 _ _ ha, KRows.same kD1' s35, KRows.same kf s05, ff, by omega, fun H6 s6 => ⟨_, rfl, iteT ?_⟩⟩⟩
    have s36 := s35.trans s6
    have s06 := s05.trans s6
    exact ⟨_, rfl, .inl ⟨hd, _, _, .ref D2, rfl, rfl, SqL.of (s36 _ _ e3), rfl, _, rfl, D2, b, us2, ws, ss, rfl, s36 _ _ hD2', s06 _ _ hb, KRows.same kD2' s36, KRows.same ks s06, fs', by omega, fun H7 s7 => k H7 (s06.trans s7)⟩⟩
end
end Tw
set_option Elab.async false
set_option linter.all false
set_option maxRecDepth 100000
set_option maxHeartbeats 8000000
namespace L2
open PySem PySem.Spec
/-! ### the written part's word on exception classes, in one truth -/
def xC (K : PySem.W.Frag) (C : Addr) : Bool :=
  (PySem.W.findIn K (.ref C) "__getattribute__" == some (some (.builtin "BaseException.__getattribute__"))) && ((PySem.W.findIn K (.ref C) "__getattr__" == some none) && ((PySem.W.mroIn K C (.type "BaseException") == some true) && ((PySem.W.mroIn K C (.type "object") == some true) &&
  ((PySem.W.findIn K (.ref C) "__class__" == some (some (.builtin "object.__class__"))) && ((PySem.W.specialIn K (.builtin "object.__class__") "__get__" == some (some (.builtin "getset_descriptor.__get__"))) && (PySem.W.takesIn K (.builtin "object.__class__") == some true))))))
theorem xC_of {K : PySem.W.Frag} {C : Addr} (h : xC K C = true) : ExcC K C := by
  unfold xC at h
  simp only [Bool.and_eq_true, beq_iff_eq] at h
  obtain ⟨a, b, c, d, e, f, g⟩ := h
  exact ⟨a, b, c, d, e, f, g⟩
def xF (K : PySem.W.Frag) (C fI : Addr) (f : Str) : Bool :=
  xC K C && (newV K C && ((PySem.W.findIn K (.ref C) "__init__" == some (some (.ref fI))) && (PySem.W.isFn K (.ref fI) && (PySem.W.keepIn K (.ref C) && ((PySem.W.findIn K (.ref C) "__setattr__" == some (some (.builtin "object.__setattr__"))) &&
  ((PySem.W.findIn K (.ref C) f == some none) && (PySem.W.hasDictIn K C && overV K C)))))))
theorem xF_of {K : PySem.W.Frag} {C fI : Addr} {f : Str} (h : xF K C fI f = true) : ExcF K C fI f := by
  unfold xF at h
  simp only [Bool.and_eq_true, beq_iff_eq] at h
  obtain ⟨a, b, c, d, e, f, g, i, j⟩ := h
  exact ⟨xC_of a, b, c, d, e, f, g, i, j⟩
def clsDef (st : Stmt) (i : Nat) : Stmt := match st with
  | .ClassDef _ _ _ b _ _ _ _ _ _ _ => b.getD i (.Pass ⟨0, 0, 0, 0⟩)
  | _ => .Pass ⟨0, 0, 0, 0⟩
end L2
namespace Tw
open PySem PySem.Spec L2
section
variable {P : Program} {w : World} {K : PySem.W.Frag} {mg : Str → Option Value} {base : Heap} {f : Addr} {fd : FuncData}
abbrev iStale : Stmt := clsDef (top 5) 0
theorem sciStale : FnScope ["self", "key"] ["self", "key"] (defScope iStale) := ⟨rfl, rfl, rfl, by decide +kernel, rfl, by decide +kernel, by decide +kernel⟩
theorem ok_iStale {C : Addr} (F : Fun K "__init__" "Stale.__init__" iStale f fd) : FnOk P w K mg base CX0 1 f fd ["self", "key"] (spInitX K C f "key") := by
  refine F.ok sciStale (fun vs H Q E h => (by obtain ⟨_, _, _, rfl, _⟩ := h; rfl)) (fun cdv A outer s H vs Q E hr h => ?_)
  obtain ⟨c, ea, y, rfl, e, k⟩ := h
  exact ⟨_, pss_one (ps_fldX (pv 0) (pv 1) rfl), ⟨_, rfl, _, rfl, gNew, ea, _, _, rfl, e, c, k⟩⟩
end
end Tw
set_option Elab.async false
set_option linter.all false
set_option maxRecDepth 100000
set_option maxHeartbeats 8000000
namespace Tw
open PySem PySem.Spec L2 PyProof.Rows
section
variable {P : Program} {w : World} {K : PySem.W.Frag} {mg : Str → Option Value} {base : Heap} {f : Addr} {fd : FuncData}
/-! ### law -/
abbrev nLaw : List Str := ["_law_script", "_law_k", "_law_first", "_law_second"]
theorem scLaw : FnScope nLaw ["_law_script"] (defScope sLaw) := ⟨rfl, rfl, rfl, by decide +kernel, rfl, by decide +kernel, by decide +kernel⟩
theorem ok_law (F : Fun K "law" "law" sLaw f fd) (T : Txt mg) (DW : DefOk P w K mg base 1 "_law_well" ["_law_script", "_law_k"] (spWell K)) (DP : DefOk P w K mg base 10 "_law_patches" ["_law_well_here"] spPatches) (DA : DefOk P w K mg base 12 "_law_asked" ["_law_first", "_law_second"] spAsked) :
    FnOk P w K mg base CX0 30 f fd ["_law_script"] (spLaw K) := by
  refine F.ok scLaw (fun vs H Q E h => (by obtain ⟨_, _, rfl, _⟩ := h; rfl)) (fun cdv A outer s H vs Q E hr h => ?_)
  obtain ⟨a, ns, rfl, hS, hn, k⟩ := h
  have nd := scLaw.nd
  have hr1 := hr.mono (show 1 ≤ 29 by decide)
  have hr10 := hr.mono (show 10 ≤ 29 by decide)
  have hr12 := hr.mono (show 12 ≤ 29 by decide)
  refine ⟨_, pss_cons (ps_for PassesOwn.never rfl (pi_range2 rfl T.range (pa_c pe_int (pa_c (pe_callB (call_max2 rfl) rfl T.max tb_max (pa_c pe_int (pa_c (pe_callB (call_min2 rfl) rfl T.min tb_min (pa_c (pe_callB call_len_seq rfl T.len tb_len (pa_c (pv 0) pa_nil)) (pa_c pe_int pa_nil))) pa_nil))) pa_nil))) (pg_name (i := 1) nd rfl (Or.inl rfl))
      (pss_cons (ps_asg (pe_def DP hr10 (pa_c (pe_def DW hr1 (pa_c (pv 0) (pa_c (pv 1) pa_nil))) pa_nil)) (pg_tup rfl (pgs_cons (pg_name (i := 2) nd rfl (Or.inl rfl)) (pgs_cons (pg_name (i := 3) nd rfl (Or.inl rfl)) pgs_nil))))
      (pss_one (ps_if (pt_not (pt_val (pe_def DA hr12 (pa_c (pv 2) (pa_c (pv 3) pa_nil))))) (pss_one (ps_ret pe_bl)) pss_nil))))
    (pss_one (ps_ret pe_bl)), ?_⟩
  obtain ⟨M, eM, M3, M61⟩ : ∃ M : Int, (if (if (63 : Int) < ((ns.map V.int).length : Int) then (63 : Int) else ((ns.map V.int).length : Int)) > 4 then (if (63 : Int) < ((ns.map V.int).length : Int) then (63 : Int) else ((ns.map V.int).length : Int)) else 4) = M ∧ 4 ≤ M ∧ M ≤ 63 := by
    refine ⟨_, rfl, ?_, ?_⟩
    · (repeat' split) <;> omega
    · (repeat' split) <;> omega
  refine ⟨_, rfl, a, ns.map V.int, rfl, .inl hS, _, _, rfl, _, _, rfl, 1, M, congrArg (fun z => [V.int 1, V.int z]) eM, ⟨by omega, by omega, by omega, by omega⟩, ?_⟩
  clear eM
  refine for_range (lo := 1) (n := (M - 1).toNat) (fun i σ H3 => ∃ (x1 x2 x3 : Option V), σ = [some (.ref a), x1, x2, x3] ∧ Same H H3) ⟨_, _, _, rfl, Same.refl _⟩ ?_ ?_
  · rintro i σ H3 hi ⟨x1, x2, x3, rfl, s3⟩
    refine ⟨_, rfl, _, rfl, a, ns, _, rfl, s3.seq hS, hn, by omega, by omega, fun p H4 np s4 W4 => ?_⟩
    refine ⟨p, rfl, W4, fun t fa fb us ws fs ss H5 s5 ht hA hB kA kB ff fs' rf rs l1 l2 => ?_⟩
    refine ⟨t, _, rfl, SqT.of ht, rfl, _, _, rfl, _, _, rfl, rfl, ?_⟩
    refine ⟨_, rfl, _, rfl, fa, fb, us, ws, fs, ss, rfl, hA, hB, kA, kB, ff, fs', rf, rs, by omega, by omega, fun H6 s6 => ⟨_, rfl, iteF ⟨_, _, _, rfl, ?_⟩⟩⟩
    have f5 : Same H3 H5 := fun b o e => s5 b o (s4 b o e) (ne_of_none e np)
    exact (s3.trans f5).trans s6
  · rintro σ H3 ⟨x1, x2, x3, rfl, s3⟩
    exact k H3
end
end Tw
set_option Elab.async false
set_option linter.all false
set_option maxRecDepth 100000
set_option maxHeartbeats 8000000
namespace Tw
open PySem PySem.Spec L2
theorem all_mk {l : PySem.W.OpenLaw} {w : World} {K : PySem.W.Frag} {h : Heap} {mg : Str → Option Value} {fa f1 f2 f3 f4 f5 f6 f7 f8 f9 f10 f11 f12 f13 f14 f15 f16 f17 f18 f19 f20 f21 f22 f23 f24 CB CS CK CR CO jS : Addr} (X : K.In h) (G : h.Ns mainGlobals mg) (hfa : mg "law" = some (.ref fa))
    {od1 an1 od2 an2 od3 an3 od4 an4 od5 an5 od6 an6 od7 an7 od8 an8 od9 an9 od10 an10 od11 an11 od12 an12 od13 an13 od14 an14 od15 an15 od16 an16 od17 an17 od18 an18 od19 an19 od20 an20 od21 an21 od22 an22 od23 an23 od24 an24 : Option Addr} {sl1 sl2 sl3 sl4 sl5 sl6 sl7 sl8 sl9 sl10 sl11 sl12 sl13 sl14 sl15 sl16 sl17 sl18 sl19 sl20 sl21 sl22 sl23 sl24 : Array (Option Value)} {oc1 kV1 dc1 pm1 cd1 ct1 oc2 kV2 dc2 pm2 cd2 ct2 oc3 kV3 dc3 pm3 cd3 ct3 oc4 kV4 dc4 pm4 cd4 ct4 oc5 kV5 dc5 pm5 cd5 ct5 oc6 kV6 dc6 pm6 cd6 ct6 oc7 kV7 dc7 pm7 cd7 ct7 oc8 kV8 dc8 pm8 cd8 ct8 oc9 kV9 dc9 pm9 cd9 ct9 oc10 kV10 dc10 pm10 cd10 ct10 oc11 kV11 dc11 pm11 cd11 ct11 oc12 kV12 dc12 pm12 cd12 ct12 oc13 kV13 dc13 pm13 cd13 ct13 oc14 kV14 dc14 pm14 cd14 ct14 oc15 kV15 dc15 pm15 cd15 ct15 oc16 kV16 dc16 pm16 cd16 ct16 oc17 kV17 dc17 pm17 cd17 ct17 oc18 kV18 dc18 pm18 cd18 ct18 oc19 kV19 dc19 pm19 cd19 ct19 oc20 kV20 dc20 pm20 cd20 ct20 oc21 kV21 dc21 pm21 cd21 ct21 oc22 kV22 dc22 pm22 cd22 ct22 oc23 kV23 dc23 pm23 cd23 ct23 oc24 kV24 dc24 pm24 cd24 ct24 : Value}
    (a1 : PySem.W.nsIn K mainGlobals "order" = some (some (.ref f1))) (l1 : K.lookup f1 = some ⟨oc1, od1, .func (PySem.W.fnOf "order" "order" (defArgs sOrder) (defBody sOrder) (defScope sOrder) .none kV1 dc1 pm1 an1 cd1 ct1), sl1⟩) (c1 : PySem.W.codeIn K cd1 "order" = true) (k1 : PySem.W.keepIn K (.ref f1) = true)
    (a2 : PySem.W.nsIn K mainGlobals "standing" = some (some (.ref f2))) (l2 : K.lookup f2 = some ⟨oc2, od2, .func (PySem.W.fnOf "standing" "standing" (defArgs sStanding) (defBody sStanding) (defScope sStanding) .none kV2 dc2 pm2 an2 cd2 ct2), sl2⟩) (c2 : PySem.W.codeIn K cd2 "standing" = true) (k2 : PySem.W.keepIn K (.ref f2) = true)
    (a3 : PySem.W.nsIn K mainGlobals "turned" = some (some (.ref f3))) (l3 : K.lookup f3 = some ⟨oc3, od3, .func (PySem.W.fnOf "turned" "turned" (defArgs sTurned) (defBody sTurned) (defScope sTurned) .none kV3 dc3 pm3 an3 cd3 ct3), sl3⟩) (c3 : PySem.W.codeIn K cd3 "turned" = true) (k3 : PySem.W.keepIn K (.ref f3) = true)
    (a4 : PySem.W.nsIn K mainGlobals "behind" = some (some (.ref f4))) (l4 : K.lookup f4 = some ⟨oc4, od4, .func (PySem.W.fnOf "behind" "behind" (defArgs sBehind) (defBody sBehind) (defScope sBehind) .none kV4 dc4 pm4 an4 cd4 ct4), sl4⟩) (c4 : PySem.W.codeIn K cd4 "behind" = true) (k4 : PySem.W.keepIn K (.ref f4) = true)
    (a5 : PySem.W.nsIn K mainGlobals "check_follows" = some (some (.ref f5))) (l5 : K.lookup f5 = some ⟨oc5, od5, .func (PySem.W.fnOf "check_follows" "check_follows" (defArgs sFollows) (defBody sFollows) (defScope sFollows) .none kV5 dc5 pm5 an5 cd5 ct5), sl5⟩) (c5 : PySem.W.codeIn K cd5 "check_follows" = true) (k5 : PySem.W.keepIn K (.ref f5) = true)
    (a6 : PySem.W.nsIn K mainGlobals "_law_well" = some (some (.ref f6))) (l6 : K.lookup f6 = some ⟨oc6, od6, .func (PySem.W.fnOf "_law_well" "_law_well" (defArgs sWell) (defBody sWell) (defScope sWell) .none kV6 dc6 pm6 an6 cd6 ct6), sl6⟩) (c6 : PySem.W.codeIn K cd6 "_law_well" = true) (k6 : PySem.W.keepIn K (.ref f6) = true)
    (a7 : PySem.W.nsIn K mainGlobals "_law_pull" = some (some (.ref f7))) (l7 : K.lookup f7 = some ⟨oc7, od7, .func (PySem.W.fnOf "_law_pull" "_law_pull" (defArgs sPull) (defBody sPull) (defScope sPull) .none kV7 dc7 pm7 an7 cd7 ct7), sl7⟩) (c7 : PySem.W.codeIn K cd7 "_law_pull" = true) (k7 : PySem.W.keepIn K (.ref f7) = true)
    (a8 : PySem.W.nsIn K mainGlobals "_law_great" = some (some (.ref f8))) (l8 : K.lookup f8 = some ⟨oc8, od8, .func (PySem.W.fnOf "_law_great" "_law_great" (defArgs sGreat) (defBody sGreat) (defScope sGreat) .none kV8 dc8 pm8 an8 cd8 ct8), sl8⟩) (c8 : PySem.W.codeIn K cd8 "_law_great" = true) (k8 : PySem.W.keepIn K (.ref f8) = true)
    (a9 : PySem.W.nsIn K mainGlobals "_law_text" = some (some (.ref f9))) (l9 : K.lookup f9 = some ⟨oc9, od9, .func (PySem.W.fnOf "_law_text" "_law_text" (defArgs sText) (defBody sText) (defScope sText) .none kV9 dc9 pm9 an9 cd9 ct9), sl9⟩) (c9 : PySem.W.codeIn K cd9 "_law_text" = true) (k9 : PySem.W.keepIn K (.ref f9) = true)
    (a10 : PySem.W.nsIn K mainGlobals "_law_key" = some (some (.ref f10))) (l10 : K.lookup f10 = some ⟨oc10, od10, .func (PySem.W.fnOf "_law_key" "_law_key" (defArgs sKey) (defBody sKey) (defScope sKey) .none kV10 dc10 pm10 an10 cd10 ct10), sl10⟩) (c10 : PySem.W.codeIn K cd10 "_law_key" = true) (k10 : PySem.W.keepIn K (.ref f10) = true)
    (a11 : PySem.W.nsIn K mainGlobals "_law_rank" = some (some (.ref f11))) (l11 : K.lookup f11 = some ⟨oc11, od11, .func (PySem.W.fnOf "_law_rank" "_law_rank" (defArgs sRank) (defBody sRank) (defScope sRank) .none kV11 dc11 pm11 an11 cd11 ct11), sl11⟩) (c11 : PySem.W.codeIn K cd11 "_law_rank" = true) (k11 : PySem.W.keepIn K (.ref f11) = true)
    (a12 : PySem.W.nsIn K mainGlobals "_law_keys" = some (some (.ref f12))) (l12 : K.lookup f12 = some ⟨oc12, od12, .func (PySem.W.fnOf "_law_keys" "_law_keys" (defArgs sKeys) (defBody sKeys) (defScope sKeys) .none kV12 dc12 pm12 an12 cd12 ct12), sl12⟩) (c12 : PySem.W.codeIn K cd12 "_law_keys" = true) (k12 : PySem.W.keepIn K (.ref f12) = true)
    (a13 : PySem.W.nsIn K mainGlobals "_law_alike" = some (some (.ref f13))) (l13 : K.lookup f13 = some ⟨oc13, od13, .func (PySem.W.fnOf "_law_alike" "_law_alike" (defArgs sAlike) (defBody sAlike) (defScope sAlike) .none kV13 dc13 pm13 an13 cd13 ct13), sl13⟩) (c13 : PySem.W.codeIn K cd13 "_law_alike" = true) (k13 : PySem.W.keepIn K (.ref f13) = true)
    (a14 : PySem.W.nsIn K mainGlobals "_law_rows_alike" = some (some (.ref f14))) (l14 : K.lookup f14 = some ⟨oc14, od14, .func (PySem.W.fnOf "_law_rows_alike" "_law_rows_alike" (defArgs sRowsAlike) (defBody sRowsAlike) (defScope sRowsAlike) .none kV14 dc14 pm14 an14 cd14 ct14), sl14⟩) (c14 : PySem.W.codeIn K cd14 "_law_rows_alike" = true) (k14 : PySem.W.keepIn K (.ref f14) = true)
    (a15 : PySem.W.nsIn K mainGlobals "_law_value" = some (some (.ref f15))) (l15 : K.lookup f15 = some ⟨oc15, od15, .func (PySem.W.fnOf "_law_value" "_law_value" (defArgs sValue) (defBody sValue) (defScope sValue) .none kV15 dc15 pm15 an15 cd15 ct15), sl15⟩) (c15 : PySem.W.codeIn K cd15 "_law_value" = true) (k15 : PySem.W.keepIn K (.ref f15) = true)
    (a16 : PySem.W.nsIn K mainGlobals "_law_patch_alike" = some (some (.ref f16))) (l16 : K.lookup f16 = some ⟨oc16, od16, .func (PySem.W.fnOf "_law_patch_alike" "_law_patch_alike" (defArgs sPAlike) (defBody sPAlike) (defScope sPAlike) .none kV16 dc16 pm16 an16 cd16 ct16), sl16⟩) (c16 : PySem.W.codeIn K cd16 "_law_patch_alike" = true) (k16 : PySem.W.keepIn K (.ref f16) = true)
    (a17 : PySem.W.nsIn K mainGlobals "_law_side" = some (some (.ref f17))) (l17 : K.lookup f17 = some ⟨oc17, od17, .func (PySem.W.fnOf "_law_side" "_law_side" (defArgs sSide) (defBody sSide) (defScope sSide) .none kV17 dc17 pm17 an17 cd17 ct17), sl17⟩) (c17 : PySem.W.codeIn K cd17 "_law_side" = true) (k17 : PySem.W.keepIn K (.ref f17) = true)
    (a18 : PySem.W.nsIn K mainGlobals "_law_patches" = some (some (.ref f18))) (l18 : K.lookup f18 = some ⟨oc18, od18, .func (PySem.W.fnOf "_law_patches" "_law_patches" (defArgs sPatches) (defBody sPatches) (defScope sPatches) .none kV18 dc18 pm18 an18 cd18 ct18), sl18⟩) (c18 : PySem.W.codeIn K cd18 "_law_patches" = true) (k18 : PySem.W.keepIn K (.ref f18) = true)
    (a19 : PySem.W.nsIn K mainGlobals "_law_due" = some (some (.ref f19))) (l19 : K.lookup f19 = some ⟨oc19, od19, .func (PySem.W.fnOf "_law_due" "_law_due" (defArgs sDue) (defBody sDue) (defScope sDue) .none kV19 dc19 pm19 an19 cd19 ct19), sl19⟩) (c19 : PySem.W.codeIn K cd19 "_law_due" = true) (k19 : PySem.W.keepIn K (.ref f19) = true)
    (a20 : PySem.W.nsIn K mainGlobals "_law_told" = some (some (.ref f20))) (l20 : K.lookup f20 = some ⟨oc20, od20, .func (PySem.W.fnOf "_law_told" "_law_told" (defArgs sTold) (defBody sTold) (defScope sTold) .none kV20 dc20 pm20 an20 cd20 ct20), sl20⟩) (c20 : PySem.W.codeIn K cd20 "_law_told" = true) (k20 : PySem.W.keepIn K (.ref f20) = true)
    (a21 : PySem.W.nsIn K mainGlobals "_law_copy" = some (some (.ref f21))) (l21 : K.lookup f21 = some ⟨oc21, od21, .func (PySem.W.fnOf "_law_copy" "_law_copy" (defArgs sCopy) (defBody sCopy) (defScope sCopy) .none kV21 dc21 pm21 an21 cd21 ct21), sl21⟩) (c21 : PySem.W.codeIn K cd21 "_law_copy" = true) (k21 : PySem.W.keepIn K (.ref f21) = true)
    (a22 : PySem.W.nsIn K mainGlobals "_law_marked" = some (some (.ref f22))) (l22 : K.lookup f22 = some ⟨oc22, od22, .func (PySem.W.fnOf "_law_marked" "_law_marked" (defArgs sMarked) (defBody sMarked) (defScope sMarked) .none kV22 dc22 pm22 an22 cd22 ct22), sl22⟩) (c22 : PySem.W.codeIn K cd22 "_law_marked" = true) (k22 : PySem.W.keepIn K (.ref f22) = true)
    (a23 : PySem.W.nsIn K mainGlobals "_law_asked" = some (some (.ref f23))) (l23 : K.lookup f23 = some ⟨oc23, od23, .func (PySem.W.fnOf "_law_asked" "_law_asked" (defArgs sAsked) (defBody sAsked) (defScope sAsked) .none kV23 dc23 pm23 an23 cd23 ct23), sl23⟩) (c23 : PySem.W.codeIn K cd23 "_law_asked" = true) (k23 : PySem.W.keepIn K (.ref f23) = true)
    (a24 : PySem.W.nsIn K mainGlobals "law" = some (some (.ref f24))) (l24 : K.lookup f24 = some ⟨oc24, od24, .func (PySem.W.fnOf "law" "law" (defArgs sLaw) (defBody sLaw) (defScope sLaw) .none kV24 dc24 pm24 an24 cd24 ct24), sl24⟩) (c24 : PySem.W.codeIn K cd24 "law" = true) (k24 : PySem.W.keepIn K (.ref f24) = true)
    (z1 : PySem.W.nsIn K mainGlobals "isinstance" = some none) (z2 : PySem.W.nsIn K mainGlobals "bool" = some none) (z3 : PySem.W.nsIn K mainGlobals "int" = some none) (z4 : PySem.W.nsIn K mainGlobals "str" = some none) (z5 : PySem.W.nsIn K mainGlobals "tuple" = some none) (z6 : PySem.W.nsIn K mainGlobals "list" = some none) (z7 : PySem.W.nsIn K mainGlobals "len" = some none) (z8 : PySem.W.nsIn K mainGlobals "all" = some none) (z9 : PySem.W.nsIn K mainGlobals "abs" = some none) (z10 : PySem.W.nsIn K mainGlobals "max" = some none) (z11 : PySem.W.nsIn K mainGlobals "min" = some none) (z12 : PySem.W.nsIn K mainGlobals "range" = some none) (z13 : PySem.W.nsIn K mainGlobals "sorted" = some none) (z14 : PySem.W.nsIn K mainGlobals "dict" = some none) (z15 : PySem.W.nsIn K mainGlobals "ValueError" = some none)
    {ocjS kVjS dcjS pmjS cdjS ctjS : Value} {odjS anjS : Option Addr} {sljS : Array (Option Value)} (iljS : K.lookup jS = some ⟨ocjS, odjS, .func (PySem.W.fnOf "__init__" "Stale.__init__" (defArgs iStale) (defBody iStale) (defScope iStale) .none kVjS dcjS pmjS anjS cdjS ctjS), sljS⟩) (icjS : PySem.W.codeIn K cdjS "Stale.__init__" = true) (ikjS : PySem.W.keepIn K (.ref jS) = true)
    (x1 : PySem.W.nsIn K mainGlobals "Stale" = some (some (.ref CS))) (x2 : PySem.W.nsIn K mainGlobals "TwigError" = some (some (.ref CB))) (x3 : PySem.W.nsIn K mainGlobals "NoKey" = some (some (.ref CK))) (x4 : PySem.W.nsIn K mainGlobals "NotRising" = some (some (.ref CR))) (x5 : PySem.W.nsIn K mainGlobals "Overlap" = some (some (.ref CO))) (v1 : PySem.W.findIn K (.ref CS) "__init__" = some (some (.ref jS))) (w1 : xF K CS jS "key" = true) (y1 : PySem.W.typeIn K (.ref CS) = some (.type "type")) (y2 : PySem.W.mroIn K CS (.ref CB) = some true) (y3 : PySem.W.typeIn K (.ref CB) = some (.type "type")) (y4 : PySem.W.mroIn K CB (.type "BaseException") = some true) (y5 : PySem.W.kitOne K (.ref CS) (.ref CS) = some true) (y6 : PySem.W.kitOne K (.ref CS) (.type "ValueError") = some true) (y7 : PySem.W.kitAny K (.ref CS) [.ref CK, .ref CR, .ref CO] = some false) :
    ∃ fd : FuncData, (∀ (s : Shared) (v : Value), BindsTo s fd ⟨[v], []⟩ [("_law_script", v)]) ∧ ∀ base : Heap, K.In base → base.Ns mainGlobals mg → FnOk l.prog w K mg base CX0 30 fa fd ["_law_script"] (spLaw K) := by
  have e := hfa.symm.trans (PySem.W.mg_of X G a24)
  cases e
  have T : Txt mg := ⟨PySem.W.mg_none_of X G z1, PySem.W.mg_none_of X G z2, PySem.W.mg_none_of X G z3, PySem.W.mg_none_of X G z4, PySem.W.mg_none_of X G z5, PySem.W.mg_none_of X G z6, PySem.W.mg_none_of X G z7, PySem.W.mg_none_of X G z8, PySem.W.mg_none_of X G z9, PySem.W.mg_none_of X G z10, PySem.W.mg_none_of X G z11, PySem.W.mg_none_of X G z12, PySem.W.mg_none_of X G z13, PySem.W.mg_none_of X G z14, PySem.W.mg_none_of X G z15⟩
  have L1 : Laid K mg "order" sOrder ["keys"] := laid_mk X G a1 l1 c1 k1 fun _ _ _ _ _ _ us hl => match us, hl with | [_], _ => rfl
  have L2 : Laid K mg "standing" sStanding ["key"] := laid_mk X G a2 l2 c2 k2 fun _ _ _ _ _ _ us hl => match us, hl with | [_], _ => rfl
  have L3 : Laid K mg "turned" sTurned ["patch"] := laid_mk X G a3 l3 c3 k3 fun _ _ _ _ _ _ us hl => match us, hl with | [_], _ => rfl
  have L4 : Laid K mg "behind" sBehind ["first", "second"] := laid_mk X G a4 l4 c4 k4 fun _ _ _ _ _ _ us hl => match us, hl with | [_, _], _ => rfl
  have L5 : Laid K mg "check_follows" sFollows ["first", "second"] := laid_mk X G a5 l5 c5 k5 fun _ _ _ _ _ _ us hl => match us, hl with | [_, _], _ => rfl
  have L6 : Laid K mg "_law_well" sWell ["_law_script", "_law_k"] := laid_mk X G a6 l6 c6 k6 fun _ _ _ _ _ _ us hl => match us, hl with | [_, _], _ => rfl
  have L7 : Laid K mg "_law_pull" sPull ["_law_well_here", "_law_many"] := laid_mk X G a7 l7 c7 k7 fun _ _ _ _ _ _ us hl => match us, hl with | [_, _], _ => rfl
  have L8 : Laid K mg "_law_great" sGreat ["_law_well_here", "_law_bound"] := laid_mk X G a8 l8 c8 k8 fun _ _ _ _ _ _ us hl => match us, hl with | [_, _], _ => rfl
  have L9 : Laid K mg "_law_text" sText ["_law_well_here"] := laid_mk X G a9 l9 c9 k9 fun _ _ _ _ _ _ us hl => match us, hl with | [_], _ => rfl
  have L10 : Laid K mg "_law_key" sKey ["_law_well_here", "_law_room"] := laid_mk X G a10 l10 c10 k10 fun _ _ _ _ _ _ us hl => match us, hl with | [_, _], _ => rfl
  have L11 : Laid K mg "_law_rank" sRank ["_law_spot"] := laid_mk X G a11 l11 c11 k11 fun _ _ _ _ _ _ us hl => match us, hl with | [_], _ => rfl
  have L12 : Laid K mg "_law_keys" sKeys ["_law_well_here", "_law_many"] := laid_mk X G a12 l12 c12 k12 fun _ _ _ _ _ _ us hl => match us, hl with | [_, _], _ => rfl
  have L13 : Laid K mg "_law_alike" sAlike ["_law_found", "_law_due_here"] := laid_mk X G a13 l13 c13 k13 fun _ _ _ _ _ _ us hl => match us, hl with | [_, _], _ => rfl
  have L14 : Laid K mg "_law_rows_alike" sRowsAlike ["_law_found", "_law_due_here"] := laid_mk X G a14 l14 c14 k14 fun _ _ _ _ _ _ us hl => match us, hl with | [_, _], _ => rfl
  have L15 : Laid K mg "_law_value" sValue ["_law_well_here"] := laid_mk X G a15 l15 c15 k15 fun _ _ _ _ _ _ us hl => match us, hl with | [_], _ => rfl
  have L16 : Laid K mg "_law_patch_alike" sPAlike ["_law_found", "_law_due_here"] := laid_mk X G a16 l16 c16 k16 fun _ _ _ _ _ _ us hl => match us, hl with | [_, _], _ => rfl
  have L17 : Laid K mg "_law_side" sSide ["_law_well_here", "_law_other"] := laid_mk X G a17 l17 c17 k17 fun _ _ _ _ _ _ us hl => match us, hl with | [_, _], _ => rfl
  have L18 : Laid K mg "_law_patches" sPatches ["_law_well_here"] := laid_mk X G a18 l18 c18 k18 fun _ _ _ _ _ _ us hl => match us, hl with | [_], _ => rfl
  have L19 : Laid K mg "_law_due" sDue ["_law_first", "_law_second"] := laid_mk X G a19 l19 c19 k19 fun _ _ _ _ _ _ us hl => match us, hl with | [_, _], _ => rfl
  have L20 : Laid K mg "_law_told" sTold ["_law_first", "_law_second"] := laid_mk X G a20 l20 c20 k20 fun _ _ _ _ _ _ us hl => match us, hl with | [_, _], _ => rfl
  have L21 : Laid K mg "_law_copy" sCopy ["_law_rows"] := laid_mk X G a21 l21 c21 k21 fun _ _ _ _ _ _ us hl => match us, hl with | [_], _ => rfl
  have L22 : Laid K mg "_law_marked" sMarked ["_law_rows"] := laid_mk X G a22 l22 c22 k22 fun _ _ _ _ _ _ us hl => match us, hl with | [_], _ => rfl
  have L23 : Laid K mg "_law_asked" sAsked ["_law_first", "_law_second"] := laid_mk X G a23 l23 c23 k23 fun _ _ _ _ _ _ us hl => match us, hl with | [_, _], _ => rfl
  refine ⟨PySem.W.fnOf "law" "law" (defArgs sLaw) (defBody sLaw) (defScope sLaw) .none kV24 dc24 pm24 an24 cd24 ct24, fun s v => .of_eq rfl, fun base kb _ => ?_⟩
  have NTx : ST l.prog w K mg base CS := ⟨⟨jS, _, xF_of w1, ok_iStale (fun_mk (st := iStale) iljS icjS ikjS), (fun_mk (st := iStale) iljS icjS ikjS).binds fun _ _ _ _ _ _ us hl => match us, hl with | [_, _], _ => rfl⟩, PySem.W.mg_of X G x1, y1⟩
  have CLx : Cl K mg CB CS CK CR CO := ⟨PySem.W.mg_of X G x2, PySem.W.mg_of X G x3, PySem.W.mg_of X G x4, PySem.W.mg_of X G x5, y2, y3, y4, y5, y6, y7⟩
  have DP : DefOk l.prog w K mg base 1 "_law_pull" ["_law_well_here", "_law_many"] spPull := L7.of fun _ _ F => ok_pull F
  have DG : DefOk l.prog w K mg base 2 "_law_great" ["_law_well_here", "_law_bound"] spPull := L8.of fun _ _ F => ok_great F T DP
  have DT : DefOk l.prog w K mg base 2 "_law_text" ["_law_well_here"] spText := L9.of fun _ _ F => ok_text F T DP
  have DW : DefOk l.prog w K mg base 1 "_law_well" ["_law_script", "_law_k"] (spWell K) := L6.of fun _ _ F => ok_well F T
  have DSt : DefOk l.prog w K mg base 6 "standing" ["key"] (spSt 5) := all_standing T L2 5
  have DOr : DefOk l.prog w K mg base 9 "order" ["keys"] spOrder := L1.of fun _ _ F => ok_order F T DSt
  have DFo : DefD l.prog w K mg base 3 "check_follows" ["first", "second"] (spFollows CS) := L5.ofD fun _ _ F => ok_follows F T NTx
  have DBe : DefD l.prog w K mg base 10 "behind" ["first", "second"] (spBehind CS) := L4.ofD fun _ _ F => ok_behind F T DFo DOr
  have DTu : DefOk l.prog w K mg base 1 "turned" ["patch"] spTurned := L3.of fun _ _ F => ok_turned F T
  have DK : DefOk l.prog w K mg base 6 "_law_key" ["_law_well_here", "_law_room"] (spKey 4) := all_key T L10 DP DG DT 4
  have DRk : DefOk l.prog w K mg base 6 "_law_rank" ["_law_spot"] (spRank 5) := all_rank T L11 5
  have DKs : DefOk l.prog w K mg base 9 "_law_keys" ["_law_well_here", "_law_many"] spKeys := L12.of fun _ _ F => ok_keys F T DK DRk
  have DAl := all_alikeG (P := l.prog) (w := w) (base := base) T L13 5
  have DRa : DefOk l.prog w K mg base 7 "_law_rows_alike" ["_law_found", "_law_due_here"] spRAlike := L14.of fun _ _ F => ok_ralike F T DAl
  have DV : DefOk l.prog w K mg base 7 "_law_value" ["_law_well_here"] spValue := L15.of fun _ _ F => ok_value F DP DK
  have DPa : DefOk l.prog w K mg base 8 "_law_patch_alike" ["_law_found", "_law_due_here"] spPAlike := L16.of fun _ _ F => ok_palike F T DAl DRa
  have DSi : DefOk l.prog w K mg base 8 "_law_side" ["_law_well_here", "_law_other"] spSide := L17.of fun _ _ F => ok_side F DP DV DRa
  have DPs : DefOk l.prog w K mg base 10 "_law_patches" ["_law_well_here"] spPatches := L18.of fun _ _ F => ok_patches F T DP DKs DSi DRa
  have DDu : DefOk l.prog w K mg base 9 "_law_due" ["_law_first", "_law_second"] spDue := L19.of fun _ _ F => ok_due F T DRk DRa
  have DTo : DefOk l.prog w K mg base 11 "_law_told" ["_law_first", "_law_second"] spTold := L20.of fun _ _ F => ok_told F T NTx CLx DBe
  have DCo : DefOk l.prog w K mg base 1 "_law_copy" ["_law_rows"] spCopy := L21.of fun _ _ F => ok_copy F T
  have DMa : DefOk l.prog w K mg base 1 "_law_marked" ["_law_rows"] spMarked := L22.of fun _ _ F => ok_marked F
  have DAs : DefOk l.prog w K mg base 12 "_law_asked" ["_law_first", "_law_second"] spAsked := L23.of fun _ _ F => ok_asked F T DCo DDu DTo DAl DTu DPa DMa
  exact ok_law (fun_mk (st := sLaw) l24 c24 k24) T DW DPs DAs
theorem walk {l : PySem.W.OpenLaw} {q : Program} {loose : List Str} {XP : (Str → Option Value) → Heap → Prop} {YP : World → Heap → Prop} {d : DefRec} {K : Params → PySem.W.Frag} (hn : l.most = some 63) (hdf : d.params.defaults = [])
    (hY : ∀ (w : World) (h : Heap), YP w h → (K w.params).In h)
    (F : ∀ (w : World) (mg : Str → Option Value) (fa : Addr) (h : Heap), (K w.params).In h → h.Ns mainGlobals mg → mg d.name = some (.ref fa) →
      ∃ fd : FuncData, (∀ (s : Shared) (u : Value), BindsTo s fd ⟨[u], []⟩ [("_law_script", u)]) ∧ ∀ base : Heap, (K w.params).In base → base.Ns mainGlobals mg → FnOk l.prog w (K w.params) mg base CX0 30 fa fd ["_law_script"] (spLaw (K w.params))) :
    PySem.W.WalkO q loose XP YP l.row.toRowW d [] (fun f vs => PySem.call f vs) :=
  L2.walk_of (n := 63) (k := 30) (x := "_law_script") (CX := fun _ => CX0) (sp := fun w => spLaw (K w.params)) hn (by decide) hdf ⟨rfl, by decide, by decide⟩ hY F (fun _ _ a ns hl _ hS => ⟨a, ns, rfl, hS, hl, fun _ => rfl⟩) fun _ _ _ _ _ z => z
end Tw
open PySem PySem.W PyProof.Rows
set_option maxRecDepth 100000 in
set_option maxHeartbeats 0 in
theorem PySem.Challenge.cw_twigmap_k65_behind_and_turned_holds : PySem.Challenge.rw_twigmap_k65_behind_and_turned.Holds := by
  w_on; o_law; k_head; (case hw => w_witness2)
  k_fill
  refine Tw.walk (l := PySem.Challenge.rw_twigmap_k65_behind_and_turned) rfl rfl (fun w h Y => PySem.W.kIn_of Y) ?F
  case F =>
    intro w mg fa h KX G hmg
    refine' Tw.all_mk KX G hmg ?a1 ?l1 ?c1 ?k1 ?a2 ?l2 ?c2 ?k2 ?a3 ?l3 ?c3 ?k3 ?a4 ?l4 ?c4 ?k4 ?a5 ?l5 ?c5 ?k5 ?a6 ?l6 ?c6 ?k6 ?a7 ?l7 ?c7 ?k7 ?a8 ?l8 ?c8 ?k8 ?a9 ?l9 ?c9 ?k9 ?a10 ?l10 ?c10 ?k10 ?a11 ?l11 ?c11 ?k11 ?a12 ?l12 ?c12 ?k12 ?a13 ?l13 ?c13 ?k13 ?a14 ?l14 ?c14 ?k14 ?a15 ?l15 ?c15 ?k15 ?a16 ?l16 ?c16 ?k16 ?a17 ?l17 ?c17 ?k17 ?a18 ?l18 ?c18 ?k18 ?a19 ?l19 ?c19 ?k19 ?a20 ?l20 ?c20 ?k20 ?a21 ?l21 ?c21 ?k21 ?a22 ?l22 ?c22 ?k22 ?a23 ?l23 ?c23 ?k23 ?a24 ?l24 ?c24 ?k24 ?z1 ?z2 ?z3 ?z4 ?z5 ?z6 ?z7 ?z8 ?z9 ?z10 ?z11 ?z12 ?z13 ?z14 ?z15 ?iljS ?icjS ?ikjS ?x1 ?x2 ?x3 ?x4 ?x5 ?v1 ?w1 ?y1 ?y2 ?y3 ?y4 ?y5 ?y6 ?y7
    (case x1 => k_is)
    (case x2 => k_is)
    (case x3 => k_is)
    (case x4 => k_is)
    (case x5 => k_is)
    (case v1 => k_is)
    (case a1 => k_is)
    (case l1 => k_is)
    (case c1 => k_is)
    (case k1 => k_is)
    (case a2 => k_is)
    (case l2 => k_is)
    (case c2 => k_is)
    (case k2 => k_is)
    (case a3 => k_is)
    (case l3 => k_is)
    (case c3 => k_is)
    (case k3 => k_is)
    (case a4 => k_is)
    (case l4 => k_is)
    (case c4 => k_is)
    (case k4 => k_is)
    (case a5 => k_is)
    (case l5 => k_is)
    (case c5 => k_is)
    (case k5 => k_is)
    (case a6 => k_is)
    (case l6 => k_is)
    (case c6 => k_is)
    (case k6 => k_is)
    (case a7 => k_is)
    (case l7 => k_is)
    (case c7 => k_is)
    (case k7 => k_is)
    (case a8 => k_is)
    (case l8 => k_is)
    (case c8 => k_is)
    (case k8 => k_is)
    (case a9 => k_is)
    (case l9 => k_is)
    (case c9 => k_is)
    (case k9 => k_is)
    (case a10 => k_is)
    (case l10 => k_is)
    (case c10 => k_is)
    (case k10 => k_is)
    (case a11 => k_is)
    (case l11 => k_is)
    (case c11 => k_is)
    (case k11 => k_is)
    (case a12 => k_is)
    (case l12 => k_is)
    (case c12 => k_is)
    (case k12 => k_is)
    (case a13 => k_is)
    (case l13 => k_is)
    (case c13 => k_is)
    (case k13 => k_is)
    (case a14 => k_is)
    (case l14 => k_is)
    (case c14 => k_is)
    (case k14 => k_is)
    (case a15 => k_is)
    (case l15 => k_is)
    (case c15 => k_is)
    (case k15 => k_is)
    (case a16 => k_is)
    (case l16 => k_is)
    (case c16 => k_is)
    (case k16 => k_is)
    (case a17 => k_is)
    (case l17 => k_is)
    (case c17 => k_is)
    (case k17 => k_is)
    (case a18 => k_is)
    (case l18 => k_is)
    (case c18 => k_is)
    (case k18 => k_is)
    (case a19 => k_is)
    (case l19 => k_is)
    (case c19 => k_is)
    (case k19 => k_is)
    (case a20 => k_is)
    (case l20 => k_is)
    (case c20 => k_is)
    (case k20 => k_is)
    (case a21 => k_is)
    (case l21 => k_is)
    (case c21 => k_is)
    (case k21 => k_is)
    (case a22 => k_is)
    (case l22 => k_is)
    (case c22 => k_is)
    (case k22 => k_is)
    (case a23 => k_is)
    (case l23 => k_is)
    (case c23 => k_is)
    (case k23 => k_is)
    (case a24 => k_is)
    (case l24 => k_is)
    (case c24 => k_is)
    (case k24 => k_is)
    (case z1 => k_is)
    (case z2 => k_is)
    (case z3 => k_is)
    (case z4 => k_is)
    (case z5 => k_is)
    (case z6 => k_is)
    (case z7 => k_is)
    (case z8 => k_is)
    (case z9 => k_is)
    (case z10 => k_is)
    (case z11 => k_is)
    (case z12 => k_is)
    (case z13 => k_is)
    (case z14 => k_is)
    (case z15 => k_is)
    (case iljS => k_is)
    (case icjS => k_is)
    (case ikjS => k_is)
    (case w1 => kernel_rfl)
    (case y1 => k_is)
    (case y2 => k_is)
    (case y3 => k_is)
    (case y4 => k_is)
    (case y5 => kit_is)
    (case y6 => kit_is)
    (case y7 => kit_is)
