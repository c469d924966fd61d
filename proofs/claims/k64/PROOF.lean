import PyProof.Rows.All
import Wide.All
import OpenK.AllK
import Wide.FinOn
import Lean
import PyProof.EqAt
import PyProof.EqKinds
import PyProof.TupleCall
import PyProof.NeKinds
import PyProof.TupleKey
import PyProof.DictFindH
import PyProof.NsDelKeeps
import PyProof.ExcBaseAll.ValueError
import KE.KIsAll
import PyProof.ExcArgsOwn
import PyProof.ExcAttrAll.ValueError
import KE.KSortTup
import KE.KDictList
import PyProof.Rows.SortWalk
import KE.KLam
import KE.KEqDict
import KE.KRevIter
import PyProof.Rows.StrStep
import PySem.Challenge.RW_twigmap_k64_patches
set_option Elab.async false
set_option linter.all false
set_option maxRecDepth 100000
/-! THE HAND LAYER, for ints, bools, texts, own classes, LISTS and tuples (index, slices, in, append, pop ..), calls, loops. Paste it whole ahead of your own text; what your proof does not reach may be deleted. -/
namespace L2
open PySem PySem.Spec PyProof.Rows

/-- a key: an int or a str -/
abbrev Key := Sum Int Str
def keyIs : Key → Value → Bool
  | .inl k, v => Value.isInt k v
  | .inr x, v => Value.isStrOf x v
def keyH (w : World) : Key → Int
  | .inl k => hashInt k
  | .inr x => hashStr w x
theorem keyIs_shape : ∀ {k : Key} {v : Value}, keyIs k v = true → (∃ i t, k = Sum.inl i ∧ v = Value.int i t) ∨ (∃ x t, k = Sum.inr x ∧ v = Value.str x t)
  | .inl i, v, h => by
    obtain ⟨t, e⟩ := Value.isInt_shape (k := i) (v := v) h
    exact .inl ⟨i, t, rfl, e⟩
  | .inr x, v, h => by
    obtain ⟨t, e⟩ := Value.isStrOf_shape (x := x) (v := v) h
    exact .inr ⟨x, t, rfl, e⟩
theorem key_ll (a b : Int) : decide ((Sum.inl a : Key) = Sum.inl b) = (a == b) := by
  by_cases e : a = b
  · subst e; simp
  · have h : ¬ (Sum.inl a : Key) = Sum.inl b := fun q => e (Sum.inl.inj q)
    rw [decide_eq_false h]
    exact (beq_eq_false_iff_ne.mpr e).symm
theorem key_rr (a b : Str) : decide ((Sum.inr a : Key) = Sum.inr b) = decide (a = b) := by
  by_cases e : a = b
  · subst e; simp
  · have h : ¬ (Sum.inr a : Key) = Sum.inr b := fun q => e (Sum.inr.inj q)
    rw [decide_eq_false h, decide_eq_false e]
theorem key_lr (a : Int) (b : Str) : decide ((Sum.inl a : Key) = Sum.inr b) = false := decide_eq_false (fun q => nomatch q)
theorem key_rl (a : Str) (b : Int) : decide ((Sum.inr a : Key) = Sum.inl b) = false := decide_eq_false (fun q => nomatch q)

def mixKind (prog : Program) (w : World) : PySem.KeyKind prog w Key where
  is := keyIs
  hash := keyH w
  inj := fun v a b ha hb => by
    rcases keyIs_shape ha with ⟨i, t, rfl, rfl⟩ | ⟨x, t, rfl, rfl⟩
    · rcases keyIs_shape hb with ⟨j, u, rfl, e⟩ | ⟨y, u, rfl, e⟩
      · injection e with e1 _; rw [e1]
      · exact nomatch e
    · rcases keyIs_shape hb with ⟨j, u, rfl, e⟩ | ⟨y, u, rfl, e⟩
      · exact nomatch e
      · injection e with e1 _; rw [e1]
  byValue := fun k v h => by
    rcases keyIs_shape h with ⟨i, t, rfl, rfl⟩ | ⟨x, t, rfl, rfl⟩ <;> rfl
  pyHash := fun hv h => by
    rcases keyIs_shape hv with ⟨i, t, rfl, rfl⟩ | ⟨x, t, rfl, rfl⟩
    · exact wpAny_pyHash_int h
    · exact wpAny_pyHash_str h
  eqBool := fun hu hv h => by
    rcases keyIs_shape hu with ⟨i, t, rfl, rfl⟩ | ⟨x, t, rfl, rfl⟩
    · rcases keyIs_shape hv with ⟨j, u, rfl, rfl⟩ | ⟨y, u, rfl, rfl⟩
      · rw [key_ll] at h; exact wpAny_eqBool_int h
      · rw [key_lr] at h; exact SeqAt.EqAt.int_str i t y u _ _ _ _ h
    · rcases keyIs_shape hv with ⟨j, u, rfl, rfl⟩ | ⟨y, u, rfl, rfl⟩
      · rw [key_rl] at h; exact SeqAt.EqAt.str_int x t j u _ _ _ _ h
      · rw [key_rr] at h; exact wpAny_eqBool_str h
  «strs» := fun k x t v h => by
    rcases keyIs_shape h with ⟨i, u, rfl, e⟩ | ⟨y, u, rfl, e⟩
    · exact nomatch e
    · injection e with e1 _
      subst e1
      cases v <;> rfl

end L2

namespace L2
open PySem PySem.Spec PyProof.Rows

/-- a value, without the heap -/
inductive V where
  | non | bl (b : Bool) | int (i : Int) | str (x : Str) | byt (b : Array UInt8) | flt (b : UInt64) | ref (a : Addr) | ty (n : String)
  deriving DecidableEq

def RelV : V → Value → Prop
  | .non, u => u = Value.none
  | .bl b, u => u = Value.bool b
  | .int i, u => ∃ t, u = Value.int i t
  | .str x, u => ∃ t, u = Value.str x t
  | .byt b, u => ∃ t, u = Value.bytes b t
  | .flt b, u => ∃ t, u = Value.float b t
  | .ref a, u => u = Value.ref a
  | .ty n, u => u = Value.type n

abbrev Vals : List V → List Value → Prop := Paired RelV
theorem Vals.length {xs : List V} {us : List Value} (r : Vals xs us) : xs.length = us.length := Paired.length r
theorem Vals.get : ∀ {xs : List V} {us : List Value} {i : Nat} {x : V}, Vals xs us → xs[i]? = some x → ∃ u, us[i]? = some u ∧ RelV x u
  | _, _, _, _, .nil, e => by simp at e
  | _, _, 0, _, .cons r _, e => by simp at e; subst e; exact ⟨_, rfl, r⟩
  | _, _, i + 1, x, .cons _ t, e => by
    obtain ⟨u, h1, h2⟩ := Vals.get (i := i) (x := x) t (by simpa using e)
    exact ⟨u, by simpa using h1, h2⟩
theorem Vals.set {x : V} {u : Value} (r : RelV x u) : ∀ {xs : List V} {us : List Value} (i : Nat), Vals xs us → Vals (xs.set i x) (us.set i u)
  | _, _, _, .nil => .nil
  | _, _, 0, .cons _ t => .cons r t
  | _, _, i + 1, .cons q t => .cons q (Vals.set r i t)
theorem Vals.append : ∀ {xs ys : List V} {us ws : List Value}, Vals xs us → Vals ys ws → Vals (xs ++ ys) (us ++ ws)
  | _, _, _, _, .nil, s => s
  | _, _, _, _, .cons r t, s => .cons r (Vals.append t s)
theorem Vals.take : ∀ {xs : List V} {us : List Value} (n : Nat), Vals xs us → Vals (xs.take n) (us.take n)
  | _, _, 0, _ => .nil
  | _, _, _ + 1, .nil => .nil
  | _, _, n + 1, .cons r t => .cons r (Vals.take n t)
theorem Vals.drop : ∀ {xs : List V} {us : List Value} (n : Nat), Vals xs us → Vals (xs.drop n) (us.drop n)
  | _, _, 0, r => r
  | _, _, _ + 1, .nil => .nil
  | _, _, n + 1, .cons _ t => Vals.drop n t
def RelO : Option V → Option Value → Prop
  | some v, some u => RelV v u
  | none, none => True
  | _, _ => False
def KV {κ : Type} : List (κ × V) → List (κ × Value) → Prop := Paired fun (p : κ × V) (q : κ × Value) => p.1 = q.1 ∧ RelV p.2 q.2

/-- a key of a dict (00_mix): an int or a text -/
def kV : Key → V
  | .inl i => .int i
  | .inr x => .str x

/-- what stands at a tracked address -/
inductive HO where
  /-- a list -/
  | lst (xs : List V)
  /-- a tuple (never changes) -/
  | tup (xs : List V)
  /-- a dict whose keys are ints and texts; one whose keys are tuples of ints and texts (the empty one is both) -/
  | dK (kvs : List (Key × V)) | dT (kvs : List (List Key × V))
  /-- a set of ints: its members, its size -/
  | set (S : Int → Bool) (n : Nat)
  /-- an instance of the class at C, its dict at dx, its attributes -/
  | ins (C dx : Addr) (fs : List (Str × V))
  /-- the dict of the instance at x -/
  | own (x : Addr)
  /-- the dict of an exception -/
  | xd (fs : List (Str × V))
  /-- a bound method, f of x -/
  | met (f x : Addr)
  /-- a range object lo, lo + 1, .. below hi -/
  | rng (lo hi : Int)
  /-- a thing that is known to the object (the script; a dict while a loop walks it): read, never written while it is so -/
  | frz (o : Obj) (u : HO)
  /-- a code object's table -/
  | tbl (ps : Array Value)
  /-- any other thing, by what is true of its one object (a def of one's own: SetO a S n := HO.ext fun h => ..) -/
  | ext (φ : Heap → Prop)

abbrev Hp := Addr → Option HO
def upd (H : Hp) (a : Addr) (o : HO) : Hp := fun b => if b = a then some o else H b
theorem upd_same {H : Hp} {a : Addr} {o : HO} : upd H a o a = some o := by unfold upd; rw [if_pos rfl]
theorem upd_ne {H : Hp} {a b : Addr} {o : HO} (h : b ≠ a) : upd H a o b = H b := by unfold upd; rw [if_neg h]
/-- two objects of different content stand apart -/
theorem ne_of {H : Hp} {a b : Addr} {o u : HO} (h : H a = some o) (h' : H b = some u) (d : o ≠ u) : a ≠ b := by
  intro e; subst e; rw [h] at h'; exact d (Option.some.inj h')
theorem ne_of_none {H : Hp} {a b : Addr} {o : HO} (h : H a = some o) (h' : H b = none) : a ≠ b := by
  intro e; subst e; rw [h] at h'; cases h'

section
variable (P : Program) (w : World)
def ObjOk (H : Hp) (h : Heap) (a : Addr) : HO → Prop
  | .lst xs => xs.length ≤ sizeLine ∧ ∃ (its : List Value) (n : Nat), Vals xs its ∧ h.get? a = some { cls := .type "list", data := .seq its.toArray n }
  | .tup xs => xs.length ≤ sizeLine ∧ ∃ its : List Value, Vals xs its ∧ IsTup h a its.toArray
  | .dK kvs => kvs.length ≤ sizeLine ∧ (a == sysModules) = false ∧ ∃ vs, KV kvs vs ∧ h.DictOf (mixKind P w) a vs
  | .dT kvs => kvs.length ≤ sizeLine ∧ (a == sysModules) = false ∧ ∃ xs : List (List Key × Addr × Value),
      Paired (fun (p : List Key × V) (q : List Key × Addr × Value) => p.1 = q.1 ∧ H q.2.1 = some (.tup (p.1.map kV)) ∧ RelV p.2 q.2.2) kvs xs ∧
      ∃ o es ep, h.get? a = some o ∧ o.ExactDict ∧ o.data = .dict es ep ∧ es.toList = xs.map (entryOfKey (tupleKind (mixKind P w))) ∧ (xs.map (·.1)).Nodup
  | .set S n => h.SetOf (intKind P w) a S n
  | .ins C dx fs => H dx = some (.own a) ∧ fs.length ≤ 1000 ∧ dx ≠ a ∧ h.get? a = some (PySem.W.instObj C dx) ∧
      ∃ mA, h.Ns1 dx mA ∧ (∀ f, RelO (fs.lookup f) (mA f)) ∧ PySem.Within mA (fs.map (·.1))
  | .own _ => ∃ o, h.get? a = some o
  | .xd fs => ∃ mA, h.Ns1 a mA ∧ ∀ f, RelO (fs.lookup f) (mA f)
  | .rng lo hi => ∃ t u v, h.get? a = some { cls := .type "range", data := .fields #[.int lo t, .int hi u, .int 1 v] }
  | .frz o u => h.get? a = some o ∧ ObjOk H h a u
  | .tbl ps => h.get? a = some { cls := .none, data := .fields ps }
  | .met f x => h.get? a = some (PySem.W.methodObj (.ref f) (.ref x))
  | .ext φ => φ h ∧ (∃ o, h.get? a = some o) ∧ ∀ h1 h2 : Heap, φ h1 → (∀ o, h1.get? a = some o → h2.get? a = some o) → φ h2
/-- the abstract heap is held -/
def HOk (H : Hp) (h : Heap) : Prop := ∀ a o, H a = some o → ObjOk P w H h a o
end

section
variable {P : Program} {w : World} {H H' : Hp} {h h' : Heap} {a : Addr} {o : HO}
theorem ObjOk.lt (x : ObjOk P w H h a o) : a < h.objs.size := by
  cases o with
  | lst xs => obtain ⟨_, _, _, _, e⟩ := x; exact Heap.lt_size e
  | tup xs => obtain ⟨_, _, _, p⟩ := x; exact p.lt
  | dK kvs => obtain ⟨_, _, _, _, o, _, _, e, _⟩ := x; exact Heap.lt_size e
  | dT kvs => obtain ⟨_, _, _, _, o, _, _, e, _⟩ := x; exact Heap.lt_size e
  | set S n => obtain ⟨o, _, _, _, e, _⟩ := x; exact Heap.lt_size e
  | ins C dx fs => obtain ⟨_, _, _, e, _⟩ := x; exact Heap.lt_size e
  | own y => obtain ⟨_, e⟩ := x; exact Heap.lt_size e
  | xd fs => obtain ⟨_, ⟨_, _, _, e, _⟩, _⟩ := x; exact Heap.lt_size e
  | rng lo hi => obtain ⟨_, _, _, e⟩ := x; exact Heap.lt_size e
  | frz ob u => obtain ⟨e, _⟩ := x; exact Heap.lt_size e
  | tbl ps => exact Heap.lt_size (show h.get? a = some _ from x)
  | met f y => exact Heap.lt_size (show h.get? a = some _ from x)
  | ext φ => obtain ⟨_, ⟨_, e⟩, _⟩ := x; exact Heap.lt_size e
theorem Paired.mapP {α β : Type} {F G : α → β → Prop} : ∀ {l₁ : List α} {l₂ : List β}, Paired F l₁ l₂ → (∀ a b, F a b → G a b) → Paired G l₁ l₂
  | _, _, .nil, _ => .nil
  | _, _, .cons r t, f => .cons (f _ _ r) (Paired.mapP t f)
/-- what an object's description leans on: its own object, its own dict, the tuples -/
theorem ObjOk.stay (x : ObjOk P w H h a o) (k : ∀ b u, (b = a ∨ H b = some (.own a)) → h.get? b = some u → h'.get? b = some u)
    (ho : ∀ b, H b = some (.own a) → H' b = some (.own a)) (ht : ∀ b xs, H b = some (.tup xs) → H' b = some (.tup xs)) : ObjOk P w H' h' a o := by
  induction o with
  | lst xs => obtain ⟨z, its, n, r, e⟩ := x; exact ⟨z, its, n, r, k _ _ (.inl rfl) e⟩
  | tup xs => obtain ⟨z, its, r, ob, e, c⟩ := x; exact ⟨z, its, r, ob, k _ _ (.inl rfl) e, c⟩
  | dK kvs => obtain ⟨z, y, vs, r, ob, es, ep, e, c⟩ := x; exact ⟨z, y, vs, r, ob, es, ep, k _ _ (.inl rfl) e, c⟩
  | dT kvs =>
    obtain ⟨z, y, xs, r, ob, es, ep, e, c⟩ := x
    exact ⟨z, y, xs, Paired.mapP r fun p q z => ⟨z.1, ht _ _ z.2.1, z.2.2⟩, ob, es, ep, k _ _ (.inl rfl) e, c⟩
  | set S n => obtain ⟨ob, es, ep, t, e, c⟩ := x; exact ⟨ob, es, ep, t, k _ _ (.inl rfl) e, c⟩
  | ins C dx fs =>
    obtain ⟨d, z, ne, e, mA, ⟨od, es, ep, e2, c⟩, r⟩ := x
    exact ⟨ho _ d, z, ne, k _ _ (.inl rfl) e, mA, ⟨od, es, ep, k _ _ (.inr d) e2, c⟩, r⟩
  | own y => obtain ⟨ob, e⟩ := x; exact ⟨ob, k _ _ (.inl rfl) e⟩
  | xd fs => obtain ⟨mA, ⟨od, es, ep, e, c⟩, r⟩ := x; exact ⟨mA, ⟨od, es, ep, k _ _ (.inl rfl) e, c⟩, r⟩
  | rng lo hi => obtain ⟨t, u, v, e⟩ := x; exact ⟨t, u, v, k _ _ (.inl rfl) e⟩
  | frz ob u ih => obtain ⟨e, q⟩ := x; exact ⟨k _ _ (.inl rfl) e, ih q⟩
  | tbl ps =>
    have e : h.get? a = some { cls := .none, data := .fields ps } := x
    show h'.get? a = some { cls := .none, data := .fields ps }
    exact k a _ (.inl rfl) e
  | met f y =>
    have e : h.get? a = some (PySem.W.methodObj (.ref f) (.ref y)) := x
    show h'.get? a = some (PySem.W.methodObj (.ref f) (.ref y))
    exact k a _ (.inl rfl) e
  | ext φ => obtain ⟨p, ⟨o, e⟩, st⟩ := x; exact ⟨st _ _ p fun o q => k _ _ (.inl rfl) q, ⟨o, k _ _ (.inl rfl) e⟩, st⟩
theorem HOk.lt (x : HOk P w H h) (e : H a = some o) : a < h.objs.size := (x a o e).lt
theorem HOk.fresh (x : HOk P w H h) (e : h.objs.size ≤ a) : H a = none := by
  cases q : H a with
  | none => rfl
  | some u => exact absurd (Nat.lt_of_lt_of_le (x.lt q) e) (Nat.lt_irrefl _)
/-- every object of the heap is kept -/
theorem HOk.kept (x : HOk P w H h) (k : ∀ b u, h.get? b = some u → h'.get? b = some u) : HOk P w H h' := fun a o e =>
  (x a o e).stay (fun b u _ q => k b u q) (fun _ q => q) fun _ _ q => q
/-- a new object is laid and tracked -/
theorem HOk.laid (x : HOk P w H h) (k : ∀ b u, h.get? b = some u → h'.get? b = some u) (hp : h.objs.size ≤ a) (new : ObjOk P w (upd H a o) h' a o) : HOk P w (upd H a o) h' := fun b u e => by
  have hn := x.fresh hp
  by_cases hb : b = a
  · subst hb; rw [upd_same] at e; cases e; exact new
  · rw [upd_ne hb] at e
    exact (x b u e).stay (fun c v _ q => k c v q) (fun c q => by rw [upd_ne (ne_of_none q hn)]; exact q) fun c xs q => by rw [upd_ne (ne_of_none q hn)]; exact q
end

/-- what may be read as u: it is u, or a known u -/
def Rd (H : Hp) (a : Addr) (u : HO) : Prop := H a = some u ∨ ∃ o, H a = some (.frz o u)
theorem Rd.ok {P : Program} {w : World} {H : Hp} {h : Heap} {a : Addr} {u : HO} (r : Rd H a u) (x : HOk P w H h) : ObjOk P w H h a u := by
  rcases r with r | ⟨o, r⟩
  · exact x a u r
  · obtain ⟨_, q⟩ := x a _ r
    exact q
/-- what may be written -/
def Mut : Option HO → Prop
  | some (.lst _) => True
  | some (.dK _) => True
  | some (.dT _) => True
  | some (.set _ _) => True
  | some (.ins _ _ _) => True
  | some (.ext _) => True
  | _ => False
section
variable {P : Program} {w : World} {H : Hp} {h h' : Heap} {x e : Addr} {o' : HO}
/-- the object at e is changed: x itself, or the dict of the instance x -/
theorem HOk.write (ok : HOk P w H h) (mu : Mut (H x)) (he : e = x ∨ H e = some (.own x)) (k : ∀ b u, b ≠ e → h.get? b = some u → h'.get? b = some u) (heo : ∃ u, h'.get? e = some u)
    (new : ObjOk P w (upd H x o') h' x o') : HOk P w (upd H x o') h' := fun b u q => by
  have nown : ∀ c y, H c = some (.own y) → c ≠ x := fun c y r z => by subst z; rw [r] at mu; exact mu
  have ntup : ∀ c xs, H c = some (.tup xs) → c ≠ x := fun c xs r z => by subst z; rw [r] at mu; exact mu
  by_cases hb : b = x
  · subst hb; rw [upd_same] at q; cases q; exact new
  · rw [upd_ne hb] at q
    by_cases hbe : b = e
    · have q' : H b = some (.own x) := by
        rcases he with z | z
        · exact absurd (hbe.trans z) hb
        · rw [hbe]; exact z
      rw [q] at q'; cases q'
      obtain ⟨v, hv⟩ := heo
      exact ⟨v, by rw [hbe]; exact hv⟩
    · refine (ok b u q).stay (fun c v hc r => k c v ?_ r) (fun c r => by rw [upd_ne (nown c b r)]; exact r) fun c xs r => by rw [upd_ne (ntup c xs r)]; exact r
      rcases hc with rfl | hc
      · exact hbe
      · rintro rfl
        rcases he with z | z
        · exact nown c b hc z
        · rw [hc] at z; cases z; exact hb rfl
end

/-! ### kept unless tracked; of the frames at fs (the callers') the slots may change (an exception that passes writes there); of the records at ex (iterators) nothing is said -/
structure Un (fs ex : List Addr) (H H' : Hp) (h h' : Heap) : Prop where
  keep : ∀ b o, h.get? b = some o → H b = none → b ∉ fs → b ∉ ex → h'.get? b = some o
  slot : ∀ b o, h.get? b = some o → H b = none → b ∈ fs → b ∉ ex → ∃ sl, h'.get? b = some { o with slots := sl }
  free : ∀ b o, h.get? b = some o → H b = none → b ∉ ex → H' b = none
  there : ∀ b o, h.get? b = some o → b ∉ ex → ∃ o', h'.get? b = some o'
  tups : ∀ b xs, H b = some (.tup xs) → H' b = some (.tup xs)
  frzs : ∀ b o u, H b = some (.frz o u) → H' b = some (.frz o u)
  tbls : ∀ b ps, H b = some (.tbl ps) → ∃ more, H' b = some (.tbl (ps ++ more))
section
variable {fs fs' ex ex' : List Addr} {H H1 H2 : Hp} {h h1 h2 h' : Heap} {a x e : Addr} {o : HO}
theorem Un.any (u : Un fs ex H H1 h h1) {b : Addr} {ob : Obj} (q : h.get? b = some ob) (n : H b = none) (hx : b ∉ ex) : ∃ sl, h1.get? b = some { ob with slots := sl } := by
  by_cases hb : b ∈ fs
  · exact u.slot b ob q n hb hx
  · exact ⟨ob.slots, u.keep b ob q n hb hx⟩
theorem Un.kept (k : ∀ b u, h.get? b = some u → h'.get? b = some u) : Un fs ex H H h h' :=
  ⟨fun b ob q _ _ _ => k b ob q, fun b ob q _ _ _ => ⟨ob.slots, k b ob q⟩, fun _ _ _ n _ => n, fun b ob q _ => ⟨ob, k b ob q⟩, fun _ _ q => q, fun _ _ _ q => q, fun _ ps q => ⟨#[], by rw [q]; simp⟩⟩
theorem Un.refl : Un fs ex H H h h := Un.kept fun _ _ q => q
theorem Un.laid (k : ∀ b u, h.get? b = some u → h'.get? b = some u) (hp : h.objs.size ≤ a) (hn : H a = none) : Un fs ex H (upd H a o) h h' where
  keep := fun b u q _ _ _ => k b u q
  slot := fun b u q _ _ _ => ⟨u.slots, k b u q⟩
  free := fun b u q n _ => by rw [upd_ne (Nat.ne_of_lt (Nat.lt_of_lt_of_le (Heap.lt_size q) hp))]; exact n
  there := fun b u q _ => ⟨u, k b u q⟩
  tups := fun b xs q => by rw [upd_ne (ne_of_none q hn)]; exact q
  frzs := fun b u xs q => by rw [upd_ne (ne_of_none q hn)]; exact q
  tbls := fun b ps q => ⟨#[], by rw [upd_ne (ne_of_none q hn), q]; simp⟩
theorem Un.write (mu : Mut (H x)) (he : e = x ∨ H e = some (.own x)) (k : ∀ b u, b ≠ e → h.get? b = some u → h'.get? b = some u) (heo : ∃ u, h'.get? e = some u) : Un fs ex H (upd H x o) h h' := by
  have hx : ∀ b, H b = none → b ≠ x := fun b n z => by subst z; rw [n] at mu; exact mu
  have hb : ∀ b, H b = none → b ≠ e := fun b n z => by
    subst z
    rcases he with r | r
    · exact hx b n r
    · rw [n] at r; cases r
  have hm : ∀ b u, H b = some u → ¬ Mut (some u) → b ≠ x := fun b u q nm z => by subst z; rw [q] at mu; exact nm mu
  refine ⟨fun b u q n _ _ => k b u (hb b n) q, fun b u q n _ _ => ⟨u.slots, k b u (hb b n) q⟩, fun b u q n _ => by rw [upd_ne (hx b n)]; exact n, fun b u q _ => ?_,
    fun b xs q => by rw [upd_ne (hm b _ q fun z => z)]; exact q, fun b u xs q => by rw [upd_ne (hm b _ q fun z => z)]; exact q, fun b ps q => ⟨#[], by rw [upd_ne (hm b _ q fun z => z), q]; simp⟩⟩
  by_cases hbe : b = e
  · subst hbe; exact heo
  · exact ⟨u, k b u hbe q⟩
end

/-! ### the heap without what is tracked -/
def trk (h : Heap) (H : Hp) : List Addr := (List.range h.objs.size).filter fun a => (H a).isSome
def hidT (h : Heap) (H : Hp) : Heap := PySem.W.hideAll h (trk h H)
theorem hidT_size (h : Heap) (H : Hp) : (hidT h H).objs.size = h.objs.size := PySem.W.hideAll_size _ _
theorem hidT_get {h : Heap} {H : Hp} {b : Addr} {o : Obj} (e : h.get? b = some o) (n : H b = none) : (hidT h H).get? b = some o :=
  PySem.W.hideAll_get _ e fun hm => by
    have q : (H b).isSome = true := (List.mem_filter.mp hm).2
    rw [n] at q; simp at q
theorem of_hidT {h : Heap} {H : Hp} {b : Addr} {o : Obj} (e : (hidT h H).get? b = some o) : h.get? b = some o ∧ H b = none := by
  have e' : h.get? b = some o := PySem.W.of_hideAll (trk h H) e
  refine ⟨e', ?_⟩
  cases q : H b with
  | none => rfl
  | some x =>
    have hm : b ∈ trk h H := List.mem_filter.mpr ⟨List.mem_range.mpr (Heap.lt_size e'), by simp [q]⟩
    have z : (hidT h H).get? b = none := PySem.W.hideAll_none (trk h H) hm
    rw [z] at e; cases e

/-! ### OpenK's ledger, filled with every new object but one -/
def allNews (g h : Heap) (L : Addr) : List (Addr × Obj) := (List.range h.objs.size).filterMap fun a => if a = L ∨ (g.get? a).isSome = true then none else (h.get? a).map fun o => (a, o)
def rest (g h : Heap) (L d : Addr) : List (Addr × Obj) := (allNews g h L).filter fun p => decide (p.1 ≠ d)
end L2

namespace L2
open PySem PySem.Spec PyProof.Rows

/-- the module's facts, over the base: the heap at the law's entry without what is tracked there -/
structure Mod (K : PySem.W.Frag) (mg : Str → Option Value) (base : Heap) : Prop where
  kin : K.In base
  glob : base.Ns mainGlobals mg
  blt : ∃ mb, base.Ns builtinsNs mb ∧ ∀ x : Str, x ≠ "__name__" → mb x = bootBuiltins x
  nolimit : base.NoLimit

/-- the context: a def's body (or a comprehension's block) running. base: fixed through the whole law; s₀, H₀: the entry; outer: the frames whose slots others may change (a def's callers); stack: all frames that run;
   ex: iterators that were made ahead of the entry and are walked here (a comprehension's); fn: the names whose cells were made at the entry (a def: all; a comprehension's block: its own); calm: not within an except suite; pn: pins that every state bears; xe: what is wanted of an exception that leaves the code -/
structure Cx where
  prog : Program
  w : World
  K : PySem.W.Frag
  mg : Str → Option Value
  base : Heap
  A : Around
  N : List Str
  s₀ : Shared
  H₀ : Hp
  env : Env
  outer : List Env
  stack : List Env
  ex : List Addr
  fn : Str → Bool
  calm : Bool
  pn : List (Addr × Obj)
  xe : Value → Shared → Prop
/-- the callers' frames -/
def frs (l : List Env) : List Addr := l.filterMap (·.frame)
abbrev Cx.fs (X : Cx) : List Addr := frs X.outer

def Vis (sc : Scope) (x : Str) : Prop := sc.names.lookup x = some .local ∨ sc.names.lookup x = some .cell ∨ sc.names.lookup x = some .free
def Loc (sc : Scope) (x : Str) : Prop := sc.names.lookup x = some .local ∨ sc.names.lookup x = some .cell
def Look (env : Env) (h : Heap) (m : Str → Option Value) (x : Str) (u : Value) : Prop :=
  (env.kindOf x = some .local ∧ m x = some u) ∨ ((env.kindOf x = some .cell ∨ env.kindOf x = some .free) ∧ ∃ c, env.cells.lookup x = some c ∧ h.IsCell c (some u))

structure Cx.Ok (X : Cx) : Prop where
  mod : Mod X.K X.mg X.base
  kind : X.env.scope.kind = .function
  glob : X.env.globals = mainGlobals
  blt : X.env.builtins = builtinsNs
  above : X.s₀.heap.objs.size ≤ X.env.locals
  inj : ∀ x y c, X.env.cells.lookup x = some c → X.env.cells.lookup y = some c → x = y
  has : ∀ x, (X.env.kindOf x = some .cell ∨ X.env.kindOf x = some .free) → ∃ c, X.env.cells.lookup x = some c
  cab : ∀ x c, X.fn x = true → X.env.cells.lookup x = some c → X.s₀.heap.objs.size ≤ c
  hd : X.calm = true → X.A.handled = none
  frames : X.A.frames = some X.stack
  stk : X.stack = X.outer ∨ (X.stack = X.env :: X.outer ∧ X.env.frame = some X.env.locals)
  exf : ∀ b ∈ X.ex, b ≠ X.env.locals ∧ ∀ x c, X.env.cells.lookup x = some c → c ≠ b
  bs : ∀ b o, X.base.get? b = some o → X.s₀.heap.get? b = some o ∧ X.H₀ b = none
  bsz : X.base.objs.size ≤ X.s₀.heap.objs.size
  noex : ∀ b o, X.base.get? b = some o → b ∉ X.ex
  exfs : ∀ b ∈ X.ex, b ∉ X.fs
  funs : X.s₀.heap.FunFrames X.base X.outer
  frf : ∀ b ∈ X.fs, X.H₀ b = none

structure Inv (X : Cx) (pins : List (Addr × Obj)) (σ : List (Option V)) (H : Hp) (s : Shared) : Prop where
  ok : X.Ok
  os : s.os = X.s₀.os
  bare : AllBare s.gens
  base : Un X.fs X.ex X.H₀ H X.s₀.heap s.heap
  loc : ∃ m, s.heap.Ns X.env.locals m ∧ ∀ (i : Nat) (x : Str) (v : V), X.N[i]? = some x → σ[i]? = some (some v) → Vis X.env.scope x → ∃ u, RelV v u ∧ Look X.env s.heap m x u
  cell : ∀ x c, X.env.cells.lookup x = some c → ∃ v, s.heap.IsCell c v
  free : H X.env.locals = none
  freeC : ∀ x c, X.env.cells.lookup x = some c → H c = none
  pin : ∀ p ∈ X.pn ++ pins, s.heap.get? p.1 = some p.2 ∧ H p.1 = none ∧ p.1 ≠ X.env.locals ∧ p.1 ∉ X.fs ∧ ∀ v, p.2.data ≠ .cell v
  hok : HOk X.prog X.w H s.heap
  len : σ.length = X.N.length

section
variable {X : Cx} {pins : List (Addr × Obj)} {σ : List (Option V)} {H H' : Hp} {s : Shared} {h' : Heap}

theorem Cx.Ok.nofr (ok : X.Ok) {b : Addr} {o : Obj} (e : X.base.get? b = some o) : b ∉ X.fs := fun hb => by
  have := (ok.funs.mem hb).1
  rw [e] at this; cases this
theorem Inv.bs (I : Inv X pins σ H s) : ∀ b o, X.base.get? b = some o → s.heap.get? b = some o ∧ H b = none := fun b o e =>
  ⟨I.base.keep b o (I.ok.bs b o e).1 (I.ok.bs b o e).2 (I.ok.nofr e) (I.ok.noex b o e), I.base.free b o (I.ok.bs b o e).1 (I.ok.bs b o e).2 (I.ok.noex b o e)⟩
theorem Inv.bk (I : Inv X pins σ H s) : ∀ b o, X.base.get? b = some o → s.heap.get? b = some o := fun b o e => (I.bs b o e).1
theorem Inv.mod (I : Inv X pins σ H s) : Mod X.K X.mg X.base := I.ok.mod
theorem Inv.kIn (I : Inv X pins σ H s) : X.K.In s.heap := I.ok.mod.kin.keeps I.bk
theorem Inv.lt (I : Inv X pins σ H s) : X.env.locals < s.heap.objs.size := let ⟨_, hn, _⟩ := I.loc; hn.lt
theorem Inv.sz (I : Inv X pins σ H s) : X.s₀.heap.objs.size ≤ s.heap.objs.size := Nat.le_trans I.ok.above (Nat.le_of_lt I.lt)
theorem Inv.nofs (I : Inv X pins σ H s) {a : Addr} (h : s.heap.objs.size ≤ a) : a ∉ X.fs := fun hb => by
  obtain ⟨_, o, ho, _⟩ := I.ok.funs.mem hb
  exact absurd (Nat.lt_of_lt_of_le (Heap.lt_size ho) (Nat.le_trans I.sz h)) (Nat.lt_irrefl _)
theorem Inv.cne (I : Inv X pins σ H s) : ∀ x c, X.env.cells.lookup x = some c → c ≠ X.env.locals := fun x c e z => by
  obtain ⟨v, o, ho, hd⟩ := I.cell x c e
  obtain ⟨m, ⟨o', es, ep, ho', hd', _⟩, _⟩ := I.loc
  rw [z, ho'] at ho; cases ho; rw [hd'] at hd; cases hd
theorem Inv.funs (I : Inv X pins σ H s) : s.heap.FunFrames X.base X.outer := by
  have all : ∀ (l : List Env), (∀ b ∈ frs l, b ∈ X.fs) → X.s₀.heap.FunFrames X.base l → s.heap.FunFrames X.base l := by
    intro l
    induction l with
    | nil => intro _ _; trivial
    | cons env r ih =>
      intro hs hl
      obtain ⟨hk, ⟨L, o, hf, hn, ho, hd⟩, hr⟩ := hl
      have hL : L ∈ X.fs := hs L (by unfold frs; rw [List.filterMap_cons, hf]; exact List.mem_cons_self)
      obtain ⟨sl, e⟩ := I.base.slot L o ho (I.ok.frf L hL) hL fun z => I.ok.exfs L z hL
      exact ⟨hk, ⟨L, _, hf, hn, e, hd⟩, ih (fun b hb => hs b (by unfold frs; rw [List.filterMap_cons, hf]; exact List.mem_cons_of_mem _ hb)) hr⟩
  exact all X.outer (fun _ hb => hb) I.ok.funs

/-- the frames that run, for a call -/
theorem Inv.stack (I : Inv X pins σ H s) : s.heap.FunFrames X.base X.stack := by
  rcases I.ok.stk with e | ⟨e, hf⟩
  · rw [e]; exact I.funs
  · rw [e]
    obtain ⟨m, hn, _⟩ := I.loc
    refine .cons (by rw [I.ok.kind]; decide) hf hn ?_ I.funs
    exact Heap.get?_none_of_le (Nat.le_trans I.ok.bsz I.ok.above)
theorem Inv.stkSub (I : Inv X pins σ H s) : ∀ b ∈ frs X.stack, b ∈ X.env.locals :: X.fs := fun b hb => by
  rcases I.ok.stk with e | ⟨e, hf⟩
  · rw [e] at hb; exact List.mem_cons_of_mem _ hb
  · rw [e] at hb
    unfold frs at hb
    rw [List.filterMap_cons, hf] at hb
    exact hb
theorem Inv.stkFree (I : Inv X pins σ H s) : ∀ b ∈ frs X.stack, H b = none := fun b hb => by
  rcases List.mem_cons.mp (I.stkSub b hb) with e | hb
  · rw [e]; exact I.free
  · obtain ⟨_, o, ho, _⟩ := I.ok.funs.mem hb
    exact I.base.free b o ho (I.ok.frf b hb) fun z => I.ok.exfs b z hb

/-- THE STEP: the untracked objects but the frame and the records at ch are kept (the callers' frames up to slots), the frame's map is kept, the new abstract heap is held -/
theorem Inv.step {g' : Array GenState} {t' : Nat} {d' : Drawn} {ch : List Addr} (I : Inv X pins σ H s)
    (hch : ∀ b ∈ ch, (b ∈ X.ex ∨ X.s₀.heap.objs.size ≤ b) ∧ b ≠ X.env.locals ∧ (∀ x c, X.env.cells.lookup x = some c → c ≠ b) ∧ ∀ p ∈ X.pn ++ pins, p.1 ≠ b)
    (keep : ∀ b o, b ≠ X.env.locals → b ∉ X.fs → b ∉ ch → s.heap.get? b = some o → H b = none → h'.get? b = some o)
    (slot : ∀ b o, b ≠ X.env.locals → b ∈ X.fs → b ∉ ch → s.heap.get? b = some o → H b = none → ∃ sl, h'.get? b = some { o with slots := sl }) (free : ∀ b o, b ∉ ch → s.heap.get? b = some o → H b = none → H' b = none)
    (there : ∀ b o, b ∉ ch → s.heap.get? b = some o → ∃ o', h'.get? b = some o')
    (tups : ∀ b xs, H b = some (.tup xs) → H' b = some (.tup xs)) (frzs : ∀ b o u, H b = some (.frz o u) → H' b = some (.frz o u)) (tbls : ∀ b ps, H b = some (.tbl ps) → ∃ more, H' b = some (.tbl (ps ++ more)))
    (ns : ∀ m, s.heap.Ns X.env.locals m → h'.Ns X.env.locals m) (hok : HOk X.prog X.w H' h') (hg : AllBare g') :
    Inv X pins σ H' { s with heap := h', gens := g', drawn := d', toks := t' } := by
  have neL : ∀ b o, X.s₀.heap.get? b = some o → b ≠ X.env.locals := fun b o e => Nat.ne_of_lt (Nat.lt_of_lt_of_le (Heap.lt_size e) I.ok.above)
  have neC : ∀ b o, X.s₀.heap.get? b = some o → b ∉ X.ex → b ∉ ch := fun b o e hx hb => by
    rcases (hch b hb).1 with z | z
    · exact hx z
    · exact absurd (Nat.lt_of_lt_of_le (Heap.lt_size e) z) (Nat.lt_irrefl _)
  have cellK : ∀ x c, X.env.cells.lookup x = some c → ∀ v, s.heap.IsCell c v → h'.IsCell c v := fun x c e v ⟨o, ho, hd⟩ => by
    have nch : c ∉ ch := fun z => (hch c z).2.2.1 x c e rfl
    by_cases hc : c ∈ X.fs
    · obtain ⟨sl, q⟩ := slot c o (I.cne x c e) hc nch ho (I.freeC x c e)
      exact ⟨_, q, hd⟩
    · exact ⟨o, keep c o (I.cne x c e) hc nch ho (I.freeC x c e), hd⟩
  refine ⟨I.ok, I.os, hg, ⟨fun b o e n hb hx => ?_, fun b o e n hb hx => ?_, fun b o e n hx => ?_, fun b o e hx => ?_, fun b xs e => tups b xs (I.base.tups b xs e), fun b o xs e => frzs b o xs (I.base.frzs b o xs e), fun b ps e => ?_⟩, ?_, fun x c e => ?_, ?_, fun x c e => ?_, fun p hp => ?_, hok, I.len⟩
  · exact keep b o (neL b o e) hb (neC b o e hx) (I.base.keep b o e n hb hx) (I.base.free b o e n hx)
  · obtain ⟨sl, e1⟩ := I.base.slot b o e n hb hx
    obtain ⟨sl', e2⟩ := slot b _ (neL b o e) hb (neC b o e hx) e1 (I.base.free b o e n hx)
    exact ⟨sl', e2⟩
  · obtain ⟨o', e1⟩ := I.base.there b o e hx
    exact free b o' (neC b o e hx) e1 (I.base.free b o e n hx)
  · obtain ⟨o', e1⟩ := I.base.there b o e hx
    exact there b o' (neC b o e hx) e1
  · obtain ⟨m1, e1⟩ := I.base.tbls b ps e
    obtain ⟨m2, e2⟩ := tbls b _ e1
    exact ⟨m1 ++ m2, by rw [e2, Array.append_assoc]⟩
  · obtain ⟨m, hn, hl⟩ := I.loc
    refine ⟨m, ns m hn, fun i x v e1 e2 e3 => ?_⟩
    obtain ⟨u, r, l⟩ := hl i x v e1 e2 e3
    refine ⟨u, r, ?_⟩
    rcases l with l | ⟨k, c, e, z⟩
    · exact .inl l
    · exact .inr ⟨k, c, e, cellK x c e _ z⟩
  · obtain ⟨v, z⟩ := I.cell x c e
    exact ⟨v, cellK x c e v z⟩
  · obtain ⟨m, ⟨o, _, _, ho, _⟩, _⟩ := I.loc
    exact free _ o (fun z => (hch _ z).2.1 rfl) ho I.free
  · obtain ⟨v, o, ho, hd⟩ := I.cell x c e
    exact free c o (fun z => (hch c z).2.2.1 x c e rfl) ho (I.freeC x c e)
  · obtain ⟨e, n, ne, nf, d⟩ := I.pin p hp
    have nch : p.1 ∉ ch := fun z => (hch p.1 z).2.2.2 p hp rfl
    exact ⟨keep p.1 p.2 ne nf nch e n, free p.1 p.2 nch e n, ne, nf, d⟩
/-- .. where the frame's own object is kept too -/
theorem Inv.un {t' : Nat} (I : Inv X pins σ H s) (u : Un X.fs [] H H' s.heap h') (hok : HOk X.prog X.w H' h') : Inv X pins σ H' { s with heap := h', toks := t' } := by
  obtain ⟨m, ⟨o, es, ep, ho, r⟩, _⟩ := id I.loc
  obtain ⟨sl, hL⟩ := u.any ho I.free (by simp)
  exact I.step (g' := s.gens) (d' := s.drawn) (ch := []) (fun _ z => nomatch z) (fun b o _ hb _ e n => u.keep b o e n hb (by simp)) (fun b o _ hb _ e n => u.slot b o e n hb (by simp)) (fun b o _ e n => u.free b o e n (by simp)) (fun b o _ e => u.there b o e (by simp)) u.tups u.frzs u.tbls (fun m' hm => by
    obtain ⟨o', es', ep', ho', r'⟩ := hm
    rw [ho] at ho'; cases ho'
    exact ⟨_, es', ep', hL, r'⟩) hok I.bare
/-- behind a call (or a comprehension's block): the slots of this frame may have changed too, the records at ch may have turned -/
theorem Inv.call {g' : Array GenState} {t' : Nat} {d' : Drawn} {ch : List Addr} (I : Inv X pins σ H s) (u : Un (frs X.stack) ch H H' s.heap h') (hok : HOk X.prog X.w H' h') (hg : AllBare g')
    (hch : ∀ b ∈ ch, (b ∈ X.ex ∨ X.s₀.heap.objs.size ≤ b) ∧ b ≠ X.env.locals ∧ (∀ x c, X.env.cells.lookup x = some c → c ≠ b) ∧ ∀ p ∈ X.pn ++ pins, p.1 ≠ b) :
    Inv X pins σ H' { s with heap := h', gens := g', drawn := d', toks := t' } := by
  obtain ⟨m, ⟨o, es, ep, ho, r⟩, _⟩ := id I.loc
  obtain ⟨sl, hL⟩ := u.any ho I.free fun z => (hch _ z).2.1 rfl
  exact I.step (ch := ch) hch (fun b o hL hb hc e n => u.keep b o e n (fun z => (List.mem_cons.mp (I.stkSub b z)).elim hL hb) hc) (fun b o _ _ hc e n => u.any e n hc) (fun b o hc e n => u.free b o e n hc) (fun b o hc e => u.there b o e hc) u.tups u.frzs u.tbls (fun m' hm => by
    obtain ⟨o', es', ep', ho', r'⟩ := hm
    rw [ho] at ho'; cases ho'
    exact ⟨_, es', ep', hL, r'⟩) hok hg
/-- an untracked record of ours (an iterator) has turned -/
theorem Inv.turned {t' : Nat} {it : Addr} (I : Inv X pins σ H s) (k : ∀ b o, b ≠ it → s.heap.get? b = some o → h'.get? b = some o) (hn : H it = none) (hL : it ≠ X.env.locals)
    (h1 : it ∈ X.ex ∨ X.s₀.heap.objs.size ≤ it) (h2 : ∀ x c, X.env.cells.lookup x = some c → c ≠ it) (h3 : ∀ p ∈ X.pn ++ pins, p.1 ≠ it) : Inv X pins σ H { s with heap := h', toks := t' } := by
  have nit : ∀ b u, H b = some u → b ≠ it := fun b u e z => by rw [z, hn] at e; cases e
  refine I.step (g' := s.gens) (d' := s.drawn) (ch := [it]) (fun b hb => ?_) (fun b o _ _ hc e _ => k b o (fun z => hc (by simp [z])) e) (fun b o _ _ hc e _ => ⟨o.slots, k b o (fun z => hc (by simp [z])) e⟩) (fun _ _ _ _ n => n)
    (fun b o hc e => ⟨o, k b o (fun z => hc (by simp [z])) e⟩) (fun _ _ e => e) (fun _ _ _ e => e) (fun b ps e => ⟨#[], by rw [e]; simp⟩) (fun m hm => ?_) (fun b u e => ?_) I.bare
  · have e : b = it := by simpa using hb
    subst e
    exact ⟨h1, hL, h2, h3⟩
  · obtain ⟨o, es, ep, ho, r⟩ := hm
    exact ⟨o, es, ep, k _ o (Ne.symm hL) ho, r⟩
  · refine (I.hok b u e).stay (fun c v hc q => k c v ?_ q) (fun _ q => q) fun _ _ q => q
    rcases hc with z | z
    · rw [z]; exact nit b u e
    · exact nit c _ z
theorem Inv.tok (I : Inv X pins σ H s) (t : Nat) : Inv X pins σ H { s with toks := t } := I.un (h' := s.heap) (t' := t) Un.refl I.hok
/-- all objects kept -/
theorem Inv.kept {t' : Nat} (I : Inv X pins σ H s) (k : ∀ b u, s.heap.get? b = some u → h'.get? b = some u) : Inv X pins σ H { s with heap := h', toks := t' } := I.un (Un.kept k) (I.hok.kept k)
/-- a new object laid and tracked -/
theorem Inv.laid {a : Addr} {o : HO} {t' : Nat} (I : Inv X pins σ H s) (k : ∀ b u, s.heap.get? b = some u → h'.get? b = some u) (hp : s.heap.objs.size ≤ a) (new : ObjOk X.prog X.w (upd H a o) h' a o) :
    Inv X pins σ (upd H a o) { s with heap := h', toks := t' } := I.un (Un.laid k hp (I.hok.fresh hp)) (I.hok.laid k hp new)
/-- an object written -/
theorem Inv.write {x e : Addr} {o : HO} {t' : Nat} (I : Inv X pins σ H s) (mu : Mut (H x)) (he : e = x ∨ H e = some (.own x)) (k : ∀ b u, b ≠ e → s.heap.get? b = some u → h'.get? b = some u) (heo : ∃ u, h'.get? e = some u)
    (new : ObjOk X.prog X.w (upd H x o) h' x o) : Inv X pins σ (upd H x o) { s with heap := h', toks := t' } := I.un (Un.write mu he k heo) (I.hok.write mu he k heo new)
theorem Inv.pins_of {pins' : List (Addr × Obj)} (I : Inv X pins σ H s) (h : ∀ p ∈ pins', s.heap.get? p.1 = some p.2 ∧ H p.1 = none ∧ p.1 ≠ X.env.locals ∧ p.1 ∉ X.fs ∧ ∀ v, p.2.data ≠ .cell v) : Inv X pins' σ H s :=
  ⟨I.ok, I.os, I.bare, I.base, I.loc, I.cell, I.free, I.freeC, fun p hp => (List.mem_append.mp hp).elim (fun z => I.pin p (List.mem_append_left _ z)) (h p), I.hok, I.len⟩

theorem nodup_ix {N : List Str} (hN : N.Nodup) {i j : Nat} {x : Str} (a : N[i]? = some x) (b : N[j]? = some x) : i = j := by
  obtain ⟨h1, e1⟩ := List.getElem?_eq_some_iff.mp a
  obtain ⟨h2, e2⟩ := List.getElem?_eq_some_iff.mp b
  exact (List.getElem_inj hN).mp (e1.trans e2.symm)

/-- a name is stored; what changed -/
theorem store_ok2 {M : Model} {A : Around} {E : Value → Shared → Prop} {i : Nat} {x : Str} {v : V} {u : Value} {Q : Unit → Shared → Prop} (I : Inv X pins σ H s) (hN : X.N.Nodup) (hi : X.N[i]? = some x) (hx : Loc X.env.scope x) (r : RelV v u)
    (h : ∀ s', Inv X pins (σ.set i (some v)) H s' → (∃ a, Heap.SameBut a s.heap s'.heap ∧ (a = X.env.locals ∨ X.env.cells.lookup x = some a)) → Q () s') (hf : X.fn x = true ∨ X.env.scope.names.lookup x = some .local := by first | exact .inl rfl | exact .inr rfl | assumption) : wpAny M A (storeName X.env x u) Q E s := by
  obtain ⟨m, hn, hl⟩ := id I.loc
  have hcls : (X.env.scope.kind == .class || (X.env.scope.kind == .module && X.env.locals != X.env.globals)) = false := by rw [I.ok.kind]; rfl
  have hiσ : i < σ.length := by rw [I.len]; exact (List.getElem?_eq_some_iff.mp hi).1
  have cne := I.cne
  have tracked : ∀ {a : Addr} {h' : Heap}, (∃ o, s.heap.get? a = some o ∧ H a = none) → Heap.SameBut a s.heap h' → HOk X.prog X.w H h' := fun {a h'} ha hs b ob e => by
    obtain ⟨_, _, hfree⟩ := ha
    refine (I.hok b ob e).stay (fun c w' hc q => (hs.2 c ?_).trans q) (fun _ q => q) fun _ _ q => q
    rintro rfl
    rcases hc with rfl | hc
    · rw [hfree] at e; cases e
    · rw [hfree] at hc; cases hc
  rcases hx with hk | hk
  · refine wpAny_storeName_local hk hn (fun h' hn' hs => ?_) hcls
    obtain ⟨oL, _, _, hoL, _⟩ := id hn
    refine h _ ⟨I.ok, I.os, I.bare, ⟨fun b o e n hb hx => ?_, fun b o e n hb hx => ?_, I.base.free, fun b o e hx => ?_, I.base.tups, I.base.frzs, I.base.tbls⟩, ⟨_, hn', fun j y v' e1 e2 e3 => ?_⟩, fun y c e => ?_, I.free, I.freeC, fun p hp => ?_, tracked ⟨oL, hoL, I.free⟩ hs, by simpa using I.len⟩ ⟨_, hs, .inl rfl⟩
    · exact (hs.2 b (Nat.ne_of_lt (Nat.lt_of_lt_of_le (Heap.lt_size e) I.ok.above))).trans (I.base.keep b o e n hb hx)
    · obtain ⟨sl, e1⟩ := I.base.slot b o e n hb hx
      exact ⟨sl, (hs.2 b (Nat.ne_of_lt (Nat.lt_of_lt_of_le (Heap.lt_size e) I.ok.above))).trans e1⟩
    · obtain ⟨o', e1⟩ := I.base.there b o e hx
      exact ⟨o', (hs.2 b (Nat.ne_of_lt (Nat.lt_of_lt_of_le (Heap.lt_size e) I.ok.above))).trans e1⟩
    · by_cases hj : j = i
      · subst hj
        rw [hi] at e1; cases e1
        rw [List.getElem?_set_self hiσ] at e2
        cases e2
        exact ⟨u, r, .inl ⟨hk, by simp⟩⟩
      · rw [List.getElem?_set_ne (Ne.symm hj)] at e2
        obtain ⟨u', r', q⟩ := hl j y v' e1 e2 e3
        refine ⟨u', r', ?_⟩
        rcases q with ⟨k, e⟩ | ⟨k, c, e, z⟩
        · refine .inl ⟨k, ?_⟩
          have : y ≠ x := fun e => hj (nodup_ix hN e1 (e ▸ hi))
          simp [this, e]
        · exact .inr ⟨k, c, e, z.sameBut hs (cne y c e)⟩
    · obtain ⟨w', z⟩ := I.cell y c e
      exact ⟨w', z.sameBut hs (cne y c e)⟩
    · obtain ⟨e, n, ne, nf, d⟩ := I.pin p hp
      exact ⟨(hs.2 p.1 ne).trans e, n, ne, nf, d⟩
  · have hfn : X.fn x = true := by
      rcases hf with z | z
      · exact z
      · rw [z] at hk; cases hk
    obtain ⟨c, hc⟩ := I.ok.has x (.inl hk)
    obtain ⟨w', z⟩ := I.cell x c hc
    refine wpAny_storeName_cell I.ok.kind hk hc z (fun h' hc' hs => ?_)
    obtain ⟨oc, hoc, hocd⟩ := id z
    refine h { s with heap := h' } ⟨I.ok, I.os, I.bare, ⟨fun b o e n hb hx => ?_, fun b o e n hb hx => ?_, I.base.free, fun b o e hx => ?_, I.base.tups, I.base.frzs, I.base.tbls⟩, ⟨m, hn.sameBut hs (Ne.symm (cne x c hc)), fun j y v' e1 e2 e3 => ?_⟩, fun y c' e => ?_, I.free, I.freeC, fun p hp => ?_, tracked ⟨oc, hoc, I.freeC x c hc⟩ hs, by simpa using I.len⟩ ⟨c, hs, .inr hc⟩
    · exact (hs.2 b (Nat.ne_of_lt (Nat.lt_of_lt_of_le (Heap.lt_size e) (I.ok.cab x c hfn hc)))).trans (I.base.keep b o e n hb hx)
    · obtain ⟨sl, e1⟩ := I.base.slot b o e n hb hx
      exact ⟨sl, (hs.2 b (Nat.ne_of_lt (Nat.lt_of_lt_of_le (Heap.lt_size e) (I.ok.cab x c hfn hc)))).trans e1⟩
    · obtain ⟨o', e1⟩ := I.base.there b o e hx
      exact ⟨o', (hs.2 b (Nat.ne_of_lt (Nat.lt_of_lt_of_le (Heap.lt_size e) (I.ok.cab x c hfn hc)))).trans e1⟩
    · by_cases hj : j = i
      · subst hj
        rw [hi] at e1; cases e1
        rw [List.getElem?_set_self hiσ] at e2
        cases e2
        exact ⟨u, r, .inr ⟨.inl hk, c, hc, hc'⟩⟩
      · rw [List.getElem?_set_ne (Ne.symm hj)] at e2
        obtain ⟨u', r', q⟩ := hl j y v' e1 e2 e3
        refine ⟨u', r', ?_⟩
        rcases q with q | ⟨k, c', e, z'⟩
        · exact .inl q
        · refine .inr ⟨k, c', e, z'.sameBut hs ?_⟩
          rintro rfl
          exact hj (nodup_ix hN e1 (I.ok.inj _ _ _ e hc ▸ hi))
    · by_cases hcc : c' = c
      · subst hcc; exact ⟨_, hc'⟩
      · obtain ⟨w2, z2⟩ := I.cell y c' e
        exact ⟨w2, z2.sameBut hs hcc⟩
    · obtain ⟨e, n, ne, nf, d⟩ := I.pin p hp
      refine ⟨(hs.2 p.1 ?_).trans e, n, ne, nf, d⟩
      intro q
      rw [q, hoc] at e
      have q' : oc = p.2 := Option.some.inj e
      exact d w' (by rw [← q']; exact hocd)
theorem store_ok {M : Model} {A : Around} {E : Value → Shared → Prop} {i : Nat} {x : Str} {v : V} {u : Value} {Q : Unit → Shared → Prop} (I : Inv X pins σ H s) (hN : X.N.Nodup) (hi : X.N[i]? = some x) (hx : Loc X.env.scope x) (r : RelV v u)
    (h : ∀ s', Inv X pins (σ.set i (some v)) H s' → Q () s') (hf : X.fn x = true ∨ X.env.scope.names.lookup x = some .local := by first | exact .inl rfl | exact .inr rfl | assumption) : wpAny M A (storeName X.env x u) Q E s :=
  store_ok2 I hN hi hx r (fun s' I' _ => h s' I') hf
/-- behind a call or a block, the state as it is -/
theorem Inv.call' {s' : Shared} {ch : List Addr} (I : Inv X pins σ H s) (ho : s'.os = s.os) (u : Un (frs X.stack) ch H H' s.heap s'.heap) (hok : HOk X.prog X.w H' s'.heap) (hg : AllBare s'.gens)
    (hch : ∀ b ∈ ch, (b ∈ X.ex ∨ X.s₀.heap.objs.size ≤ b) ∧ b ≠ X.env.locals ∧ (∀ x c, X.env.cells.lookup x = some c → c ≠ b) ∧ ∀ p ∈ X.pn ++ pins, p.1 ≠ b) : Inv X pins σ H' s' := by
  obtain ⟨h', g', d', t', o'⟩ := s'
  have e : o' = s.os := ho
  subst e
  exact I.call (g' := g') (t' := t') (d' := d') u hok hg hch
end

/-! ### the judgements -/
/-- an exception: its class, its own dict's address (where it has one), the abstract heap behind it -/
abbrev XK := Value → Option Addr → Hp → Prop
abbrev St := List (Option V)
abbrev VK := V → Hp → Prop
/-- an expression's reading; a test's; an argument list's -/
abbrev TE := St → Hp → VK → Prop
abbrev TT := St → Hp → (Bool → Hp → Prop) → Prop
abbrev TA := St → Hp → (List V → Hp → Prop) → Prop
/-- what is wanted behind a statement -/
structure Ends where
  nx : St → Hp → Prop
  rt : VK
  bk : St → Hp → Prop := fun _ _ => False
  ct : St → Hp → Prop := fun _ _ => False
abbrev TS := Ends → St → Hp → Prop

def EP (X : Cx) (pins : List (Addr × Obj)) (σ : St) (Q : VK) (u : Value) (s' : Shared) : Prop := ∃ v H', Inv X pins σ H' s' ∧ RelV v u ∧ Q v H'
def TP (X : Cx) (pins : List (Addr × Obj)) (σ : St) (Q : Bool → Hp → Prop) (b : Bool) (s' : Shared) : Prop := ∃ H', Inv X pins σ H' s' ∧ Q b H'
def AP (X : Cx) (pins : List (Addr × Obj)) (σ : St) (Q : List V → Hp → Prop) (us : List Value) (s' : Shared) : Prop := ∃ vs H', Inv X pins σ H' s' ∧ Vals vs us ∧ Q vs H'
def SP (X : Cx) (pins : List (Addr × Obj)) (D : Ends) (f : Flow) (s' : Shared) : Prop :=
  match f with
  | .next => ∃ σ' H', Inv X pins σ' H' s' ∧ D.nx σ' H'
  | .brk => ∃ σ' H', Inv X pins σ' H' s' ∧ D.bk σ' H'
  | .cont => ∃ σ' H', Inv X pins σ' H' s' ∧ D.ct σ' H'
  | .ret u => ∃ v σ' H', Inv X pins σ' H' s' ∧ RelV v u ∧ D.rt v H'

def PE (X : Cx) (e : Expr) (t : TE) : Prop :=
  ∀ (pins : List (Addr × Obj)) (s : Shared) (σ : St) (H : Hp) (Q : VK), Inv X pins σ H s → t σ H Q → wpAny (model X.prog X.w) X.A (eval e X.env) (EP X pins σ Q) X.xe s
def PT (X : Cx) (e : Expr) (t : TT) : Prop :=
  ∀ (pins : List (Addr × Obj)) (s : Shared) (σ : St) (H : Hp) (Q : Bool → Hp → Prop), Inv X pins σ H s → t σ H Q → wpAny (model X.prog X.w) X.A (isTrue e X.env (eval e X.env)) (TP X pins σ Q) X.xe s
/-- a test whatever its 'whole' is (and, or) -/
def PW (X : Cx) (e : Expr) (t : TT) : Prop :=
  ∀ (whole : Sem Value) (pins : List (Addr × Obj)) (s : Shared) (σ : St) (H : Hp) (Q : Bool → Hp → Prop), Inv X pins σ H s → t σ H Q → wpAny (model X.prog X.w) X.A (isTrue e X.env whole) (TP X pins σ Q) X.xe s
theorem PW.pt {X : Cx} {e : Expr} {t : TT} (h : PW X e t) : PT X e t := h _
/-- an argument list (no star), from the left -/
def PA (X : Cx) (es : List Expr) (t : TA) : Prop :=
  ∀ (pos : Pos) (pins : List (Addr × Obj)) (s : Shared) (σ : St) (H : Hp) (Q : List V → Hp → Prop), Inv X pins σ H s → t σ H Q → wpAny (model X.prog X.w) X.A (spliced (backTo pos (starEach es X.env))) (AP X pins σ Q) X.xe s
def PS (X : Cx) (st : Stmt) (t : TS) : Prop :=
  ∀ (pins : List (Addr × Obj)) (s : Shared) (σ : St) (H : Hp) (D : Ends), Inv X pins σ H s → t D σ H → wpAny (model X.prog X.w) X.A (exec st X.env) (SP X pins D) X.xe s
def PSs (X : Cx) (st : List Stmt) (t : TS) : Prop :=
  ∀ (pins : List (Addr × Obj)) (s : Shared) (σ : St) (H : Hp) (D : Ends), Inv X pins σ H s → t D σ H → wpAny (model X.prog X.w) X.A (execs st X.env) (SP X pins D) X.xe s
/-- weaken the end -/
theorem thn {α : Type} {t : Sem α} {Q Q' : α → Shared → Prop} {M : Model} {A : Around} {E : Value → Shared → Prop} {s : Shared} (h : wpAny M A t Q E s) (hQ : ∀ a s, Q a s → Q' a s) : wpAny M A t Q' E s := wpAny_mono h hQ fun _ _ x => x
end L2

namespace L2
open PySem PySem.Spec PyProof.Rows
section
variable {X : Cx}

/-! ### names and constants -/
def tVar (i : Nat) : TE := fun σ H Q => ∃ v, σ[i]? = some (some v) ∧ Q v H
def tC (v : V) : TE := fun _ H Q => Q v H
theorem pe_var {i : Nat} {x : Str} {pos : Pos} (hN : X.N[i]? = some x) (hv : Vis X.env.scope x) (hd : (x == ("__debug__" : Str)) = false := by decide) (hcd : (x == ("__classdict__" : Str)) = false := by decide) : PE X (.Name x pos) (tVar i) := by
  intro pins s σ H Q I h
  obtain ⟨v, e, h⟩ := h
  obtain ⟨m, hn, hl⟩ := I.loc
  obtain ⟨u, r, l⟩ := hl i x v hN e hv
  have fin : EP X pins σ Q u s := ⟨v, H, I, r, h⟩
  rcases l with ⟨hk, hm⟩ | ⟨hk, c, hc, hcell⟩
  · exact wpAny_Name (wpAny_loadName_local I.ok.kind hk hn hm fin) hd
  · rcases hk with hk | hk
    · exact wpAny_Name (wpAny_loadName_cell I.ok.kind hk hc hcell fin) hd
    · exact wpAny_Name (wpAny_loadName_free I.ok.kind hk hc hcell fin hcd) hd
theorem pe_int {i j pos} : PE X (.Constant (.int i) j pos) (tC (.int i)) := fun _ _ _ H _ I h => wpAny_Constant_int ⟨.int i, H, I.tok _, ⟨_, rfl⟩, h⟩
theorem pe_bl {b j pos} : PE X (.Constant (.bool b) j pos) (tC (.bl b)) := fun _ _ _ H _ I h => Constant_bool ⟨.bl b, H, I, rfl, h⟩
theorem pe_non {j pos} : PE X (.Constant .none j pos) (tC .non) := fun _ _ _ H _ I h => Constant_none ⟨.non, H, I, rfl, h⟩
theorem pe_str {x j pos} : PE X (.Constant (.str x) j pos) (tC (.str x)) := fun _ _ _ H _ I h => Calls.Constant_str ⟨.str x, H, I.tok _, ⟨_, rfl⟩, h⟩

/-- a global name of the def -/
def Gl (X : Cx) (x : Str) : Prop := X.env.kindOf x = some .globalImplicit
theorem ld_glob {E : Value → Shared → Prop} {pins : List (Addr × Obj)} {s : Shared} {σ : St} {H : Hp} {x : Str} {u : Value} {pos : Pos} {Q : Value → Shared → Prop} (I : Inv X pins σ H s) (hg : Gl X x) (hm : X.mg x = some u) (h : Q u s)
    (hd : (x == ("__debug__" : Str)) = false := by decide) : wpAny (model X.prog X.w) X.A (eval (.Name x pos) X.env) Q E s :=
  Calls.Name_function_global I.ok.kind hg (Calls.loadGlobal_global (by rw [I.ok.glob]; exact I.mod.glob.keeps I.bk) hm h) hd
theorem ld_blt {E : Value → Shared → Prop} {pins : List (Addr × Obj)} {s : Shared} {σ : St} {H : Hp} {x : Str} {u : Value} {pos : Pos} {Q : Value → Shared → Prop} (I : Inv X pins σ H s) (hg : Gl X x) (hm : X.mg x = none) (hv : bootBuiltins x = some u) (h : Q u s)
    (hn : x ≠ "__name__" := by decide) (hd : (x == ("__debug__" : Str)) = false := by decide) : wpAny (model X.prog X.w) X.A (eval (.Name x pos) X.env) Q E s := by
  obtain ⟨mb, h1, h2⟩ := I.mod.blt
  exact Calls.Name_function_global I.ok.kind hg (Calls.loadGlobal_builtin (by rw [I.ok.glob]; exact I.mod.glob.keeps I.bk) hm (by rw [I.ok.blt]; exact h1.keeps I.bk) ((h2 x hn).trans hv) h) hd
/-- a module's constant, a class, a function, as a value -/
theorem pe_glob {x : Str} {v : V} {u : Value} {pos : Pos} (hg : Gl X x) (hm : X.mg x = some u) (r : RelV v u) (hd : (x == ("__debug__" : Str)) = false := by decide) : PE X (.Name x pos) (tC v) :=
  fun _ _ _ H _ I h => ld_glob I hg hm ⟨v, H, I, r, h⟩ hd
theorem pe_bltn {x : Str} {v : V} {u : Value} {pos : Pos} (hg : Gl X x) (hm : X.mg x = none) (hv : bootBuiltins x = some u) (r : RelV v u) (hn : x ≠ "__name__" := by decide) (hd : (x == ("__debug__" : Str)) = false := by decide) : PE X (.Name x pos) (tC v) :=
  fun _ _ _ H _ I h => ld_blt I hg hm hv ⟨v, H, I, r, h⟩ hn hd

/-! ### arithmetic -/
variable {a b : Expr} {ta tb : TE} {pos : Pos}
/-! ### comparisons -/
/-- a comparison as a value, as a test -/
def tB (t : TE) : TT := fun σ H Q => t σ H fun x H1 => ∃ c, x = .bl c ∧ Q c H1
/-- an expression whose value is a bool, as a test -/
theorem pt_val {e : Expr} {t : TE} (h : PE X e t) (he : ∀ whole, isTrue e X.env whole = (do let v ← whole; standAt e.pos; holding [v] (truthy v)) := by intro _; rfl) : PT X e (tB t) := by
  intro pins s σ H Q I hw
  refine isTrue_plain (thn (h pins s σ H _ I hw) fun v s1 ⟨x, H1, I1, r1, q1⟩ => ?_) (he _)
  obtain ⟨d, rfl, q⟩ := q1
  cases r1
  exact wpAny_truthy_bool ⟨H1, I1, q⟩

/-! ### and, or, not -/
variable {tA tB' : TT} {rest : List Expr}
def tAnd (t u : TT) : TT := fun σ H Q => t σ H fun c H1 => if c = true then u σ H1 Q else Q false H1
def tOr (t u : TT) : TT := fun σ H Q => t σ H fun c H1 => if c = true then Q true H1 else u σ H1 Q
def tNot (t : TT) : TT := fun σ H Q => t σ H fun c H1 => Q (!c) H1
theorem pw_and1 (ha : PT X a tA) : PW X (.BoolOp .And [a] pos) tA := by
  intro wh pins s σ H Q I h
  refine isTrue_and (thn (ha pins s σ H Q I h) fun c s1 e => ?_)
  cases c with
  | true => exact isTrue_and_nil e
  | false => exact e
theorem pw_or1 (ha : PT X a tA) : PW X (.BoolOp .Or [a] pos) tA := by
  intro wh pins s σ H Q I h
  refine isTrue_or (thn (ha pins s σ H Q I h) fun c s1 e => ?_)
  cases c with
  | false => exact isTrue_or_nil e
  | true => exact e
theorem pw_and (ha : PT X a tA) (hb : PW X (.BoolOp .And (b :: rest) pos) tB') : PW X (.BoolOp .And (a :: b :: rest) pos) (tAnd tA tB') := by
  intro wh pins s σ H Q I h
  refine isTrue_and (thn (ha pins s σ H _ I h) fun c s1 ⟨H1, I1, q1⟩ => ?_)
  cases c with
  | true => exact hb wh pins s1 σ H1 Q I1 q1
  | false => exact ⟨H1, I1, q1⟩
theorem pw_or (ha : PT X a tA) (hb : PW X (.BoolOp .Or (b :: rest) pos) tB') : PW X (.BoolOp .Or (a :: b :: rest) pos) (tOr tA tB') := by
  intro wh pins s σ H Q I h
  refine isTrue_or (thn (ha pins s σ H _ I h) fun c s1 ⟨H1, I1, q1⟩ => ?_)
  cases c with
  | true => exact ⟨H1, I1, q1⟩
  | false => exact hb wh pins s1 σ H1 Q I1 q1
theorem pt_not (ha : PT X a tA) : PT X (.UnaryOp .Not a pos) (tNot tA) := by
  intro pins s σ H Q I h
  exact isTrue_not (ha pins s σ H (fun c H1 => Q (!c) H1) I h)
/-- .. as values (bools) -/
def tAndV (ta tb : TE) : TE := fun σ H Q => ta σ H fun x H1 => ∃ c, x = .bl c ∧ if c = true then tb σ H1 Q else Q (.bl false) H1
def tNotV (ta : TE) : TE := fun σ H Q => ta σ H fun x H1 => ∃ c, x = .bl c ∧ Q (.bl (!c)) H1
theorem pe_one {op} {t : TE} (h : PE X a t) : PE X (.BoolOp op [a] pos) t := fun pins s σ H Q I hw => BoolOp_one (h pins s σ H Q I hw)
theorem pe_and (ha : PE X a ta) (hb : PE X (.BoolOp .And (b :: rest) pos) tb) : PE X (.BoolOp .And (a :: b :: rest) pos) (tAndV ta tb) := by
  intro pins s σ H Q I h
  refine BoolOp_and (thn (ha pins s σ H _ I h) fun v s1 ⟨x, H1, I1, r1, q1⟩ => ?_)
  obtain ⟨c, rfl, q1⟩ := q1
  cases r1
  refine wpAny_truthy_bool ?_
  cases c with
  | true => exact hb pins s1 σ H1 Q I1 q1
  | false => exact ⟨.bl false, H1, I1, rfl, q1⟩
theorem pe_not (ha : PE X a ta) : PE X (.UnaryOp .Not a pos) (tNotV ta) := by
  intro pins s σ H Q I h
  refine UnaryOp_ (thn (ha pins s σ H _ I h) fun v s1 ⟨x, H1, I1, r1, q1⟩ => ?_)
  obtain ⟨c, rfl, q1⟩ := q1
  cases r1
  exact not_of (wpAny_truthy_bool ⟨.bl (!c), H1, I1, rfl, q1⟩)
end
end L2

namespace L2
open PySem PySem.Spec PyProof.Rows

/-! ### a list, a tuple that is read: tracked, frozen, or an object of the module -/
def SqL (K : PySem.W.Frag) (H : Hp) (a : Addr) (xs : List V) : Prop :=
  Rd H a (.lst xs) ∨
    ∃ (o : Obj) (its : Array Value) (n : Nat), K.lookup a = some o ∧ o.cls = .type "list" ∧ o.dict = none ∧ o.data = .seq its n ∧ its.size ≤ sizeLine ∧ Vals xs its.toList
def SqT (K : PySem.W.Frag) (H : Hp) (a : Addr) (xs : List V) : Prop :=
  Rd H a (.tup xs) ∨
    ∃ (o : Obj) (its : Array Value) (n : Nat), K.lookup a = some o ∧ o.cls = .type "tuple" ∧ o.data = .seq its n ∧ its.size ≤ sizeLine ∧ Vals xs its.toList
def absV : Value → Option V
  | .none => some .non
  | .bool b => some (.bl b)
  | .int i _ => some (.int i)
  | .str x _ => some (.str x)
  | .bytes b _ => some (.byt b)
  | .float b _ => some (.flt b)
  | .ref a => some (.ref a)
  | .type n => some (.ty n)
  | _ => none
theorem RelV.abs {x : V} {u : Value} (r : RelV x u) : absV u = some x := by
  cases x with
  | non => cases r; rfl
  | bl _ => cases r; rfl
  | int _ => obtain ⟨t, rfl⟩ := r; rfl
  | str _ => obtain ⟨t, rfl⟩ := r; rfl
  | byt _ => obtain ⟨t, rfl⟩ := r; rfl
  | flt _ => obtain ⟨t, rfl⟩ := r; rfl
  | ref _ => cases r; rfl
  | ty _ => cases r; rfl
theorem RelV.inj {x y : V} {u : Value} (r : RelV x u) (q : RelV y u) : x = y := Option.some.inj (r.abs.symm.trans q.abs)
theorem Vals.inj : ∀ {xs ys : List V} {us : List Value}, Vals xs us → Vals ys us → xs = ys
  | _, _, _, .nil, .nil => rfl
  | _, _, _, .cons r t, .cons r' t' => by rw [r.inj r', Vals.inj t t']
section
variable {X : Cx} {pins : List (Addr × Obj)} {σ : St} {H : Hp} {s : Shared} {a : Addr} {xs ys : List V}
theorem SqL.of {K : PySem.W.Frag} (h : H a = some (.lst xs)) : SqL K H a xs := .inl (.inl h)
theorem SqT.of {K : PySem.W.Frag} (h : H a = some (.tup xs)) : SqT K H a xs := .inl (.inl h)
theorem Inv.list (I : Inv X pins σ H s) (h : SqL X.K H a xs) : ∃ its : List Value, Vals xs its ∧ PlainL s.heap a its.toArray ∧ xs.length ≤ sizeLine := by
  rcases h with h | ⟨o, its, n, hk, hc, hd, hs, hz, r⟩
  · obtain ⟨z, its, n, r, e⟩ := h.ok I.hok
    exact ⟨its, r, ⟨_, n, e, rfl, rfl, rfl⟩, z⟩
  · refine ⟨its.toList, r, ⟨o, n, I.kIn a o hk, hc, hd, by simpa using hs⟩, ?_⟩
    have e := r.length
    simp only [Array.length_toList] at e
    omega
theorem Inv.tuple (I : Inv X pins σ H s) (h : SqT X.K H a xs) : ∃ its : List Value, Vals xs its ∧ IsTup s.heap a its.toArray ∧ xs.length ≤ sizeLine := by
  rcases h with h | ⟨o, its, n, hk, hc, hs, hz, r⟩
  · obtain ⟨z, its, r, p⟩ := h.ok I.hok
    exact ⟨its, r, p, z⟩
  · refine ⟨its.toList, r, ⟨o, I.kIn a o hk, hc, n, by simpa using hs⟩, ?_⟩
    have e := r.length
    simp only [Array.length_toList] at e
    omega
theorem Inv.list_inj (I : Inv X pins σ H s) (h : SqL X.K H a xs) (h' : SqL X.K H a ys) : xs = ys := by
  obtain ⟨its, r, ⟨o, n, e, _, _, d⟩, _⟩ := I.list h
  obtain ⟨its', r', ⟨o', n', e', _, _, d'⟩, _⟩ := I.list h'
  rw [e] at e'; cases e'
  rw [d] at d'
  injection d' with d1 _
  have : its = its' := by simpa using congrArg Array.toList d1
  subst this
  exact r.inj r'
theorem Inv.tuple_inj (I : Inv X pins σ H s) (h : SqT X.K H a xs) (h' : SqT X.K H a ys) : xs = ys := by
  obtain ⟨its, r, ⟨o, e, _, n, d⟩, _⟩ := I.tuple h
  obtain ⟨its', r', ⟨o', e', _, n', d'⟩, _⟩ := I.tuple h'
  rw [e] at e'; cases e'
  rw [d] at d'
  injection d' with d1 _
  have : its = its' := by simpa using congrArg Array.toList d1
  subst this
  exact r.inj r'
end

/-! ### another wish about exceptions -/
abbrev Cx.wish (X : Cx) (E : Value → Shared → Prop) : Cx := { X with xe := E }
/-- no exception leaves -/
abbrev Cx.nox (X : Cx) : Cx := X.wish fun _ _ => False
theorem Cx.Ok.wish {X : Cx} (ok : X.Ok) (E : Value → Shared → Prop) : (X.wish E).Ok :=
  ⟨ok.mod, ok.kind, ok.glob, ok.blt, ok.above, ok.inj, ok.has, ok.cab, ok.hd, ok.frames, ok.stk, ok.exf, ok.bs, ok.bsz, ok.noex, ok.exfs, ok.funs, ok.frf⟩
theorem Cx.Ok.unwish {X : Cx} {E : Value → Shared → Prop} (ok : (X.wish E).Ok) : X.Ok :=
  ⟨ok.mod, ok.kind, ok.glob, ok.blt, ok.above, ok.inj, ok.has, ok.cab, ok.hd, ok.frames, ok.stk, ok.exf, ok.bs, ok.bsz, ok.noex, ok.exfs, ok.funs, ok.frf⟩
section
variable {X : Cx} {pins : List (Addr × Obj)} {σ : St} {H : Hp} {s : Shared} {E : Value → Shared → Prop}
theorem Inv.wish (I : Inv X pins σ H s) (E : Value → Shared → Prop) : Inv (X.wish E) pins σ H s := ⟨I.ok.wish E, I.os, I.bare, I.base, I.loc, I.cell, I.free, I.freeC, I.pin, I.hok, I.len⟩
theorem Inv.unwish (I : Inv (X.wish E) pins σ H s) : Inv X pins σ H s := ⟨I.ok.unwish, I.os, I.bare, I.base, I.loc, I.cell, I.free, I.freeC, I.pin, I.hok, I.len⟩
theorem SP.unwish {D : Ends} {f : Flow} {s' : Shared} (h : SP (X.wish E) pins D f s') : SP X pins D f s' := by
  cases f with
  | next => obtain ⟨σ', H', I, q⟩ := h; exact ⟨σ', H', I.unwish, q⟩
  | brk => obtain ⟨σ', H', I, q⟩ := h; exact ⟨σ', H', I.unwish, q⟩
  | cont => obtain ⟨σ', H', I, q⟩ := h; exact ⟨σ', H', I.unwish, q⟩
  | ret u => obtain ⟨v, σ', H', I, r, q⟩ := h; exact ⟨v, σ', H', I.unwish, r, q⟩
theorem PSs.nox {st : List Stmt} {t : TS} (h : PSs X.nox st t) : PSs X st t := fun pins s σ H D I hw =>
  wpAny_mono (h pins s σ H D (I.wish _) hw) (fun _ _ q => q.unwish) fun _ _ z => False.elim z
end

/-! ### blocks and small statements -/
section
variable {X : Cx} {st : Stmt} {rest : List Stmt} {t u : TS} {e : Expr} {te : TE} {pos : Pos}
def tNext : TS := fun D σ H => D.nx σ H
def tSeq (t u : TS) : TS := fun D σ H => t { D with nx := u D } σ H
theorem pss_nil : PSs X [] tNext := fun _ _ σ H _ I h => wpAny_execs_nil ⟨σ, H, I, h⟩
theorem pss_cons (h1 : PS X st t) (h2 : PSs X rest u) : PSs X (st :: rest) (tSeq t u) := by
  intro pins s σ H D I h
  refine wpAny_execs_cons (thn (h1 pins s σ H { D with nx := u D } I h) fun f s1 q => ?_)
  cases f with
  | next =>
    obtain ⟨σ', H', I', q⟩ := q
    exact h2 pins s1 σ' H' D I' q
  | ret v => exact q
  | brk => exact q
  | cont => exact q
theorem pss_one (h1 : PS X st t) : PSs X [st] t := by
  intro pins s σ H D I h
  refine wpAny_execs_cons (thn (h1 pins s σ H D I h) fun f s1 q => ?_)
  cases f with
  | next => exact wpAny_execs_nil q
  | ret v => exact q
  | brk => exact q
  | cont => exact q
/-- in a def's body nothing is shown -/
theorem Inv.quiet {pins : List (Addr × Obj)} {σ : St} {H : Hp} {s : Shared} (I : Inv X pins σ H s) : interactive X.env = false := by simp [interactive, I.ok.kind]
/-- an expression whose value is dropped -/
def tDrop (te : TE) : TS := fun D σ H => te σ H fun _ H1 => D.nx σ H1
theorem ps_expr (he : PE X e te) (hs : swapsWith e none pos.line X.env = pure false := by rfl) : PS X (.Expr e pos) (tDrop te) := by
  intro pins s σ H D I h
  exact wpAny_Expr_any (thn (he pins s σ H _ I h) fun v s1 ⟨x, H1, I1, r1, q1⟩ => ⟨σ, H1, I1, q1⟩) I.quiet hs
def tRet (te : TE) : TS := fun D σ H => te σ H D.rt
theorem ps_ret (he : PE X e te) : PS X (.Return (some e) pos) (tRet te) := by
  intro pins s σ H D I h
  exact wpAny_Return_some (thn (he pins s σ H _ I h) fun v s1 ⟨x, H1, I1, r1, q1⟩ => ⟨x, σ, H1, I1, r1, q1⟩)
def tIfS (c : TT) (t u : TS) : TS := fun D σ H => c σ H fun b H1 => if b = true then t D σ H1 else u D σ H1
theorem ps_if {c : Expr} {a b : List Stmt} {tc : TT} (hc : PT X c tc) (ha : PSs X a t) (hb : PSs X b u) : PS X (.If c a b pos) (tIfS tc t u) := by
  intro pins s σ H D I h
  refine wpAny_If (thn (hc pins s σ H _ I h) fun d s1 ⟨H1, I1, q1⟩ => ?_)
  cases d with
  | true => exact ha pins s1 σ H1 D I1 q1
  | false => exact hb pins s1 σ H1 D I1 q1
end

/-! ### targets -/
abbrev TG := V → St → Hp → (St → Hp → Prop) → Prop
abbrev TGs := List V → St → Hp → (St → Hp → Prop) → Prop
def PG (X : Cx) (target : Expr) (t : TG) : Prop :=
  ∀ (pins : List (Addr × Obj)) (s : Shared) (σ : St) (H : Hp) (v : V) (u : Value) (Q : St → Hp → Prop), Inv X pins σ H s → RelV v u → t v σ H Q →
    wpAny (model X.prog X.w) X.A (assign target X.env u) (fun _ s' => ∃ σ' H', Inv X pins σ' H' s' ∧ Q σ' H') X.xe s
/-- several targets, one after another -/
def PGs (X : Cx) (ts : List Expr) (t : TGs) : Prop :=
  ∀ (pins : List (Addr × Obj)) (s : Shared) (σ : St) (H : Hp) (vs : List V) (us : List Value) (Q : St → Hp → Prop), Inv X pins σ H s → Vals vs us → t vs σ H Q →
    wpAny (model X.prog X.w) X.A (assignInOrder ((assignEach ts X.env).map (·.2)) us) (fun _ s' => ∃ σ' H', Inv X pins σ' H' s' ∧ Q σ' H') X.xe s
/-- o[i] = v, by values -/
abbrev TSet := V → V → V → Hp → (Hp → Prop) → Prop
def PSet (X : Cx) (t : TSet) : Prop :=
  ∀ (pins : List (Addr × Obj)) (s : Shared) (σ : St) (H : Hp) (o i v : V) (ov iv u : Value) (Q : Hp → Prop), Inv X pins σ H s → RelV o ov → RelV i iv → RelV v u → t o i v H Q →
    wpAny (model X.prog X.w) X.A (setItem ov iv u) (fun _ s' => ∃ H', Inv X pins σ H' s' ∧ Q H') X.xe s
section
variable {X : Cx} {pos : Pos}
def gName (i : Nat) : TG := fun v σ H Q => Q (σ.set i (some v)) H
theorem pg_name {i : Nat} {x : Str} (hN : X.N.Nodup) (hi : X.N[i]? = some x) (hx : Loc X.env.scope x) (hf : X.fn x = true ∨ X.env.scope.names.lookup x = some .local := by first | exact .inl rfl | exact .inr rfl | assumption) : PG X (.Name x pos) (gName i) := by
  intro pins s σ H v u Q I r h
  exact wpAny_assign_Name (store_ok I hN hi hx r (fun s' I' => ⟨_, H, I', h⟩) hf)
def gNil : TGs := fun vs σ H Q => vs = [] ∧ Q σ H
def gCons (t : TG) (u : TGs) : TGs := fun vs σ H Q => ∃ v r, vs = v :: r ∧ t v σ H fun σ' H' => u r σ' H' Q
theorem pgs_nil : PGs X [] gNil := by
  intro pins s σ H vs us Q I r h
  obtain ⟨e, h⟩ := h
  subst e
  cases r
  exact assignInOrder_nil ⟨σ, H, I, h⟩
theorem pgs_cons {e : Expr} {es : List Expr} {t : TG} {u : TGs} (h1 : PG X e t) (h2 : PGs X es u)
    (hs : (assignEach (e :: es) X.env).map (·.2) = assign e X.env :: (assignEach es X.env).map (·.2) := by rfl) : PGs X (e :: es) (gCons t u) := by
  intro pins s σ H vs us Q I r h
  obtain ⟨v, vr, e1, h⟩ := h
  subst e1
  cases r with
  | cons r rr =>
    rw [hs]
    refine assignInOrder_cons (thn (h1 pins s σ H _ _ _ I r h) fun _ s1 ⟨σ1, H1, I1, q1⟩ => ?_)
    exact h2 pins s1 σ1 H1 _ _ Q I1 rr q1
/-- (a, b, ..) = a tuple of that length -/
def gTup (K : PySem.W.Frag) (n : Nat) (t : TGs) : TG := fun v σ H Q => ∃ a xs, v = .ref a ∧ SqT K H a xs ∧ xs.length = n ∧ t xs σ H Q
theorem pg_tup {es : List Expr} {k : Nat} {t : TGs} {n : Nat} (hc : X.calm = true) (h : PGs X es t)
    (hn : (assignEach es X.env).length = n := by rfl) (hst : (assignEach es X.env).findIdx? (·.1) = none := by rfl) : PG X (.Tuple es k pos) (gTup X.K n t) := by
  intro pins s σ H v u Q I r hw
  obtain ⟨a, xs, e1, hq, hl, hw⟩ := hw
  subst e1
  cases r
  obtain ⟨its, rv, ht, hz⟩ := I.tuple hq
  refine assign_Tuple_tuple (I.ok.hd hc) ht (by simp [hn, ← hl, rv.length]) hst fun h' hx => ?_
  have I1 : Inv X pins σ H { s with heap := h' } := I.kept (t' := s.toks) fun b o e => hx b o (Nat.ne_of_lt (Heap.lt_size e)) e
  exact h pins _ σ H xs _ Q I1 (by simpa using rv) hw
/-- o[i] = .. -/
def gSub (to ti : TE) (t : TSet) : TG := fun v σ H Q => to σ H fun o H1 => ti σ H1 fun i H2 => t o i v H2 fun H3 => Q σ H3
theorem pg_sub {o i : Expr} {to ti : TE} {t : TSet} (ho : PE X o to) (hi : PE X i ti) (hs : PSet X t)
    (ha : ∀ v, assign (.Subscript o i pos) X.env v = (do
      let ov ← holding [v] (eval o X.env)
      let iv ← holding [v, ov] (eval i X.env)
      standAt pos
      holding [v, ov, iv] (setItem ov iv v)
      release [v, ov, iv] []) := by intro _; rfl) : PG X (.Subscript o i pos) (gSub to ti t) := by
  intro pins s σ H v u Q I r h
  rw [ha]
  refine wpAny_bind (wpAny_holding (thn (ho pins s σ H _ I h) fun ov s1 ⟨x, H1, I1, r1, q1⟩ => ?_))
  refine wpAny_bind (wpAny_holding (thn (hi pins s1 σ H1 _ I1 q1) fun iv s2 ⟨y, H2, I2, r2, q2⟩ => ?_))
  refine wpAny_bind (wpAny_standAt (wpAny_bind (wpAny_holding (thn (hs pins s2 σ H2 x y v ov iv u _ I2 r1 r2 r q2) fun _ s3 ⟨H3, I3, q3⟩ => ?_))))
  exact wpAny_release ⟨σ, H3, I3, q3⟩
/-- target = value -/
def tAsg (te : TE) (g : TG) : TS := fun D σ H => te σ H fun x H1 => g x σ H1 D.nx
theorem ps_asg {tg e : Expr} {te : TE} {g : TG} (he : PE X e te) (hg : PG X tg g) (hs : swapsWithSole [tg] e pos.line X.env = pure false := by rfl) (hw : swappedStores [tg] e X.env = pure none := by rfl)
    (h1 : (assignEach [tg] X.env).map (·.2) = [assign tg X.env] := by rfl) : PS X (.Assign [tg] e pos) (tAsg te g) := by
  intro pins s σ H D I h
  refine wpAny_Assign_stores (thn (he pins s σ H _ I h) fun v s1 ⟨x, H1, I1, r1, q1⟩ => ?_) hs hw
  rw [h1]
  exact thn (hg pins s1 σ H1 x v _ I1 r1 q1) fun _ s2 q => q
/-- name = value -/
theorem ps_set {i : Nat} {x : Str} {e : Expr} {te : TE} {pos' : Pos} (hN : X.N.Nodup) (hi : X.N[i]? = some x) (hx : Loc X.env.scope x) (he : PE X e te) (hs : swapsWith e (some (.Name x pos')) pos.line X.env = pure false := by rfl) (hf : X.fn x = true ∨ X.env.scope.names.lookup x = some .local := by first | exact .inl rfl | exact .inr rfl | assumption) :
    PS X (.Assign [.Name x pos'] e pos) (tAsg te (gName i)) := by
  intro pins s σ H D I h
  refine wpAny_Assign_Name (thn (he pins s σ H _ I h) fun v s1 ⟨y, H1, I1, r1, q1⟩ => ?_) hs
  exact store_ok I1 hN hi hx r1 (fun s2 I2 => ⟨_, H1, I2, q1⟩) hf
end

/-! ### while -/
section
variable {X : Cx} {pos : Pos}
end

/-! ### what a loop or a comprehension walks -/
/-- at turn i: it yields x (the heap may grow), or it stops -/
structure It where
  go : Nat → Hp → Prop
  yld : Nat → Hp → V → Hp → Prop
  stop : Nat → Hp → Prop
/-- the iterator's own objects may turn: they are not the frame's, not pinned, younger than the entry (or a comprehension's own) -/
def FpOk (X : Cx) (pins : List (Addr × Obj)) (H : Hp) (b : Addr) : Prop :=
  H b = none ∧ b ≠ X.env.locals ∧ b ∉ X.fs ∧ (b ∈ X.ex ∨ X.s₀.heap.objs.size ≤ b) ∧ (∀ x c, X.env.cells.lookup x = some c → c ≠ b) ∧ ∀ p ∈ X.pn ++ pins, p.1 ≠ b
theorem Inv.fpOk {X : Cx} {pins : List (Addr × Obj)} {σ : St} {H H' : Hp} {s : Shared} {b : Addr} (I : Inv X pins σ H s) (hb : s.heap.objs.size ≤ b) (hn : H' b = none) : FpOk X pins H' b := by
  refine ⟨hn, Nat.ne_of_gt (Nat.lt_of_lt_of_le I.lt hb), I.nofs hb, .inr (Nat.le_trans I.sz hb), fun x c e z => ?_, fun p hp z => ?_⟩
  · obtain ⟨v, q⟩ := I.cell x c e
    exact absurd (Nat.lt_of_lt_of_le q.lt (by rw [z]; exact hb)) (Nat.lt_irrefl _)
  · exact absurd (Nat.lt_of_lt_of_le (Heap.lt_size (I.pin p hp).1) (by rw [z]; exact hb)) (Nat.lt_irrefl _)
structure Turn (P : Program) (w : World) (K : PySem.W.Frag) (tg : Expr) (J : It) (fp : List Addr) (it : Addr) (tn : Nat → Heap → Prop) : Prop where
  mem : it ∈ fp
  obj : ∀ i h, tn i h → ∀ b ∈ fp, ∃ o, h.get? b = some o ∧ ∀ v, o.data ≠ .cell v
  keep : ∀ i h h', tn i h → (∀ b ∈ fp, ∀ o, h.get? b = some o → h'.get? b = some o) → tn i h'
  item : ∀ (X : Cx), X.prog = P → X.w = w → X.K = K → X.calm = true → ∀ (i : Nat) (pins : List (Addr × Obj)) (s : Shared) (σ : St) (H : Hp) (E : Value → Shared → Prop), Inv X pins σ H s → (∀ b ∈ fp, FpOk X pins H b) → tn i s.heap → J.go i H →
    wpAny (model P w) X.A (pyNext (.ref it)) (fun r s1 => ∃ u, r = some u ∧
      wpAny (model P w) X.A (letOwnedTupleGo tg (.ref it) u) (fun _ s2 => ∃ x H', Inv X pins σ H' s2 ∧ RelV x u ∧ J.yld i H x H' ∧ tn (i + 1) s2.heap ∧ ∀ b ∈ fp, H' b = none) E s1) E s
  done : ∀ (X : Cx), X.prog = P → X.w = w → X.K = K → X.calm = true → ∀ (i : Nat) (pins : List (Addr × Obj)) (s : Shared) (σ : St) (H : Hp) (E : Value → Shared → Prop), Inv X pins σ H s → (∀ b ∈ fp, FpOk X pins H b) → tn i s.heap → J.stop i H →
    wpAny (model P w) X.A (pyNext (.ref it)) (fun r s1 => r = none ∧ Inv X pins σ H s1) E s
  self : ∀ (A : Around) (i : Nat) (s : Shared) (Q : Value → Shared → Prop) (E : Value → Shared → Prop), tn i s.heap → Q (.ref it) s → wpAny (model P w) A (pyIter (.ref it)) Q E s
abbrev TI := St → Hp → (It → Hp → Prop) → Prop
/-- an iterator has come -/
def PIE (X : Cx) (pins : List (Addr × Obj)) (σ : St) (tg : Expr) (R : It → Hp → Prop) (itv : Value) (s2 : Shared) : Prop :=
  ∃ (it : Addr) (fp : List Addr) (tn : Nat → Heap → Prop) (J : It) (H' : Hp), itv = .ref it ∧ Inv X pins σ H' s2 ∧ Turn X.prog X.w X.K tg J fp it tn ∧ tn 0 s2.heap ∧ (∀ b ∈ fp, FpOk X pins H' b) ∧ R J H'
def PI (X : Cx) (tg iter : Expr) (wi : TI) : Prop :=
  ∀ (pins : List (Addr × Obj)) (s : Shared) (σ : St) (H : Hp) (R : It → Hp → Prop), Inv X pins σ H s → wi σ H R →
    wpAny (model X.prog X.w) X.A (eval iter X.env) (fun v s1 => wpAny (model X.prog X.w) X.A (pyIter v) (PIE X pins σ tg R) X.xe s1) X.xe s

/-- the step ahead of the store is nothing for an iterator that keeps no tuple -/
theorem go_of {M : Model} {A : Around} {E : Value → Shared → Prop} {s : Shared} {tg : Expr} {it : Addr} {u : Value} {o : Obj} {n : String} {vs : Array Value} {Q : Unit → Shared → Prop} (ho : s.heap.get? it = some o) (hc : o.cls = .type n) (hd : o.data = .fields vs)
    (hn : ["enumerate", "zip", "dict_itemiterator", "dict_reverseitemiterator", "odict_iterator", "itertools.zip_longest", "itertools.pairwise"].contains n = false) (hQ : Q () s) : wpAny M A (letOwnedTupleGo tg (.ref it) u) Q E s := by
  unfold letOwnedTupleGo
  cases tg <;> first
    | exact wpAny_pure hQ
    | (cases u <;> first
        | exact wpAny_pure hQ
        | (refine wpAny_bind (wpAny_load ho ?_)
           rw [hc, hd]
           show wpAny M A (if (["enumerate", "zip", "dict_itemiterator", "dict_reverseitemiterator", "odict_iterator", "itertools.zip_longest", "itertools.pairwise"].contains n && vs[0]? == some (rawInt _)) = true then _ else _) Q E s
           rw [if_neg (by intro h; rw [hn, Bool.false_and] at h; cases h)]
           exact wpAny_pure hQ))

/-- the list at a, as it stands at each turn (a loop may append to it) -/
def Itl (K : PySem.W.Frag) (a : Addr) : It :=
  ⟨fun i H => ∃ xs x, SqL K H a xs ∧ xs[i]? = some x, fun i H x H' => H' = H ∧ ∀ xs, SqL K H a xs → xs[i]? = some x, fun i H => ∃ xs, SqL K H a xs ∧ xs.length ≤ i⟩
def Itt (K : PySem.W.Frag) (a : Addr) : It :=
  ⟨fun i H => ∃ xs x, SqT K H a xs ∧ xs[i]? = some x, fun i H x H' => H' = H ∧ ∀ xs, SqT K H a xs → xs[i]? = some x, fun i H => ∃ xs, SqT K H a xs ∧ xs.length ≤ i⟩
/-- lo, lo + 1, .. (n of them) -/
def Itr (lo : Int) (n : Nat) : It := ⟨fun i _ => i < n, fun i H x H' => H' = H ∧ x = .int (lo + i), fun i _ => n ≤ i⟩
theorem turn_list {P : Program} {w : World} {K : PySem.W.Frag} {tg : Expr} (a it : Addr) : Turn P w K tg (Itl K a) [it] it (fun i h => h.IsListIter it a i) where
  mem := by simp
  obj := fun i h st b hb => by
    have e : b = it := by simpa using hb
    subst e
    obtain ⟨o, e, c, d⟩ := st
    exact ⟨o, e, fun v z => by rw [d] at z; cases z⟩
  keep := fun i h h' st k => st.at fun o e => k it (by simp) o e
  item := by
    intro X hP hw hK hc i pins s σ H E I hf st hg
    subst hP hw hK
    obtain ⟨xs, x, hq, hx⟩ := hg
    obtain ⟨its, rv, p, hz⟩ := I.list hq
    obtain ⟨u, hu, ru⟩ := rv.get hx
    obtain ⟨f0, f1, f2, f3, f4, f5⟩ := hf it (by simp)
    refine wpAny_pyNext_list_item st p.isList (x := u) (by simpa using hu) fun h' st' sb => ?_
    have I1 : Inv X pins σ H { s with heap := h' } := I.turned (t' := s.toks) (fun b o hb e => (sb.2 b hb).trans e) f0 f1 f3 f4 f5
    obtain ⟨o, e, c, d⟩ := id st'
    exact ⟨u, rfl, go_of (s := { s with heap := h' }) e c d (by decide) ⟨x, H, I1, ru, ⟨rfl, fun ys hy => by rw [I.list_inj hy hq]; exact hx⟩, st', fun b hb => (hf b hb).1⟩⟩
  done := by
    intro X hP hw hK hc i pins s σ H E I hf st hg
    subst hP hw hK
    obtain ⟨xs, hq, hx⟩ := hg
    obtain ⟨its, rv, p, hz⟩ := I.list hq
    obtain ⟨f0, f1, f2, f3, f4, f5⟩ := hf it (by simp)
    have hl := rv.length
    exact wpAny_pyNext_list_end (I.ok.hd hc) st p.isList (by simp; omega) fun h' eb => ⟨rfl, I.turned (t' := s.toks) (fun b o hb e => eb b o hb e) f0 f1 f3 f4 f5⟩
  self := fun _ _ _ _ _ st h => wpAny_pyIter_listiter st h
theorem turn_tuple {P : Program} {w : World} {K : PySem.W.Frag} {tg : Expr} (a it : Addr) : Turn P w K tg (Itt K a) [it] it (fun i h => h.IsTupleIter it a i) where
  mem := by simp
  obj := fun i h st b hb => by
    have e : b = it := by simpa using hb
    subst e
    obtain ⟨o, e, c, d⟩ := st
    exact ⟨o, e, fun v z => by rw [d] at z; cases z⟩
  keep := fun i h h' st k => st.at fun o e => k it (by simp) o e
  item := by
    intro X hP hw hK hc i pins s σ H E I hf st hg
    subst hP hw hK
    obtain ⟨xs, x, hq, hx⟩ := hg
    obtain ⟨its, rv, p, hz⟩ := I.tuple hq
    obtain ⟨u, hu, ru⟩ := rv.get hx
    obtain ⟨f0, f1, f2, f3, f4, f5⟩ := hf it (by simp)
    refine wpAny_pyNext_tuple_item st (show s.heap.IsTuple a its.toArray from p) (x := u) (by simpa using hu) fun h' st' sb => ?_
    have I1 : Inv X pins σ H { s with heap := h' } := I.turned (t' := s.toks) (fun b o hb e => (sb.2 b hb).trans e) f0 f1 f3 f4 f5
    obtain ⟨o, e, c, d⟩ := id st'
    exact ⟨u, rfl, go_of (s := { s with heap := h' }) e c d (by decide) ⟨x, H, I1, ru, ⟨rfl, fun ys hy => by rw [I.tuple_inj hy hq]; exact hx⟩, st', fun b hb => (hf b hb).1⟩⟩
  done := by
    intro X hP hw hK hc i pins s σ H E I hf st hg
    subst hP hw hK
    obtain ⟨xs, hq, hx⟩ := hg
    obtain ⟨its, rv, p, hz⟩ := I.tuple hq
    obtain ⟨f0, f1, f2, f3, f4, f5⟩ := hf it (by simp)
    have hl := rv.length
    exact wpAny_pyNext_tuple_end (I.ok.hd hc) st (show s.heap.IsTuple a its.toArray from p) (by simp; omega) fun h' eb => ⟨rfl, I.turned (t' := s.toks) (fun b o hb e => eb b o hb e) f0 f1 f3 f4 f5⟩
  self := fun _ _ _ _ _ st h => wpAny_pyIter_tupleiter st h
theorem turn_range {P : Program} {w : World} {K : PySem.W.Frag} {tg : Expr} (it : Addr) (lo : Int) (n : Nat) : Turn P w K tg (Itr lo n) [it] it (fun i h => IsRangeIter h it (lo + (i : Nat) * 1) ((n : Int) - (i : Nat)) 1) where
  mem := by simp
  obj := fun i h st b hb => by
    have e : b = it := by simpa using hb
    subst e
    exact ⟨_, st, fun v z => by
      have z' : Data.fields _ = Data.cell v := z
      cases z'⟩
  keep := fun i h h' st k => k it (by simp) _ st
  item := by
    intro X hP hw hK hc i pins s σ H E I hf st hg
    subst hP hw hK
    obtain ⟨f0, f1, f2, f3, f4, f5⟩ := hf it (by simp)
    have W := Walks.range (prog := X.prog) (w := X.w) (I.ok.hd hc) it lo 1 n
    refine W.item i s _ _ hg st fun v h' tk hv st' kk => ?_
    obtain ⟨t, rfl⟩ := hv
    have I1 : Inv X pins σ H { s with heap := h', toks := tk } := I.turned (fun b o hb e => kk b o (by simpa using hb) e) f0 f1 f3 f4 f5
    refine ⟨_, rfl, go_of (s := { s with heap := h', toks := tk }) (n := "range_iterator") st' rfl rfl (by decide) ⟨.int (lo + i), H, I1, ⟨t, ?_⟩, ⟨rfl, rfl⟩, st', fun b hb => (hf b hb).1⟩⟩
    rw [Int.mul_one]
  done := by
    intro X hP hw hK hc i pins s σ H E I hf st hg
    subst hP hw hK
    obtain ⟨f0, f1, f2, f3, f4, f5⟩ := hf it (by simp)
    exact wpAny_pyNext_range_end (I.ok.hd hc) st (by have : n ≤ i := hg; omega) fun h' eb => ⟨rfl, I.turned (t' := s.toks) (fun b o hb e => eb b o hb e) f0 f1 f3 f4 f5⟩
  self := fun _ _ _ _ _ st h => wpAny_pyIter_rangeiter st h
end L2

namespace L2
open PySem PySem.Spec PyProof.Rows
section
variable {X : Cx} {tg : Expr}
def iList (K : PySem.W.Frag) (tl : TE) : TI := fun σ H R => tl σ H fun x H1 => ∃ a, x = .ref a ∧ (∃ xs, SqL K H1 a xs) ∧ R (Itl K a) H1
def iTup (K : PySem.W.Frag) (tl : TE) : TI := fun σ H R => tl σ H fun x H1 => ∃ a, x = .ref a ∧ (∃ xs, SqT K H1 a xs) ∧ R (Itt K a) H1
theorem pi_list {l : Expr} {tl : TE} (hl : PE X l tl) : PI X tg l (iList X.K tl) := by
  intro pins s σ H R I h
  refine thn (hl pins s σ H _ I h) fun v s1 ⟨x, H1, I1, r1, q1⟩ => ?_
  obtain ⟨a, e, ⟨xs, hq⟩, q⟩ := q1
  subst e
  cases r1
  obtain ⟨its, rv, p, hz⟩ := I1.list hq
  refine wpAny_pyIter_list p.isList ?_
  refine ⟨s1.heap.objs.size, [s1.heap.objs.size], _, _, H1, rfl, I1.kept (t' := s1.toks) fun b o e => Heap.get?_push_of_some _ e, turn_list a _, ⟨_, Heap.get?_push_size _ rfl, rfl, rfl⟩, fun b hb => ?_, q⟩
  have e : b = s1.heap.objs.size := by simpa using hb
  subst e
  exact I1.fpOk (Nat.le_refl _) (I1.hok.fresh (Nat.le_refl _))
theorem pi_tup {l : Expr} {tl : TE} (hl : PE X l tl) : PI X tg l (iTup X.K tl) := by
  intro pins s σ H R I h
  refine thn (hl pins s σ H _ I h) fun v s1 ⟨x, H1, I1, r1, q1⟩ => ?_
  obtain ⟨a, e, ⟨xs, hq⟩, q⟩ := q1
  subst e
  cases r1
  obtain ⟨its, rv, p, hz⟩ := I1.tuple hq
  refine wpAny_pyIter_tuple (show s1.heap.IsTuple a its.toArray from p) ?_
  refine ⟨s1.heap.objs.size, [s1.heap.objs.size], _, _, H1, rfl, I1.kept (t' := s1.toks) fun b o e => Heap.get?_push_of_some _ e, turn_tuple a _, ⟨_, Heap.get?_push_size _ rfl, rfl, rfl⟩, fun b hb => ?_, q⟩
  have e : b = s1.heap.objs.size := by simpa using hb
  subst e
  exact I1.fpOk (Nat.le_refl _) (I1.hok.fresh (Nat.le_refl _))
/-- a range object just made, walked -/
theorem range_it {pins : List (Addr × Obj)} {σ : St} {H : Hp} {s : Shared} {R : It → Hp → Prop} {E : Value → Shared → Prop} {lo hi : Int} {t u v : Tok} {tk : Nat} (I : Inv X pins σ H s) (h1 : -(2 ^ 62) ≤ lo) (h2 : lo < 2 ^ 62) (h3 : -(2 ^ 62) ≤ hi) (h4 : hi < 2 ^ 62)
    (q : R (Itr lo (hi - lo).toNat) H) : wpAny (model X.prog X.w) X.A (pyIter (.ref s.heap.objs.size)) (PIE X pins σ tg R) E { s with heap := s.heap.push { cls := .type "range", data := .fields #[.int lo t, .int hi u, .int 1 v] }, toks := tk } := by
  refine wpAny_pyIter_range (IsRange.new ..) (small_one h1 h2 h3 h4) ?_
  have I1 : Inv X pins σ H { s with heap := s.heap.push { cls := .type "range", data := .fields #[.int lo t, .int hi u, .int 1 v] }, toks := tk } := I.kept fun b o e => Heap.get?_push_of_some _ e
  refine ⟨(s.heap.push { cls := .type "range", data := .fields #[.int lo t, .int hi u, .int 1 v] }).objs.size, [(s.heap.push { cls := .type "range", data := .fields #[.int lo t, .int hi u, .int 1 v] }).objs.size], _, _, H, rfl,
    I1.kept (t' := tk) fun b o e => Heap.get?_push_of_some _ e, turn_range _ lo (hi - lo).toNat, ?_, fun b hb => ?_, q⟩
  · have e1 : lo + ((0 : Nat) : Int) * 1 = lo := by simp
    have e2 : (((hi - lo).toNat : Nat) : Int) - ((0 : Nat) : Int) = Builtin.Range.rangeSize lo hi 1 := by rw [rangeSize_one]; split <;> omega
    show IsRangeIter _ _ (lo + ((0 : Nat) : Int) * 1) ((((hi - lo).toNat : Nat) : Int) - ((0 : Nat) : Int)) 1
    rw [e1, e2]
    exact Heap.get?_push_size _ rfl
  · have e : b = (s.heap.push { cls := .type "range", data := .fields #[.int lo t, .int hi u, .int 1 v] }).objs.size := by simpa using hb
    subst e
    exact I1.fpOk (Nat.le_refl _) (I1.hok.fresh (Nat.le_refl _))
def iRng1 (ta : TA) : TI := fun σ H R => ta σ H fun vs H1 => ∃ j : Int, vs = [.int j] ∧ -(2 ^ 62) ≤ j ∧ j < 2 ^ 62 ∧ R (Itr 0 j.toNat) H1
def iRng2 (ta : TA) : TI := fun σ H R => ta σ H fun vs H1 => ∃ i j : Int, vs = [.int i, .int j] ∧ (-(2 ^ 62) ≤ i ∧ i < 2 ^ 62 ∧ -(2 ^ 62) ≤ j ∧ j < 2 ^ 62) ∧ R (Itr i (j - i).toNat) H1
theorem pi_range1 {a : Expr} {ta : TA} {p pos : Pos} (hg : Gl X "range") (hm : X.mg "range" = none) (ha : PA X [a] ta) (hs : starEach [a] X.env = [(false, eval a X.env)] := by rfl) : PI X tg (.Call (.Name "range" p) [a] [] pos) (iRng1 ta) := by
  intro pins s σ H R I h
  refine Call_ (ld_blt I hg hm boot_range (PyProof.Rows.callWith_type1 (thn (ha pos pins s σ H _ I h) fun us s1 ⟨vs, H1, I1, r1, q1⟩ => ?_) hs rfl))
  obtain ⟨j, e, q1, q2, q⟩ := q1
  subst e
  cases r1 with
  | cons r rr =>
    cases rr
    obtain ⟨t, rfl⟩ := r
    exact call_range_1 (range_it I1 (by omega) (by omega) q1 q2 (by simpa using q))
theorem pi_range2 {a b : Expr} {ta : TA} {p pos : Pos} (hg : Gl X "range") (hm : X.mg "range" = none) (ha : PA X [a, b] ta) (hs : starEach [a, b] X.env = [(false, eval a X.env), (false, eval b X.env)] := by rfl) (hs2 : starEach [b] X.env = [(false, eval b X.env)] := by rfl) :
    PI X tg (.Call (.Name "range" p) [a, b] [] pos) (iRng2 ta) := by
  intro pins s σ H R I h
  refine Call_ (ld_blt I hg hm boot_range (PyProof.Rows.callWith_type1 (thn (ha pos pins s σ H _ I h) fun us s1 ⟨vs, H1, I1, r1, q1⟩ => ?_) (by rw [hs, hs2]) (by rw [hs2]; rfl)))
  obtain ⟨i, j, e, ⟨q1, q2, q3, q4⟩, q⟩ := q1
  subst e
  cases r1 with
  | cons r rr =>
    cases rr with
    | cons r' rr =>
      cases rr
      obtain ⟨t, rfl⟩ := r
      obtain ⟨t', rfl⟩ := r'
      exact call_range_2 (range_it I1 q1 q2 q3 q4 q)

/-! ### for -/
/-- W: the invariant by the turn and a measure; N: what the body is to reach -/
def tFor (wi : TI) (g : TG) (tb : TS) : TS := fun D σ H => wi σ H fun J H1 => ∃ W : Nat → Nat → St → Hp → Prop, (∃ m, W 0 m σ H1) ∧ ∀ i m σ H, W i m σ H →
  (J.stop i H ∧ D.nx σ H) ∨ (J.go i H ∧ ∃ N : St → Hp → Prop, (∀ σ' H', N σ' H' → ∃ m', m' < m ∧ W (i + 1) m' σ' H') ∧ ∀ x H', J.yld i H x H' → g x σ H' fun σ2 H2 => tb { D with nx := N, ct := N, bk := D.nx } σ2 H2)
/-- the records at fp as they stand -/
def pinsAt (fp : List Addr) (h : Heap) : List (Addr × Obj) := fp.filterMap fun b => (h.get? b).map fun o => (b, o)
theorem mem_pinsAt {fp : List Addr} {h : Heap} {b : Addr} {o : Obj} (hb : b ∈ fp) (e : h.get? b = some o) : (b, o) ∈ pinsAt fp h := List.mem_filterMap.mpr ⟨b, hb, by rw [e]; rfl⟩
theorem of_pinsAt {fp : List Addr} {h : Heap} {p : Addr × Obj} (hp : p ∈ pinsAt fp h) : p.1 ∈ fp ∧ h.get? p.1 = some p.2 := by
  obtain ⟨b, hb, e⟩ := List.mem_filterMap.mp hp
  cases q : h.get? b with
  | none => rw [q] at e; cases e
  | some o =>
    rw [q] at e
    have e' : (b, o) = p := Option.some.inj e
    subst e'
    exact ⟨hb, q⟩
theorem Inv.pinned {pins : List (Addr × Obj)} {σ : St} {H : Hp} {s : Shared} {fp : List Addr} (I : Inv X pins σ H s) (hf : ∀ b ∈ fp, FpOk X pins H b) (ho : ∀ b ∈ fp, ∃ o, s.heap.get? b = some o ∧ ∀ v, o.data ≠ .cell v) : Inv X (pins ++ pinsAt fp s.heap) σ H s :=
  I.pins_of fun p hp => (List.mem_append.mp hp).elim (fun z => I.pin p (List.mem_append_right _ z)) fun z => by
    obtain ⟨hb, e⟩ := of_pinsAt z
    obtain ⟨f0, f1, f2, _⟩ := hf p.1 hb
    obtain ⟨o, e', d⟩ := ho p.1 hb
    rw [e] at e'; cases e'
    exact ⟨e, f0, f1, f2, d⟩
theorem Inv.unpinned {pins pl : List (Addr × Obj)} {σ : St} {H : Hp} {s : Shared} (I : Inv X (pins ++ pl) σ H s) : Inv X pins σ H s := I.pins_of fun p hp => I.pin p (List.mem_append_right _ (List.mem_append_left _ hp))
theorem ps_for {iter : Expr} {body : List Stmt} {wi : TI} {g : TG} {tb : TS} {pos : Pos} (hp : PassesOwn (model X.prog X.w) X.A X.env X.xe) (hc : X.calm = true) (hi : PI X tg iter wi) (hg : PG X tg g) (hb : PSs X body tb)
    (hs : ∀ x, foldedSetIterable iter X.env x = pure x := by intro _; rfl) : PS X (.For tg iter body [] pos) (tFor wi g tb) := by
  intro pins s σ H D I h
  refine wpAny_For (thn (hi pins s σ H _ I h) fun v s1 h1 => thn h1 fun itv s2 h2 => ?_) hs
  obtain ⟨it, fp, tn, J, H2, e, I2, T, st2, f2, W, ⟨m0, w0⟩, turn⟩ := h2
  subst e
  -- what stays true of the iterator's objects through the loop
  have stat : ∀ {H' : Hp}, (∀ b ∈ fp, H' b = none) → ∀ b ∈ fp, FpOk X pins H' b := fun hn b hb => ⟨hn b hb, (f2 b hb).2⟩
  refine codeAny_forLoop_any (fun n s' => ∃ i σ' H', Inv X pins σ' H' s' ∧ tn i s'.heap ∧ (∀ b ∈ fp, H' b = none) ∧ W i n σ' H') ?_ m0 ⟨0, σ, H2, I2, st2, fun b hb => (f2 b hb).1, w0⟩
  rintro n s3 ⟨i, σ3, H3, I3, st3, fr3, w3⟩
  rcases turn i n σ3 H3 w3 with ⟨stop, qn⟩ | ⟨go, N, hN, step⟩
  · refine wpAny_passesOwn hp (thn (T.done X rfl rfl rfl hc i pins s3 σ3 H3 X.xe I3 (stat fr3) st3 stop) fun r s4 ⟨hr, I4⟩ => ?_)
    subst hr
    exact wpAny_execs_nil ⟨σ3, H3, I4, qn⟩
  · refine wpAny_passesOwn hp (thn (T.item X rfl rfl rfl hc i pins s3 σ3 H3 X.xe I3 (stat fr3) st3 go) fun r s4 ⟨u, hr, h4⟩ => ?_)
    subst hr
    refine wpAny_passesOwn hp (thn h4 fun _ s5 ⟨x, H5, I5, r5, y5, st5, fr5⟩ => ?_)
    have I5' := I5.pinned (stat fr5) (T.obj _ _ st5)
    refine wpAny_passesOwn hp (thn (hg _ s5 σ3 H5 x u _ I5' r5 (step x H5 y5)) fun _ s6 ⟨σ6, H6, I6, q6⟩ => ?_)
    refine wpAny_passesOwn hp (thn (hb _ s6 σ6 H6 _ I6 q6) fun f s7 q7 => ?_)
    have again : ∀ {σ7 : St} {H7 : Hp}, Inv X (pins ++ pinsAt fp s5.heap) σ7 H7 s7 → N σ7 H7 → ∃ m, m < n ∧ ∃ i σ' H', Inv X pins σ' H' s7 ∧ tn i s7.heap ∧ (∀ b ∈ fp, H' b = none) ∧ W i m σ' H' := fun {σ7 H7} I7 n7 => by
      obtain ⟨m', hm, w7⟩ := hN σ7 H7 n7
      refine ⟨m', hm, i + 1, σ7, H7, I7.unpinned, T.keep _ _ _ st5 fun b hb o e => (I7.pin (b, o) (List.mem_append_right _ (List.mem_append_right _ (mem_pinsAt hb e)))).1, fun b hb => ?_, w7⟩
      obtain ⟨o, e, d⟩ := T.obj _ _ st5 b hb
      exact (I7.pin (b, o) (List.mem_append_right _ (List.mem_append_right _ (mem_pinsAt hb e)))).2.1
    cases f with
    | next => obtain ⟨σ7, H7, I7, n7⟩ := q7; exact again I7 n7
    | cont => obtain ⟨σ7, H7, I7, n7⟩ := q7; exact again I7 n7
    | brk => obtain ⟨σ7, H7, I7, q7⟩ := q7; exact ⟨σ7, H7, I7.unpinned, q7⟩
    | ret v => obtain ⟨x7, σ7, H7, I7, r7, q7⟩ := q7; exact ⟨x7, σ7, H7, I7.unpinned, r7, q7⟩
end

/-! ### the forms one uses -/
/-- over a list that the body leaves as it is -/
theorem for_list {K : PySem.W.Frag} {a : Addr} {xs : List V} {g : TG} {tb : TS} {D : Ends} {σ : St} {H : Hp} (Pv : Nat → St → Hp → Prop) (h0 : Pv 0 σ H) (hl : ∀ i σ H, i ≤ xs.length → Pv i σ H → SqL K H a xs)
    (hs : ∀ i x σ H, xs[i]? = some x → Pv i σ H → g x σ H fun σ2 H2 => tb { D with nx := Pv (i + 1), ct := Pv (i + 1), bk := D.nx } σ2 H2) (hd : ∀ σ H, Pv xs.length σ H → D.nx σ H) :
    ∃ W : Nat → Nat → St → Hp → Prop, (∃ m, W 0 m σ H) ∧ ∀ i m σ H, W i m σ H →
      ((Itl K a).stop i H ∧ D.nx σ H) ∨ ((Itl K a).go i H ∧ ∃ N : St → Hp → Prop, (∀ σ' H', N σ' H' → ∃ m', m' < m ∧ W (i + 1) m' σ' H') ∧ ∀ x H', (Itl K a).yld i H x H' → g x σ H' fun σ2 H2 => tb { D with nx := N, ct := N, bk := D.nx } σ2 H2) := by
  refine ⟨fun i m σ H => m = xs.length - i ∧ i ≤ xs.length ∧ Pv i σ H, ⟨xs.length, by simp, Nat.zero_le _, h0⟩, ?_⟩
  rintro i m σ H ⟨rfl, hi, p⟩
  have q := hl i σ H hi p
  by_cases hlt : i < xs.length
  · refine .inr ⟨⟨xs, xs[i], q, by simp [hlt]⟩, Pv (i + 1), fun σ' H' p' => ⟨xs.length - (i + 1), by omega, rfl, hlt, p'⟩, fun x H' y => ?_⟩
    obtain ⟨e, y⟩ := y
    subst e
    exact hs i x σ _ (y xs q) p
  · have e : i = xs.length := by omega
    subst e
    exact .inl ⟨⟨xs, q, Nat.le_refl _⟩, hd σ H p⟩
theorem for_range {lo : Int} {n : Nat} {g : TG} {tb : TS} {D : Ends} {σ : St} {H : Hp} (Pv : Nat → St → Hp → Prop) (h0 : Pv 0 σ H)
    (hs : ∀ i σ H, i < n → Pv i σ H → g (.int (lo + i)) σ H fun σ2 H2 => tb { D with nx := Pv (i + 1), ct := Pv (i + 1), bk := D.nx } σ2 H2) (hd : ∀ σ H, Pv n σ H → D.nx σ H) :
    ∃ W : Nat → Nat → St → Hp → Prop, (∃ m, W 0 m σ H) ∧ ∀ i m σ H, W i m σ H →
      ((Itr lo n).stop i H ∧ D.nx σ H) ∨ ((Itr lo n).go i H ∧ ∃ N : St → Hp → Prop, (∀ σ' H', N σ' H' → ∃ m', m' < m ∧ W (i + 1) m' σ' H') ∧ ∀ x H', (Itr lo n).yld i H x H' → g x σ H' fun σ2 H2 => tb { D with nx := N, ct := N, bk := D.nx } σ2 H2) := by
  refine ⟨fun i m σ H => m = n - i ∧ i ≤ n ∧ Pv i σ H, ⟨n, by simp, Nat.zero_le _, h0⟩, ?_⟩
  rintro i m σ H ⟨rfl, hi, p⟩
  by_cases hlt : i < n
  · refine .inr ⟨hlt, Pv (i + 1), fun σ' H' p' => ⟨n - (i + 1), by omega, rfl, hlt, p'⟩, fun x H' y => ?_⟩
    obtain ⟨e, y⟩ := y
    subst e y
    exact hs i σ _ hlt p
  · have e : i = n := by omega
    subst e
    exact .inl ⟨Nat.le_refl _, hd σ H p⟩
end L2

namespace L2
open PySem PySem.Spec PyProof.Rows

abbrev R2 := V → V → Hp → VK → Prop
/-- a two-place operation on values: f is binaryOp op, inplaceOp op or compareOp op -/
def OpR (X : Cx) (f : Value → Value → Sem Value) (r : R2) : Prop :=
  ∀ (pins : List (Addr × Obj)) (s : Shared) (σ : St) (H : Hp) (x y : V) (v u : Value) (Q : VK), Inv X pins σ H s → RelV x v → RelV y u → r x y H Q →
    wpAny (model X.prog X.w) X.A (f v u) (EP X pins σ Q) X.xe s
/-- a one-place operation -/
def UnR (X : Cx) (f : Value → Sem Value) (r : V → Hp → VK → Prop) : Prop :=
  ∀ (pins : List (Addr × Obj)) (s : Shared) (σ : St) (H : Hp) (x : V) (v : Value) (Q : VK), Inv X pins σ H s → RelV x v → r x H Q →
    wpAny (model X.prog X.w) X.A (f v) (EP X pins σ Q) X.xe s
/-- a call of a value that is known (a builtin, a type) with values -/
def CallR (X : Cx) (f : Value) (r : List V → Hp → VK → Prop) : Prop :=
  ∀ (pins : List (Addr × Obj)) (s : Shared) (σ : St) (H : Hp) (xs : List V) (us : List Value) (Q : VK), Inv X pins σ H s → Vals xs us → r xs H Q →
    wpAny (model X.prog X.w) X.A (call f us) (EP X pins σ Q) X.xe s
def tOp (r : R2) (ta tb : TE) : TE := fun σ H Q => ta σ H fun x H1 => tb σ H1 fun y H2 => r x y H2 Q
def tUn (r : V → Hp → VK → Prop) (ta : TE) : TE := fun σ H Q => ta σ H fun x H1 => r x H1 Q
/-- ints in, under C, and a value out -/
def rI (C : Int → Int → Prop) (g : Int → Int → V) : R2 := fun x y H Q => ∃ i j, x = .int i ∧ y = .int j ∧ C i j ∧ Q (g i j) H
def rI0 (g : Int → Int → V) : R2 := fun x y H Q => ∃ i j, x = .int i ∧ y = .int j ∧ Q (g i j) H
def rU (g : Int → V) : V → Hp → VK → Prop := fun x H Q => ∃ i, x = .int i ∧ Q (g i) H

section
variable {X : Cx} {a b c : Expr} {ta tb tc : TE} {pos : Pos}

theorem binT (ha : PE X a ta) (hb : PE X b tb) {pins : List (Addr × Obj)} {s : Shared} {σ : St} {H : Hp} {R : V → V → Hp → Prop} (I : Inv X pins σ H s)
    (h : ta σ H fun x H1 => tb σ H1 fun y H2 => R x y H2) {Q : Value → Shared → Prop} {f : Value → Value → Sem Value}
    (hf : ∀ v u s2 x y H2, Inv X pins σ H2 s2 → RelV x v → RelV y u → R x y H2 → wpAny (model X.prog X.w) X.A (f v u) Q X.xe s2) :
    wpAny (model X.prog X.w) X.A (eval a X.env) (fun v s₁ => wpAny (model X.prog X.w) X.A (eval b X.env) (fun u s₂ => wpAny (model X.prog X.w) X.A (f v u) Q X.xe s₂) X.xe s₁) X.xe s := by
  refine thn (ha pins s σ H _ I h) fun v s1 ⟨x, H1, I1, r1, q1⟩ => ?_
  refine thn (hb pins s1 σ H1 _ I1 q1) fun u s2 ⟨y, H2, I2, r2, q2⟩ => ?_
  exact hf v u s2 x y H2 I2 r1 r2 q2

theorem pe_op {op : Operator} {r : R2} (ho : OpR X (binaryOp op) r) (ha : PE X a ta) (hb : PE X b tb) : PE X (.BinOp a op b pos) (tOp r ta tb) := by
  intro pins s σ H Q I h
  exact wpAny_BinOp (binT ha hb I h fun v u s2 x y H2 I2 rx ry q => ho pins s2 σ H2 x y v u Q I2 rx ry q)
theorem pe_un {op : UnaryOp} {r : V → Hp → VK → Prop} (ho : UnR X (unaryOp op) r) (ha : PE X a ta) : PE X (.UnaryOp op a pos) (tUn r ta) := by
  intro pins s σ H Q I h
  exact UnaryOp_ (thn (ha pins s σ H _ I h) fun v s1 ⟨x, H1, I1, r1, q1⟩ => ho pins s1 σ H1 x v Q I1 r1 q1)
/-! ### ints -/
theorem opI {f : Value → Value → Sem Value} {C : Int → Int → Prop} {g : Int → Int → Int}
    (rule : ∀ (i j : Int) (t u : Tok) (s : Shared) (Q : Value → Shared → Prop) (E : Value → Shared → Prop), C i j → Q (.int (g i j) s.toks) { s with toks := s.toks + 1 } → wpAny (model X.prog X.w) X.A (f (.int i t) (.int j u)) Q E s) :
    OpR X f (rI C fun i j => .int (g i j)) := by
  intro pins s σ H x y v u Q I rx ry h
  obtain ⟨i, j, rfl, rfl, hc, q⟩ := h
  obtain ⟨t, rfl⟩ := rx
  obtain ⟨t', rfl⟩ := ry
  exact rule i j t t' s _ _ hc ⟨.int (g i j), H, I.tok _, ⟨_, rfl⟩, q⟩
theorem opI0 {f : Value → Value → Sem Value} {g : Int → Int → Int}
    (rule : ∀ (i j : Int) (t u : Tok) (s : Shared) (Q : Value → Shared → Prop) (E : Value → Shared → Prop), Q (.int (g i j) s.toks) { s with toks := s.toks + 1 } → wpAny (model X.prog X.w) X.A (f (.int i t) (.int j u)) Q E s) :
    OpR X f (rI0 fun i j => .int (g i j)) := by
  intro pins s σ H x y v u Q I rx ry h
  obtain ⟨i, j, rfl, rfl, q⟩ := h
  obtain ⟨t, rfl⟩ := rx
  obtain ⟨t', rfl⟩ := ry
  exact rule i j t t' s _ _ ⟨.int (g i j), H, I.tok _, ⟨_, rfl⟩, q⟩
theorem opB0 {f : Value → Value → Sem Value} {g : Int → Int → Bool}
    (rule : ∀ (i j : Int) (t u : Tok) (s : Shared) (Q : Value → Shared → Prop) (E : Value → Shared → Prop), Q (.bool (g i j)) s → wpAny (model X.prog X.w) X.A (f (.int i t) (.int j u)) Q E s) :
    OpR X f (rI0 fun i j => .bl (g i j)) := by
  intro pins s σ H x y v u Q I rx ry h
  obtain ⟨i, j, rfl, rfl, q⟩ := h
  obtain ⟨t, rfl⟩ := rx
  obtain ⟨t', rfl⟩ := ry
  exact rule i j t t' s _ _ ⟨.bl (g i j), H, I, rfl, q⟩

def CDiv (i j : Int) : Prop := 0 < j ∧ j < 1073741824
def CPow (i j : Int) : Prop := 0 ≤ j ∧ j ≤ 1000000 ∧ i.natAbs < 2 ^ 64
def CMul (i j : Int) : Prop := (-(2 ^ 64) < i ∧ i < 2 ^ 64) ∨ (-(2 ^ 64) < j ∧ j < 2 ^ 64)
theorem CMul.ok {i j : Int} (h : CMul i j) : IntMulOk i j := by
  rcases h with ⟨h1, h2⟩ | ⟨h1, h2⟩
  · exact .of_left (intBits_le_64 h1 h2)
  · exact .of_right (intBits_le_64 h1 h2)
theorem op_add : OpR X (binaryOp .Add) (rI0 fun i j => .int (i + j)) := opI0 fun _ _ _ _ _ _ _ q => add_int q
theorem op_sub : OpR X (binaryOp .Sub) (rI0 fun i j => .int (i - j)) := opI0 fun _ _ _ _ _ _ _ q => sub_int q
theorem op_mul : OpR X (binaryOp .Mult) (rI CMul fun i j => .int (i * j)) := opI fun _ _ _ _ _ _ _ hc q => mul_int q hc.ok
/-- // by a positive divisor -/
theorem op_fdiv : OpR X (binaryOp .FloorDiv) (rI CDiv fun i j => .int (i / j)) := opI fun i j _ _ _ _ _ hc q => by
  have h1 : (0 : Int) < j := hc.1
  have h2 : j < 1073741824 := hc.2
  exact floordiv_int (by omega) (by rw [Int.fdiv_eq_ediv_of_nonneg i (by omega)]; exact q) (.inl (PyProof.noPylong_small (by omega)))
/-- % by a positive divisor of any size -/
theorem op_mod : OpR X (binaryOp .Mod) (rI (fun _ j => 0 < j) fun i j => .int (i % j)) := opI fun i j _ _ _ _ _ hc q => by
  have h1 : (0 : Int) < j := hc
  exact mod_int' (by omega) (by rw [Int.fmod_eq_emod_of_nonneg i (by omega)]; exact q)
theorem op_pow : OpR X (binaryOp .Pow) (rI CPow fun i j => .int (i ^ j.toNat)) := opI fun _ _ _ _ _ _ _ hc q => pow_int_small hc.1 hc.2.1 hc.2.2 q
theorem unI {f : Value → Sem Value} {g : Int → Int}
    (rule : ∀ (i : Int) (t : Tok) (s : Shared) (Q : Value → Shared → Prop) (E : Value → Shared → Prop), Q (.int (g i) s.toks) { s with toks := s.toks + 1 } → wpAny (model X.prog X.w) X.A (f (.int i t)) Q E s) :
    UnR X f (rU fun i => .int (g i)) := by
  intro pins s σ H x v Q I rx h
  obtain ⟨i, rfl, q⟩ := h
  obtain ⟨t, rfl⟩ := rx
  exact rule i t s _ _ ⟨.int (g i), H, I.tok _, ⟨_, rfl⟩, q⟩
theorem un_neg : UnR X (unaryOp .USub) (rU fun i => .int (-i)) := unI fun _ _ _ _ _ q => neg_int q
/-! ### bools among ints: n += (a < b) -/
end

/-! ### comparisons -/
/-- the scalars that == tells apart as data does -/
def scal : V → V → Bool
  | .non, .non => true | .non, .int _ => true | .int _, .non => true | .non, .bl _ => true | .bl _, .non => true | .non, .str _ => true | .str _, .non => true
  | .int _, .int _ => true | .bl _, .bl _ => true | .str _, .str _ => true | .byt _, .byt _ => true
  | .int _, .str _ => true | .str _, .int _ => true | .bl _, .str _ => true | .str _, .bl _ => true
  | _, _ => false
def rEq : R2 := fun x y H Q => scal x y = true ∧ Q (.bl (decide (x = y))) H
def rNe : R2 := fun x y H Q => scal x y = true ∧ Q (.bl (!decide (x = y))) H

theorem dec_int {i j : Int} : decide (V.int i = V.int j) = (i == j) := by
  rw [Bool.eq_iff_iff]
  simp
theorem dec_bl {i j : Bool} : decide (V.bl i = V.bl j) = (i == j) := by
  rw [Bool.eq_iff_iff]
  simp
theorem dec_str {i j : Str} : decide (V.str i = V.str j) = (i == j) := by
  rw [Bool.eq_iff_iff]
  simp
theorem dec_byt {i j : Array UInt8} : decide (V.byt i = V.byt j) = (i.toList == j.toList) := by
  rw [Bool.eq_iff_iff]
  cases i
  cases j
  simp

section
variable {X : Cx} {a b c : Expr} {ta tb tc : TE} {pos : Pos}
theorem fin_bl {pins : List (Addr × Obj)} {σ : St} {H : Hp} {s : Shared} {Q : VK} {k k' : Bool} (I : Inv X pins σ H s) (q : Q (.bl k) H) (e : k = k') : EP X pins σ Q (.bool k') s := by
  subst e
  exact ⟨.bl k, H, I, rfl, q⟩
theorem op_eq : OpR X (compareOp .Eq) rEq := by
  intro pins s σ H x y v u Q I rx ry h
  obtain ⟨hs, q⟩ := h
  cases x with
  | non =>
    cases rx
    cases y with
    | non => cases ry; exact PySem.EqNone.eq_none_none (fin_bl I q (by simp))
    | bl j => cases ry; exact PySem.EqNone.eq_none_bool (fin_bl I q (by simp))
    | int j => obtain ⟨t', rfl⟩ := ry; exact PySem.EqNone.eq_none_int (fin_bl I q (by simp))
    | str j => obtain ⟨t', rfl⟩ := ry; exact PySem.EqNone.eq_none_str (fin_bl I q (by simp))
    | _ => exact absurd (show false = true from hs) Bool.false_ne_true
  | bl i =>
    cases rx
    cases y with
    | non => cases ry; exact PySem.EqNone.eq_bool_none (fin_bl I q (by simp))
    | bl j => cases ry; exact eq_bool (fin_bl I q dec_bl)
    | str j => obtain ⟨t', rfl⟩ := ry; exact PySem.EqMixed.eq_bool_str (fin_bl I q (by simp))
    | _ => exact absurd (show false = true from hs) Bool.false_ne_true
  | int i =>
    obtain ⟨t, rfl⟩ := rx
    cases y with
    | non => cases ry; exact PySem.EqNone.eq_int_none (fin_bl I q (by simp))
    | int j => obtain ⟨t', rfl⟩ := ry; exact eq_int (fin_bl I q dec_int)
    | str j => obtain ⟨t', rfl⟩ := ry; exact PySem.EqMixed.eq_int_str (fin_bl I q (by simp))
    | _ => exact absurd (show false = true from hs) Bool.false_ne_true
  | str i =>
    obtain ⟨t, rfl⟩ := rx
    cases y with
    | non => cases ry; exact PySem.EqNone.eq_str_none (fin_bl I q (by simp))
    | bl j => cases ry; exact PySem.EqMixed.eq_str_bool (fin_bl I q (by simp))
    | int j => obtain ⟨t', rfl⟩ := ry; exact PySem.EqMixed.eq_str_int (fin_bl I q (by simp))
    | str j => obtain ⟨t', rfl⟩ := ry; exact eq_str (fin_bl I q dec_str)
    | _ => exact absurd (show false = true from hs) Bool.false_ne_true
  | byt i =>
    obtain ⟨t, rfl⟩ := rx
    cases y with
    | byt j => obtain ⟨t', rfl⟩ := ry; exact PySem.W.eq_bytes (fin_bl I q dec_byt)
    | _ => exact absurd (show false = true from hs) Bool.false_ne_true
  | _ => cases y <;> exact absurd (show false = true from hs) Bool.false_ne_true
theorem op_ne : OpR X (compareOp .NotEq) rNe := by
  intro pins s σ H x y v u Q I rx ry h
  obtain ⟨hs, q⟩ := h
  cases x with
  | non =>
    cases rx
    cases y with
    | non => cases ry; exact PySem.EqNone.ne_none_none (fin_bl I q (by simp))
    | bl j => cases ry; exact PySem.EqNone.ne_none_bool (fin_bl I q (by simp))
    | int j => obtain ⟨t', rfl⟩ := ry; exact PySem.EqNone.ne_none_int (fin_bl I q (by simp))
    | str j => obtain ⟨t', rfl⟩ := ry; exact PySem.EqNone.ne_none_str (fin_bl I q (by simp))
    | _ => exact absurd (show false = true from hs) Bool.false_ne_true
  | bl i =>
    cases rx
    cases y with
    | non => cases ry; exact PySem.EqNone.ne_bool_none (fin_bl I q (by simp))
    | bl j => cases ry; exact ne_bool (fin_bl I q (congrArg not dec_bl))
    | str j => obtain ⟨t', rfl⟩ := ry; exact PySem.EqMixed.ne_bool_str (fin_bl I q (by simp))
    | _ => exact absurd (show false = true from hs) Bool.false_ne_true
  | int i =>
    obtain ⟨t, rfl⟩ := rx
    cases y with
    | non => cases ry; exact PySem.EqNone.ne_int_none (fin_bl I q (by simp))
    | int j => obtain ⟨t', rfl⟩ := ry; exact ne_int (fin_bl I q (congrArg not dec_int))
    | str j => obtain ⟨t', rfl⟩ := ry; exact PySem.EqMixed.ne_int_str (fin_bl I q (by simp))
    | _ => exact absurd (show false = true from hs) Bool.false_ne_true
  | str i =>
    obtain ⟨t, rfl⟩ := rx
    cases y with
    | non => cases ry; exact PySem.EqNone.ne_str_none (fin_bl I q (by simp))
    | bl j => cases ry; exact PySem.EqMixed.ne_str_bool (fin_bl I q (by simp))
    | int j => obtain ⟨t', rfl⟩ := ry; exact PySem.EqMixed.ne_str_int (fin_bl I q (by simp))
    | str j => obtain ⟨t', rfl⟩ := ry; exact ne_str (fin_bl I q (congrArg not dec_str))
    | _ => exact absurd (show false = true from hs) Bool.false_ne_true
  | byt i =>
    obtain ⟨t, rfl⟩ := rx
    cases y with
    | byt j => obtain ⟨t', rfl⟩ := ry; exact PySem.W.ne_bytes (fin_bl I q (congrArg not dec_byt))
    | _ => exact absurd (show false = true from hs) Bool.false_ne_true
  | _ => cases y <;> exact absurd (show false = true from hs) Bool.false_ne_true

theorem op_lt : OpR X (compareOp .Lt) (rI0 fun i j => .bl (decide (i < j))) := opB0 fun _ _ _ _ _ _ _ q => lt_int q
theorem op_le : OpR X (compareOp .LtE) (rI0 fun i j => .bl (decide (i ≤ j))) := opB0 fun _ _ _ _ _ _ _ q => le_int q
theorem op_gt : OpR X (compareOp .Gt) (rI0 fun i j => .bl (decide (j < i))) := opB0 fun _ _ _ _ _ _ _ q => gt_int q
theorem op_ge : OpR X (compareOp .GtE) (rI0 fun i j => .bl (decide (j ≤ i))) := opB0 fun _ _ _ _ _ _ _ q => ge_int q
theorem op_lt_str : OpR X (compareOp .Lt) (fun x y H Q => ∃ i j, x = .str i ∧ y = .str j ∧ Q (.bl (decide (i.cps.toList < j.cps.toList))) H) := by
  intro pins s σ H x y v u Q I rx ry h
  obtain ⟨i, j, rfl, rfl, q⟩ := h
  obtain ⟨t, rfl⟩ := rx
  obtain ⟨t', rfl⟩ := ry
  exact lt_str (fin_bl I q rfl)
theorem nomark (b : Expr) {op : CmpOp} (h : op ≠ .In := by decide) (h2 : op ≠ .NotIn := by decide) : behindInMarks op b = false := by
  have e1 : (op == CmpOp.In) = false := by cases op <;> first | rfl | exact absurd rfl h
  have e2 : (op == CmpOp.NotIn) = false := by cases op <;> first | rfl | exact absurd rfl h2
  cases b <;> simp [behindInMarks, e1, e2]
/-- a comparison as a value; hm: nomark b, or (for in, not in) by with_unfolding_all rfl -/
theorem pe_cmpR {op : CmpOp} {r : R2} (ho : OpR X (compareOp op) r) (ha : PE X a ta) (hb : PE X b tb) (hm : behindInMarks op b = false) : PE X (.Compare a [op] [b] pos) (tOp r ta tb) := by
  intro pins s σ H Q I h
  exact wpAny_Compare1 (binT ha hb I h fun v u s2 x y H2 I2 rx ry q => ho pins s2 σ H2 x y v u Q I2 rx ry q) hm
/-- a reading of a value as a test -/
def tTest (t : TE) : TT := fun σ H Q => t σ H fun x H' => ∃ k, x = .bl k ∧ Q k H'
theorem pt_cmpR {op : CmpOp} {r : R2} (ho : OpR X (compareOp op) r) (ha : PE X a ta) (hb : PE X b tb) (hm : behindInMarks op b = false) : PT X (.Compare a [op] [b] pos) (tTest (tOp r ta tb)) := by
  intro pins s σ H Q I h
  refine wpAny_isTrue_Compare1 (thn (ha pins s σ H _ I h) fun v s1 ⟨x, H1, I1, r1, q1⟩ => thn (hb pins s1 σ H1 _ I1 q1) fun u s2 ⟨y, H2, I2, r2, q2⟩ =>
    thn (ho pins s2 σ H2 x y v u _ I2 r1 r2 q2) fun c s3 ⟨z, H3, I3, r3, k, e, q3⟩ => ?_) hm
  subst e
  cases r3
  exact wpAny_truthy_bool ⟨H3, I3, q3⟩
/-- a op1 b op2 c -/
def tChain (r r' : R2) (ta tb tc : TE) : TE := fun σ H Q => ta σ H fun x H1 => tb σ H1 fun y H2 => r x y H2 fun z H3 => ∃ k, z = .bl k ∧
  (if k = true then tc σ H3 fun w' H4 => r' y w' H4 Q else Q (.bl false) H3)
theorem pe_chain {op op' : CmpOp} {r r' : R2} (ho : OpR X (compareOp op) r) (ho' : OpR X (compareOp op') r') (ha : PE X a ta) (hb : PE X b tb) (hc : PE X c tc)
    (hm : lastMarks [op, op'] [b, c] = false := by with_unfolding_all rfl) : PE X (.Compare a [op, op'] [b, c] pos) (tChain r r' ta tb tc) := by
  intro pins s σ H Q I h
  refine Compare_chain (thn (ha pins s σ H _ I h) fun v s1 ⟨x, H1, I1, r1, q1⟩ => chain_link (thn (hb pins s1 σ H1 _ I1 q1) fun u s2 ⟨y, H2, I2, r2, q2⟩ =>
    thn (ho pins s2 σ H2 x y v u _ I2 r1 r2 q2) fun d s3 ⟨z, H3, I3, r3, k, e, q3⟩ => ?_)) hm
  subst e
  cases r3
  refine wpAny_truthy_bool ?_
  cases k with
  | false => exact ite_ff ⟨.bl false, H3, I3, rfl, q3⟩
  | true => exact ite_tt (chain_last (thn (hc pins s3 σ H3 _ I3 q3) fun w' s4 ⟨z', H4, I4, r4, q4⟩ => ho' pins s4 σ H4 y z' u w' Q I4 r2 r4 q4))
/-! ### truth -/
theorem line63 : (sizeLine : Nat) < 2 ^ 63 := by rw [sizeLine_eq]; decide
/-! ### strs and bytes -/
theorem op_add_str : OpR X (binaryOp .Add) (fun x y H Q => ∃ i j, x = .str i ∧ y = .str j ∧ i.length + j.length ≤ sizeLine ∧ Q (.str (i ++ j)) H) := by
  intro pins s σ H x y v u Q I rx ry h
  obtain ⟨i, j, rfl, rfl, hz, q⟩ := h
  obtain ⟨t, rfl⟩ := rx
  obtain ⟨t', rfl⟩ := ry
  exact add_str (fun t' tk => ⟨.str (i ++ j), H, I.tok _, ⟨_, rfl⟩, q⟩) hz
/-! ### scalar builtins, by CallR -/
theorem vals1 {x : V} {us : List Value} (r : Vals [x] us) : ∃ u, us = [u] ∧ RelV x u := by
  cases r with
  | cons r1 r2 => cases r2; exact ⟨_, rfl, r1⟩
theorem vals2 {x y : V} {us : List Value} (r : Vals [x, y] us) : ∃ u w', us = [u, w'] ∧ RelV x u ∧ RelV y w' := by
  cases r with
  | cons r1 r2 =>
    cases r2 with
    | cons r3 r4 => cases r4; exact ⟨_, _, rfl, r1, r3⟩
theorem call_abs : CallR X (.builtin "abs") (fun xs H Q => ∃ i, xs = [.int i] ∧ Q (.int (if i < 0 then -i else i)) H) := by
  intro pins s σ H xs us Q I r h
  obtain ⟨i, rfl, q⟩ := h
  obtain ⟨u, rfl, t, rfl⟩ := vals1 r
  exact call_abs_int fun u tk => ⟨.int (if i < 0 then -i else i), H, I.tok _, ⟨_, rfl⟩, q⟩
theorem call_max2 (hc : X.calm = true) : CallR X (.builtin "max") (fun xs H Q => ∃ i j, xs = [.int i, .int j] ∧ Q (.int (if j > i then j else i)) H) := by
  intro pins s σ H xs us Q I r h
  obtain ⟨i, j, rfl, q⟩ := h
  obtain ⟨u, w', rfl, ⟨t, rfl⟩, ⟨t', rfl⟩⟩ := vals2 r
  refine max_two_ints (I.ok.hd hc) fun h' tk k => ⟨_, H, I.kept k, ?_, q⟩
  by_cases hj : j > i
  · rw [if_pos hj, if_pos hj]; exact ⟨_, rfl⟩
  · rw [if_neg hj, if_neg hj]; exact ⟨_, rfl⟩
theorem call_min2 (hc : X.calm = true) : CallR X (.builtin "min") (fun xs H Q => ∃ i j, xs = [.int i, .int j] ∧ Q (.int (if j < i then j else i)) H) := by
  intro pins s σ H xs us Q I r h
  obtain ⟨i, j, rfl, q⟩ := h
  obtain ⟨u, w', rfl, ⟨t, rfl⟩, ⟨t', rfl⟩⟩ := vals2 r
  refine min_two_ints (I.ok.hd hc) fun h' tk k => ⟨_, H, I.kept k, ?_, q⟩
  by_cases hj : j < i
  · rw [if_pos hj, if_pos hj]; exact ⟨_, rfl⟩
  · rw [if_neg hj, if_neg hj]; exact ⟨_, rfl⟩
theorem call_int1 : CallR X (.type "int") (fun xs H Q => (∃ i, xs = [.int i] ∧ Q (.int i) H) ∨ ∃ k, xs = [.bl k] ∧ Q (.int (if k then 1 else 0)) H) := by
  intro pins s σ H xs us Q I r h
  rcases h with ⟨i, rfl, q⟩ | ⟨k, rfl, q⟩
  · obtain ⟨u, rfl, t, rfl⟩ := vals1 r
    exact call_int_int ⟨.int i, H, I, ⟨_, rfl⟩, q⟩
  · obtain ⟨u, rfl, r1⟩ := vals1 r
    cases r1
    exact call_int_bool ⟨.int (if k then 1 else 0), H, I.tok _, ⟨_, rfl⟩, q⟩
end
end L2

namespace L2
open PySem PySem.Spec PyProof.Rows

/-! ### an instance, its attributes a map -/
structure ObjM (h : Heap) (x dx C : Addr) (mA : Str → Option Value) : Prop where
  obj : h.get? x = some (PySem.W.instObj C dx)
  ns : h.Ns1 dx mA
  ne : dx ≠ x

theorem lookIn_ns {h : Heap} {dx : Addr} {mA : Str → Option Value} (n : h.Ns1 dx mA) : ∃ od, h.get? dx = some od ∧ ∀ name, PySem.W.lookIn name od = some (mA name) := by
  obtain ⟨o, es, ep, ho, hd, hk, _, hm⟩ := n
  refine ⟨o, ho, fun name => ?_⟩
  have e := hm name
  unfold nsFind findBy at e
  rw [← Array.find?_toList] at e
  unfold PySem.W.lookIn
  rw [hd]
  dsimp only
  split
  · rename_i y q
    rw [q] at e
    exact congrArg some e
  · rename_i q
    rw [q] at e
    have a : es.toList.any (·.refKey) = false := by
      rw [List.any_eq_false]
      intro y hy
      obtain ⟨z, t, hkey⟩ := hk y (Array.mem_toList_iff.mp hy)
      simp [DictEntry.refKey, hkey]
    have a' : ¬ es.toList.any (·.refKey) = true := by rw [a]; exact Bool.false_ne_true
    rw [if_neg a']
    exact congrArg some e

theorem ObjM.look {h : Heap} {x dx C : Addr} {mA : Str → Option Value} (I : ObjM h x dx C mA) : ∃ od, PySem.W.InstAt h x (PySem.W.instObj C dx) C (some od) ∧ ∀ name, PySem.W.lookIn name od = some (mA name) :=
  let ⟨od, ho, hl⟩ := lookIn_ns I.ns
  ⟨od, ⟨I.obj, rfl, rfl, ho⟩, hl⟩

section
variable {prog : Program} {w : World} {A : Around} {E : Value → Shared → Prop} {s : Shared} {K : PySem.W.Frag} {x dx C f : Addr} {mA : Str → Option Value} {name : Str} {v : Value}

end

/-! ### the attributes as a list of pairs -/
section
variable {P : Program} {w : World} {H H' : Hp} {h h' : Heap} {a C dx : Addr} {fs fs' : List (Str × V)}
theorem ins_get (hok : HOk P w H h) (e : H a = some (.ins C dx fs)) : ∃ mA, ObjM h a dx C mA ∧ (∀ f, RelO (fs.lookup f) (mA f)) ∧ PySem.Within mA (fs.map (·.1)) ∧ fs.length ≤ 1000 ∧ H dx = some (.own a) := by
  obtain ⟨d, z, ne, ob, mA, n, r, q⟩ := (show ObjOk P w H h a (.ins C dx fs) from hok a _ e)
  exact ⟨mA, ⟨ob, n, ne⟩, r, q, z, d⟩
end

/-! ### what of the text a class must have -/
structure Cls (K : PySem.W.Frag) (C : Addr) : Prop where
  pg : PySem.W.plainGet K C Str.empty = true
  hd : PySem.W.hasDictIn K C = true
  po : PySem.W.plainOver K C = true
  sa : PySem.W.findIn K (.ref C) "__setattr__" = some (some (.builtin "object.__setattr__"))
theorem Cls.get {K : PySem.W.Frag} {C : Addr} (c : Cls K C) (f : Str) : PySem.W.plainGet K C f = true := c.pg
section
variable {X : Cx} {pins : List (Addr × Obj)} {σ : St} {H : Hp} {s : Shared} {a C dx : Addr} {fs : List (Str × V)} {f : Str} {v : V} {A : Around} {E : Value → Shared → Prop}

end

/-! ### readings and rules -/
section
variable {X : Cx} {o e value : Expr} {f : Str} {pos pos' tpos : Pos} {ta tv : TE}
end

/-! ### isinstance -/
section
variable {X : Cx} {pins : List (Addr × Obj)} {σ : St} {H : Hp} {s : Shared} {A : Around} {E : Value → Shared → Prop} {Q : Value → Shared → Prop} {c : Value} {b : Bool}
/-- the type of a value, as the fragment's deciders take it; for an instance its class -/
inductive TyOf (K : PySem.W.Frag) (H : Hp) : V → Value → Prop where
  | non : TyOf K H .non (.type "NoneType")
  | bl (x : Bool) : TyOf K H (.bl x) (.type "bool")
  | int (i : Int) : TyOf K H (.int i) (.type "int")
  | str (x : Str) : TyOf K H (.str x) (.type "str")
  | flt (x : UInt64) : TyOf K H (.flt x) (.type "float")
  | lst {a : Addr} {xs : List V} (e : H a = some (.lst xs)) : TyOf K H (.ref a) (.type "list")
  | frz {a : Addr} {o : Obj} {xs : List V} (e : H a = some (.frz o (.lst xs))) : TyOf K H (.ref a) (.type "list")
  | tup {a : Addr} {xs : List V} (e : H a = some (.tup xs)) : TyOf K H (.ref a) (.type "tuple")
  | dK {a : Addr} {kvs : List (Key × V)} (e : H a = some (.dK kvs)) : TyOf K H (.ref a) (.type "dict")
  | dT {a : Addr} {kvs : List (List Key × V)} (e : H a = some (.dT kvs)) : TyOf K H (.ref a) (.type "dict")
  | ins {a C dx : Addr} {fs : List (Str × V)} (e : H a = some (.ins C dx fs)) (cl : Cls K C) (ha : PySem.W.findIn K (.ref C) "__class__" = some (some (.builtin "object.__class__")))
      (hn : PySem.W.specialIn K (.builtin "object.__class__") "__get__" = some (some (.builtin "getset_descriptor.__get__"))) (htk : PySem.W.takesIn K (.builtin "object.__class__") = some true)
      (hm : PySem.W.mroIn K C (.type "object") = some true) : TyOf K H (.ref a) (.ref C)
/-- isinstance(x, c) for one class c, a built-in or an own one: kitOne's answer -/
theorem isinst_ok {x : V} {u t : Value} (I : Inv X pins σ H s) (rx : RelV x u) (ty : TyOf X.K H x t) (e : PySem.W.kitOne X.K t c = some b) (h : ∀ tk, Q (.bool b) { s with toks := tk }) :
    wpAny (model X.prog X.w) A (call (.builtin "isinstance") [u, c]) Q E s := by
  cases ty with
  | non => cases (show u = Value.none from rx); exact PySem.W.kia_one PySem.W.kitx_none I.kIn True.intro e (fun z => nomatch z) h
  | bl y => cases (show u = Value.bool y from rx); exact PySem.W.kia_one PySem.W.kitx_bool I.kIn True.intro e (fun z => nomatch z) h
  | int i => obtain ⟨t, q⟩ := (show ∃ t, u = Value.int i t from rx); cases q; exact PySem.W.kia_one PySem.W.kitx_int I.kIn True.intro e (fun z => nomatch z) h
  | str y => obtain ⟨t, q⟩ := (show ∃ t, u = Value.str y t from rx); cases q; exact PySem.W.kia_one PySem.W.kitx_str I.kIn True.intro e (fun z => nomatch z) h
  | flt y => obtain ⟨t, q⟩ := (show ∃ t, u = Value.float y t from rx); cases q; exact PySem.W.kia_one PySem.W.kitx_float I.kIn True.intro e (fun z => nomatch z) h
  | @lst a xs ea =>
    cases (show u = Value.ref a from rx)
    obtain ⟨_, _, n, _, h1⟩ := (show ObjOk X.prog X.w H s.heap a (.lst xs) from I.hok a _ ea)
    exact PySem.W.kia_one PySem.W.kitx_list I.kIn ⟨_, h1, rfl⟩ e (fun z => nomatch z) h
  | @frz a ob xs ea =>
    cases (show u = Value.ref a from rx)
    obtain ⟨_, _, _, n, _, h1⟩ := (show ObjOk X.prog X.w H s.heap a (.frz ob (.lst xs)) from I.hok a _ ea)
    exact PySem.W.kia_one PySem.W.kitx_list I.kIn ⟨_, h1, rfl⟩ e (fun z => nomatch z) h
  | @tup a xs ea =>
    cases (show u = Value.ref a from rx)
    obtain ⟨_, _, _, p⟩ := (show ObjOk X.prog X.w H s.heap a (.tup xs) from I.hok a _ ea)
    obtain ⟨o, h1, h2, _⟩ := p
    exact PySem.W.kia_one PySem.W.kitx_tuple I.kIn ⟨o, h1, h2⟩ e (fun z => nomatch z) h
  | @dK a kvs ea =>
    cases (show u = Value.ref a from rx)
    obtain ⟨_, _, vs, _, p⟩ := (show ObjOk X.prog X.w H s.heap a (.dK kvs) from I.hok a _ ea)
    obtain ⟨o, es, ep, h1, h2, _⟩ := p
    exact PySem.W.kia_one PySem.W.kitx_dict I.kIn ⟨o, h1, h2.1⟩ e (fun z => nomatch z) h
  | @dT a kvs ea =>
    cases (show u = Value.ref a from rx)
    obtain ⟨_, _, xs, _, o, es, ep, h1, h2, _⟩ := (show ObjOk X.prog X.w H s.heap a (.dT kvs) from I.hok a _ ea)
    exact PySem.W.kia_one PySem.W.kitx_dict I.kIn ⟨o, h1, h2.1⟩ e (fun z => nomatch z) h
  | @ins a C dx fs ea cl ha hn htk hm =>
    cases (show u = Value.ref a from rx)
    obtain ⟨mA, O, _⟩ := ins_get I.hok ea
    obtain ⟨od, J, _⟩ := O.look
    exact PySem.W.kia_one (PySem.W.kitx_own (cl.get _) cl.hd ha hn htk hm) I.kIn J e (fun z => nomatch z) h
end
end L2

namespace L2
open PySem PySem.Spec PyProof.Rows

/-! ### room -/
structure Room (k : Nat) (A : Around) : Prop where
  hd : A.handled = none
  dp : A.depth + 3 * k + 5 < recursionLimit
  un : A.units + 16 * k + 200 < cLine
theorem Room.mono {j k : Nat} {A : Around} (r : Room k A) (h : j ≤ k) : Room j A := ⟨r.hd, by have := r.dp; omega, by have := r.un; omega⟩
theorem Room.deeper {k : Nat} {A : Around} (r : Room (k + 1) A) (env : Env) : Room k (A.deeper env) :=
  ⟨r.hd, by have := r.dp; show A.depth + 1 + 3 * k + 5 < _; omega, by have := r.un; show A.units + 3 + 16 * k + 200 < _; omega⟩
theorem Room.in1 {k : Nat} {A : Around} (r : Room (k + 1) A) : Room k A.in1 :=
  ⟨r.hd, by have := r.dp; show A.depth + 3 * k + 5 < _; omega, by have := r.un; show A.units + 1 + 16 * k + 200 < _; omega⟩
theorem Room.depth {k : Nat} {A : Around} (r : Room k A) : A.depth < recursionLimit := by have := r.dp; omega
theorem Room.units0 {k : Nat} {A : Around} (r : Room k A) : A.units < cLine := by have := r.un; omega

/-! ### argument lists and displays -/
def tNil : TA := fun _ H Q => Q [] H
def tCons (ta : TE) (tr : TA) : TA := fun σ H Q => ta σ H fun x H1 => tr σ H1 fun xs H2 => Q (x :: xs) H2
section
variable {X : Cx} {e : Expr} {es : List Expr} {te : TE} {t : TA} {pos : Pos}
theorem pa_nil : PA X [] tNil := fun _ _ _ _ H Q I h => Calls.spliced_nil ⟨[], H, I, .nil, h⟩
theorem pa_cons (ha : PE X e te) (hr : PA X es t) (hs : starEach (e :: es) X.env = (false, eval e X.env) :: starEach es X.env := by rfl) : PA X (e :: es) (tCons te t) := by
  intro pos pins s σ H Q I h
  rw [hs]
  show wpAny _ _ (spliced ((false, eval e X.env) :: backTo pos (starEach es X.env))) _ _ s
  refine Calls.spliced_cons (thn (ha pins s σ H _ I h) fun u s1 ⟨x, H1, I1, r1, q1⟩ => ?_)
  exact thn (hr pos pins s1 σ H1 _ I1 q1) fun us s2 ⟨xs, H2, I2, r2, q2⟩ => ⟨x :: xs, H2, I2, .cons r1 r2, q2⟩

/-- a tuple, a list of written items -/
def tTup (t : TA) : TE := fun σ H Q => t σ H fun xs H1 => xs.length ≤ sizeLine ∧ ∀ p, H1 p = none → Q (.ref p) (upd H1 p (.tup xs))
def tLst (t : TA) : TE := fun σ H Q => t σ H fun xs H1 => xs.length ≤ sizeLine ∧ ∀ p, H1 p = none → Q (.ref p) (upd H1 p (.lst xs))
theorem pe_tup {x1} (h : PA X es t) : PE X (.Tuple es x1 pos) (tTup t) := by
  intro pins s σ H Q I hq
  refine wpAny_Tuple_spliced (thn (h pos pins s σ H _ I hq) fun us s1 ⟨xs, H1, I1, r, z, q⟩ => ⟨by rw [← r.length]; exact z, ?_⟩)
  have hf : H1 s1.heap.objs.size = none := I1.hok.fresh (Nat.le_refl _)
  refine ⟨.ref s1.heap.objs.size, upd H1 s1.heap.objs.size (.tup xs), I1.laid (t' := s1.toks) (fun b u e => Heap.get?_push_of_some _ e) (Nat.le_refl _) ?_, rfl, q _ hf⟩
  exact ⟨z, us, r, ⟨_, Heap.get?_push_size _ rfl, rfl, _, rfl⟩⟩
theorem pe_lst (h : PA X es t) : PE X (.List es pos) (tLst t) := by
  intro pins s σ H Q I hq
  refine wpAny_List_spliced (thn (h pos pins s σ H _ I hq) fun us s1 ⟨xs, H1, I1, r, z, q⟩ => ⟨by rw [← r.length]; exact z, ?_⟩)
  have hf : H1 s1.heap.objs.size = none := I1.hok.fresh (Nat.le_refl _)
  refine ⟨.ref s1.heap.objs.size, upd H1 s1.heap.objs.size (.lst xs), I1.laid (t' := s1.toks) (fun b u e => Heap.get?_push_of_some _ e) (Nat.le_refl _) ?_, rfl, q _ hf⟩
  exact ⟨z, us, 0, r, Heap.get?_push_size _ rfl⟩
end

/-! ### what a def promises -/
/-- a def's promise: the bound arguments in the parameters' order, the heap, the wanted end, the wanted exception -/
abbrev Sp := List V → Hp → VK → XK → Prop
/-- how an exception lies behind a call (file 08 gives it): the callers' frames, abstract heap and state ahead of the call, the wish, the exception, the state -/
abbrev CXT := List Env → Hp → Shared → XK → Value → Shared → Prop

/-- the state at a call -/
structure Env0 (P : Program) (w : World) (K : PySem.W.Frag) (mg : Str → Option Value) (base : Heap) (A : Around) (outer : List Env) (s : Shared) (H : Hp) : Prop where
  frames : A.frames = some outer
  mod : Mod K mg base
  bs : ∀ b o, base.get? b = some o → s.heap.get? b = some o ∧ H b = none
  bsz : base.objs.size ≤ s.heap.objs.size
  funs : s.heap.FunFrames base outer
  frf : ∀ b ∈ frs outer, H b = none
  hok : HOk P w H s.heap
  bare : AllBare s.gens
/-- a call's end -/
def CE (outer : List Env) (P : Program) (w : World) (H : Hp) (s : Shared) (Q : VK) (u : Value) (s' : Shared) : Prop :=
  ∃ v H', s'.os = s.os ∧ AllBare s'.gens ∧ Un (frs outer) [] H H' s.heap s'.heap ∧ HOk P w H' s'.heap ∧ RelV v u ∧ Q v H'
def CR (CX : CXT) (outer : List Env) (P : Program) (w : World) (H : Hp) (s : Shared) (Q : VK) (E : XK) (r : Result) (s' : Shared) : Prop :=
  match r with
  | .ok (.ret u) => CE outer P w H s Q u s'
  | .ok _ => False
  | .error e => CX outer H s E e s'
structure FnOk (P : Program) (w : World) (K : PySem.W.Frag) (mg : Str → Option Value) (base : Heap) (CX : CXT) (k : Nat) (f : Addr) (fd : FuncData) (ps : List Str) (sp : Sp) : Prop where
  len : ∀ vs H Q E, sp vs H Q E → vs.length = ps.length
  run : ∀ (A : Around) (outer : List Env) (s : Shared) (H : Hp) (args : Args) (us : List Value) (vs : List V) (Q : VK) (E : XK), Room k A → Env0 P w K mg base A outer s H → BindsTo s fd args (ps.zip us) → Vals vs us → sp vs H Q E →
    codeAny (model P w) A (.call (.ref f) args) (CR CX outer P w H s Q E) s
/-- a weaker promise -/
theorem FnOk.imp {P : Program} {w : World} {K : PySem.W.Frag} {mg : Str → Option Value} {base : Heap} {CX : CXT} {k : Nat} {f : Addr} {fd : FuncData} {ps : List Str} {sp sp' : Sp} (F : FnOk P w K mg base CX k f fd ps sp)
    (h : ∀ vs H Q E, sp' vs H Q E → sp vs H Q E) : FnOk P w K mg base CX k f fd ps sp' :=
  ⟨fun vs H Q E q => F.len vs H Q E (h _ _ _ _ q), fun A outer s H args us vs Q E hr he hb hv hs => F.run A outer s H args us vs Q E hr he hb hv (h _ _ _ _ hs)⟩

section
variable {X : Cx} {pins : List (Addr × Obj)} {σ : St} {H : Hp} {s s' : Shared}
/-- from a body: what a callee wants -/
theorem Inv.env0 (I : Inv X pins σ H s) : Env0 X.prog X.w X.K X.mg X.base X.A X.stack s H :=
  ⟨I.ok.frames, I.ok.mod, I.bs, Nat.le_trans I.ok.bsz I.sz, I.stack, I.stkFree, I.hok, I.bare⟩
/-- behind a call -/
theorem Inv.after {Q : VK} {u : Value} (I : Inv X pins σ H s) (h : CE X.stack X.prog X.w H s Q u s') : EP X pins σ Q u s' := by
  obtain ⟨v, H', os, bare, un, hok, r, q⟩ := h
  obtain ⟨hh, g, d, t, os'⟩ := s'
  obtain rfl : os' = s.os := os
  exact ⟨v, H', I.call (h' := hh) (g' := g) (d' := d) (t' := t) (ch := []) un hok bare (fun b z => absurd z (by simp)), r, q⟩
end

/-! ### calls -/
/-- f(..): the written arguments, then the defaults dvs; E: what is wanted of an exception -/
def tCall (sp : Sp) (dvs : List V) (E : XK) (t : TA) : TE := fun σ H Q => t σ H fun vs H1 => sp (vs ++ dvs) H1 Q E
/-- how the parameters are bound: us the positional arguments, kw the keywords' values by name, ds the defaults that fill up -/
def Binds (K : PySem.W.Frag) (fd : FuncData) (ps : List Str) (ds : List Value) : Prop :=
  ∀ (s : Shared) (us : List Value), K.In s.heap → (us ++ ds).length = ps.length → BindsTo s fd ⟨us, []⟩ (ps.zip (us ++ ds))
/-- every parameter is given -/
theorem Binds.all {K : PySem.W.Frag} {fd : FuncData} {ps : List Str} (h : ∀ us : List Value, us.length = ps.length → bindArgs fd ⟨us, []⟩ = pure (ps.zip us)) : Binds K fd ps [] := fun s us _ hl => by
  rw [List.append_nil] at hl ⊢
  exact .of_eq (h us hl)

/-- an exception of a callee reaches what this body wants of exceptions -/
def Passes (CX : CXT) (X : Cx) (E : XK) : Prop := ∀ (pins : List (Addr × Obj)) (σ : St) (H : Hp) (s : Shared) (e : Value) (s' : Shared), Inv X pins σ H s → CX X.stack H s E e s' → X.xe e s'

section
variable {X : Cx} {CX : CXT} {k : Nat} {f C : Addr} {fd : FuncData} {ps : List Str} {sp : Sp} {dvs : List V} {ds : List Value} {E : XK} {x m : Str} {p pos apos : Pos} {e o : Expr} {es : List Expr} {ta : TE} {t : TA}

/-- the callee runs -/
theorem run_fn {pins : List (Addr × Obj)} {σ : St} {H : Hp} {s : Shared} {Q : VK} {us : List Value} {vs : List V} (F : FnOk X.prog X.w X.K X.mg X.base CX k f fd ps sp) (hr : Room k X.A) (hb : Binds X.K fd ps ds) (hd : Vals dvs ds) (hx : Passes CX X E)
    (I : Inv X pins σ H s) (r : Vals vs us) (h : sp (vs ++ dvs) H Q E) : wpAny (model X.prog X.w) X.A (call (.ref f) us) (EP X pins σ Q) X.xe s := by
  have r2 : Vals (vs ++ dvs) (us ++ ds) := r.append hd
  have hl : (us ++ ds).length = ps.length := by rw [← r2.length]; exact F.len _ _ _ _ h
  refine wpAny_call (codeAny_mono (F.run X.A X.stack s H ⟨us, []⟩ (us ++ ds) (vs ++ dvs) Q E hr I.env0 (hb s us I.kIn hl) r2 h) fun r s' hq => ?_)
  cases r with
  | error e => exact hx pins σ H s e s' I hq
  | ok fl =>
    cases fl with
    | ret u => exact I.after hq
    | next => exact False.elim hq
    | brk => exact False.elim hq
    | cont => exact False.elim hq

theorem pe_call (F : FnOk X.prog X.w X.K X.mg X.base CX k f fd ps sp) (hr : Room k X.A) (hg : Gl X x) (hm : X.mg x = some (.ref f)) (hk : PySem.W.keepIn X.K (.ref f) = true) (hb : Binds X.K fd ps ds) (hd : Vals dvs ds) (hx : Passes CX X E)
    (ha : PA X (e :: es) t) (hdb : (x == ("__debug__" : Str)) = false := by decide) (he : starEach (e :: es) X.env = (false, eval e X.env) :: starEach es X.env := by rfl) (hpl : (backTo pos (starEach es X.env)).any (·.1) = false := by rfl) :
    PE X (.Call (.Name x p) (e :: es) [] pos) (tCall sp dvs E t) := by
  intro pins s σ H Q I h
  refine wpAny_Call_Name_kw (ld_glob I hg hm ?_ hdb)
  refine PySem.W.callWith_K (h₀ := X.base) I.ok.mod.kin hk (thn (ha pos pins s σ H _ I h) fun us s1 ⟨vs, H1, I1, r, q⟩ => ⟨I1.kIn, ?_⟩) he hpl
  exact run_fn F hr hb hd hx I1 r q
end

/-! ### keywords -/
/-- the values of the keywords, from the left -/
def PK (X : Cx) (kws : List Keyword) (t : TA) : Prop :=
  ∀ (pos : Pos) (pins : List (Addr × Obj)) (s : Shared) (σ : St) (H : Hp) (Q : List V → Hp → Prop), Inv X pins σ H s → t σ H Q → wpAny (model X.prog X.w) X.A (evalAll ((backToKw pos (keywordEach kws X.env)).map (·.2))) (AP X pins σ Q) X.xe s
section
variable {X : Cx} {CX : CXT} {k : Nat} {f C : Addr} {fd : FuncData} {ps ks : List Str} {sp : Sp} {E : XK} {x m : Str} {p pos apos kpos : Pos} {e o : Expr} {es : List Expr} {kws : List Keyword} {te ta : TE} {t tk : TA} {nm : Option Str}
theorem pk_nil : PK X [] tNil := fun _ _ _ _ H Q I h => wpAny_evalAll_nil ⟨[], H, I, .nil, h⟩
theorem pk_cons (ha : PE X e te) (hr : PK X kws t) : PK X (⟨nm, e, kpos⟩ :: kws) (tCons te t) := by
  intro pos pins s σ H Q I h
  show wpAny _ _ (evalAll ((do let v ← eval e X.env; standAt pos; pure v) :: (backToKw pos (keywordEach kws X.env)).map (·.2))) _ _ s
  refine wpAny_evalAll_cons (wpAny_bind (thn (ha pins s σ H _ I h) fun u s1 ⟨x, H1, I1, r1, q1⟩ => wpAny_bind (wpAny_standAt (wpAny_pure ?_))))
  exact thn (hr pos pins s1 σ H1 _ I1 q1) fun us s2 ⟨xs, H2, I2, r2, q2⟩ => ⟨x :: xs, H2, I2, .cons r1 r2, q2⟩

variable {g : List Value → List Value → List Value} {gV : List V → List V → List V}
end

/-! ### a def's body keeps its promise -/
/-- names: the parameters first -/
structure FnScope (N P : List Str) (sc : Scope) : Prop where
  kind : sc.kind = .function
  co : sc.isCoroutine = false
  gen : sc.isGenerator = false
  nd : N.Nodup
  pre : N.take P.length = P
  par : ∀ x ∈ P, sc.names.lookup x = some .local ∨ sc.names.lookup x = some .cell
  nofree : ∀ y ∈ sc.names, y.2 ≠ .free

theorem bindL_out {kindOf : Str → Option NameKind} {x : Str} : ∀ {binds : List (Str × Value)} {m : Str → Option Value}, (∀ v, (x, v) ∉ binds) → bindL kindOf binds m x = m x
  | [], _, _ => rfl
  | (n, v) :: r, m, h => by
    unfold bindL
    rw [bindL_out fun w hw => h w (List.mem_cons_of_mem _ hw)]
    split
    · have : x ≠ n := by rintro rfl; exact h v List.mem_cons_self
      simp [this]
    · rfl
theorem bindC_out {kindOf : Str → Option NameKind} {x : Str} : ∀ {binds : List (Str × Value)} {m : Str → Option Value}, (∀ v, (x, v) ∉ binds) → bindC kindOf binds m x = m x
  | [], _, _ => rfl
  | (n, v) :: r, m, h => by
    unfold bindC
    rw [bindC_out fun w hw => h w (List.mem_cons_of_mem _ hw)]
    split
    · rfl
    · have : x ≠ n := by rintro rfl; exact h v List.mem_cons_self
      simp [this]
theorem bindL_get {kindOf : Str → Option NameKind} {x : Str} {v : Value} : ∀ {P : List Str} {vs : List Value} {i : Nat} {m : Str → Option Value}, P.Nodup → P[i]? = some x → vs[i]? = some v → kindOf x = some .local →
    bindL kindOf (P.zip vs) m x = some v
  | [], _, _, _, _, h, _, _ => by simp at h
  | _ :: _, [], _, _, _, _, h, _ => by simp at h
  | p :: P, w :: vs, 0, m, nd, h1, h2, hk => by
    simp at h1 h2; subst h1; subst h2
    show bindL kindOf ((p, w) :: P.zip vs) m p = _
    unfold bindL
    rw [bindL_out fun v hv => (List.nodup_cons.mp nd).1 (List.of_mem_zip hv).1, if_pos hk]
    simp
  | p :: P, w :: vs, i + 1, m, nd, h1, h2, hk => by
    show bindL kindOf ((p, w) :: P.zip vs) m x = _
    unfold bindL
    exact bindL_get (i := i) (List.nodup_cons.mp nd).2 (by simpa using h1) (by simpa using h2) hk
theorem bindC_get {kindOf : Str → Option NameKind} {x : Str} {v : Value} : ∀ {P : List Str} {vs : List Value} {i : Nat} {m : Str → Option Value}, P.Nodup → P[i]? = some x → vs[i]? = some v → kindOf x ≠ some .local →
    bindC kindOf (P.zip vs) m x = some v
  | [], _, _, _, _, h, _, _ => by simp at h
  | _ :: _, [], _, _, _, _, h, _ => by simp at h
  | p :: P, w :: vs, 0, m, nd, h1, h2, hk => by
    simp at h1 h2; subst h1; subst h2
    show bindC kindOf ((p, w) :: P.zip vs) m p = _
    unfold bindC
    rw [bindC_out fun v hv => (List.nodup_cons.mp nd).1 (List.of_mem_zip hv).1, if_neg hk]
    simp
  | p :: P, w :: vs, i + 1, m, nd, h1, h2, hk => by
    show bindC kindOf ((p, w) :: P.zip vs) m x = _
    unfold bindC
    exact bindC_get (i := i) (List.nodup_cons.mp nd).2 (by simpa using h1) (by simpa using h2) hk

/-- the names' values at the entry -/
def start (N : List Str) (vs : List V) : St := vs.map some ++ List.replicate (N.length - vs.length) none

/-- the context of a def's body, at its entry; an exception leaves the frame, then lies as CX says -/
def cxOf (CX : CXT) (P : Program) (w : World) (K : PySem.W.Frag) (mg : Str → Option Value) (base : Heap) (N : List Str) (qual : Str) (scope : Scope) (f : Addr) (cd : Value) (A : Around) (outer : List Env) (s : Shared) (H : Hp) (E : XK) : Cx where
  prog := P
  w := w
  K := K
  mg := mg
  base := base
  A := A.deeper (envOfC qual scope s.heap.objs.size f cd)
  N := N
  s₀ := s
  H₀ := H
  env := envOfC qual scope s.heap.objs.size f cd
  outer := outer
  stack := envOfC qual scope s.heap.objs.size f cd :: outer
  ex := []
  calm := true
  fn := fun _ => true
  pn := []
  xe := fun e s' => wpAny (model P w) (A.deeper (envOfC qual scope s.heap.objs.size f cd)) (leaving (envOfC qual scope s.heap.objs.size f cd) e) (fun _ s'' => CX outer H s E e s'') (fun e' s'' => CX outer H s E e' s'') s'

theorem cell_has {sc : Scope} {n : Nat} {x : Str} (h : sc.names.lookup x = some .cell) : ∃ c, (cellsFrom n sc.names []).lookup x = some c := by
  have q := PySem.W.cellsFrom_some sc.names n [] (.inl h)
  exact Option.isSome_iff_exists.mp q

theorem inv_start {CX : CXT} {P : Program} {w : World} {K : PySem.W.Frag} {mg : Str → Option Value} {base : Heap} {N ps : List Str} {qual : Str} {scope : Scope} {f : Addr} {cd : Value} {A : Around} {outer : List Env} {s s1 : Shared} {H : Hp} {E : XK} {us : List Value} {vs : List V}
    (S : FnScope N ps scope) (hd : A.handled = none) (e0 : Env0 P w K mg base A outer s H) (hl : vs.length = ps.length) (r : Vals vs us)
    (x : InCallC s s.heap.objs.size (bindL (envOfC qual scope s.heap.objs.size f cd).kindOf (ps.zip us) fun _ => none) (cellsFrom (s.heap.objs.size + 1) scope.names []) (bindC (envOfC qual scope s.heap.objs.size f cd).kindOf (ps.zip us) fun _ => none) s1) :
    Inv (cxOf CX P w K mg base N qual scope f cd A outer s H E) [] (start N vs) H s1 := by
  have hpl : ps.length ≤ N.length := by have := congrArg List.length S.pre; rw [List.length_take] at this; omega
  obtain ⟨h1, tk, rfl, hk⟩ := x.done
  have noA : ∀ b : Addr, b ∉ (cxOf CX P w K mg base N qual scope f cd A outer s H E).ex := fun b z => absurd (show b ∈ ([] : List Addr) from z) (by simp)
  refine ⟨⟨e0.mod, S.kind, rfl, rfl, Nat.le_refl _, fun y z c h1 h2 => ?_, fun y hy => ?_, fun y c _ h => ?_, fun _ => hd, Around.frames_deeper e0.frames, .inr ⟨rfl, rfl⟩, fun b z => absurd z (noA b), e0.bs, e0.bsz, fun b _ _ => noA b, fun b z => absurd z (noA b), e0.funs, e0.frf⟩,
    rfl, e0.bare, Un.kept hk, ⟨_, x.toInCall.ns, fun i y v h1 h2 h3 => ?_⟩, fun y c h => ⟨_, x.cell y c h⟩, e0.hok.fresh (Nat.le_refl _), fun y c h => ?_, fun p hp => absurd (show p ∈ ([] : List (Addr × Obj)) from hp) (by simp), e0.hok.kept hk, ?_⟩
  · exact name_of_addr x.apart (PySem.mem_of_lookup h1) (PySem.mem_of_lookup h2)
  · have hy : scope.names.lookup y = some .cell ∨ scope.names.lookup y = some .free := hy
    rcases hy with hy | hy
    · exact cell_has hy
    · exact absurd rfl (S.nofree _ (PySem.mem_of_lookup hy))
  · exact Nat.le_of_lt (x.above y c (PySem.mem_of_lookup h))
  · have hi : i < vs.length := by
      unfold start at h2
      by_cases hi : i < vs.length
      · exact hi
      · rw [List.getElem?_append_right (by simpa using hi)] at h2
        rw [List.getElem?_replicate] at h2
        split at h2 <;> cases h2
    have ha : vs[i]? = some v := by
      unfold start at h2
      rw [List.getElem?_append_left (by simpa using hi), List.getElem?_map] at h2
      cases e : vs[i]? with
      | none => rw [e] at h2; cases h2
      | some a => rw [e] at h2; cases h2; rfl
    obtain ⟨u, hu, rv⟩ := r.get ha
    have hp : ps[i]? = some y := by
      rw [← S.pre, List.getElem?_take_of_lt (by omega)]; exact h1
    have ndP : ps.Nodup := by rw [← S.pre]; exact S.nd.sublist (List.take_sublist _ _)
    refine ⟨u, rv, ?_⟩
    rcases S.par y (List.mem_of_getElem? hp) with k | k
    · exact .inl ⟨k, bindL_get ndP hp hu k⟩
    · obtain ⟨c, e⟩ := cell_has (n := s.heap.objs.size + 1) k
      refine .inr ⟨.inl k, c, e, ?_⟩
      have q := x.cell y c e
      rw [bindC_get ndP hp hu (by show scope.names.lookup y ≠ _; rw [k]; decide)] at q
      exact q
  · exact e0.hok.fresh (Nat.le_of_lt (x.above y c (PySem.mem_of_lookup h)))
  · unfold start
    show _ = N.length
    rw [List.length_append, List.length_map, List.length_replicate]
    omega

/-- THE RULE: a def (or a method) of the text, by its body. The body's reading t is chosen for each entry; it is run at the parameters' values -/
theorem fn_of {CX : CXT} {P : Program} {w : World} {K : PySem.W.Frag} {mg : Str → Option Value} {base : Heap} {k : Nat} {f : Addr} {name qual : Str} {params : Arguments} {body : List Stmt} {scope : Scope} {dV kV doc pm cdv ct oc : Value} {an od : Option Addr}
    {osl : Array (Option Value)} {N ps : List Str} {sp : Sp} (lk : K.lookup f = some ⟨oc, od, .func (PySem.W.fnOf name qual params body scope dV kV doc pm an cdv ct), osl⟩) (hcd : PySem.W.codeIn K cdv qual = true) (S : FnScope N ps scope)
    (len : ∀ vs H Q E, sp vs H Q E → vs.length = ps.length)
    (hbody : ∀ (A : Around) (outer : List Env) (s : Shared) (H : Hp) (vs : List V) (Q : VK) (E : XK), Room k (A.deeper (envOfC qual scope s.heap.objs.size f cdv)) → sp vs H Q E →
      ∃ t, PSs (cxOf CX P w K mg base N qual scope f cdv A outer s H E) body t ∧ t { nx := fun _ H' => Q .non H', rt := Q } (start N vs) H) :
    FnOk P w K mg base CX (k + 1) f (PySem.W.fnOf name qual params body scope dV kV doc pm an cdv ct) ps sp := by
  refine ⟨len, fun A outer s H args us vs Q E hr e0 hb r hsp => ?_⟩
  have hl := len _ _ _ _ hsp
  have KX : K.In s.heap := e0.mod.kin.keeps fun b o e => (e0.bs b o e).1
  have lim : s.heap.NoLimit := e0.mod.nolimit.keeps fun b o e => (e0.bs b o e).1
  have hkind : ∀ y ∈ ps.zip us, scope.names.lookup y.1 = some .local ∨ (scope.names.lookup y.1 = some .cell ∧ ((cellsFrom (s.heap.objs.size + 1) scope.names []).lookup y.1).isSome = true) := fun ⟨n, v⟩ hy => by
    rcases S.par n (List.of_mem_zip hy).1 with q | q
    · exact .inl q
    · exact .inr ⟨q, PySem.W.cellsFrom_some _ _ _ (.inl q)⟩
  refine codeAny_call_function hr.depth (KX _ _ lk) rfl S.co S.gen rfl (PySem.W.codeRec_of KX hcd) (hb _ _ _ _ ?_)
  refine wpAny_newFunctionEnv_cells S.kind hkind fun env he s1 x => ?_
  subst he
  refine ⟨lim.keeps x.toInCall.keep, codeAny_func ?_⟩
  obtain ⟨t, ht, hq⟩ := hbody A outer s H vs Q E (hr.deeper _) hsp
  have I : Inv (cxOf CX P w K mg base N qual scope f cdv A outer s H E) [] (start N vs) H s1 := inv_start S hr.hd e0 hl r x
  refine wpAny_mono (ht [] s1 (start N vs) H _ I hq) (fun fl s' hs => ?_) fun e s' hs => hs
  have fin : ∀ {σ' : St} {H' : Hp} {v : V} {u : Value}, Inv (cxOf CX P w K mg base N qual scope f cdv A outer s H E) [] σ' H' s' → RelV v u → Q v H' → CE outer P w H s Q u s' :=
    fun {σ' H' v u} J rv q => ⟨v, H', J.os, J.bare, J.base, J.hok, rv, q⟩
  cases fl with
  | ret u =>
    obtain ⟨v, σ', H', J, rv, q⟩ := hs
    exact fin J rv q
  | next =>
    obtain ⟨σ', H', J, q⟩ := hs
    exact fin (v := V.non) (u := Value.none) J rfl q
  | brk =>
    obtain ⟨_, _, _, q⟩ := hs
    exact False.elim q
  | cont =>
    obtain ⟨_, _, _, q⟩ := hs
    exact False.elim q
end L2

namespace L2
open PySem PySem.Spec PyProof.Rows
section
variable {X : Cx} {x : Str} {p pos : Pos} {e : Expr} {es : List Expr} {t : TA} {id T : String} {r : List V → Hp → VK → Prop}

def tCB (r : List V → Hp → VK → Prop) (t : TA) : TE := fun σ H Q => t σ H fun vs H1 => r vs H1 Q
/-- f(e, ..), f a built-in function -/
theorem pe_callB (hc : CallR X (.builtin id) r) (hg : Gl X x) (hm : X.mg x = none) (hv : bootBuiltins x = some (.builtin id)) (ha : PA X (e :: es) t) (hn : x ≠ "__name__" := by decide) (hdb : (x == ("__debug__" : Str)) = false := by decide)
    (he : starEach (e :: es) X.env = (false, eval e X.env) :: starEach es X.env := by rfl) (hpl : (backTo pos (starEach es X.env)).any (·.1) = false := by rfl) : PE X (.Call (.Name x p) (e :: es) [] pos) (tCB r t) := by
  intro pins s σ H Q I h
  refine wpAny_Call_Name_kw (ld_blt I hg hm hv ?_ hn hdb)
  exact PyProof.Rows.callWith_builtin1 (thn (ha pos pins s σ H _ I h) fun us s1 ⟨vs, H1, I1, r1, q1⟩ => hc pins s1 σ H1 vs us Q I1 r1 q1) he hpl
/-- T(e, ..), T a built-in type -/
theorem pe_callTy (hc : CallR X (.type T) r) (hg : Gl X x) (hm : X.mg x = none) (hv : bootBuiltins x = some (.type T)) (ha : PA X (e :: es) t) (hn : x ≠ "__name__" := by decide) (hdb : (x == ("__debug__" : Str)) = false := by decide)
    (he : starEach (e :: es) X.env = (false, eval e X.env) :: starEach es X.env := by rfl) (hpl : (backTo pos (starEach es X.env)).any (·.1) = false := by rfl) : PE X (.Call (.Name x p) (e :: es) [] pos) (tCB r t) := by
  intro pins s σ H Q I h
  refine wpAny_Call_Name_kw (ld_blt I hg hm hv ?_ hn hdb)
  exact PyProof.Rows.callWith_type1 (thn (ha pos pins s σ H _ I h) fun us s1 ⟨vs, H1, I1, r1, q1⟩ => hc pins s1 σ H1 vs us Q I1 r1 q1) he hpl
end
end L2

namespace HT
open PySem PyProof.Rows

theorem rcLt_int (A : Around) (s : Shared) (a : Int) (t : Tok) (c : Int) (u : Tok) (prog : Program) (w : World) (E : Value → Shared → Prop) (Q : Value → Shared → Prop) (h : Q (.bool (decide (a < c))) s) :
    wpAny (model prog w) A (richCompare .Lt (.int a t) (.int c u)) Q E s :=
  (PyProof.Rows.lt_int h : wpAny (model prog w) A (compareOp .Lt (.int a t) (.int c u)) Q E s)

section
open PySem.SeqAt
open PySem.AutoSeq1 (wpAny_loadPart')
open PySem.MeetsSeq PySem.MeetsSeq2 PySem.MeetsSeq3

end

section
variable {prog : Program} {w : World} {A : Around} {E : Value → Shared → Prop} {s : Shared}

/-! ### t[a:b], not the whole -/
/-- a slice's bound as a place among n (d where it is left out) -/
def sIx (n d : Nat) : Option Int → Nat
  | none => d
  | some v => if v < 0 then (v + (n : Int)).toNat else min v.toNat n
end
end HT

namespace L2
open PySem PySem.Spec PyProof.Rows

/-! ### the parts of a slice -/
abbrev TO := St → Hp → (Option Int → Hp → Prop) → Prop
/-- a slice's part (left out, or an int) -/
def PO (X : Cx) (e : Option Expr) (t : TO) : Prop :=
  ∀ (pins : List (Addr × Obj)) (s : Shared) (σ : St) (H : Hp) (Q : Option Int → Hp → Prop), Inv X pins σ H s → t σ H Q →
    wpAny (model X.prog X.w) X.A (evalPart e X.env) (fun u s' => ∃ o H', Inv X pins σ H' s' ∧ IsPart u o ∧ Q o H') X.xe s
def tNoPart : TO := fun _ H Q => Q none H
def tPart (t : TE) : TO := fun σ H Q => t σ H fun x H1 => ∃ i, x = .int i ∧ Q (some i) H1

section
variable {X : Cx} {e : Expr} {te : TE} {lo hi : Option Expr} {tl th : TO} {pos p2 : Pos}

theorem po_none : PO X none tNoPart := by
  intro pins s σ H Q I h
  rw [evalPart_none]
  exact wpAny_pure ⟨none, H, I, .none, h⟩
theorem po_some (h : PE X e te) : PO X (some e) (tPart te) := by
  intro pins s σ H Q I hw
  rw [evalPart_some]
  refine thn (h pins s σ H _ I hw) fun u s1 ⟨x, H1, I1, r1, q1⟩ => ?_
  obtain ⟨i, rfl, q⟩ := q1
  obtain ⟨t, rfl⟩ := r1
  exact ⟨some i, H1, I1, .int i t, q⟩

/-- what a slice of a value is, by values: the slice object stands at sl -/
def SlR (X : Cx) (r : V → Option Int → Option Int → Hp → VK → Prop) : Prop :=
  ∀ (pins : List (Addr × Obj)) (s : Shared) (σ : St) (H : Hp) (x : V) (v vl vu : Value) (lo hi : Option Int) (sl : Addr) (Q : VK), Inv X pins σ H s → RelV x v → s.heap.IsSliceOf sl vl vu .none → IsPart vl lo → IsPart vu hi → r x lo hi H Q →
    ∃ T id, typeLookup (.type T) "__getitem__" = pure (some (.builtin id)) ∧ s.TypeIs v T ∧ wpAny (model X.prog X.w) X.A (getItem v (.ref sl)) (EP X pins σ Q) X.xe s
def tSl (r : V → Option Int → Option Int → Hp → VK → Prop) (te : TE) (tl th : TO) : TE := fun σ H Q => te σ H fun x H1 => tl σ H1 fun l H2 => th σ H2 fun u H3 => r x l u H3 Q
/-- a[lo:hi], any a -/
theorem pe_slice {r : V → Option Int → Option Int → Hp → VK → Prop} (hr : SlR X r) (he : PE X e te) (hl : PO X lo tl) (hu : PO X hi th) : PE X (.Subscript e (.Slice lo hi none p2) pos) (tSl r te tl th) := by
  intro pins s σ H Q I h
  refine Subscript_ (thn (he pins s σ H _ I h) fun v s1 ⟨x, H1, I1, r1, q1⟩ => ?_)
  refine wpAny_Slice (thn (hl pins s1 σ H1 _ I1 q1) fun vl s2 ⟨l, H2, I2, pl, q2⟩ => thn (hu pins s2 σ H2 _ I2 q2) fun vu s3 ⟨u, H3, I3, pu, q3⟩ => ?_)
  rw [evalPart_none]
  refine wpAny_pure ?_
  have I4 : Inv X pins σ H3 { s3 with heap := s3.heap.push { cls := .type "slice", data := .fields #[vl, vu, .none] } } := I3.kept (t' := s3.toks) fun b ob q => Heap.get?_push_of_some _ q
  obtain ⟨T, id, hT, ht, hg⟩ := hr pins { s3 with heap := s3.heap.push { cls := .type "slice", data := .fields #[vl, vu, .none] } } σ H3 x v vl vu l u s3.heap.objs.size Q I4 r1 (Heap.IsSliceOf.new ..) pl pu q3
  show wpAny (model X.prog X.w) X.A (subscriptTail e (.Slice lo hi none p2) v (.ref s3.heap.objs.size)) (EP X pins σ Q) X.xe { s3 with heap := s3.heap.push { cls := .type "slice", data := .fields #[vl, vu, .none] } }
  exact tail_any (ops := [.ref s3.heap.objs.size, v]) ht hT hg (by with_unfolding_all rfl)

/-- the items of xs[lo:hi] -/
def cutV (xs : List V) (lo hi : Option Int) : List V := (xs.drop (HT.sIx xs.length 0 lo)).take (HT.sIx xs.length xs.length hi - HT.sIx xs.length 0 lo)
theorem cutV_length (xs : List V) (lo hi : Option Int) : (cutV xs lo hi).length ≤ xs.length := by
  unfold cutV
  rw [List.length_take, List.length_drop]
  omega
/-! ### t < u, t + u -/
end
end L2

namespace L2
open PySem PySem.Spec PyProof.Rows

/-! ### places -/
/-- the place that an index of any sign means -/
def ixN (n : Nat) (i : Int) : Option Nat := if 0 ≤ i then (if i < n then some i.toNat else none) else if -(n : Int) ≤ i then some (i + n).toNat else none
def atI {α : Type} (xs : List α) (i : Int) : Option α := (ixN xs.length i).bind fun j => xs[j]?
theorem ixN_seq {n : Nat} {i : Int} {j : Nat} (h : ixN n i = some j) : seqIndex? i n = some j ∧ j < n ∧ -(n : Int) ≤ i ∧ i < n := by
  unfold ixN at h
  by_cases h0 : 0 ≤ i
  · rw [if_pos h0] at h
    by_cases h1 : i < n
    · rw [if_pos h1] at h
      have e : i.toNat = j := Option.some.inj h
      exact ⟨by rw [seqIndex_of h0 h1, e], by omega, by omega, h1⟩
    · rw [if_neg h1] at h; cases h
  · rw [if_neg h0] at h
    by_cases h1 : -(n : Int) ≤ i
    · rw [if_pos h1] at h
      have e : (i + n).toNat = j := Option.some.inj h
      exact ⟨by rw [seqIndex_neg (by omega) h1, e], by omega, h1, by omega⟩
    · rw [if_neg h1] at h; cases h
theorem atI_get {α : Type} {xs : List α} {i : Int} {v : α} (h : atI xs i = some v) : ∃ j, seqIndex? i xs.length = some j ∧ xs[j]? = some v ∧ j < xs.length ∧ -(xs.length : Int) ≤ i ∧ i < xs.length := by
  unfold atI at h
  cases e : ixN xs.length i with
  | none => rw [e] at h; cases h
  | some j =>
    rw [e] at h
    obtain ⟨h1, h2, h3, h4⟩ := ixN_seq e
    exact ⟨j, h1, h, h2, h3, h4⟩
theorem atI_nat {α : Type} {xs : List α} {j : Nat} {v : α} (h : xs[j]? = some v) : atI xs (j : Int) = some v := by
  have hj : j < xs.length := (List.getElem?_eq_some_iff.mp h).1
  have e : ixN xs.length (j : Int) = some j := by
    unfold ixN
    rw [if_pos (by omega), if_pos (by omega)]; simp
  unfold atI; rw [e]; exact h
/-! ### what may be subscripted -/
/-- what stands as an index of a plain subscript -/
def PlainIx (b : Expr) : Prop := ∀ o i, subscripted b false o i = operate [o, i] (getItem o i)
/-- a subscript by values -/
def IxR (X : Cx) (r : R2) : Prop :=
  ∀ (value slice : Expr) (pins : List (Addr × Obj)) (s : Shared) (σ : St) (H : Hp) (x y : V) (v u : Value) (Q : VK), Inv X pins σ H s → RelV x v → RelV y u → r x y H Q →
    subscripted slice false v u = operate [v, u] (getItem v u) → wpAny (model X.prog X.w) X.A (subscriptTail value slice v u) (EP X pins σ Q) X.xe s
/-- a call of a builtin's method by values: the receiver, the arguments -/
def MtR (X : Cx) (id : String) (r : V → List V → Hp → VK → Prop) : Prop :=
  ∀ (pins : List (Addr × Obj)) (s : Shared) (σ : St) (H : Hp) (x : V) (xs : List V) (v : Value) (us : List Value) (Q : VK), Inv X pins σ H s → RelV x v → Vals xs us → r x xs H Q →
    wpAny (model X.prog X.w) X.A (call (.builtin id) (v :: us)) (EP X pins σ Q) X.xe s
section
variable {X : Cx} {a b : Expr} {ta tb : TE} {pos : Pos}
theorem IxR.or {r r' : R2} (h : IxR X r) (h' : IxR X r') : IxR X (fun x y H Q => r x y H Q ∨ r' x y H Q) := by
  intro value slice pins s σ H x y v u Q I rx ry q hs
  rcases q with q | q
  · exact h value slice pins s σ H x y v u Q I rx ry q hs
  · exact h' value slice pins s σ H x y v u Q I rx ry q hs
/-- a[b] -/
theorem pe_ix {r : R2} (hr : IxR X r) (ha : PE X a ta) (hb : PE X b tb) (hs : PlainIx b) : PE X (.Subscript a b pos) (tOp r ta tb) := by
  intro pins s σ H Q I h
  exact Subscript_ (binT ha hb I h fun v u s2 x y H2 I2 rx ry q => hr a b pins s2 σ H2 x y v u Q I2 rx ry q (hs _ _))

def rIxL (K : PySem.W.Frag) : R2 := fun x y H Q => ∃ p xs i v, x = .ref p ∧ y = .int i ∧ SqL K H p xs ∧ atI xs i = some v ∧ Q v H
def rIxT (K : PySem.W.Frag) : R2 := fun x y H Q => ∃ p xs i v, x = .ref p ∧ y = .int i ∧ SqT K H p xs ∧ atI xs i = some v ∧ Q v H
def rIxS : R2 := fun x y H Q => ∃ z i c, x = .str z ∧ y = .int i ∧ z.length ≤ sizeLine ∧ atI z.cps.toList i = some c ∧ Q (.str ⟨#[c]⟩) H
theorem ix_list : IxR X (rIxL X.K) := by
  intro value slice pins s σ H x y v u Q I rx ry h hs
  obtain ⟨p, xs, i, z, rfl, rfl, hq, he, q⟩ := h
  cases rx
  obtain ⟨t, rfl⟩ := ry
  obtain ⟨its, r, pl, hz⟩ := I.list hq
  obtain ⟨j, h1, h2, h3, h4, h5⟩ := atI_get he
  obtain ⟨w, ew, rw'⟩ := r.get h2
  have hl := r.length
  have hn := line63
  have fin : EP X pins σ Q w s := ⟨z, H, I, rw', q⟩
  by_cases h0 : 0 ≤ i
  · have hj : i.toNat = j := by
      rw [seqIndex_of h0 h5] at h1
      exact Option.some.inj h1
    exact item_listR pl.isList h0 (by omega) (by rw [hj]; simpa using ew) fin hs
  · have hj : (i + (its.toArray.size : Int)).toNat = j := by
      rw [seqIndex_neg (by omega) h4] at h1
      rw [List.size_toArray, ← hl]
      exact Option.some.inj h1
    exact subscriptTail_builtinR (x := w) pl.isList.typeIs slot_list_getitem.lookup
      (wpAny_getItem_list_neg (Q := fun r s' => r = w ∧ EP X pins σ Q r s') pl.isList (by omega) (by rw [List.size_toArray] <;> omega) (by omega) (by rw [hj]; simpa using ew) ⟨rfl, fin⟩) hs
theorem ix_tup : IxR X (rIxT X.K) := by
  intro value slice pins s σ H x y v u Q I rx ry h hs
  obtain ⟨p, xs, i, z, rfl, rfl, hq, he, q⟩ := h
  cases rx
  obtain ⟨t, rfl⟩ := ry
  obtain ⟨its, r, pl, hz⟩ := I.tuple hq
  obtain ⟨j, h1, h2, h3, h4, h5⟩ := atI_get he
  obtain ⟨w, ew, rw'⟩ := r.get h2
  have hl := r.length
  have hn := line63
  have fin : EP X pins σ Q w s := ⟨z, H, I, rw', q⟩
  exact subscriptTail_builtinR (x := w) pl.typeIs slot_tuple_getitem.lookup
    (getItem_tuple (j := j) (Q := fun r s' => r = w ∧ EP X pins σ Q r s') pl (by omega) (by omega) (by rw [List.size_toArray, ← hl]; exact h1) (by simpa using ew) ⟨rfl, fin⟩) hs
theorem ix_str : IxR X rIxS := by
  intro value slice pins s σ H x y v u Q I rx ry h hs
  obtain ⟨z, i, c, rfl, rfl, hz, he, q⟩ := h
  obtain ⟨t, rfl⟩ := rx
  obtain ⟨t', rfl⟩ := ry
  obtain ⟨j, h1, h2, h3, h4, h5⟩ := atI_get he
  have hl : z.cps.toList.length = z.length := by simp [Str.length]
  rw [hl] at h1 h4 h5
  have hn := line63
  exact tail_any (typeIs_str s z t) slot_str_getitem.lookup (getItem_str (c := c) (by
    have e1 : decide (i < -(2 ^ 63 : Int)) = false := decide_eq_false (by omega)
    have e2 : decide (i ≥ 2 ^ 63) = false := decide_eq_false (by omega)
    rw [e1, e2, Bool.or_false]) (by rw [h1]; simpa using h2) ⟨.str ⟨#[c]⟩, H, I.tok _, ⟨_, rfl⟩, q⟩) hs
/-- list, tuple or str -/
def rIx (K : PySem.W.Frag) : R2 := fun x y H Q => rIxL K x y H Q ∨ rIxT K x y H Q ∨ rIxS x y H Q
theorem ix_seq : IxR X (rIx X.K) := ix_list.or (ix_tup.or ix_str)

/-! ### xs[i] = v, any sign -/
/-- the list's object behind a store -/
theorem mapSeq_set (its : List Value) (n j : Nat) (u : Value) : Obj.mapSeq (·.setIfInBounds j u) { cls := .type "list", data := .seq its.toArray n } = { cls := .type "list", data := .seq (its.set j u).toArray n } := by
  simp [Obj.mapSeq]
theorem Inv.lst {pins : List (Addr × Obj)} {σ : St} {H : Hp} {s : Shared} {p : Addr} {xs : List V} (I : Inv X pins σ H s) (h : H p = some (.lst xs)) :
    ∃ (its : List Value) (n : Nat), Vals xs its ∧ s.heap.get? p = some { cls := .type "list", data := .seq its.toArray n } ∧ xs.length ≤ sizeLine := by
  obtain ⟨z, its, n, r, e⟩ := I.hok p _ h
  exact ⟨its, n, r, e, z⟩
/-- the list at p is written by an update of its object -/
theorem Inv.lstUpd {pins : List (Addr × Obj)} {σ : St} {H : Hp} {s : Shared} {p : Addr} {xs ys : List V} {its its' : List Value} {n n' : Nat} {f : Obj → Obj} (I : Inv X pins σ H s) (h : H p = some (.lst xs))
    (ho : s.heap.get? p = some { cls := .type "list", data := .seq its.toArray n }) (hf : f { cls := .type "list", data := .seq its.toArray n } = { cls := .type "list", data := .seq its'.toArray n' }) (r : Vals ys its') (hz : ys.length ≤ sizeLine) (t : Nat) :
    Inv X pins σ (upd H p (.lst ys)) { s with heap := s.heap.update p f, toks := t } := by
  have e : (s.heap.update p f).get? p = some { cls := .type "list", data := .seq its'.toArray n' } := by
    rw [Heap.get?_update_self f ho (by rw [hf] <;> rfl), hf]
  refine I.write (x := p) (e := p) (by rw [h]; trivial) (.inl rfl) (fun b u hb q => (Heap.get?_update_other _ _ (Ne.symm hb)).trans q) ⟨_, e⟩ ?_
  exact ⟨hz, its', n', r, e⟩
def rSetL : V → V → V → Hp → (Hp → Prop) → Prop := fun o i v H Q => ∃ p xs k j, o = .ref p ∧ i = .int k ∧ H p = some (.lst xs) ∧ ixN xs.length k = some j ∧ Q (upd H p (.lst (xs.set j v)))
theorem set_list : PSet X rSetL := by
  intro pins s σ H o i v ov iv u Q I ro ri rv h
  obtain ⟨p, xs, k, j, rfl, rfl, hp, hj, q⟩ := h
  cases ro
  obtain ⟨t, rfl⟩ := ri
  obtain ⟨its, n, r, ho, hz⟩ := I.lst hp
  obtain ⟨h1, h2, h3, h4⟩ := ixN_seq hj
  have hl := r.length
  have hn := line63
  have I' : Inv X pins σ (upd H p (.lst (xs.set j v))) { s with heap := s.heap.update p (Obj.mapSeq (·.setIfInBounds j u)) } :=
    I.lstUpd hp ho (mapSeq_set its n j u) (r.set rv j) (by rw [List.length_set]; exact hz) s.toks
  by_cases h0 : 0 ≤ k
  · have hk : k.toNat = j := by
      rw [seqIndex_of h0 h4] at h1
      exact Option.some.inj h1
    exact PySem.W.ki_setAt ho h0 (by omega) (by rw [List.size_toArray, ← hl]; exact h4) (by rw [hk]; exact ⟨_, I', q⟩)
  · have hk : (k + (its.toArray.size : Int)).toNat = j := by
      rw [seqIndex_neg (by omega) h3] at h1
      rw [List.size_toArray, ← hl]
      exact Option.some.inj h1
    exact PySem.W.ki_setBack ho (by omega) (by rw [List.size_toArray, ← hl]; exact h3) (by omega) (by rw [hk]; exact ⟨_, I', q⟩)

/-! ### slices -/
theorem slice_bounds (lo hi : Option Int) (n : Nat) : (sliceBounds lo hi none n).1 = ((HT.sIx n 0 lo : Nat) : Int) ∧ (sliceBounds lo hi none n).2.1 = ((HT.sIx n n hi : Nat) : Int) ∧ (sliceBounds lo hi none n).2.2 = 1 := by
  refine ⟨?_, ?_, rfl⟩
  · cases lo with
    | none => simp [sliceBounds, HT.sIx]
    | some i =>
      simp only [sliceBounds, HT.sIx, Option.getD_none, show (1 : Int) > 0 by decide, if_true]
      by_cases h : i < 0
      · simp only [h, if_true] <;> omega
      · simp only [h, if_false] <;> omega
  · cases hi with
    | none => simp [sliceBounds, HT.sIx]
    | some i =>
      simp only [sliceBounds, HT.sIx, Option.getD_none, show (1 : Int) > 0 by decide, if_true]
      by_cases h : i < 0
      · simp only [h, if_true] <;> omega
      · simp only [h, if_false] <;> omega
theorem slicePick_cut (its : List Value) (lo hi : Option Int) : slicePick its.toArray lo hi none = ((its.drop (HT.sIx its.length 0 lo)).take (HT.sIx its.length its.length hi - HT.sIx its.length 0 lo)).toArray := by
  obtain ⟨h1, h2, h3⟩ := slice_bounds lo hi its.toArray.size
  unfold slicePick
  rw [h1, h2, h3]
  simp only [sliceRange_one, pick_run, List.size_toArray] <;> rfl
/-- xs[lo:hi] of a list: a new list -/
def rSlL (K : PySem.W.Frag) : V → Option Int → Option Int → Hp → VK → Prop := fun x lo hi H Q => ∃ a xs, x = .ref a ∧ SqL K H a xs ∧ ∀ p, H p = none → Q (.ref p) (upd H p (.lst (cutV xs lo hi)))
theorem sl_list : SlR X (rSlL X.K) := by
  intro pins s σ H x v vl vu lo hi sl Q I rx hs pl pu h
  obtain ⟨a, xs, rfl, hx, q⟩ := h
  cases rx
  obtain ⟨its, r, ht, hz⟩ := I.list hx
  have hlen := r.length
  refine ⟨"list", _, slot_list_getitem.lookup, ht.isList.typeIs, ?_⟩
  refine wpAny_getItem_list_slice ht.isList hs pl pu .none (by simp) ?_ (by rw [List.size_toArray] <;> omega)
  rw [slicePick_cut, ← hlen]
  refine ⟨.ref s.heap.objs.size, _, I.laid (t' := s.toks) (o := .lst (cutV xs lo hi)) (fun b ob q => Heap.get?_push_of_some _ q) (Nat.le_refl _) ?_, rfl, q _ (I.hok.fresh (Nat.le_refl _))⟩
  exact ⟨Nat.le_trans (cutV_length xs lo hi) hz, _, 0, (r.drop (HT.sIx xs.length 0 lo)).take (HT.sIx xs.length xs.length hi - HT.sIx xs.length 0 lo), Heap.get?_push_size _ rfl⟩

/-! ### in, not in: flat items -/
/-! ### len, list(x), tuple(x) of any list or tuple that is read -/
theorem call_len_seq : CallR X (.builtin "len") (fun xs H Q => ∃ p ys, xs = [.ref p] ∧ (SqL X.K H p ys ∨ SqT X.K H p ys) ∧ Q (.int ys.length) H) := by
  intro pins s σ H xs us Q I r h
  obtain ⟨p, ys, rfl, hq, q⟩ := h
  obtain ⟨u, rfl, rx⟩ := vals1 r
  cases rx
  have hn := line63
  rcases hq with hq | hq
  · obtain ⟨its, r', pl, hz⟩ := I.list hq
    have hlen := r'.length
    exact Calls.call_len_list pl.isList (by simp only [List.size_toArray] <;> omega) ⟨.int ys.length, H, I.tok _, ⟨s.toks + 1, by rw [List.size_toArray, hlen]⟩, q⟩
  · obtain ⟨its, r', pl, hz⟩ := I.tuple hq
    have hlen := r'.length
    exact len_tuple pl (by simp only [List.size_toArray] <;> omega) ⟨.int ys.length, H, I.tok _, ⟨s.toks + 1, by rw [List.size_toArray, hlen]⟩, q⟩
theorem call_len_str : CallR X (.builtin "len") (fun xs H Q => ∃ z, xs = [.str z] ∧ z.length ≤ sizeLine ∧ Q (.int z.length) H) := by
  intro pins s σ H xs us Q I r h
  obtain ⟨z, rfl, hz, q⟩ := h
  obtain ⟨u, rfl, t, rfl⟩ := vals1 r
  have hn := line63
  exact len_str (by omega) ⟨.int z.length, H, I.tok _, ⟨_, rfl⟩, q⟩
theorem call_list_of : CallR X (.type "list") (fun xs H Q => ∃ p ys, xs = [.ref p] ∧ (SqL X.K H p ys ∨ SqT X.K H p ys) ∧ ∀ l, H l = none → Q (.ref l) (upd H l (.lst ys))) := by
  intro pins s σ H xs us Q I r h
  obtain ⟨p, ys, rfl, hq, q⟩ := h
  obtain ⟨u, rfl, rx⟩ := vals1 r
  cases rx
  have fin : ∀ (its : List Value), Vals ys its → ys.length ≤ sizeLine → ∀ (h' : Heap) (c' : Nat), (∀ b o', s.heap.get? b = some o' → h'.get? b = some o') →
      h'.get? s.heap.objs.size = some { cls := .type "list", dict := none, data := .seq its.toArray c', slots := #[] } → EP X pins σ Q (.ref s.heap.objs.size) { s with heap := h' } := fun its r' hz h' c' kp e =>
    ⟨.ref s.heap.objs.size, _, I.laid (t' := s.toks) kp (Nat.le_refl _) (show ObjOk X.prog X.w _ h' _ (.lst ys) from ⟨hz, its, c', r', e⟩), rfl, q _ (I.hok.fresh (Nat.le_refl _))⟩
  rcases hq with hq | hq
  · obtain ⟨its, r', pl, hz⟩ := I.list hq
    have hlen := r'.length
    obtain ⟨o, ho, hc, n, hd⟩ := pl.isList
    exact call_list_seq p (.inl rfl) ho hc hd (fun h' c' kp e => fin its r' hz h' c' kp e) (by simp only [List.size_toArray] <;> omega)
  · obtain ⟨its, r', pl, hz⟩ := I.tuple hq
    have hlen := r'.length
    obtain ⟨o, ho, hc, n, hd⟩ := pl
    exact call_list_seq p (.inr rfl) ho hc hd (fun h' c' kp e => fin its r' hz h' c' kp e) (by simp only [List.size_toArray] <;> omega)
theorem call_tuple_of : CallR X (.type "tuple") (fun xs H Q => ∃ p ys, xs = [.ref p] ∧ ((SqL X.K H p ys ∧ ∀ l, H l = none → Q (.ref l) (upd H l (.tup ys))) ∨ (SqT X.K H p ys ∧ Q (.ref p) H))) := by
  intro pins s σ H xs us Q I r h
  obtain ⟨p, ys, rfl, h⟩ := h
  obtain ⟨u, rfl, rx⟩ := vals1 r
  cases rx
  rcases h with ⟨hq, q⟩ | ⟨hq, q⟩
  · obtain ⟨its, r', pl, hz⟩ := I.list hq
    have hlen := r'.length
    refine call_tuple_list pl.isList (fun h' kp => ?_) (by simp only [List.size_toArray] <;> omega)
    have I1 : Inv X pins σ H { s with heap := h' } := I.kept (t' := s.toks) kp
    have I2 : Inv X pins σ (upd H h'.objs.size (.tup ys)) { s with heap := h'.push { cls := .type "tuple", data := .seq its.toArray } } :=
      I1.laid (t' := s.toks) (fun b o e => Heap.get?_push_of_some _ e) (Nat.le_refl _) (show ObjOk X.prog X.w _ _ _ (.tup ys) from ⟨hz, its, r', IsTup.new _ _⟩)
    exact ⟨.ref h'.objs.size, _, I2, rfl, q _ (I1.hok.fresh (Nat.le_refl _))⟩
  · obtain ⟨its, r', pl, hz⟩ := I.tuple hq
    exact call_tuple_same pl ⟨.ref p, H, I, rfl, q⟩

/-! ### the call of a builtin's method: o.m(..) -/
/-- the value is of that builtin type -/
def tyV (K : PySem.W.Frag) (T : String) (x : V) (H : Hp) : Prop := match x with
  | .str _ => T = "str"
  | .int _ => T = "int"
  | .ref p => (T = "list" ∧ ∃ xs, SqL K H p xs) ∨ (T = "tuple" ∧ ∃ o, K.lookup p = some o ∧ o.cls = .type "tuple" ∧ o.dict = none) ∨
      (T = "dict" ∧ ((∃ kvs, H p = some (.dK kvs)) ∨ ∃ kvs, H p = some (.dT kvs))) ∨ (T = "set" ∧ ∃ S n, H p = some (.set S n))
  | _ => False
theorem tyV_is {pins : List (Addr × Obj)} {σ : St} {H : Hp} {s : Shared} {T : String} {x : V} {v : Value} (I : Inv X pins σ H s) (r : RelV x v) (ty : tyV X.K T x H) :
    s.TypeIs v T ∧ ∀ a, v = .ref a → ∃ ob, s.heap.get? a = some ob ∧ ob.dict = none := by
  cases x with
  | str z =>
    obtain ⟨t, rfl⟩ := r
    cases (show T = "str" from ty)
    exact ⟨typeIs_str s z t, fun _ e => nomatch e⟩
  | int i =>
    obtain ⟨t, rfl⟩ := r
    cases (show T = "int" from ty)
    exact ⟨typeIs_int s i t, fun _ e => nomatch e⟩
  | ref p =>
    cases r
    rcases ty with ⟨rfl, xs, hq⟩ | ⟨rfl, o, hk, hc, hd⟩ | ⟨rfl, hk⟩ | ⟨rfl, S, n, hk⟩
    · obtain ⟨its, _, pl, _⟩ := I.list hq
      refine ⟨pl.isList.typeIs, fun a e => ?_⟩
      cases e
      obtain ⟨o, n, e, c, hd, _⟩ := pl
      exact ⟨o, e, hd⟩
    · refine ⟨⟨o, I.kIn p o hk, hc⟩, fun a e => ?_⟩
      cases e
      exact ⟨o, I.kIn _ o hk, hd⟩
    · have z : ∃ o, s.heap.get? p = some o ∧ o.ExactDict := by
        rcases hk with ⟨kvs, hk⟩ | ⟨kvs, hk⟩
        · obtain ⟨_, _, _, _, o, _, _, e, ex, _⟩ := I.hok p _ hk
          exact ⟨o, e, ex⟩
        · obtain ⟨_, _, _, _, o, _, _, e, ex, _⟩ := I.hok p _ hk
          exact ⟨o, e, ex⟩
      obtain ⟨o, e, ex⟩ := z
      refine ⟨⟨o, e, ex.1⟩, fun a e2 => ?_⟩
      cases e2
      exact ⟨o, e, ex.2.1⟩
    · obtain ⟨o, _, _, _, e, ex, _⟩ := I.hok p _ hk
      refine ⟨⟨o, e, ex.1⟩, fun a e2 => ?_⟩
      cases e2
      exact ⟨o, e, ex.2.1⟩
  | _ => exact False.elim ty
def tBM (K : PySem.W.Frag) (T : String) (r : V → List V → Hp → VK → Prop) (to : TE) (t : TA) : TE := fun σ H Q => to σ H fun x H1 => tyV K T x H1 ∧ t σ H1 fun xs H2 => r x xs H2 Q
variable {o e : Expr} {es : List Expr} {to : TE} {t : TA} {name : Str} {apos cpos : Pos} {T id : String} {r : V → List V → Hp → VK → Prop}
theorem pe_bm (pa : PlainAttrs T) (slot : Slot T name id) (hty : typeOf (.builtin id) = pure (.type "method_descriptor")) (hm : MtR X id r) (ho : PE X o to) (ha : PA X (e :: es) t)
    (hbase : attributeBase o name X.env (eval o X.env) = eval o X.env := by rfl)
    (hfew : ((backTo cpos (starEach (e :: es) X.env)).all (fun x => !x.1) && (backToKw cpos (keywordEach [] X.env)).all (fun x => x.1.isSome)
      && decide ((e :: es).length + ([] : List Keyword).length + (if ([] : List Keyword).isEmpty then 0 else 1) < 30)) = true := by rfl)
    (hline : (apos.endLine == cpos.line) = true := by rfl) (hs : starEach (e :: es) X.env = (false, eval e X.env) :: starEach es X.env := by rfl) (hplain : (backTo cpos (starEach es X.env)).any (·.1) = false := by rfl) :
    PE X (.Call (.Attribute o name apos) (e :: es) [] cpos) (tBM X.K T r to t) := by
  intro pins s σ H Q I h
  refine wpAny_Call_method_late hbase hfew hline rfl (thn (ho pins s σ H _ I h) fun v s1 ⟨x, H1, I1, r1, ty, q1⟩ => ?_)
  obtain ⟨h1, h2⟩ := tyV_is I1 r1 ty
  refine ⟨T, id, pa, slot, hty, h1, h2, ?_⟩
  have hA := ha cpos pins s1 σ H1 _ I1 q1
  rw [hs] at hA ⊢
  refine Calls.callWith_builtin (by show (false || (backTo cpos (starEach es X.env)).any (·.1)) = false; rw [hplain] <;> rfl) (Calls.evalArgs_plain ?_)
  exact thn hA fun us s2 ⟨vs, H2, I2, r2, q2⟩ => hm pins s2 σ H2 x vs v us Q I2 r1 r2 q2
/- xs.append(e), list.index on a module's tuple .. are MtR facts of 06m -/
end
end L2

namespace L2
open PySem PySem.Spec PyProof.Rows

def MtM (X : Cx) (id : String) (r : V → List V → Hp → VK → Prop) : Prop :=
  ∀ (pins : List (Addr × Obj)) (s : Shared) (σ : St) (H : Hp) (x : V) (xs : List V) (v : Value) (us : List Value) (Q : VK), Inv X pins σ H s → RelV x v → Vals xs us → r x xs H Q →
    wpAny (model X.prog X.w) X.A (call (.builtin id) (v :: us)) (EP X pins σ Q) X.xe s

/-! ### lists of values -/
theorem Vals.one : ∀ {x : V} {us : List Value}, Vals [x] us → ∃ u, us = [u] ∧ RelV x u
  | _, _, .cons r .nil => ⟨_, rfl, r⟩
section
variable {X : Cx} {pins : List (Addr × Obj)} {σ : St} {H : Hp} {s : Shared} {l b : Addr} {xs ys zs : List V}

/-! ### the two steps: a tracked list is rewritten, a new list is laid -/
theorem Inv.lset {its its' : List Value} {n : Nat} {f : Array Value → Array Value} {t' : Nat} (I : Inv X pins σ H s) (hH : H l = some (.lst xs))
    (e : s.heap.get? l = some { cls := .type "list", data := .seq its.toArray n }) (hf : f its.toArray = its'.toArray) (hv : Vals ys its') (hz : ys.length ≤ sizeLine) :
    Inv X pins σ (upd H l (.lst ys)) { s with heap := s.heap.update l (Obj.mapSeq f), toks := t' } := by
  have q := PySem.IsL.update e f
  rw [hf] at q
  refine I.write (x := l) (e := l) (by rw [hH]; exact trivial) (.inl rfl) (fun b' u hb hu => (Heap.get?_update_other s.heap (Obj.mapSeq f) (Ne.symm hb)).trans hu) ⟨_, q⟩ ?_
  exact ⟨hz, its', _, hv, q⟩
theorem Inv.lnew {its : List Value} {t' : Nat} (I : Inv X pins σ H s) (hv : Vals ys its) (hz : ys.length ≤ sizeLine) :
    Inv X pins σ (upd H s.heap.objs.size (.lst ys)) { s with heap := s.heap.push { cls := .type "list", data := .seq its.toArray }, toks := t' } :=
  I.laid (fun _ _ q => Heap.get?_push_of_some _ q) (Nat.le_refl _) ⟨hz, its, 0, hv, Heap.get?_push_size _ rfl⟩
theorem Inv.fresh (I : Inv X pins σ H s) : H s.heap.objs.size = none := I.hok.fresh (Nat.le_refl _)
theorem Inv.lstM (I : Inv X pins σ H s) (hH : H l = some (.lst xs)) : xs.length ≤ sizeLine ∧ ∃ (its : List Value) (n : Nat), Vals xs its ∧ xs.length = its.length ∧ s.heap.get? l = some { cls := .type "list", data := .seq its.toArray n } := by
  obtain ⟨z, its, n, r, e⟩ := I.hok l _ hH
  exact ⟨z, its, n, r, r.length, e⟩

end

section
variable {X : Cx}

/-! ### methods -/
def rAppend : V → List V → Hp → VK → Prop := fun x vs H Q => ∃ l xs y, x = .ref l ∧ vs = [y] ∧ H l = some (.lst xs) ∧ xs.length < sizeLine ∧ Q .non (upd H l (.lst (xs ++ [y])))
theorem mt_append : MtM X "list.append" rAppend := by
  intro pins s σ H x vs v us Q I rx rv h
  obtain ⟨l, xs, y, rfl, rfl, hH, hz, q⟩ := h
  cases rx
  obtain ⟨u, rfl, ru⟩ := rv.one
  obtain ⟨z, its, n, r, hl, e⟩ := I.lstM hH
  refine call_meets F.slot_list_append ⟨_, e, rfl⟩ F.entry_list_append (F.args_list_append_2 _ _) (PySem.list_append l its.toArray n u (by rw [List.size_toArray]; omega)) ⟨e, ?_⟩
  refine ⟨.non, _, I.lset (its' := its ++ [u]) hH e (by simp) (r.append (.cons ru .nil)) ?_, rfl, q⟩
  rw [List.length_append, List.length_singleton]
  omega

/-! ### list + list, list += list, list * int -/
def rCat : R2 := fun x y H Q => ∃ l b xs zs, x = .ref l ∧ y = .ref b ∧ H l = some (.lst xs) ∧ H b = some (.lst zs) ∧ xs.length + zs.length ≤ sizeLine ∧ ∀ p, H p = none → Q (.ref p) (upd H p (.lst (xs ++ zs)))
theorem op_cat : OpR X (binaryOp .Add) rCat := by
  intro pins s σ H x y v u Q I rx ry h
  obtain ⟨l, b, xs, zs, rfl, rfl, hH, hB, hz, q⟩ := h
  cases rx
  cases ry
  obtain ⟨z, its, n, r, hl, e⟩ := I.lstM hH
  obtain ⟨z2, its2, n2, r2, hl2, e2⟩ := I.lstM hB
  refine PySem.P.add_list e e2 ?_ (by rw [List.size_toArray, List.size_toArray]; omega)
  have ea : its.toArray ++ its2.toArray = (its ++ its2).toArray := by simp
  rw [ea]
  exact ⟨.ref _, _, I.lnew (t' := s.toks) (r.append r2) (by rw [List.length_append]; omega), rfl, q _ I.fresh⟩
/-! ### del xs[i] -/
end

/-! ### xs[a:b] = ys -/
section
variable {prog : Program} {w : World} {A : Around} {E : Value → Shared → Prop} {s : Shared}
set_option maxRecDepth 100000 in
end

section
variable {X : Cx}
end
end L2

namespace Att
open PySem PySem.W PySem.Calls PyProof.Rows

/-! ### the script -/
theorem ints_of_wellAll {P : Params} {h : Heap} : ∀ (ns : List Int) (vs : List Value), WellAll P h vs (ns.map WData.int) → IntsAre vs ns := by
  intro ns
  induction ns with
  | nil =>
    intro vs w
    rw [List.map_nil] at w
    cases w
    exact .nil
  | cons n ns ih =>
    intro vs w
    rw [List.map_cons] at w
    cases w with
    | cons a b =>
      cases a
      exact .cons _ _ (ih _ b)

theorem script_of {l : OpenLaw} {n : Nat} (hn : l.most = some n) {P : Params} {h : Heap} {args : List WData} {vals : List Value}
    (hpre : l.row.toRowW.claim.pre args = true) (hwl : WellAll P h vals args) :
    ∃ a vs ns, vals = [Value.ref a] ∧ args = [WData.list (ns.map WData.int)] ∧ h.get? a = some { cls := .type "list", data := .seq vs.toArray } ∧ IntsAre vs ns ∧ ns.length ≤ n := by
  have hsh : WShape.hasAll [] args [.list .int] = true := (pre_splitW hpre).1
  have hc : l.pre.holds [] { args := args } = true := (pre_splitW hpre).2
  obtain ⟨d, r, rfl, h1, h2⟩ := hasAllW_cons hsh
  obtain rfl := hasAllW_nil h2
  obtain ⟨xs, rfl, h3⟩ := hasW_list h1
  obtain ⟨ns, rfl⟩ := items_int h3
  have hlen : ns.length ≤ n := by
    unfold OpenLaw.pre at hc
    have h4 : (WTm.not (.lt (.lit (.int (n : Int))) (.len (.arg 0)))).holds [] { args := [.list (ns.map .int)] } = true := by
      have h4 := (holds_andW hc).1
      rw [hn] at h4
      exact h4
    have h5 := condW_of h4 (w_not (w_lt w_lit (w_len_list (w_arg rfl))))
    rw [List.length_map] at h5
    refine Nat.le_of_not_lt fun q => ?_
    have q' : (n : Int) < ((ns.length : Nat) : Int) := by omega
    first
      | (rw [decide_eq_true q'] at h5; exact absurd h5 (by decide))
      | (simp at h5; omega)
  cases hwl with
  | cons w1 w2 =>
    cases w2
    cases w1 with
    | list ho hall => exact ⟨_, _, ns, rfl, rfl, ho, ints_of_wellAll ns _ hall, hlen⟩

theorem post_true (l : OpenLaw) (args : List WData) : l.row.toRowW.claim.post args (.bool true) args = true :=
  postW_of (r := l.row.toRowW) (X := (true == true))
    (show WShape.has [] (.bool true) .bool = true by first | rfl | decide | simp [WShape.has, WShape.arms, WShape.armsAll])
    (show (WTm.eq .res (.lit (.bool true))).value [] { args := args, res := some (.bool true), after := args } = some (.bool (true == true)) from w_eq_bool (w_res rfl) w_lit) rfl

/-! ### the attachment: holds_open's last premise (the goal 'hc' behind k_head) from a wpAny of the law's body -/
/-- the same from a codeAny of the CALL (for a layer whose function contracts speak of calls) -/
theorem attach_call {l : OpenLaw} {n : Nat} {q : Program} {loose : List Str} {XP : (Str → Option Value) → Heap → Prop} {YP : World → Heap → Prop} {d : DefRec}
    (hn : l.most = some n) (hdf : d.params.defaults = [])
    (call : ∀ (w : World) (s₀ s₁ : Shared) (mg mb : Str → Option Value) (fa : Addr) (o : Obj) (pm cd doc : Value) (a : Addr) (vs : List Value) (ns : List Int),
      Ground q loose [] XP w s₀ mg mb s₁.heap → YP w s₁.heap →
      s₁.heap.get? fa = some o → o.data = .func (docDef d.name d.params d.body d.scope pm cd doc) → s₁.heap.CodeRec cd d.name → mg d.name = some (.ref fa) →
      s₁.heap.get? a = some { cls := .type "list", data := .seq vs.toArray } → IntsAre vs ns → ns.length ≤ n → s₁.gens = #[] →
      codeAny (model l.prog w) callerA (.call (.ref fa) ⟨[.ref a], []⟩) (fun r s' => r = .ok (.ret (.bool true)) ∧ OldK s₁.heap s'.heap ∧ s'.os = s₁.os ∧ AllBare s'.gens) s₁) :
    WalkO q loose XP YP l.row.toRowW d [] (fun f vs => PySem.call f vs) := by
  intro w s₀ s₁ mg mb G Y fa o pm cd doc dV kV ho hd hcd hD hmg hg args vals as hpre hlay hrd hwl hlo
  obtain rfl : dV = .none := Dflts.none hD hdf
  obtain rfl : kV = .none := Dflts.noKw hD
  obtain ⟨a, vs, ns, rfl, rfl, hobj, hints, hlen⟩ := script_of hn hpre hwl
  refine enter_call (codeAny_mono (call w s₀ s₁ mg mb fa o pm cd doc a vs ns G Y ho (fd_plain hd) hcd hmg hobj hints hlen hg) fun r s' hq => ?_)
  obtain ⟨rfl, h2, h3, h4⟩ := hq
  exact ⟨.inl ⟨.bool true, .bool true, [], rfl, fun _ => rfl, .bool true, post_true l _, fun _ => ⟨List.Pairwise.nil, fun _ hm => (nomatch hm)⟩⟩, h2, h3, h4⟩

/-! ### rules over ANY heap (no ledger) from facts about the written part K: the library's own take a ledger (News) for what they write -/
section
variable {prog : Program} {w : World} {A : Around} {E : Value → Shared → Prop} {s : Shared} {K : Frag}

/-! the whole heap as the ledger: makes every rule that writes through a ledger a rule over any heap -/
def ledger (h : Heap) (L d : Addr) : List (Addr × Obj) := (List.range h.objs.size).filterMap fun a => if a = L ∨ a = d then none else (h.get? a).map fun o => (a, o)
end
end Att

namespace L2
open PySem PySem.Spec PyProof.Rows

theorem vals_ints : ∀ {vs : List Value} {ns : List Int}, IntsAre vs ns → Vals (ns.map V.int) vs
  | _, _, .nil => .nil
  | _, _, .cons n t h => .cons ⟨t, rfl⟩ (vals_ints h)

/-- nothing is tracked but the script, known to the object (or it is an object of the module) -/
def Only (H : Hp) : Prop := ∀ b, H b = none ∨ ∃ o xs, H b = some (.frz o (.lst xs))

/-- THE HEAD: the law's promise, at the heap behind the top. F, the promise of the law's def, may use that base is part of the heap (so K.In base, base.Ns mainGlobals mg stand in Mod) -/
theorem law_call {P : Program} {w : World} {K : PySem.W.Frag} {mg mb : Str → Option Value} {CX : CXT} {k : Nat} {fa a : Addr} {fd : FuncData} {x : Str} {sp : Sp} {s₁ : Shared} {vs : List Value} {ns : List Int}
    (KX : K.In s₁.heap) (hns : s₁.heap.Ns mainGlobals mg) (hb : s₁.heap.Ns builtinsNs mb) (hbb : ∀ x : Str, x ≠ "__name__" → mb x = bootBuiltins x) (hlim : s₁.heap.NoLimit) (hg : s₁.gens = #[])
    (ha : s₁.heap.get? a = some { cls := .type "list", data := .seq vs.toArray }) (hi : IntsAre vs ns) (hl : ns.length ≤ sizeLine) (hr : Room k callerA)
    (F : ∀ base : Heap, K.In base → base.Ns mainGlobals mg → FnOk P w K mg base CX k fa fd [x] sp) (hbind : ∀ (s : Shared) (u : Value), BindsTo s fd ⟨[u], []⟩ [(x, u)])
    (hsp : ∀ H : Hp, Only H → SqL K H a (ns.map V.int) → sp [.ref a] H (fun v _ => v = .bl true) fun _ _ _ => False)
    (hCX : ∀ H e s', CX [] H s₁ (fun _ _ _ => False) e s' → False) :
    codeAny (model P w) callerA (.call (.ref fa) ⟨[.ref a], []⟩) (fun r s' => r = .ok (.ret (.bool true)) ∧ OldK s₁.heap s'.heap ∧ s'.os = s₁.os ∧ AllBare s'.gens) s₁ := by
  have rv := vals_ints hi
  have lenV := hi.length
  -- from an abstract heap in which nothing but the script may be tracked
  have core : ∀ H : Hp, Only H → SqL K H a (ns.map V.int) → HOk P w H s₁.heap → (∀ b, H b ≠ none → b = a) → (H a ≠ none → K.lookup a = none) →
      codeAny (model P w) callerA (.call (.ref fa) ⟨[.ref a], []⟩) (fun r s' => r = .ok (.ret (.bool true)) ∧ OldK s₁.heap s'.heap ∧ s'.os = s₁.os ∧ AllBare s'.gens) s₁ := by
    intro H hO hS hok hA hK
    have base_of : ∀ {b : Addr} {o : Obj}, s₁.heap.get? b = some o → H b = none → (hidT s₁.heap H).get? b = some o := fun e n => hidT_get e n
    have noA : ∀ {b : Addr} {o : Obj} {es : Array DictEntry} {ep : Nat}, s₁.heap.get? b = some o → o.data = .dict es ep → H b = none := fun {b o es ep} e d => by
      cases q : H b with
      | none => rfl
      | some u =>
        have e' : b = a := hA b (by rw [q]; simp)
        subst e'
        rw [ha] at e; cases e
        have d' : Data.seq vs.toArray _ = Data.dict es ep := d
        cases d'
    have nsK : ∀ {b : Addr} {m : Str → Option Value}, s₁.heap.Ns b m → (hidT s₁.heap H).Ns b m := fun {b m} ⟨o, es, ep, e, d, r⟩ => ⟨o, es, ep, base_of e (noA e d), d, r⟩
    have hKb : K.In (hidT s₁.heap H) := fun b o e => base_of (KX b o e) (by
      cases q : H b with
      | none => rfl
      | some u =>
        have e' : b = a := hA b (by rw [q]; simp)
        subst e'
        rw [hK (by rw [q]; simp)] at e; cases e)
    have hM : Mod K mg (hidT s₁.heap H) := ⟨hKb, nsK hns, ⟨mb, nsK hb, hbb⟩, let ⟨mc, h1, h2⟩ := hlim; ⟨mc, nsK h1, h2⟩⟩
    have e0 : Env0 P w K mg (hidT s₁.heap H) callerA [] s₁ H := ⟨rfl, hM, fun b o e => of_hidT e, Nat.le_of_eq (hidT_size _ _), trivial, fun b hb => absurd (show b ∈ ([] : List Addr) from hb) (by simp), hok, .of_eq hg⟩
    refine codeAny_mono ((F _ hKb (nsK hns)).run callerA [] s₁ H ⟨[.ref a], []⟩ [.ref a] [.ref a] _ _ hr e0 (hbind s₁ (.ref a)) (.cons rfl .nil) (hsp H hO hS)) fun r s' h => ?_
    cases r with
    | error e => exact (hCX H e s' h).elim
    | ok fl =>
      cases fl with
      | next => exact False.elim h
      | brk => exact False.elim h
      | cont => exact False.elim h
      | ret u =>
        obtain ⟨v, H', os, bare, un, hok', r', q⟩ := h
        have q' : v = .bl true := q
        subst q'
        obtain rfl : u = Value.bool true := r'
        refine ⟨rfl, OldK.of_keep fun b o e => ?_, os, bare⟩
        cases q : H b with
        | none => exact un.keep b o e q (by intro z; exact absurd (show b ∈ ([] : List Addr) from z) (by simp)) (by simp)
        | some u =>
          rcases hO b with z | ⟨ob, xs, z⟩
          · rw [q] at z; cases z
          · have z2 := un.frzs b ob _ z
            obtain ⟨e1, _⟩ := hok b _ z
            obtain ⟨e2, _⟩ := hok' b _ z2
            rw [e] at e1; cases e1
            exact e2
  cases hk : K.lookup a with
  | some o =>
    -- the script is one of the module's own objects
    have e := KX a o hk
    rw [ha] at e
    cases e
    refine core (fun _ => none) (fun _ => .inl rfl) (.inr ⟨_, vs.toArray, _, hk, rfl, rfl, rfl, by rw [List.size_toArray, lenV]; exact hl, by simpa using rv⟩) (fun b u z => by have z' : (none : Option HO) = some u := z; cases z') (fun b z => absurd rfl z) fun z => absurd rfl z
  | none =>
    refine core (fun b => if b = a then some (.frz { cls := .type "list", data := .seq vs.toArray } (.lst (ns.map V.int))) else none) (fun b => ?_) (.inl (.inr ⟨{ cls := .type "list", data := .seq vs.toArray }, if_pos rfl⟩)) (fun b u z => ?_) (fun b z => ?_) fun _ => hk
    · by_cases hb : b = a
      · exact .inr ⟨_, _, if_pos hb⟩
      · exact .inl (if_neg hb)
    · by_cases hb : b = a
      · have z' := (if_pos hb).symm.trans z
        cases z'
        subst hb
        exact ⟨ha, by rw [List.length_map]; exact hl, vs, _, rv, ha⟩
      · have z' := (if_neg hb).symm.trans z
        cases z'
    · by_cases hb : b = a
      · exact hb
      · exact absurd (if_neg hb) z
end L2

namespace L2
open PySem PySem.Spec PyProof.Rows

abbrev KOf {K : PySem.W.Frag} {h : Heap} (_ : K.In h) : PySem.W.Frag := K

/-- the goal that k_head leaves (case hc), from the law's promise. F gives the function object fd (K's own) once, then the promise over every base -/
theorem walk_of {l : PySem.W.OpenLaw} {n k : Nat} {q : Program} {loose : List Str} {XP : (Str → Option Value) → Heap → Prop} {YP : World → Heap → Prop} {d : DefRec} {K : Params → PySem.W.Frag} {CX : World → CXT} {sp : World → Sp} {x : Str}
    (hn : l.most = some n) (hn2 : n ≤ sizeLine) (hdf : d.params.defaults = []) (hr : Room k callerA)
    (hY : ∀ (w : World) (h : Heap), YP w h → (K w.params).In h)
    (F : ∀ (w : World) (mg : Str → Option Value) (fa : Addr) (h : Heap), (K w.params).In h → h.Ns mainGlobals mg → mg d.name = some (.ref fa) →
      ∃ fd : FuncData, (∀ (s : Shared) (u : Value), BindsTo s fd ⟨[u], []⟩ [(x, u)]) ∧
        ∀ base : Heap, (K w.params).In base → base.Ns mainGlobals mg → FnOk l.prog w (K w.params) mg base (CX w) k fa fd [x] (sp w))
    (hsp : ∀ (w : World) (H : Hp) (a : Addr) (ns : List Int), ns.length ≤ n → Only H → SqL (K w.params) H a (ns.map V.int) → sp w [.ref a] H (fun v _ => v = .bl true) fun _ _ _ => False)
    (hCX : ∀ (w : World) (H : Hp) (s : Shared) (e : Value) (s' : Shared), CX w [] H s (fun _ _ _ => False) e s' → False) :
    PySem.W.WalkO q loose XP YP l.row.toRowW d [] (fun f vs => PySem.call f vs) := by
  refine Att.attach_call hn hdf fun w s₀ s₁ mg mb fa o pm cd doc a vs ns G Y ho hd hcd hmg hobj hints hlen hg => ?_
  have KX := hY w _ Y
  obtain ⟨fd, hb, hF⟩ := F w mg fa _ KX G.T.g hmg
  exact law_call KX G.T.g G.T.b G.T.builtins G.T.nolimit hg hobj hints (Nat.le_trans hlen hn2) hr hF hb (fun H hO hS => hsp w H a ns hlen hO hS) fun H e s' => hCX w H s₁ e s'
end L2

/- THE LAST THEOREM (shape; LID, My.* are yours):
   My.Adr: a structure of the addresses that your layer names (classes, functions); My.Txt K t: a structure (Prop) of the equations over K;
   My.txt_mk : {K} {implicit addresses ..} (e1 : nsIn K mainGlobals "law" = some (some (.ref f))) (e2 : K.lookup f = some ⟨oc, od, .func (fnOf "law" "law" params body scope dV kV doc pm an cdv ct), sl⟩) (e3 : codeIn K cdv "law" = true) .. : ∃ t, My.Txt K t

set_option maxRecDepth 100000 in
set_option maxHeartbeats 0 in
theorem PySem.Challenge.cw_LID_holds : PySem.Challenge.rw_LID.Holds := by
  w_on; o_law; k_head; (case hw => w_witness2)
  k_fill
  refine L2.walk_of (l := PySem.Challenge.rw_LID) (n := 63) (k := 40) (x := "script") (CX := fun w => ..) (sp := fun _ => My.sp_law) rfl (by decide) rfl ⟨rfl, by decide, by decide⟩ (fun w h Y => PySem.W.kIn_of Y) ?F ?S ?C
  case F =>
    intro w mg fa h KX G hmg
    have T : ∃ t, My.Txt (L2.KOf KX) t := by
      dsimp only [L2.KOf]                          -- K must stand as «<heap const> w.params» for k_is
      refine' My.txt_mk ?e1 ?e2 ?e3 ..
      (case e1 => PySem.W.k_is)                    -- in the order: a name -> its address -> its object -> its parts
      (case e2 => PySem.W.k_is)
      ..
    obtain ⟨t, T⟩ := T
    have e0 := hmg.symm.trans (PySem.W.mg_of KX G T.law)
    cases e0                                       -- fa is the law's own address
    exact ⟨_, fun s u => .of_eq rfl, fun base kb nb => My.law_fn T kb nb⟩     -- if «.of_eq rfl» comes too early: refine' ⟨_, ?b, fun base kb nb => My.law_fn T kb nb⟩; exact fun s u => .of_eq rfl
  case S => exact fun w H a ns hl hO hS => ..
  case C => exact ..
(the tactic k_is has no namespace: write k_is) -/

/-! SHORT WORDS over the layer: a def of the text, its body, what a loop and a test want. -/
namespace L2
open PySem PySem.Spec PyProof.Rows

/-! ### the text by places -/
def defArgs (s : Stmt) : Arguments := match s with
  | .FunctionDef _ a _ _ _ _ _ _ _ _ => a
  | _ => { posonlyargs := [], args := [], vararg := none, kwonlyargs := [], kw_defaults := [], kwarg := none, defaults := [] }
def defBody (s : Stmt) : List Stmt := match s with
  | .FunctionDef _ _ b _ _ _ _ _ _ _ => b
  | _ => []
def defScope (s : Stmt) : Scope := match s with
  | .FunctionDef _ _ _ _ _ _ sc _ _ _ => sc
  | _ => { kind := .function, names := [], isGenerator := false, isCoroutine := false }

/-! ### no exception leaves a def -/
abbrev CX0 : CXT := fun _ _ _ _ _ _ => False
abbrev E0 : XK := fun _ _ _ => False
theorem pass0 {X : Cx} : Passes CX0 X E0 := fun _ _ _ _ _ _ _ h => h.elim

/-! ### a def (or method) of the text as it stands behind the top -/
structure Fun (K : PySem.W.Frag) (x qual : Str) (st : Stmt) (f : Addr) (fd : FuncData) : Prop where
  ex : ∃ (oc : Value) (od : Option Addr) (kV doc pm : Value) (an : Option Addr) (cdv ct : Value) (osl : Array (Option Value)),
    fd = PySem.W.fnOf x qual (defArgs st) (defBody st) (defScope st) .none kV doc pm an cdv ct ∧ K.lookup f = some ⟨oc, od, .func fd, osl⟩ ∧ PySem.W.codeIn K cdv qual = true
  kp : PySem.W.keepIn K (.ref f) = true
section
variable {P : Program} {w : World} {K : PySem.W.Frag} {mg : Str → Option Value} {base : Heap}
/-- THE RULE for a def: its body as a term of rules, and the reading of that term -/
theorem Fun.ok {x qual : Str} {st : Stmt} {f : Addr} {fd : FuncData} {N ps : List Str} {k : Nat} {sp : Sp} (F : Fun K x qual st f fd) (S : FnScope N ps (defScope st)) (len : ∀ vs H Q E, sp vs H Q E → vs.length = ps.length)
    (hbody : ∀ (cdv : Value) (A : Around) (outer : List Env) (s : Shared) (H : Hp) (vs : List V) (Q : VK) (E : XK), Room k (A.deeper (envOfC qual (defScope st) s.heap.objs.size f cdv)) → sp vs H Q E →
      ∃ t, PSs (cxOf CX0 P w K mg base N qual (defScope st) f cdv A outer s H E).nox (defBody st) t ∧ t { nx := fun _ H' => Q .non H', rt := Q } (start N vs) H) : FnOk P w K mg base CX0 (k + 1) f fd ps sp := by
  obtain ⟨oc, od, kV, doc, pm, an, cdv, ct, osl, rfl, lk, hcd⟩ := F.ex
  refine fn_of lk hcd S len fun A outer s H vs Q E hr hsp => ?_
  obtain ⟨t, h, q⟩ := hbody cdv A outer s H vs Q E hr hsp
  exact ⟨t, h.nox, q⟩
/-- how its arguments bind (no defaults): h is «fun _ _ _ _ _ _ us hl => match us, hl with | [_, _], _ => rfl», one _ a parameter -/
theorem Fun.binds {x qual : Str} {st : Stmt} {f : Addr} {fd : FuncData} {ps : List Str} (F : Fun K x qual st f fd)
    (h : ∀ (kV doc pm : Value) (an : Option Addr) (cdv ct : Value) (us : List Value), us.length = ps.length → bindArgs (PySem.W.fnOf x qual (defArgs st) (defBody st) (defScope st) .none kV doc pm an cdv ct) ⟨us, []⟩ = pure (ps.zip us)) : Binds K fd ps [] := by
  obtain ⟨oc, od, kV, doc, pm, an, cdv, ct, osl, rfl, lk, hcd⟩ := F.ex
  exact .all (h kV doc pm an cdv ct)
theorem fun_mk {x qual : Str} {st : Stmt} {f : Addr} {oc : Value} {od an : Option Addr} {osl : Array (Option Value)} {kV doc pm cdv ct : Value} (l : K.lookup f = some ⟨oc, od, .func (PySem.W.fnOf x qual (defArgs st) (defBody st) (defScope st) .none kV doc pm an cdv ct), osl⟩)
    (c : PySem.W.codeIn K cdv qual = true) (k : PySem.W.keepIn K (.ref f) = true) : Fun K x qual st f (PySem.W.fnOf x qual (defArgs st) (defBody st) (defScope st) .none kV doc pm an cdv ct) := ⟨⟨oc, od, kV, doc, pm, an, cdv, ct, osl, rfl, l, c⟩, k⟩
end
theorem small1000 {n : Nat} (h : n ≤ 1000) : n < sizeLine := Nat.lt_of_le_of_lt h (by decide)

/-! ### expressions in short: the name that stands in the i-th slot -/
section
variable {X : Cx}
theorem pv (i : Nat) {x : Str} {pos : Pos} (hN : X.N[i]? = some x := by rfl) (hv : Vis X.env.scope x := by first | exact Or.inl rfl | exact Or.inr (Or.inl rfl) | exact Or.inr (Or.inr rfl)) (hd : (x == ("__debug__" : Str)) = false := by decide)
    (hcd : (x == ("__classdict__" : Str)) = false := by decide) : PE X (.Name x pos) (tVar i) := pe_var hN hv hd hcd
end

/-! ### tests -/
theorem iteF {A B : Prop} (h : B) : if false = true then A else B := by
  rw [if_neg Bool.false_ne_true]
  exact h
theorem iteT {A B : Prop} (h : A) : if true = true then A else B := by
  rw [if_pos rfl]
  exact h
theorem ite2 {c A B : Prop} [Decidable c] (h1 : c → A) (h2 : ¬ c → B) : if c then A else B := by
  by_cases h : c
  · rw [if_pos h]
    exact h1 h
  · rw [if_neg h]
    exact h2 h
theorem iteNS {c A B : Prop} [Decidable c] (hc : c) (h : B) : if (!decide c) = true then A else B := by
  rw [decide_eq_true hc]
  exact iteF h

/-! ### heaps -/
/-- all that was tracked is as it was -/
def Same (H H' : Hp) : Prop := ∀ b o, H b = some o → H' b = some o
theorem Same.refl (H : Hp) : Same H H := fun _ _ h => h
theorem Same.trans {H H1 H2 : Hp} (a : Same H H1) (b : Same H1 H2) : Same H H2 := fun c o h => b c o (a c o h)
theorem Same.free {H H' : Hp} (e : Same H H') {l : Addr} (h : H' l = Option.none) : H l = Option.none := by
  cases q : H l with
  | none => rfl
  | some o =>
    rw [e l o q] at h
    cases h
theorem Same.seq {K : PySem.W.Frag} {H H' : Hp} {a : Addr} {xs : List V} (e : Same H H') (h : SqL K H a xs) : SqL K H' a xs := by
  rcases h with (h | ⟨o, h⟩) | h
  · exact .inl (.inl (e _ _ h))
  · exact .inl (.inr ⟨o, e _ _ h⟩)
  · exact .inr h

end L2
set_option Elab.async false
set_option linter.all false
set_option maxRecDepth 100000
set_option maxHeartbeats 4000000
namespace L2
open PySem PySem.Spec PyProof.Rows

section
variable {prog : Program} {w : World} {A : Around} {R : Result → Shared → Prop} {s : Shared}
/-- the comprehension's loop, the step ahead of the store kept -/
theorem compLoop_go {elt target iter : Expr} {ifs : List Expr} {scope : Scope} {pos : Pos} {it acc : Value} {env : Env} (I : Nat → Shared → Prop)
    (turn : ∀ n s, I n s → wpAny (model prog w) A (pyNext it) (fun r s₁ => match r with
      | none => R (.ok .next) s₁
      | some v => wpAny (model prog w) A (letOwnedTupleGo target it v) (fun _ s₀ => wpAny (model prog w) A (assign target env v) (fun _ s₂ =>
          wpAny (model prog w) A (forIn ifs true fun c r => if r = true then do let ok ← isTrue c env (eval c env); pure (ForInStep.yield ok) else pure (ForInStep.yield r)) (fun ok s₃ =>
            if ok = true then wpAny (model prog w) A (eval elt env) (fun x s₄ =>
              wpAny (model prog w) A (call (.builtin "list.append") [acc, x]) (fun _ s₅ => ∃ m, m < n ∧ I m s₅) (notedBy (model prog w) A env fun e s' => R (.error e) s') s₄) (notedBy (model prog w) A env fun e s' => R (.error e) s') s₃
            else ∃ m, m < n ∧ I m s₃) (notedBy (model prog w) A env fun e s' => R (.error e) s') s₂) (notedBy (model prog w) A env fun e s' => R (.error e) s') s₀) (notedBy (model prog w) A env fun e s' => R (.error e) s') s₁) (notedBy (model prog w) A env fun e s' => R (.error e) s') s)
    (n : Nat) (h : I n s) :
    codeAny (model prog w) A (.compLoop (.ListComp elt [⟨target, iter, ifs, 0⟩] scope pos) 0 it acc env) R s := by
  refine codeAny_loop rfl I (fun n s hI => ?_) n h
  show wpAny _ A ((compTurn (.ListComp elt [⟨target, iter, ifs, 0⟩] scope pos) 0 it acc env).onRaise (fun x => do noteFrame x env; theTreesLotGoes x)) _ _ s
  refine wpAny_noted ?_
  rw [compTurn_list]
  refine wpAny_bind (wpAny_standAt (wpAny_bind (wpAny_mono (turn n s hI) (fun r s₁ h₁ => ?_) fun _ _ h' => h')))
  cases r with
  | none => exact wpAny_pure h₁
  | some v =>
    refine wpAny_bind (wpAny_mono h₁ (fun _ s₀ h₀ => ?_) fun _ _ h' => h')
    refine wpAny_bind (wpAny_mono h₀ (fun _ s₂ h₂ => wpAny_bind (wpAny_mono h₂ (fun ok s₃ h₃ => ?_) fun _ _ h' => h')) fun _ _ h' => h')
    cases ok with
    | false => exact wpAny_pure ⟨rfl, h₃⟩
    | true =>
      exact wpAny_bind (wpAny_bind (wpAny_mono h₃ (fun x s₄ h₄ => wpAny_bind (wpAny_mono h₄ (fun _ s₅ h₅ => wpAny_pure (wpAny_pure ⟨rfl, h₅⟩)) fun _ _ h' => h')) fun _ _ h' => h'))
end

/-- the closure that a comprehension takes -/
def closL (env : Env) (l : List (Str × NameKind)) : List (Str × Addr) → List (Str × Addr) := fun cs => l.foldl (fun cs p => if p.2 == .free then (p.1, (env.cells.lookup p.1).getD 0) :: cs else cs) cs
def FreeIn (env : Env) (l : List (Str × NameKind)) : Prop := ∀ p ∈ l, p.2 = .free → ∃ c, env.cells.lookup p.1 = some c
theorem closure_eq {env : Env} {scope : Scope} (h : FreeIn env scope.names) : closureFor scope env = pure (closL env scope.names []) := by
  have all : ∀ (l : List (Str × NameKind)) (cs : List (Str × Addr)), FreeIn env l → (forIn l cs fun x r => if (x.2 == .free) = true then do let a ← cellOf env x.1; pure (ForInStep.yield ((x.1, a) :: r)) else pure (ForInStep.yield r) : Sem (List (Str × Addr))) = pure (closL env l cs) := by
    intro l
    induction l with
    | nil => intro cs _; rfl
    | cons p r ih =>
      intro cs hf
      have e : closL env (p :: r) cs = closL env r (if p.2 == .free then (p.1, (env.cells.lookup p.1).getD 0) :: cs else cs) := rfl
      rw [List.forIn_cons, e]
      cases hk : (p.2 == NameKind.free) with
      | true =>
        obtain ⟨c, hc⟩ := hf p List.mem_cons_self (eq_of_beq hk)
        have hcell : cellOf env p.1 = pure c := by unfold cellOf; rw [hc]
        simp only [if_true, hcell, pure_bind]
        rw [ih _ fun q hq => hf q (List.mem_cons_of_mem _ hq), hc]
        rfl
      | false =>
        simp only [Bool.false_eq_true, if_false, pure_bind]
        exact ih _ fun q hq => hf q (List.mem_cons_of_mem _ hq)
  have := all scope.names [] h
  simpa [closureFor] using this
theorem clos_sub {env : Env} : ∀ {l : List (Str × NameKind)} {cs : List (Str × Addr)} {x : Str} {c : Addr}, FreeIn env l → (closL env l cs).lookup x = some c → cs.lookup x = some c ∨ env.cells.lookup x = some c
  | [], _, _, _, _, h => .inl h
  | p :: r, cs, x, c, hf, h => by
    have h' : (closL env r (if p.2 == .free then (p.1, (env.cells.lookup p.1).getD 0) :: cs else cs)).lookup x = some c := h
    rcases clos_sub (fun q hq => hf q (List.mem_cons_of_mem _ hq)) h' with q | q
    · cases hk : (p.2 == NameKind.free) with
      | true =>
        rw [hk, if_pos rfl, List.lookup_cons] at q
        cases e : x == p.1 with
        | true =>
          rw [e] at q
          obtain ⟨d, hd⟩ := hf p List.mem_cons_self (eq_of_beq hk)
          refine .inr ?_
          rw [eq_of_beq e, hd]
          rw [hd] at q
          exact q
        | false =>
          rw [e] at q
          exact .inl q
      | false =>
        rw [hk, if_neg Bool.false_ne_true] at q
        exact .inl q
    · exact .inr q
theorem clos_mono {env : Env} {x : Str} : ∀ {l : List (Str × NameKind)} {cs : List (Str × Addr)}, (cs.lookup x).isSome = true → ((closL env l cs).lookup x).isSome = true
  | [], _, h => h
  | p :: r, cs, h => by
    show ((closL env r (if p.2 == .free then (p.1, (env.cells.lookup p.1).getD 0) :: cs else cs)).lookup x).isSome = true
    refine clos_mono ?_
    cases hk : (p.2 == NameKind.free) with
    | true =>
      rw [if_pos rfl, List.lookup_cons]
      cases e : x == p.1 with
      | true => rfl
      | false => exact h
    | false => rw [if_neg Bool.false_ne_true]; exact h
theorem clos_has {env : Env} {x : Str} : ∀ {l : List (Str × NameKind)} {cs : List (Str × Addr)}, (x, NameKind.free) ∈ l → ((closL env l cs).lookup x).isSome = true
  | [], _, h => by cases h
  | p :: r, cs, h => by
    show ((closL env r (if p.2 == .free then (p.1, (env.cells.lookup p.1).getD 0) :: cs else cs)).lookup x).isSome = true
    rcases List.mem_cons.mp h with e | h
    · subst e
      refine clos_mono ?_
      show (List.lookup x ((x, (env.cells.lookup x).getD 0) :: cs)).isSome = true
      rw [List.lookup_cons, beq_self_eq_true]
      rfl
    · exact clos_has h
def SubCells (env : Env) (cl : List (Str × Addr)) : Prop := ∀ x c, cl.lookup x = some c → env.cells.lookup x = some c
theorem SubCells.get {env : Env} {cl : List (Str × Addr)} {x : Str} {c : Addr} (h : SubCells env cl) (e : cl.lookup x = some c) : env.cells.lookup x = some c := h x c e
theorem sub_clos {env : Env} {l : List (Str × NameKind)} (h : FreeIn env l) : SubCells env (closL env l []) := fun x c e => by
  rcases clos_sub h e with q | q
  · cases q
  · exact q
/-- a free name of the block is a cell of it, or still free -/
theorem relabel_free {env : Env} : ∀ {names : List (Str × NameKind)} {x : Str}, names.lookup x = some .free →
    (names.map fun (n, k) => if (k == NameKind.free && env.scope.kind == .function && env.kindOf n == some .cell) then (n, NameKind.cell) else (n, k)).lookup x = some .cell ∨
    (names.map fun (n, k) => if (k == NameKind.free && env.scope.kind == .function && env.kindOf n == some .cell) then (n, NameKind.cell) else (n, k)).lookup x = some .free
  | [], _, h => by simp at h
  | (n, k) :: r, x, h => by
    rw [List.lookup_cons] at h
    simp only [List.map_cons]
    cases hx : x == n with
    | true =>
      rw [hx] at h
      cases h
      split
      · exact .inl (by rw [List.lookup_cons, hx])
      · exact .inr (by rw [List.lookup_cons, hx])
    | false =>
      rw [hx] at h
      have ih := relabel_free (env := env) h
      split
      · rw [List.lookup_cons, hx]; exact ih
      · rw [List.lookup_cons, hx]; exact ih
theorem relabel_back {env : Env} : ∀ {names : List (Str × NameKind)} {x : Str}, (∀ y ∈ names, y.2 ≠ .cell) →
    ((names.map fun (n, k) => if (k == NameKind.free && env.scope.kind == .function && env.kindOf n == some .cell) then (n, NameKind.cell) else (n, k)).lookup x = some .cell ∨
    (names.map fun (n, k) => if (k == NameKind.free && env.scope.kind == .function && env.kindOf n == some .cell) then (n, NameKind.cell) else (n, k)).lookup x = some .free) → (x, NameKind.free) ∈ names
  | [], _, _, h => by simp at h
  | (n, k) :: r, x, hc, h => by
    have hr : ∀ y ∈ r, y.2 ≠ .cell := fun y hy => hc y (List.mem_cons_of_mem _ hy)
    simp only [List.map_cons] at h
    cases hx : x == n with
    | true =>
      have en := eq_of_beq hx
      subst en
      by_cases hk : k = .free
      · subst hk; exact List.mem_cons_self
      · have hb : (k == NameKind.free) = false := by simpa using hk
        simp only [hb, Bool.false_and, Bool.false_eq_true, if_false, List.lookup_cons, beq_self_eq_true] at h
        rcases h with h | h
        · exact absurd (Option.some.inj h) (hc _ List.mem_cons_self)
        · exact absurd (Option.some.inj h) hk
    | false =>
      refine List.mem_cons_of_mem _ (relabel_back (env := env) hr ?_)
      split at h
      · simpa only [List.lookup_cons, hx] using h
      · simpa only [List.lookup_cons, hx] using h
def FreeOk (X : Cx) (scope : Scope) : List Nat → List Str → Prop
  | [], [] => True
  | i :: is, y :: ys => X.N[i]? = some y ∧ (X.env.kindOf y = some .cell ∨ X.env.kindOf y = some .free) ∧ scope.names.lookup y = some .free ∧ FreeOk X scope is ys
  | _, _ => False
theorem FreeOk.len {X : Cx} {scope : Scope} : ∀ {is : List Nat} {ys : List Str}, FreeOk X scope is ys → is.length = ys.length
  | [], [], _ => rfl
  | _ :: _, _ :: _, h => congrArg (· + 1) h.2.2.2.len
theorem FreeOk.get {X : Cx} {scope : Scope} : ∀ {is : List Nat} {ys : List Str} {j : Nat} {y : Str}, FreeOk X scope is ys → ys[j]? = some y →
    ∃ i, is[j]? = some i ∧ X.N[i]? = some y ∧ (X.env.kindOf y = some .cell ∨ X.env.kindOf y = some .free) ∧ scope.names.lookup y = some .free
  | [], [], _, _, _, h => by simp at h
  | i :: _, z :: _, 0, y, f, h => by
    simp at h
    subst h
    exact ⟨i, rfl, f.1, f.2.1, f.2.2.1⟩
  | _ :: is, _ :: ys, j + 1, y, f, h => by
    obtain ⟨i, e, r⟩ := FreeOk.get (j := j) f.2.2.2 (by simpa using h)
    exact ⟨i, by simpa using e, r⟩

/-- the context of a comprehension's block -/
def cxComp (X : Cx) (N : List Str) (scope : Scope) (cl : List (Str × Addr)) (C : Addr) (s : Shared) (H : Hp) (fp : List Addr) (E : Value → Shared → Prop) : Cx where
  prog := X.prog
  w := X.w
  K := X.K
  mg := X.mg
  base := X.base
  A := X.A
  N := N
  s₀ := s
  H₀ := H
  env := compEnvC scope cl C X.env
  outer := X.stack
  stack := X.stack
  ex := fp
  fn := fun _ => false
  calm := X.calm
  pn := []
  xe := E

def cSlots (σ : St) (ix : List Nat) (x : V) : St := some x :: ix.map fun i => (σ[i]?).join

def PTs (X : Cx) (ifs : List Expr) (tt : TT) : Prop :=
  ∀ (pins : List (Addr × Obj)) (s : Shared) (σ : St) (H : Hp) (Q : Bool → Hp → Prop), Inv X pins σ H s → tt σ H Q →
    wpAny (model X.prog X.w) X.A (forIn ifs true fun c r => if r = true then do let ok ← isTrue c X.env (eval c X.env); pure (ForInStep.yield ok) else pure (ForInStep.yield r)) (TP X pins σ Q) X.xe s
def tTrue : TT := fun _ H Q => Q true H
theorem pts_nil {X : Cx} : PTs X [] tTrue := fun _ _ _ H _ I h => wpAny_tests_nil ⟨H, I, h⟩
theorem pts_one {X : Cx} {c : Expr} {t : TT} (h : PT X c t) : PTs X [c] t := fun pins s σ H Q I hw => wpAny_tests_one (h pins s σ H Q I hw)

/-- the comprehension's end: D its list; W the invariant by the turn and a measure -/
def cEnd (J : It) (σ : St) (ix : List Nat) (tt : TT) (te : TE) (H1 : Hp) (Q : VK) : Prop :=
  ∀ D, H1 D = none → ∃ W : Nat → Nat → Hp → Prop, (∃ m, W 0 m (upd H1 D (.lst []))) ∧ ∀ i m H, W i m H →
    (J.stop i H ∧ Q (.ref D) H) ∨ (J.go i H ∧ ∀ x H', J.yld i H x H' → tt (cSlots σ ix x) H' fun c H2 =>
      if c = true then te (cSlots σ ix x) H2 fun y H3 => ∃ ys m', H3 D = some (.lst ys) ∧ ys.length < sizeLine ∧ m' < m ∧ W (i + 1) m' (upd H3 D (.lst (ys ++ [y])))
      else ∃ m', m' < m ∧ W (i + 1) m' H2)
def tComp (wi : TI) (ix : List Nat) (tt : TT) (te : TE) : TE := fun σ H Q => wi σ H fun J H1 => cEnd J σ ix tt te H1 Q

section
variable {X : Cx} {pins : List (Addr × Obj)} {σ : St} {H : Hp} {s : Shared}

theorem slots_get {ix : List Nat} {j : Nat} {v : V} (h : (ix.map fun i => (σ[i]?).join)[j]? = some (some v)) : ∃ i, ix[j]? = some i ∧ σ[i]? = some (some v) := by
  rw [List.getElem?_map] at h
  cases e : ix[j]? with
  | none => rw [e] at h; cases h
  | some i =>
    rw [e] at h
    have h' : (σ[i]?).join = some v := Option.some.inj h
    refine ⟨i, rfl, ?_⟩
    cases q : σ[i]? with
    | none => rw [q] at h'; cases h'
    | some o =>
      rw [q] at h'
      cases o with
      | none => cases h'
      | some z => cases h'; rfl

def kindsOk (env : Env) (l : List (Str × NameKind)) : Bool := l.all fun p => !(p.2 == .free) || env.kindOf p.1 == some .cell || env.kindOf p.1 == some .free
theorem kinds_free {X : Cx} {l : List (Str × NameKind)} (ok : X.Ok) (h : kindsOk X.env l = true) : FreeIn X.env l := fun p hp hk => by
  have q := List.all_eq_true.mp h p hp
  rw [hk] at q
  have q' : (X.env.kindOf p.1 == some .cell || X.env.kindOf p.1 == some .free) = true := by simpa using q
  rcases Bool.or_eq_true_iff.mp q' with q | q
  · exact ok.has p.1 (.inl (eq_of_beq q))
  · exact ok.has p.1 (.inr (eq_of_beq q))
/-- what a block's scope must be: its own names local, no cells of its own -/
def blockOk (scope : Scope) (x : Str) : Bool := scope.kind == .function && scope.names.lookup x == some .local && scope.names.all (fun p => !(p.2 == .cell)) && scope.names.all (fun p => !(p.2 == .local) || scope.names.lookup p.1 == some .local)
structure BlockOk (scope : Scope) (x : Str) : Prop where
  kind : scope.kind = .function
  own : scope.names.lookup x = some .local
  cell : ∀ y ∈ scope.names, y.2 ≠ .cell
  names : ∀ y ∈ scope.names, y.2 = .local → scope.names.lookup y.1 = some .local
theorem block_of {scope : Scope} {x : Str} (h : blockOk scope x = true) : BlockOk scope x := by
  unfold blockOk at h
  rw [Bool.and_eq_true, Bool.and_eq_true, Bool.and_eq_true] at h
  obtain ⟨⟨⟨h1, h2⟩, h3⟩, h4⟩ := h
  refine ⟨eq_of_beq h1, eq_of_beq h2, fun y hy z => ?_, fun y hy z => ?_⟩
  · have := List.all_eq_true.mp h3 y hy
    rw [z] at this
    cases this
  · have := List.all_eq_true.mp h4 y hy
    rw [z] at this
    have q : (scope.names.lookup y.1 == some NameKind.local) = true := by simpa using this
    exact eq_of_beq q
theorem has_of {scope : Scope} {env : Env} (hcell : ∀ y ∈ scope.names, y.2 ≠ .cell) (y : Str) (h : (relabel scope env).names.lookup y = some .cell ∨ (relabel scope env).names.lookup y = some .free) : ∃ c, (closL env scope.names []).lookup y = some c :=
  Option.isSome_iff_exists.mp (clos_has (relabel_back hcell h))

/-- y = [.. for ..] where the stores are exchanged -/
def tSetComp (i : Nat) (t : TE) : TS := fun D σ H => t σ H fun v H1 => D.nx (σ.set i (some v)) H1
end
end L2
set_option Elab.async false
set_option linter.all false
set_option maxRecDepth 100000
set_option maxHeartbeats 4000000
namespace L2
open PySem PySem.Spec PyProof.Rows
/-- a comprehension whose target is any target: xs its names -/
def tSlots0 (xs : List Str) (σ : St) (ix : List Nat) : St := xs.map (fun _ => (none : Option V)) ++ ix.map fun i => (σ[i]?).join
def cEndT (J : It) (k : Nat) (g : TG) (σ : St) (ix : List Nat) (tt : TT) (te : TE) (H1 : Hp) (Q : VK) : Prop :=
  ∀ D, H1 D = none → ∃ W : Nat → Nat → Hp → Prop, (∃ m, W 0 m (upd H1 D (.lst []))) ∧ ∀ i m H, W i m H →
    (J.stop i H ∧ Q (.ref D) H) ∨ (J.go i H ∧ ∀ x H', J.yld i H x H' → ∀ os : St, os.length = k → g x (os ++ ix.map fun i => (σ[i]?).join) H' fun σ6 H6 => (∃ os' : St, os'.length = k ∧ σ6 = os' ++ ix.map fun i => (σ[i]?).join) ∧ tt σ6 H6 fun c H2 =>
      if c = true then te σ6 H2 fun y H3 => ∃ ys m', H3 D = some (.lst ys) ∧ ys.length < sizeLine ∧ m' < m ∧ W (i + 1) m' (upd H3 D (.lst (ys ++ [y])))
      else ∃ m', m' < m ∧ W (i + 1) m' H2)
def tCompT (k : Nat) (g : TG) (wi : TI) (ix : List Nat) (tt : TT) (te : TE) : TE := fun σ H Q => wi σ H fun J H1 => cEndT J k g σ ix tt te H1 Q
section
variable {X : Cx} {pins : List (Addr × Obj)} {σ : St} {H : Hp} {s : Shared}
theorem inv_compT {xs : List Str} {ys : List Str} {ix : List Nat} {scope : Scope} {cl : List (Str × Addr)} {fp : List Addr} {E : Value → Shared → Prop} {h₁ : Heap} {D C n : Nat} {tk : Nat} {m : Str → Option Value}
    (I : Inv X pins σ H s) (hf : ∀ b ∈ fp, FpOk X pins H b ∧ b < s.heap.objs.size) (sub : SubCells X.env cl) (hkind : scope.kind = .function)
    (hhas : ∀ y, ((relabel scope X.env).names.lookup y = some .cell ∨ (relabel scope X.env).names.lookup y = some .free) → ∃ c, cl.lookup y = some c) (fo : FreeOk X scope ix ys)
    (hD : s.heap.objs.size ≤ D) (hC : s.heap.objs.size ≤ C) (hDC : D ≠ C) (hns : h₁.Ns C m) (k : ∀ b o, s.heap.get? b = some o → h₁.get? b = some o)
    (hd : h₁.get? D = some { cls := .type "list", data := .seq ([] : List Value).toArray n }) :
    Inv (cxComp X (xs ++ ys) scope cl C s H fp E) [] (tSlots0 xs σ ix) (upd H D (.lst [])) { s with heap := h₁, toks := tk } := by
  have lt_of_cell : ∀ y c, cl.lookup y = some c → c < s.heap.objs.size := fun y c e => by
    obtain ⟨v, q⟩ := I.cell y c (sub.get e)
    exact q.lt
  refine ⟨⟨I.ok.mod, hkind, I.ok.glob, I.ok.blt, hC, fun y z c h1 h2 => I.ok.inj y z c (sub.get h1) (sub.get h2), hhas, fun y c h _ => absurd h (by simp [cxComp]), I.ok.hd, I.ok.frames, .inl rfl, fun b hb => ⟨?_, fun y c e => ?_⟩, I.bs, Nat.le_trans I.ok.bsz I.sz, fun b o e hb => ?_, fun b hb z => ?_, I.stack, I.stkFree⟩,
    rfl, I.bare, Un.laid k hD (I.hok.fresh hD), ⟨m, hns, fun j y v e1 e2 e3 => ?_⟩, fun y c e => ?_, ?_, fun y c e => ?_, fun p hp => absurd (show p ∈ ([] : List (Addr × Obj)) from hp) (by simp), I.hok.laid k hD ?_, ?_⟩
  · exact Nat.ne_of_lt (Nat.lt_of_lt_of_le (hf b hb).2 hC)
  · exact (hf b hb).1.2.2.2.2.1 y c (sub.get e)
  · obtain ⟨_, _, _, z, _⟩ := (hf b hb).1
    rcases z with z | z
    · exact I.ok.noex b o e z
    · exact absurd (Nat.lt_of_lt_of_le (Heap.lt_size (I.ok.bs b o e).1) z) (Nat.lt_irrefl _)
  · obtain ⟨_, z1, z2, _⟩ := (hf b hb).1
    rcases List.mem_cons.mp (I.stkSub b z) with q | q
    · exact z1 q
    · exact z2 q
  · by_cases hj : j < xs.length
    · exfalso
      have e3 : (xs.map (fun _ => (none : Option V)) ++ ix.map fun i => (σ[i]?).join)[j]? = some (some v) := e2
      rw [List.getElem?_append_left (by rw [List.length_map]; exact hj), List.getElem?_map, List.getElem?_eq_getElem hj] at e3
      cases e3
    · have e0 : (xs ++ ys)[j]? = some y := e1
      have e1' : ys[j - xs.length]? = some y := by rw [List.getElem?_append_right (Nat.le_of_not_lt hj)] at e0; exact e0
      have e3 : (xs.map (fun _ => (none : Option V)) ++ ix.map fun i => (σ[i]?).join)[j]? = some (some v) := e2
      have e2' : (ix.map fun i => (σ[i]?).join)[j - xs.length]? = some (some v) := by
        rw [List.getElem?_append_right (by rw [List.length_map]; exact Nat.le_of_not_lt hj), List.length_map] at e3
        exact e3
      obtain ⟨i, q1, q2⟩ := slots_get e2'
      obtain ⟨i', p1, p2, p3, p4'⟩ := fo.get e1'
      rw [q1] at p1
      cases p1
      have p4 : (relabel scope X.env).names.lookup y = some .cell ∨ (relabel scope X.env).names.lookup y = some .free := relabel_free p4'
      obtain ⟨c, p5⟩ := hhas y p4
      obtain ⟨m0, hn0, hl⟩ := I.loc
      obtain ⟨u, r, l⟩ := hl i y v p2 q2 (.inr p3)
      refine ⟨u, r, .inr ⟨p4, c, p5, ?_⟩⟩
      rcases l with ⟨l1, _⟩ | ⟨_, c', l2, l3⟩
      · rcases p3 with p3 | p3
        · rw [l1] at p3; cases p3
        · rw [l1] at p3; cases p3
      · rw [sub.get p5] at l2
        cases l2
        obtain ⟨o, ho, hd'⟩ := l3
        exact ⟨o, k _ _ ho, hd'⟩
  · obtain ⟨v, o, ho, hd'⟩ := I.cell y c (sub.get e)
    exact ⟨v, o, k _ _ ho, hd'⟩
  · show upd H D (.lst []) C = none
    rw [upd_ne (Ne.symm hDC)]
    exact I.hok.fresh hC
  · show upd H D (.lst []) c = none
    rw [upd_ne (Nat.ne_of_lt (Nat.lt_of_lt_of_le (lt_of_cell y c e) hD))]
    exact I.freeC y c (sub.get e)
  · exact ⟨Nat.zero_le _, [], n, .nil, hd⟩
  · show (tSlots0 xs σ ix).length = (xs ++ ys).length
    unfold tSlots0
    rw [List.length_append, List.length_map, List.length_map, fo.len, List.length_append]

theorem comp_blockT {elt iter tg : Expr} {xs : List Str} {g : TG} {ifs : List Expr} {scope : Scope} {cl : List (Str × Addr)} {pos : Pos} {ix : List Nat} {ys : List Str} {tt : TT} {te : TE} {it : Addr} {fp : List Addr} {tn : Nat → Heap → Prop} {J : It} {Q : VK} {E : Value → Shared → Prop}
    {RR : Value → Addr → Result → Shared → Prop}
    (hc : X.calm = true) (hg : ∀ C s H fp E, PG (cxComp X (xs ++ ys) scope cl C s H fp E) tg g) (ht : ∀ C s H fp E, PTs (cxComp X (xs ++ ys) scope cl C s H fp E) ifs tt) (he : ∀ C s H fp E, PE (cxComp X (xs ++ ys) scope cl C s H fp E) elt te)
    (sub : SubCells X.env cl) (hkind : scope.kind = .function) (hcell : ∀ y ∈ scope.names, y.2 ≠ .cell)
    (hhas : ∀ y, ((relabel scope X.env).names.lookup y = some .cell ∨ (relabel scope X.env).names.lookup y = some .free) → ∃ c, cl.lookup y = some c) (fo : FreeOk X scope ix ys)
    (I : Inv X pins σ H s) (T : Turn X.prog X.w X.K tg J fp it tn) (st : tn 0 s.heap) (hf : ∀ b ∈ fp, FpOk X pins H b) (q : cEndT J xs.length g σ ix tt te H Q)
    (hRR : ∀ D C s' H' m, s.heap.objs.size ≤ C → Inv X pins σ H' s' → FpOk X pins H' C → s'.heap.Ns C m → Q (.ref D) H' → RR (.ref D) C (.ok .next) s') :
    wpAny (model X.prog X.w) X.A (newList []) (fun acc s₃ => wpAny (model X.prog X.w) X.A (newFunctionEnv scope X.env.globals cl [] X.env.qual none .none (some X.env)) (fun cenv s₄ =>
      codeAny (model X.prog X.w) X.A (.compStart (.ListComp elt [⟨tg, iter, ifs, 0⟩] scope pos) 0 (.ref it) acc { cenv with scope := relabel scope X.env }) (RR acc cenv.locals) s₄) E s₃) E s := by
  refine wpAny_newObj_type (wpAny_newFunctionEnv hcell (by intro y hy; simp at hy) (fun h₁ hns₁ hsb₁ => ?_) hkind)
  dsimp only at hns₁ hsb₁ ⊢
  generalize hH2 : s.heap.push { cls := .type "list", dict := none, data := .seq ([] : List Value).toArray } = H2 at hns₁ hsb₁ ⊢
  have hC : H2.objs.size = s.heap.objs.size + 1 := by rw [← hH2, Heap.size_push]
  have hDC : s.heap.objs.size ≠ H2.objs.size := by rw [hC]; exact Nat.ne_of_lt (Nat.lt_succ_self _)
  have hCle : s.heap.objs.size ≤ H2.objs.size := by rw [hC]; exact Nat.le_succ _
  have below : ∀ b, b < s.heap.objs.size → b ≠ H2.objs.size ∧ b ≠ s.heap.objs.size := fun b hb => ⟨by rw [hC]; exact Nat.ne_of_lt (Nat.lt_succ_of_lt hb), Nat.ne_of_lt hb⟩
  have old : ∀ b o, s.heap.get? b = some o → h₁.get? b = some o := fun b o e => hsb₁.extBut b o (below b (Heap.lt_size e)).1 (Heap.get?_push_of_some _ (hH2 ▸ Heap.get?_push_of_some _ e))
  have hacc : ∃ n, h₁.get? s.heap.objs.size = some { cls := .type "list", data := .seq ([] : List Value).toArray n } := ⟨_, hsb₁.extBut _ _ hDC (Heap.get?_push_of_some _ (hH2 ▸ Heap.get?_push_size _ rfl))⟩
  obtain ⟨nD, hacc⟩ := hacc
  have hf' : ∀ b ∈ fp, FpOk X pins H b ∧ b < s.heap.objs.size := fun b hb => ⟨hf b hb, by obtain ⟨o, e, _⟩ := T.obj 0 _ st b hb; exact Heap.lt_size e⟩
  have hDn : H s.heap.objs.size = none := I.hok.fresh (Nat.le_refl _)
  obtain ⟨W, ⟨m0, w0⟩, turn⟩ := q _ hDn
  generalize hE : notedBy (model X.prog X.w) X.A (compEnvC scope cl H2.objs.size X.env) (fun e s' => RR (.ref s.heap.objs.size) H2.objs.size (.error e) s') = EE
  have I0 : Inv (cxComp X (xs ++ ys) scope cl H2.objs.size s H fp EE) [] (tSlots0 xs σ ix) (upd H s.heap.objs.size (.lst [])) { s with heap := h₁, toks := s.toks + ([] : List (Str × Value)).length } :=
    inv_compT I hf' sub hkind hhas fo (Nat.le_refl _) hCle hDC hns₁ old hacc
  have st1 : tn 0 h₁ := T.keep _ _ _ st fun b _ o e => old b o e
  have fr1 : ∀ b ∈ fp, upd H s.heap.objs.size (.lst []) b = none := fun b hb => by rw [upd_ne (below b (hf' b hb).2).2]; exact (hf b hb).1
  have stat : ∀ {H' : Hp}, (∀ b ∈ fp, H' b = none) → ∀ b ∈ fp, FpOk (cxComp X (xs ++ ys) scope cl H2.objs.size s H fp EE) [] H' b := fun hn b hb =>
    ⟨hn b hb, (I0.ok.exf b hb).1, I0.ok.exfs b hb, .inl hb, (I0.ok.exf b hb).2, fun p hp => absurd (show p ∈ ([] : List (Addr × Obj)) from hp) (by simp)⟩
  have loop : ∀ s₃ : Shared, s₃ = { s with heap := h₁, toks := s.toks + ([] : List (Str × Value)).length } →
      codeAny (model X.prog X.w) X.A (.compLoop (.ListComp elt [⟨tg, iter, ifs, 0⟩] scope pos) 0 (.ref it) (.ref s.heap.objs.size) (compEnvC scope cl H2.objs.size X.env)) (RR (.ref s.heap.objs.size) H2.objs.size) s₃ := by
    rintro s₃ rfl
    refine compLoop_go (fun n s' => ∃ i σ' H', Inv (cxComp X (xs ++ ys) scope cl H2.objs.size s H fp EE) [] σ' H' s' ∧ (∃ os : St, os.length = xs.length ∧ σ' = os ++ ix.map fun i => (σ[i]?).join) ∧ tn i s'.heap ∧ (∀ b ∈ fp, H' b = none) ∧ W i n H') ?_ m0 ⟨0, _, _, I0, ⟨_, List.length_map _, rfl⟩, st1, fr1, w0⟩
    rintro n s3 ⟨i, σ3, H3, I3, ⟨o3, ho3, hσ3⟩, st3, fr3, w3⟩
    rw [hE]
    rcases turn i n H3 w3 with ⟨stop, qn⟩ | ⟨go, step⟩
    · refine thn (T.done (cxComp X (xs ++ ys) scope cl H2.objs.size s H fp EE) rfl rfl rfl hc i [] s3 σ3 H3 EE I3 (stat fr3) st3 stop) fun r s4 ⟨hr, I4⟩ => ?_
      subst hr
      obtain ⟨m4, hn4, _⟩ := I4.loc
      have Ix : Inv X pins σ H3 s4 := I.call' (s' := s4) (ch := fp) I4.os I4.base I4.hok I4.bare fun b hb => by
        obtain ⟨_, z1, _, z3, z4, z5⟩ := hf b hb
        exact ⟨z3, z1, z4, z5⟩
      exact hRR _ _ s4 H3 m4 hCle Ix (I.fpOk hCle I4.free) hn4 qn
    · refine thn (T.item (cxComp X (xs ++ ys) scope cl H2.objs.size s H fp EE) rfl rfl rfl hc i [] s3 σ3 H3 EE I3 (stat fr3) st3 go) fun r s4 ⟨u, hr, h4⟩ => ?_
      subst hr
      refine thn h4 fun _ s5 ⟨xv, H5, I5, r5, y5, st5, fr5⟩ => ?_
      have I5' := I5.pinned (stat fr5) (T.obj _ _ st5)
      have again : ∀ {σ7 : St} {H7 : Hp} {s7 : Shared} {m' : Nat}, Inv (cxComp X (xs ++ ys) scope cl H2.objs.size s H fp EE) ([] ++ pinsAt fp s5.heap) σ7 H7 s7 → (∃ os : St, os.length = xs.length ∧ σ7 = os ++ ix.map fun i => (σ[i]?).join) → m' < n → W (i + 1) m' H7 →
          ∃ m, m < n ∧ ∃ i σ' H', Inv (cxComp X (xs ++ ys) scope cl H2.objs.size s H fp EE) [] σ' H' s7 ∧ (∃ os : St, os.length = xs.length ∧ σ' = os ++ ix.map fun i => (σ[i]?).join) ∧ tn i s7.heap ∧ (∀ b ∈ fp, H' b = none) ∧ W i m H' := fun {σ7 H7 s7 m'} I7 e7 hm w7 => by
        refine ⟨m', hm, i + 1, σ7, H7, I7.unpinned, e7, T.keep _ _ _ st5 fun b hb o e => (I7.pin (b, o) (List.mem_append_right _ (List.mem_append_right _ (mem_pinsAt hb e)))).1, fun b hb => ?_, w7⟩
        obtain ⟨o, e, d⟩ := T.obj _ _ st5 b hb
        exact (I7.pin (b, o) (List.mem_append_right _ (List.mem_append_right _ (mem_pinsAt hb e)))).2.1
      have stp := step xv _ y5 o3 ho3
      rw [← hσ3] at stp
      refine thn (hg _ _ _ _ _ _ s5 σ3 H5 xv u _ I5' r5 stp) fun _ s6 ⟨σ6, H6, I6, e6, q6⟩ => ?_
      refine thn (ht _ _ _ _ _ _ s6 _ _ _ I6 q6) fun ok s7 ⟨H7, I7, q7⟩ => ?_
      cases ok with
      | false =>
        rw [if_neg Bool.false_ne_true] at q7 ⊢
        obtain ⟨m', hm, w7⟩ := q7
        exact again I7 e6 hm w7
      | true =>
        rw [if_pos rfl] at q7 ⊢
        refine thn (he _ _ _ _ _ _ s7 _ _ _ I7 q7) fun y s8 ⟨yv, H8, I8, r8, ys8, m', e8, z8, hm, w8⟩ => ?_
        refine thn (mt_append _ s8 _ H8 (.ref s.heap.objs.size) [yv] (.ref s.heap.objs.size) [y] (fun _ H9 => W (i + 1) m' H9) I8 rfl (.cons r8 .nil) ⟨_, ys8, yv, rfl, rfl, e8, z8, w8⟩) fun _ s9 ⟨_, H9, I9, _, w9⟩ => ?_
        exact again I9 e6 hm w9
  exact codeAny_compStart_list (loop _ rfl) (T.self _ 0 _ _ _ st1 (loop _ rfl))

theorem pe_compT {elt iter tg : Expr} (xs : List Str) (x : Str) {g : TG} {ifs : List Expr} {scope : Scope} {pos : Pos} {wi : TI} {tt : TT} {te : TE} (ix : List Nat) (ys : List Str)
    (hc : X.calm = true) (hg : ∀ C s H fp E, PG (cxComp X (xs ++ ys) scope (closL X.env scope.names []) C s H fp E) tg g) (hi : PI X tg iter wi) (ht : ∀ C s H fp E, PTs (cxComp X (xs ++ ys) scope (closL X.env scope.names []) C s H fp E) ifs tt) (he : ∀ C s H fp E, PE (cxComp X (xs ++ ys) scope (closL X.env scope.names []) C s H fp E) elt te)
    (fo : FreeOk X scope ix ys) (hk : kindsOk X.env scope.names = true := by rfl) (hb : blockOk scope x = true := by rfl)
    (hs : ∀ x, foldedSetIterable iter X.env x = pure x := by intro _; rfl) :
    PE X (.ListComp elt [⟨tg, iter, ifs, 0⟩] scope pos) (tCompT xs.length g wi ix tt te) := by
  intro pins s σ H Q I h
  have B := block_of hb
  have F := kinds_free I.ok hk
  rw [eval_ListComp]
  refine wpAny_comprehension_free (use := none) rfl hs (closure_eq F) B.kind B.names (thn (hi pins s σ H _ I h) fun v s1 h1 => thn h1 fun itv s2 h2 => ?_)
  obtain ⟨it, fp, tn, J, H2, e, I2, T, st2, f2, q2⟩ := h2
  subst e
  refine comp_blockT (RR := fun acc C => compPost (model X.prog X.w) X.A X.xe none (EP X pins σ Q) acc C) hc hg ht he (sub_clos F) B.kind B.cell (has_of B.cell) fo I2 T st2 f2 q2 ?_
  intro D C s' H' m hC Ix fC hn q
  refine ⟨m, hn, fun h' sb => ⟨.ref D, H', ?_, rfl, q⟩⟩
  obtain ⟨f0, f1, _, f3, f4, f5⟩ := fC
  exact Ix.turned (t' := s'.toks) (fun b o hb e => (sb.2 b hb).trans e) f0 f1 f3 f4 f5

theorem ps_setCompT {elt iter tg : Expr} (xs : List Str) (x : Str) {g : TG} {y : Str} {py : Pos} {ifs : List Expr} {scope : Scope} {pos spos : Pos} {wi : TI} {tt : TT} {te : TE} {i : Nat} (ix : List Nat) (ys : List Str)
    (hN : X.N.Nodup) (hiN : X.N[i]? = some y) (hy : X.env.scope.names.lookup y = some .local)
    (hc : X.calm = true) (hg : ∀ C s H fp E, PG (cxComp X (xs ++ ys) scope (closL X.env scope.names []) C s H fp E) tg g) (hi : PI X tg iter wi) (ht : ∀ C s H fp E, PTs (cxComp X (xs ++ ys) scope (closL X.env scope.names []) C s H fp E) ifs tt) (he : ∀ C s H fp E, PE (cxComp X (xs ++ ys) scope (closL X.env scope.names []) C s H fp E) elt te)
    (fo : FreeOk X scope ix ys)
    (hsw : swapsWith (.ListComp elt [⟨tg, iter, ifs, 0⟩] scope pos) (some (.Name y py)) spos.line X.env = pure true := by rfl)
    (hk : kindsOk X.env scope.names = true := by rfl) (hb : blockOk scope x = true := by rfl)
    (hs : ∀ x, foldedSetIterable iter X.env x = pure x := by intro _; rfl) :
    PS X (.Assign [.Name y py] (.ListComp elt [⟨tg, iter, ifs, 0⟩] scope pos) spos) (tSetComp i (tCompT xs.length g wi ix tt te)) := by
  intro pins s σ H D I h
  have B := block_of hb
  have F := kinds_free I.ok hk
  rw [exec_Assign_Name_used _ _ _ _ hsw]
  refine wpAny_bind (wpAny_standAt (wpAny_bind ?_))
  show wpAny _ X.A (do let _ ← comprehension (.ListComp elt [⟨tg, iter, ifs, 0⟩] scope pos) scope X.env _ (newList []) false (eval iter X.env) (some (assign (.Name y py) X.env))) _ _ s
  refine wpAny_bind (wpAny_mono (wpAny_comprehension_free (use := some (assign (.Name y py) X.env)) (Q := fun _ s' => SP X pins D .next s') rfl hs (closure_eq F) B.kind B.names
    (thn (hi pins s σ H _ I h) fun v s1 h1 => thn h1 fun itv s2 h2 => ?_)) (fun _ s' hq => wpAny_pure (wpAny_pure hq)) fun _ _ e => e)
  obtain ⟨it, fp, tn, J, H2, e, I2, T, st2, f2, q2⟩ := h2
  subst e
  refine comp_blockT (RR := fun acc C => compPost (model X.prog X.w) X.A X.xe (some (assign (.Name y py) X.env)) (fun _ s' => SP X pins D .next s') acc C) hc hg ht he (sub_clos F) B.kind B.cell (has_of B.cell) fo I2 T st2 f2 q2 ?_
  intro Dd C s' H' m hC Ix fC hn q
  obtain ⟨f0, f1, _, f3, f4, f5⟩ := fC
  show wpAny _ X.A (assign (.Name y py) X.env (.ref Dd)) _ _ _
  refine wpAny_assign_Name (store_ok2 Ix hN hiN (.inl hy) (v := .ref Dd) rfl (fun s3 I3 ⟨a, sb, ha⟩ => ?_) (.inr hy))
  have ne : C ≠ a := by
    rcases ha with ha | ha
    · rw [ha]; exact f1
    · exact fun z => f4 y a ha z.symm
  refine ⟨m, hn.sameBut sb ne, fun h' sb' => ⟨_, H', ?_, q⟩⟩
  exact I3.turned (t' := s3.toks) (fun b o hb e => (sb'.2 b hb).trans e) f0 f1 f3 f4 f5
end
end L2
set_option Elab.async false
set_option linter.all false
set_option maxRecDepth 100000
set_option maxHeartbeats 4000000
namespace L2
open PySem PySem.Spec PyProof.Rows
/-! ### a comprehension whose target is a name -/
section
variable {X : Cx} {pins : List (Addr × Obj)} {σ : St} {H : Hp} {s : Shared}
theorem cEnd.toT {J : It} {ix : List Nat} {tt : TT} {te : TE} {Q : VK} (h : cEnd J σ ix tt te H Q) : cEndT J 1 (gName 0) σ ix tt te H Q := fun D hD => by
  obtain ⟨W, h0, hs⟩ := h D hD
  refine ⟨W, h0, fun i m H hw => (hs i m H hw).imp id fun q => ⟨q.1, fun x H' y os ho => ?_⟩⟩
  match os, ho with
  | [_], _ => exact ⟨⟨[some x], rfl, rfl⟩, q.2 x H' y⟩
/-- more may be asked of an iterator -/
def moreI (wi : TI) : TI := fun σ H K => ∃ K0 : It → Hp → Prop, wi σ H K0 ∧ ∀ J H1, K0 J H1 → K J H1
theorem PI.more {tg iter : Expr} {wi : TI} (h : PI X tg iter wi) : PI X tg iter (moreI wi) := fun pins s σ H R I ⟨K0, hw, f⟩ =>
  wpAny_mono (h pins s σ H K0 I hw) (fun _ _ z => wpAny_mono z (fun _ _ ⟨it, fp, tn, J, H', a, b, c, d, e, r⟩ => ⟨it, fp, tn, J, H', a, b, c, d, e, f _ _ r⟩) fun _ _ z => z) fun _ _ z => z
theorem pe_comp {elt iter : Expr} {x : Str} {px : Pos} {ifs : List Expr} {scope : Scope} {pos : Pos} {wi : TI} {tt : TT} {te : TE} (ix : List Nat) (ys : List Str)
    (hc : X.calm = true) (hi : PI X (.Name x px) iter wi) (ht : ∀ C s H fp E, PTs (cxComp X (x :: ys) scope (closL X.env scope.names []) C s H fp E) ifs tt) (he : ∀ C s H fp E, PE (cxComp X (x :: ys) scope (closL X.env scope.names []) C s H fp E) elt te)
    (fo : FreeOk X scope ix ys) (hk : kindsOk X.env scope.names = true := by rfl) (hb : blockOk scope x = true := by rfl) (hnd : (x :: ys).Nodup := by decide +kernel)
    (hs : ∀ x, foldedSetIterable iter X.env x = pure x := by intro _; rfl) :
    PE X (.ListComp elt [⟨.Name x px, iter, ifs, 0⟩] scope pos) (tComp wi ix tt te) := by
  intro pins s σ H Q I h
  have hl : (relabel scope X.env).names.lookup x = some .local := lookup_relabel_local (block_of hb).own
  exact pe_compT [x] x (g := gName 0) ix ys hc (fun _ _ _ _ _ => pg_name (i := 0) hnd rfl (Or.inl hl) (Or.inr hl)) (PI.more hi) ht he fo hk hb hs pins s σ H Q I ⟨_, h, fun _ _ z => cEnd.toT z⟩
theorem ps_setComp {elt iter : Expr} {x y : Str} {px py : Pos} {ifs : List Expr} {scope : Scope} {pos spos : Pos} {wi : TI} {tt : TT} {te : TE} {i : Nat} (ix : List Nat) (ys : List Str)
    (hN : X.N.Nodup) (hiN : X.N[i]? = some y) (hy : X.env.scope.names.lookup y = some .local)
    (hc : X.calm = true) (hi : PI X (.Name x px) iter wi) (ht : ∀ C s H fp E, PTs (cxComp X (x :: ys) scope (closL X.env scope.names []) C s H fp E) ifs tt) (he : ∀ C s H fp E, PE (cxComp X (x :: ys) scope (closL X.env scope.names []) C s H fp E) elt te)
    (fo : FreeOk X scope ix ys)
    (hsw : swapsWith (.ListComp elt [⟨.Name x px, iter, ifs, 0⟩] scope pos) (some (.Name y py)) spos.line X.env = pure true := by rfl)
    (hk : kindsOk X.env scope.names = true := by rfl) (hb : blockOk scope x = true := by rfl) (hnd : (x :: ys).Nodup := by decide +kernel)
    (hs : ∀ x, foldedSetIterable iter X.env x = pure x := by intro _; rfl) :
    PS X (.Assign [.Name y py] (.ListComp elt [⟨.Name x px, iter, ifs, 0⟩] scope pos) spos) (tSetComp i (tComp wi ix tt te)) := by
  intro pins s σ H D I h
  have hl : (relabel scope X.env).names.lookup x = some .local := lookup_relabel_local (block_of hb).own
  exact ps_setCompT [x] x (g := gName 0) ix ys hN hiN hy hc (fun _ _ _ _ _ => pg_name (i := 0) hnd rfl (Or.inl hl) (Or.inr hl)) (PI.more hi) ht he fo hsw hk hb hs pins s σ H D I ⟨_, h, fun _ _ z => cEnd.toT z⟩
end
end L2
set_option Elab.async false
set_option linter.all false
set_option maxRecDepth 100000
set_option maxHeartbeats 4000000
namespace L2
open PySem PySem.Spec PyProof.Rows

section
variable {X : Cx}
/-! ### isinstance(x, T), T a built-in type's name -/
def rIsi (K : PySem.W.Frag) : List V → Hp → VK → Prop := fun xs H Q => ∃ x n t b, xs = [x, .ty n] ∧ TyOf K H x t ∧ PySem.W.kitOne K t (.type n) = some b ∧ Q (.bl b) H
theorem tw_isinst : CallR X (.builtin "isinstance") (rIsi X.K) := by
  intro pins s σ H xs us Q I r h
  obtain ⟨x, n, t, b, rfl, ty, e, q⟩ := h
  obtain ⟨u, w', rfl, rx, rn⟩ := vals2 r
  cases (show w' = Value.type n from rn)
  exact isinst_ok I rx ty e fun tk => ⟨.bl b, H, I.tok tk, rfl, q⟩
theorem kit_bb {K : PySem.W.Frag} : PySem.W.kitOne K (.type "bool") (.type "bool") = some true := by kernel_rfl
theorem kit_ib {K : PySem.W.Frag} : PySem.W.kitOne K (.type "int") (.type "bool") = some false := by kernel_rfl
theorem kit_sb {K : PySem.W.Frag} : PySem.W.kitOne K (.type "str") (.type "bool") = some false := by kernel_rfl
theorem kit_tb {K : PySem.W.Frag} : PySem.W.kitOne K (.type "tuple") (.type "bool") = some false := by kernel_rfl
theorem kit_ii {K : PySem.W.Frag} : PySem.W.kitOne K (.type "int") (.type "int") = some true := by kernel_rfl
theorem kit_si {K : PySem.W.Frag} : PySem.W.kitOne K (.type "str") (.type "int") = some false := by kernel_rfl
theorem kit_ti {K : PySem.W.Frag} : PySem.W.kitOne K (.type "tuple") (.type "int") = some false := by kernel_rfl
theorem kit_is' {K : PySem.W.Frag} : PySem.W.kitOne K (.type "int") (.type "str") = some false := by kernel_rfl
theorem kit_ss {K : PySem.W.Frag} : PySem.W.kitOne K (.type "str") (.type "str") = some true := by kernel_rfl
theorem kit_ts {K : PySem.W.Frag} : PySem.W.kitOne K (.type "tuple") (.type "str") = some false := by kernel_rfl
theorem kit_it {K : PySem.W.Frag} : PySem.W.kitOne K (.type "int") (.type "tuple") = some false := by kernel_rfl
theorem kit_st {K : PySem.W.Frag} : PySem.W.kitOne K (.type "str") (.type "tuple") = some false := by kernel_rfl
theorem kit_tt {K : PySem.W.Frag} : PySem.W.kitOne K (.type "tuple") (.type "tuple") = some true := by kernel_rfl
theorem tb_isinstance : bootBuiltins "isinstance" = some (.builtin "isinstance") := by decide +kernel
theorem tb_all : bootBuiltins "all" = some (.builtin "all") := by decide +kernel
theorem tb_max : bootBuiltins "max" = some (.builtin "max") := by decide +kernel
theorem tb_min : bootBuiltins "min" = some (.builtin "min") := by decide +kernel
theorem tb_abs : bootBuiltins "abs" = some (.builtin "abs") := by decide +kernel
theorem tb_len : bootBuiltins "len" = some (.builtin "len") := by decide +kernel
theorem tb_bool : bootBuiltins "bool" = some (.type "bool") := by decide +kernel
theorem tb_int : bootBuiltins "int" = some (.type "int") := by decide +kernel
theorem tb_str : bootBuiltins "str" = some (.type "str") := by decide +kernel
theorem tb_tuple : bootBuiltins "tuple" = some (.type "tuple") := by decide +kernel
theorem tb_list : bootBuiltins "list" = some (.type "list") := by decide +kernel

/-! ### operators -/
theorem tw_le_str : OpR X (compareOp .LtE) (fun x y H Q => ∃ i j, x = .str i ∧ y = .str j ∧ Q (.bl (!decide (j.cps.toList < i.cps.toList))) H) := by
  intro pins s σ H x y v u Q I rx ry h
  obtain ⟨i, j, rfl, rfl, q⟩ := h
  obtain ⟨t, rfl⟩ := rx
  obtain ⟨t', rfl⟩ := ry
  exact PySem.P.le_str (fin_bl I q (by simp))
theorem tw_eq_nil (hu : X.A.units < cLine) : OpR X (compareOp .Eq) (fun x y H Q => ∃ p b xs, x = .ref p ∧ y = .ref b ∧ SqL X.K H p xs ∧ SqL X.K H b [] ∧ Q (.bl xs.isEmpty) H) := by
  intro pins s σ H x y v u Q I rx ry h
  obtain ⟨p, b, xs, rfl, rfl, h1, h2, q⟩ := h
  cases rx
  cases ry
  obtain ⟨its, r1, p1, z1⟩ := I.list h1
  obtain ⟨its2, r2, p2, z2⟩ := I.list h2
  have l1 := r1.length
  have l2 := r2.length
  have e2 : its2 = [] := List.eq_nil_of_length_eq_zero (by rw [← l2]; rfl)
  subst e2
  cases xs with
  | nil =>
    have e1 : its = [] := List.eq_nil_of_length_eq_zero (by rw [← l1]; rfl)
    subst e1
    exact PySem.SeqAt.eq_listAt (e := fun _ => true) p1.isList p2.isList rfl hu (fun j h1 _ => absurd h1 (by simp)) (fin_bl I q (by simp))
  | cons x r => exact PySem.SeqAt.eq_list_lengthsAt p1.isList p2.isList (by simp; intro e; subst e; simp at l1) hu (fin_bl I q rfl)
def CDivL (i j : Int) : Prop := 0 < j ∧ j.natAbs.log2 < 9000
theorem tw_fdiv : OpR X (binaryOp .FloorDiv) (rI CDivL fun i j => .int (i / j)) := opI fun i j _ _ _ _ _ hc q => by
  have h1 : (0 : Int) < j := hc.1
  exact floordiv_int (by omega) (by rw [Int.fdiv_eq_ediv_of_nonneg i (by omega)]; exact q) (.inl (PyProof.noPylong_of_log2 hc.2))

/-! ### xs.insert(i, y), 0 ≤ i -/
/-! ### all of a list of bools -/
theorem tw_all (hc : X.calm = true) : CallR X (.builtin "all") (fun xs H Q => ∃ (p : Addr) (bs : List Bool), xs = [.ref p] ∧ SqL X.K H p (bs.map V.bl) ∧ Q (.bl (bs.all id)) H) := by
  intro pins s σ H xs us Q I r h
  obtain ⟨p, bs, rfl, hq, q⟩ := h
  obtain ⟨u, rfl, rx⟩ := vals1 r
  cases rx
  obtain ⟨its, rv, pl, hz⟩ := I.list hq
  have hl := rv.length
  have hlt : p < s.heap.objs.size := by obtain ⟨_, e, _⟩ := pl.isList; exact Heap.lt_size e
  have hne : p ≠ s.heap.objs.size := Nat.ne_of_lt hlt
  have hh := I.ok.hd hc
  have tr : ∀ (i : Nat) (v : Value), its.toArray[i]? = some v → v = .bool (bs.getD i true) := fun i v hv => by
    have hv' : its[i]? = some v := by simpa using hv
    have hi : i < its.length := (List.getElem?_eq_some_iff.mp hv').1
    have hb : i < bs.length := by rw [List.length_map] at hl; omega
    obtain ⟨u, e1, e2⟩ := rv.get (i := i) (x := .bl bs[i]) (by rw [List.getElem?_map, List.getElem?_eq_getElem hb]; rfl)
    rw [hv'] at e1
    cases e1
    rw [show v = Value.bool bs[i] from e2, List.getD_eq_getElem?_getD, List.getElem?_eq_getElem hb]
    rfl
  refine call_all_walk (wpAny_pyIter_list pl.isList ?_)
  refine ⟨_, _, _, _, _, _, (fun i => bs.getD i true), rfl, Walks.list (A := X.A.in1) hh s.heap.objs.size p hne its.toArray, ⟨⟨_, Heap.get?_push_size _ rfl, rfl, rfl⟩, pl.isList.push _⟩, fun i v s' Q' E' hP hQ => ?_, fun h' tk hk => ?_⟩
  · rw [tr i v hP]
    exact wpAny_truthy_bool hQ
  · have e : (List.range its.toArray.size).all (fun i => bs.getD i true) = bs.all id := by
      rw [List.size_toArray, ← hl, List.length_map]
      have e2 : bs.all id = ((List.range bs.length).map fun i => bs.getD i true).all id := by rw [range_getD]
      rw [e2, List.all_map]
      rfl
    rw [e]
    refine ⟨.bl (bs.all id), H, I.kept (t' := tk) fun b o eb => hk b o ?_ (Heap.get?_push_of_some _ eb), rfl, q⟩
    intro hm
    exact absurd (Heap.lt_size eb) (by rw [List.mem_singleton.mp hm]; exact Nat.lt_irrefl _)
end

/-! ### max of a list of ints, with a default -/
section
variable {prog : Program} {w : World} {A : Around} {R : Result → Shared → Prop}
end
section
variable {X : Cx}
end

/-! ### the signs of a text -/
def Its (x : Str) : It := ⟨fun i _ => i < x.cps.size, fun i H v H' => H' = H ∧ ∃ c, x.cps[i]? = some c ∧ v = .str ⟨#[c]⟩, fun i _ => i = x.cps.size⟩
theorem turn_strOf {P : Program} {w : World} {K : PySem.W.Frag} {tg : Expr} (ty : String) (hty : ["enumerate", "zip", "dict_itemiterator", "dict_reverseitemiterator", "odict_iterator", "itertools.zip_longest", "itertools.pairwise"].contains ty = false) (x : Str) (t : Tok) (it : Addr)
    (W : ∀ A : Around, A.handled = none → Walks P w A it [it] [it] x.cps.size (SignAt x) (fun i h => h.IsStrIter it ty x t i))
    (self : ∀ (A : Around) (i : Nat) (s : Shared) (Q : Value → Shared → Prop) (E : Value → Shared → Prop), s.heap.IsStrIter it ty x t i → Q (.ref it) s → wpAny (model P w) A (pyIter (.ref it)) Q E s) :
    Turn P w K tg (Its x) [it] it (fun i h => h.IsStrIter it ty x t i) where
  mem := by simp
  obj := fun i h st b hb => by
    have e : b = it := by simpa using hb
    subst e
    obtain ⟨o, e, c, d⟩ := st
    exact ⟨o, e, fun v z => by rw [d] at z; cases z⟩
  keep := fun i h h' ⟨o, e, r⟩ k => ⟨o, k it (by simp) o e, r⟩
  item := by
    intro X hP hw hK hc i pins s σ H E I hf st hg
    subst hP hw hK
    obtain ⟨f0, f1, f2, f3, f4, f5⟩ := hf it (by simp)
    refine (W X.A (I.ok.hd hc)).item i s _ _ hg st fun v h' tk hv st' kk => ?_
    obtain ⟨c, u, hx, rfl⟩ := hv
    have I1 : Inv X pins σ H { s with heap := h', toks := tk } := I.turned (fun b o hb e => kk b o (by simpa using hb) e) f0 f1 f3 f4 f5
    obtain ⟨o, e, cl, d⟩ := id st'
    exact ⟨_, rfl, go_of (s := { s with heap := h', toks := tk }) e cl d hty ⟨.str ⟨#[c]⟩, H, I1, ⟨u, rfl⟩, ⟨rfl, c, hx, rfl⟩, st', fun b hb => (hf b hb).1⟩⟩
  done := by
    intro X hP hw hK hc i pins s σ H E I hf st hg
    subst hP hw hK
    obtain ⟨f0, f1, f2, f3, f4, f5⟩ := hf it (by simp)
    have hi : i = x.cps.size := hg
    subst hi
    exact (W X.A (I.ok.hd hc)).done s _ _ st fun h' tk kk => ⟨rfl, I.turned (fun b o hb e => kk b o (by simpa using hb) e) f0 f1 f3 f4 f5⟩
  self := self
section
variable {X : Cx} {tg : Expr}
def iStr (tl : TE) : TI := fun σ H R => tl σ H fun v H1 => ∃ x, v = .str x ∧ R (Its x) H1
theorem pi_str {l : Expr} {tl : TE} (hl : PE X l tl) : PI X tg l (iStr tl) := by
  intro pins s σ H R I h
  refine thn (hl pins s σ H _ I h) fun v s1 ⟨z, H1, I1, r1, x, e, q⟩ => ?_
  subst e
  obtain ⟨t, rfl⟩ := r1
  have fp : ∀ b ∈ [s1.heap.objs.size], FpOk X pins H1 b := fun b hb => by
    rw [List.mem_singleton.mp hb]
    exact I1.fpOk (Nat.le_refl _) (I1.hok.fresh (Nat.le_refl _))
  cases ha : x.cps.all (· < 128)
  · exact wpAny_pyIter_wide ha ⟨s1.heap.objs.size, [s1.heap.objs.size], _, _, H1, rfl, I1.kept (t' := s1.toks) fun b o e => Heap.get?_push_of_some _ e,
      turn_strOf "str_iterator" (by decide) x t _ (fun A hA => Walks.strWide hA _ x t) (fun A i s Q E st h => wpAny_pyIter_striter_wide st h), ⟨_, Heap.get?_push_size _ rfl, rfl, rfl⟩, fp, q⟩
  · exact wpAny_pyIter_ascii ha ⟨s1.heap.objs.size, [s1.heap.objs.size], _, _, H1, rfl, I1.kept (t' := s1.toks) fun b o e => Heap.get?_push_of_some _ e,
      turn_strOf "str_ascii_iterator" (by decide) x t _ (fun A hA => Walks.strAscii hA _ x t) (fun A i s Q E st h => wpAny_pyIter_striter_ascii st h), ⟨_, Heap.get?_push_size _ rfl, rfl, rfl⟩, fp, q⟩
end

/-! ### the forms of a comprehension that one uses: D its list, after i items it holds ys -/
section
variable {σ : St} {H : Hp} {ix : List Nat} {te : TE} {Q : VK} {K : PySem.W.Frag}
theorem comp_map {J : It} {n : Nat} (item : Nat → V → Prop) (Pv : Addr → Nat → List V → Hp → Prop) (hn : n < sizeLine)
    (hgo : ∀ D i ys H, i < n → Pv D i ys H → J.go i H) (hy : ∀ D i ys H x H', i < n → Pv D i ys H → J.yld i H x H' → H' = H ∧ item i x) (hstop : ∀ D ys H, Pv D n ys H → J.stop n H)
    (h0 : ∀ D, H D = none → Pv D 0 [] (upd H D (.lst [])))
    (step : ∀ D i ys H x, H D = some (.lst ys) → ys.length ≤ i → i < n → item i x → Pv D i ys H → ∀ R : VK, (∀ y H3, H3 D = some (.lst ys) → Pv D (i + 1) (ys ++ [y]) (upd H3 D (.lst (ys ++ [y]))) → R y H3) → te (cSlots σ ix x) H R)
    (fin : ∀ D ys H, H D = some (.lst ys) → Pv D n ys H → Q (.ref D) H) : cEnd J σ ix tTrue te H Q := by
  intro D hD
  refine ⟨fun i m H => m = n - i ∧ i ≤ n ∧ ∃ ys, H D = some (.lst ys) ∧ ys.length ≤ i ∧ Pv D i ys H, ⟨n, rfl, Nat.zero_le _, [], upd_same, Nat.le_refl _, h0 D hD⟩, ?_⟩
  rintro i m H ⟨rfl, hi, ys, e, hl, p⟩
  by_cases hlt : i < n
  · refine .inr ⟨hgo D i ys H hlt p, fun x H' y => ?_⟩
    obtain ⟨rfl, it⟩ := hy D i ys H x H' hlt p y
    unfold tTrue
    dsimp only
    rw [if_pos rfl]
    refine step D i ys _ x e hl hlt it p _ fun y H3 e3 p3 => ?_
    exact ⟨ys, n - (i + 1), e3, by omega, by omega, rfl, hlt, ys ++ [y], upd_same, by rw [List.length_append, List.length_singleton]; omega, p3⟩
  · have e' : i = n := by omega
    subst e'
    exact .inl ⟨hstop D ys H p, fin D ys H e p⟩
theorem comp_filter {J : It} {n : Nat} {tt : TT} (item : Nat → V → Prop) (keep : V → Bool) (Pv : Addr → Nat → List V → Hp → Prop) (hn : n < sizeLine)
    (hgo : ∀ D i ys H, i < n → Pv D i ys H → J.go i H) (hy : ∀ D i ys H x H', i < n → Pv D i ys H → J.yld i H x H' → H' = H ∧ item i x) (hstop : ∀ D ys H, Pv D n ys H → J.stop n H)
    (h0 : ∀ D, H D = none → Pv D 0 [] (upd H D (.lst [])))
    (test : ∀ D i ys H x, i < n → item i x → Pv D i ys H → ∀ R : Bool → Hp → Prop, R (keep x) H → tt (cSlots σ ix x) H R)
    (yes : ∀ D i ys H x, H D = some (.lst ys) → i < n → item i x → keep x = true → Pv D i ys H → Pv D (i + 1) (ys ++ [x]) (upd H D (.lst (ys ++ [x])))) (no : ∀ D i ys H x, H D = some (.lst ys) → i < n → item i x → keep x = false → Pv D i ys H → Pv D (i + 1) ys H)
    (fin : ∀ D ys H, H D = some (.lst ys) → Pv D n ys H → Q (.ref D) H) : cEnd J σ ix tt (tVar 0) H Q := by
  intro D hD
  refine ⟨fun i m H => m = n - i ∧ i ≤ n ∧ ∃ ys, H D = some (.lst ys) ∧ ys.length ≤ i ∧ Pv D i ys H, ⟨n, rfl, Nat.zero_le _, [], upd_same, Nat.le_refl _, h0 D hD⟩, ?_⟩
  rintro i m H ⟨rfl, hi, ys, e, hl, p⟩
  by_cases hlt : i < n
  · refine .inr ⟨hgo D i ys H hlt p, fun x H' y => ?_⟩
    obtain ⟨rfl, it⟩ := hy D i ys H x H' hlt p y
    refine test D i ys _ x hlt it p _ ?_
    cases hk : keep x with
    | true =>
      rw [if_pos rfl]
      exact ⟨x, rfl, ys, n - (i + 1), e, by omega, by omega, rfl, hlt, ys ++ [x], upd_same, by rw [List.length_append, List.length_singleton]; omega, yes D i ys _ x e hlt it hk p⟩
    | false =>
      rw [if_neg Bool.false_ne_true]
      exact ⟨n - (i + 1), by omega, rfl, hlt, ys, e, Nat.le_succ_of_le hl, no D i ys _ x e hlt it hk p⟩
  · have e' : i = n := by omega
    subst e'
    exact .inl ⟨hstop D ys H p, fin D ys H e p⟩
end
end L2
set_option linter.all false
namespace Tw
open PySem

/-- a key, as a tree -/
inductive KT where
  | int (i : Int)
  | str (x : Str)
  | tup (l : List KT)

mutual
def KT.depth : KT → Nat
  | .int _ => 0
  | .str _ => 0
  | .tup l => 1 + depthL l
def depthL : List KT → Nat
  | [] => 0
  | t :: r => max t.depth (depthL r)
end
mutual
def KT.size : KT → Nat
  | .int _ => 1
  | .str _ => 1
  | .tup l => 1 + sizeL l
def sizeL : List KT → Nat
  | [] => 0
  | t :: r => t.size + sizeL r
end
def signOk (c : Nat) : Bool := decide (32 ≤ c) && decide (c ≤ 126)
def textOk (x : Str) : Bool := decide (x.length ≤ 40) && x.cps.toList.all signOk
mutual
def KT.fits : KT → Nat → Bool
  | .int i, _ => decide (i.natAbs < 10 ^ 60)
  | .str x, _ => textOk x
  | .tup l, r => decide (0 < r) && (decide (l.length ≤ 4) && fitsL l (r - 1))
def fitsL : List KT → Nat → Bool
  | [], _ => true
  | t :: l, r => t.fits r && fitsL l r
end

theorem fitsL_all (r : Nat) : ∀ l : List KT, fitsL l r = l.all fun t => t.fits r
  | [] => by simp [fitsL]
  | t :: l => by rw [fitsL, List.all_cons, fitsL_all r l]

mutual
theorem fits_depth : ∀ (t : KT) (r : Nat), t.fits r = true → t.depth ≤ r
  | .int _, r, _ => by rw [KT.depth]; exact Nat.zero_le _
  | .str _, r, _ => by rw [KT.depth]; exact Nat.zero_le _
  | .tup l, r, h => by
    rw [KT.fits, Bool.and_eq_true, Bool.and_eq_true] at h
    obtain ⟨h1, _, h3⟩ := h
    have h1' : 0 < r := of_decide_eq_true h1
    have := fitsL_depth l (r - 1) h3
    rw [KT.depth]
    omega
theorem fitsL_depth : ∀ (l : List KT) (r : Nat), fitsL l r = true → depthL l ≤ r
  | [], r, _ => by rw [depthL]; exact Nat.zero_le _
  | t :: l, r, h => by
    rw [fitsL, Bool.and_eq_true] at h
    have a := fits_depth t r h.1
    have b := fitsL_depth l r h.2
    rw [depthL]
    omega
end
def KT.things : KT → List KT
  | .tup l => l
  | _ => []
def below (l : List KT) : List KT := l.flatMap KT.things
end Tw
set_option Elab.async false
set_option linter.all false
set_option maxRecDepth 100000
set_option maxHeartbeats 4000000
namespace Tw
open PySem PySem.Spec L2

/-- a def of the text with its promise -/
structure DefOk (P : Program) (w : World) (K : PySem.W.Frag) (mg : Str → Option Value) (base : Heap) (k : Nat) (x : Str) (ps : List Str) (sp : Sp) : Prop where
  ex : ∃ f fd, FnOk P w K mg base CX0 k f fd ps sp ∧ Binds K fd ps [] ∧ PySem.W.keepIn K (.ref f) = true ∧ mg x = some (.ref f)
theorem pe_def {X : Cx} {k : Nat} {x : Str} {ps : List Str} {sp : Sp} {e : Expr} {es : List Expr} {t : TA} {p pos : Pos} (D : DefOk X.prog X.w X.K X.mg X.base k x ps sp) (hr : Room k X.A) (ha : PA X (e :: es) t) (hg : Gl X x := by rfl)
    (hdb : (x == ("__debug__" : Str)) = false := by decide) (he : starEach (e :: es) X.env = (false, eval e X.env) :: starEach es X.env := by rfl) (hpl : (backTo pos (starEach es X.env)).any (·.1) = false := by rfl) :
    PE X (.Call (.Name x p) (e :: es) [] pos) (tCall sp [] E0 t) := by
  obtain ⟨f, fd, F, b, kp, m⟩ := D.ex
  exact pe_call F hr hg m kp b .nil pass0 ha hdb he hpl

/-! ### keys on the heap -/
mutual
def KeyAt (H : Hp) : KT → V → Prop
  | .int i, v => v = .int i
  | .str x, v => v = .str x
  | .tup l, v => ∃ a vs, v = .ref a ∧ H a = some (.tup vs) ∧ KeysAt H l vs
def KeysAt (H : Hp) : List KT → List V → Prop
  | [], vs => vs = []
  | t :: l, vs => ∃ v r, vs = v :: r ∧ KeyAt H t v ∧ KeysAt H l r
end
/-- the tuples stay -/
def Tups (H H' : Hp) : Prop := ∀ b xs, H b = some (.tup xs) → H' b = some (.tup xs)
mutual
theorem KeyAt.mono {H H' : Hp} (m : Tups H H') : ∀ (t : KT) (v : V), KeyAt H t v → KeyAt H' t v
  | .int _, _, h => by rw [KeyAt] at h ⊢; exact h
  | .str _, _, h => by rw [KeyAt] at h ⊢; exact h
  | .tup l, _, h => by
    rw [KeyAt] at h ⊢
    obtain ⟨a, vs, e, h1, h2⟩ := h
    exact ⟨a, vs, e, m a vs h1, KeysAt.mono m l vs h2⟩
theorem KeysAt.mono {H H' : Hp} (m : Tups H H') : ∀ (l : List KT) (vs : List V), KeysAt H l vs → KeysAt H' l vs
  | [], _, h => by rw [KeysAt] at h ⊢; exact h
  | t :: l, _, h => by
    rw [KeysAt] at h ⊢
    obtain ⟨v, r, e, h1, h2⟩ := h
    exact ⟨v, r, e, KeyAt.mono m t v h1, KeysAt.mono m l r h2⟩
end
theorem KeysAt.nil {H : Hp} : KeysAt H [] [] := by rw [KeysAt]
theorem KeysAt.cons {H : Hp} {t : KT} {l : List KT} {v : V} {r : List V} (h : KeyAt H t v) (hr : KeysAt H l r) : KeysAt H (t :: l) (v :: r) := by
  rw [KeysAt]
  exact ⟨v, r, rfl, h, hr⟩
theorem KeyAt.tup {H : Hp} {a : Addr} {vs : List V} {l : List KT} (e : H a = some (.tup vs)) (h : KeysAt H l vs) : KeyAt H (.tup l) (.ref a) := by
  rw [KeyAt]
  exact ⟨a, vs, rfl, e, h⟩
theorem KeyAt.int {H : Hp} (i : Int) : KeyAt H (.int i) (.int i) := by rw [KeyAt]
theorem KeyAt.str {H : Hp} (x : Str) : KeyAt H (.str x) (.str x) := by rw [KeyAt]
theorem KeysAt.append {H : Hp} : ∀ {l m : List KT} {vs ws : List V}, KeysAt H l vs → KeysAt H m ws → KeysAt H (l ++ m) (vs ++ ws)
  | [], m, vs, ws, h, g => by rw [KeysAt] at h; subst h; exact g
  | t :: l, m, vs, ws, h, g => by
    rw [KeysAt] at h
    obtain ⟨v, r, rfl, h1, h2⟩ := h
    exact .cons h1 (h2.append g)
theorem KeysAt.length {H : Hp} : ∀ {l : List KT} {vs : List V}, KeysAt H l vs → l.length = vs.length
  | [], vs, h => by rw [KeysAt] at h; subst h; rfl
  | t :: l, vs, h => by
    rw [KeysAt] at h
    obtain ⟨v, r, rfl, _, h2⟩ := h
    rw [List.length_cons, List.length_cons, h2.length]
theorem KeysAt.get {H : Hp} : ∀ {l : List KT} {vs : List V} {i : Nat} {v : V}, KeysAt H l vs → vs[i]? = some v → ∃ t, l[i]? = some t ∧ KeyAt H t v
  | [], vs, i, v, h, e => by rw [KeysAt] at h; subst h; simp at e
  | t :: l, vs, 0, v, h, e => by
    rw [KeysAt] at h
    obtain ⟨v', r, rfl, h1, _⟩ := h
    simp at e
    subst e
    exact ⟨t, rfl, h1⟩
  | t :: l, vs, i + 1, v, h, e => by
    rw [KeysAt] at h
    obtain ⟨v', r, rfl, _, h2⟩ := h
    obtain ⟨t', e1, e2⟩ := h2.get (i := i) (by simpa using e)
    exact ⟨t', by simpa using e1, e2⟩
def KT.ty : KT → Value
  | .int _ => .type "int"
  | .str _ => .type "str"
  | .tup _ => .type "tuple"
theorem KeyAt.ty {H : Hp} {K : PySem.W.Frag} {t : KT} {v : V} (h : KeyAt H t v) : TyOf K H v t.ty := by
  cases t with
  | int i => rw [KeyAt] at h; subst h; exact .int i
  | str x => rw [KeyAt] at h; subst h; exact .str x
  | tup l => rw [KeyAt] at h; obtain ⟨a, vs, rfl, e, _⟩ := h; exact .tup e

/-! ### what stays -/
/-- all but p -/
def SameX (p : Addr) (H H' : Hp) : Prop := ∀ b o, H b = some o → b ≠ p → H' b = some o
theorem SameX.refl (p : Addr) (H : Hp) : SameX p H H := fun _ _ h _ => h
theorem SameX.trans {p : Addr} {H H1 H2 : Hp} (a : SameX p H H1) (b : SameX p H1 H2) : SameX p H H2 := fun c o h n => b c o (a c o h n) n
theorem SameX.upd {p : Addr} {H H' : Hp} {o : HO} (a : SameX p H H') : SameX p H (L2.upd H' p o) := fun c u h n => by rw [upd_ne n]; exact a c u h n
theorem SameX.of {p : Addr} {H H' : Hp} (a : Same H H') : SameX p H H' := fun c o h _ => a c o h
theorem SameX.tups {p : Addr} {H H' : Hp} {xs : List V} (a : SameX p H H') (h : H p = some (.lst xs)) : Tups H H' := fun b ys e => a b _ e (ne_of e h (by intro z; cases z))
theorem Same.tups {H H' : Hp} (a : Same H H') : Tups H H' := fun b ys e => a b _ e
theorem same_new {H : Hp} {p : Addr} (h : H p = none) (o : HO) : Same H (L2.upd H p o) := fun b u q => by rw [upd_ne (ne_of_none q h)]; exact q
/-! ### the well of draws: a list of four ints -/
structure WellAt (H : Hp) (p : Addr) : Prop where
  ex : ∃ a b c d : Int, H p = some (.lst [.int a, .int b, .int c, .int d]) ∧ 0 ≤ a ∧ a < 2147483647 ∧ 0 ≤ c ∧ 0 ≤ d
theorem WellAt.stay {H H' : Hp} {p q : Addr} (w : WellAt H p) (s : SameX q H H') (n : p ≠ q) : WellAt H' p := by
  obtain ⟨a, b, c, d, e, r⟩ := w.ex
  exact ⟨a, b, c, d, s p _ e n, r⟩
theorem WellAt.same {H H' : Hp} {p : Addr} (w : WellAt H p) (s : Same H H') : WellAt H' p := by
  obtain ⟨a, b, c, d, e, r⟩ := w.ex
  exact ⟨a, b, c, d, s p _ e, r⟩
theorem WellAt.some {H : Hp} {p : Addr} (w : WellAt H p) : ∃ xs, H p = Option.some (.lst xs) := by
  obtain ⟨a, b, c, d, e, r⟩ := w.ex
  exact ⟨_, e⟩
theorem SameX.tupsW {p : Addr} {H H' : Hp} (a : SameX p H H') (w : WellAt H p) : Tups H H' := by
  obtain ⟨xs, e⟩ := w.some
  exact a.tups e

/-! ### the promises -/
def small (m : Int) : Prop := 0 < m ∧ m.natAbs.log2 < 9000
def spWell (K : PySem.W.Frag) : Sp := fun vs H Q _ => ∃ (a : Addr) (ns : List Int) (k : Int), vs = [.ref a, .int k] ∧ SqL K H a (ns.map V.int) ∧ ns.length ≤ 63 ∧ 0 ≤ k ∧ k ≤ 1000 ∧
  ∀ (p : Addr) (H' : Hp), H p = none → Same H H' → WellAt H' p → Q (.ref p) H'
def spPull : Sp := fun vs H Q _ => ∃ (p : Addr) (m : Int), vs = [.ref p, .int m] ∧ WellAt H p ∧ small m ∧ ∀ (r : Int) (H' : Hp), 0 ≤ r → r < m → WellAt H' p → SameX p H H' → Q (.int r) H'
def spText : Sp := fun vs H Q _ => ∃ (p : Addr), vs = [.ref p] ∧ WellAt H p ∧ ∀ (x : Str) (H' : Hp), textOk x = true → WellAt H' p → SameX p H H' → Q (.str x) H'
def spKey (n : Nat) : Sp := fun vs H Q _ => ∃ (p : Addr) (r : Nat), vs = [.ref p, .int (r : Int)] ∧ WellAt H p ∧ r < n ∧ ∀ (v : V) (t : KT) (H' : Hp), KeyAt H' t v → t.fits r = true → WellAt H' p → SameX p H H' → Q v H'
def spFew : Sp := fun vs H Q _ => ∃ i : Int, vs = [.int i] ∧ Q (.bl (decide (i.natAbs < 10 ^ 60))) H
def spSign : Sp := fun vs H Q _ => ∃ c : Nat, vs = [.str ⟨#[c]⟩] ∧ Q (.bl (signOk c)) H
def spLaw (K : PySem.W.Frag) : Sp := fun vs H Q _ => ∃ (a : Addr) (ns : List Int), vs = [.ref a] ∧ SqL K H a (ns.map V.int) ∧ ns.length ≤ 63 ∧ ∀ H', Q (.bl true) H'

/-! ### small facts -/
theorem nn {n : Nat} (h : n ≤ 1000) : n ≤ sizeLine := Nat.le_of_lt (small1000 h)
theorem at2 {x y : V} {i : Int} (h0 : 0 ≤ i) (h1 : i < 2) : ∃ v, atI [x, y] i = some v ∧ (v = x ∨ v = y) := by
  rcases (show i = 0 ∨ i = 1 by omega) with e | e
  · subst e; exact ⟨x, rfl, .inl rfl⟩
  · subst e; exact ⟨y, rfl, .inr rfl⟩
theorem atI_in {α : Type} {xs : List α} {i : Int} (h0 : 0 ≤ i) (h1 : i < (xs.length : Int)) : ∃ v, atI xs i = some v ∧ v ∈ xs := by
  have hk : i.toNat < xs.length := by omega
  have e : i = ((i.toNat : Nat) : Int) := by omega
  rw [e]
  exact ⟨xs[i.toNat], atI_nat (List.getElem?_eq_getElem hk), List.getElem_mem hk⟩
theorem small_lit {m : Int} (h0 : 0 < m) (h1 : m.natAbs < 2 ^ 250) : small m := by
  refine ⟨h0, ?_⟩
  have : m.natAbs.log2 < 250 := (Nat.log2_lt (by omega)).mpr h1
  omega
theorem vint_inj {i j : Int} (h : V.int i = V.int j) : i = j := by injection h
theorem signs_le (c : Nat) : ((!decide ([c] < [32])) && !decide ([126] < [c])) = signOk c := by
  unfold signOk
  have a : ([c] < [32]) ↔ c < 32 := by simp [List.cons_lt_cons_iff]
  have b : ([126] < [c]) ↔ 126 < c := by simp [List.cons_lt_cons_iff]
  rw [Bool.eq_iff_iff]
  simp only [Bool.and_eq_true, Bool.not_eq_true', decide_eq_false_iff_not, decide_eq_true_eq, a, b]
  omega
theorem few_eq (i : Int) : decide ((if i < 0 then -i else i) < 10 ^ (60 : Int).toNat) = decide (i.natAbs < 10 ^ 60) := by
  have e : ((10 : Int) ^ (60 : Int).toNat) = ((10 ^ 60 : Nat) : Int) := by decide +kernel
  rw [e]
  generalize (10 ^ 60 : Nat) = N
  apply decide_eq_decide.mpr
  split <;> omega
end Tw
set_option linter.all false
namespace Tw
open PySem

/-! ### keys alike; Python's own order; the keys' order -/
mutual
def KT.eqb : KT → KT → Bool
  | .int i, .int j => i == j
  | .str x, .str y => x == y
  | .tup l, .tup m => eqbL l m
  | _, _ => false
def eqbL : List KT → List KT → Bool
  | [], [] => true
  | a :: l, b :: m => a.eqb b && eqbL l m
  | _, _ => false
end
mutual
def KT.plt : KT → KT → Bool
  | .int i, .int j => decide (i < j)
  | .str x, .str y => decide (x.cps.toList < y.cps.toList)
  | .tup l, .tup m => pltL l m
  | _, _ => false
def pltL : List KT → List KT → Bool
  | [], [] => false
  | [], _ :: _ => true
  | _ :: _, [] => false
  | a :: l, b :: m => if a.eqb b = true then pltL l m else a.plt b
end
mutual
def KT.cmp : KT → KT → Bool
  | .int _, .int _ => true
  | .str _, .str _ => true
  | .tup l, .tup m => cmpL l m
  | _, _ => false
def cmpL : List KT → List KT → Bool
  | [], _ => true
  | _ :: _, [] => true
  | a :: l, b :: m => if a.eqb b = true then cmpL l m else a.cmp b
end
def KT.kind : KT → Nat
  | .int _ => 0
  | .str _ => 1
  | .tup _ => 2
mutual
def KT.lt : KT → KT → Bool
  | .int i, .int j => decide (i < j)
  | .int _, .str _ => true
  | .int _, .tup _ => true
  | .str _, .int _ => false
  | .str x, .str y => decide (x.cps.toList < y.cps.toList)
  | .str _, .tup _ => true
  | .tup _, .int _ => false
  | .tup _, .str _ => false
  | .tup l, .tup m => ltL l m
def ltL : List KT → List KT → Bool
  | [], [] => false
  | [], _ :: _ => true
  | _ :: _, [] => false
  | a :: l, b :: m => if a.eqb b = true then ltL l m else a.lt b
end
mutual
def KT.st : KT → KT
  | .int i => .tup [.int 0, .int i]
  | .str x => .tup [.int 1, .str x]
  | .tup l => .tup [.int 2, .tup (stL l)]
def stL : List KT → List KT
  | [] => []
  | t :: l => t.st :: stL l
end
theorem stL_map : ∀ l : List KT, stL l = l.map KT.st
  | [] => by rw [stL]; rfl
  | t :: l => by rw [stL, stL_map l]; rfl

mutual
theorem eqb_eq : ∀ (a b : KT), a.eqb b = true → a = b
  | .int i, .int j, h => by rw [KT.eqb] at h; rw [eq_of_beq h]
  | .str x, .str y, h => by rw [KT.eqb] at h; rw [eq_of_beq h]
  | .tup l, .tup m, h => by rw [KT.eqb] at h; rw [eqbL_eq l m h]
  | .int _, .str _, h => by simp [KT.eqb] at h
  | .int _, .tup _, h => by simp [KT.eqb] at h
  | .str _, .int _, h => by simp [KT.eqb] at h
  | .str _, .tup _, h => by simp [KT.eqb] at h
  | .tup _, .int _, h => by simp [KT.eqb] at h
  | .tup _, .str _, h => by simp [KT.eqb] at h
theorem eqbL_eq : ∀ (l m : List KT), eqbL l m = true → l = m
  | [], [], _ => rfl
  | a :: l, b :: m, h => by
    rw [eqbL, Bool.and_eq_true] at h
    rw [eqb_eq a b h.1, eqbL_eq l m h.2]
  | [], _ :: _, h => by simp [eqbL] at h
  | _ :: _, [], h => by simp [eqbL] at h
end
mutual
theorem eqb_self : ∀ a : KT, a.eqb a = true
  | .int i => by rw [KT.eqb]; exact beq_self_eq_true i
  | .str x => by rw [KT.eqb]; exact beq_self_eq_true x
  | .tup l => by rw [KT.eqb]; exact eqbL_self l
theorem eqbL_self : ∀ l : List KT, eqbL l l = true
  | [] => by rw [eqbL]
  | a :: l => by rw [eqbL, eqb_self a, eqbL_self l]; rfl
end
theorem eqb_iff {a b : KT} : a.eqb b = true ↔ a = b := ⟨eqb_eq a b, fun e => by rw [e]; exact eqb_self b⟩

mutual
theorem eqb_st : ∀ a b : KT, a.st.eqb b.st = a.eqb b
  | .int i, .int j => by simp [KT.st, KT.eqb, eqbL]
  | .str x, .str y => by simp [KT.st, KT.eqb, eqbL]
  | .tup l, .tup m => by simp [KT.st, KT.eqb, eqbL, eqbL_st l m]
  | .int _, .str _ => by simp [KT.st, KT.eqb, eqbL]
  | .int _, .tup _ => by simp [KT.st, KT.eqb, eqbL]
  | .str _, .int _ => by simp [KT.st, KT.eqb, eqbL]
  | .str _, .tup _ => by simp [KT.st, KT.eqb, eqbL]
  | .tup _, .int _ => by simp [KT.st, KT.eqb, eqbL]
  | .tup _, .str _ => by simp [KT.st, KT.eqb, eqbL]
theorem eqbL_st : ∀ l m : List KT, eqbL (stL l) (stL m) = eqbL l m
  | [], [] => by simp [stL, eqbL]
  | a :: l, b :: m => by simp [stL, eqbL, eqb_st a b, eqbL_st l m]
  | [], _ :: _ => by simp [stL, eqbL]
  | _ :: _, [] => by simp [stL, eqbL]
end
theorem ltL_self : ∀ l : List KT, ltL l l = false
  | [] => by rw [ltL]
  | a :: l => by rw [ltL, eqb_self a, if_pos rfl, ltL_self l]
theorem ltL_eqb {l m : List KT} (h : eqbL l m = true) : ltL l m = false := by
  rw [eqbL_eq l m h]; exact ltL_self m

mutual
theorem cmp_st : ∀ a b : KT, a.st.cmp b.st = true
  | .int i, .int j => by simp [KT.st, KT.eqb, KT.cmp, cmpL]
  | .str x, .str y => by simp [KT.st, KT.eqb, KT.cmp, cmpL]
  | .tup l, .tup m => by simp [KT.st, KT.eqb, KT.cmp, cmpL, cmpL_st l m]
  | .int _, .str _ => by simp [KT.st, KT.eqb, KT.cmp, cmpL]
  | .int _, .tup _ => by simp [KT.st, KT.eqb, KT.cmp, cmpL]
  | .str _, .int _ => by simp [KT.st, KT.eqb, KT.cmp, cmpL]
  | .str _, .tup _ => by simp [KT.st, KT.eqb, KT.cmp, cmpL]
  | .tup _, .int _ => by simp [KT.st, KT.eqb, KT.cmp, cmpL]
  | .tup _, .str _ => by simp [KT.st, KT.eqb, KT.cmp, cmpL]
theorem cmpL_st : ∀ l m : List KT, cmpL (stL l) (stL m) = true
  | [], _ => by simp [stL, cmpL]
  | _ :: _, [] => by simp [stL, cmpL]
  | a :: l, b :: m => by
    rw [stL, stL, cmpL, cmpL_st l m, cmp_st a b]
    split <;> rfl
end
mutual
theorem plt_st : ∀ a b : KT, a.st.plt b.st = a.lt b
  | .int i, .int j => by
    simp only [KT.st, KT.eqb, KT.plt, pltL, KT.lt, beq_self_eq_true, if_true]
    by_cases h : i = j
    · subst h; simp
    · simp [h]
  | .str x, .str y => by
    simp only [KT.st, KT.eqb, KT.plt, pltL, KT.lt, beq_self_eq_true, if_true]
    by_cases h : x = y
    · subst h; simp
    · simp [h]
  | .tup l, .tup m => by
    simp only [KT.st, KT.eqb, KT.plt, pltL, KT.lt, beq_self_eq_true, if_true, eqbL_st, pltL_st l m]
    cases h : eqbL l m with
    | true => rw [if_pos rfl, ltL_eqb h]
    | false => rw [if_neg Bool.false_ne_true]
  | .int _, .str _ => by simp [KT.st, KT.eqb, KT.plt, pltL, KT.lt]
  | .int _, .tup _ => by simp [KT.st, KT.eqb, KT.plt, pltL, KT.lt]
  | .str _, .int _ => by simp [KT.st, KT.eqb, KT.plt, pltL, KT.lt]
  | .str _, .tup _ => by simp [KT.st, KT.eqb, KT.plt, pltL, KT.lt]
  | .tup _, .int _ => by simp [KT.st, KT.eqb, KT.plt, pltL, KT.lt]
  | .tup _, .str _ => by simp [KT.st, KT.eqb, KT.plt, pltL, KT.lt]
theorem pltL_st : ∀ l m : List KT, pltL (stL l) (stL m) = ltL l m
  | [], [] => by simp [stL, pltL, ltL]
  | [], _ :: _ => by simp [stL, pltL, ltL]
  | _ :: _, [] => by simp [stL, pltL, ltL]
  | a :: l, b :: m => by rw [stL, stL, pltL, ltL, eqb_st a b, pltL_st l m, plt_st a b]
end
mutual
theorem depth_st : ∀ t : KT, t.st.depth ≤ 2 * t.depth + 1
  | .int i => by simp [KT.st, KT.depth, depthL]
  | .str x => by simp [KT.st, KT.depth, depthL]
  | .tup l => by
    have := depthL_st l
    simp only [KT.st, KT.depth, depthL]
    omega
theorem depthL_st : ∀ l : List KT, depthL (stL l) ≤ 2 * depthL l + 1
  | [] => by simp [stL, depthL]
  | t :: l => by
    have a := depth_st t
    have b := depthL_st l
    rw [stL, depthL, depthL]
    omega
end

/-! ### the laws' own way, from place to place -/
/-! ### keys near one another -/
theorem text_of {x : Str} (h : textOk x = true) : x.cps.size ≤ 40 ∧ x.cps.toList.all signOk = true := by
  unfold textOk at h
  rw [Bool.and_eq_true] at h
  exact ⟨of_decide_eq_true h.1, h.2⟩
end Tw
set_option Elab.async false
set_option linter.all false
set_option maxRecDepth 100000
set_option maxHeartbeats 4000000
namespace Tw
open PySem PySem.Spec L2 PyProof.Rows

/-! ### keys as values -/
mutual
def KVal (h : Heap) : KT → Value → Prop
  | .int i, v => ∃ t, v = .int i t
  | .str x, v => ∃ t, v = .str x t
  | .tup l, v => ∃ (a : Addr) (its : List Value), v = .ref a ∧ IsTup h a its.toArray ∧ KVals h l its
def KVals (h : Heap) : List KT → List Value → Prop
  | [], vs => vs = []
  | t :: l, vs => ∃ v r, vs = v :: r ∧ KVal h t v ∧ KVals h l r
end
section
variable {X : Cx} {pins : List (Addr × Obj)} {σ : L2.St} {H : Hp} {s : Shared}
mutual
theorem kval_of (I : Inv X pins σ H s) : ∀ (t : KT) (x : V) (v : Value), KeyAt H t x → RelV x v → KVal s.heap t v
  | .int i, x, v, h, r => by
    rw [KeyAt] at h
    subst h
    rw [KVal]
    exact r
  | .str y, x, v, h, r => by
    rw [KeyAt] at h
    subst h
    rw [KVal]
    exact r
  | .tup l, x, v, h, r => by
    rw [KeyAt] at h
    obtain ⟨a, vs, rfl, e, hk⟩ := h
    obtain ⟨its, rv, pl, _⟩ := I.tuple (SqT.of e)
    rw [KVal]
    exact ⟨a, its, r, pl, kvals_of I l vs its hk rv⟩
theorem kvals_of (I : Inv X pins σ H s) : ∀ (l : List KT) (vs : List V) (us : List Value), KeysAt H l vs → Vals vs us → KVals s.heap l us
  | [], vs, us, h, r => by
    rw [KeysAt] at h
    subst h
    rw [KVals]
    cases r
    rfl
  | t :: l, vs, us, h, r => by
    rw [KeysAt] at h
    obtain ⟨v, q, rfl, h1, h2⟩ := h
    cases r with
    | cons r1 r2 =>
      rw [KVals]
      exact ⟨_, _, rfl, kval_of I t v _ h1 r1, kvals_of I l q _ h2 r2⟩
end
end
theorem isTup_inj {h : Heap} {a : Addr} {its its' : List Value} (x : IsTup h a its.toArray) (y : IsTup h a its'.toArray) : its = its' := by
  obtain ⟨o, e, _, n, d⟩ := x
  obtain ⟨o', e', _, n', d'⟩ := y
  rw [e] at e'
  cases e'
  rw [d] at d'
  injection d' with d1 _
  simpa using congrArg Array.toList d1
mutual
theorem KVal.inj {h : Heap} : ∀ (a b : KT) (v : Value), KVal h a v → KVal h b v → a.eqb b = true
  | .int i, b, v, x, y => by
    rw [KVal] at x
    obtain ⟨t, rfl⟩ := x
    cases b with
    | int j => rw [KVal] at y; obtain ⟨u, e⟩ := y; injection e with e _; rw [KT.eqb, e]; exact beq_self_eq_true j
    | str z => rw [KVal] at y; obtain ⟨u, e⟩ := y; cases e
    | tup m => rw [KVal] at y; obtain ⟨_, _, e, _⟩ := y; cases e
  | .str w, b, v, x, y => by
    rw [KVal] at x
    obtain ⟨t, rfl⟩ := x
    cases b with
    | int j => rw [KVal] at y; obtain ⟨u, e⟩ := y; cases e
    | str z => rw [KVal] at y; obtain ⟨u, e⟩ := y; injection e with e _; rw [KT.eqb, e]; exact beq_self_eq_true z
    | tup m => rw [KVal] at y; obtain ⟨_, _, e, _⟩ := y; cases e
  | .tup l, b, v, x, y => by
    rw [KVal] at x
    obtain ⟨p, its, rfl, px, kx⟩ := x
    cases b with
    | int j => rw [KVal] at y; obtain ⟨u, e⟩ := y; cases e
    | str z => rw [KVal] at y; obtain ⟨u, e⟩ := y; cases e
    | tup m =>
      rw [KVal] at y
      obtain ⟨q, its', e, py, ky⟩ := y
      cases e
      cases isTup_inj px py
      rw [KT.eqb]
      exact KVals.inj l m its kx ky
theorem KVals.inj {h : Heap} : ∀ (l m : List KT) (us : List Value), KVals h l us → KVals h m us → eqbL l m = true
  | [], m, us, x, y => by
    rw [KVals] at x
    subst x
    cases m with
    | nil => rw [eqbL]
    | cons b m => rw [KVals] at y; obtain ⟨_, _, e, _⟩ := y; cases e
  | a :: l, m, us, x, y => by
    rw [KVals] at x
    obtain ⟨v, r, rfl, x1, x2⟩ := x
    cases m with
    | nil => rw [KVals] at y; cases y
    | cons b m =>
      rw [KVals] at y
      obtain ⟨v', r', e, y1, y2⟩ := y
      injection e with e1 e2
      subst e1 e2
      rw [eqbL, KVal.inj a b v x1 y1, KVals.inj l m r x2 y2]
      rfl
end
theorem KVals.length {h : Heap} : ∀ {l : List KT} {us : List Value}, KVals h l us → l.length = us.length
  | [], us, x => by rw [KVals] at x; subst x; rfl
  | a :: l, us, x => by
    rw [KVals] at x
    obtain ⟨v, r, rfl, _, x2⟩ := x
    rw [List.length_cons, List.length_cons, x2.length]
theorem KVals.get {h : Heap} : ∀ {l : List KT} {us : List Value} {j : Nat} {u : Value}, KVals h l us → us[j]? = some u → ∃ t, l[j]? = some t ∧ KVal h t u
  | [], us, j, u, x, e => by rw [KVals] at x; subst x; simp at e
  | a :: l, us, 0, u, x, e => by
    rw [KVals] at x
    obtain ⟨v, r, rfl, x1, _⟩ := x
    simp at e
    subst e
    exact ⟨a, rfl, x1⟩
  | a :: l, us, j + 1, u, x, e => by
    rw [KVals] at x
    obtain ⟨v, r, rfl, _, x2⟩ := x
    obtain ⟨t, e1, e2⟩ := x2.get (j := j) (by simpa using e)
    exact ⟨t, by simpa using e1, e2⟩
theorem depth_in : ∀ {l : List KT} {t : KT}, t ∈ l → t.depth ≤ depthL l
  | [], _, h => by cases h
  | u :: l, t, h => by
    rw [depthL]
    rcases List.mem_cons.mp h with e | h
    · subst e; omega
    · have := depth_in h; omega
theorem eqbL_range : ∀ (l m : List KT), ((List.range (min l.length m.length)).all (fun j => (l.getD j (.int 0)).eqb (m.getD j (.int 0))) && l.length == m.length) = eqbL l m
  | [], [] => by simp [eqbL]
  | [], _ :: _ => by simp [eqbL]
  | _ :: _, [] => by simp [eqbL]
  | a :: l, b :: m => by
    have ih := eqbL_range l m
    have e : min (a :: l).length (b :: m).length = min l.length m.length + 1 := by simp only [List.length_cons]; omega
    rw [e, List.range_succ_eq_map, List.all_cons, List.all_map, eqbL, ← ih, Bool.and_assoc]
    simp [Function.comp_def]

/-! ### == -/
theorem eqAt_key {s : Shared} : ∀ (n : Nat) (a b : KT) (A : Around) (v u : Value), a.depth ≤ n → KVal s.heap a v → KVal s.heap b u → A.units + a.depth < cLine → SeqAt.EqAt A s v u (a.eqb b)
  | n, .int i, b, A, v, u, _, x, y, hu => by
    rw [KVal] at x
    obtain ⟨t, rfl⟩ := x
    have hu' : A.units < cLine := by omega
    cases b with
    | int j => rw [KVal] at y; obtain ⟨t', rfl⟩ := y; rw [KT.eqb]; exact SeqAt.EqAt.int_int i t j t'
    | str z => rw [KVal] at y; obtain ⟨t', rfl⟩ := y; rw [show (KT.int i).eqb (.str z) = false by simp [KT.eqb]]; exact SeqAt.EqAt.int_str i t z t'
    | tup m => rw [KVal] at y; obtain ⟨p, its, rfl, py, _⟩ := y; rw [show (KT.int i).eqb (.tup m) = false by simp [KT.eqb]]; exact SeqAt.EqAt.int_tuple i t py hu'
  | n, .str w, b, A, v, u, _, x, y, hu => by
    rw [KVal] at x
    obtain ⟨t, rfl⟩ := x
    have hu' : A.units < cLine := by omega
    cases b with
    | int j => rw [KVal] at y; obtain ⟨t', rfl⟩ := y; rw [show (KT.str w).eqb (.int j) = false by simp [KT.eqb]]; exact SeqAt.EqAt.str_int w t j t'
    | str z => rw [KVal] at y; obtain ⟨t', rfl⟩ := y; rw [KT.eqb]; exact SeqAt.EqAt.str_str w t z t'
    | tup m => rw [KVal] at y; obtain ⟨p, its, rfl, py, _⟩ := y; rw [show (KT.str w).eqb (.tup m) = false by simp [KT.eqb]]; exact SeqAt.EqAt.str_tuple w t py hu'
  | 0, .tup l, b, A, v, u, hn, x, y, hu => by
    rw [KT.depth] at hn
    omega
  | n + 1, .tup l, b, A, v, u, hn, x, y, hu => by
    have x' := x
    rw [KVal] at x
    obtain ⟨p, its, rfl, px, kx⟩ := x
    rw [KT.depth] at hn hu
    have hu' : A.units < cLine := by omega
    cases b with
    | int j => rw [KVal] at y; obtain ⟨t', rfl⟩ := y; rw [show (KT.tup l).eqb (.int j) = false by simp [KT.eqb]]; exact SeqAt.EqAt.tuple_int j t' px hu'
    | str z => rw [KVal] at y; obtain ⟨t', rfl⟩ := y; rw [show (KT.tup l).eqb (.str z) = false by simp [KT.eqb]]; exact SeqAt.EqAt.tuple_str z t' px hu'
    | tup m =>
      have y' := y
      rw [KVal] at y
      obtain ⟨q, its', rfl, py, ky⟩ := y
      by_cases hpq : p = q
      · subst hpq
        rw [KVal.inj _ _ _ x' y']
        exact SeqAt.EqAt.same _
      · have lx := kx.length
        have ly := ky.length
        have rc := SeqAt.RcAt.tuples (A := A) (s := s) (e := fun j => (l.getD j (.int 0)).eqb (m.getD j (.int 0))) px py hu' (fun j h1 h2 => by
          have h1' : j < its.length := by simpa using h1
          have h2' : j < its'.length := by simpa using h2
          obtain ⟨t1, e1, k1⟩ := kx.get (j := j) (u := its[j]) (by simp [h1'])
          obtain ⟨t2, e2, k2⟩ := ky.get (j := j) (u := its'[j]) (by simp [h2'])
          have d1 := depth_in (List.mem_of_getElem? e1)
          have g1 : l.getD j (.int 0) = t1 := by rw [List.getD_eq_getElem?_getD, e1]; rfl
          have g2 : m.getD j (.int 0) = t2 := by rw [List.getD_eq_getElem?_getD, e2]; rfl
          have := eqAt_key n t1 t2 A.in1 its[j] its'[j] (by omega) k1 k2 (by show A.units + 1 + t1.depth < cLine; omega)
          show SeqAt.EqAt A.in1 s _ _ ((l.getD j (.int 0)).eqb (m.getD j (.int 0)))
          rw [g1, g2]
          simpa using this)
        have er : ((List.range (min its.toArray.size its'.toArray.size)).all (fun j => (l.getD j (.int 0)).eqb (m.getD j (.int 0))) && its.toArray.size == its'.toArray.size) = (KT.tup l).eqb (.tup m) := by
          rw [List.size_toArray, List.size_toArray, ← lx, ← ly, KT.eqb]
          exact eqbL_range l m
        rw [er] at rc
        exact .of_refs hpq rc
/-! ### < -/
def LtAt (A : Around) (s : Shared) (v u : Value) (b : Bool) : Prop :=
  ∀ (prog : Program) (w : World) (E : Value → Shared → Prop) (Q : Value → Shared → Prop), Q (.bool b) s → wpAny (model prog w) A (richCompare .Lt v u) Q E s
section
open PySem.SeqAt
open PySem.AutoSeq1 (wpAny_loadPart')
open PySem.MeetsSeq PySem.MeetsSeq2 PySem.MeetsSeq3
theorem tuple_lt_keys (l b : Addr) (items items2 : Array Value) (n n2 : Nat) (dd dd2 : Option Addr) (sl sl2 : Array (Option Value)) (ts us : List KT) :
    Meets (Builtin.«tuple.__lt__» ⟨[.ref l, .ref b], []⟩)
      (fun A R s => s.heap.get? l = some { cls := .type "tuple", dict := dd, data := .seq items n, slots := sl } ∧ s.heap.get? b = some { cls := .type "tuple", dict := dd2, data := .seq items2 n2, slots := sl2 } ∧
        KVals s.heap ts items.toList ∧ KVals s.heap us items2.toList ∧ cmpL ts us = true ∧
        (∀ x y v u, x ∈ ts → KVal s.heap x v → KVal s.heap y u → EqAt A.in1 s v u (x.eqb y)) ∧ (∀ x y v u, x ∈ ts → KVal s.heap x v → KVal s.heap y u → x.cmp y = true → LtAt A.in1 s v u (x.plt y)) ∧
        R (.ok (.ret (.bool (pltL ts us)))) s) :=
  .of_wp fun prog w A R s h => by
    obtain ⟨hp, g, d, tk, os⟩ := s; obtain ⟨hl, hb, hi, hj, hc, hE, hL, h⟩ := h
    have f2 := AutoSeq1.sub_tuple_tuple
    have z1 : items.size = ts.length := by rw [hi.length]; simp
    have z2 : items2.size = us.length := by rw [hj.length]; simp
    wp_walk using wpAny_loadPart' hl, wpAny_loadPart' hb, wpAny_forIn_list _ (fun rest b s' => b.1 = none ∧ s' = ⟨hp, g, d, tk, os⟩ ∧ ∃ (vs ws : List Value) (ts' us' : List KT), rest = vs.zip ws ∧
      KVals hp ts' vs ∧ KVals hp us' ws ∧ (∀ x ∈ ts', x ∈ ts) ∧ cmpL ts' us' = true ∧ ts'.length + items2.size = us'.length + items.size ∧ R (.ok (.ret (.bool (pltL ts' us')))) ⟨hp, g, d, tk, os⟩) _
    case turn =>
      rintro ⟨y, x⟩ rest b s' ⟨hb', rfl, vs, ws, ts', us', hz, hvi, hwi, hin, hcm, hlen, hR⟩
      cases ts' with
      | nil => rw [KVals] at hvi; subst hvi; rw [List.zip_nil_left] at hz; cases hz
      | cons a ts' =>
        cases us' with
        | nil => rw [KVals] at hwi; subst hwi; rw [List.zip_nil_right] at hz; cases hz
        | cons c us' =>
          rw [KVals] at hvi hwi
          obtain ⟨v, vr, rfl, ka, hvi'⟩ := hvi
          obtain ⟨u, ur, rfl, kc, hwi'⟩ := hwi
          rw [List.zip_cons_cons] at hz
          injection hz with hyx hrest
          injection hyx with hy hx
          subst hy hx
          rw [pltL] at hR
          rw [cmpL] at hcm
          simp only [List.length_cons] at hlen
          have he := hE a c y x (hin a List.mem_cons_self) ka kc
          refine wpAny_bind (he prog w _ _ ?_)
          cases hq : a.eqb c with
          | true =>
            rw [hq, if_pos rfl] at hR hcm
            wp_walk
            exact ⟨rfl, rfl, _, _, _, _, hrest, hvi', hwi', fun z hz => hin z (List.mem_cons_of_mem _ hz), hcm, by omega, hR⟩
          | false =>
            rw [hq, if_neg Bool.false_ne_true] at hR hcm
            have hri := hL a c y x (hin a List.mem_cons_self) ka kc hcm prog w
            wp_walk using hri
            exact ⟨_, rfl, by simpa using hR⟩
    case fin =>
      rintro ⟨b1, b2⟩ s' ⟨hb', rfl, vs, ws, ts', us', hz, hvi, hwi, hin, hcm, hlen, hR⟩
      simp only at hb'
      subst hb'
      have hv : pltL ts' us' = decide (items.size < items2.size) := by
        cases ts' with
        | nil =>
          cases us' with
          | nil =>
            simp only [List.length_nil] at hlen
            rw [pltL]
            exact (decide_eq_false (by omega)).symm
          | cons c us' =>
            simp only [List.length_nil, List.length_cons] at hlen
            rw [pltL]
            exact (decide_eq_true (by omega)).symm
        | cons a ts' =>
          cases us' with
          | nil =>
            simp only [List.length_nil, List.length_cons] at hlen
            rw [pltL]
            exact (decide_eq_false (by omega)).symm
          | cons c us' =>
            rw [KVals] at hvi hwi
            obtain ⟨v, vr, rfl, _, _⟩ := hvi
            obtain ⟨u, ur, rfl, _, _⟩ := hwi
            rw [List.zip_cons_cons] at hz
            cases hz
      rw [hv] at hR
      wp_walk
      exact ⟨_, rfl, by simpa [Builtin.Tuple.tupleCompareSizes] using hR⟩
    case h =>
      exact ⟨rfl, rfl, items.toList, items2.toList, ts, us, rfl, hi, hj, fun _ hx => hx, hc, by omega, h⟩
end
theorem ltAt_key {s : Shared} : ∀ (n : Nat) (a b : KT) (A : Around) (v u : Value), a.depth ≤ n → KVal s.heap a v → KVal s.heap b u → a.cmp b = true → A.units + a.depth < cLine → LtAt A s v u (a.plt b)
  | n, .int i, b, A, v, u, _, x, y, hc, hu => by
    rw [KVal] at x
    obtain ⟨t, rfl⟩ := x
    cases b with
    | int j => rw [KVal] at y; obtain ⟨t', rfl⟩ := y; rw [KT.plt]; exact fun prog w E Q h => HT.rcLt_int A s i t j t' prog w E Q h
    | str z => simp [KT.cmp] at hc
    | tup m => simp [KT.cmp] at hc
  | n, .str w, b, A, v, u, _, x, y, hc, hu => by
    rw [KVal] at x
    obtain ⟨t, rfl⟩ := x
    cases b with
    | int j => simp [KT.cmp] at hc
    | str z => rw [KVal] at y; obtain ⟨t', rfl⟩ := y; rw [KT.plt]; exact fun prog w' E Q h => (lt_str h : wpAny (model prog w') A (compareOp .Lt (.str w t) (.str z t')) Q E s)
    | tup m => simp [KT.cmp] at hc
  | 0, .tup l, b, A, v, u, hn, x, y, hc, hu => by
    rw [KT.depth] at hn
    omega
  | n + 1, .tup l, b, A, v, u, hn, x, y, hc, hu => by
    rw [KVal] at x
    obtain ⟨p, its, rfl, px, kx⟩ := x
    rw [KT.depth] at hn hu
    have hu' : A.units < cLine := by omega
    cases b with
    | int j => simp [KT.cmp] at hc
    | str z => simp [KT.cmp] at hc
    | tup m =>
      rw [KVal] at y
      obtain ⟨q, its', rfl, py, ky⟩ := y
      rw [KT.cmp] at hc
      rw [KT.plt]
      intro prog w E Q h
      obtain ⟨⟨cls, dd, data, sl⟩, ho, hcl, nn1, hd⟩ := id px
      obtain ⟨⟨cls2, dd2, data2, sl2⟩, ho2, hcl2, nn2, hd2⟩ := id py
      simp only at hcl hd hcl2 hd2
      subst hcl hd hcl2 hd2
      refine richCompare_meets_room (op := .Lt) ⟨_, ho, rfl⟩ ⟨_, ho2, rfl⟩ PySem.F.slot_tuple_lt PySem.F.entry_tuple_lt (PySem.F.args_tuple_lt_2 _ _) (tuple_lt_keys p q its.toArray its'.toArray nn1 nn2 dd dd2 sl sl2 l m)
        ⟨ho, ho2, kx, ky, hc, fun x y v u hx k1 k2 => ?_, fun x y v u hx k1 k2 k3 => ?_, show Value.bool (pltL l m) ≠ Value.notImplemented ∧ Q (.bool (pltL l m)) s from ⟨(fun x => nomatch x), h⟩⟩ hu'
      · have d1 := depth_in hx
        exact eqAt_key x.depth x y A.in1 v u (Nat.le_refl _) k1 k2 (by show A.units + 1 + x.depth < cLine; omega)
      · have d1 := depth_in hx
        exact ltAt_key n x y A.in1 v u (by omega) k1 k2 k3 (by show A.units + 1 + x.depth < cLine; omega)

section
variable {X : Cx}
theorem Room.key {k : Nat} {A : Around} (r : Room k A) {n : Nat} (h : n ≤ 200) : A.units + n < cLine := by have := r.un; omega
def rLtK : R2 := fun x y H Q => ∃ a b, KeyAt H a x ∧ KeyAt H b y ∧ a.cmp b = true ∧ a.depth ≤ 200 ∧ Q (.bl (a.plt b)) H
theorem op_ltK {k : Nat} (hr : Room k X.A) : OpR X (compareOp .Lt) rLtK := by
  intro pins s σ H x y v u Q I rx ry h
  obtain ⟨a, b, ha, hb, hc, hd, q⟩ := h
  exact ltAt_key a.depth a b X.A v u (Nat.le_refl _) (kval_of I a x v ha rx) (kval_of I b y u hb ry) hc (Room.key hr hd) X.prog X.w X.xe _ ⟨.bl _, H, I, rfl, q⟩
end
end Tw
set_option Elab.async false
set_option linter.all false
set_option maxRecDepth 100000
set_option maxHeartbeats 4000000
namespace Tw
open PySem PySem.Spec L2 PyProof.Rows
/-! ### dicts whose keys are keys of any kind: finding one -/
mutual
def hashK (w : World) : KT → Int
  | .int i => hashInt i
  | .str x => keyH w (.inr x)
  | .tup l => reduceHash (Builtin.Tuple.tupleHashOf (hashL w l))
def hashL (w : World) : List KT → List Int
  | [] => []
  | t :: l => hashK w t :: hashL w l
end
theorem hashL_append (w : World) : ∀ (l m : List KT), hashL w (l ++ m) = hashL w l ++ hashL w m
  | [], m => by rw [hashL]; rfl
  | t :: l, m => by rw [List.cons_append, hashL, hashL, hashL_append w l m]; rfl
section
variable {prog : Program} {w : World}
/-- hash(key) -/
theorem kv_hash : ∀ (n : Nat) (t : KT) {A : Around} {E : Value → Shared → Prop} {s : Shared} {v : Value} {Q : Int → Shared → Prop}, t.depth ≤ n → KVal s.heap t v → A.units + t.depth < cLine → (∀ tk, s.toks ≤ tk → Q (hashK w t) { s with toks := tk }) → wpAny (model prog w) A (pyHash v) Q E s
  | n, .int i, A, E, s, v, Q, _, x, hu, q => by
    rw [KVal] at x
    obtain ⟨t, rfl⟩ := x
    rw [hashK] at q
    exact wpAny_pyHash_int (q _ (Nat.le_succ _))
  | n, .str i, A, E, s, v, Q, _, x, hu, q => by
    rw [KVal] at x
    obtain ⟨t, rfl⟩ := x
    rw [hashK] at q
    exact wpAny_pyHash_str (q _ (Nat.le_succ _))
  | 0, .tup l, A, E, s, v, Q, hn, x, hu, q => by rw [KT.depth] at hn; omega
  | n + 1, .tup l, A, E, s, v, Q, hn, x, hu, q => by
    rw [KT.depth] at hn hu
    rw [KVal] at x
    obtain ⟨a, its, rfl, pt, ks⟩ := x
    have hT := pt.typeIs
    obtain ⟨o, ho, hc, nn, hd⟩ := pt
    unfold pyHash
    first | unfold pyHashByItsType | skip
    first | refine wpAny_bind (wpAny_cRoomFor_or (.inr (by omega)) ?_) | skip
    refine wpAny_bind (wpAny_specialOf hT PySem.F.slot_tuple_hash.lookup ?_)
    show wpAny _ _ (if (some (Value.builtin "tuple.__hash__") == some Value.none) = true then _ else _) Q E s
    rw [if_neg (by rw [beq_builtin_none]; exact Bool.false_ne_true)]
    refine wpAny_bind (wpAny_specialOf hT PySem.F.slot_tuple_hash.lookup ?_)
    show wpAny _ _ (callSpecialIfBoundUnlessNone? (.ref a) "__hash__" _ >>= _) Q E s
    refine wpAny_bind (wpAny_callSpecialIfBoundUnlessNone?_slot hT PySem.F.slot_tuple_hash (wpAny_call_entry PySem.F.slot_tuple_hash hT PySem.F.entry_tuple_hash ?_ (PySem.F.args_tuple_hash_1 _)))
    show wpAny _ _ (Builtin.Tuple.tupleItemsOf (.ref a) >>= _) _ _ s
    refine wpAny_bind (wpAny_tupleItemsOf ho hd (wpAny_bind ?_))
    rw [← Array.forIn_toList]
    refine wpAny_forIn_list _ (fun rest (b : Array Int) s' => ∃ dn lf tk, l = dn ++ lf ∧ KVals s.heap lf rest ∧ b.toList = hashL w dn ∧ s' = { s with toks := tk } ∧ s.toks ≤ tk) _ ?_ ?_ _ _ ⟨[], l, s.toks, rfl, ks, by rw [hashL], rfl, Nat.le_refl _⟩
    · rintro x rest b s' ⟨dn, lf, tk, e0, hl, hb, rfl, htk⟩
      cases lf with
      | nil => rw [KVals] at hl; cases hl
      | cons t lf =>
        rw [KVals] at hl
        obtain ⟨v', r', e, k1, k2⟩ := hl
        injection e with e1 e2
        subst e1 e2
        have hd' : t.depth ≤ depthL l := by rw [e0]; exact depth_in (by simp)
        refine wpAny_bind (kv_hash n t (s := { s with toks := tk }) (by omega) k1 (by show A.units + 1 + _ < _; omega) fun tk2 h2 => ?_)
        have fin : ∃ dn' lf' tk', l = dn' ++ lf' ∧ KVals s.heap lf' rest ∧ (b.push (hashK w t)).toList = hashL w dn' ∧ ({ s with toks := tk2 } : Shared) = { s with toks := tk' } ∧ s.toks ≤ tk' :=
          ⟨dn ++ [t], lf, tk2, by rw [e0]; simp, k2, by rw [Array.toList_push, hb, hashL_append, hashL, hashL], rfl, Nat.le_trans htk h2⟩
        first | exact wpAny_pure fin | exact wpAny_bind (wpAny_pure (wpAny_pure fin))
    · rintro b s' ⟨dn, lf, tk, e0, hl, hb, rfl, htk⟩
      cases lf with
      | cons t lf => rw [KVals] at hl; obtain ⟨_, _, e, _⟩ := hl; cases e
      | nil =>
        rw [List.append_nil] at e0
        subst e0
        show wpAny _ _ (retInt (Builtin.Tuple.tupleHashOf b.toList)) _ _ _
        rw [hb]
        refine wpAny_ret_mkInt ?_
        show wpAny _ _ (if (decide (-(2 : Int) ^ 63 ≤ Builtin.Tuple.tupleHashOf (hashL w l)) && decide (Builtin.Tuple.tupleHashOf (hashL w l) < 2 ^ 63)) = true then _ else _) Q E _
        have q' := q (tk + 1) (by omega)
        rw [hashK] at q'
        unfold reduceHash at q'
        split
        · rename_i hr
          rw [if_pos hr] at q'
          exact wpAny_pure q'
        · rename_i hr
          rw [if_neg hr] at q'
          exact wpAny_bind (wpAny_rule (wpAny_pure q'))
/-- a key is compared without a noise -/
theorem kv_quiet : ∀ (n : Nat) (t : KT) {A : Around} {E : Value → Shared → Prop} {s : Shared} {v : Value} {Q : Bool → Shared → Prop}, t.depth ≤ n → KVal s.heap t v → Q true s → wpAny (model prog w) A (eqIsQuiet n v) Q E s
  | n, .int i, A, E, s, v, Q, _, x, q => by
    rw [KVal] at x
    obtain ⟨t, rfl⟩ := x
    rw [eqIsQuiet_byValue n rfl]
    exact wpAny_pure q
  | n, .str i, A, E, s, v, Q, _, x, q => by
    rw [KVal] at x
    obtain ⟨t, rfl⟩ := x
    rw [eqIsQuiet_byValue n rfl]
    exact wpAny_pure q
  | 0, .tup l, A, E, s, v, Q, hn, x, q => by rw [KT.depth] at hn; omega
  | n + 1, .tup l, A, E, s, v, Q, hn, x, q => by
    rw [KT.depth] at hn
    rw [KVal] at x
    obtain ⟨a, its, rfl, pt, ks⟩ := x
    have hT := pt.typeIs
    obtain ⟨o, ho, hc, nn, hd⟩ := pt
    unfold eqIsQuiet
    refine wpAny_bind (wpAny_specialOf hT PySem.F.slot_tuple_eq.lookup ?_)
    show wpAny _ _ (isInstance (.ref a) (.type "tuple") >>= _) _ _ s
    refine wpAny_bind (wpAny_isInstance hT isSubtype_tuple_tuple ?_)
    simp only [Bool.not_true, Bool.false_eq_true, if_false]
    refine wpAny_bind (wpAny_seqItems ho hd (wpAny_bind ?_))
    show wpAny _ _ (forIn its.toArray _ _) _ _ s
    rw [← Array.forIn_toList]
    refine wpAny_forIn_list _ (fun rest r s' => r.1 = none ∧ s' = s ∧ ∃ lf, KVals s.heap lf rest ∧ depthL lf ≤ n) _ ?_ ?_ _ _ ⟨rfl, rfl, l, ks, by omega⟩
    · rintro x rest r s' ⟨hr, rfl, lf, hl, hdp⟩
      cases lf with
      | nil => rw [KVals] at hl; cases hl
      | cons t lf =>
        rw [KVals] at hl
        obtain ⟨v', r', e, k1, k2⟩ := hl
        injection e with e1 e2
        subst e1 e2
        rw [depthL] at hdp
        refine wpAny_bind (kv_quiet n t (by omega) k1 ?_)
        simp only [Bool.not_true, Bool.false_eq_true, if_false]
        exact wpAny_pure ⟨rfl, rfl, lf, k2, by omega⟩
    · rintro ⟨r1, r2⟩ s' ⟨hr, rfl, _⟩
      dsimp only at hr
      subst hr
      exact wpAny_pure q
end
end Tw
set_option Elab.async false
set_option linter.all false
set_option maxRecDepth 100000
set_option maxHeartbeats 4000000
namespace Tw
open PySem PySem.Spec L2 PyProof.Rows
structure EsK (w : World) (h : Heap) (ks : List KT) (es : Array DictEntry) : Prop where
  len : es.size = ks.length
  ent : ∀ (i : Nat) (e : DictEntry), es[i]? = some e → ∃ t, ks[i]? = some t ∧ e.hash = hashK w t ∧ KVal h t e.key ∧ t.depth ≤ 3
  nd : ks.Nodup
section
variable {prog : Program} {w : World} {A : Around} {E : Value → Shared → Prop} {s : Shared}
theorem EsK.uniq {h : Heap} {ks : List KT} {es : Array DictEntry} (x : EsK w h ks es) {i j : Nat} {t : KT} (hi : ks[i]? = some t) (hj : ks[j]? = some t) : i = j := by
  obtain ⟨a, ea⟩ := List.getElem?_eq_some_iff.mp hi
  exact (List.getElem?_inj a x.nd).mp (hi.trans hj.symm)
theorem EsK.get {h : Heap} {ks : List KT} {es : Array DictEntry} (x : EsK w h ks es) {j : Nat} {t : KT} (hj : ks[j]? = some t) : ∃ e, es[j]? = some e ∧ e.hash = hashK w t ∧ KVal h t e.key ∧ t.depth ≤ 3 := by
  obtain ⟨a, _⟩ := List.getElem?_eq_some_iff.mp hj
  have lt : j < es.size := by have := x.len; omega
  have e : es[j]? = some es[j] := Array.getElem?_eq_getElem lt
  obtain ⟨t', e1, e2, e3, e4⟩ := x.ent j _ e
  rw [hj] at e1
  cases e1
  exact ⟨_, e, e2, e3, e4⟩
theorem quiet_tell {v : Value} {stored : List Value} {Q : Bool → Shared → Prop} (hv : ∃ t, KVal s.heap t v ∧ t.depth ≤ 8) (hs : ∀ u ∈ stored, ∃ t, KVal s.heap t u ∧ t.depth ≤ 8) (h : Q false s) : wpAny (model prog w) A (tableMayTell v stored) Q E s := by
  unfold tableMayTell
  refine wpAny_ite_split (fun _ => wpAny_pure h) (fun _ => ?_)
  obtain ⟨t, kv, dt⟩ := hv
  refine wpAny_bind (kv_quiet 8 t dt kv ?_)
  simp only [Bool.not_true, Bool.false_eq_true, if_false]
  refine wpAny_bind ?_
  refine wpAny_forIn_list _ (fun rest r s' => s' = s ∧ r = (none, ()) ∧ ∀ u ∈ rest, u ∈ stored) _ ?_ ?_ _ _ ⟨rfl, rfl, fun _ z => z⟩
  · rintro u rest r s' ⟨rfl, rfl, hr⟩
    obtain ⟨t2, kv2, dt2⟩ := hs u (hr u (List.mem_cons_self ..))
    refine wpAny_bind (kv_quiet 8 t2 dt2 kv2 ?_)
    simp only [Bool.not_true, Bool.false_eq_true, if_false]
    exact wpAny_pure ⟨rfl, rfl, fun u hu => hr u (List.mem_cons_of_mem _ hu)⟩
  · rintro r s' ⟨rfl, rfl, _⟩
    exact wpAny_pure h
theorem kd_find {d : Addr} {o : Obj} {es : Array DictEntry} {ep : Nat} {ks : List KT} {t : KT} {v : Value} {Q : Option Nat → Shared → Prop} (hv : KVal s.heap t v) (dt : t.depth ≤ 3) (hu : A.units + 3 < cLine) (ho : s.heap.get? d = some o) (hd : o.data = .dict es ep) (x : EsK w s.heap ks es)
    (hno : t ∉ ks → Q none s) (hyes : ∀ j, ks[j]? = some t → Q (some j) s) : wpAny (model prog w) A (dictFind d v (hashK w t)) Q E s := by
  have inPl : ∀ j, ks[j]? = some t → j ∈ placesWithHash es.size (fun i => es[i]?.map (·.hash)) (hashK w t) := fun j hj => by
    obtain ⟨e, e1, e2, _⟩ := x.get hj
    obtain ⟨lt, _⟩ := Array.getElem?_eq_some_iff.mp e1
    unfold placesWithHash
    rw [List.mem_filter, List.mem_range]
    exact ⟨lt, by show (Option.map _ es[j]? == _) = true; rw [e1, Option.map_some, e2]; simp⟩
  have ofPl : ∀ i, i ∈ placesWithHash es.size (fun i => es[i]?.map (·.hash)) (hashK w t) → ∃ e u, es[i]? = some e ∧ e.hash = hashK w t ∧ ks[i]? = some u ∧ KVal s.heap u e.key ∧ u.depth ≤ 3 := fun i hi => by
    unfold placesWithHash at hi
    rw [List.mem_filter, List.mem_range] at hi
    have e1 : es[i]? = some es[i] := Array.getElem?_eq_getElem hi.1
    obtain ⟨u, e2, _, e4, e5⟩ := x.ent i _ e1
    have : (Option.map (·.hash) es[i]? == some (hashK w t)) = true := hi.2
    rw [e1, Option.map_some] at this
    exact ⟨_, u, e1, by simpa using this, e2, e4, e5⟩
  have pnd : (placesWithHash es.size (fun i => es[i]?.map (·.hash)) (hashK w t)).Nodup := by
    unfold placesWithHash
    exact List.nodup_range.filter _
  have eq_at : ∀ (u : KT) (e : DictEntry), KVal s.heap u e.key → u.depth ≤ 3 → SeqAt.EqAt A s e.key v (u.eqb t) := fun u e k1 d1 => eqAt_key u.depth u t A e.key v (Nat.le_refl _) k1 hv (by omega)
  have stored : ∀ u ∈ (placesWithHash es.size (fun i => es[i]?.map (·.hash)) (hashK w t)).filterMap (fun i => es[i]?.map (·.key)), ∃ t, KVal s.heap t u ∧ t.depth ≤ 8 := fun u hu => by
    obtain ⟨i, hi, e⟩ := List.mem_filterMap.mp hu
    obtain ⟨en, z, e1, _, _, e4, e5⟩ := ofPl i hi
    rw [e1, Option.map_some] at e
    cases e
    exact ⟨z, e4, by omega⟩
  unfold dictFind
  try with_reducible refine wpAny_holding ?_
  refine wpAny_bind (wpAny_dictEntries ho hd ?_)
  generalize hP : placesWithHash es.size (fun i => es[i]?.map (·.hash)) (hashK w t) = pl at inPl ofPl pnd stored
  have plain : wpAny (model prog w) A (dictWalkPlain d v (hashK w t) es pl) Q E s := by
    unfold dictWalkPlain
    refine wpAny_bind ?_
    refine wpAny_forIn_list _ (fun rest b s' => s' = s ∧ b = (none, ()) ∧ (∀ i ∈ rest, i ∈ pl) ∧ ∀ i ∈ pl, i ∈ rest ∨ ks[i]? ≠ some t) _ ?_ ?_ _ _ ⟨rfl, rfl, fun _ z => z, fun _ z => .inl z⟩
    · rintro i rest b s' ⟨rfl, rfl, h1, h2⟩
      obtain ⟨e, u, e1, e2, e3, e4, e5⟩ := ofPl i (h1 i (List.mem_cons_self ..))
      rw [e1]
      dsimp only
      rw [e2, if_pos (by simp)]
      refine wpAny_bind (wpAny_dictEpoch ho hd (wpAny_bind (eq_at u e e4 e5 prog w _ _ (wpAny_bind (wpAny_dictEpoch ho hd ?_)))))
      rw [if_neg (by simp)]
      cases hq : u.eqb t with
      | true =>
        have : u = t := eqb_eq u t hq
        subst this
        rw [if_pos rfl]
        exact wpAny_bind (wpAny_rule (wpAny_pure (wpAny_pure (hyes i e3))))
      | false =>
        rw [if_neg Bool.false_ne_true]
        refine wpAny_bind (wpAny_rule (wpAny_pure ⟨rfl, rfl, fun j hj => h1 j (List.mem_cons_of_mem _ hj), fun j hj => ?_⟩))
        rcases h2 j hj with z | z
        · rcases List.mem_cons.mp z with z | z
          · subst z
            refine .inr fun z => ?_
            rw [e3] at z
            cases z
            rw [eqb_self] at hq
            cases hq
          · exact .inl z
        · exact .inr z
    · rintro b s' ⟨rfl, rfl, _, h2⟩
      refine wpAny_pure (hno fun z => ?_)
      obtain ⟨j, hj⟩ := List.mem_iff_getElem?.mp z
      rcases h2 j (inPl j hj) with q | q
      · cases q
      · exact q hj
  -- the way of all keys
  have hitLoop : ∀ (f : Nat → Option (Option Nat) × Option Nat → Sem (ForInStep (Option (Option Nat) × Option Nat))) (g : Option (Option Nat) × Option Nat → Sem (Option Nat)), (∀ r, g (some r, none) = pure r) → (∀ h, g (none, h) = pure h) →
      (∀ i u e (R : ForInStep (Option (Option Nat) × Option Nat) → Shared → Prop), es[i]? = some e → e.hash = hashK w t → KVal s.heap u e.key → u.depth ≤ 3 → u = t → R (.done (some (some i), none)) s → R (.yield (none, some i)) s → wpAny (model prog w) A (f i (none, none)) R E s) →
      (∀ i u e hit (R : ForInStep (Option (Option Nat) × Option Nat) → Shared → Prop), es[i]? = some e → e.hash = hashK w t → KVal s.heap u e.key → u.depth ≤ 3 → u ≠ t → R (.yield (none, hit)) s → wpAny (model prog w) A (f i (none, hit)) R E s) →
      wpAny (model prog w) A (forIn pl (none, none) f >>= g) Q E s := fun f g g1 g2 f1 f2 => by
    refine wpAny_bind ?_
    refine wpAny_forIn_list _ (fun rest b s' => s' = s ∧ rest.Nodup ∧ (∀ i ∈ rest, i ∈ pl) ∧ ((b = (none, none) ∧ ∀ i ∈ pl, i ∈ rest ∨ ks[i]? ≠ some t) ∨ ∃ j, b = (none, some j) ∧ ks[j]? = some t ∧ j ∉ rest)) _ ?_ ?_ _ _ ⟨rfl, pnd, fun _ z => z, .inl ⟨rfl, fun _ z => .inl z⟩⟩
    · rintro i rest b s' ⟨rfl, nd, h1, h2⟩
      obtain ⟨e, u, e1, e2, e3, e4, e5⟩ := ofPl i (h1 i (List.mem_cons_self ..))
      have nd' := List.nodup_cons.mp nd
      have h1' : ∀ j ∈ rest, j ∈ pl := fun j hj => h1 j (List.mem_cons_of_mem _ hj)
      by_cases hq : u = t
      · have e3' := e3
        rw [hq] at e3'
        rcases h2 with ⟨rfl, h2⟩ | ⟨j, rfl, hj, hn⟩
        · refine f1 i u e _ e1 e2 e4 e5 hq ?_ ?_
          · show wpAny _ _ (g (some (some i), none)) _ _ _
            rw [g1]
            exact wpAny_pure (hyes i e3')
          · exact ⟨rfl, nd'.2, h1', .inr ⟨i, rfl, e3', nd'.1⟩⟩
        · have : i = j := x.uniq e3' hj
          exact absurd (this ▸ List.mem_cons_self ..) hn
      · rcases h2 with ⟨rfl, h2⟩ | ⟨j, rfl, hj, hn⟩
        · refine f2 i u e none _ e1 e2 e4 e5 hq ⟨rfl, nd'.2, h1', .inl ⟨rfl, fun j hj => ?_⟩⟩
          rcases h2 j hj with z | z
          · rcases List.mem_cons.mp z with z | z
            · subst z
              exact .inr fun z => hq (by rw [e3] at z; exact Option.some.inj z)
            · exact .inl z
          · exact .inr z
        · exact f2 i u e (some j) _ e1 e2 e4 e5 hq ⟨rfl, nd'.2, h1', .inr ⟨j, rfl, hj, fun z => hn (List.mem_cons_of_mem _ z)⟩⟩
    · rintro b s' ⟨rfl, _, _, h2⟩
      rcases h2 with ⟨rfl, h2⟩ | ⟨j, rfl, hj, hn⟩
      · rw [g2]
        refine wpAny_pure (hno fun z => ?_)
        obtain ⟨j, hj⟩ := List.mem_iff_getElem?.mp z
        rcases h2 j (inPl j hj) with q | q
        · cases q
        · exact q hj
      · rw [g2]
        exact wpAny_pure (hyes j hj)
  have vs : (∃ a, v = .ref a) ∨ (∃ i tk, v = .int i tk) ∨ ∃ y tk, v = .str y tk ∧ t = .str y := by
    cases t with
    | int i => rw [KVal] at hv; obtain ⟨tk, e⟩ := hv; exact .inr (.inl ⟨i, tk, e⟩)
    | str y => rw [KVal] at hv; obtain ⟨tk, e⟩ := hv; exact .inr (.inr ⟨y, tk, e, rfl⟩)
    | tup l => rw [KVal] at hv; obtain ⟨a, _, e, _⟩ := hv; exact .inl ⟨a, e⟩
  rcases vs with ⟨a, rfl⟩ | ⟨i, tk, rfl⟩ | ⟨y, tk, rfl, ht⟩
  case' inl =>
    dsimp only
    rw [if_neg (by simp [carriedByValue])]
    have hany : ¬ (es.any fun e => e.key == Value.ref a && e.hash != hashK w t) = true := by
      rw [← Array.any_toList, List.any_eq_true]
      rintro ⟨e, hin, hc⟩
      obtain ⟨j, hj⟩ := List.mem_iff_getElem?.mp hin
      rw [Array.getElem?_toList] at hj
      obtain ⟨u, _, e2, e3, _⟩ := x.ent j e hj
      rw [Bool.and_eq_true] at hc
      rw [eq_of_beq hc.1] at e3
      have : u = t := eqb_eq _ _ (KVal.inj _ _ _ e3 hv)
      rw [e2, this] at hc
      simp at hc
    rw [if_neg hany]
    refine wpAny_ite_split (fun _ => wpAny_bind (wpAny_pure ?_)) (fun _ => wpAny_bind (quiet_tell ⟨t, hv, by omega⟩ stored ?_))
  case' inr.inl =>
    dsimp only
    refine wpAny_ite_split (fun _ => plain) (fun _ => ?_)
    refine wpAny_ite_split (fun _ => wpAny_bind (wpAny_pure ?_)) (fun _ => wpAny_bind (quiet_tell ⟨t, hv, by omega⟩ stored ?_))
  case' inr.inr =>
    have byStr : wpAny (model prog w) A (foundByValue d (.str y tk) es y) Q E s := by
      unfold foundByValue
      cases hf : es.findIdx? (fun e => e.key.isStr y) with
      | none =>
        refine wpAny_pure (hno fun z => ?_)
        obtain ⟨j, hj⟩ := List.mem_iff_getElem?.mp z
        obtain ⟨e, e1, e2, e3, _⟩ := x.get hj
        have := Array.findIdx?_eq_none_iff.mp hf e (Array.mem_of_getElem? e1)
        rw [ht, KVal] at e3
        obtain ⟨tk', ek⟩ := e3
        rw [ek] at this
        simp [Value.isStr] at this
      | some i =>
        obtain ⟨hlt, hi, _⟩ := Array.findIdx?_eq_some_iff_getElem.mp hf
        have e1 : es[i]? = some es[i] := Array.getElem?_eq_getElem hlt
        obtain ⟨u, e2, e3, e4, e5⟩ := x.ent i _ e1
        have hut : u = t := by
          have hs : ∃ tk', es[i].key = .str y tk' := by
            cases q : es[i].key with
            | str z tz => rw [q] at hi; simp [Value.isStr] at hi; exact ⟨tz, by rw [hi]⟩
            | _ => rw [q] at hi; simp [Value.isStr] at hi
          obtain ⟨tk', ek⟩ := hs
          have hk : KVal s.heap (.str y) es[i].key := by rw [KVal]; exact ⟨tk', ek⟩
          rw [ht]
          exact eqb_eq _ _ (KVal.inj _ _ _ e4 hk)
        dsimp only
        rw [e1]
        dsimp only
        refine wpAny_bind (wpAny_dictEpoch ho hd (wpAny_bind (eq_at u _ e4 e5 prog w _ _ (wpAny_bind (wpAny_dictEpoch ho hd ?_)))))
        rw [if_neg (by simp), hut, eqb_self, if_pos rfl]
        exact wpAny_bind (wpAny_rule (wpAny_pure (hyes i (by rw [e2, hut]))))
    dsimp only
    refine wpAny_ite_split (fun _ => byStr) (fun _ => ?_)
    refine wpAny_ite_split (fun _ => plain) (fun _ => ?_)
    refine wpAny_ite_split (fun _ => wpAny_bind (wpAny_pure ?_)) (fun _ => wpAny_bind (quiet_tell ⟨t, hv, by omega⟩ stored ?_))
  all_goals
    rw [if_neg (by simp)]
    refine hitLoop _ _ (fun r => rfl) (fun h => rfl) (fun i u e R e1 e2 e4 e5 hq r1 r2 => ?_) (fun i u e hit R e1 e2 e4 e5 hq r1 => ?_)
    · rw [e1]
      dsimp only
      rw [e2, if_pos (by simp)]
      refine wpAny_bind (wpAny_dictEpoch ho hd (wpAny_bind (eq_at u e e4 e5 prog w _ _ (wpAny_bind (wpAny_dictEpoch ho hd ?_)))))
      rw [if_neg (by simp), hq, eqb_self, if_pos rfl]
      simp only [Option.isSome_none, Bool.false_eq_true, if_false]
      refine wpAny_bind (wpAny_rule (wpAny_ite_split (fun _ => wpAny_pure r1) (fun _ => wpAny_pure r2)))
    · rw [e1]
      dsimp only
      rw [e2, if_pos (by simp)]
      refine wpAny_bind (wpAny_dictEpoch ho hd (wpAny_bind (eq_at u e e4 e5 prog w _ _ (wpAny_bind (wpAny_dictEpoch ho hd ?_)))))
      have hf : u.eqb t = false := by
        cases q : u.eqb t with
        | false => rfl
        | true => exact absurd (eqb_eq _ _ q) hq
      rw [if_neg (by simp), hf, if_neg Bool.false_ne_true]
      refine wpAny_bind (wpAny_rule ?_)
      rw [if_neg (by simp)]
      exact wpAny_pure r1
end
end Tw
set_option Elab.async false
set_option linter.all false
set_option maxRecDepth 100000
set_option maxHeartbeats 4000000
namespace L2
open PySem PySem.Spec PyProof.Rows

/-! ### an exception that flies: what stands but the frames stays -/
section
variable {X : Cx} {pins : List (Addr × Obj)} {σ : St} {H H' : Hp} {s s' : Shared} {E : XK}
/-! ### raise C(), C without an __init__ of its own -/
end
end L2
set_option Elab.async false
set_option linter.all false
set_option maxRecDepth 100000
set_option maxHeartbeats 4000000
namespace L2
open PySem PySem.Spec PySem.W PyProof.Rows
section
variable {prog : Program} {w : World} {A : Around} {E : Value → Shared → Prop} {s : Shared} {K : Frag} {x C : Addr}
end
end L2
set_option Elab.async false
set_option linter.all false
set_option maxRecDepth 100000
set_option maxHeartbeats 4000000
namespace L2
open PySem PySem.Spec PyProof.Rows

/-- the context of an except suite -/
def Cx.held (X : Cx) (ea : Addr) (E : Value → Shared → Prop) : Cx := { X with A := X.A.mark (some (.ref ea)), calm := false, xe := E }
section
variable {X : Cx} {pins : List (Addr × Obj)} {σ : St} {H H' : Hp} {s s' : Shared} {ea : Addr} {E : Value → Shared → Prop}
end
section
variable {prog : Program} {w : World} {A : Around} {E : Value → Shared → Prop} {s : Shared} {K : PySem.W.Frag} {x C CB : Addr}
end

/-! ### try: f(..) / except Y as n: suite -/
end L2
set_option linter.all false
namespace Tw
open PySem
/-- a thing of any kind, as a tree; odd: what is no number, text or tuple, by its type's name -/
inductive TG where
  | int (i : Int)
  | str (x : Str)
  | tup (l : List TG)
  | odd (n : String)
mutual
def TG.fits : TG → Nat → Bool
  | .int i, _ => decide (i.natAbs < 10 ^ 60)
  | .str x, _ => textOk x
  | .tup l, r => decide (0 < r) && (decide (l.length ≤ 4) && gfitsL l (r - 1))
  | .odd _, _ => false
def gfitsL : List TG → Nat → Bool
  | [], _ => true
  | t :: l, r => t.fits r && gfitsL l r
end
theorem gfitsL_all (r : Nat) : ∀ l : List TG, gfitsL l r = l.all fun t => t.fits r
  | [] => by simp [gfitsL]
  | t :: l => by rw [gfitsL, List.all_cons, gfitsL_all r l]
mutual
def KT.emb : KT → TG
  | .int i => .int i
  | .str x => .str x
  | .tup l => .tup (embL l)
def embL : List KT → List TG
  | [] => []
  | t :: l => t.emb :: embL l
end
theorem embL_map : ∀ l : List KT, embL l = l.map KT.emb
  | [] => by rw [embL]; rfl
  | t :: l => by rw [embL, embL_map l]; rfl
mutual
theorem emb_fits : ∀ (t : KT) (r : Nat), t.emb.fits r = t.fits r
  | .int i, r => by rw [KT.emb, TG.fits, KT.fits]
  | .str x, r => by rw [KT.emb, TG.fits, KT.fits]
  | .tup l, r => by rw [KT.emb, TG.fits, KT.fits, embL_fits l (r - 1), embL_map, List.length_map]
theorem embL_fits : ∀ (l : List KT) (r : Nat), gfitsL (embL l) r = fitsL l r
  | [], r => by rw [embL, gfitsL, fitsL]
  | t :: l, r => by rw [embL, gfitsL, fitsL, emb_fits t r, embL_fits l r]
end
/-! no text in it is long, no tuple in it is wide -/
mutual
def TG.neat : TG → Prop
  | .int _ => True
  | .str x => x.length ≤ 1000
  | .tup l => l.length ≤ 5 ∧ neatL l
  | .odd _ => True
def neatL : List TG → Prop
  | [] => True
  | t :: l => t.neat ∧ neatL l
end
theorem neatL_mem : ∀ {l : List TG} {t : TG}, neatL l → t ∈ l → t.neat
  | [], _, _, h => by cases h
  | u :: l, t, h, hm => by
    rw [neatL] at h
    rcases List.mem_cons.mp hm with e | e
    · subst e; exact h.1
    · exact neatL_mem h.2 e
mutual
theorem emb_neat : ∀ (t : KT) (r : Nat), t.fits r = true → t.emb.neat
  | .int i, r, h => by rw [KT.emb, TG.neat]; trivial
  | .str x, r, h => by
    rw [KT.fits] at h
    rw [KT.emb, TG.neat]
    have := (text_of h).1
    exact Nat.le_trans this (by decide)
  | .tup l, r, h => by
    rw [KT.fits, Bool.and_eq_true, Bool.and_eq_true] at h
    rw [KT.emb, TG.neat, embL_map, List.length_map, ← embL_map]
    have := of_decide_eq_true h.2.1
    exact ⟨by omega, embL_neat l (r - 1) h.2.2⟩
theorem embL_neat : ∀ (l : List KT) (r : Nat), fitsL l r = true → neatL (embL l)
  | [], r, h => by rw [embL, neatL]; trivial
  | t :: l, r, h => by
    rw [fitsL, Bool.and_eq_true] at h
    rw [embL, neatL]
    exact ⟨emb_neat t r h.1, embL_neat l r h.2⟩
end
end Tw
set_option Elab.async false
set_option linter.all false
set_option maxRecDepth 100000
set_option maxHeartbeats 4000000
namespace L2
open PySem PySem.Spec PyProof.Rows
section
variable {X : Cx}
/-! ### more rules -/
theorem Inv.big {pins : List (Addr × Obj)} {σ : St} {H : Hp} {s : Shared} (I : Inv X pins σ H s) : sysModules < s.heap.objs.size := by
  have h : mainGlobals < s.heap.objs.size := (I.mod.glob.keeps I.bk).lt
  exact Nat.lt_trans (by decide) h
theorem op_gt_str : OpR X (compareOp .Gt) (fun x y H Q => ∃ i j, x = .str i ∧ y = .str j ∧ Q (.bl (decide (j.cps.toList < i.cps.toList))) H) := by
  intro pins s σ H x y v u Q I rx ry h
  obtain ⟨i, j, rfl, rfl, q⟩ := h
  obtain ⟨t, rfl⟩ := rx
  obtain ⟨t', rfl⟩ := ry
  exact PySem.P.gt_str (fin_bl I q (by simp))
/-- c * n, c one sign -/
def repS (x : Str) (n : Int) : Str := ⟨(List.replicate n.toNat x.cps).foldl (· ++ ·) #[]⟩
theorem rep_size (a : Array Nat) : ∀ (k : Nat) (b : Array Nat), ((List.replicate k a).foldl (· ++ ·) b).size = b.size + k * a.size
  | 0, b => by simp
  | k + 1, b => by
    rw [List.replicate_succ, List.foldl_cons, rep_size a k, Array.size_append, Nat.succ_mul]
    omega
theorem op_mul_str : OpR X (binaryOp .Mult) (fun x y H Q => ∃ i n, x = .str i ∧ y = .int n ∧ i.length = 1 ∧ 2 ≤ n ∧ n ≤ 1000 ∧ Q (.str (repS i n)) H) := by
  intro pins s σ H x y v u Q I rx ry h
  obtain ⟨i, n, rfl, rfl, hi, h2, h3, q⟩ := h
  obtain ⟨t, rfl⟩ := rx
  obtain ⟨t', rfl⟩ := ry
  have n1 : ¬ n < 1 := by omega
  have n2 : ¬ ((n == 1 || i.length == 0) = true) := by rw [hi]; simp; omega
  have sz : (repS i n).length ≤ sizeLine := by
    show ((List.replicate n.toNat i.cps).foldl (· ++ ·) #[]).size ≤ sizeLine
    have e : i.cps.size = 1 := hi
    rw [rep_size, e]
    exact Nat.le_of_lt (small1000 (by simp; omega))
  refine PySem.P.mul_str ?_ (fun _ _ => ?_) (fun _ _ => ?_) ?_
  · rw [decide_eq_false (by omega), decide_eq_false (by omega)]; rfl
  · rw [hi]
    have : (1 : Int) ≤ (2 ^ 63 - 1) / n := (Int.le_ediv_iff_mul_le (by omega)).mpr (by omega)
    omega
  · rw [hi]
    unfold Builtin.Str.tooLong sizeLine
    exact decide_eq_false (by omega)
  · rw [if_neg n1, if_neg n2]
    exact ⟨sz, ⟨.str (repS i n), H, I.tok _, ⟨_, rfl⟩, q⟩⟩
/-! ### isinstance of an exception that was caught -/
end
end L2
set_option Elab.async false
set_option linter.all false
set_option maxRecDepth 100000
set_option maxHeartbeats 4000000
namespace L2
open PySem PySem.Spec PyProof.Rows
/-! ### lists of pairs as tables -/
section
variable {κ : Type} [DecidableEq κ]
end


/-! ### a tracked dict, its keys ints and texts or tuples of these -/
/-- raw entries of a dict with tuple keys -/
abbrev KT (H : Hp) : List (List Key × V) → List (List Key × Addr × Value) → Prop := Paired fun p q => p.1 = q.1 ∧ H q.2.1 = some (.tup (p.1.map kV)) ∧ RelV p.2 q.2.2
section
variable {P : Program} {w : World} {H : Hp} {h : Heap} {a : Addr}
end

section
variable {X : Cx} {pins : List (Addr × Obj)} {σ : St} {H : Hp} {s : Shared} {a : Addr} {y v : V} {u r : Value} {o : Option V} {A : Around} {E : Value → Shared → Prop}


/-- a dict's object is replaced -/
theorem d_write {h' : Heap} {t' : Nat} {ob : HO} (I : Inv X pins σ H s) (mu : Mut (H a)) (hs : Heap.SameBut a s.heap h') (he : ∃ q, h'.get? a = some q) (new : ObjOk X.prog X.w (upd H a ob) h' a ob) :
    Inv X pins σ (upd H a ob) { s with heap := h', toks := t' } :=
  I.write (x := a) (e := a) mu (.inl rfl) (fun b q hb z => (hs.2 b hb).trans z) he new
end

section
variable {X : Cx} {pins : List (Addr × Obj)} {σ : St} {H : Hp} {s : Shared} {a : Addr} {kvs : List (Key × V)} {k : Key} {u : Value} {A : Around} {E : Value → Shared → Prop}
end


/-! ### readings and rules -/
section
variable {X : Cx} {o i e value : Expr} {pos pos' tpos : Pos} {td ty tv : TE}
end


/-! ### displays -/
section
variable {X : Cx} {pos : Pos}
end

/-! ### methods -/
/-- a method call o.m(e) of a built-in, with one argument: what must be seen of the text -/
structure M1 (X : Cx) (o : Expr) (m : Str) (apos : Pos) (e : Expr) (cpos : Pos) : Prop where
  base : attributeBase o m X.env (eval o X.env) = eval o X.env
  few : ((backTo cpos (starEach [e] X.env)).all (fun x => !x.1) && (backToKw cpos (keywordEach [] X.env)).all (fun x => x.1.isSome)
    && decide (([e] : List Expr).length + ([] : List Keyword).length + (if ([] : List Keyword).isEmpty then 0 else 1) < 30)) = true
  line : (apos.endLine == cpos.line) = true
  trees : backTo cpos (starEach [e] X.env) = [(false, eval e X.env)]
section
variable {X : Cx} {pins : List (Addr × Obj)} {σ : St} {H : Hp} {s : Shared} {a : Addr} {y d : V} {u r : Value} {o : Option V} {A : Around} {E : Value → Shared → Prop}
end

section
variable {X : Cx} {o e f : Expr} {apos cpos : Pos} {td ty tx : TE}
end

/-! ### dict(d): a copy -/
section
variable {X : Cx} {pins : List (Addr × Obj)} {σ : St} {H : Hp} {s : Shared} {a : Addr} {kvs : List (Key × V)} {A : Around} {E : Value → Shared → Prop}
end


section
variable {X : Cx} {pins : List (Addr × Obj)} {σ : St} {H : Hp} {s : Shared} {a : Addr} {y : V} {u : Value} {A : Around} {E : Value → Shared → Prop}
end
section
variable {X : Cx}
end
/-! ### a dict's pairs: keys that differ -/
section
variable {κ : Type} [DecidableEq κ]
end
end L2
set_option Elab.async false
set_option linter.all false
set_option maxRecDepth 100000
set_option maxHeartbeats 4000000
namespace Tw
open PySem PySem.Spec L2 PyProof.Rows
/-! ### dicts whose keys are keys of any kind -/
def dkO (d : Addr) (es : Array DictEntry) : HO := .ext fun h => (d == sysModules) = false ∧ es.size ≤ sizeLine ∧ ∃ o ep, h.get? d = some o ∧ o.ExactDict ∧ o.data = .dict es ep
abbrev QRel (w : World) (x : KT × V × V) (e : DictEntry) : Prop := e.hash = hashK w x.1 ∧ RelV x.2.1 e.key ∧ RelV x.2.2 e.val
structure DkAt (w : World) (H : Hp) (d : Addr) (xs : List (KT × V × V)) : Prop where
  ex : ∃ es, H d = some (dkO d es) ∧ Paired (QRel w) xs es.toList
  key : ∀ x ∈ xs, KeyAt H x.1 x.2.1 ∧ x.1.depth ≤ 3
  nd : (xs.map (·.1)).Nodup
theorem dk_ok {P : Program} {w : World} {H : Hp} {h : Heap} {d : Addr} {es : Array DictEntry} (h1 : (d == sysModules) = false) (h2 : es.size ≤ sizeLine) (h3 : ∃ o ep, h.get? d = some o ∧ o.ExactDict ∧ o.data = .dict es ep) : ObjOk P w H h d (dkO d es) := by
  refine ⟨⟨h1, h2, h3⟩, ?_, ?_⟩
  · obtain ⟨o, ep, g, _⟩ := h3
    exact ⟨o, g⟩
  · rintro a b ⟨q1, q2, o, ep, g, r⟩ k
    exact ⟨q1, q2, o, ep, k o g, r⟩
theorem paired_right {α β : Type} {F : α → β → Prop} : ∀ {l : List α} {m : List β} {i : Nat} {b : β}, Paired F l m → m[i]? = some b → ∃ a, l[i]? = some a ∧ F a b
  | _, _, _, _, .nil, e => by simp at e
  | _, _, 0, _, .cons r _, e => by simp at e; subst e; exact ⟨_, rfl, r⟩
  | _, _, i + 1, b, .cons _ t, e => by
    obtain ⟨a, h1, h2⟩ := paired_right (i := i) (b := b) t (by simpa using e)
    exact ⟨a, by simpa using h1, h2⟩
theorem paired_of {α β : Type} {F : α → β → Prop} : ∀ {l : List α} {m : List β}, l.length = m.length → (∀ (i : Nat) a b, l[i]? = some a → m[i]? = some b → F a b) → Paired F l m
  | [], [], _, _ => .nil
  | [], _ :: _, h, _ => by simp at h
  | _ :: _, [], h, _ => by simp at h
  | a :: l, b :: m, h, f => .cons (f 0 a b rfl rfl) (paired_of (by simpa using h) fun i x y hx hy => f (i + 1) x y (by simpa using hx) (by simpa using hy))
theorem paired_snoc {α β : Type} {F : α → β → Prop} {a : α} {b : β} (h : F a b) : ∀ {l : List α} {m : List β}, Paired F l m → Paired F (l ++ [a]) (m ++ [b])
  | _, _, .nil => .cons h .nil
  | _, _, .cons r t => .cons r (paired_snoc h t)
def setQ (t : KT) (v : V) (x : KT × V × V) : KT × V × V := if x.1.eqb t = true then (x.1, x.2.1, v) else x
def putQ (xs : List (KT × V × V)) (t : KT) (y v : V) : List (KT × V × V) := if (xs.any fun x => x.1.eqb t) = true then xs.map (setQ t v) else xs ++ [(t, y, v)]
theorem any_key {xs : List (KT × V × V)} {t : KT} : (xs.any fun x => x.1.eqb t) = true ↔ t ∈ xs.map (·.1) := by
  rw [List.any_eq_true, List.mem_map]
  constructor
  · rintro ⟨x, hx, e⟩
    exact ⟨x, hx, eqb_eq _ _ e⟩
  · rintro ⟨x, hx, e⟩
    exact ⟨x, hx, by rw [e]; exact eqb_self _⟩
theorem setQ_key (t : KT) (v : V) (x : KT × V × V) : (setQ t v x).1 = x.1 ∧ (setQ t v x).2.1 = x.2.1 := by
  unfold setQ
  split <;> exact ⟨rfl, rfl⟩
theorem putQ_keys (xs : List (KT × V × V)) (t : KT) (y v : V) : (putQ xs t y v).map (·.1) = if (xs.any fun x => x.1.eqb t) = true then xs.map (·.1) else xs.map (·.1) ++ [t] := by
  unfold putQ
  split
  · rw [List.map_map]
    exact List.map_congr_left fun x _ => (setQ_key t v x).1
  · rw [List.map_append]
    rfl
theorem putQ_len (xs : List (KT × V × V)) (t : KT) (y v : V) : (putQ xs t y v).length ≤ xs.length + 1 := by
  have := congrArg List.length (putQ_keys xs t y v)
  rw [List.length_map] at this
  rw [this]
  split
  · rw [List.length_map]; omega
  · rw [List.length_append, List.length_map]; simp
theorem DkAt.but {w : World} {H H' : Hp} {d p : Addr} {xs : List (KT × V × V)} (x : DkAt w H d xs) (s : SameX p H H') (t : Tups H H') (n : d ≠ p) : DkAt w H' d xs := by
  obtain ⟨es, h1, h2⟩ := x.ex
  exact ⟨⟨es, s _ _ h1 n, h2⟩, fun z hz => ⟨(x.key z hz).1.mono t, (x.key z hz).2⟩, x.nd⟩
section
variable {X : Cx} {pins : List (Addr × Obj)} {σ : L2.St} {H : Hp} {s : Shared} {A : Around} {E : Value → Shared → Prop}
theorem DkAt.es {d : Addr} {xs : List (KT × V × V)} {es : Array DictEntry} (I : Inv X pins σ H s) (x : DkAt X.w H d xs) (r : Paired (QRel X.w) xs es.toList) : EsK X.w s.heap (xs.map (·.1)) es := by
  refine ⟨by have := Paired.length r; simpa using this.symm, fun i e he => ?_, x.nd⟩
  rw [← Array.getElem?_toList] at he
  obtain ⟨z, e1, e2, e3, e4⟩ := paired_right r he
  have hz := x.key z (List.mem_of_getElem? e1)
  exact ⟨z.1, by rw [List.getElem?_map, e1]; rfl, e2, kval_of I _ _ _ hz.1 e3, hz.2⟩
theorem q_find {d : Addr} {xs : List (KT × V × V)} {es : Array DictEntry} {o : Obj} {ep : Nat} {t : KT} {y : V} {u : Value} {Q : Option Nat → Shared → Prop} (I : Inv X pins σ H s) (x : DkAt X.w H d xs) (r : Paired (QRel X.w) xs es.toList) (ho : s.heap.get? d = some o) (hd : o.data = .dict es ep) (hy : KeyAt H t y) (dt : t.depth ≤ 3) (ry : RelV y u) (hu : A.units + 3 < cLine)
    (hno : t ∉ xs.map (·.1) → Q none s) (hyes : ∀ j z e, xs[j]? = some z → z.1 = t → es[j]? = some e → QRel X.w z e → Q (some j) s) : wpAny (model X.prog X.w) A (dictFind d u (hashK X.w t)) Q E s := by
  refine kd_find (kval_of I t y u hy ry) dt hu ho hd (x.es I r) hno fun j hj => ?_
  rw [List.getElem?_map] at hj
  obtain ⟨z, e1, e2⟩ := Option.map_eq_some_iff.mp hj
  have lt : j < es.size := by
    have := Paired.length r
    obtain ⟨a, _⟩ := List.getElem?_eq_some_iff.mp e1
    simp at this
    omega
  have e3 : es[j]? = some es[j] := Array.getElem?_eq_getElem lt
  obtain ⟨z', e4, e5⟩ := paired_right r (by rw [Array.getElem?_toList]; exact e3)
  rw [e1] at e4
  cases e4
  exact hyes j z _ e1 e2 e3 e5
/-- d[y] = v -/
theorem q_set {d : Addr} {xs : List (KT × V × V)} {t : KT} {y v : V} {u r : Value} {Q : Unit → Shared → Prop} (hu : A.units + 4 < cLine) (I : Inv X pins σ H s) (x : DkAt X.w H d xs) (hl : xs.length < 1000) (hy : KeyAt H t y) (dt : t.depth ≤ 3) (ry : RelV y u) (rv : RelV v r)
    (h : ∀ s' H', Inv X pins σ H' s' → SameX d H H' → DkAt X.w H' d (putQ xs t y v) → Q () s') : wpAny (model X.prog X.w) A (setItem (.ref d) u r) Q E s := by
  obtain ⟨es, hH, rel⟩ := x.ex
  obtain ⟨⟨hsys, hsz, o, ep, ho, hx, hd⟩, _⟩ := I.hok d _ hH
  have len : es.size = xs.length := by have := Paired.length rel; simpa using this.symm
  have hT : s.TypeIs (.ref d) "dict" := ⟨o, ho, hx.1⟩
  unfold setItem
  try with_reducible refine wpAny_holding ?_
  refine wpAny_bind (wpAny_sequenceKey hT (by decide) ?_)
  refine wpAny_bind (wpAny_callSpecial?_slot (name := Str.ofString "__setitem__") hT slot_dict_setitem (wpAny_call_entry slot_dict_setitem hT entry_dict_setitem ?_ (args_dict_setitem _ _ _)))
  show wpAny _ _ (Builtin.Dict.notOrdered "__setitem__" ⟨[.ref d, u, r], []⟩ >>= _) _ _ s
  refine wpAny_bind (wpAny_notOrdered_dict hT ?_)
  show wpAny _ _ (dictSet d u r >>= _) _ _ s
  refine wpAny_bind ?_
  unfold dictSet
  try with_reducible refine wpAny_holding ?_
  refine wpAny_bind (kv_hash t.depth t (Nat.le_refl _) (kval_of I t y u hy ry) (by show A.units + 1 + _ < _; omega) fun tk htk => ?_)
  unfold dictSetHashed
  try with_reducible refine wpAny_holding ?_
  have I1 : Inv X pins σ H { s with toks := tk } := I.tok tk
  have mu : Mut (H d) := by rw [hH]; exact True.intro
  have tups : ∀ es', Tups H (upd H d (dkO d es')) := fun es' b ws e => by rw [upd_ne (ne_of e hH (by intro z; cases z))]; exact e
  have fin : ∀ (es' : Array DictEntry) (h' : Heap), es'.size ≤ sizeLine → Heap.SameBut d s.heap h' → (∃ o ep, h'.get? d = some o ∧ o.ExactDict ∧ o.data = .dict es' ep) → Paired (QRel X.w) (putQ xs t y v) es'.toList → Q () { s with heap := h', toks := tk } := fun es' h' hz hs hob hp => by
    refine h _ (upd H d (dkO d es')) (d_write I mu hs (by obtain ⟨o, _, g, _⟩ := hob; exact ⟨o, g⟩) (dk_ok hsys hz hob)) (fun b o e n => by rw [upd_ne n]; exact e) ⟨⟨es', upd_same, hp⟩, fun z hz => ?_, ?_⟩
    · unfold putQ at hz
      split at hz
      · obtain ⟨z', hz', rfl⟩ := List.mem_map.mp hz
        rw [(setQ_key t v z').1, (setQ_key t v z').2]
        exact ⟨(x.key z' hz').1.mono (tups es'), (x.key z' hz').2⟩
      · rcases List.mem_append.mp hz with q | q
        · exact ⟨(x.key z q).1.mono (tups es'), (x.key z q).2⟩
        · rw [List.mem_singleton.mp q]
          exact ⟨hy.mono (tups es'), dt⟩
    · rw [putQ_keys]
      split
      · exact x.nd
      · rename_i hn
        rw [List.nodup_append]
        exact ⟨x.nd, by simp, fun a ha b hb => by rw [List.mem_singleton.mp hb]; exact fun z => hn (any_key.mpr (z ▸ ha))⟩
  refine wpAny_bind (q_find (A := A.in1) I1 x rel ho hd hy dt ry (by show A.units + 1 + 3 < _; omega) (fun hn => ?_) fun j z e e1 e2 e3 e4 => ?_)
  · have hn' : ¬ (xs.any fun x => x.1.eqb t) = true := fun q => hn (any_key.mp q)
    refine wpAny_bind (wpAny_rule (wpAny_updateDictKeys (s := { s with toks := tk }) (hz := hsz) ho hd ?_))
    refine wpAny_pure ⟨.none, rfl, wpAny_pure (fin (es.push ⟨hashK X.w t, u, r⟩) _ (by rw [Array.size_push, len]; exact Nat.le_of_lt (small1000 (by omega))) (Heap.SameBut.update ..) ⟨_, ep + 1, Heap.get?_update_self _ ho (Obj.isFreed_of_dict (Obj.data_mapDictKeys hd _)), hx.mapDictKeys _, Obj.data_mapDictKeys hd _⟩ ?_)⟩
    unfold putQ
    rw [if_neg hn', Array.toList_push]
    exact paired_snoc ⟨rfl, ry, rv⟩ rel
  · have hn' : (xs.any fun x => x.1.eqb t) = true := any_key.mpr (List.mem_map.mpr ⟨z, List.mem_of_getElem? e1, e2⟩)
    refine wpAny_bind (wpAny_rule (wpAny_bind (wpAny_updateDict (s := { s with toks := tk }) ho hd (wpAny_point ?_))))
    refine wpAny_pure ⟨.none, rfl, wpAny_pure (fin (es.modify j fun e => { e with val := r }) _ (by rw [Array.size_modify]; exact hsz) (Heap.SameBut.update ..) ⟨_, ep, Heap.get?_update_self _ ho (Obj.isFreed_of_dict (Obj.data_mapDict hd _)), hx.mapDict _, Obj.data_mapDict hd _⟩ ?_)⟩
    unfold putQ
    rw [if_pos hn']
    have lm : (es.modify j fun e => { e with val := r }).toList.length = es.size := by rw [Array.length_toList]; exact Array.size_modify
    refine paired_of (by rw [lm, List.length_map, len]) fun i a b ha hb => ?_
    rw [List.getElem?_map] at ha
    obtain ⟨a', ea, rfl⟩ := Option.map_eq_some_iff.mp ha
    rw [Array.getElem?_toList, Array.getElem?_modify] at hb
    have hes : es[i]? = some (es[i]'(by obtain ⟨l1, _⟩ := List.getElem?_eq_some_iff.mp ea; omega)) := Array.getElem?_eq_getElem _
    obtain ⟨a2, ea2, r1, r2, r3⟩ := paired_right rel (by rw [Array.getElem?_toList]; exact hes)
    rw [ea] at ea2
    cases ea2
    rw [hes] at hb
    by_cases hij : j = i
    · subst hij
      rw [if_pos rfl, Option.map_some] at hb
      cases hb
      rw [e1] at ea
      cases ea
      unfold setQ
      rw [e2, eqb_self, if_pos rfl]
      rw [e2] at r1
      exact ⟨r1, r2, rv⟩
    · rw [if_neg hij] at hb
      cases hb
      have hne : a'.1.eqb t = false := by
        cases q : a'.1.eqb t with
        | false => rfl
        | true =>
          have q1 : (xs.map (·.1))[i]? = some t := by rw [List.getElem?_map, ea]; exact congrArg some (eqb_eq _ _ q)
          have q2 : (xs.map (·.1))[j]? = some t := by rw [List.getElem?_map, e1]; exact congrArg some e2
          obtain ⟨l1, _⟩ := List.getElem?_eq_some_iff.mp q2
          exact absurd ((List.getElem?_inj l1 x.nd).mp (q2.trans q1.symm)) hij
      unfold setQ
      rw [hne, if_neg Bool.false_ne_true]
      exact ⟨r1, r2, r3⟩
end
end Tw
set_option Elab.async false
set_option linter.all false
set_option maxRecDepth 100000
set_option maxHeartbeats 2000000
namespace Srt
open PySem PySem.W PyProof.Rows
/-! ### the sort's questions, answered by an order, lead to a sorted list -/
/-- answers that are an order's -/
structure Ans (lt : Nat → Nat → Bool) : Prop where
  asym : ∀ i j, lt i j = true → lt j i = false
  trans : ∀ i j k, lt j i = false → lt k j = false → lt k i = false
def gt (p : Array Nat) (i : Nat) : Nat := p.getD i 0
theorem gt_eq (p : Array Nat) (i : Nat) : gt p i = (p[i]?).getD 0 := by unfold gt; rw [Array.getD_eq_getD_getElem?]
theorem gt_rev {p : Array Nat} {i j : Nat} (hj : j ≤ p.size) (k : Nat) : gt (kas_rev p i j) k = if i ≤ k ∧ k < j then gt p (i + j - 1 - k) else gt p k := by
  rw [gt_eq, gt_eq, gt_eq]
  unfold kas_rev
  rw [getElem?_mirror_all hj]
  split <;> rfl
theorem gt_bub {p : Array Nat} {k l : Nat} (hk : k < p.size) (hl : l ≤ k) (x : Nat) : gt (bubble p k (k - l)) x = if x = l then gt p k else if l < x ∧ x ≤ k then gt p (x - 1) else gt p x := by
  rw [gt_eq, gt_eq, gt_eq, gt_eq, getElem?_bubble hk (k - l) (by omega)]
  have e : k - (k - l) = l := by omega
  rw [e]
  split
  · rfl
  · split <;> rfl
/-- all of range n -/
def PB (n : Nat) (p : Array Nat) : Prop := p.Perm (List.toArray (List.range n))
theorem PB.size {n : Nat} {p : Array Nat} (h : PB n p) : p.size = n := by rw [h.size_eq]; simp
theorem PB.lt {n : Nat} {p : Array Nat} (h : PB n p) {i : Nat} (hi : i < n) : gt p i < n := by
  have hs := h.size
  rw [gt_eq, Array.getElem?_eq_getElem (by omega)]
  have : p[i]'(by omega) ∈ (List.toArray (List.range n)) := h.mem_iff.mp (Array.getElem_mem _)
  simpa using this
theorem PB.rev {n : Nat} {p : Array Nat} (h : PB n p) (i j : Nat) : PB n (kas_rev p i j) := (mirror_perm _ _ _ _).trans h
theorem PB.bub {n : Nat} {p : Array Nat} (h : PB n p) (i j : Nat) : PB n (bubble p i j) := (bubble_perm _ _ _).trans h
section
variable {lt : Nat → Nat → Bool} {n : Nat} {cmp : Nat → Nat → (Bool → Shared → Prop) → Shared → Prop} {s : Shared}
def SortedTo (lt : Nat → Nat → Bool) (p : Array Nat) (k : Nat) : Prop := ∀ i j, i ≤ j → j < k → lt (gt p j) (gt p i) = false
def NonInc (lt : Nat → Nat → Bool) (p : Array Nat) (k : Nat) : Prop := ∀ i j, i ≤ j → j < k → lt (gt p i) (gt p j) = false
theorem Ans.irr (O : Ans lt) (i : Nat) : lt i i = false := by
  cases h : lt i i with
  | false => rfl
  | true => exact absurd (O.asym i i h) (by rw [h]; decide)
def Right (lt : Nat → Nat → Bool) (n : Nat) (cmp : Nat → Nat → (Bool → Shared → Prop) → Shared → Prop) (s : Shared) : Prop := ∀ i j, i < n → j < n → ∀ C : Bool → Shared → Prop, C (lt i j) s → cmp i j C s
theorem asc_ok (O : Ans lt) (hc : Right lt n cmp s) {p : Array Nat} (hp : PB n p) : ∀ (f m N : Nat) (Q : Nat → Shared → Prop), f + m = N → N ≤ n → 1 ≤ m → SortedTo lt p m →
    (∀ m', m ≤ m' → m' ≤ N → SortedTo lt p m' → (m' = N ∨ lt (gt p m') (gt p (m' - 1)) = true) → Q m' s) → (kas_asc p f m).kasWp cmp Q s
  | 0, m, N, Q, h1, h2, h3, hs, hq => hq m (Nat.le_refl _) (by omega) hs (.inl (by omega))
  | f + 1, m, N, Q, h1, h2, h3, hs, hq => by
    refine hc _ _ (hp.lt (i := m) (by omega)) (hp.lt (i := m - 1) (by omega)) _ ?_
    show (if lt (gt p m) (gt p (m - 1)) = true then KasT.ret m else kas_asc p f (m + 1)).kasWp cmp Q s
    cases hl : lt (gt p m) (gt p (m - 1)) with
    | true => rw [if_pos rfl]; exact hq m (Nat.le_refl _) (by omega) hs (.inr hl)
    | false =>
      rw [if_neg Bool.false_ne_true]
      refine asc_ok O hc hp f (m + 1) N Q (by omega) h2 (by omega) (fun i j hij hj => ?_) fun m' g1 g2 g3 g4 => hq m' (by omega) g2 g3 g4
      rcases Nat.lt_or_ge j m with h | h
      · exact hs i j hij h
      · have ej : j = m := by omega
        subst ej
        rcases Nat.lt_or_ge i j with h' | h'
        · exact O.trans _ _ _ (hs i (j - 1) (by omega) (by omega)) hl
        · have : i = j := by omega
          rw [this]; exact O.irr _
/-- the last q + 1 of the first m are alike -/
def Flat (lt : Nat → Nat → Bool) (p : Array Nat) (m q : Nat) : Prop := q + 1 ≤ m ∧ ∀ i j, m - (q + 1) ≤ i → i < m → m - (q + 1) ≤ j → j < m → lt (gt p i) (gt p j) = false
theorem flat_rev (O : Ans lt) {p : Array Nat} {m q : Nat} (hm : m ≤ p.size) (hf : Flat lt p m q) (hn : NonInc lt p m) : NonInc lt (kas_rev p (m - (q + 1)) m) m := by
  obtain ⟨h1, h2⟩ := hf
  have g (k : Nat) := gt_rev (p := p) (i := m - (q + 1)) hm k
  intro i j hij hj
  rw [g i, g j]
  split
  · rename_i c1
    rw [if_pos ⟨by omega, by omega⟩]
    exact h2 _ _ (by omega) (by omega) (by omega) (by omega)
  · rename_i c1
    split
    · exact hn _ _ (by omega) (by omega)
    · exact hn _ _ hij hj
theorem desc_ok (O : Ans lt) (hc : Right lt n cmp s) : ∀ (f : Nat) (p : Array Nat) (m q N : Nat) (Q : Array Nat × Nat × Nat → Shared → Prop), PB n p → f + m = N → N ≤ n → NonInc lt p m → Flat lt p m q →
    (∀ p' m' q', PB n p' → m ≤ m' → m' ≤ N → NonInc lt p' m' → Flat lt p' m' q' → Q (p', m', q') s) → (kas_desc f p m q).kasWp cmp Q s
  | 0, p, m, q, N, Q, hp, h1, h2, hn, hf, hq => hq p m q hp (Nat.le_refl _) (by omega) hn hf
  | f + 1, p, m, q, N, Q, hp, h1, h2, hn, hf, hq => by
    have hf1 := hf.1
    have hs := hp.size
    refine hc _ _ (hp.lt (i := m) (by omega)) (hp.lt (i := m - 1) (by omega)) _ ?_
    show (if lt (gt p m) (gt p (m - 1)) = true then (if q > 0 then kas_desc f (kas_rev p (m - (q + 1)) m) (m + 1) 0 else kas_desc f p (m + 1) 0) else .ask (p.getD (m - 1) 0) (p.getD m 0) fun d => if d = true then .ret (p, m, q) else kas_desc f p (m + 1) (q + 1) : KasT _).kasWp cmp Q s
    have more : ∀ p' : Array Nat, PB n p' → NonInc lt p' m → gt p' m = gt p m → lt (gt p m) (gt p (m - 1)) = true → (∀ i, i < m → lt (gt p' i) (gt p (m - 1)) = false) → NonInc lt p' (m + 1) := fun p' _ hn' e hl hb i j hij hj => by
      rcases Nat.lt_or_ge j m with h | h
      · exact hn' i j hij h
      · have ej : j = m := by omega
        subst ej
        rcases Nat.lt_or_ge i j with h' | h'
        · rw [e]
          exact O.trans _ _ _ (O.asym _ _ hl) (hb i h')
        · have : i = j := by omega
          rw [this]; exact O.irr _
    cases hl : lt (gt p m) (gt p (m - 1)) with
    | true =>
      rw [if_pos rfl]
      split
      · have hn' := flat_rev O (by omega) hf hn
        have g (k : Nat) := gt_rev (p := p) (i := m - (q + 1)) (j := m) (by omega) k
        refine desc_ok O hc f _ (m + 1) 0 N Q (hp.rev _ _) (by omega) h2 (more _ (hp.rev _ _) hn' (by rw [g m, if_neg (by omega)]) hl fun i hi => ?_) ⟨by omega, fun i j a1 a2 a3 a4 => ?_⟩ fun p' m' q' b1 b2 b3 b4 b5 => hq p' m' q' b1 (by omega) b3 b4 b5
        · rw [g i]
          split
          · exact hf.2 _ _ (by omega) (by omega) (by omega) (by omega)
          · exact hn _ _ (by omega) (by omega)
        · have : i = j := by omega
          rw [this]; exact O.irr _
      · refine desc_ok O hc f _ (m + 1) 0 N Q hp (by omega) h2 (more _ hp hn rfl hl fun i hi => hn _ _ (by omega) (by omega)) ⟨by omega, fun i j a1 a2 a3 a4 => ?_⟩ fun p' m' q' b1 b2 b3 b4 b5 => hq p' m' q' b1 (by omega) b3 b4 b5
        have : i = j := by omega
        rw [this]; exact O.irr _
    | false =>
      rw [if_neg Bool.false_ne_true]
      refine hc _ _ (hp.lt (i := m - 1) (by omega)) (hp.lt (i := m) (by omega)) _ ?_
      show (if lt (gt p (m - 1)) (gt p m) = true then KasT.ret (p, m, q) else kas_desc f p (m + 1) (q + 1)).kasWp cmp Q s
      cases hd : lt (gt p (m - 1)) (gt p m) with
      | true => rw [if_pos rfl]; exact hq p m q hp (Nat.le_refl _) (by omega) hn hf
      | false =>
        rw [if_neg Bool.false_ne_true]
        refine desc_ok O hc f _ (m + 1) (q + 1) N Q hp (by omega) h2 (fun i j hij hj => ?_) ⟨by omega, fun i j a1 a2 a3 a4 => ?_⟩ fun p' m' q' b1 b2 b3 b4 b5 => hq p' m' q' b1 (by omega) b3 b4 b5
        · rcases Nat.lt_or_ge j m with h | h
          · exact hn i j hij h
          · have ej : j = m := by omega
            subst ej
            rcases Nat.lt_or_ge i j with h' | h'
            · exact O.trans _ _ _ hd (hn i (j - 1) (by omega) (by omega))
            · have : i = j := by omega
              rw [this]; exact O.irr _
        · rcases Nat.lt_or_ge i m with h | h
          · rcases Nat.lt_or_ge j m with h' | h'
            · exact hf.2 i j (by omega) h (by omega) h'
            · have ej : j = m := by omega
              subst ej
              exact O.trans _ _ _ hd (hf.2 i (j - 1) (by omega) h (by omega) (by omega))
          · have ei : i = m := by omega
            subst ei
            rcases Nat.lt_or_ge j i with h' | h'
            · exact O.trans _ _ _ (hf.2 (i - 1) j (by omega) (by omega) (by omega) h') hl
            · have : i = j := by omega
              rw [this]; exact O.irr _
theorem rev_sorted {p : Array Nat} {m : Nat} (hm : m ≤ p.size) (hn : NonInc lt p m) : SortedTo lt (kas_rev p 0 m) m := fun i j hij hj => by
  have g (k : Nat) := gt_rev (p := p) (i := 0) hm k
  rw [g i, g j, if_pos ⟨by omega, by omega⟩, if_pos ⟨by omega, by omega⟩]
  exact hn _ _ (by omega) (by omega)
theorem tail3_ok (O : Ans lt) (hc : Right lt n cmp s) {p : Array Nat} (hp : PB n p) {m N : Nat} {Q : Nat × Array Nat → Shared → Prop} (h1 : 1 ≤ m) (h2 : m ≤ N) (h3 : N ≤ n) (hn : NonInc lt p m)
    (hq : ∀ m' p', PB n p' → 1 ≤ m' → m' ≤ N → SortedTo lt p' m' → Q (m', p') s) : (kas_tail3 m N p).kasWp cmp Q s := by
  unfold kas_tail3
  rw [KasT.kasWp_bind]
  exact asc_ok O hc (hp.rev 0 m) (N - m) m N _ (by omega) h3 h1 (rev_sorted (by have := hp.size; omega) hn) fun m' g1 g2 g3 _ => hq m' _ (hp.rev 0 m) (by omega) g2 g3
theorem descPart_ok (O : Ans lt) (hc : Right lt n cmp s) {p : Array Nat} (hp : PB n p) {m N : Nat} {Q : Nat × Array Nat → Shared → Prop} (h2 : m + 1 ≤ N) (h3 : N ≤ n) (hn : NonInc lt p (m + 1))
    (hq : ∀ m' p', PB n p' → 1 ≤ m' → m' ≤ N → SortedTo lt p' m' → Q (m', p') s) : (kas_descPart m N p).kasWp cmp Q s := by
  unfold kas_descPart
  rw [KasT.kasWp_bind]
  refine desc_ok O hc (N - (m + 1)) p (m + 1) 0 N _ hp (by omega) h3 hn ⟨by omega, fun i j a1 a2 a3 a4 => ?_⟩ fun p' m' q' b1 b2 b3 b4 b5 => ?_
  · have : i = j := by omega
    rw [this]; exact O.irr _
  · have hs := b1.size
    show (if q' > 0 then kas_tail3 m' N (kas_rev p' (m' - (q' + 1)) m') else kas_tail3 m' N p').kasWp cmp Q s
    split
    · exact tail3_ok O hc (b1.rev _ _) (by omega) b3 h3 (flat_rev O (by omega) b5 b4) hq
    · exact tail3_ok O hc b1 (by omega) b3 h3 b4 hq
theorem count_ok (O : Ans lt) (hc : Right lt n cmp s) {p : Array Nat} (hp : PB n p) {Q : Nat × Array Nat → Shared → Prop} (h1 : 1 ≤ n)
    (hq : ∀ m' p', PB n p' → 1 ≤ m' → m' ≤ n → SortedTo lt p' m' → Q (m', p') s) : (kas_count n p).kasWp cmp Q s := by
  unfold kas_count
  rw [KasT.kasWp_bind]
  have hs := hp.size
  refine asc_ok O hc hp (n - 1) 1 n _ (by omega) (Nat.le_refl _) (Nat.le_refl _) (fun i j hij hj => ?_) fun m g1 g2 g3 g4 => ?_
  · have : i = j := by omega
    rw [this]; exact O.irr _
  · split
    · exact hq m p hp g1 g2 g3
    · rename_i hne
      have hm : m < n := by have : m ≠ n := fun e => hne (by rw [e]; simp); omega
      have hl : lt (gt p m) (gt p (m - 1)) = true := by
        rcases g4 with g4 | g4
        · omega
        · exact g4
      split
      · rename_i hgt
        refine hc _ _ (hp.lt (i := 0) (by omega)) (hp.lt (i := m - 1) (by omega)) _ ?_
        show (if lt (gt p 0) (gt p (m - 1)) = true then KasT.ret (m, p) else kas_descPart m n (kas_rev p 0 m)).kasWp cmp Q s
        cases h0 : lt (gt p 0) (gt p (m - 1)) with
        | true => rw [if_pos rfl]; exact hq m p hp g1 g2 g3
        | false =>
          rw [if_neg Bool.false_ne_true]
          -- all of the first m are alike
          have al : ∀ i j, i < m → j < m → lt (gt p i) (gt p j) = false := fun i j hi hj =>
            O.trans _ _ _ (g3 j (m - 1) (by omega) (by omega)) (O.trans _ _ _ h0 (g3 0 i (by omega) hi))
          have g (k : Nat) := gt_rev (p := p) (i := 0) (j := m) (by omega) k
          refine descPart_ok O hc (hp.rev 0 m) (by omega) (Nat.le_refl _) (fun i j hij hj => ?_) hq
          rw [g i, g j]
          rcases Nat.lt_or_ge j m with h | h
          · rw [if_pos ⟨by omega, by omega⟩, if_pos ⟨by omega, by omega⟩]
            exact al _ _ (by omega) (by omega)
          · have ej : j = m := by omega
            subst ej
            rcases Nat.lt_or_ge i j with h' | h'
            · rw [if_pos ⟨by omega, h'⟩, if_neg (by omega)]
              exact O.trans _ _ _ (O.asym _ _ hl) (al _ _ (by omega) (by omega))
            · have : i = j := by omega
              rw [this, if_neg (by omega)]; exact O.irr _
      · have em : m = 1 := by omega
        subst em
        refine descPart_ok O hc hp (by omega) (Nat.le_refl _) (fun i j hij hj => ?_) hq
        rcases Nat.lt_or_ge i j with h' | h'
        · have ei : i = 0 := by omega
          have ej : j = 1 := by omega
          subst ei ej
          exact O.asym _ _ hl
        · have : i = j := by omega
          rw [this]; exact O.irr _
theorem place_ok (O : Ans lt) (hc : Right lt n cmp s) {p : Array Nat} (hp : PB n p) {k : Nat} (hk : k < n) (hs : SortedTo lt p k) : ∀ (f l r : Nat) (Q : Nat → Shared → Prop), l ≤ r → r ≤ k → r - l ≤ f → (∀ i, i < l → lt (gt p k) (gt p i) = false) → (∀ i, r ≤ i → i < k → lt (gt p k) (gt p i) = true) →
    (∀ l', l' ≤ k → (∀ i, i < l' → lt (gt p k) (gt p i) = false) → (∀ i, l' ≤ i → i < k → lt (gt p k) (gt p i) = true) → Q l' s) → (kas_place p k f l r).kasWp cmp Q s
  | 0, l, r, Q, h1, h2, h3, a, b, hq => hq l (by omega) a fun i hi => b i (by omega)
  | f + 1, l, r, Q, h1, h2, h3, a, b, hq => by
    unfold kas_place
    split
    · exact hq l (by omega) a fun i hi => b i (by omega)
    · rename_i hlr
      refine hc _ _ (hp.lt (i := k) hk) (hp.lt (i := (l + r) / 2) (by omega)) _ ?_
      show (if lt (gt p k) (gt p ((l + r) / 2)) = true then kas_place p k f l ((l + r) / 2) else kas_place p k f ((l + r) / 2 + 1) r).kasWp cmp Q s
      cases hl : lt (gt p k) (gt p ((l + r) / 2)) with
      | true =>
        rw [if_pos rfl]
        refine place_ok O hc hp hk hs f l ((l + r) / 2) Q (by omega) (by omega) (by omega) a (fun i hi hik => ?_) hq
        -- p[mid] ≤ p[i], so pivot < p[i]
        cases h : lt (gt p k) (gt p i) with
        | true => rfl
        | false =>
          have := O.trans _ _ _ (hs ((l + r) / 2) i hi hik) h
          rw [hl] at this
          cases this
      | false =>
        rw [if_neg Bool.false_ne_true]
        refine place_ok O hc hp hk hs f ((l + r) / 2 + 1) r Q (by omega) h2 (by omega) (fun i hi => ?_) b hq
        exact O.trans _ _ _ (hs i ((l + r) / 2) (by omega) (by omega)) hl
theorem bin_ok (O : Ans lt) (hc : Right lt n cmp s) : ∀ (f : Nat) (p : Array Nat) (k : Nat) (Q : Array Nat → Shared → Prop), PB n p → f + k = n → 1 ≤ k → SortedTo lt p k → (∀ p', PB n p' → SortedTo lt p' n → Q p' s) → (kas_bin f p k).kasWp cmp Q s
  | 0, p, k, Q, hp, h1, h2, hs, hq => hq p hp (by rw [← h1, Nat.zero_add]; exact hs)
  | f + 1, p, k, Q, hp, h1, h2, hs, hq => by
    unfold kas_bin
    rw [KasT.kasWp_bind]
    have hz := hp.size
    refine place_ok O hc hp (by omega) hs k 0 k _ (Nat.zero_le _) (Nat.le_refl _) (by omega) (fun i hi => absurd hi (by omega)) (fun i hi hk => absurd hk (by omega)) fun l hl a b => ?_
    have g (x : Nat) := gt_bub (p := p) (k := k) (l := l) (by omega) hl x
    refine bin_ok O hc f _ (k + 1) Q (hp.bub _ _) (by omega) (by omega) (fun i j hij hj => ?_) hq
    rw [g i, g j]
    by_cases e1 : i = l
    · rw [if_pos e1]
      by_cases e2 : j = l
      · rw [if_pos e2]; exact O.irr _
      · rw [if_neg e2, if_pos ⟨by omega, by omega⟩]
        exact O.asym _ _ (b (j - 1) (by omega) (by omega))
    · rw [if_neg e1]
      by_cases e2 : j = l
      · rw [if_pos e2, if_neg (by omega)]
        exact a i (by omega)
      · rw [if_neg e2]
        by_cases c1 : l < i ∧ i ≤ k
        · rw [if_pos c1, if_pos ⟨by omega, by omega⟩]
          exact hs _ _ (by omega) (by omega)
        · rw [if_neg c1]
          by_cases c2 : l < j ∧ j ≤ k
          · rw [if_pos c2]
            exact hs _ _ (by omega) (by omega)
          · rw [if_neg c2]
            exact hs _ _ hij (by omega)
theorem sort_ok (O : Ans lt) (hc : Right lt n cmp s) (h1 : 1 ≤ n) {Q : Array Nat → Shared → Prop} (hq : ∀ p, PB n p → SortedTo lt p n → Q p s) : (kas_sort n).kasWp cmp Q s := by
  unfold kas_sort
  rw [KasT.kasWp_bind]
  refine count_ok O hc (p := List.toArray (List.range n)) (Array.Perm.refl _) h1 fun m p hp g1 g2 g3 => ?_
  show (if m < n then kas_bin (n - max m 1) p (max m 1) else .ret p : KasT _).kasWp cmp Q s
  split
  · have e : max m 1 = m := by omega
    rw [e]
    exact bin_ok O hc (n - m) p m Q hp (by omega) g1 g3 hq
  · have e : m = n := by omega
    subst e
    exact hq p hp g3
end
end Srt
set_option linter.all false
namespace Tw
open PySem
/-! ### the keys' order is a strict one in which all keys stand -/
theorem nat_asym : ∀ (l m : List Nat), l < m → ¬ m < l
  | [], [], h, _ => absurd h (List.not_lt_nil _)
  | [], _ :: _, _, h => absurd h (List.not_lt_nil _)
  | _ :: _, [], h, _ => absurd h (List.not_lt_nil _)
  | a :: l, b :: m, h, h' => by
    rw [List.cons_lt_cons_iff] at h h'
    rcases h with h | ⟨rfl, h⟩
    · rcases h' with h' | ⟨rfl, h'⟩
      · omega
      · omega
    · rcases h' with h' | ⟨_, h'⟩
      · omega
      · exact nat_asym l m h h'
theorem nat_total : ∀ (l m : List Nat), ¬ l < m → ¬ m < l → l = m
  | [], [], _, _ => rfl
  | [], _ :: _, h, _ => absurd (List.nil_lt_cons _ _) h
  | _ :: _, [], _, h => absurd (List.nil_lt_cons _ _) h
  | a :: l, b :: m, h, h' => by
    rw [List.cons_lt_cons_iff] at h h'
    have e : a = b := by
      rcases Nat.lt_trichotomy a b with c | c | c
      · exact absurd (.inl c) h
      · exact c
      · exact absurd (.inl c) h'
    subst e
    rw [nat_total l m (fun z => h (.inr ⟨rfl, z⟩)) fun z => h' (.inr ⟨rfl, z⟩)]
theorem nat_trans : ∀ (l m k : List Nat), l < m → m < k → l < k
  | _, _, [], _, h => absurd h (List.not_lt_nil _)
  | [], _, _ :: _, _, _ => List.nil_lt_cons _ _
  | _ :: _, [], _, h, _ => absurd h (List.not_lt_nil _)
  | a :: l, b :: m, c :: k, h, h' => by
    rw [List.cons_lt_cons_iff] at h h' ⊢
    rcases h with h | ⟨rfl, h⟩
    · rcases h' with h' | ⟨rfl, h'⟩
      · exact .inl (Nat.lt_trans h h')
      · exact .inl h
    · rcases h' with h' | ⟨rfl, h'⟩
      · exact .inl h'
      · exact .inr ⟨rfl, nat_trans l m k h h'⟩
theorem eqb_comm' (a b : KT) : a.eqb b = b.eqb a := by
  rw [Bool.eq_iff_iff, eqb_iff, eqb_iff]
  exact eq_comm
mutual
theorem lt_asym : ∀ (a b : KT), a.lt b = true → b.lt a = false
  | .int i, .int j, h => by rw [KT.lt] at h ⊢; have := of_decide_eq_true h; exact decide_eq_false (by omega)
  | .int _, .str _, _ => by rw [KT.lt]
  | .int _, .tup _, _ => by rw [KT.lt]
  | .str _, .int _, h => by rw [KT.lt] at h; cases h
  | .str x, .str y, h => by rw [KT.lt] at h ⊢; exact decide_eq_false (nat_asym _ _ (of_decide_eq_true h))
  | .str _, .tup _, _ => by rw [KT.lt]
  | .tup _, .int _, h => by rw [KT.lt] at h; cases h
  | .tup _, .str _, h => by rw [KT.lt] at h; cases h
  | .tup l, .tup m, h => by rw [KT.lt] at h ⊢; exact ltL_asym l m h
theorem ltL_asym : ∀ (l m : List KT), ltL l m = true → ltL m l = false
  | [], [], h => by rw [ltL] at h; cases h
  | [], _ :: _, _ => by rw [ltL]
  | _ :: _, [], h => by rw [ltL] at h; cases h
  | a :: l, b :: m, h => by
    rw [ltL] at h ⊢
    rw [eqb_comm' b a]
    cases e : a.eqb b with
    | true => rw [e, if_pos rfl] at h; rw [if_pos rfl]; exact ltL_asym l m h
    | false => rw [e, if_neg Bool.false_ne_true] at h; rw [if_neg Bool.false_ne_true]; exact lt_asym a b h
end
mutual
theorem lt_total : ∀ (a b : KT), a.lt b = false → b.lt a = false → a = b
  | .int i, .int j, h, h' => by rw [KT.lt] at h h'; have := of_decide_eq_false h; have := of_decide_eq_false h'; rw [show i = j by omega]
  | .int _, .str _, h, _ => by rw [KT.lt] at h; cases h
  | .int _, .tup _, h, _ => by rw [KT.lt] at h; cases h
  | .str _, .int _, _, h => by rw [KT.lt] at h; cases h
  | .str x, .str y, h, h' => by
    rw [KT.lt] at h h'
    have e := nat_total _ _ (of_decide_eq_false h) (of_decide_eq_false h')
    obtain ⟨⟨x⟩⟩ := x
    obtain ⟨⟨y⟩⟩ := y
    dsimp only at e
    rw [e]
  | .str _, .tup _, h, _ => by rw [KT.lt] at h; cases h
  | .tup _, .int _, _, h => by rw [KT.lt] at h; cases h
  | .tup _, .str _, _, h => by rw [KT.lt] at h; cases h
  | .tup l, .tup m, h, h' => by rw [KT.lt] at h h'; rw [ltL_total l m h h']
theorem ltL_total : ∀ (l m : List KT), ltL l m = false → ltL m l = false → l = m
  | [], [], _, _ => rfl
  | [], _ :: _, h, _ => by rw [ltL] at h; cases h
  | _ :: _, [], _, h => by rw [ltL] at h; cases h
  | a :: l, b :: m, h, h' => by
    rw [ltL] at h h'
    rw [eqb_comm' b a] at h'
    cases e : a.eqb b with
    | true => rw [e, if_pos rfl] at h h'; rw [eqb_iff.mp e, ltL_total l m h h']
    | false =>
      rw [e, if_neg Bool.false_ne_true] at h h'
      have := lt_total a b h h'
      rw [this, eqb_self] at e
      cases e
end
theorem lt_self (a : KT) : a.lt a = false := by
  cases h : a.lt a with
  | false => rfl
  | true => have := lt_asym a a h; rw [h] at this; cases this
mutual
theorem lt_trans' : ∀ (a b c : KT), a.lt b = true → b.lt c = true → a.lt c = true
  | .int i, .int j, .int k, h, h' => by rw [KT.lt] at h h' ⊢; have := of_decide_eq_true h; have := of_decide_eq_true h'; exact decide_eq_true (by omega)
  | .int _, _, .str _, _, _ => by rw [KT.lt]
  | .int _, _, .tup _, _, _ => by rw [KT.lt]
  | .str _, _, .tup _, _, _ => by rw [KT.lt]
  | .int _, .str _, .int _, _, h => by rw [KT.lt] at h; cases h
  | .int _, .tup _, .int _, _, h => by rw [KT.lt] at h; cases h
  | .str _, .int _, _, h, _ => by rw [KT.lt] at h; cases h
  | .str x, .str y, .str z, h, h' => by rw [KT.lt] at h h' ⊢; exact decide_eq_true (nat_trans _ _ _ (of_decide_eq_true h) (of_decide_eq_true h'))
  | .str _, .str _, .int _, _, h => by rw [KT.lt] at h; cases h
  | .str _, .tup _, .str _, _, h => by rw [KT.lt] at h; cases h
  | .str _, .tup _, .int _, _, h => by rw [KT.lt] at h; cases h
  | .tup _, .int _, _, h, _ => by rw [KT.lt] at h; cases h
  | .tup _, .str _, _, h, _ => by rw [KT.lt] at h; cases h
  | .tup l, .tup m, .tup k, h, h' => by rw [KT.lt] at h h' ⊢; exact ltL_trans l m k h h'
  | .tup _, .tup _, .int _, _, h => by rw [KT.lt] at h; cases h
  | .tup _, .tup _, .str _, _, h => by rw [KT.lt] at h; cases h
theorem ltL_trans : ∀ (l m k : List KT), ltL l m = true → ltL m k = true → ltL l k = true
  | _, [], [], _, h => by rw [ltL] at h; cases h
  | _, _ :: _, [], _, h => by rw [ltL] at h; cases h
  | [], _, _ :: _, _, _ => by rw [ltL]
  | _ :: _, [], _ :: _, h, _ => by rw [ltL] at h; cases h
  | a :: l, b :: m, c :: k, h, h' => by
    rw [ltL] at h h' ⊢
    cases e : a.eqb b with
    | true =>
      rw [e, if_pos rfl] at h
      have ab := eqb_iff.mp e
      subst ab
      cases e2 : a.eqb c with
      | true => rw [e2, if_pos rfl] at h'; rw [if_pos rfl]; exact ltL_trans l m k h h'
      | false => rw [e2, if_neg Bool.false_ne_true] at h'; rw [if_neg Bool.false_ne_true]; exact h'
    | false =>
      rw [e, if_neg Bool.false_ne_true] at h
      cases e2 : b.eqb c with
      | true =>
        have bc := eqb_iff.mp e2
        subst bc
        rw [e, if_neg Bool.false_ne_true]
        exact h
      | false =>
        rw [e2, if_neg Bool.false_ne_true] at h'
        have ac := lt_trans' a b c h h'
        cases e3 : a.eqb c with
        | true =>
          have := eqb_iff.mp e3
          subst this
          rw [lt_self] at ac
          cases ac
        | false => rw [if_neg Bool.false_ne_true]; exact ac
end
/-- not behind is not behind -/
theorem le_trans' {a b c : KT} (h1 : b.lt a = false) (h2 : c.lt b = false) : c.lt a = false := by
  cases h : c.lt a with
  | false => rfl
  | true =>
    cases h3 : a.lt b with
    | true => rw [lt_trans' c a b h h3] at h2; cases h2
    | false => rw [lt_total a b h3 h1, h2] at h; cases h
end Tw
set_option Elab.async false
set_option linter.all false
set_option maxRecDepth 100000
set_option maxHeartbeats 4000000
namespace Tw
open PySem PySem.Spec L2 PyProof.Rows
/-! ### sorted(keys, key=g), g a key's standing by tuples: fewer than 64 keys -/
structure Kg (g : KT → KT) : Prop where
  plt : ∀ t u, (g t).plt (g u) = t.lt u
  cmp : ∀ t u, (g t).cmp (g u) = true
  shape : ∃ n : Nat, ∀ t, ∃ (k : Int) (r : List KT), g t = .tup (.int k :: r) ∧ r.length = n
def GVal (g : KT → KT) (h : Heap) (t : KT) (v : Value) : Prop := KVal h (g t) v
section
variable {prog : Program} {w : World} {A : Around} {E : Value → Shared → Prop} {s : Shared} {g : KT → KT}
/-- what is left of two tuples, behind the first items -/
theorem lex_rest : ∀ {l m : List KT} {vs us : List Value} {i : Nat} {Q : Bool → Shared → Prop}, l.length = m.length → KVals s.heap l vs → KVals s.heap m us → cmpL l m = true → A.units + depthL l < cLine → Q (pltL l m) s → PySem.W.KatLex prog w A true false Q (vs.zip us) (i + 1) s
  | [], m, vs, us, i, Q, hl, x, y, _, _, h => by
    rw [KVals] at x
    subst x
    cases m with
    | nil => rw [pltL] at h; exact PySem.W.kat_nil h
    | cons _ _ => simp at hl
  | a :: l, m, vs, us, i, Q, hl, x, y, hc, hu, h => by
    cases m with
    | nil => simp at hl
    | cons b m =>
      rw [KVals] at x y
      obtain ⟨v, r, rfl, x1, x2⟩ := x
      obtain ⟨v', r', rfl, y1, y2⟩ := y
      rw [depthL] at hu
      rw [pltL] at h
      rw [cmpL] at hc
      refine PySem.W.kat_cons (eqAt_key a.depth a b A v v' (Nat.le_refl _) x1 y1 (by omega) prog w _ _ ?_)
      refine PySem.W.kat_go (fun e => PySem.W.kat_yes ?_) (fun e => PySem.W.kat_no ?_)
      · rw [e, if_pos rfl] at h hc
        exact lex_rest (by simpa using hl) x2 y2 hc (by omega) h
      · rw [e, if_neg Bool.false_ne_true] at h hc
        exact PySem.W.kat_one v v' (ltAt_key a.depth a b A v v' (Nat.le_refl _) x1 y1 hc (by omega) prog w _ _ h)
/-- one of them ahead of another, as the sort asks it -/
theorem g_lt (hg : Kg g) {t u : KT} {x y : Value} {Q : Bool → Shared → Prop} (hx : GVal g s.heap t x) (hy : GVal g s.heap u y) (hu : A.units + (g t).depth < cLine) (h : Q (t.lt u) s) : wpAny (model prog w) A (keyLt' (tuples' true) x y) Q E s := by
  obtain ⟨n, sh⟩ := hg.shape
  obtain ⟨k, r, ea, la⟩ := sh t
  obtain ⟨m, q, ec, lc⟩ := sh u
  have hp := hg.plt t u
  have hc := hg.cmp t u
  unfold GVal at hx hy
  rw [ea] at hp hc hx hu
  rw [ec] at hp hc hy
  rw [KVal] at hx hy
  obtain ⟨a, its, rfl, ⟨⟨cl, dd, da', sl⟩, ho, hcl, n1, hd⟩, kx⟩ := hx
  obtain ⟨c, its2, rfl, ⟨⟨cl2, dd2, da2, sl2⟩, ho2, hcl2, n2, hd2⟩, ky⟩ := hy
  have l1 := kx.length
  have l2 := ky.length
  rw [KVals] at kx ky
  obtain ⟨v1, r1, rfl, k1, kx⟩ := kx
  obtain ⟨v2, r2, rfl, k2, ky⟩ := ky
  rw [KVal] at k1 k2
  obtain ⟨tk, rfl⟩ := k1
  obtain ⟨tm, rfl⟩ := k2
  rw [KT.plt, pltL] at hp
  rw [KT.cmp, cmpL] at hc
  rw [KT.depth, depthL] at hu
  refine PySem.W.kat_lt ho hd ho2 hd2 ?_
  have hfin : decide ((Value.int k tk :: r1).toArray.size < (Value.int m tm :: r2).toArray.size) = false := by
    simp only [List.length_cons] at l1 l2
    simp only [List.size_toArray, List.length_cons, decide_eq_false_iff_not]
    omega
  rw [hfin]
  show PySem.W.KatLex prog w A true false Q ((.int k tk, .int m tm) :: r1.zip r2) 0 s
  refine PySem.W.kat_cons (SeqAt.EqAt.int_int k tk m tm prog w _ _ ?_)
  refine PySem.W.kat_go (fun e => PySem.W.kat_yes ?_) (fun e => PySem.W.kat_no ?_)
  · have e1 : (KT.int k).eqb (KT.int m) = true := by rw [KT.eqb]; exact e
    rw [e1, if_pos rfl] at hp hc
    refine lex_rest (by rw [la, lc]) kx ky hc (by omega) ?_
    rw [hp]
    exact h
  · have e1 : (KT.int k).eqb (KT.int m) = false := by rw [KT.eqb]; exact e
    rw [e1, if_neg Bool.false_ne_true, KT.plt] at hp
    refine oneLt_int ?_
    rw [hp]
    exact h
end
def GVals (g : KT → KT) (h : Heap) : List KT → List Value → Prop
  | [], [] => True
  | t :: ts, v :: vs => GVal g h t v ∧ GVals g h ts vs
  | _, _ => False
theorem GVals.len {g : KT → KT} {h : Heap} : ∀ {ts : List KT} {vs : List Value}, GVals g h ts vs → ts.length = vs.length
  | [], [], _ => rfl
  | _ :: _, _ :: _, x => congrArg (· + 1) x.2.len
  | [], _ :: _, x => x.elim
  | _ :: _, [], x => x.elim
theorem GVals.get {g : KT → KT} {h : Heap} : ∀ {ts : List KT} {vs : List Value}, GVals g h ts vs → ∀ i, i < vs.length → GVal g h (ts.getD i (.int 0)) (vs.getD i Value.none)
  | _ :: _, _ :: _, x, 0, _ => x.1
  | _ :: _, _ :: _, x, i + 1, hi => x.2.get i (by simpa using hi)
  | [], [], _, _, hi => absurd hi (by simp)
  | [], _ :: _, x, _, _ => x.elim
  | _ :: _, [], x, _, _ => x.elim
theorem GVals.firsts {g : KT → KT} (hg : Kg g) {h : Heap} : ∀ {ts : List KT} {vs : List Value}, GVals g h ts vs → ∃ fs, PySem.W.KatTups h vs fs ∧ fs.length = vs.length ∧ ∀ v ∈ fs, ∃ k t, v = Value.int k t
  | [], [], _ => ⟨[], .nil, rfl, fun v hv => absurd hv (by simp)⟩
  | t :: ts, v :: vs, x => by
    obtain ⟨fs, h1, h2, h3⟩ := GVals.firsts hg x.2
    obtain ⟨_, sh⟩ := hg.shape
    obtain ⟨k, r, ea, _⟩ := sh t
    have x1 := x.1
    unfold GVal at x1
    rw [ea, KVal] at x1
    obtain ⟨a, its, rfl, ⟨o, ho, hc, n, hd⟩, kx⟩ := x1
    rw [KVals] at kx
    obtain ⟨v1, r1, rfl, k1, kx⟩ := kx
    rw [KVal] at k1
    obtain ⟨tk, rfl⟩ := k1
    refine ⟨.int k tk :: fs, .cons ho hc hd rfl h1, by simp [h2], fun v hv => ?_⟩
    rcases List.mem_cons.mp hv with rfl | hv
    · exact ⟨k, tk, rfl⟩
    · exact h3 v hv
  | [], _ :: _, x => x.elim
  | _ :: _, [], x => x.elim
section
variable {prog : Program} {w : World} {A : Around} {E : Value → Shared → Prop} {s : Shared} {g : KT → KT}
/-- what kind of keys they are -/
theorem g_kind (hg : Kg g) {ts : List KT} {ks : List Value} {Q : PyProof.Rows.SortKind → Shared → Prop} (hl : 0 < ks.length) (h : GVals g s.heap ts ks) (hq : Q (tuples' true) s) : wpAny (model prog w) A (keyKind' ks.toArray) Q E s := by
  obtain ⟨fs, h1, h2, h3⟩ := h.firsts hg
  refine PySem.W.kat_kind (T := .type "int") h1 (by omega) (fun v hv => ?_) (by decide) hq
  obtain ⟨k, t, rfl⟩ := h3 v hv
  exact PySem.W.Looks.of_pure rfl
/-- the runs of the sort: the keys come out in order -/
theorem g_run (hg : Kg g) {ts : List KT} {ks vs : List Value} {Q : SortSt → Shared → Prop} (hl : ks.length = vs.length) (h2 : 2 ≤ vs.length) (h64 : vs.length < 64) (h : GVals g s.heap ts ks) (hu : ∀ t ∈ ts, A.units + (g t).depth < cLine)
    (hq : ∀ (p : Array Nat) (st' : SortSt), Srt.PB vs.length p → (∀ i j, i ≤ j → j < vs.length → (ts.getD (p.getD j 0) (.int 0)).lt (ts.getD (p.getD i 0) (.int 0)) = false) → arrOf st' = p.map (PySem.W.kas_item (ks.toArray.zip vs.toArray)) → failedOf st' = none → Q st' s) :
    wpAny (model prog w) A ((sortRuns').run (SortSt.mk' (tuples' true) (ks.toArray.zip vs.toArray) #[] 7 none)) (fun r s' => Q r.2 s') E s := by
  have hln := h.len
  refine PySem.W.kat_run (G := fun p s' => s' = s ∧ Srt.PB vs.length p ∧ ∀ i j, i ≤ j → j < vs.length → (ts.getD (p.getD j 0) (.int 0)).lt (ts.getD (p.getD i 0) (.int 0)) = false) hl h2 h64 (fun p st' s' a1 a2 a3 a4 => ?_) ?_
  · obtain ⟨rfl, b1, b2⟩ := a4
    exact hq p st' b1 b2 a2 a3
  · refine Srt.sort_ok (lt := fun i j => (ts.getD i (.int 0)).lt (ts.getD j (.int 0))) ⟨fun i j => lt_asym _ _, fun i j k => le_trans'⟩ (fun i j hi hj C hC => ?_) (by omega) fun p b1 b2 => ⟨rfl, b1, fun i j hij hj => b2 i j hij hj⟩
    unfold PySem.W.kas_ask
    refine g_lt hg (h.get i (by omega)) (h.get j (by omega)) (hu _ ?_) hC
    have hi' : i < ts.length := by omega
    rw [List.getD_eq_getElem?_getD, List.getElem?_eq_getElem hi']
    exact List.getElem_mem _
end
end Tw
set_option Elab.async false
set_option linter.all false
set_option maxRecDepth 100000
set_option maxHeartbeats 4000000
namespace Tw
open PySem PySem.Spec L2 PyProof.Rows
/-- what a key's standing is promised to be -/
def spKg (g : KT → KT) : Sp := fun vs H Q _ => ∃ (v : V) (t : KT), vs = [v] ∧ KeyAt H t v ∧ t.fits 3 = true ∧ ∀ (v' : V) (H' : Hp), KeyAt H' (g t) v' → Same H H' → Q v' H'
theorem gvals_of {g : KT → KT} {X : Cx} {pins : List (Addr × Obj)} {σ : L2.St} {H : Hp} {s : Shared} (I : Inv X pins σ H s) : ∀ {ts : List KT} {kvs : List V} {ks : List Value}, KeysAt H (ts.map g) kvs → Vals kvs ks → GVals g s.heap ts ks
  | [], kvs, ks, h, r => by
    rw [List.map_nil, KeysAt] at h
    subst h
    cases r
    trivial
  | t :: ts, kvs, ks, h, r => by
    rw [List.map_cons, KeysAt] at h
    obtain ⟨v, kr, rfl, h1, h2⟩ := h
    cases r with
    | cons ra rb => exact ⟨kval_of I _ _ _ h1 ra, gvals_of I h2 rb⟩
section
variable {X : Cx} {pins : List (Addr × Obj)} {σ : L2.St}
theorem notfrG {H : Hp} {s : Shared} {b : Addr} (I : Inv X pins σ H s) (h : s.heap.objs.size ≤ b) : b ∉ frs X.stack := fun z => by
  obtain ⟨_, o, e, _⟩ := I.stack.mem z
  exact absurd (Heap.lt_size e) (Nat.not_lt.mpr h)
/-- the keys are asked for, one after another -/
theorem ask_keysG {g : KT → KT} {x0 : Str} {k : Nat} {f D kS : Addr} {fd : FuncData} {oD : Obj} {H0 : Hp} {A : Around} {E : Value → Shared → Prop} {body : Value → PUnit → Sem (ForInStep PUnit)} {all : List KT}
    (F : FnOk X.prog X.w X.K X.mg X.base CX0 k f fd [x0] (spKg g)) (hb : Binds X.K fd [x0] []) (hr : Room k A) (hA : A.frames = X.A.frames) (nD : D ∉ frs X.stack) (nS : kS ∉ frs X.stack) (hDS : D ≠ kS) (hD0 : H0 D = none)
    (hbody : ∀ x (s : Shared) (R : Shared → Prop), wpAny (model X.prog X.w) A (call (.ref f) [x]) (fun kv s' => ∃ (ks : List Value) (e : Nat), ks.length < 64 ∧ s'.heap.get? kS = some (seqObj "list" ks.toArray e) ∧ R { s' with heap := s'.heap.update kS (Obj.mapSeq (·.push kv)) }) (fun _ _ => False) s →
      wpAny (model X.prog X.w) A (body x ⟨⟩) (fun r s' => r = .yield ⟨⟩ ∧ R s') E s) :
    ∀ (r : List Value) (rU : List V) (rT dT : List KT) (H : Hp) (s : Shared) (ks : List Value) (kvs : List V) (e : Nat), all = dT ++ rT → all.length < 64 → Inv X pins σ H s → Same H0 H → FpOk X pins H kS → H D = none → Vals rU r → KeysAt H rT rU → (∀ t ∈ rT, t.fits 3 = true) →
      s.heap.get? D = some oD → s.heap.get? kS = some (seqObj "list" ks.toArray e) → KeysAt H (dT.map g) kvs → Vals kvs ks →
      wpAny (model X.prog X.w) A (forIn r PUnit.unit body) (fun _ s' => ∃ (H' : Hp) (ks' : List Value) (kvs' : List V) (e' : Nat), Inv X pins σ H' s' ∧ Same H0 H' ∧ FpOk X pins H' kS ∧ H' D = none ∧ s'.heap.get? D = some oD ∧ s'.heap.get? kS = some (seqObj "list" ks'.toArray e') ∧ KeysAt H' (all.map g) kvs' ∧ Vals kvs' ks') E s
  | [], rU, rT, dT, H, s, ks, kvs, e, ha, hl, I, s0, fp, hD, r, hk, hf, oo, os, hks, rk => by
    cases r
    have er : rT = [] := by
      cases rT with
      | nil => rfl
      | cons t l => rw [KeysAt] at hk; obtain ⟨_, _, h, _⟩ := hk; cases h
    subst er
    rw [List.append_nil] at ha
    subst ha
    rw [List.forIn_nil]
    exact wpAny_pure ⟨H, ks, kvs, e, I, s0, fp, hD, oo, os, hks, rk⟩
  | x :: r, rU, rT, dT, H, s, ks, kvs, e, ha, hl, I, s0, fp, hD, rr, hk, hf, oo, os, hks, rk => by
    cases rr with
    | cons ra rb =>
    rename_i u ur
    cases rT with
    | nil => rw [KeysAt] at hk; cases hk
    | cons t rT =>
    rw [KeysAt] at hk
    obtain ⟨v, vr, ev, hk1, hk2⟩ := hk
    cases ev
    rw [List.forIn_cons]
    have hlen : ks.length = dT.length := by
      have a := hks.length
      have b := rk.length
      rw [List.length_map] at a
      omega
    have hlall : dT.length + (rT.length + 1) < 64 := by rw [ha, List.length_append, List.length_cons] at hl; omega
    refine wpAny_bind (thn (hbody x s (fun s' => ∃ (H' : Hp) (ks' : List Value) (kvs' : List V) (e' : Nat), Inv X pins σ H' s' ∧ Same H0 H' ∧ Same H H' ∧ FpOk X pins H' kS ∧ H' D = none ∧ s'.heap.get? D = some oD ∧ s'.heap.get? kS = some (seqObj "list" ks'.toArray e') ∧ KeysAt H' ((dT ++ [t]).map g) kvs' ∧ Vals kvs' ks') ?_) fun q s' hq => ?_)
    · have env : Env0 X.prog X.w X.K X.mg X.base A X.stack s H := ⟨by rw [hA]; exact I.ok.frames, I.env0.mod, I.env0.bs, I.env0.bsz, I.env0.funs, I.env0.frf, I.env0.hok, I.env0.bare⟩
      have hsp : spKg g [u] H (fun v' H' => KeyAt H' (g t) v' ∧ Same H H') E0 := ⟨u, t, rfl, hk1, hf t List.mem_cons_self, fun v' H' a b => ⟨a, b⟩⟩
      have r2 : Vals [u] [x] := .cons ra .nil
      refine wpAny_call (codeAny_mono (F.run A X.stack s H ⟨[x], []⟩ [x] [u] _ E0 hr env (hb s [x] I.kIn rfl) r2 hsp) fun rr s' hq => ?_)
      cases rr with
      | error ev => exact hq.elim
      | ok fl =>
        cases fl with
        | next => exact False.elim hq
        | brk => exact False.elim hq
        | cont => exact False.elim hq
        | ret kv =>
          obtain ⟨v', H', os', bare, un, hok, rv, kt, sm⟩ := hq
          have J : Inv X pins σ H' s' := I.call' os' un hok bare (fun b hb => absurd hb (by simp))
          have oo' := un.keep D oD oo hD nD (by simp)
          have oS' := un.keep kS _ os fp.1 nS (by simp)
          have hS' : H' kS = none := un.free kS _ os fp.1 (by simp)
          have hD' : H' D = none := un.free D _ oo hD (by simp)
          refine ⟨ks, e, by omega, oS', ?_⟩
          have fp' : FpOk X pins H' kS := ⟨hS', fp.2⟩
          have ea : (List.toArray ks).push kv = List.toArray (ks ++ [kv]) := by simp
          obtain ⟨c2, hc2⟩ : ∃ c2, (s'.heap.update kS (Obj.mapSeq (·.push kv))).get? kS = some (seqObj "list" (List.toArray (ks ++ [kv])) c2) := ⟨_, by rw [← ea]; exact get?_update_seq oS' (·.push kv)⟩
          have sb := Heap.SameBut.update s'.heap kS (Obj.mapSeq (·.push kv))
          have J2 : Inv X pins σ H' { s' with heap := s'.heap.update kS (Obj.mapSeq (·.push kv)) } := J.turned (t' := s'.toks) (it := kS) (fun b o n q => (sb.2 b n).trans q) fp'.1 fp'.2.1 fp'.2.2.2.1 fp'.2.2.2.2.1 fp'.2.2.2.2.2
          refine ⟨H', ks ++ [kv], kvs ++ [v'], c2, J2, s0.trans sm, sm, fp', hD', (sb.2 D hDS).trans oo', hc2, ?_, rk.append (.cons rv .nil)⟩
          rw [List.map_append]
          exact (hks.mono (Same.tups sm) _ _).append (.cons kt .nil)
    · obtain ⟨rfl, H', ks', kvs', e', J, s0', sm, fp', hD', oo', os', hks', rk'⟩ := hq
      show wpAny (model X.prog X.w) A (forIn r PUnit.unit body) _ E s'
      exact ask_keysG F hb hr hA nD nS hDS hD0 hbody r _ rT (dT ++ [t]) H' s' ks' kvs' e' (by rw [ha]; simp) hl J s0' fp' hD' rb (hk2.mono (Same.tups sm) _ _) (fun z hz => hf z (List.mem_cons_of_mem _ hz)) oo' os' hks' rk'
end
end Tw
set_option Elab.async false
set_option linter.all false
set_option maxRecDepth 100000
set_option maxHeartbeats 4000000
namespace Tw
open PySem PySem.Spec L2 PyProof.Rows
section
variable {X : Cx} {pins : List (Addr × Obj)} {σ : L2.St} {H : Hp} {s : Shared}
/-- a thing that stands already is tracked from here on -/
theorem track2 {a : Addr} {o : HO} (I : Inv X pins σ H s) (h0 : X.s₀.heap.get? a = none) (hl : a ≠ X.env.locals) (hc : ∀ x c, X.env.cells.lookup x = some c → c ≠ a) (hp : ∀ p ∈ X.pn ++ pins, p.1 ≠ a) (hn : H a = none)
    (new : ObjOk X.prog X.w (upd H a o) s.heap a o) : Inv X pins σ (upd H a o) s := by
  have nt : ∀ {b : Addr} {u : HO}, H b = some u → b ≠ a := fun {b u} e z => by rw [z, hn] at e; cases e
  refine ⟨I.ok, I.os, I.bare, ⟨I.base.keep, I.base.slot, fun b ob q n hx => ?_, I.base.there, fun b xs q => ?_, fun b ob u q => ?_, fun b ps q => ?_⟩, I.loc, I.cell, ?_, fun x c e => ?_, fun p hp' => ?_, fun b u e => ?_, I.len⟩
  · rw [upd_ne (fun z => by rw [z, h0] at q; cases q)]; exact I.base.free b ob q n hx
  · have e := I.base.tups b xs q
    rw [upd_ne (nt e)]; exact e
  · have e := I.base.frzs b ob u q
    rw [upd_ne (nt e)]; exact e
  · obtain ⟨more, e⟩ := I.base.tbls b ps q
    exact ⟨more, by rw [upd_ne (nt e)]; exact e⟩
  · rw [upd_ne (Ne.symm hl)]; exact I.free
  · rw [upd_ne (hc x c e)]; exact I.freeC x c e
  · obtain ⟨e, n, r⟩ := I.pin p hp'
    exact ⟨e, by rw [upd_ne (hp p hp')]; exact n, r⟩
  · by_cases hb : b = a
    · subst hb
      rw [upd_same] at e
      cases e
      exact new
    · rw [upd_ne hb] at e
      exact (I.hok b u e).stay (fun _ _ _ q => q) (fun c q => by rw [upd_ne (nt q)]; exact q) fun c xs q => by rw [upd_ne (nt q)]; exact q
theorem Vals.getD {us : List V} {its : List Value} (r : Vals us its) {i : Nat} (h : i < us.length) : RelV (us.getD i .non) (its.getD i Value.none) := by
  have hl := r.length
  obtain ⟨u, e1, e2⟩ := r.get (i := i) (x := us[i]) (by simp [h])
  rw [List.getD_eq_getElem?_getD, List.getD_eq_getElem?_getD, e1, List.getElem?_eq_getElem h]
  exact e2
theorem vals_map {us : List V} {its : List Value} (r : Vals us its) : ∀ (l : List Nat), (∀ i ∈ l, i < us.length) → Vals (l.map fun i => us.getD i .non) (l.map fun i => its.getD i Value.none)
  | [], _ => .nil
  | i :: l, h => .cons (Vals.getD r (h i List.mem_cons_self)) (vals_map r l fun j hj => h j (List.mem_cons_of_mem _ hj))
theorem keys_map {ts : List KT} {us : List V} (hk : KeysAt H ts us) : ∀ (l : List Nat), (∀ i ∈ l, i < us.length) → KeysAt H (l.map fun i => ts.getD i (.int 0)) (l.map fun i => us.getD i .non)
  | [], _ => .nil
  | i :: l, h => by
    have hi := h i List.mem_cons_self
    obtain ⟨t, et, kt⟩ := hk.get (i := i) (v := us[i]) (by simp [hi])
    refine .cons (show KeyAt H (ts.getD i (.int 0)) (us.getD i .non) from ?_) (keys_map hk l fun j hj => h j (List.mem_cons_of_mem _ hj))
    rw [List.getD_eq_getElem?_getD, List.getD_eq_getElem?_getD, et, List.getElem?_eq_getElem hi]
    exact kt
theorem range_getD {α : Type} (l : List α) (d : α) : (List.range l.length).map (fun i => l.getD i d) = l := by
  apply List.ext_getElem
  · simp
  · intro i h1 h2
    simp [h2]
/-- sorted(l, key = f), f a key's standing; l anything that is collected to keys -/
theorem sorted_keyG {g : KT → KT} (hg : Kg g) (dg : ∀ t, (g t).depth ≤ 2 * t.depth + 2) {x0 : Str} {k : Nat} {f : Addr} {lv : Value} {fd : FuncData} {us : List V} {ts : List KT} {Q : VK} (hr : Room (k + 2) X.A) (F : FnOk X.prog X.w X.K X.mg X.base CX0 k f fd [x0] (spKg g)) (hb : Binds X.K fd [x0] []) (I0 : Inv X pins σ H s) (hk : KeysAt H ts us) (hf : ∀ t ∈ ts, t.fits 3 = true) (h64 : us.length < 64)
    (hcol : ∀ (Q' : List Value → Shared → Prop), (∀ (s1 : Shared) (its : List Value), Inv X pins σ H s1 → Vals us its → Q' its s1) → wpAny (model X.prog X.w) X.A.in1 (collect lv) Q' X.xe s)
    (q : ∀ (D : Addr) (ws : List V) (rs : List KT) (H' : Hp), Same H H' → H D = none → H' D = some (.lst ws) → KeysAt H' rs ws → rs.Perm ts → rs.Pairwise (fun a b => b.lt a = false) → Q (.ref D) H') :
    wpAny (model X.prog X.w) X.A (call (.builtin "sorted") [lv] [(Str.ofString "key", .ref f)]) (EP X pins σ Q) X.xe s := by
  have hkl := hk.length
  have hr6 : Room k X.A.in1.in1 := (Room.in1 (k := k + 1) hr).in1
  refine call_function_entry_kw kind_sorted plain_sorted entry_sorted (ksk_s1 _ _) ?_
  unfold Builtin.«sorted»
  refine wpAny_bind (m := checkCount "sorted" 1 1 _) (wpAny_pure ?_)
  refine wpAny_bind (hcol _ fun s its I rv => ?_)
  have hlen := rv.length
  refine wpAny_bind (wpAny_newList ?_ (by rw [sizeLine_eq]; omega))
  obtain ⟨h1, eh1⟩ : ∃ h1, s.heap.push (seqObj "list" its.toArray 0) = h1 := ⟨_, rfl⟩
  have hoL : h1.get? s.heap.objs.size = some (seqObj "list" its.toArray 0) := by rw [← eh1]; exact Heap.get?_push_size _ rfl
  have keep : ∀ b o, s.heap.get? b = some o → h1.get? b = some o := fun b o z => by rw [← eh1]; exact Heap.get?_push_of_some _ z
  have hs1 : h1.objs.size = s.heap.objs.size + 1 := by rw [← eh1, size_push']
  obtain ⟨D, eD⟩ : ∃ D, s.heap.objs.size = D := ⟨_, rfl⟩
  rw [eD] at hoL
  have hDs : s.heap.objs.size ≤ D := by omega
  have hHD : H D = none := I.hok.fresh hDs
  have fD : FpOk X pins H D := I.fpOk hDs hHD
  have nD : D ∉ frs X.stack := notfrG I hDs
  have h0D : X.s₀.heap.get? D = none := Heap.get?_none_of_le (Nat.le_trans I.sz hDs)
  have I1 : Inv X pins σ H { s with heap := h1 } := I.kept (t' := s.toks) keep
  show wpAny _ _ _ _ _ { s with heap := s.heap.push (seqObj "list" its.toArray 0) }
  rw [eh1, eD]
  refine wpAny_bind (wpAny_holding (wpAny_call_entry_kw slot_list_sort ⟨_, hoL, rfl⟩ entry_list_sort ?body (ksk_l1 _ _)))
  rw [ksk_t1]
  unfold ksk_tree
  refine wpAny_bind (listItems_at hoL rfl ?_)
  refine wpAny_bind (listUpdate_at hoL rfl ?_ (by rw [List.size_toArray, sizeLine_eq]; omega) (Nat.zero_le _))
  have sb1 := Heap.SameBut.update h1 D (Obj.mapSeq fun _ => (#[] : Array Value))
  obtain ⟨e1, ho1⟩ : ∃ e1, (h1.update D (Obj.mapSeq fun _ => (#[] : Array Value))).get? D = some (seqObj "list" #[] e1) := ⟨_, get?_update_seq hoL fun _ => #[]⟩
  obtain ⟨h2, eh2⟩ : ∃ h2, h1.update D (Obj.mapSeq fun _ => (#[] : Array Value)) = h2 := ⟨_, rfl⟩
  rw [eh2] at ho1 sb1
  show wpAny _ _ _ _ _ { s with heap := h1.update D (Obj.mapSeq fun _ => (#[] : Array Value)) }
  rw [eh2]
  have I2 : Inv X pins σ H { s with heap := h2 } := Inv.turned (s := { s with heap := h1 }) (t' := s.toks) (it := D) I1 (fun b o n z => (sb1.2 b n).trans z) fD.1 fD.2.1 fD.2.2.2.1 fD.2.2.2.2.1 fD.2.2.2.2.2
  refine wpAny_bind (seqEpoch_at ho1 rfl ?_)
  refine wpAny_bind (wpAny_newTuple ?_ (by show its.length ≤ _; rw [sizeLine_eq]; omega))
  refine wpAny_bind (wpAny_newList ?_ (Nat.zero_le _))
  refine wpAny_holding ?_
  have hs2 : h2.objs.size = s.heap.objs.size + 1 := by rw [← eh2, Heap.size_update, hs1]
  obtain ⟨h3, eh3⟩ : ∃ h3, (h2.push (seqObj "tuple" its.toArray 0)).push (seqObj "list" #[] 0) = h3 := ⟨_, rfl⟩
  have ekS : (h2.push (seqObj "tuple" its.toArray 0)).objs.size = s.heap.objs.size + 2 := by rw [size_push', hs2]
  have keep3 : ∀ b o, h2.get? b = some o → h3.get? b = some o := fun b o z => by rw [← eh3]; exact Heap.get?_push_of_some _ (Heap.get?_push_of_some _ z)
  have hoS : h3.get? (s.heap.objs.size + 2) = some (seqObj "list" (List.toArray []) 0) := by rw [← eh3, ← ekS]; exact Heap.get?_push_size _ rfl
  obtain ⟨kS, ekS2⟩ : ∃ kS, s.heap.objs.size + 2 = kS := ⟨_, rfl⟩
  rw [ekS2] at hoS ekS
  have hSs : s.heap.objs.size ≤ kS := by omega
  have hDk0 : D ≠ kS := by omega
  have hHS : H kS = none := I.hok.fresh hSs
  have fS : FpOk X pins H kS := I.fpOk hSs hHS
  have nS : kS ∉ frs X.stack := notfrG I hSs
  have I3 : Inv X pins σ H { s with heap := h3 } := I2.kept (t' := s.toks) keep3
  show wpAny _ _ (ksk_rest D (.ref f) false its.toArray e1 (.ref (h2.push (seqObj "tuple" its.toArray 0)).objs.size)) _ _ { s with heap := (h2.push (seqObj "tuple" its.toArray 0)).push (seqObj "list" #[] 0) }
  rw [eh3, ekS]
  -- the end: the keys stand in kS, the list is empty at D
  have fin : ∀ (H' : Hp) (s' : Shared) (ks : List Value) (kvs : List V) (e : Nat), Inv X pins σ H' s' → Same H H' → FpOk X pins H' kS → H' D = none → s'.heap.get? D = some (seqObj "list" #[] e1) → s'.heap.get? kS = some (seqObj "list" ks.toArray e) → KeysAt H' (ts.map g) kvs → Vals kvs ks →
      wpAny (model X.prog X.w) X.A.in1.in1 (ksk_end D false its.toArray e1 (.ref kS) ks.toArray) (fun fin s' => ∃ v, fin = .done (.ret v) ∧ wpAny (model X.prog X.w) X.A.in1 (ret (.ref D)) (fun fin s' => ∃ v, fin = .done (.ret v) ∧ EP X pins σ Q v s') X.xe s') X.xe s' := by
    intro H' s' ks kvs e J sm fp hD' oo os hks rk
    have hkl2 : ks.length = its.length := by
      have a := hks.length
      have b := rk.length
      rw [List.length_map] at a
      omega
    have sv : GVals g s'.heap ts ks := gvals_of J hks rk
    -- behind the runs
    have tail : ∀ (st : SortSt) (p : Array Nat), Srt.PB its.length p → (∀ i j, i ≤ j → j < its.length → (ts.getD (p.getD j 0) (.int 0)).lt (ts.getD (p.getD i 0) (.int 0)) = false) → (arrOf st).map (·.2) = List.toArray (p.toList.map fun i => its.getD i Value.none) → failedOf st = none →
        wpAny (model X.prog X.w) X.A.in1.in1 (ksk_tail D false e1 (.ref kS) st) (fun fin s' => ∃ v, fin = .done (.ret v) ∧ wpAny (model X.prog X.w) X.A.in1 (ret (.ref D)) (fun fin s' => ∃ v, fin = .done (.ret v) ∧ EP X pins σ Q v s') X.xe s') X.xe s' := by
      intro st p hp hs hout hfail
      have hps := hp.size
      have hmem : ∀ i ∈ p.toList, i < us.length := fun i hi => by
        have : i ∈ (List.toArray (List.range its.length)) := hp.mem_iff.mp (Array.mem_toList_iff.mp hi)
        have := (List.mem_range.mp (by simpa using this) : i < its.length)
        omega
      have hpl : p.toList.length = its.length := by rw [Array.length_toList, hps]
      have s1 := Heap.SameBut.update s'.heap kS (Obj.mapSeq fun _ => (#[] : Array Value))
      have hDk : D ≠ kS := by omega
      have oD1 := (s1.2 D hDk).trans oo
      have s2 := Heap.SameBut.update (s'.heap.update kS (Obj.mapSeq fun _ => (#[] : Array Value))) D (Obj.mapSeq fun _ => List.toArray (p.toList.map fun i => its.getD i Value.none))
      obtain ⟨c2, hc2⟩ : ∃ c2, ((s'.heap.update kS (Obj.mapSeq fun _ => (#[] : Array Value))).update D (Obj.mapSeq fun _ => List.toArray (p.toList.map fun i => its.getD i Value.none))).get? D = some (seqObj "list" (List.toArray (p.toList.map fun i => its.getD i Value.none)) c2) := ⟨_, get?_update_seq oD1 fun _ => List.toArray (p.toList.map fun i => its.getD i Value.none)⟩
      unfold ksk_tail
      dsimp only
      rw [hout, if_neg Bool.false_ne_true]
      refine wpAny_bind (listUpdate_at os rfl ?_ (by rw [List.size_toArray, sizeLine_eq]; omega) (Nat.zero_le _))
      refine wpAny_bind (wpAny_letGo ?_)
      refine wpAny_bind (seqEpoch_at oD1 rfl ?_)
      refine wpAny_bind (listUpdate_at oD1 rfl ?_ (Nat.zero_le _) (by rw [List.size_toArray, List.length_map, hpl, sizeLine_eq]; omega))
      rw [hfail]
      simp only [bne_self_eq_false, Bool.false_eq_true, if_false]
      have J1 : Inv X pins σ H' { s' with heap := s'.heap.update kS (Obj.mapSeq fun _ => (#[] : Array Value)) } := J.turned (t' := s'.toks) (it := kS) (fun b o n z => (s1.2 b n).trans z) fp.1 fp.2.1 fp.2.2.2.1 fp.2.2.2.2.1 fp.2.2.2.2.2
      have J2 : Inv X pins σ H' { s' with heap := (s'.heap.update kS (Obj.mapSeq fun _ => (#[] : Array Value))).update D (Obj.mapSeq fun _ => List.toArray (p.toList.map fun i => its.getD i Value.none)) } := Inv.turned (s := { s' with heap := s'.heap.update kS (Obj.mapSeq fun _ => (#[] : Array Value)) }) (t' := s'.toks) (it := D) J1 (fun b o n z => (s2.2 b n).trans z) hD' fD.2.1 fD.2.2.2.1 fD.2.2.2.2.1 fD.2.2.2.2.2
      have J3 := track2 (a := D) (o := .lst (p.toList.map fun i => us.getD i .non)) J2 h0D fD.2.1 fD.2.2.2.2.1 fD.2.2.2.2.2 hD' ⟨by rw [List.length_map, hpl, sizeLine_eq]; omega, _, c2, vals_map rv _ hmem, hc2⟩
      have g := same_new hD' (.lst (p.toList.map fun i => us.getD i .non))
      refine wpAny_pure ⟨.none, rfl, wpAny_pure ⟨_, rfl, .ref D, _, J3, rfl, q D _ (p.toList.map fun i => ts.getD i (.int 0)) _ (sm.trans g) hHD upd_same (keys_map (hk.mono (Same.tups (sm.trans g)) _ _) _ hmem) ?_ ?_⟩⟩
      · have hpp : p.toList.Perm (List.range its.length) := by simpa using Array.perm_iff_toList_perm.mp hp
        have := hpp.map (fun i => ts.getD i (KT.int 0))
        rw [show its.length = ts.length by omega, range_getD] at this
        exact this
      · rw [List.pairwise_iff_getElem]
        intro i j hi hj hij
        rw [List.length_map, hpl] at hi hj
        simp only [List.getElem_map]
        have := hs i j (Nat.le_of_lt hij) hj
        have e (x : Nat) (hx : x < its.length) : p.getD x 0 = p.toList[x]'(by omega) := by simp [Array.getD, hps, hx]
        rw [e i hi, e j hj] at this
        exact this
    unfold ksk_end
    dsimp only
    rw [if_neg Bool.false_ne_true, if_neg Bool.false_ne_true]
    by_cases h2 : its.length < 2
    · rw [if_pos (by rw [List.size_toArray]; exact h2), if_pos (by rw [List.size_toArray]; exact h2)]
      refine wpAny_bind (wpAny_pure (wpAny_bind (wpAny_pure ?_)))
      refine tail _ (List.toArray (List.range its.length)) (Array.Perm.refl _) (fun i j hij hj => ?_) ?_ rfl
      · have : i = j := by omega
        rw [this]; exact lt_self _
      · show ((ks.toArray.zip its.toArray).map (·.2)) = _
        apply Array.toList_inj.mp
        rw [Array.toList_map, ksk_zip]
        simp only [List.toList_toArray]
        rw [range_getD, List.map_snd_zip (by omega)]
    · rw [if_neg (by rw [List.size_toArray]; exact h2), if_neg (by rw [List.size_toArray]; exact h2)]
      refine wpAny_bind (g_kind hg (by omega) sv ?_)
      refine wpAny_bind (thn (g_run hg (Q := fun st' s'' => s'' = s' ∧ ∃ p : Array Nat, Srt.PB its.length p ∧ (∀ i j, i ≤ j → j < its.length → (ts.getD (p.getD j 0) (.int 0)).lt (ts.getD (p.getD i 0) (.int 0)) = false) ∧ arrOf st' = p.map (PySem.W.kas_item (ks.toArray.zip its.toArray)) ∧ failedOf st' = none)
        hkl2 (by omega) (by omega) sv (fun t ht => ?_) fun p st' b1 b2 b3 b4 => ⟨rfl, p, b1, b2, b3, b4⟩) fun r s'' hr' => ?_)
      · have a := hr6.un
        have d1 := dg t
        have d2 := fits_depth t 3 (hf t ht)
        omega
      · obtain ⟨⟨⟩, st'⟩ := r
        obtain ⟨rfl, p, b1, b2, b3, b4⟩ := hr'
        exact tail st' p b1 b2 (PySem.W.kat_snds hkl2 b3) b4
  unfold ksk_rest
  refine wpAny_bind (wpAny_rule ?_)
  first
    | rw [List.forIn_toArray]
    | (rw [← Array.forIn_toList]; simp only [List.toList_toArray])
  refine wpAny_bind (thn (ask_keysG (all := ts) (H0 := H) (D := D) (kS := kS) F hb hr6 rfl nD nS hDk0 hHD (fun x s4 R hx => ?_) its us ts [] H { s with heap := h3 } [] [] 0 rfl (by omega) I3 (Same.refl H) fS hHD rv hk hf (keep3 _ _ ho1) hoS .nil .nil) fun _ s4 h4 => ?_)
  · refine wpAny_bind (wpAny_attempt (wpAny_mono hx (fun kv s5 h5 => ?_) fun _ _ z => z.elim))
    obtain ⟨ks, e, l64, o5, R5⟩ := h5
    try dsimp only
    refine wpAny_bind (listUpdate_at o5 rfl ?_ (by rw [List.size_toArray, sizeLine_eq]; omega) (Nat.le_trans (Nat.le_of_eq (Array.size_push ..)) (by rw [List.size_toArray, sizeLine_eq]; omega)))
    exact wpAny_pure ⟨rfl, R5⟩
  · obtain ⟨H', ks, kvs, e, J, sm, fp, hD', oo, os, hks, rk⟩ := h4
    try dsimp only
    exact wpAny_bind (listItems_at os rfl (fin H' s4 ks kvs e J sm fp hD' oo os hks rk))
end
end Tw
set_option Elab.async false
set_option linter.all false
set_option maxRecDepth 100000
set_option maxHeartbeats 4000000
namespace L2
open PySem PySem.Spec PyProof.Rows
/-! ### sorted(d), d a dict of ints -/
section
variable {prog : Program} {w : World} {A : Around} {E : Value → Shared → Prop} {s : Shared} {T : String} {r d : Addr} {n : Nat} {P : Nat → Value → Prop} {OK : Heap → Prop}
theorem iadd_src {R : Result → Shared → Prop} (K : PySem.W.KdlSrc prog w T r d n P OK) (hh : A.handled = none) (hok : OK s.heap) (S : Addr) (hSr : S ≠ r) (hSd : S ≠ d) (c₀ : Nat) (hS : s.heap.get? S = some { cls := .type "list", data := .seq #[] c₀ })
    (hR : ∀ h' tk acc' c', (∀ b o, b ≠ S → s.heap.get? b = some o → h'.get? b = some o) → h'.get? S = some { cls := .type "list", dict := none, data := .seq acc' c', slots := #[] } → ItemsOf P acc' n → R (.ok (.ret (.ref S))) { s with heap := h', toks := tk }) (hn : n ≤ sizeLine) :
    codeAny (model prog w) A (.builtin "list.__iadd__" ⟨[.ref S, .ref r], []⟩) R s := by
  refine codeAny_builtin PySem.F.entry_list_iadd ?_
  rw [Around.under_plainId PySem.F.plain_list_iadd _]
  exact PySem.W.kdl_extend (R := R) K hh hok S hSr hSd (.ref S) c₀ hS hR hn
theorem collect_src {Q : List Value → Shared → Prop} (K : PySem.W.KdlSrc prog w T r d n P OK) (hh : A.handled = none) (hok : OK s.heap) (hn : n ≤ sizeLine)
    (hQ : ∀ h' tk acc, (∀ b o, s.heap.get? b = some o → h'.get? b = some o) → s.heap.objs.size < h'.objs.size → ItemsOf P acc n → Q acc.toList { s with heap := h', toks := tk }) : wpAny (model prog w) A (collect (.ref r)) Q E s := by
  have hlt := K.there _ hok
  unfold collect
  refine wpAny_bind (wpAny_runValue (codeAny_builtin PySem.F.entry_proto_collect ?_))
  rw [Around.under_plainId PySem.F.plain_proto_collect _]
  show wpAny _ A.in1 (newList [] >>= fun l => again (.builtin "list.__iadd__" ⟨[l, .ref r], []⟩)) _ _ s
  refine wpAny_bind (wpAny_newObj_type ?_)
  have hS : (s.heap.push { cls := .type "list", data := .seq ([] : List Value).toArray }).get? s.heap.objs.size = some { cls := .type "list", data := .seq #[] 0 } := Heap.get?_push_size _ rfl
  refine wpAny_pure ⟨plainId_quiet PySem.F.plain_list_iadd _, iadd_src (s := { s with heap := s.heap.push { cls := .type "list", data := .seq ([] : List Value).toArray } }) K hh (K.keep _ _ hok fun b _ o e => Heap.get?_push_of_some _ e) s.heap.objs.size (Nat.ne_of_gt hlt.1) (Nat.ne_of_gt hlt.2) _ hS (fun h' tk acc' c' hk hS' hacc => ?_) hn⟩
  show wpAny _ A (load s.heap.objs.size >>= _) _ _ _
  refine wpAny_bind (wpAny_load hS' ?_)
  exact wpAny_pure (hQ h' tk acc' (fun b o e => hk b o (Nat.ne_of_lt (Heap.lt_size e)) (Heap.get?_push_of_some _ e)) (Heap.lt_size hS') hacc)
end
section
variable {X : Cx}
theorem nn' {n : Nat} (h : n < 64) : n ≤ sizeLine := Nat.le_of_lt (small1000 (by omega))
end
end L2
set_option Elab.async false
set_option linter.all false
set_option maxRecDepth 100000
set_option maxHeartbeats 4000000
namespace Tw
open PySem PySem.Spec L2 PyProof.Rows
/-! ### such a dict walked -/
def RawD (d : Addr) (es : Array DictEntry) (ep : Nat) (h : Heap) : Prop := ∃ o, h.get? d = some o ∧ o.ExactDict ∧ o.data = .dict es ep
section
variable {prog : Program} {w : World} {A : Around} {E : Value → Shared → Prop} {s : Shared} {d : Addr} {es : Array DictEntry} {ep : Nat}
theorem RawD.type (x : RawD d es ep s.heap) : s.TypeIs (.ref d) "dict" := let ⟨o, g, hx, _⟩ := x; ⟨o, g, hx.1⟩
theorem RawD.at {h h' : Heap} (x : RawD d es ep h) (k : ∀ o, h.get? d = some o → h'.get? d = some o) : RawD d es ep h' := let ⟨o, g, r⟩ := x; ⟨o, k o g, r⟩
theorem raw_iter {Q : Value → Shared → Prop} (hd : (d == sysModules) = false) (x : RawD d es ep s.heap) (hQ : Q (.ref s.heap.objs.size) { s with heap := s.heap.push { cls := .type "dict_keyiterator", data := .fields #[.ref d, .int 0 0, .int es.size 0, .int ep 0] } }) :
    wpAny (model prog w) A (pyIter (.ref d)) Q E s := by
  have hT := x.type
  obtain ⟨o, ho, hx, hdat⟩ := x
  refine wpAny_pyIter_slot hT PySem.F.slot_dict_iter (wpAny_call_entry PySem.F.slot_dict_iter hT PySem.F.entry_dict_iter ?_ (PySem.F.args_dict_iter_1 _))
  unfold Builtin.«dict.__iter__»
  refine wpAny_bind ?_
  unfold Builtin.Dict.dictSlotNone
  refine wpAny_bind (wpAny_notOrdered_dict hT (wpAny_pure ?_))
  show wpAny _ _ (Builtin.Dict.showsAll d >>= _) _ _ s
  unfold Builtin.Dict.showsAll
  rw [if_neg (by rw [hd]; exact Bool.false_ne_true)]
  refine wpAny_bind (wpAny_pure (wpAny_bind (wpAny_dictEntries ho hdat (wpAny_bind (wpAny_dictEpoch ho hdat ?_)))))
  exact wpAny_bind (wpAny_newObj_type (wpAny_pure ⟨_, rfl, "dict_keyiterator", _, ⟨_, Heap.get?_push_size _ rfl, rfl⟩, PySem.F.slot_dict_keyiterator_next.lookup, hQ⟩))
theorem raw_next {it : Addr} {i : Nat} {Q : Option Value → Shared → Prop} (hh : A.handled = none) (hit : s.heap.IsKeyIter it d i es.size ep) (x : RawD d es ep s.heap)
    (hQ : ∀ e h', es[i]? = some e → h'.IsKeyIter it d (i + 1) es.size ep → Heap.SameBut it s.heap h' → Q (some e.key) { s with heap := h' })
    (hN : ∀ h', es[i]? = none → Heap.ExtBut it s.heap h' → Q none { s with heap := h' }) : wpAny (model prog w) A (pyNext (.ref it)) Q E s := by
  obtain ⟨o, ho, hc, hd⟩ := id hit
  obtain ⟨od, hod, hxd, hdd⟩ := x
  unfold pyNext
  refine wpAny_bind (wpAny_attempt (wpAny_callSpecial?_slot (name := Str.ofString "__next__") hit.typeIs PySem.F.slot_dict_keyiterator_next (wpAny_call_entry PySem.F.slot_dict_keyiterator_next hit.typeIs PySem.F.entry_dict_keyiterator_next ?_ (PySem.F.args_dict_keyiterator_next_1 _))))
  refine wpAny_bind (wpAny_pure (wpAny_bind (wpAny_bind ?_)))
  first | refine wpAny_bind (wpAny_typeNameOfWhole_keyiter hit.typeIs (wpAny_pure ?_)) | refine wpAny_bind (wpAny_typeNameOf_keyiter hit.typeIs (wpAny_pure ?_))
  refine wpAny_bind (wpAny_fieldsOf ho hd ?_)
  have hown : Builtin.Dict_items.ownsTuple "dict_keyiterator" = false := by decide
  simp only [hown, Bool.false_eq_true, if_false]
  show wpAny _ _ (if (Value.ref d == Value.none) = true then _ else _) _ _ s
  rw [if_neg (show ¬ ((Value.ref d == Value.none) = true) from Bool.false_ne_true)]
  refine wpAny_bind (wpAny_pure (wpAny_bind (wpAny_dictEntries hod hdd ?_)))
  rw [if_neg (by simp)]
  refine wpAny_bind (wpAny_pure (wpAny_bind (wpAny_dictEpoch hod hdd ?_)))
  rw [if_neg (by simp)]
  refine wpAny_pure ?_
  simp only [show ¬ ((i : Int) < 0) from by omega, if_false, Int.toNat_natCast]
  cases he : es[i]? with
  | some e =>
    refine wpAny_bind ?_
    first | refine wpAny_bind (wpAny_typeNameOfWhole_keyiter hit.typeIs (wpAny_pure ?_)) | refine wpAny_bind (wpAny_typeNameOf_keyiter hit.typeIs (wpAny_pure ?_))
    refine wpAny_bind (wpAny_isOneOf_keyiter hit.typeIs ?_)
    show wpAny _ _ (setField (.ref it) 1 (rawInt ((i : Int) + 1)) >>= _) _ _ s
    refine wpAny_bind (wpAny_setField ho hd (by simp) ?_)
    have hit' : (s.heap.update it (Obj.mapFields (·.setIfInBounds 1 (rawInt ((i : Int) + 1))))).IsKeyIter it d (i + 1) es.size ep :=
      ⟨_, Heap.get?_update_self _ ho (Obj.isFreed_of_fields (Obj.data_mapFields hd _)), (Obj.cls_mapFields ..).trans hc, by rw [Obj.data_mapFields hd]; simp [rawInt]⟩
    refine wpAny_bind (wpAny_holding (wpAny_bind (wpAny_isOneOf_keyiter (s := { s with heap := s.heap.update it (Obj.mapFields (·.setIfInBounds 1 (rawInt ((i : Int) + 1)))) }) hit'.typeIs ?_)))
    show wpAny _ _ (pure e.key) _ _ _
    exact wpAny_pure (wpAny_pure ⟨_, rfl, wpAny_pure (hQ e _ he hit' (Heap.SameBut.update ..))⟩)
  | none =>
    refine wpAny_bind ?_
    first | refine wpAny_bind (wpAny_typeNameOfWhole_keyiter hit.typeIs (wpAny_pure ?_)) | refine wpAny_bind (wpAny_typeNameOf_keyiter hit.typeIs (wpAny_pure ?_))
    show wpAny _ _ (setField (.ref it) 0 .none >>= _) _ _ s
    refine wpAny_bind (wpAny_setField ho hd (by simp) ?_)
    show wpAny _ _ (newExc (.type "StopIteration") [] >>= _) _ _ _
    refine wpAny_bind ?_
    simp only [newExc, newTuple]
    refine wpAny_bind (wpAny_newObj_type ?_ (by size_fits))
    refine wpAny_bind (m := firstArgMember _ _) (wpAny_of_eq (a := Value.none) (by first | rfl | (simp only [firstArgMember]; rfl)) (wpAny_newObj_type ?_ (by size_fits)))
    simp only [raiseNew]
    refine wpAny_bind (wpAny_handled ?_)
    rw [show A.in1.handled = none from hh]
    refine wpAny_bind (wpAny_pure (wpAny_throw ?_))
    refine wpAny_bind (wpAny_isInstance (T := "StopIteration") (b := true) ⟨_, Heap.get?_push_size _ rfl, rfl⟩ isSubtype_stop ?_)
    exact wpAny_pure (hN _ he (((Heap.SameBut.update ..).extBut.push _).push _))
theorem raw_walks (hh : A.handled = none) (I : Addr) (hne : d ≠ I) : Walks prog w A I [I, d] [I] es.size (fun i v => (es[i]?).map (·.key) = some v) (fun i h => h.IsKeyIter I d i es.size ep ∧ RawD d es ep h) where
  sub := fun b hb => by simp at hb; simp [hb]
  frame := fun _ _ _ st hk => ⟨st.1.at fun o e => hk I (by simp) o e, st.2.at fun o e => hk d (by simp) o e⟩
  item := fun i s Q E hi st hQ => by
    refine raw_next hh st.1 st.2 (fun e h' he hit' sb => ?_) (fun h' he => by rw [Array.getElem?_eq_getElem hi] at he; cases he)
    exact hQ e.key h' s.toks (by rw [he]; rfl) ⟨hit', st.2.at fun o z => (sb.2 d hne).trans z⟩ fun b o hb e => (sb.2 b (fun h => hb (by simp [h]))).trans e
  done := fun s Q E st hQ => by
    refine raw_next hh st.1 st.2 (fun e h' he => by rw [Array.getElem?_eq_none (Nat.le_refl _)] at he; cases he) (fun h' _ ex => ?_)
    exact hQ h' s.toks fun b o hb e => ex b o (fun h => hb (by simp [h])) e
  self := fun _ _ _ _ st hQ => wpAny_pyIter_keyiter st.1 hQ
theorem raw_src (lo : (d == sysModules) = false) : PySem.W.KdlSrc prog w "dict" d d es.size (fun i v => (es[i]?).map (·.key) = some v) (RawD d es ep) where
  type := fun _ x => x.type
  there := fun _ x => by obtain ⟨o, g, _⟩ := x; exact ⟨Heap.lt_size g, Heap.lt_size g⟩
  keep := fun _ _ x hk => x.at fun o e => hk d (.inl rfl) o e
  notList := by decide
  notTuple := by decide
  hint := fun _ _ _ _ x hq => PySem.W.kdl_hint_dict x.type hq
  iter := fun _ s hh x => ⟨_, _, (fun _ _ hq => raw_iter lo x hq), raw_walks hh _ (by obtain ⟨o, g, _⟩ := x; exact Nat.ne_of_lt (Heap.lt_size g)), ⟨⟨_, Heap.get?_push_size _ rfl, rfl, rfl⟩, x.at fun o e => Heap.get?_push_of_some _ e⟩⟩
end
section
variable {X : Cx} {pins : List (Addr × Obj)} {σ : L2.St} {H : Hp} {s : Shared} {A : Around} {E : Value → Shared → Prop}
theorem keys_items {w : World} {xs : List (KT × V × V)} {es : Array DictEntry} {acc : Array Value} (r : Paired (QRel w) xs es.toList) (h : ItemsOf (fun i v => (es[i]?).map (·.key) = some v) acc es.size) : Vals (xs.map (·.2.1)) acc.toList := by
  have ln := Paired.length r
  have l2 : acc.toList.length = es.size := by have := h.1; simpa using this
  refine paired_of (by rw [List.length_map, l2, ln]; simp) fun i a b ha hb => ?_
  rw [List.getElem?_map] at ha
  obtain ⟨z, ez, rfl⟩ := Option.map_eq_some_iff.mp ha
  rw [Array.getElem?_toList] at hb
  have := h.2 i b hb
  obtain ⟨e, ee, rfl⟩ := Option.map_eq_some_iff.mp this
  obtain ⟨z', e1, e2⟩ := paired_right r (by rw [Array.getElem?_toList]; exact ee)
  rw [ez] at e1
  cases e1
  exact e2.2.1
/-- the keys of such a dict, as a list is made of them -/
theorem q_collect {d : Addr} {xs : List (KT × V × V)} {Q : List Value → Shared → Prop} (hh : A.handled = none) (I : Inv X pins σ H s) (x : DkAt X.w H d xs) (hQ : ∀ (s1 : Shared) (its : List Value), Inv X pins σ H s1 → Vals (xs.map (·.2.1)) its → Q its s1) : wpAny (model X.prog X.w) A (collect (.ref d)) Q E s := by
  obtain ⟨es, hH, rel⟩ := x.ex
  obtain ⟨⟨hsys, hsz, o, ep, ho, hx, hd⟩, _⟩ := I.hok d _ hH
  refine collect_src (raw_src (ep := ep) hsys) hh ⟨o, ho, hx, hd⟩ hsz fun h' tk acc k1 _ hacc => ?_
  exact hQ _ acc.toList (I.kept (t' := tk) k1) (keys_items rel hacc)
end
end Tw
set_option Elab.async false
set_option linter.all false
set_option maxRecDepth 100000
set_option maxHeartbeats 4000000
namespace Tw
open PySem PySem.Spec L2
/-! ### things on the heap; N: where no list or dict of theirs lies -/
def OddAt (N : Addr → Prop) (H : Hp) (n : String) (v : V) : Prop :=
  (n = "bool" ∧ ∃ b, v = .bl b) ∨ (n = "NoneType" ∧ v = .non) ∨ (n = "list" ∧ ∃ a xs, v = .ref a ∧ H a = some (.lst xs) ∧ ¬ N a) ∨ (n = "dict" ∧ ∃ a kvs, v = .ref a ∧ H a = some (.dK kvs) ∧ ¬ N a)
mutual
def ThAt (N : Addr → Prop) (H : Hp) : TG → V → Prop
  | .int i, v => v = .int i
  | .str x, v => v = .str x
  | .tup l, v => ∃ a vs, v = .ref a ∧ H a = some (.tup vs) ∧ ThsAt N H l vs
  | .odd n, v => OddAt N H n v
def ThsAt (N : Addr → Prop) (H : Hp) : List TG → List V → Prop
  | [], vs => vs = []
  | t :: l, vs => ∃ v r, vs = v :: r ∧ ThAt N H t v ∧ ThsAt N H l r
end
/-- what stays for things -/
structure Keeps (N : Addr → Prop) (H H' : Hp) : Prop where
  tup : Tups H H'
  rest : ∀ b o, H b = some o → ¬ N b → H' b = some o
theorem Keeps.same {N : Addr → Prop} {H H' : Hp} (s : Same H H') : Keeps N H H' := ⟨Same.tups s, fun b o e _ => s b o e⟩
mutual
theorem ThAt.mono {N : Addr → Prop} {H H' : Hp} (m : Keeps N H H') : ∀ (t : TG) (v : V), ThAt N H t v → ThAt N H' t v
  | .int _, _, h => by rw [ThAt] at h ⊢; exact h
  | .str _, _, h => by rw [ThAt] at h ⊢; exact h
  | .tup l, _, h => by
    rw [ThAt] at h ⊢
    obtain ⟨a, vs, e, h1, h2⟩ := h
    exact ⟨a, vs, e, m.tup a vs h1, ThsAt.mono m l vs h2⟩
  | .odd n, _, h => by
    rw [ThAt] at h ⊢
    rcases h with h | h | ⟨e, a, xs, e1, e2, e3⟩ | ⟨e, a, xs, e1, e2, e3⟩
    · exact .inl h
    · exact .inr (.inl h)
    · exact .inr (.inr (.inl ⟨e, a, xs, e1, m.rest _ _ e2 e3, e3⟩))
    · exact .inr (.inr (.inr ⟨e, a, xs, e1, m.rest _ _ e2 e3, e3⟩))
theorem ThsAt.mono {N : Addr → Prop} {H H' : Hp} (m : Keeps N H H') : ∀ (l : List TG) (vs : List V), ThsAt N H l vs → ThsAt N H' l vs
  | [], _, h => by rw [ThsAt] at h ⊢; exact h
  | t :: l, _, h => by
    rw [ThsAt] at h ⊢
    obtain ⟨v, r, e, h1, h2⟩ := h
    exact ⟨v, r, e, ThAt.mono m t v h1, ThsAt.mono m l r h2⟩
end
theorem ThsAt.length {N : Addr → Prop} {H : Hp} : ∀ {l : List TG} {vs : List V}, ThsAt N H l vs → l.length = vs.length
  | [], vs, h => by rw [ThsAt] at h; subst h; rfl
  | t :: l, vs, h => by
    rw [ThsAt] at h
    obtain ⟨v, r, rfl, _, h2⟩ := h
    rw [List.length_cons, List.length_cons, h2.length]
theorem ThsAt.get {N : Addr → Prop} {H : Hp} : ∀ {l : List TG} {vs : List V} {i : Nat} {v : V}, ThsAt N H l vs → vs[i]? = some v → ∃ t, l[i]? = some t ∧ ThAt N H t v
  | [], vs, i, v, h, e => by rw [ThsAt] at h; subst h; simp at e
  | t :: l, vs, 0, v, h, e => by
    rw [ThsAt] at h
    obtain ⟨v', r, rfl, h1, _⟩ := h
    simp at e
    subst e
    exact ⟨t, rfl, h1⟩
  | t :: l, vs, i + 1, v, h, e => by
    rw [ThsAt] at h
    obtain ⟨v', r, rfl, _, h2⟩ := h
    obtain ⟨t', e1, e2⟩ := h2.get (i := i) (by simpa using e)
    exact ⟨t', by simpa using e1, e2⟩
mutual
theorem th_key {N : Addr → Prop} {H : Hp} : ∀ (t : KT) (v : V), KeyAt H t v → ThAt N H t.emb v
  | .int i, v, h => by rw [KeyAt] at h; rw [KT.emb, ThAt]; exact h
  | .str x, v, h => by rw [KeyAt] at h; rw [KT.emb, ThAt]; exact h
  | .tup l, v, h => by
    rw [KeyAt] at h
    obtain ⟨a, vs, e, h1, h2⟩ := h
    rw [KT.emb, ThAt]
    exact ⟨a, vs, e, h1, ths_keys l vs h2⟩
theorem ths_keys {N : Addr → Prop} {H : Hp} : ∀ (l : List KT) (vs : List V), KeysAt H l vs → ThsAt N H (embL l) vs
  | [], vs, h => by rw [KeysAt] at h; rw [embL, ThsAt]; exact h
  | t :: l, vs, h => by
    rw [KeysAt] at h
    obtain ⟨v, r, e, h1, h2⟩ := h
    rw [embL, ThsAt]
    exact ⟨v, r, e, th_key t v h1, ths_keys l r h2⟩
end
theorem OddAt.ty {K : PySem.W.Frag} {N : Addr → Prop} {H : Hp} {n : String} {v : V} (h : OddAt N H n v) : TyOf K H v (.type n) := by
  rcases h with ⟨rfl, b, rfl⟩ | ⟨rfl, rfl⟩ | ⟨rfl, a, xs, rfl, e, _⟩ | ⟨rfl, a, xs, rfl, e, _⟩
  · exact .bl b
  · exact .non
  · exact .lst e
  · exact .dK e
/-- isinstance of odd things -/
theorem kit_odd {K : PySem.W.Frag} {N : Addr → Prop} {H : Hp} {n : String} {v : V} (h : OddAt N H n v) :
    ∃ b, PySem.W.kitOne K (.type n) (.type "bool") = some b ∧ (b = false → PySem.W.kitOne K (.type n) (.type "int") = some false ∧ PySem.W.kitOne K (.type n) (.type "str") = some false ∧ PySem.W.kitOne K (.type n) (.type "tuple") = some false) := by
  rcases h with ⟨rfl, _⟩ | ⟨rfl, _⟩ | ⟨rfl, _⟩ | ⟨rfl, _⟩
  · exact ⟨true, kit_bb, fun z => absurd z (by decide)⟩
  · exact ⟨false, by kernel_rfl, fun _ => ⟨by kernel_rfl, by kernel_rfl, by kernel_rfl⟩⟩
  · exact ⟨false, by kernel_rfl, fun _ => ⟨by kernel_rfl, by kernel_rfl, by kernel_rfl⟩⟩
  · exact ⟨false, by kernel_rfl, fun _ => ⟨by kernel_rfl, by kernel_rfl, by kernel_rfl⟩⟩
end Tw
set_option Elab.async false
set_option linter.all false
set_option maxRecDepth 100000
set_option maxHeartbeats 4000000
namespace L2
open PySem PySem.Spec PyProof.Rows
/-! ### try: y = f(..) / except Y as n: suite -/
end L2
set_option Elab.async false
set_option linter.all false
set_option maxRecDepth 100000
set_option maxHeartbeats 4000000
namespace L2
open PySem PySem.Spec PyProof.Rows

section
variable {P : Program} {w : World} {H H2 : Hp} {h h' : Heap} {cs fs ex : List Addr}
end

section
variable {P : Program} {w : World} {K : PySem.W.Frag} {mg : Str → Option Value} {base : Heap}
end
end L2
set_option Elab.async false
set_option linter.all false
set_option maxRecDepth 100000
set_option maxHeartbeats 4000000
namespace L2
open PySem PySem.Spec PyProof.Rows

/-! ### f(e, ..), the callee given the cells of this frame to see -/
/-! ### try: y = c() / except Y as n: suite, c a function in the slot q -/
end L2
set_option Elab.async false
set_option linter.all false
set_option maxRecDepth 100000
set_option maxHeartbeats 4000000
namespace L2
open PySem PySem.Spec PyProof.Rows

end L2
set_option Elab.async false
set_option linter.all false
set_option maxRecDepth 100000
set_option maxHeartbeats 4000000
namespace L2
open PySem PySem.Spec PyProof.Rows
section
variable {P : Program} {w : World} {K : PySem.W.Frag} {mg : Str → Option Value} {base : Heap}
end
end L2
set_option Elab.async false
set_option linter.all false
set_option maxRecDepth 100000
set_option maxHeartbeats 4000000
namespace L2
open PySem PySem.Spec PyProof.Rows
section
variable {X : Cx}
end
/-! ### behind a call that saw the cells -/
section
variable {cs : List Addr} {HL Hc H' H3 : Hp}
end
end L2
set_option Elab.async false
set_option linter.all false
set_option maxRecDepth 100000
set_option maxHeartbeats 4000000
namespace L2
open PySem PySem.Spec PyProof.Rows
/-! ### sorted(xs), xs a list of ints -/
section
variable {X : Cx}
end
/-! ### dict(xs), xs a list of pairs -/
section
variable {prog : Program} {w : World} {A : Around} {E : Value → Shared → Prop} {s : Shared}
end
section
variable {X : Cx} {pins : List (Addr × Obj)} {σ : St} {H : Hp} {s : Shared}
end
end L2
set_option Elab.async false
set_option linter.all false
set_option maxRecDepth 100000
set_option maxHeartbeats 4000000
namespace L2
open PySem PySem.Spec PyProof.Rows
/-! ### list(reversed(xs)) -/
section
variable {prog : Program} {w : World} {A : Around} {E : Value → Shared → Prop} {s : Shared}
end
section
variable {X : Cx}
end
end L2
set_option Elab.async false
set_option linter.all false
set_option maxRecDepth 100000
set_option maxHeartbeats 8000000
namespace L2
open PySem PySem.Spec PyProof.Rows
section
variable {P : Program} {w : World} {K : PySem.W.Frag} {mg : Str → Option Value} {base : Heap}
end
def starless : Expr → Bool
  | .Starred _ _ => false
  | _ => true
theorem star_plain {e : Expr} {es : List Expr} {env : Env} (h : starless e = true) : starEach (e :: es) env = (false, eval e env) :: starEach es env := by
  cases e <;> first | rfl | cases h
theorem pa_c {X : Cx} {e : Expr} {es : List Expr} {te : TE} {t : TA} (ha : PE X e te) (hr : PA X es t) (h : starless e = true := by rfl) : PA X (e :: es) (tCons te t) := pa_cons ha hr (star_plain h)
theorem pa3 {X : Cx} {e0 e1 e2 : Expr} {t0 t1 t2 : TE} (g0 : PE X e0 t0) (g1 : PE X e1 t1) (g2 : PE X e2 t2) (h : [e0, e1, e2].all starless = true := by rfl) : PA X [e0, e1, e2] (tCons t0 (tCons t1 (tCons t2 tNil))) :=
  (pa_cons g0 (pa_cons g1 (pa_cons g2 pa_nil (star_plain (List.all_eq_true.mp h e2 (by simp)))) (star_plain (List.all_eq_true.mp h e1 (by simp)))) (star_plain (List.all_eq_true.mp h e0 (by simp))))
theorem pa4 {X : Cx} {e0 e1 e2 e3 : Expr} {t0 t1 t2 t3 : TE} (g0 : PE X e0 t0) (g1 : PE X e1 t1) (g2 : PE X e2 t2) (g3 : PE X e3 t3) (h : [e0, e1, e2, e3].all starless = true := by rfl) : PA X [e0, e1, e2, e3] (tCons t0 (tCons t1 (tCons t2 (tCons t3 tNil)))) :=
  (pa_cons g0 (pa_cons g1 (pa_cons g2 (pa_cons g3 pa_nil (star_plain (List.all_eq_true.mp h e3 (by simp)))) (star_plain (List.all_eq_true.mp h e2 (by simp)))) (star_plain (List.all_eq_true.mp h e1 (by simp)))) (star_plain (List.all_eq_true.mp h e0 (by simp))))
theorem pa5 {X : Cx} {e0 e1 e2 e3 e4 : Expr} {t0 t1 t2 t3 t4 : TE} (g0 : PE X e0 t0) (g1 : PE X e1 t1) (g2 : PE X e2 t2) (g3 : PE X e3 t3) (g4 : PE X e4 t4) (h : [e0, e1, e2, e3, e4].all starless = true := by rfl) : PA X [e0, e1, e2, e3, e4] (tCons t0 (tCons t1 (tCons t2 (tCons t3 (tCons t4 tNil))))) :=
  (pa_cons g0 (pa_cons g1 (pa_cons g2 (pa_cons g3 (pa_cons g4 pa_nil (star_plain (List.all_eq_true.mp h e4 (by simp)))) (star_plain (List.all_eq_true.mp h e3 (by simp)))) (star_plain (List.all_eq_true.mp h e2 (by simp)))) (star_plain (List.all_eq_true.mp h e1 (by simp)))) (star_plain (List.all_eq_true.mp h e0 (by simp))))
theorem pa6 {X : Cx} {e0 e1 e2 e3 e4 e5 : Expr} {t0 t1 t2 t3 t4 t5 : TE} (g0 : PE X e0 t0) (g1 : PE X e1 t1) (g2 : PE X e2 t2) (g3 : PE X e3 t3) (g4 : PE X e4 t4) (g5 : PE X e5 t5) (h : [e0, e1, e2, e3, e4, e5].all starless = true := by rfl) : PA X [e0, e1, e2, e3, e4, e5] (tCons t0 (tCons t1 (tCons t2 (tCons t3 (tCons t4 (tCons t5 tNil)))))) :=
  (pa_cons g0 (pa_cons g1 (pa_cons g2 (pa_cons g3 (pa_cons g4 (pa_cons g5 pa_nil (star_plain (List.all_eq_true.mp h e5 (by simp)))) (star_plain (List.all_eq_true.mp h e4 (by simp)))) (star_plain (List.all_eq_true.mp h e3 (by simp)))) (star_plain (List.all_eq_true.mp h e2 (by simp)))) (star_plain (List.all_eq_true.mp h e1 (by simp)))) (star_plain (List.all_eq_true.mp h e0 (by simp))))
end L2
namespace Tw
open PySem PySem.Spec L2
end Tw
set_option Elab.async false
set_option linter.all false
set_option maxRecDepth 100000
set_option maxHeartbeats 8000000
namespace Tw
open PySem PySem.Spec L2
def top (i : Nat) : Stmt := PySem.Challenge.pw_twigmap_k64_patches.main.body.getD i (.Pass ⟨0, 0, 0, 0⟩)
abbrev sIsKey : Stmt := top 4
abbrev sFits : Stmt := top 5
abbrev sFew : Stmt := top 6
abbrev sSign : Stmt := top 7
abbrev sAhead : Stmt := top 8
abbrev sStanding : Stmt := top 9
abbrev sRise : Stmt := top 11
abbrev sPatchOk : Stmt := top 13
abbrev sIsChange : Stmt := top 14
abbrev sIsSide : Stmt := top 15
abbrev sWell : Stmt := top 17
abbrev sPull : Stmt := top 18
abbrev sGreat : Stmt := top 19
abbrev sText : Stmt := top 20
abbrev sKey : Stmt := top 21
abbrev sRank : Stmt := top 22
abbrev sKeys : Stmt := top 23
abbrev sAlike : Stmt := top 24
abbrev sRowsAlike : Stmt := top 25
abbrev sValue : Stmt := top 26
abbrev sBad : Stmt := top 27
abbrev sLKey : Stmt := top 28
abbrev sSides : Stmt := top 29
abbrev sRows : Stmt := top 30
abbrev sSpoilt : Stmt := top 31
abbrev sDue : Stmt := top 32
abbrev sCopy : Stmt := top 33
abbrev sHeld : Stmt := top 34
abbrev sLaw : Stmt := top 35

/-- what the module says of names -/
structure Txt (mg : Str → Option Value) : Prop where
  isi : mg "isinstance" = none
  bool : mg "bool" = none
  int : mg "int" = none
  str : mg "str" = none
  tuple : mg "tuple" = none
  list : mg "list" = none
  len : mg "len" = none
  all : mg "all" = none
  abs : mg "abs" = none
  max : mg "max" = none
  min : mg "min" = none
  range : mg "range" = none
  sorted : mg "sorted" = none
  signs : ∃ t, mg "MOST_SIGNS" = some (.int 40 t)
  things : ∃ t, mg "MOST_THINGS" = some (.int 4 t)
  deep : ∃ t, mg "MOST_DEEP" = some (.int 3 t)

section
variable {P : Program} {w : World} {K : PySem.W.Frag} {mg : Str → Option Value} {base : Heap} {f : Addr} {fd : FuncData}

/-! ### _law_pull -/
theorem scPull : FnScope ["_law_well_here", "_law_many", "_law_found", "_law_first", "_law_second"] ["_law_well_here", "_law_many"] (defScope sPull) := ⟨rfl, rfl, rfl, by decide +kernel, rfl, by decide +kernel, by decide +kernel⟩
theorem ok_pull (F : Fun K "_law_pull" "_law_pull" sPull f fd) : FnOk P w K mg base CX0 1 f fd ["_law_well_here", "_law_many"] spPull := by
  refine F.ok scPull (fun vs H Q E h => ?_) (fun cdv A outer s H vs Q E hr h => ?_)
  · obtain ⟨p, m, rfl, _⟩ := h
    rfl
  obtain ⟨p, m, rfl, W, ⟨hm, hlog⟩, k⟩ := h
  obtain ⟨a, b, c, d, hw, ha0, ha1, hc, hd⟩ := W.ex
  have nd := scPull.nd
  refine ⟨_, pss_cons (ps_if (pt_cmpR op_eq (pe_ix ix_list (pv 0) pe_int (fun _ _ => rfl)) pe_int (nomark _)) (pss_one (ps_ret pe_int)) pss_nil)
    (pss_cons (ps_asg (pe_op op_sub (pe_ix ix_list (pv 0) pe_int (fun _ _ => rfl)) pe_int) (pg_sub (pv 0) pe_int set_list))
    (pss_cons (ps_if (pt_cmpR op_gt (pe_ix ix_list (pv 0) pe_int (fun _ _ => rfl)) pe_int (nomark _))
      (pss_cons (ps_set (i := 2) nd rfl (Or.inl rfl) (pe_op op_mod (pe_ix ix_list (pv 0) pe_int (fun _ _ => rfl)) (pv 1)))
      (pss_cons (ps_asg (pe_op tw_fdiv (pe_ix ix_list (pv 0) pe_int (fun _ _ => rfl)) (pv 1)) (pg_sub (pv 0) pe_int set_list))
      (pss_one (ps_ret (pv 2))))) pss_nil)
    (pss_cons (ps_asg (pe_op op_add (pe_ix ix_list (pv 0) pe_int (fun _ _ => rfl)) pe_int) (pg_sub (pv 0) pe_int set_list))
    (pss_cons (ps_set (i := 3) nd rfl (Or.inl rfl) (pe_op op_mod (pe_op op_mul (pe_op op_add (pe_ix ix_list (pv 0) pe_int (fun _ _ => rfl)) pe_int) (pe_op op_add pe_int (pe_op op_mul pe_int (pe_ix ix_list (pv 0) pe_int (fun _ _ => rfl))))) pe_int))
    (pss_cons (ps_set (i := 4) nd rfl (Or.inl rfl) (pe_op op_mod (pe_op op_mul (pe_op op_add (pe_op op_fdiv (pv 3) pe_int) pe_int) (pe_op op_add (pe_op op_mod (pv 3) pe_int) pe_int)) pe_int))
    (pss_one (ps_ret (pe_op op_mod (pe_op op_fdiv (pv 4) pe_int) (pv 1))))))))), ?_⟩
  refine ⟨_, rfl, p, _, _, _, rfl, rfl, SqL.of hw, rfl, rfl, _, rfl, ?_⟩
  refine ite2 (fun _ => ?_) (fun c0 => ?_)
  · exact k 0 H (Int.le_refl 0) hm W (SameX.refl p H)
  have d0 : d ≠ 0 := fun e => c0 (decide_eq_true (by rw [e]))
  refine ⟨_, rfl, p, _, _, _, rfl, rfl, SqL.of hw, rfl, _, _, rfl, rfl, _, rfl, p, _, _, _, rfl, rfl, hw, rfl, ?_⟩
  refine ⟨_, rfl, p, _, _, _, rfl, rfl, SqL.of upd_same, rfl, _, _, rfl, rfl, _, rfl, ?_⟩
  refine ite2 (fun c1 => ?_) (fun c1 => ?_)
  · refine ⟨_, rfl, p, _, _, _, rfl, rfl, SqL.of upd_same, rfl, _, rfl, _, _, rfl, rfl, hm, ?_⟩
    refine ⟨_, rfl, p, _, _, _, rfl, rfl, SqL.of upd_same, rfl, _, rfl, _, _, rfl, rfl, ⟨hm, hlog⟩, _, rfl, p, _, _, _, rfl, rfl, upd_same, rfl, ?_⟩
    refine ⟨_, rfl, ?_⟩
    refine k (c % m) _ (Int.emod_nonneg _ (by omega)) (Int.emod_lt_of_pos _ hm) ⟨a, b, c / m, d - 1, upd_same, ha0, ha1, Int.ediv_nonneg hc (by omega), by omega⟩ (SameX.refl p H).upd.upd
  · refine ⟨_, rfl, p, _, _, _, rfl, rfl, SqL.of upd_same, rfl, _, _, rfl, rfl, _, rfl, p, _, _, _, rfl, rfl, upd_same, rfl, ?_⟩
    refine ⟨_, rfl, p, _, _, _, rfl, rfl, SqL.of upd_same, rfl, _, _, rfl, rfl, _, rfl, p, _, _, _, rfl, rfl, SqL.of upd_same, rfl, _, _, rfl, rfl, .inl ⟨by decide, by decide⟩, _, _, rfl, rfl, _, _, rfl, rfl, .inl ⟨by omega, by omega⟩, _, _, rfl, rfl, (by show (0 : Int) < 2147483629; decide), ?_⟩
    generalize hx : (a + 1) * (48271 + 7919 * (b + 1)) % 2147483629 = x
    have x0 : 0 ≤ x := by rw [← hx]; exact Int.emod_nonneg _ (by decide)
    have x1 : x < 2147483629 := by rw [← hx]; exact Int.emod_lt_of_pos _ (by decide)
    refine ⟨_, rfl, _, _, rfl, rfl, ⟨by decide, by decide⟩, _, _, rfl, rfl, _, rfl, _, _, rfl, rfl, (by show (0 : Int) < 1009; decide), _, _, rfl, rfl, _, _, rfl, rfl, .inl ⟨by omega, by omega⟩, _, _, rfl, rfl, (by show (0 : Int) < 1000000007; decide), ?_⟩
    refine ⟨_, rfl, _, _, rfl, rfl, ⟨by decide, by decide⟩, _, rfl, _, _, rfl, rfl, hm, ?_⟩
    exact k _ _ (Int.emod_nonneg _ (by omega)) (Int.emod_lt_of_pos _ hm) ⟨a, b + 1, c, d - 1, upd_same, ha0, ha1, hc, by omega⟩ (SameX.refl p H).upd.upd

/-! ### _law_great -/
theorem scGreat : FnScope ["_law_well_here", "_law_bound", "_law_found", "_law_j"] ["_law_well_here", "_law_bound"] (defScope sGreat) := ⟨rfl, rfl, rfl, by decide +kernel, rfl, by decide +kernel, by decide +kernel⟩
theorem ok_great (F : Fun K "_law_great" "_law_great" sGreat f fd) (T : Txt mg) (DP : DefOk P w K mg base 1 "_law_pull" ["_law_well_here", "_law_many"] spPull) : FnOk P w K mg base CX0 2 f fd ["_law_well_here", "_law_bound"] spPull := by
  refine F.ok scGreat (fun vs H Q E h => ?_) (fun cdv A outer s H vs Q E hr h => ?_)
  · obtain ⟨p, m, rfl, _⟩ := h
    rfl
  obtain ⟨p, m, rfl, W, hm, k⟩ := h
  obtain ⟨a, b, c, d, hw, _⟩ := W.ex
  have nd := scGreat.nd
  refine ⟨_, pss_cons (ps_if (pt_cmpR op_gt (pe_ix ix_list (pv 0) pe_int (fun _ _ => rfl)) pe_int (nomark _)) (pss_one (ps_ret (pe_def DP hr (pa_cons (pv 0) (pa_cons (pv 1) pa_nil))))) pss_nil)
    (pss_cons (ps_set (i := 2) nd rfl (Or.inl rfl) pe_int)
    (pss_cons (ps_for PassesOwn.never rfl (pi_range1 rfl T.range (pa_cons pe_int pa_nil)) (pg_name (i := 3) nd rfl (Or.inl rfl))
      (pss_one (ps_set (i := 2) nd rfl (Or.inl rfl) (pe_op op_add (pe_op op_mul (pv 2) pe_int) (pe_def DP hr (pa_cons (pv 0) (pa_cons pe_int pa_nil)))))))
    (pss_one (ps_ret (pe_op op_mod (pv 2) (pv 1)))))), ?_⟩
  refine ⟨_, rfl, p, _, _, _, rfl, rfl, SqL.of hw, rfl, _, _, rfl, rfl, _, rfl, ?_⟩
  refine ite2 (fun _ => ?_) (fun _ => ?_)
  · exact ⟨_, rfl, _, rfl, p, m, rfl, W, hm, k⟩
  refine ⟨8, rfl, by decide, by decide, for_range (n := 8) (fun i σ H2 => ∃ (z : Int) (j : Option V), σ = [some (.ref p), some (.int m), some (.int z), j] ∧ WellAt H2 p ∧ SameX p H H2) ⟨0, none, rfl, W, SameX.refl p H⟩ ?_ ?_⟩
  · rintro i σ H2 hi ⟨z, j, rfl, W2, s2⟩
    refine ⟨_, rfl, _, _, rfl, rfl, .inr ⟨by decide, by decide⟩, _, rfl, p, 62500000, rfl, W2, small_lit (by decide) (by decide), fun r H3 _ _ W3 s3 => ?_⟩
    exact ⟨_, _, rfl, rfl, _, _, rfl, W3, s2.trans s3⟩
  · rintro σ H2 ⟨z, j, rfl, W2, s2⟩
    refine ⟨_, rfl, _, rfl, _, _, rfl, rfl, hm.1, ?_⟩
    exact k _ _ (Int.emod_nonneg _ (by have := hm.1; omega)) (Int.emod_lt_of_pos _ hm.1) W2 s2
end
def signsS : Str := " \"\\~!#$&'()*+,-./0123456789:;<=>?@ABCDEFGHIJKLMNOPQRSTUVWXYZ[]^_`abcdefghijklmnopqrstuvwxyz{|}"
theorem signs_len : signsS.cps.toList.length = 94 := by decide +kernel
theorem signs_size : signsS.length = 94 := by decide +kernel
theorem signs_ok : signsS.cps.toList.all signOk = true := by decide +kernel
theorem sign_at {i : Int} (h0 : 0 ≤ i) (h1 : i < 94) : ∃ c, atI signsS.cps.toList i = some c ∧ signOk c = true := by
  obtain ⟨c, e, m⟩ := atI_in (xs := signsS.cps.toList) h0 (by rw [signs_len]; exact h1)
  exact ⟨c, e, List.all_eq_true.mp signs_ok c m⟩
/-- a text of at most i signs, all of them right -/
def TextN (x : Str) (i : Nat) : Prop := x.cps.size ≤ i ∧ x.cps.toList.all signOk = true
theorem TextN.ok {x : Str} {i : Nat} (h : TextN x i) (hi : i ≤ 40) : textOk x = true := by
  unfold textOk
  rw [Bool.and_eq_true]
  exact ⟨decide_eq_true (Nat.le_trans h.1 hi), h.2⟩
theorem TextN.more {x : Str} {i c : Nat} (h : TextN x i) (hc : signOk c = true) : TextN (x ++ (⟨#[c]⟩ : Str)) (i + 1) := by
  have e : (x ++ (⟨#[c]⟩ : Str)).cps = x.cps ++ #[c] := rfl
  refine ⟨?_, ?_⟩
  · rw [e, Array.size_append]; exact Nat.succ_le_succ h.1
  · rw [e, Array.toList_append, List.all_append, h.2]; simp [hc]

section
variable {P : Program} {w : World} {K : PySem.W.Frag} {mg : Str → Option Value} {base : Heap} {f : Addr} {fd : FuncData}
/-! ### _law_text -/
abbrev nText : List Str := ["_law_well_here", "_law_signs", "_law_text_here", "_law_few", "_law_j", "_law_sign"]
theorem scText : FnScope nText ["_law_well_here"] (defScope sText) := ⟨rfl, rfl, rfl, by decide +kernel, rfl, by decide +kernel, by decide +kernel⟩
theorem ok_text (F : Fun K "_law_text" "_law_text" sText f fd) (T : Txt mg) (DP : DefOk P w K mg base 1 "_law_pull" ["_law_well_here", "_law_many"] spPull) : FnOk P w K mg base CX0 2 f fd ["_law_well_here"] spText := by
  refine F.ok scText (fun vs H Q E h => ?_) (fun cdv A outer s H vs Q E hr h => ?_)
  · obtain ⟨p, rfl, _⟩ := h
    rfl
  obtain ⟨p, rfl, W, k⟩ := h
  have nd := scText.nd
  refine ⟨_, pss_cons (ps_set (i := 1) nd rfl (Or.inl rfl) pe_str) (pss_cons (ps_set (i := 2) nd rfl (Or.inl rfl) pe_str)
    (pss_cons (ps_set (i := 3) nd rfl (Or.inl rfl) (pe_def DP hr (pa_cons (pv 0) (pa_cons pe_int pa_nil))))
    (pss_cons (ps_for PassesOwn.never rfl (pi_range1 rfl T.range (pa_cons (pe_def DP hr (pa_cons (pv 0) (pa_cons (pe_ix ix_list (pe_lst (pa_cons pe_int (pa_cons pe_int pa_nil))) (pe_def DP hr (pa_cons (pv 0) (pa_cons pe_int pa_nil))) (fun _ _ => rfl)) pa_nil))) pa_nil)) (pg_name (i := 4) nd rfl (Or.inl rfl))
      (pss_cons (ps_set (i := 5) nd rfl (Or.inl rfl) pe_str)
      (pss_cons (ps_if (pw_or (pt_cmpR op_gt (pv 3) pe_int (nomark _)) (pw_or1 (pt_cmpR op_eq (pe_def DP hr (pa_cons (pv 0) (pa_cons pe_int pa_nil))) pe_int (nomark _)))).pt
        (pss_one (ps_set (i := 5) nd rfl (Or.inl rfl) (pe_ix ix_str (pv 1) (pe_def DP hr (pa_cons (pv 0) (pa_cons (pe_ix ix_list (pe_lst (pa_cons pe_int (pa_cons pe_int pa_nil))) (pe_op op_fdiv (pv 3) pe_int) (fun _ _ => rfl)) pa_nil))) (fun _ _ => rfl)))) pss_nil)
      (pss_one (ps_set (i := 2) nd rfl (Or.inl rfl) (pe_op op_add_str (pv 2) (pv 5)))))))
    (pss_one (ps_ret (pv 2)))))), ?_⟩
  refine ⟨_, rfl, p, 3, rfl, W, small_lit (by decide) (by decide), fun pl H1 pl0 pl1 W1 s1 => ?_⟩
  refine ⟨_, rfl, (by show 2 ≤ sizeLine; decide), fun l hl => ?_⟩
  have W1' : WellAt (upd H1 l (.lst [.int 4, .int 41])) p := W1.same (same_new hl _)
  refine ⟨_, rfl, p, 2, rfl, W1', small_lit (by decide) (by decide), fun r H2 r0 r1 W2 s2 => ?_⟩
  have npl : l ≠ p := by
    obtain ⟨xs, e⟩ := W1.some
    exact (ne_of_none e hl).symm
  have hl2 : H2 l = some (.lst [.int 4, .int 41]) := s2 l _ upd_same npl
  obtain ⟨v, hv, hv'⟩ := at2 (x := V.int 4) (y := V.int 41) r0 r1
  have hb : ∃ z : Int, v = .int z ∧ 0 < z ∧ z ≤ 41 := by
    rcases hv' with e | e
    · exact ⟨4, e, by decide, by decide⟩
    · exact ⟨41, e, by decide, by decide⟩
  obtain ⟨z, rfl, z0, z1⟩ := hb
  refine ⟨l, _, _, _, rfl, rfl, SqL.of hl2, hv, p, z, rfl, W2, small_lit z0 (by omega), fun n H3 n0 n1 W3 s3 => ?_⟩
  have sA : SameX p H H3 := (s1.trans (SameX.of (same_new hl _))).trans (s2.trans s3)
  refine ⟨n, rfl, by omega, by omega, for_range (n := n.toNat) (fun i σ H4 => ∃ (x : Str) (j g : Option V), σ = [some (.ref p), some (.str signsS), some (.str x), some (.int pl), j, g] ∧ TextN x i ∧ WellAt H4 p ∧ SameX p H H4)
    ⟨"", none, none, rfl, ⟨by decide, by decide⟩, W3, sA⟩ ?_ ?_⟩
  · rintro i σ H4 hi ⟨x, j, g, rfl, hx, W4, s4⟩
    have fin : ∀ (c : Nat) (H5 : Hp), signOk c = true → WellAt H5 p → SameX p H H5 → ∃ (y : Str) (j g : Option V), [some (V.ref p), some (.str signsS), some (.str (x ++ (⟨#[c]⟩ : Str))), some (.int pl), some (.int (0 + (i : Int))), some (.str ⟨#[c]⟩)] = [some (.ref p), some (.str signsS), some (.str y), some (.int pl), j, g] ∧ TextN y (i + 1) ∧ WellAt H5 p ∧ SameX p H H5 :=
      fun c H5 hc W5 s5 => ⟨_, _, _, rfl, hx.more hc, W5, s5⟩
    have hlen : ∀ c : Nat, x.length + (⟨#[c]⟩ : Str).length ≤ sizeLine := fun c => by
      have h1 : x.length ≤ i := hx.1
      have h2 : (⟨#[c]⟩ : Str).length = 1 := rfl
      rw [h2]
      exact nn (by omega)
    have yes : ∀ H5, WellAt H5 p → SameX p H H5 → ∃ (v : Int), 0 < v ∧ v ≤ 94 ∧ atI [V.int 94, V.int 5] (pl / 2) = some (.int v) := fun H5 _ _ => by
      obtain ⟨v, e, h⟩ := at2 (x := V.int 94) (y := V.int 5) (i := pl / 2) (by omega) (by omega)
      rcases h with rfl | rfl
      · exact ⟨94, by decide, by decide, e⟩
      · exact ⟨5, by decide, by decide, e⟩
    refine ⟨_, rfl, _, _, rfl, rfl, _, rfl, ?_⟩
    refine ite2 (fun _ => ?_) (fun _ => ?_)
    · refine iteT ?_
      refine ⟨_, rfl, _, rfl, (by show 2 ≤ sizeLine; decide), fun l2 hl2 => ?_⟩
      obtain ⟨v, v0, v1, ev⟩ := yes H4 W4 s4
      refine ⟨_, rfl, _, _, rfl, rfl, ⟨by decide, by decide⟩, l2, _, _, _, rfl, rfl, SqL.of upd_same, ev, p, v, rfl, W4.same (same_new hl2 _), small_lit v0 (by omega), fun u H5 u0 u1 W5 s5 => ?_⟩
      obtain ⟨c, ec, hc⟩ := sign_at u0 (by omega)
      refine ⟨signsS, _, c, rfl, rfl, (by rw [signs_size]; exact nn (by decide)), ec, ?_⟩
      exact ⟨_, rfl, _, rfl, _, _, rfl, rfl, hlen c, fin c H5 hc W5 ((s4.trans (SameX.of (same_new hl2 _))).trans s5)⟩
    · refine ⟨_, rfl, p, 8, rfl, W4, small_lit (by decide) (by decide), fun y H6 _ _ W6 s6 => ⟨rfl, _, rfl, ?_⟩⟩
      refine ite2 (fun _ => ?_) (fun _ => ?_)
      · refine ⟨_, rfl, _, rfl, (by show 2 ≤ sizeLine; decide), fun l2 hl2 => ?_⟩
        obtain ⟨v, v0, v1, ev⟩ := yes H6 W6 (s4.trans s6)
        refine ⟨_, rfl, _, _, rfl, rfl, ⟨by decide, by decide⟩, l2, _, _, _, rfl, rfl, SqL.of upd_same, ev, p, v, rfl, W6.same (same_new hl2 _), small_lit v0 (by omega), fun u H5 u0 u1 W5 s5 => ?_⟩
        obtain ⟨c, ec, hc⟩ := sign_at u0 (by omega)
        refine ⟨signsS, _, c, rfl, rfl, (by rw [signs_size]; exact nn (by decide)), ec, ?_⟩
        exact ⟨_, rfl, _, rfl, _, _, rfl, rfl, hlen c, fin c H5 hc W5 (((s4.trans s6).trans (SameX.of (same_new hl2 _))).trans s5)⟩
      · exact ⟨_, rfl, _, rfl, _, _, rfl, rfl, hlen 97, fin 97 H6 (by decide) W6 (s4.trans s6)⟩
  · rintro σ H4 ⟨x, j, g, rfl, hx, W4, s4⟩
    exact ⟨_, rfl, k x H4 (hx.ok (by omega)) W4 s4⟩

/-! ### _law_key -/
theorem scKey : FnScope ["_law_well_here", "_law_room", "_law_way"] ["_law_well_here", "_law_room"] (defScope sKey) := ⟨rfl, rfl, rfl, by decide +kernel, rfl, by decide +kernel, by decide +kernel⟩
theorem key_none {k : Nat} : FnOk P w K mg base CX0 k f fd ["_law_well_here", "_law_room"] (spKey 0) := by
  have no : ∀ vs H Q E, ¬ spKey 0 vs H Q E := fun vs H Q E h => by
    obtain ⟨p, r, _, _, h1, _⟩ := h
    omega
  exact ⟨fun vs H Q E h => absurd h (no vs H Q E), fun A outer s H args us vs Q E _ _ _ _ h => absurd h (no vs H Q E)⟩
theorem ok_key {n : Nat} (F : Fun K "_law_key" "_law_key" sKey f fd) (T : Txt mg) (DP : DefOk P w K mg base 1 "_law_pull" ["_law_well_here", "_law_many"] spPull) (DG : DefOk P w K mg base 2 "_law_great" ["_law_well_here", "_law_bound"] spPull)
    (DT : DefOk P w K mg base 2 "_law_text" ["_law_well_here"] spText) (DK : DefOk P w K mg base (n + 2) "_law_key" ["_law_well_here", "_law_room"] (spKey n)) : FnOk P w K mg base CX0 (n + 3) f fd ["_law_well_here", "_law_room"] (spKey (n + 1)) := by
  refine F.ok scKey (fun vs H Q E h => ?_) (fun cdv A outer s H vs Q E hr h => ?_)
  · obtain ⟨p, r, rfl, _⟩ := h
    rfl
  obtain ⟨p, r, rfl, W, hn, k⟩ := h
  have nd := scKey.nd
  have hr1 := hr.mono (show 1 ≤ n + 2 by omega)
  have hr2 := hr.mono (show 2 ≤ n + 2 by omega)
  refine ⟨_, pss_cons (ps_set (i := 2) nd rfl (Or.inl rfl) (pe_def DP hr1 (pa_cons (pv 0) (pa_cons pe_int pa_nil))))
    (pss_cons (ps_if (pt_cmpR op_lt (pv 2) pe_int (nomark _)) (pss_one (ps_ret (pe_op op_sub (pe_def DP hr1 (pa_cons (pv 0) (pa_cons pe_int pa_nil))) pe_int))) pss_nil)
    (pss_cons (ps_if (pt_cmpR op_eq (pv 2) pe_int (nomark _)) (pss_one (ps_ret (pe_op op_add (pe_op op_sub (pe_def DG hr2 (pa_cons (pv 0) (pa_cons (pe_op op_sub (pe_op op_mul pe_int (pe_op op_pow pe_int pe_int)) pe_int) pa_nil))) (pe_op op_pow pe_int pe_int)) pe_int))) pss_nil)
    (pss_cons (ps_if (pw_or (pt_cmpR op_lt (pv 2) pe_int (nomark _)) (pw_or1 (pt_cmpR op_eq (pv 1) pe_int (nomark _)))).pt (pss_one (ps_ret (pe_def DT hr2 (pa_cons (pv 0) pa_nil)))) pss_nil)
    (pss_one (ps_ret (pe_callTy call_tuple_of rfl T.tuple tb_tuple (pa_cons (pe_comp [0, 1] ["_law_well_here", "_law_room"] rfl (pi_range1 rfl T.range (pa_cons (pe_def DP hr1 (pa_cons (pv 0) (pa_cons pe_int pa_nil))) pa_nil)) (fun _ _ _ _ _ => pts_nil)
      (fun _ _ _ _ _ => pe_def DK hr (pa_cons (pv 1) (pa_cons (pe_op op_sub (pv 2) pe_int) pa_nil))) ⟨rfl, .inl rfl, rfl, rfl, .inl rfl, rfl, trivial⟩) pa_nil))))))), ?_⟩
  refine ⟨_, rfl, p, 8, rfl, W, small_lit (by decide) (by decide), fun y H1 y0 y1 W1 s1 => ?_⟩
  refine ⟨_, rfl, _, _, rfl, rfl, _, rfl, ?_⟩
  refine ite2 (fun _ => ?_) (fun c1 => ?_)
  · refine ⟨_, rfl, p, 41, rfl, W1, small_lit (by decide) (by decide), fun u H2 u0 u1 W2 s2 => ⟨_, _, rfl, rfl, ?_⟩⟩
    refine k (.int (u - 20)) (.int (u - 20)) H2 (KeyAt.int _) ?_ W2 (s1.trans s2)
    rw [KT.fits]
    have e : (10 : Nat) ^ 60 > 1000 := by decide
    exact decide_eq_true (by omega)
  refine ⟨_, rfl, rfl, _, rfl, ?_⟩
  refine ite2 (fun _ => ?_) (fun c2 => ?_)
  · refine ⟨_, rfl, _, _, rfl, rfl, ⟨by decide, by decide, by decide⟩, _, _, rfl, rfl, .inl ⟨by decide, by decide⟩, _, _, rfl, rfl, p, _, rfl, W1, small_lit (by decide +kernel) (by decide +kernel), fun u H2 u0 u1 W2 s2 => ?_⟩
    refine ⟨_, _, rfl, rfl, ⟨by decide, by decide, by decide⟩, _, _, rfl, rfl, _, _, rfl, rfl, ?_⟩
    refine k _ (.int _) H2 (KeyAt.int _) ?_ W2 (s1.trans s2)
    have e : ((10 : Int) ^ (60 : Int).toNat) = ((10 ^ 60 : Nat) : Int) := by decide +kernel
    rw [e] at u1
    rw [KT.fits, e]
    generalize (10 ^ 60 : Nat) = N at *
    exact decide_eq_true (by omega)
  have txt : spText ([.ref p] ++ []) H1 Q E0 := ⟨p, rfl, W1, fun x H2 hx W2 s2 => k (.str x) (.str x) H2 (KeyAt.str x) (by rw [KT.fits]; exact hx) W2 (s1.trans s2)⟩
  refine ⟨_, rfl, _, _, rfl, rfl, _, rfl, ?_⟩
  refine ite2 (fun _ => ?_) (fun _ => ?_)
  · exact iteT ⟨_, rfl, txt⟩
  refine ⟨_, rfl, rfl, _, rfl, ?_⟩
  refine ite2 (fun _ => ?_) (fun c3 => ?_)
  · exact ⟨_, rfl, txt⟩
  have r0 : r ≠ 0 := fun e => c3 (decide_eq_true (by rw [e]; rfl))
  refine ⟨_, rfl, p, 5, rfl, W1, small_lit (by decide) (by decide), fun u H2 u0 u1 W2 s2 => ⟨u, rfl, by omega, by omega, ?_⟩⟩
  have sB : SameX p H H2 := s1.trans s2
  refine comp_map (n := u.toNat) (fun i x => x = .int (0 + (i : Int))) (fun D i ys H3 => WellAt H3 p ∧ SameX p H H3 ∧ D ≠ p ∧ H D = none ∧ ∃ ts, KeysAt H3 ts ys ∧ ts.length = i ∧ fitsL ts (r - 1) = true) (small1000 (by omega))
    (fun D i ys H3 hi _ => hi) (fun D i ys H3 x H4 hi _ hy => hy) (fun D ys H3 _ => Nat.le_refl _) (fun D hD => ?_) (fun D i ys H3 x eD hl hi hx hP R hR => ?_) (fun D ys H3 eD hP => ?_)
  · have nD : D ≠ p := by
      obtain ⟨xs, e⟩ := W2.some
      exact (ne_of_none e hD).symm
    have nH : H D = none := by
      cases e : H D with
      | none => rfl
      | some o => rw [sB D o e nD] at hD; cases hD
    exact ⟨W2.same (same_new hD _), sB.trans (SameX.of (same_new hD _)), nD, nH, [], .nil, rfl, by rw [fitsL]⟩
  · obtain ⟨W3, s3, nD, nH, ts, hk, hlen, hf⟩ := hP
    have er : (r : Int) - 1 = ((r - 1 : Nat) : Int) := by omega
    refine ⟨_, rfl, _, rfl, _, _, rfl, rfl, p, r - 1, congrArg (fun z => [V.ref p, V.int z]) er, W3, by omega, fun v t H4 hv ht W4 s4 => ?_⟩
    have eD4 := s4 D _ eD nD
    have sD : SameX D H4 (upd H4 D (.lst (ys ++ [v]))) := (SameX.refl D H4).upd
    have tD : Tups H4 (upd H4 D (.lst (ys ++ [v]))) := sD.tups eD4
    refine hR v H4 eD4 ⟨W4.stay sD nD.symm, fun b o e n => ?_, nD, nH, ts ++ [t], ((KeysAt.mono (s4.tupsW W3) _ _ hk).append (.cons hv .nil)).mono tD _ _, by simp [hlen], ?_⟩
    · rw [upd_ne (ne_of_none e nH)]
      exact (s3.trans s4) b o e n
    · rw [fitsL_all] at hf ⊢
      rw [List.all_append, hf]
      simp [ht]
  · obtain ⟨W3, s3, nD, nH, ts, hk, hlen, hf⟩ := hP
    refine ⟨D, ys, rfl, .inl ⟨SqL.of eD, fun l hl => ?_⟩⟩
    have sl := same_new hl (.tup ys)
    refine k (.ref l) (.tup ts) _ (.tup upd_same (hk.mono (Same.tups sl) _ _)) ?_ (W3.same sl) (s3.trans (SameX.of sl))
    rw [KT.fits, hf, Bool.and_true, Bool.and_eq_true]
    exact ⟨decide_eq_true (by omega), decide_eq_true (by omega)⟩
end
section
variable {P : Program} {w : World} {K : PySem.W.Frag} {mg : Str → Option Value} {base : Heap} {f : Addr} {fd : FuncData}
/-! ### _law_well -/
abbrev nWell : List Str := ["_law_script", "_law_k", "_law_left", "_law_cell", "_law_digits"]
theorem scWell : FnScope nWell ["_law_script", "_law_k"] (defScope sWell) := ⟨rfl, rfl, rfl, by decide +kernel, rfl, by decide +kernel, by decide +kernel⟩
theorem ok_well (F : Fun K "_law_well" "_law_well" sWell f fd) (T : Txt mg) : FnOk P w K mg base CX0 1 f fd ["_law_script", "_law_k"] (spWell K) := by
  refine F.ok scWell (fun vs H Q E h => ?_) (fun cdv A outer s H vs Q E hr h => ?_)
  · obtain ⟨a, ns, k, rfl, _⟩ := h
    rfl
  obtain ⟨a, ns, k, rfl, hS, hn, k0, k1, q⟩ := h
  have nd := scWell.nd
  refine ⟨_, pss_cons (ps_set (i := 2) nd rfl (Or.inl rfl) (pe_ix ix_list (pe_lst (pa_cons pe_int (pa_cons pe_int pa_nil))) (pe_callTy call_int1 rfl T.int tb_int (pa_cons (pe_cmpR op_eq (pv 1) pe_int (nomark _)) pa_nil)) (fun _ _ => rfl)))
    (pss_cons (ps_set (i := 3) nd rfl (Or.inl rfl) (pe_ix ix_list (pe_op op_cat (pe_callTy call_list_of rfl T.list tb_list (pa_cons (pv 0) pa_nil)) (pe_lst (pa_cons pe_int pa_nil))) (pe_op op_mod (pv 1) (pe_callB (call_max2 rfl) rfl T.max tb_max (pa_cons pe_int (pa_cons (pe_callB call_len_seq rfl T.len tb_len (pa_cons (pv 0) pa_nil)) pa_nil)))) (fun _ _ => rfl)))
    (pss_cons (ps_set (i := 4) nd rfl (Or.inl rfl) (pe_op op_mul (pe_callB call_abs rfl T.abs tb_abs (pa_cons (pv 3) pa_nil)) (pe_callTy call_int1 rfl T.int tb_int (pa_cons (pe_and (pe_cmpR op_ge (pe_callB call_abs rfl T.abs tb_abs (pa_cons (pv 3) pa_nil)) (pe_op op_pow pe_int pe_int) (nomark _)) (pe_one (pe_cmpR op_lt (pv 1) (pe_callB call_len_seq rfl T.len tb_len (pa_cons (pv 0) pa_nil)) (nomark _)))) pa_nil))))
    (pss_one (ps_ret (pe_lst (pa_cons (pe_op op_mod (pv 3) pe_int) (pa_cons (pe_op op_mul pe_int (pv 1)) (pa_cons (pv 4) (pa_cons (pv 2) pa_nil))))))))), ?_⟩
  refine ⟨(by show 2 ≤ sizeLine; decide), fun l1 hl1 => ?_⟩
  have g1 := same_new hl1 (.lst [V.int 240, V.int 2400])
  refine ⟨_, rfl, rfl, .inr ⟨_, rfl, ?_⟩⟩
  obtain ⟨lv, elv, hlv⟩ : ∃ z : Int, atI [V.int 240, V.int 2400] (if decide (V.int k = V.int 0) = true then 1 else 0) = some (.int z) ∧ 0 ≤ z := by
    split
    · exact ⟨2400, rfl, by decide⟩
    · exact ⟨240, rfl, by decide⟩
  refine ⟨l1, _, _, _, rfl, rfl, SqL.of upd_same, elv, ?_⟩
  refine ⟨_, rfl, a, _, rfl, .inl (g1.seq hS), fun l2 hl2 => ?_⟩
  have g2 := g1.trans (same_new hl2 (.lst (ns.map V.int)))
  refine ⟨(by show 1 ≤ sizeLine; decide), fun l3 hl3 => ?_⟩
  have g3 := g2.trans (same_new hl3 (.lst [V.int 0]))
  have n23 : l2 ≠ l3 := ne_of_none upd_same hl3
  refine ⟨l2, l3, _, _, rfl, rfl, (by rw [upd_ne n23]; exact upd_same), upd_same, (by rw [List.length_map]; exact nn (by show ns.length + 1 ≤ 1000; omega)), fun l4 hl4 => ?_⟩
  have g4 := g3.trans (same_new hl4 (.lst (ns.map V.int ++ [V.int 0])))
  refine ⟨_, rfl, _, rfl, a, _, rfl, .inl (g4.seq hS), _, _, rfl, ?_⟩
  have hlm : (ns.map V.int).length = ns.length := List.length_map _
  generalize hM : (if (((ns.map V.int).length : Nat) : Int) > 1 then (((ns.map V.int).length : Nat) : Int) else 1) = M
  have M1 : 1 ≤ M ∧ M ≤ (ns.length : Int) + 1 := by
    rw [hlm] at hM
    rw [← hM]
    split <;> omega
  refine ⟨_, _, rfl, rfl, by omega, ?_⟩
  have i0 : 0 ≤ k % M := Int.emod_nonneg _ (by omega)
  have i1 : k % M < M := Int.emod_lt_of_pos _ (by omega)
  obtain ⟨cv, ecv, mcv⟩ := atI_in (xs := ns.map V.int ++ [V.int 0]) i0 (by rw [List.length_append, List.length_map, List.length_singleton]; omega)
  obtain ⟨cell, rfl⟩ : ∃ z : Int, cv = .int z := by
    rcases List.mem_append.mp mcv with m | m
    · obtain ⟨z, _, e⟩ := List.mem_map.mp m
      exact ⟨z, e.symm⟩
    · exact ⟨0, List.mem_singleton.mp m⟩
  refine ⟨l4, _, _, _, rfl, rfl, SqL.of upd_same, ecv, ?_⟩
  -- digits
  have dig : ∀ b : Bool, 0 ≤ (if cell < 0 then -cell else cell) * (if b = true then 1 else 0) := fun b => by
    cases b
    · simp
    · simp; split <;> omega
  have cm : ∀ (x : Int) (b : Bool), CMul x (if b = true then 1 else 0) := fun x b => .inr (by cases b <;> exact ⟨by decide, by decide⟩)
  have done : ∀ (z : Int) (H5 : Hp), 0 ≤ z → Same H H5 → ∀ l5, H5 l5 = none → Q (.ref l5) (upd H5 l5 (.lst [.int (cell % 2147483647), .int (1000 * k), .int z, .int lv])) := fun z H5 z0 s5 l5 hl5 =>
    q l5 _ (s5.free hl5) (s5.trans (same_new hl5 _)) ⟨_, _, _, _, upd_same, Int.emod_nonneg _ (by decide), Int.emod_lt_of_pos _ (by decide), z0, hlv⟩
  refine ⟨_, rfl, _, rfl, _, rfl, _, rfl, _, _, rfl, rfl, ⟨by decide, by decide, by decide⟩, _, _, rfl, rfl, _, rfl, ?_⟩
  refine ite2 (fun _ => ?_) (fun _ => ?_)
  · refine ⟨_, rfl, _, rfl, a, _, rfl, .inl (g4.seq hS), _, _, rfl, rfl, .inr ⟨_, rfl, _, _, rfl, rfl, cm _ _, ?_⟩⟩
    refine ⟨_, rfl, _, _, rfl, rfl, (by show (0 : Int) < 2147483647; decide), _, rfl, _, _, rfl, rfl, .inl ⟨by decide, by decide⟩, _, rfl, _, rfl, (by show 4 ≤ sizeLine; decide), fun l5 hl5 => ?_⟩
    exact done _ _ (dig _) g4 l5 hl5
  · refine .inr ⟨_, rfl, _, _, rfl, rfl, cm _ false, ?_⟩
    refine ⟨_, rfl, _, _, rfl, rfl, (by show (0 : Int) < 2147483647; decide), _, rfl, _, _, rfl, rfl, .inl ⟨by decide, by decide⟩, _, rfl, _, rfl, (by show 4 ≤ sizeLine; decide), fun l5 hl5 => ?_⟩
    exact done _ _ (dig false) g4 l5 hl5

/-! ### has_few_figures, is_sign -/
theorem scFew : FnScope ["number"] ["number"] (defScope sFew) := ⟨rfl, rfl, rfl, by decide +kernel, rfl, by decide +kernel, by decide +kernel⟩
theorem ok_few (F : Fun K "has_few_figures" "has_few_figures" sFew f fd) (T : Txt mg) : FnOk P w K mg base CX0 1 f fd ["number"] spFew := by
  refine F.ok scFew (fun vs H Q E h => ?_) (fun cdv A outer s H vs Q E hr h => ?_)
  · obtain ⟨i, rfl, _⟩ := h
    rfl
  obtain ⟨i, rfl, q⟩ := h
  refine ⟨_, pss_one (ps_ret (pe_cmpR op_lt (pe_callB call_abs rfl T.abs tb_abs (pa_cons (pv 0) pa_nil)) (pe_op op_pow pe_int pe_int) (nomark _))), ?_⟩
  refine ⟨_, rfl, _, rfl, _, _, rfl, rfl, ⟨by decide, by decide, by decide⟩, _, _, rfl, rfl, ?_⟩
  have e := few_eq i
  rw [← e] at q
  exact q
theorem scSign : FnScope ["sign"] ["sign"] (defScope sSign) := ⟨rfl, rfl, rfl, by decide +kernel, rfl, by decide +kernel, by decide +kernel⟩
theorem ok_sign (F : Fun K "is_sign" "is_sign" sSign f fd) : FnOk P w K mg base CX0 1 f fd ["sign"] spSign := by
  refine F.ok scSign (fun vs H Q E h => ?_) (fun cdv A outer s H vs Q E hr h => ?_)
  · obtain ⟨c, rfl, _⟩ := h
    rfl
  obtain ⟨c, rfl, q⟩ := h
  refine ⟨_, pss_one (ps_ret (pe_chain tw_le_str tw_le_str pe_str (pv 0) pe_str)), ?_⟩
  have e1 : (Str.ofString " ").cps.toList = [32] := by decide +kernel
  have e2 : (Str.ofString "~").cps.toList = [126] := by decide +kernel
  have e := signs_le c
  refine ⟨_, rfl, _, _, rfl, rfl, _, rfl, ?_⟩
  refine ite2 (fun h1 => ?_) (fun h1 => ?_)
  · refine ⟨_, _, rfl, rfl, ?_⟩
    have h1' : (!decide ([c] < [32])) = true := by rw [← e1]; exact h1
    rw [h1', Bool.true_and] at e
    rw [← e, ← e2] at q
    exact q
  · have h1' : (!decide ([c] < [32])) = false := by rw [← e1]; exact Bool.eq_false_iff.mpr h1
    rw [h1', Bool.false_and] at e
    rw [← e] at q
    exact q

end
/-- a def as the top has laid it -/
structure Laid (K : PySem.W.Frag) (mg : Str → Option Value) (x : Str) (st : Stmt) (ps : List Str) : Prop where
  ex : ∃ f fd, Fun K x x st f fd ∧ Binds K fd ps [] ∧ mg x = some (.ref f)
theorem Laid.of {P : Program} {w : World} {K : PySem.W.Frag} {mg : Str → Option Value} {base : Heap} {x : Str} {st : Stmt} {ps : List Str} {k : Nat} {sp : Sp} (L : Laid K mg x st ps) (h : ∀ f fd, Fun K x x st f fd → FnOk P w K mg base CX0 k f fd ps sp) : DefOk P w K mg base k x ps sp := by
  obtain ⟨f, fd, F, b, m⟩ := L.ex
  exact ⟨f, fd, h f fd F, b, F.kp, m⟩
theorem laid_mk {K : PySem.W.Frag} {h : Heap} {mg : Str → Option Value} {x : Str} {st : Stmt} {ps : List Str} {f : Addr} {od an : Option Addr} {sl : Array (Option Value)} {oc kV dc pm cd ct : Value} (X : K.In h) (G : h.Ns mainGlobals mg)
    (a : PySem.W.nsIn K mainGlobals x = some (some (.ref f))) (l : K.lookup f = some ⟨oc, od, .func (PySem.W.fnOf x x (defArgs st) (defBody st) (defScope st) .none kV dc pm an cd ct), sl⟩) (c : PySem.W.codeIn K cd x = true) (k : PySem.W.keepIn K (.ref f) = true)
    (hb : ∀ (kV doc pm : Value) (an : Option Addr) (cdv ct : Value) (us : List Value), us.length = ps.length → bindArgs (PySem.W.fnOf x x (defArgs st) (defBody st) (defScope st) .none kV doc pm an cdv ct) ⟨us, []⟩ = pure (ps.zip us)) : Laid K mg x st ps :=
  ⟨f, _, fun_mk (st := st) l c k, (fun_mk (st := st) l c k).binds hb, PySem.W.mg_of X G a⟩
section
variable {P : Program} {w : World} {K : PySem.W.Frag} {mg : Str → Option Value} {base : Heap}
theorem all_key (T : Txt mg) (L : Laid K mg "_law_key" sKey ["_law_well_here", "_law_room"]) (DP : DefOk P w K mg base 1 "_law_pull" ["_law_well_here", "_law_many"] spPull) (DG : DefOk P w K mg base 2 "_law_great" ["_law_well_here", "_law_bound"] spPull)
    (DT : DefOk P w K mg base 2 "_law_text" ["_law_well_here"] spText) : ∀ n : Nat, DefOk P w K mg base (n + 2) "_law_key" ["_law_well_here", "_law_room"] (spKey n)
  | 0 => L.of fun _ _ _ => key_none
  | n + 1 => L.of fun _ _ F => ok_key F T DP DG DT (all_key T L DP DG DT n)
end
end Tw
set_option Elab.async false
set_option linter.all false
set_option maxRecDepth 100000
set_option maxHeartbeats 8000000
namespace Tw
open PySem PySem.Spec L2
/-! ### the promises -/
def spFitsG (n : Nat) : Sp := fun vs H Q _ => ∃ (v : V) (t : TG) (N : Addr → Prop) (r : Nat), vs = [v, .int (r : Int)] ∧ ThAt N H t v ∧ t.neat ∧ r < n ∧ ∀ H', Same H H' → Q (.bl (t.fits r)) H'
def spIsKeyG : Sp := fun vs H Q _ => ∃ (v : V) (t : TG) (N : Addr → Prop), vs = [v] ∧ ThAt N H t v ∧ t.neat ∧ ∀ H', Same H H' → Q (.bl (t.fits 3)) H'
section
variable {P : Program} {w : World} {K : PySem.W.Frag} {mg : Str → Option Value} {base : Heap} {f : Addr} {fd : FuncData}
theorem sp_none {sp : Sp} {k : Nat} {ps : List Str} (no : ∀ vs H Q E, ¬ sp vs H Q E) : FnOk P w K mg base CX0 k f fd ps sp :=
  ⟨fun vs H Q E h => absurd h (no vs H Q E), fun A outer s H args us vs Q E _ _ _ _ h => absurd h (no vs H Q E)⟩
/-! ### fits -/
theorem scFits : FnScope ["thing", "room"] ["thing", "room"] (defScope sFits) := ⟨rfl, rfl, rfl, by decide +kernel, rfl, by decide +kernel, by decide +kernel⟩
theorem ok_fits {n : Nat} (F : Fun K "fits" "fits" sFits f fd) (T : Txt mg) (DW : DefOk P w K mg base 1 "has_few_figures" ["number"] spFew) (DS : DefOk P w K mg base 1 "is_sign" ["sign"] spSign)
    (DF : DefOk P w K mg base (n + 1) "fits" ["thing", "room"] (spFitsG n)) : FnOk P w K mg base CX0 (n + 2) f fd ["thing", "room"] (spFitsG (n + 1)) := by
  refine F.ok scFits (fun vs H Q E h => ?_) (fun cdv A outer s H vs Q E hr h => ?_)
  · obtain ⟨v, t, N, r, rfl, _⟩ := h
    rfl
  obtain ⟨v, t, N, r, rfl, hv, hq, hn, k⟩ := h
  have hr1 := hr.mono (show 1 ≤ n + 1 by omega)
  obtain ⟨t1, m1⟩ := T.signs
  obtain ⟨t2, m2⟩ := T.things
  refine ⟨_, pss_cons (ps_if (pt_val (pe_callB tw_isinst rfl T.isi tb_isinstance (pa_cons (pv 0) (pa_cons (pe_bltn (v := .ty "bool") rfl T.bool tb_bool rfl) pa_nil)))) (pss_one (ps_ret pe_bl)) pss_nil)
    (pss_cons (ps_if (pt_val (pe_callB tw_isinst rfl T.isi tb_isinstance (pa_cons (pv 0) (pa_cons (pe_bltn (v := .ty "int") rfl T.int tb_int rfl) pa_nil)))) (pss_one (ps_ret (pe_def DW hr1 (pa_cons (pv 0) pa_nil)))) pss_nil)
    (pss_cons (ps_if (pt_val (pe_callB tw_isinst rfl T.isi tb_isinstance (pa_cons (pv 0) (pa_cons (pe_bltn (v := .ty "str") rfl T.str tb_str rfl) pa_nil))))
      (pss_one (ps_ret (pe_and (pe_cmpR op_le (pe_callB call_len_str rfl T.len tb_len (pa_cons (pv 0) pa_nil)) (pe_glob (v := .int 40) rfl m1 ⟨_, rfl⟩) (nomark _))
        (pe_one (pe_callB (tw_all rfl) rfl T.all tb_all (pa_cons (pe_comp [] [] rfl (pi_str (pv 0)) (fun _ _ _ _ _ => pts_nil) (fun _ _ _ _ _ => pe_def DS hr1 (pa_cons (pv 0) pa_nil)) trivial) pa_nil)))))) pss_nil)
    (pss_cons (ps_if (pt_val (pe_callB tw_isinst rfl T.isi tb_isinstance (pa_cons (pv 0) (pa_cons (pe_bltn (v := .ty "tuple") rfl T.tuple tb_tuple rfl) pa_nil))))
      (pss_one (ps_ret (pe_and (pe_cmpR op_gt (pv 1) pe_int (nomark _)) (pe_and (pe_cmpR op_le (pe_callB call_len_seq rfl T.len tb_len (pa_cons (pv 0) pa_nil)) (pe_glob (v := .int 4) rfl m2 ⟨_, rfl⟩) (nomark _))
        (pe_one (pe_callB (tw_all rfl) rfl T.all tb_all (pa_cons (pe_comp [1] ["room"] rfl (pi_tup (pv 0)) (fun _ _ _ _ _ => pts_nil) (fun _ _ _ _ _ => pe_def DF hr (pa_cons (pv 0) (pa_cons (pe_op op_sub (pv 1) pe_int) pa_nil))) ⟨rfl, .inl rfl, rfl, trivial⟩) pa_nil))))))) pss_nil)
    (pss_one (ps_ret pe_bl))))), ?_⟩
  cases t with
  | int i =>
    have ev : v = .int i := by rw [ThAt] at hv; exact hv
    subst ev
    refine ⟨_, rfl, _, _, _, _, rfl, .int i, kit_ib, _, rfl, iteF ?_⟩
    refine ⟨_, rfl, _, _, _, _, rfl, .int i, kit_ii, _, rfl, iteT ?_⟩
    have kk := k H (Same.refl H)
    rw [TG.fits] at kk
    exact ⟨_, rfl, i, rfl, kk⟩
  | str x =>
    have ev : v = .str x := by rw [ThAt] at hv; exact hv
    subst ev
    have hlen : x.length ≤ 1000 := by rw [TG.neat] at hq; exact hq
    refine ⟨_, rfl, _, _, _, _, rfl, .str x, kit_sb, _, rfl, iteF ?_⟩
    refine ⟨_, rfl, _, _, _, _, rfl, .str x, kit_si, _, rfl, iteF ?_⟩
    refine ⟨_, rfl, _, _, _, _, rfl, .str x, kit_ss, _, rfl, iteT ?_⟩
    refine ⟨_, rfl, x, rfl, nn hlen, _, _, rfl, rfl, _, rfl, ?_⟩
    refine ite2 (fun c => ?_) (fun c => ?_)
    · have c40 : x.length ≤ 40 := by have := of_decide_eq_true c; omega
      refine ⟨_, rfl, x, rfl, ?_⟩
      have hsz : x.cps.size ≤ 40 := c40
      refine comp_map (n := x.cps.size) (fun i z => ∃ c, x.cps[i]? = some c ∧ z = .str ⟨#[c]⟩) (fun D i ys H3 => Same H H3 ∧ H D = none ∧ ys = ((x.cps.toList.take i).map signOk).map V.bl) (small1000 (by omega))
        (fun D i ys H3 hi _ => hi) (fun D i ys H3 z H4 hi _ hy => hy) (fun D ys H3 _ => rfl) (fun D hD => ⟨same_new hD _, hD, rfl⟩) (fun D i ys H3 z eD hl hi hz hP R hR => ?_) (fun D ys H3 eD hP => ?_)
      · obtain ⟨c, hc, rfl⟩ := hz
        obtain ⟨s3, nD, rfl⟩ := hP
        refine ⟨_, rfl, c, rfl, ?_⟩
        refine hR _ H3 eD ⟨fun b o e => by rw [upd_ne (ne_of_none e nD)]; exact s3 b o e, nD, ?_⟩
        have hc' : x.cps.toList[i]? = some c := by simpa using hc
        rw [List.take_add_one, hc']
        simp
      · obtain ⟨s3, nD, rfl⟩ := hP
        refine ⟨D, _, rfl, SqL.of eD, ?_⟩
        have kk := k H3 s3
        have et : (x.cps.toList.take x.cps.size) = x.cps.toList := List.take_of_length_le (by simp)
        have ea : (x.cps.toList.map signOk).all id = (TG.str x).fits r := by
          rw [TG.fits, List.all_map]
          unfold textOk
          rw [decide_eq_true c40, Bool.true_and]
          rfl
        rw [et, ea]
        exact kk
    · have c40 : ¬ x.length ≤ 40 := fun z => c (decide_eq_true (by omega))
      have kk := k H (Same.refl H)
      rw [TG.fits] at kk
      unfold textOk at kk
      rw [decide_eq_false c40, Bool.false_and] at kk
      exact kk
  | tup l =>
    rw [ThAt] at hv
    obtain ⟨a, vs, rfl, ea, hvs⟩ := hv
    have hl := hvs.length
    rw [TG.neat] at hq
    obtain ⟨hq1, hq2⟩ := hq
    have ty : TyOf K H (.ref a) (.type "tuple") := .tup ea
    refine ⟨_, rfl, _, _, _, _, rfl, ty, kit_tb, _, rfl, iteF ?_⟩
    refine ⟨_, rfl, _, _, _, _, rfl, ty, kit_ti, _, rfl, iteF ?_⟩
    refine ⟨_, rfl, _, _, _, _, rfl, ty, kit_ts, _, rfl, iteF ?_⟩
    refine ⟨_, rfl, _, _, _, _, rfl, ty, kit_tt, _, rfl, iteT ?_⟩
    refine ⟨_, rfl, _, _, rfl, rfl, _, rfl, ?_⟩
    refine ite2 (fun c1 => ?_) (fun c1 => ?_)
    · have r0 : 0 < r := by
        have := of_decide_eq_true c1
        omega
      refine ⟨_, rfl, a, vs, rfl, .inr (SqT.of ea), _, _, rfl, rfl, _, rfl, ?_⟩
      refine ite2 (fun c2 => ?_) (fun c2 => ?_)
      · have l4 : l.length ≤ 4 := by
          have := of_decide_eq_true c2
          omega
        refine ⟨_, rfl, a, rfl, ⟨vs, SqT.of ea⟩, ?_⟩
        refine comp_map (n := vs.length) (fun i z => vs[i]? = some z) (fun D i ys H3 => Same H H3 ∧ H D = none ∧ ys = ((l.take i).map fun t => t.fits (r - 1)).map V.bl) (small1000 (by omega))
          (fun D i ys H3 hi hP => ⟨vs, vs[i], SqT.of (hP.1 _ _ ea), by simp [hi]⟩) (fun D i ys H3 z H4 hi hP hy => ⟨hy.1, hy.2 vs (SqT.of (hP.1 _ _ ea))⟩) (fun D ys H3 hP => ⟨vs, SqT.of (hP.1 _ _ ea), Nat.le_refl _⟩)
          (fun D hD => ⟨same_new hD _, hD, rfl⟩) (fun D i ys H3 z eD hl' hi hz hP R hR => ?_) (fun D ys H3 eD hP => ?_)
        · obtain ⟨s3, nD, rfl⟩ := hP
          obtain ⟨t, et, kt⟩ := hvs.get hz
          have er : (r : Int) - 1 = ((r - 1 : Nat) : Int) := by omega
          refine ⟨_, rfl, _, rfl, _, _, rfl, rfl, z, t, N, r - 1, congrArg (fun y => [z, V.int y]) er, kt.mono (Keeps.same s3) _ _, neatL_mem hq2 (List.mem_of_getElem? et), by omega, fun H4 s4 => ?_⟩
          refine hR _ H4 (s4 D _ eD) ⟨fun b o e => by rw [upd_ne (ne_of_none e nD)]; exact s4 b o (s3 b o e), nD, ?_⟩
          rw [List.take_add_one, et]
          simp
        · obtain ⟨s3, nD, rfl⟩ := hP
          refine ⟨D, _, rfl, SqL.of eD, ?_⟩
          have kk := k H3 s3
          rw [TG.fits, decide_eq_true r0, Bool.true_and, decide_eq_true l4, Bool.true_and, gfitsL_all] at kk
          have et : l.take vs.length = l := List.take_of_length_le (by omega)
          rw [et, List.all_map]
          exact kk
      · have l4 : ¬ l.length ≤ 4 := fun z => c2 (decide_eq_true (by omega))
        have kk := k H (Same.refl H)
        rw [TG.fits, decide_eq_false l4, Bool.false_and, Bool.and_false] at kk
        exact kk
    · have r0 : ¬ 0 < r := fun z => c1 (decide_eq_true (by omega))
      have kk := k H (Same.refl H)
      rw [TG.fits, decide_eq_false r0, Bool.false_and] at kk
      exact kk
  | odd n' =>
    rw [ThAt] at hv
    have ty : TyOf K H v (.type n') := hv.ty
    obtain ⟨b, kb, kr⟩ := kit_odd (K := K) hv
    have kk := k H (Same.refl H)
    rw [TG.fits] at kk
    cases b with
    | true => exact ⟨_, rfl, _, _, _, _, rfl, ty, kb, _, rfl, iteT kk⟩
    | false =>
      obtain ⟨k1, k2, k3⟩ := kr rfl
      refine ⟨_, rfl, _, _, _, _, rfl, ty, kb, _, rfl, iteF ?_⟩
      refine ⟨_, rfl, _, _, _, _, rfl, ty, k1, _, rfl, iteF ?_⟩
      refine ⟨_, rfl, _, _, _, _, rfl, ty, k2, _, rfl, iteF ?_⟩
      refine ⟨_, rfl, _, _, _, _, rfl, ty, k3, _, rfl, iteF ?_⟩
      exact kk
theorem all_fits (T : Txt mg) (L : Laid K mg "fits" sFits ["thing", "room"]) (DW : DefOk P w K mg base 1 "has_few_figures" ["number"] spFew) (DS : DefOk P w K mg base 1 "is_sign" ["sign"] spSign) : ∀ n : Nat, DefOk P w K mg base (n + 1) "fits" ["thing", "room"] (spFitsG n)
  | 0 => L.of fun _ _ _ => sp_none fun vs H Q E h => by obtain ⟨v, t, N, r, _, _, _, h1, _⟩ := h; omega
  | n + 1 => L.of fun _ _ F => ok_fits F T DW DS (all_fits T L DW DS n)
theorem scIsKey : FnScope ["thing"] ["thing"] (defScope sIsKey) := ⟨rfl, rfl, rfl, by decide +kernel, rfl, by decide +kernel, by decide +kernel⟩
theorem ok_iskey (F : Fun K "is_key" "is_key" sIsKey f fd) (T : Txt mg) (DF : DefOk P w K mg base 5 "fits" ["thing", "room"] (spFitsG 4)) : FnOk P w K mg base CX0 6 f fd ["thing"] spIsKeyG := by
  refine F.ok scIsKey (fun vs H Q E h => ?_) (fun cdv A outer s H vs Q E hr h => ?_)
  · obtain ⟨v, t, N, rfl, _⟩ := h
    rfl
  obtain ⟨v, t, N, rfl, hv, hq, k⟩ := h
  obtain ⟨t1, m1⟩ := T.deep
  refine ⟨_, pss_one (ps_ret (pe_def DF hr (pa_cons (pv 0) (pa_cons (pe_glob (v := .int 3) rfl m1 ⟨_, rfl⟩) pa_nil)))), ?_⟩
  exact ⟨_, rfl, v, t, N, 3, rfl, hv, hq, by decide, k⟩
/-! ### checked -/
end
end Tw
set_option Elab.async false
set_option linter.all false
set_option maxRecDepth 100000
set_option maxHeartbeats 8000000
namespace Tw
open PySem PySem.Spec L2
/-! ### the promises -/
def spSt (n : Nat) : Sp := fun vs H Q _ => ∃ (v : V) (t : KT) (q : Nat), vs = [v] ∧ KeyAt H t v ∧ t.fits q = true ∧ t.depth < n ∧ ∀ (v' : V) (H' : Hp), KeyAt H' t.st v' → Same H H' → Q v' H'
def spAhead : Sp := fun vs H Q _ => ∃ (v u : V) (a b : KT), vs = [v, u] ∧ KeyAt H a v ∧ KeyAt H b u ∧ a.fits 3 = true ∧ b.fits 3 = true ∧ ∀ H', Same H H' → Q (.bl (a.lt b)) H'
section
variable {P : Program} {w : World} {K : PySem.W.Frag} {mg : Str → Option Value} {base : Heap} {f : Addr} {fd : FuncData}
/-! ### standing -/
theorem scStanding : FnScope ["key"] ["key"] (defScope sStanding) := ⟨rfl, rfl, rfl, by decide +kernel, rfl, by decide +kernel, by decide +kernel⟩
theorem st_none {k : Nat} : FnOk P w K mg base CX0 k f fd ["key"] (spSt 0) := by
  have no : ∀ vs H Q E, ¬ spSt 0 vs H Q E := fun vs H Q E h => by
    obtain ⟨v, t, q, _, _, _, h1, _⟩ := h
    omega
  exact ⟨fun vs H Q E h => absurd h (no vs H Q E), fun A outer s H args us vs Q E _ _ _ _ h => absurd h (no vs H Q E)⟩
theorem ok_standing {n : Nat} (F : Fun K "standing" "standing" sStanding f fd) (T : Txt mg) (DS : DefOk P w K mg base (n + 1) "standing" ["key"] (spSt n)) : FnOk P w K mg base CX0 (n + 2) f fd ["key"] (spSt (n + 1)) := by
  refine F.ok scStanding (fun vs H Q E h => ?_) (fun cdv A outer s H vs Q E hr h => ?_)
  · obtain ⟨v, t, q, rfl, _⟩ := h
    rfl
  obtain ⟨v, t, q, rfl, hv, hq, hn, k⟩ := h
  refine ⟨_, pss_cons (ps_if (pt_val (pe_callB tw_isinst rfl T.isi tb_isinstance (pa_cons (pv 0) (pa_cons (pe_bltn (v := .ty "int") rfl T.int tb_int rfl) pa_nil)))) (pss_one (ps_ret (pe_tup (pa_cons pe_int (pa_cons (pv 0) pa_nil))))) pss_nil)
    (pss_cons (ps_if (pt_val (pe_callB tw_isinst rfl T.isi tb_isinstance (pa_cons (pv 0) (pa_cons (pe_bltn (v := .ty "str") rfl T.str tb_str rfl) pa_nil)))) (pss_one (ps_ret (pe_tup (pa_cons pe_int (pa_cons (pv 0) pa_nil))))) pss_nil)
    (pss_one (ps_ret (pe_tup (pa_cons pe_int (pa_cons (pe_callTy call_tuple_of rfl T.tuple tb_tuple (pa_cons (pe_comp [] [] rfl (pi_tup (pv 0)) (fun _ _ _ _ _ => pts_nil) (fun _ _ _ _ _ => pe_def DS hr (pa_cons (pv 0) pa_nil)) trivial) pa_nil)) pa_nil)))))), ?_⟩
  cases t with
  | int i =>
    have ev : v = .int i := by rw [KeyAt] at hv; exact hv
    subst ev
    refine ⟨_, rfl, _, _, _, _, rfl, hv.ty, kit_ii, _, rfl, iteT ?_⟩
    refine ⟨_, rfl, (by show 2 ≤ sizeLine; decide), fun p hp => ?_⟩
    refine k _ _ ?_ (same_new hp _)
    rw [KT.st]
    exact .tup upd_same (.cons (.int 0) (.cons (.int i) .nil))
  | str x =>
    have ev : v = .str x := by rw [KeyAt] at hv; exact hv
    subst ev
    refine ⟨_, rfl, _, _, _, _, rfl, hv.ty, kit_si, _, rfl, iteF ?_⟩
    refine ⟨_, rfl, _, _, _, _, rfl, hv.ty, kit_ss, _, rfl, iteT ?_⟩
    refine ⟨_, rfl, (by show 2 ≤ sizeLine; decide), fun p hp => ?_⟩
    refine k _ _ ?_ (same_new hp _)
    rw [KT.st]
    exact .tup upd_same (.cons (.int 1) (.cons (.str x) .nil))
  | tup l =>
    have hv' := hv
    rw [KeyAt] at hv'
    obtain ⟨a, vs, rfl, ea, hvs⟩ := hv'
    have hl := hvs.length
    rw [KT.fits, Bool.and_eq_true, Bool.and_eq_true] at hq
    obtain ⟨hq0, hq1, hq2⟩ := hq
    have hl4 : l.length ≤ 4 := of_decide_eq_true hq1
    rw [KT.depth] at hn
    refine ⟨_, rfl, _, _, _, _, rfl, hv.ty, kit_ti, _, rfl, iteF ?_⟩
    refine ⟨_, rfl, _, _, _, _, rfl, hv.ty, kit_ts, _, rfl, iteF ?_⟩
    refine ⟨_, rfl, a, rfl, ⟨vs, SqT.of ea⟩, ?_⟩
    refine comp_map (n := vs.length) (fun i z => vs[i]? = some z) (fun D i ys H3 => Same H H3 ∧ H D = none ∧ KeysAt H3 ((l.take i).map KT.st) ys) (small1000 (by omega))
      (fun D i ys H3 hi hP => ⟨vs, vs[i], SqT.of (hP.1 _ _ ea), by simp [hi]⟩) (fun D i ys H3 z H4 hi hP hy => ⟨hy.1, hy.2 vs (SqT.of (hP.1 _ _ ea))⟩) (fun D ys H3 hP => ⟨vs, SqT.of (hP.1 _ _ ea), Nat.le_refl _⟩)
      (fun D hD => ⟨same_new hD _, hD, .nil⟩) (fun D i ys H3 z eD hl' hi hz hP R hR => ?_) (fun D ys H3 eD hP => ?_)
    · obtain ⟨s3, nD, hys⟩ := hP
      obtain ⟨t, et, kt⟩ := hvs.get hz
      have mt := List.mem_of_getElem? et
      have htq : t.fits (q - 1) = true := by
        rw [fitsL_all] at hq2
        exact List.all_eq_true.mp hq2 t mt
      have hdt := depth_in mt
      refine ⟨_, rfl, z, t, q - 1, rfl, kt.mono (Same.tups s3) _ _, htq, by omega, fun v' H4 k4 s4 => ?_⟩
      have eD4 := s4 D _ eD
      have tD : Tups H4 (upd H4 D (.lst (ys ++ [v']))) := (SameX.refl D H4).upd.tups eD4
      refine hR v' H4 eD4 ⟨fun b o e => by rw [upd_ne (ne_of_none e nD)]; exact s4 b o (s3 b o e), nD, ?_⟩
      rw [List.take_add_one, et, List.map_append]
      exact ((hys.mono (Same.tups s4) _ _).append (.cons k4 .nil)).mono tD _ _
    · obtain ⟨s3, nD, hys⟩ := hP
      have et : l.take vs.length = l := List.take_of_length_le (by omega)
      rw [et] at hys
      have hyl := hys.length
      rw [List.length_map] at hyl
      refine ⟨D, ys, rfl, .inl ⟨SqL.of eD, fun p1 hp1 => ?_⟩⟩
      have g1 := same_new hp1 (.tup ys)
      refine ⟨(by show 2 ≤ sizeLine; decide), fun p2 hp2 => ?_⟩
      have g2 := same_new hp2 (.tup [.int 2, .ref p1])
      refine k _ _ ?_ ((s3.trans g1).trans g2)
      rw [KT.st, stL_map]
      exact .tup upd_same (.cons (.int 2) (.cons (.tup (g2 _ _ upd_same) (hys.mono (Same.tups (g1.trans g2)) _ _)) .nil))
theorem all_standing (T : Txt mg) (L : Laid K mg "standing" sStanding ["key"]) : ∀ n : Nat, DefOk P w K mg base (n + 1) "standing" ["key"] (spSt n)
  | 0 => L.of fun _ _ _ => st_none
  | n + 1 => L.of fun _ _ F => ok_standing F T (all_standing T L n)
/-! ### ahead -/
theorem scAhead : FnScope ["one", "other"] ["one", "other"] (defScope sAhead) := ⟨rfl, rfl, rfl, by decide +kernel, rfl, by decide +kernel, by decide +kernel⟩
theorem ok_ahead (F : Fun K "ahead" "ahead" sAhead f fd) (DS : DefOk P w K mg base 6 "standing" ["key"] (spSt 5)) : FnOk P w K mg base CX0 7 f fd ["one", "other"] spAhead := by
  refine F.ok scAhead (fun vs H Q E h => ?_) (fun cdv A outer s H vs Q E hr h => ?_)
  · obtain ⟨v, u, a, b, rfl, _⟩ := h
    rfl
  obtain ⟨v, u, a, b, rfl, ha, hb, fa, fb, k⟩ := h
  refine ⟨_, pss_one (ps_ret (pe_cmpR (op_ltK hr) (pe_def DS hr (pa_cons (pv 0) pa_nil)) (pe_def DS hr (pa_cons (pv 1) pa_nil)) (nomark _))), ?_⟩
  have da := fits_depth a 3 fa
  have db := fits_depth b 3 fb
  have ds := depth_st a
  refine ⟨_, rfl, v, a, 3, rfl, ha, fa, by omega, fun v1 H1 k1 s1 => ?_⟩
  refine ⟨_, rfl, u, b, 3, rfl, hb.mono (Same.tups s1) _ _, fb, by omega, fun v2 H2 k2 s2 => ?_⟩
  refine ⟨a.st, b.st, k1.mono (Same.tups s2) _ _, k2, cmp_st a b, by omega, ?_⟩
  rw [plt_st]
  exact k H2 (s1.trans s2)
end
end Tw
set_option Elab.async false
set_option linter.all false
set_option maxRecDepth 100000
set_option maxHeartbeats 8000000
namespace Tw
open PySem PySem.Spec L2
mutual
def KT.wide : KT → Nat → Bool
  | .int _, _ => true
  | .str _, _ => true
  | .tup l, r => decide (0 < r) && (decide (l.length ≤ 100) && wideL l (r - 1))
def wideL : List KT → Nat → Bool
  | [], _ => true
  | t :: l, r => t.wide r && wideL l r
end
theorem wideL_all : ∀ (l : List KT) (r : Nat), wideL l r = l.all (·.wide r)
  | [], r => by rw [wideL]; rfl
  | t :: l, r => by rw [wideL, wideL_all l r]; rfl
mutual
theorem wide_of : ∀ (t : KT) (r : Nat), t.fits r = true → t.wide r = true
  | .int _, _, _ => by rw [KT.wide]
  | .str _, _, _ => by rw [KT.wide]
  | .tup l, r, h => by
    rw [KT.fits, Bool.and_eq_true, Bool.and_eq_true] at h
    rw [KT.wide, Bool.and_eq_true, Bool.and_eq_true]
    have := of_decide_eq_true h.2.1
    exact ⟨h.1, decide_eq_true (by omega), wideL_of l (r - 1) h.2.2⟩
theorem wideL_of : ∀ (l : List KT) (r : Nat), fitsL l r = true → wideL l r = true
  | [], _, _ => by rw [wideL]
  | t :: l, r, h => by
    rw [fitsL, Bool.and_eq_true] at h
    rw [wideL, Bool.and_eq_true]
    exact ⟨wide_of t r h.1, wideL_of l r h.2⟩
end
section
variable {P : Program} {w : World} {K : PySem.W.Frag} {mg : Str → Option Value} {base : Heap} {f : Addr} {fd : FuncData}
theorem sp_noneS {sp : Sp} {k : Nat} {ps : List Str} (no : ∀ vs H Q E, ¬ sp vs H Q E) : FnOk P w K mg base CX0 k f fd ps sp :=
  ⟨fun vs H Q E h => absurd h (no vs H Q E), fun A outer s H args us vs Q E _ _ _ _ h => absurd h (no vs H Q E)⟩
theorem scAlike : FnScope ["_law_found", "_law_due_here"] ["_law_found", "_law_due_here"] (defScope sAlike) := ⟨rfl, rfl, rfl, by decide +kernel, rfl, by decide +kernel, by decide +kernel⟩
end
end Tw
set_option Elab.async false
set_option linter.all false
set_option maxRecDepth 100000
set_option maxHeartbeats 8000000
namespace Tw
open PySem PySem.Spec L2
/-! ### the law's own order -/
mutual
def KT.rk : KT → KT
  | .int i => .tup [.int 0, .int i, .str "", .tup []]
  | .str x => .tup [.int 1, .int 0, .str x, .tup []]
  | .tup l => .tup [.int 2, .int 0, .str "", .tup (rkL l)]
def rkL : List KT → List KT
  | [] => []
  | t :: l => t.rk :: rkL l
end
theorem rkL_map : ∀ l : List KT, rkL l = l.map KT.rk
  | [] => by rw [rkL]; rfl
  | t :: l => by rw [rkL, rkL_map l]; rfl
mutual
theorem eqb_rk : ∀ a b : KT, a.rk.eqb b.rk = a.eqb b
  | .int i, .int j => by simp [KT.rk, KT.eqb, eqbL]
  | .str x, .str y => by simp [KT.rk, KT.eqb, eqbL]
  | .tup l, .tup m => by simp [KT.rk, KT.eqb, eqbL, eqbL_rk l m]
  | .int _, .str _ => by simp [KT.rk, KT.eqb, eqbL]
  | .int _, .tup _ => by simp [KT.rk, KT.eqb, eqbL]
  | .str _, .int _ => by simp [KT.rk, KT.eqb, eqbL]
  | .str _, .tup _ => by simp [KT.rk, KT.eqb, eqbL]
  | .tup _, .int _ => by simp [KT.rk, KT.eqb, eqbL]
  | .tup _, .str _ => by simp [KT.rk, KT.eqb, eqbL]
theorem eqbL_rk : ∀ l m : List KT, eqbL (rkL l) (rkL m) = eqbL l m
  | [], [] => by simp [rkL, eqbL]
  | a :: l, b :: m => by simp [rkL, eqbL, eqb_rk a b, eqbL_rk l m]
  | [], _ :: _ => by simp [rkL, eqbL]
  | _ :: _, [] => by simp [rkL, eqbL]
end
mutual
theorem cmp_rk : ∀ a b : KT, a.rk.cmp b.rk = true
  | .int i, .int j => by simp [KT.rk, KT.eqb, KT.cmp, cmpL, eqbL]
  | .str x, .str y => by simp [KT.rk, KT.eqb, KT.cmp, cmpL, eqbL]
  | .tup l, .tup m => by simp [KT.rk, KT.eqb, KT.cmp, cmpL, cmpL_rk l m]
  | .int _, .str _ => by simp [KT.rk, KT.eqb, KT.cmp, cmpL]
  | .int _, .tup _ => by simp [KT.rk, KT.eqb, KT.cmp, cmpL]
  | .str _, .int _ => by simp [KT.rk, KT.eqb, KT.cmp, cmpL]
  | .str _, .tup _ => by simp [KT.rk, KT.eqb, KT.cmp, cmpL]
  | .tup _, .int _ => by simp [KT.rk, KT.eqb, KT.cmp, cmpL]
  | .tup _, .str _ => by simp [KT.rk, KT.eqb, KT.cmp, cmpL]
theorem cmpL_rk : ∀ l m : List KT, cmpL (rkL l) (rkL m) = true
  | [], _ => by simp [rkL, cmpL]
  | _ :: _, [] => by simp [rkL, cmpL]
  | a :: l, b :: m => by
    rw [rkL, rkL, cmpL, cmpL_rk l m, cmp_rk a b]
    split <;> rfl
end
mutual
theorem plt_rk : ∀ a b : KT, a.rk.plt b.rk = a.lt b
  | .int i, .int j => by
    simp only [KT.rk, KT.eqb, KT.plt, pltL, eqbL, KT.lt, beq_self_eq_true, if_true]
    by_cases h : i = j
    · subst h; simp
    · simp [h]
  | .str x, .str y => by
    simp only [KT.rk, KT.eqb, KT.plt, pltL, eqbL, KT.lt, beq_self_eq_true, if_true]
    by_cases h : x = y
    · subst h; simp
    · simp [h]
  | .tup l, .tup m => by
    simp only [KT.rk, KT.eqb, KT.plt, pltL, KT.lt, beq_self_eq_true, if_true, eqbL_rk, pltL_rk l m]
    cases h : eqbL l m with
    | true => rw [if_pos rfl, ltL_eqb h]
    | false => rw [if_neg Bool.false_ne_true]
  | .int _, .str _ => by simp [KT.rk, KT.eqb, KT.plt, pltL, KT.lt]
  | .int _, .tup _ => by simp [KT.rk, KT.eqb, KT.plt, pltL, KT.lt]
  | .str _, .int _ => by simp [KT.rk, KT.eqb, KT.plt, pltL, KT.lt]
  | .str _, .tup _ => by simp [KT.rk, KT.eqb, KT.plt, pltL, KT.lt]
  | .tup _, .int _ => by simp [KT.rk, KT.eqb, KT.plt, pltL, KT.lt]
  | .tup _, .str _ => by simp [KT.rk, KT.eqb, KT.plt, pltL, KT.lt]
theorem pltL_rk : ∀ l m : List KT, pltL (rkL l) (rkL m) = ltL l m
  | [], [] => by simp [rkL, pltL, ltL]
  | [], _ :: _ => by simp [rkL, pltL, ltL]
  | _ :: _, [] => by simp [rkL, pltL, ltL]
  | a :: l, b :: m => by rw [rkL, rkL, pltL, ltL, eqb_rk a b, pltL_rk l m, plt_rk a b]
end
mutual
theorem depth_rk : ∀ t : KT, t.rk.depth ≤ 2 * t.depth + 2
  | .int i => by simp [KT.rk, KT.depth, depthL]
  | .str x => by simp [KT.rk, KT.depth, depthL]
  | .tup l => by
    have := depthL_rk l
    simp only [KT.rk, KT.depth, depthL]
    omega
theorem depthL_rk : ∀ l : List KT, depthL (rkL l) ≤ 2 * depthL l + 2
  | [] => by simp [rkL, depthL]
  | t :: l => by
    have a := depth_rk t
    have b := depthL_rk l
    rw [rkL, depthL, depthL]
    omega
end
section
variable {P : Program} {w : World} {K : PySem.W.Frag} {mg : Str → Option Value} {base : Heap} {f : Addr} {fd : FuncData}
/-! ### _law_rank -/
def spRank (n : Nat) : Sp := fun vs H Q _ => ∃ (v : V) (t : KT) (q : Nat), vs = [v] ∧ KeyAt H t v ∧ t.fits q = true ∧ t.depth < n ∧ ∀ (v' : V) (H' : Hp), KeyAt H' t.rk v' → Same H H' → Q v' H'
theorem scRank : FnScope ["_law_spot"] ["_law_spot"] (defScope sRank) := ⟨rfl, rfl, rfl, by decide +kernel, rfl, by decide +kernel, by decide +kernel⟩
theorem ok_rank {n : Nat} (F : Fun K "_law_rank" "_law_rank" sRank f fd) (T : Txt mg) (DS : DefOk P w K mg base (n + 1) "_law_rank" ["_law_spot"] (spRank n)) : FnOk P w K mg base CX0 (n + 2) f fd ["_law_spot"] (spRank (n + 1)) := by
  refine F.ok scRank (fun vs H Q E h => (by obtain ⟨_, _, _, rfl, _⟩ := h; rfl)) (fun cdv A outer s H vs Q E hr h => ?_)
  obtain ⟨v, t, q, rfl, hv, hq, hn, k⟩ := h
  refine ⟨_, pss_cons (ps_if (pt_val (pe_callB tw_isinst rfl T.isi tb_isinstance (pa_c (pv 0) (pa_c (pe_bltn (v := .ty "int") rfl T.int tb_int rfl) pa_nil)))) (pss_one (ps_ret (pe_tup (pa4 pe_int (pv 0) pe_str (pe_tup pa_nil))))) pss_nil)
    (pss_cons (ps_if (pt_val (pe_callB tw_isinst rfl T.isi tb_isinstance (pa_c (pv 0) (pa_c (pe_bltn (v := .ty "str") rfl T.str tb_str rfl) pa_nil)))) (pss_one (ps_ret (pe_tup (pa4 pe_int pe_int (pv 0) (pe_tup pa_nil))))) pss_nil)
    (pss_one (ps_ret (pe_tup (pa4 pe_int pe_int pe_str (pe_callTy call_tuple_of rfl T.tuple tb_tuple (pa_c (pe_comp [] [] rfl (pi_tup (pv 0)) (fun _ _ _ _ _ => pts_nil) (fun _ _ _ _ _ => pe_def DS hr (pa_c (pv 0) pa_nil)) trivial) pa_nil))))))), ?_⟩
  cases t with
  | int i =>
    have ev : v = .int i := by rw [KeyAt] at hv; exact hv
    subst ev
    refine ⟨_, rfl, _, _, _, _, rfl, hv.ty, kit_ii, _, rfl, iteT ?_⟩
    refine ⟨_, rfl, (by show 0 ≤ sizeLine; decide), fun p0 h0 => ⟨(by show 4 ≤ sizeLine; decide), fun p hp => ?_⟩⟩
    have g0 := same_new h0 (.tup [])
    have g1 := same_new hp (.tup [.int 0, .int i, .str "", .ref p0])
    refine k _ _ ?_ (g0.trans g1)
    rw [KT.rk]
    exact .tup upd_same (.cons (.int 0) (.cons (.int i) (.cons (.str _) (.cons (.tup (g1 _ _ upd_same) .nil) .nil))))
  | str x =>
    have ev : v = .str x := by rw [KeyAt] at hv; exact hv
    subst ev
    refine ⟨_, rfl, _, _, _, _, rfl, hv.ty, kit_si, _, rfl, iteF ?_⟩
    refine ⟨_, rfl, _, _, _, _, rfl, hv.ty, kit_ss, _, rfl, iteT ?_⟩
    refine ⟨_, rfl, (by show 0 ≤ sizeLine; decide), fun p0 h0 => ⟨(by show 4 ≤ sizeLine; decide), fun p hp => ?_⟩⟩
    have g0 := same_new h0 (.tup [])
    have g1 := same_new hp (.tup [.int 1, .int 0, .str x, .ref p0])
    refine k _ _ ?_ (g0.trans g1)
    rw [KT.rk]
    exact .tup upd_same (.cons (.int 1) (.cons (.int 0) (.cons (.str x) (.cons (.tup (g1 _ _ upd_same) .nil) .nil))))
  | tup l =>
    have hv' := hv
    rw [KeyAt] at hv'
    obtain ⟨a, vs, rfl, ea, hvs⟩ := hv'
    have hl := hvs.length
    rw [KT.fits, Bool.and_eq_true, Bool.and_eq_true] at hq
    obtain ⟨hq0, hq1, hq2⟩ := hq
    have hl4 : l.length ≤ 4 := of_decide_eq_true hq1
    rw [KT.depth] at hn
    refine ⟨_, rfl, _, _, _, _, rfl, hv.ty, kit_ti, _, rfl, iteF ?_⟩
    refine ⟨_, rfl, _, _, _, _, rfl, hv.ty, kit_ts, _, rfl, iteF ?_⟩
    refine ⟨_, rfl, a, rfl, ⟨vs, SqT.of ea⟩, ?_⟩
    refine comp_map (n := vs.length) (fun i z => vs[i]? = some z) (fun D i ys H3 => Same H H3 ∧ H D = none ∧ KeysAt H3 ((l.take i).map KT.rk) ys) (small1000 (by omega))
      (fun D i ys H3 hi hP => ⟨vs, vs[i], SqT.of (hP.1 _ _ ea), by simp [hi]⟩) (fun D i ys H3 z H4 hi hP hy => ⟨hy.1, hy.2 vs (SqT.of (hP.1 _ _ ea))⟩) (fun D ys H3 hP => ⟨vs, SqT.of (hP.1 _ _ ea), Nat.le_refl _⟩)
      (fun D hD => ⟨same_new hD _, hD, .nil⟩) (fun D i ys H3 z eD hl' hi hz hP R hR => ?_) (fun D ys H3 eD hP => ?_)
    · obtain ⟨s3, nD, hys⟩ := hP
      obtain ⟨t, et, kt⟩ := hvs.get hz
      have mt := List.mem_of_getElem? et
      have htq : t.fits (q - 1) = true := by
        rw [fitsL_all] at hq2
        exact List.all_eq_true.mp hq2 t mt
      have hdt := depth_in mt
      refine ⟨_, rfl, z, t, q - 1, rfl, kt.mono (Same.tups s3) _ _, htq, by omega, fun v' H4 k4 s4 => ?_⟩
      have eD4 := s4 D _ eD
      have tD : Tups H4 (upd H4 D (.lst (ys ++ [v']))) := (SameX.refl D H4).upd.tups eD4
      refine hR v' H4 eD4 ⟨fun b o e => by rw [upd_ne (ne_of_none e nD)]; exact s4 b o (s3 b o e), nD, ?_⟩
      rw [List.take_add_one, et, List.map_append]
      exact ((hys.mono (Same.tups s4) _ _).append (.cons k4 .nil)).mono tD _ _
    · obtain ⟨s3, nD, hys⟩ := hP
      have et : l.take vs.length = l := List.take_of_length_le (by omega)
      rw [et] at hys
      have hyl := hys.length
      rw [List.length_map] at hyl
      refine ⟨D, ys, rfl, .inl ⟨SqL.of eD, fun p1 hp1 => ?_⟩⟩
      have g1 := same_new hp1 (.tup ys)
      refine ⟨(by show 4 ≤ sizeLine; decide), fun p2 hp2 => ?_⟩
      have g2 := same_new hp2 (.tup [.int 2, .int 0, .str "", .ref p1])
      refine k _ _ ?_ ((s3.trans g1).trans g2)
      rw [KT.rk, rkL_map]
      exact .tup upd_same (.cons (.int 2) (.cons (.int 0) (.cons (.str _) (.cons (.tup (g2 _ _ upd_same) (hys.mono (Same.tups (g1.trans g2)) _ _)) .nil))))
theorem all_rank (T : Txt mg) (L : Laid K mg "_law_rank" sRank ["_law_spot"]) : ∀ n : Nat, DefOk P w K mg base (n + 1) "_law_rank" ["_law_spot"] (spRank n)
  | 0 => L.of fun _ _ _ => sp_noneS fun vs H Q E h => by obtain ⟨v, t, q, _, _, _, h1, _⟩ := h; omega
  | n + 1 => L.of fun _ _ F => ok_rank F T (all_rank T L n)
/-! ### _law_less -/
end
end Tw
set_option Elab.async false
set_option linter.all false
set_option maxRecDepth 100000
set_option maxHeartbeats 8000000
namespace Tw
open PySem PySem.Spec L2 PyProof.Rows
section
variable {α β : Type} {F : α → β → Prop}
theorem Paired.app : ∀ {l l' : List α} {m m' : List β}, Paired F l m → Paired F l' m' → Paired F (l ++ l') (m ++ m')
  | _, _, _, _, .nil, s => s
  | _, _, _, _, .cons r t, s => .cons r (Paired.app t s)
theorem Paired.ix : ∀ {l : List α} {m : List β} {i : Nat} {u : β}, Paired F l m → m[i]? = some u → ∃ r, l[i]? = some r ∧ F r u
  | _, _, _, _, .nil, e => by simp at e
  | _, _, 0, _, .cons r _, e => by simp at e; subst e; exact ⟨_, rfl, r⟩
  | _, _, i + 1, u, .cons _ t, e => by
    obtain ⟨r, h1, h2⟩ := Paired.ix (i := i) (u := u) t (by simpa using e)
    exact ⟨r, by simpa using h1, h2⟩
end
/-! ### a list made of a list, thing by thing -/
theorem comp_over {K : PySem.W.Frag} {a : Addr} {xs : List V} {σ : L2.St} {ix : List Nat} {te : TE} {H : Hp} {Q : VK} (g : Nat → V) (hl : SqL K H a xs) (hs : ∀ H3, Same H H3 → SqL K H3 a xs) (hn : xs.length ≤ 900)
    (step : ∀ i x H3 (R : VK), xs[i]? = some x → Same H H3 → (∀ H4, Same H3 H4 → R (g i) H4) → te (cSlots σ ix x) H3 R)
    (fin : ∀ D H3, Same H H3 → H D = none → H3 D = some (.lst ((List.range xs.length).map g)) → Q (.ref D) H3) : cEnd (Itl K a) σ ix tTrue te H Q := by
  refine comp_map (n := xs.length) (fun i z => xs[i]? = some z) (fun D i ys H3 => Same H H3 ∧ H D = none ∧ ys = (List.range i).map g) (small1000 (by omega))
    (fun D i ys H3 hi hP => ⟨_, xs[i], hs H3 hP.1, by simp [hi]⟩) (fun D i ys H3 z H4 hi hP hy => ⟨hy.1, hy.2 _ (hs H3 hP.1)⟩) (fun D ys H3 hP => ⟨_, hs H3 hP.1, Nat.le_refl _⟩)
    (fun D hD => ⟨same_new hD _, hD, rfl⟩) (fun D i ys H3 z eD hl' hi hz hP R hR => ?_) (fun D ys H3 eD hP => ?_)
  · obtain ⟨s3, nD, rfl⟩ := hP
    refine step i z H3 R hz s3 fun H4 s4 => hR _ H4 (s4 D _ eD) ⟨fun b o e => by rw [upd_ne (ne_of_none e nD)]; exact s4 b o (s3 b o e), nD, ?_⟩
    rw [List.range_succ, List.map_append]
    rfl
  · obtain ⟨s3, nD, rfl⟩ := hP
    exact fin D H3 s3 nD eD
theorem same_sq {K : PySem.W.Frag} {H : Hp} {a : Addr} {xs : List V} (h : H a = some (.lst xs)) : ∀ H3, Same H H3 → SqL K H3 a xs := fun H3 s => SqL.of (s _ _ h)
def riseL (ks : List KT) : Bool := ((List.range (ks.length - 1)).map fun j => (ks.getD j (.int 0)).lt (ks.getD (j + 1) (.int 0))).all id
/-! ### a thing: a key, or none -/
def Thk (N : Addr → Prop) (H : Hp) (o : Option KT) (v : V) : Prop := match o with
  | some t => KeyAt H t v ∧ t.fits 3 = true
  | none => ∃ g : TG, ThAt N H g v ∧ g.neat ∧ g.fits 3 = false
theorem Thk.mono {N : Addr → Prop} {H H' : Hp} {v : V} {o : Option KT} (h : Thk N H o v) (m : Keeps N H H') : Thk N H' o v := by
  cases o with
  | some t => exact ⟨h.1.mono m.tup, h.2⟩
  | none =>
    obtain ⟨g, h1, h2, h3⟩ := h
    exact ⟨g, h1.mono m, h2, h3⟩
theorem Thk.tg {N : Addr → Prop} {H : Hp} {v : V} {o : Option KT} (h : Thk N H o v) : ∃ g : TG, ThAt N H g v ∧ g.neat ∧ g.fits 3 = o.isSome := by
  cases o with
  | some t => exact ⟨t.emb, th_key t v h.1, emb_neat t 3 h.2, by rw [emb_fits]; exact h.2⟩
  | none => exact h
abbrev PR := Option KT × List (Option KT) × List (Option KT)
def LstK (N : Addr → Prop) (H : Hp) (os : List (Option KT)) (a : Addr) : Prop := ∃ xs, H a = some (.lst xs) ∧ ¬ N a ∧ Paired (Thk N H) os xs
def PRow (N : Addr → Prop) (H : Hp) (r : PR) (u : V) : Prop := ∃ t x a b, u = .ref t ∧ H t = some (.tup [x, .ref a, .ref b]) ∧ Thk N H r.1 x ∧ LstK N H r.2.1 a ∧ LstK N H r.2.2 b
theorem LstK.mono {N : Addr → Prop} {H H' : Hp} {os : List (Option KT)} {a : Addr} (h : LstK N H os a) (m : Keeps N H H') : LstK N H' os a := by
  obtain ⟨xs, h1, h2, h3⟩ := h
  exact ⟨xs, m.rest _ _ h1 h2, h2, Paired.mapP h3 fun _ _ z => z.mono m⟩
theorem PRow.mono {N : Addr → Prop} {H H' : Hp} {r : PR} {u : V} (h : PRow N H r u) (m : Keeps N H H') : PRow N H' r u := by
  obtain ⟨t, x, a, b, e, h1, h2, h3, h4⟩ := h
  exact ⟨t, x, a, b, e, m.tup _ _ h1, h2.mono m, h3.mono m, h4.mono m⟩
abbrev PRows (N : Addr → Prop) (H : Hp) : List PR → List V → Prop := Paired (PRow N H)
theorem PRows.mono {N : Addr → Prop} {H H' : Hp} {rs : List PR} {us : List V} (h : PRows N H rs us) (m : Keeps N H H') : PRows N H' rs us := Paired.mapP h fun _ _ z => z.mono m
def kOf (o : Option KT) : KT := o.getD (.int 0)
def sideOk (os : List (Option KT)) : Bool := decide (os.length ≤ 1) && os.all (·.isSome)
def chOk (r : PR) : Bool := sideOk r.2.1 && (sideOk r.2.2 && !eqbL (r.2.1.map kOf) (r.2.2.map kOf))
def patchOk (rs : List PR) : Bool := rs.all (fun r => r.1.isSome) && (riseL (rs.map fun r => kOf r.1) && rs.all chOk)
theorem keys_of {N : Addr → Prop} {H : Hp} : ∀ {os : List (Option KT)} {xs : List V}, Paired (Thk N H) os xs → os.all (·.isSome) = true → KeysAt H (os.map kOf) xs ∧ ∀ t ∈ os.map kOf, t.fits 3 = true
  | _, _, .nil, _ => ⟨.nil, fun t h => by simp at h⟩
  | _, _, .cons (a := o) (l₁ := os) r t, h => by
    rw [List.all_cons, Bool.and_eq_true] at h
    obtain ⟨k, rfl⟩ := Option.isSome_iff_exists.mp h.1
    have ih := keys_of t h.2
    refine ⟨.cons r.1 ih.1, fun z hz => ?_⟩
    rcases List.mem_cons.mp hz with e | e
    · rw [e]; exact r.2
    · exact ih.2 z e
theorem all_range {α : Type} {l : List α} (p : α → Bool) (d : α) : ((List.range l.length).map fun i => p (l.getD i d)).all id = l.all p := by
  have e : (List.range l.length).map (fun i => p (l.getD i d)) = l.map p := by
    apply List.ext_getElem
    · simp
    · intro i h1 h2
      simp at h1
      simp [h1]
  rw [e, List.all_map]
  rfl
section
variable {P : Program} {w : World} {K : PySem.W.Frag} {mg : Str → Option Value} {base : Heap} {f : Addr} {fd : FuncData}
/-! ### rise -/
def spRise : Sp := fun vs H Q _ => ∃ (l : Addr) (us : List V) (ks : List KT), vs = [.ref l] ∧ H l = some (.lst us) ∧ KeysAt H ks us ∧ (∀ t ∈ ks, t.fits 3 = true) ∧ us.length ≤ 100 ∧ ∀ H', Same H H' → Q (.bl (riseL ks)) H'
theorem scRise : FnScope ["keys"] ["keys"] (defScope sRise) := ⟨rfl, rfl, rfl, by decide +kernel, rfl, by decide +kernel, by decide +kernel⟩
theorem ok_rise (F : Fun K "rise" "rise" sRise f fd) (T : Txt mg) (DA : DefOk P w K mg base 7 "ahead" ["one", "other"] spAhead) : FnOk P w K mg base CX0 8 f fd ["keys"] spRise := by
  refine F.ok scRise (fun vs H Q E h => (by obtain ⟨_, _, _, rfl, _⟩ := h; rfl)) (fun cdv A outer s H vs Q E hr h => ?_)
  obtain ⟨l, us, ks, rfl, hl, hk, hf, h100, k⟩ := h
  have lk := hk.length
  refine ⟨_, pss_one (ps_ret (pe_callB (tw_all rfl) rfl T.all tb_all (pa_c (pe_comp [0] ["keys"] rfl (pi_range2 rfl T.range (pa_c pe_int (pa_c (pe_callB call_len_seq rfl T.len tb_len (pa_c (pv 0) pa_nil)) pa_nil))) (fun _ _ _ _ _ => pts_nil)
    (fun _ _ _ _ _ => pe_def DA hr (pa_c (pe_ix (r := rIx K) ix_seq (pv 1) (pe_op op_sub (pv 0) pe_int) (fun _ _ => rfl)) (pa_c (pe_ix (r := rIx K) ix_seq (pv 1) (pv 0) (fun _ _ => rfl)) pa_nil))) ⟨rfl, .inl rfl, rfl, trivial⟩) pa_nil))), ?_⟩
  refine ⟨_, rfl, l, us, rfl, .inl (SqL.of hl), 1, (us.length : Int), rfl, ⟨by omega, by omega, by omega, by omega⟩, ?_⟩
  refine comp_map (n := ((us.length : Int) - 1).toNat) (fun i x => x = .int (1 + (i : Int))) (fun D i ys H3 => Same H H3 ∧ H D = none ∧ ys = ((List.range i).map fun j => (ks.getD j (.int 0)).lt (ks.getD (j + 1) (.int 0))).map V.bl) (small1000 (by omega))
    (fun D i ys H3 hi _ => hi) (fun D i ys H3 x H4 hi _ hy => hy) (fun D ys H3 _ => Nat.le_refl _) (fun D hD => ⟨same_new hD _, hD, rfl⟩) (fun D i ys H3 x eD hl' hi hx hP R hR => ?_) (fun D ys H3 eD hP => ?_)
  · subst hx
    obtain ⟨s3, nD, rfl⟩ := hP
    have hi1 : i + 1 < us.length := by omega
    have ua : us[i]? = some (us[i]'(by omega)) := List.getElem?_eq_getElem (by omega)
    have ub : us[i + 1]? = some us[i + 1] := List.getElem?_eq_getElem hi1
    have e1 : (1 : Int) + (i : Int) = ((i + 1 : Nat) : Int) := by omega
    have e0 : (1 : Int) + (i : Int) - 1 = ((i : Nat) : Int) := by omega
    obtain ⟨a, ea, ka⟩ := hk.get ua
    obtain ⟨b, eb, kb⟩ := hk.get ub
    have hl3 := s3 _ _ hl
    refine ⟨_, rfl, _, rfl, _, _, rfl, rfl, .inl ⟨l, us, _, _, rfl, rfl, SqL.of hl3, (by rw [e0]; exact atI_nat ua), ?_⟩⟩
    refine ⟨_, rfl, _, rfl, .inl ⟨l, us, _, _, rfl, rfl, SqL.of hl3, (by rw [e1]; exact atI_nat ub), ?_⟩⟩
    refine ⟨_, _, a, b, rfl, ka.mono (Same.tups s3) _ _, kb.mono (Same.tups s3) _ _, hf a (List.mem_of_getElem? ea), hf b (List.mem_of_getElem? eb), fun H4 s4 => ?_⟩
    refine hR _ H4 (s4 D _ eD) ⟨fun b o e => by rw [upd_ne (ne_of_none e nD)]; exact s4 b o (s3 b o e), nD, ?_⟩
    rw [List.range_succ, List.map_append, List.map_append]
    congr 1
    show [V.bl (a.lt b)] = [V.bl ((ks.getD i (.int 0)).lt (ks.getD (i + 1) (.int 0)))]
    rw [List.getD_eq_getElem?_getD, List.getD_eq_getElem?_getD, ea, eb]
    rfl
  · obtain ⟨s3, nD, rfl⟩ := hP
    refine ⟨D, _, rfl, SqL.of eD, ?_⟩
    have e : ((us.length : Int) - 1).toNat = ks.length - 1 := by omega
    rw [e]
    exact k H3 s3
/-! ### is_side -/
def spSide : Sp := fun vs H Q _ => ∃ (a : Addr) (xs : List V) (os : List (Option KT)) (N : Addr → Prop), vs = [.ref a] ∧ H a = some (.lst xs) ∧ Paired (Thk N H) os xs ∧ xs.length ≤ 100 ∧ ∀ H', Same H H' → Q (.bl (sideOk os)) H'
theorem scSide : FnScope ["things"] ["things"] (defScope sIsSide) := ⟨rfl, rfl, rfl, by decide +kernel, rfl, by decide +kernel, by decide +kernel⟩
theorem ok_side (F : Fun K "is_side" "is_side" sIsSide f fd) (T : Txt mg) (DI : DefOk P w K mg base 6 "is_key" ["thing"] spIsKeyG) : FnOk P w K mg base CX0 7 f fd ["things"] spSide := by
  refine F.ok scSide (fun vs H Q E h => (by obtain ⟨_, _, _, _, rfl, _⟩ := h; rfl)) (fun cdv A outer s H vs Q E hr h => ?_)
  obtain ⟨a, xs, os, N, rfl, ha, hp, hl, k⟩ := h
  have ln := Paired.length hp
  refine ⟨_, pss_one (ps_ret (pe_and (pe_cmpR op_le (pe_callB call_len_seq rfl T.len tb_len (pa_c (pv 0) pa_nil)) pe_int (nomark _))
    (pe_one (pe_callB (tw_all rfl) rfl T.all tb_all (pa_c (pe_comp [] [] rfl (pi_list (pv 0)) (fun _ _ _ _ _ => pts_nil) (fun _ _ _ _ _ => pe_def DI hr (pa_c (pv 0) pa_nil)) trivial) pa_nil))))), ?_⟩
  refine ⟨_, rfl, a, xs, rfl, .inl (SqL.of ha), _, _, rfl, rfl, _, rfl, ?_⟩
  have e0 : decide ((xs.length : Int) ≤ 1) = decide (os.length ≤ 1) := decide_eq_decide.mpr (by omega)
  rw [e0]
  unfold sideOk at k
  cases hd : decide (os.length ≤ 1) with
  | false =>
    rw [hd] at k
    exact iteF (k H (Same.refl H))
  | true =>
    rw [hd, Bool.true_and] at k
    refine iteT ⟨_, rfl, a, rfl, ⟨_, SqL.of ha⟩, comp_over (fun i => .bl (os.getD i none).isSome) (SqL.of ha) (same_sq ha) (by omega) (fun i x H3 R hx s3 hR => ?_) (fun D H3 s3 nD hD => ?_)⟩
    · obtain ⟨o, eo, ho⟩ := Paired.ix hp hx
      obtain ⟨g, g1, g2, g3⟩ := ho.tg
      refine ⟨_, rfl, x, g, N, rfl, g1.mono (Keeps.same s3), g2, fun H4 s4 => ?_⟩
      rw [g3]
      have := hR H4 s4
      rw [List.getD_eq_getElem?_getD, eo] at this
      exact this
    · refine ⟨D, (List.range xs.length).map (fun i => (os.getD i none).isSome), rfl, SqL.of (by rw [hD, List.map_map]; rfl), ?_⟩
      rw [← ln, all_range (fun o : Option KT => o.isSome)]
      exact k H3 s3
end
end Tw
set_option Elab.async false
set_option linter.all false
set_option maxRecDepth 100000
set_option maxHeartbeats 8000000
namespace Tw
open PySem PySem.Spec L2 PyProof.Rows
section
variable {X : Cx}
/-- two lists of keys, != -/
theorem op_neKL {k : Nat} (hr : Room k X.A) : OpR X (compareOp .NotEq) (fun x y H Q => ∃ (a b : Addr) (xs ys : List V) (ts us : List KT), x = .ref a ∧ y = .ref b ∧ SqL X.K H a xs ∧ SqL X.K H b ys ∧ KeysAt H ts xs ∧ KeysAt H us ys ∧ (∀ t ∈ ts, t.fits 3 = true) ∧ Q (.bl (!eqbL ts us)) H) := by
  intro pins s σ H x y v u Q I rx ry h
  obtain ⟨a, b, xs, ys, ts, us, rfl, rfl, h1, h2, k1, k2, hf, q⟩ := h
  cases rx
  cases ry
  obtain ⟨its, r1, p1, z1⟩ := I.list h1
  obtain ⟨its2, r2, p2, z2⟩ := I.list h2
  have l1 := r1.length
  have l2 := r2.length
  have m1 := k1.length
  have m2 := k2.length
  have un := hr.un
  by_cases hl : its.length = its2.length
  · refine PySem.SeqAt.RcNeAt.lists (e := fun j => (ts.getD j (.int 0)).eqb (us.getD j (.int 0))) p1.isList p2.isList (by simpa using hl) (by omega) (fun j g1 g2 => ?_) X.prog X.w X.xe _ ⟨.bl _, H, I, rfl, ?_⟩
    · have j1 : j < xs.length := by simp at g1; omega
      have j2 : j < ys.length := by simp at g2; omega
      obtain ⟨t1, e1, a1⟩ := k1.get (List.getElem?_eq_getElem j1)
      obtain ⟨t2, e2, a2⟩ := k2.get (List.getElem?_eq_getElem j2)
      obtain ⟨u1, f1, b1⟩ := r1.get (List.getElem?_eq_getElem j1)
      obtain ⟨u2, f2, b2⟩ := r2.get (List.getElem?_eq_getElem j2)
      have q1 : its.toArray[j] = u1 := by
        have : its.toArray[j]? = some u1 := by simpa using f1
        rw [Array.getElem?_eq_getElem g1] at this
        exact Option.some.inj this
      have q2 : its2.toArray[j] = u2 := by
        have : its2.toArray[j]? = some u2 := by simpa using f2
        rw [Array.getElem?_eq_getElem g2] at this
        exact Option.some.inj this
      rw [q1, q2, List.getD_eq_getElem?_getD, List.getD_eq_getElem?_getD, e1, e2]
      have dp := fits_depth t1 3 (hf t1 (List.mem_of_getElem? e1))
      exact eqAt_key t1.depth t1 t2 _ _ _ (Nat.le_refl _) (kval_of I _ _ _ a1 b1) (kval_of I _ _ _ a2 b2) (by show X.A.units + 1 + _ < _; omega)
    · have e := eqbL_range ts us
      have hmin : min ts.length us.length = its.toArray.size := by simp; omega
      rw [hmin, show (ts.length == us.length) = true by simp; omega, Bool.and_true] at e
      rw [e]
      exact q
  · refine PySem.SeqAt.RcNeAt.lists_lengths p1.isList p2.isList (by simpa using hl) (by omega) X.prog X.w X.xe _ ⟨.bl _, H, I, rfl, ?_⟩
    have e := eqbL_range ts us
    rw [show (ts.length == us.length) = false by simp; omega, Bool.and_false] at e
    rw [← e] at q
    exact q
end
section
variable {P : Program} {w : World} {K : PySem.W.Frag} {mg : Str → Option Value} {base : Heap} {f : Addr} {fd : FuncData}
/-! ### is_change -/
def spChange : Sp := fun vs H Q _ => ∃ (u : V) (r : PR) (N : Addr → Prop), vs = [u] ∧ PRow N H r u ∧ r.2.1.length ≤ 100 ∧ r.2.2.length ≤ 100 ∧ ∀ H', Same H H' → Q (.bl (chOk r)) H'
theorem scChange : FnScope ["row"] ["row"] (defScope sIsChange) := ⟨rfl, rfl, rfl, by decide +kernel, rfl, by decide +kernel, by decide +kernel⟩
theorem ok_change (F : Fun K "is_change" "is_change" sIsChange f fd) (T : Txt mg) (DS : DefOk P w K mg base 7 "is_side" ["things"] spSide) : FnOk P w K mg base CX0 8 f fd ["row"] spChange := by
  refine F.ok scChange (fun vs H Q E h => (by obtain ⟨_, _, _, rfl, _⟩ := h; rfl)) (fun cdv A outer s H vs Q E hr h => ?_)
  obtain ⟨u, r, N, rfl, hu, l1, l2, k⟩ := h
  obtain ⟨t, x, a, b, rfl, ht, hx, ⟨xs, ha, na, pa⟩, ys, hb, nb, pb⟩ := hu
  have la := Paired.length pa
  have lb := Paired.length pb
  refine ⟨_, pss_one (ps_ret (pe_and (pe_def DS hr (pa_c (pe_ix ix_tup (pv 0) pe_int (fun _ _ => rfl)) pa_nil)) (pe_and (pe_def DS hr (pa_c (pe_ix ix_tup (pv 0) pe_int (fun _ _ => rfl)) pa_nil))
    (pe_one (pe_cmpR (op_neKL hr) (pe_ix ix_tup (pv 0) pe_int (fun _ _ => rfl)) (pe_ix ix_tup (pv 0) pe_int (fun _ _ => rfl)) (nomark _)))))), ?_⟩
  refine ⟨_, rfl, t, _, _, _, rfl, rfl, SqT.of ht, rfl, a, xs, r.2.1, N, rfl, ha, pa, by omega, fun H1 s1 => ?_⟩
  unfold chOk at k
  cases h1 : sideOk r.2.1 with
  | false =>
    rw [h1] at k
    exact ⟨_, rfl, iteF (k H1 s1)⟩
  | true =>
    rw [h1, Bool.true_and] at k
    have ht1 := s1 _ _ ht
    refine ⟨_, rfl, iteT ⟨_, rfl, t, _, _, _, rfl, rfl, SqT.of ht1, rfl, b, ys, r.2.2, N, rfl, s1 _ _ hb, Paired.mapP pb fun _ _ z => z.mono (Keeps.same s1), by omega, fun H2 s2 => ?_⟩⟩
    have s12 := s1.trans s2
    cases h2 : sideOk r.2.2 with
    | false =>
      rw [h2] at k
      exact ⟨_, rfl, iteF (k H2 s12)⟩
    | true =>
      rw [h2, Bool.true_and] at k
      have ht2 := s12 _ _ ht
      unfold sideOk at h1 h2
      rw [Bool.and_eq_true] at h1 h2
      obtain ⟨ka, fa⟩ := keys_of pa h1.2
      obtain ⟨kb, fb⟩ := keys_of pb h2.2
      refine ⟨_, rfl, iteT ⟨_, rfl, t, _, _, _, rfl, rfl, SqT.of ht2, rfl, _, rfl, t, _, _, _, rfl, rfl, SqT.of ht2, rfl, a, b, xs, ys, _, _, rfl, rfl, SqL.of (s12 _ _ ha), SqL.of (s12 _ _ hb), ka.mono (Same.tups s12), kb.mono (Same.tups s12), fa, k H2 s12⟩⟩
end
end Tw
set_option Elab.async false
set_option linter.all false
set_option maxRecDepth 100000
set_option maxHeartbeats 8000000
namespace Tw
open PySem PySem.Spec L2 PyProof.Rows
theorem prow_spots {N : Addr → Prop} {H : Hp} : ∀ {rs : List PR} {us : List V}, PRows N H rs us → ∃ zs : List V, Paired (fun u z => ∃ t a b, u = .ref t ∧ H t = some (.tup [z, .ref a, .ref b])) us zs ∧ Paired (Thk N H) (rs.map (·.1)) zs
  | _, _, .nil => ⟨[], .nil, .nil⟩
  | _, _, .cons r t => by
    obtain ⟨zs, h1, h2⟩ := prow_spots t
    obtain ⟨tt, x, a, b, e, h3, h4, _⟩ := r
    exact ⟨x :: zs, .cons ⟨tt, a, b, e, h3⟩ h1, .cons h4 h2⟩
theorem range_map {α : Type} (l : List α) (d : α) : (List.range l.length).map (fun i => l.getD i d) = l := by
  apply List.ext_getElem
  · simp
  · intro i h1 h2
    simp [h2]
section
variable {P : Program} {w : World} {K : PySem.W.Frag} {mg : Str → Option Value} {base : Heap} {f : Addr} {fd : FuncData}
/-! ### patch_ok -/
def spPatchOk : Sp := fun vs H Q _ => ∃ (l : Addr) (us : List V) (rs : List PR) (N : Addr → Prop), vs = [.ref l] ∧ H l = some (.lst us) ∧ PRows N H rs us ∧ us.length ≤ 100 ∧ (∀ r ∈ rs, r.2.1.length ≤ 100 ∧ r.2.2.length ≤ 100) ∧ ∀ H', Same H H' → Q (.bl (patchOk rs)) H'
theorem scPatchOk : FnScope ["rows", "keys"] ["rows"] (defScope sPatchOk) := ⟨rfl, rfl, rfl, by decide +kernel, rfl, by decide +kernel, by decide +kernel⟩
theorem ok_patchok (F : Fun K "patch_ok" "patch_ok" sPatchOk f fd) (T : Txt mg) (DI : DefOk P w K mg base 6 "is_key" ["thing"] spIsKeyG) (DR : DefOk P w K mg base 8 "rise" ["keys"] spRise) (DC : DefOk P w K mg base 8 "is_change" ["row"] spChange) :
    FnOk P w K mg base CX0 9 f fd ["rows"] spPatchOk := by
  refine F.ok scPatchOk (fun vs H Q E h => (by obtain ⟨_, _, _, _, rfl, _⟩ := h; rfl)) (fun cdv A outer s H vs Q E hr h => ?_)
  obtain ⟨l, us, rs, N, rfl, hl, hp, h100, hsm, k⟩ := h
  have nd := scPatchOk.nd
  have ln := Paired.length hp
  have hr6 := hr.mono (show 6 ≤ 8 by omega)
  obtain ⟨zs, z1, z2⟩ := prow_spots hp
  have lz := Paired.length z1
  refine ⟨_, pss_cons (ps_setComp (i := 1) [] [] nd rfl rfl rfl (pi_list (pv 0)) (fun _ _ _ _ _ => pts_nil) (fun _ _ _ _ _ => pe_ix (r := rIxT K) ix_tup (pv 0) pe_int (fun _ _ => rfl)) trivial)
    (pss_one (ps_ret (pe_and (pe_callB (tw_all rfl) rfl T.all tb_all (pa_c (pe_comp [] [] rfl (pi_list (pv 1)) (fun _ _ _ _ _ => pts_nil) (fun _ _ _ _ _ => pe_def DI hr6 (pa_c (pv 0) pa_nil)) trivial) pa_nil))
      (pe_and (pe_def DR hr (pa_c (pv 1) pa_nil)) (pe_one (pe_callB (tw_all rfl) rfl T.all tb_all (pa_c (pe_comp [] [] rfl (pi_list (pv 0)) (fun _ _ _ _ _ => pts_nil) (fun _ _ _ _ _ => pe_def DC hr (pa_c (pv 0) pa_nil)) trivial) pa_nil))))))), ?_⟩
  refine ⟨_, rfl, l, rfl, ⟨_, SqL.of hl⟩, comp_over (fun i => zs.getD i .non) (SqL.of hl) (same_sq hl) (by omega) (fun i u H3 R hu s3 hR => ?_) (fun D H3 s3 nD hD => ?_)⟩
  · have hi : i < zs.length := by have := (List.getElem?_eq_some_iff.mp hu).1; omega
    obtain ⟨u', eu, t, a, b, e1, ht⟩ := Paired.ix z1 (List.getElem?_eq_getElem hi)
    rw [hu] at eu
    cases eu
    subst e1
    refine ⟨_, rfl, t, _, _, _, rfl, rfl, SqT.of (s3 _ _ ht), rfl, ?_⟩
    have := hR H3 (Same.refl H3)
    rw [List.getD_eq_getElem?_getD, List.getElem?_eq_getElem hi] at this
    exact this
  rw [lz, range_map] at hD
  have z3 : Paired (Thk N H3) (rs.map (·.1)) zs := Paired.mapP z2 fun _ _ z => z.mono (Keeps.same s3)
  have lz2 := Paired.length z3
  rw [List.length_map] at lz2
  refine ⟨_, rfl, D, rfl, ⟨_, SqL.of hD⟩, comp_over (fun i => .bl ((rs.map (·.1)).getD i none).isSome) (SqL.of hD) (same_sq hD) (by omega) (fun i x H4 R hx s4 hR => ?_) (fun D2 H4 s4 nD2 hD2 => ?_)⟩
  · obtain ⟨o, eo, ho⟩ := Paired.ix z3 hx
    obtain ⟨g, g1, g2, g3⟩ := ho.tg
    refine ⟨_, rfl, x, g, N, rfl, g1.mono (Keeps.same s4), g2, fun H5 s5 => ?_⟩
    rw [g3]
    have := hR H5 s5
    rw [List.getD_eq_getElem?_getD, eo] at this
    exact this
  refine ⟨D2, (List.range zs.length).map (fun i => ((rs.map (·.1)).getD i none).isSome), rfl, SqL.of (by rw [hD2, List.map_map]; rfl), ?_⟩
  have e1 : ((List.range zs.length).map (fun i => ((rs.map (·.1)).getD i none).isSome)).all id = rs.all fun r => r.1.isSome := by
    have : zs.length = (rs.map (·.1)).length := by rw [List.length_map]; omega
    rw [this, all_range (fun o : Option KT => o.isSome), List.all_map]
    rfl
  rw [e1]
  have s14 := s3.trans s4
  unfold patchOk at k
  cases h1 : rs.all (fun r => r.1.isSome) with
  | false =>
    rw [h1] at k
    exact ⟨_, rfl, iteF (k H4 s14)⟩
  | true =>
    rw [h1, Bool.true_and] at k
    have hall : (rs.map (·.1)).all (·.isSome) = true := by rw [List.all_map]; exact h1
    obtain ⟨kz, fz⟩ := keys_of z3 hall
    refine ⟨_, rfl, iteT ⟨_, rfl, D, zs, _, rfl, s4 _ _ hD, kz.mono (Same.tups s4), fz, by omega, fun H5 s5 => ?_⟩⟩
    have s15 := s14.trans s5
    have e2 : (rs.map (·.1)).map kOf = rs.map fun r => kOf r.1 := by rw [List.map_map]; rfl
    rw [e2]
    cases h2 : riseL (rs.map fun r => kOf r.1) with
    | false =>
      rw [h2] at k
      exact ⟨_, rfl, iteF (k H5 s15)⟩
    | true =>
      rw [h2, Bool.true_and] at k
      have hl5 := s15 _ _ hl
      refine ⟨_, rfl, iteT ⟨_, rfl, l, rfl, ⟨_, SqL.of hl5⟩, comp_over (fun i => .bl (chOk (rs.getD i (none, [], [])))) (SqL.of hl5) (same_sq hl5) (by omega) (fun i u H6 R hu s6 hR => ?_) (fun D3 H6 s6 nD3 hD3 => ?_)⟩⟩
      · obtain ⟨r, er, hrow⟩ := Paired.ix hp hu
        have sm := hsm r (List.mem_of_getElem? er)
        refine ⟨_, rfl, u, r, N, rfl, hrow.mono (Keeps.same (s15.trans s6)), sm.1, sm.2, fun H7 s7 => ?_⟩
        have := hR H7 s7
        rw [List.getD_eq_getElem?_getD, er] at this
        exact this
      · refine ⟨D3, (List.range us.length).map (fun i => chOk (rs.getD i (none, [], []))), rfl, SqL.of (by rw [hD3, List.map_map]; rfl), ?_⟩
        rw [← ln, all_range chOk]
        exact k H6 (s15.trans s6)
end
end Tw
set_option Elab.async false
set_option linter.all false
set_option maxRecDepth 100000
set_option maxHeartbeats 4000000
namespace Tw
open PySem PySem.Spec L2 PyProof.Rows
section
variable {X : Cx}
theorem tb_sortedG : bootBuiltins "sorted" = some (.builtin "sorted") := by decide +kernel
/-- {}, to be a dict of keys of any kind -/
def tQNew : TE := fun _ H Q => ∀ (p : Addr) (H' : Hp), H p = none → SameX p H H' → Same H H' → DkAt X.w H' p [] → Q (.ref p) H'
theorem pe_qnew {pos : Pos} : PE X (.Dict [] [] pos) (tQNew (X := X)) := fun pins s σ H Q I h => by
  have hn := I.hok.fresh (Nat.le_refl s.heap.objs.size)
  refine wpAny_Dict_empty ⟨.ref s.heap.objs.size, _, I.laid (a := s.heap.objs.size) (o := dkO s.heap.objs.size #[]) (t' := s.toks) (fun _ _ q => Heap.get?_push_of_some _ q) (Nat.le_refl _) (dk_ok (beq_eq_false_iff_ne.mpr (Ne.symm (Nat.ne_of_lt I.big))) (Nat.zero_le _) ⟨_, 0, Heap.get?_push_size _ rfl, ⟨rfl, rfl, rfl⟩, rfl⟩), rfl, ?_⟩
  exact h _ _ hn (fun b o e n => by rw [upd_ne n]; exact e) (same_new hn _) ⟨⟨#[], upd_same, .nil⟩, fun z hz => by simp at hz, .nil⟩
/-- d[y] = v -/
def sQPut (w : World) (td ty tv : TE) : TS := fun D σ H => tv σ H fun v H1 => td σ H1 fun x H2 => ty σ H2 fun y H3 => ∃ (a : Addr) (xs : List (KT × V × V)) (t : KT), x = .ref a ∧ DkAt w H3 a xs ∧ xs.length < 1000 ∧ KeyAt H3 t y ∧ t.depth ≤ 3 ∧ ∀ H4, SameX a H3 H4 → DkAt w H4 a (putQ xs t y v) → D.nx σ H4
theorem ps_qput {o i value : Expr} {pos pos' : Pos} {td ty tv : TE} (hu : X.A.units + 4 < cLine) (ho : PE X o td) (hi : PE X i ty) (hv : PE X value tv) (hs : swapsWith value (some (.Subscript o i pos')) pos.line X.env = pure false) :
    PS X (.Assign [.Subscript o i pos'] value pos) (sQPut X.w td ty tv) := by
  intro pins s σ H D I h
  refine wpAny_Assign_Subscript (thn (hv pins s σ H _ I h) fun r s1 ⟨v, H1, I1, rv, q1⟩ => thn (ho pins s1 σ H1 _ I1 q1) fun u s2 ⟨x, H2, I2, rx, q2⟩ => thn (hi pins s2 σ H2 _ I2 q2) fun iv s3 ⟨y, H3, I3, ry, a, xs, t, ex, dk, lx, ky, dt, q3⟩ => ?_) hs
  subst ex
  obtain rfl : u = Value.ref a := rx
  exact q_set hu I3 dk lx ky dt ry rv fun s4 H4 I4 sx dk4 => ⟨σ, H4, I4, q3 H4 sx dk4⟩
/-- what sorted(.., key = g) tells -/
def SortK (ts : List KT) (H1 : Hp) (Q : VK) : Prop := ∀ (D : Addr) (ws : List V) (rs : List KT) (H' : Hp), Same H1 H' → H1 D = none → H' D = some (.lst ws) → KeysAt H' rs ws → rs.Perm ts → rs.Pairwise (fun a b => b.lt a = false) → Q (.ref D) H'
def tSortQ (w : World) (t : TA) : TE := fun σ H Q => t σ H fun vs H1 => ∃ (d : Addr) (xs : List (KT × V × V)), vs = [.ref d] ∧ DkAt w H1 d xs ∧ (∀ x ∈ xs, x.1.fits 3 = true) ∧ xs.length < 64 ∧ SortK (xs.map (·.1)) H1 Q
theorem pe_sortQ {g : KT → KT} (hg : Kg g) (dg : ∀ t, (g t).depth ≤ 2 * t.depth + 2) {k : Nat} {p pos kp p2 : Pos} {e : Expr} {x x0 : Str} {t : TA} (DS : DefOk X.prog X.w X.K X.mg X.base k x [x0] (spKg g)) (hr : Room (k + 2) X.A) (hgl : Gl X "sorted") (hm : X.mg "sorted" = none) (hgx : Gl X x) (ha : PA X [e] t) (hdx : (x == ("__debug__" : Str)) = false := by decide)
    (he : backTo pos (starEach [e] X.env) = (false, eval e X.env) :: backTo pos (starEach [] X.env) := by rfl) (hplain : (backTo pos (starEach [e] X.env)).any (·.1) = false := by rfl) :
    PE X (.Call (.Name "sorted" p) [e] [⟨some (Str.ofString "key"), .Name x p2, kp⟩] pos) (tSortQ X.w t) := by
  intro pins s σ H Q I h
  obtain ⟨f, fd, F, b, kp', m⟩ := DS.ex
  refine wpAny_Call_Name_kw (ld_blt I hgl hm tb_sortedG (callWith_kw (thn (ha pos pins s σ H _ I h) fun us s1 ⟨vs, H1, I1, r, d, xs, e1, dk, hf, h64, q⟩ => ?_) he hplain))
  have pk : PK X [⟨some (Str.ofString "key"), .Name x p2, kp⟩] (tCons (tC (.ref f)) tNil) := pk_cons (pe_glob (v := .ref f) (pos := p2) hgx m rfl hdx) pk_nil
  refine thn (pk pos pins s1 σ H1 (fun zs H2 => zs = [.ref f] ∧ H2 = H1) I1 ⟨rfl, rfl⟩) fun zs s2 ⟨zv, H2, I2, rz, ez, eH⟩ => ?_
  subst e1 ez eH
  obtain ⟨u, rfl, ru⟩ := vals1 r
  obtain ⟨u2, rfl, ru2⟩ := vals1 rz
  cases ru
  cases ru2
  have ka : KeysAt H2 (xs.map (·.1)) (xs.map (·.2.1)) := by
    have := dk.key
    clear q h64 hf dk
    induction xs with
    | nil => exact .nil
    | cons z xs ih => exact .cons (this z (List.mem_cons_self ..)).1 (ih fun z hz => this z (List.mem_cons_of_mem _ hz))
  exact sorted_keyG hg dg hr F b I2 ka (fun t ht => by obtain ⟨z, hz, rfl⟩ := List.mem_map.mp ht; exact hf z hz) (by rw [List.length_map]; exact h64) (fun Q' hq => q_collect hr.hd I2 dk hq) q
end
end Tw
set_option Elab.async false
set_option linter.all false
set_option maxRecDepth 100000
set_option maxHeartbeats 8000000
namespace Tw
open PySem PySem.Spec L2 PyProof.Rows
theorem kg_rk : Kg KT.rk := ⟨plt_rk, cmp_rk, 3, fun t => by cases t <;> (rw [KT.rk]; exact ⟨_, _, rfl, rfl⟩)⟩
/-! ### the law's keys: drawn, put into a dict, sorted -/
/-- keys that rise -/
def RisK (ts : List KT) : Prop := ts.Pairwise fun a b => a.lt b = true
theorem ris_of {rs : List KT} (nd : rs.Nodup) (h : rs.Pairwise fun a b => b.lt a = false) : RisK rs := by
  induction rs with
  | nil => exact .nil
  | cons a rs ih =>
    rw [List.nodup_cons] at nd
    rw [List.pairwise_cons] at h
    refine List.pairwise_cons.mpr ⟨fun b hb => ?_, ih nd.2 h.2⟩
    cases q : a.lt b with
    | true => rfl
    | false =>
      have e := lt_total a b q (h.1 b hb)
      exact absurd (e ▸ hb) nd.1
theorem hu4 {k : Nat} {A : Around} (r : Room k A) : A.units + 4 < cLine := by have := r.un; omega
theorem sx_free {p D : Addr} {H H' : Hp} (s : SameX p H H') (w : WellAt H' p) (n : H' D = none) : H D = none := by
  cases e : H D with
  | none => rfl
  | some o =>
    by_cases h : D = p
    · subst h
      obtain ⟨xs, e'⟩ := w.some
      rw [n] at e'
      cases e'
    · rw [s D o e h] at n
      cases n
section
variable {P : Program} {w : World} {K : PySem.W.Frag} {mg : Str → Option Value} {base : Heap} {f : Addr} {fd : FuncData}
def spKeys : Sp := fun vs H Q _ => ∃ (p : Addr) (n : Nat), vs = [.ref p, .int (n : Int)] ∧ WellAt H p ∧ n < 64 ∧ ∀ (D : Addr) (ws : List V) (ts : List KT) (H' : Hp), H D = none → H' D = some (.lst ws) → KeysAt H' ts ws → (∀ t ∈ ts, t.fits 3 = true) → RisK ts → ts.length ≤ n → WellAt H' p → SameX p H H' → Q (.ref D) H'
theorem scKeys : FnScope ["_law_well_here", "_law_many", "_law_found", "_law_j"] ["_law_well_here", "_law_many"] (defScope sKeys) := ⟨rfl, rfl, rfl, by decide +kernel, rfl, by decide +kernel, by decide +kernel⟩
theorem ok_keys (F : Fun K "_law_keys" "_law_keys" sKeys f fd) (T : Txt mg) (DK : DefOk P w K mg base 6 "_law_key" ["_law_well_here", "_law_room"] (spKey 4)) (DR : DefOk P w K mg base 6 "_law_rank" ["_law_spot"] (spRank 5)) :
    FnOk P w K mg base CX0 9 f fd ["_law_well_here", "_law_many"] spKeys := by
  refine F.ok scKeys (fun vs H Q E h => (by obtain ⟨_, _, rfl, _⟩ := h; rfl)) (fun cdv A outer s H vs Q E hr h => ?_)
  obtain ⟨p, n, rfl, hw, hn, k⟩ := h
  have nd := scKeys.nd
  have hr6 := hr.mono (show 6 ≤ 8 by omega)
  have DS : DefOk P w K mg base 6 "_law_rank" ["_law_spot"] (spKg KT.rk) := by
    obtain ⟨g, gd, FG, b, kp, m⟩ := DR.ex
    exact ⟨g, gd, FG.imp fun vs H Q E h => by
      obtain ⟨v, t, e, a, c, d⟩ := h
      have := fits_depth t 3 c
      exact ⟨v, t, 3, e, a, c, by omega, d⟩, b, kp, m⟩
  refine ⟨_, pss_cons (ps_set (i := 2) nd rfl (Or.inl rfl) pe_qnew)
    (pss_cons (ps_for PassesOwn.never rfl (pi_range1 rfl T.range (pa_c (pv 1) pa_nil)) (pg_name (i := 3) nd rfl (Or.inl rfl))
      (pss_one (ps_qput (hu4 hr) (pv 2) (pe_def DK hr6 (pa_c (pv 0) (pa_c pe_int pa_nil))) pe_bl rfl)))
    (pss_one (ps_ret (pe_sortQ kg_rk depth_rk DS hr rfl T.sorted rfl (pa_c (pv 2) pa_nil))))), ?_⟩
  intro fa H1 nfa _ s1 dk1
  obtain ⟨xsw, hxw⟩ := hw.some
  have hpf : p ≠ fa := ne_of_none hxw nfa
  refine ⟨_, rfl, (n : Int), rfl, by omega, by omega, for_range (n := (n : Int).toNat) (fun i σ H' => ∃ (xs : List (KT × V × V)) (o : Option V), σ = [some (.ref p), some (.int (n : Int)), some (.ref fa), o] ∧ DkAt w H' fa xs ∧ xs.length ≤ i ∧ (∀ x ∈ xs, x.1.fits 3 = true) ∧ WellAt H' p ∧ SameX p H H')
    ⟨[], none, rfl, dk1, Nat.le_refl _, fun x hx => by simp at hx, hw.same s1, SameX.of s1⟩ (fun i σ H' hi hP => ?_) (fun σ H' hP => ?_)⟩
  · obtain ⟨xs, o, rfl, dk, lx, fx, hw', sx⟩ := hP
    refine ⟨_, rfl, _, rfl, p, 3, rfl, hw', by omega, fun v t H3 kv ft hw3 sx3 => ?_⟩
    have tu := sx3.tupsW hw'
    refine ⟨fa, xs, t, rfl, dk.but sx3 tu (Ne.symm hpf), by omega, kv, fits_depth t 3 ft, fun H4 sx4 dk4 => ⟨_, _, rfl, dk4, by have := putQ_len xs t v (.bl true); omega, fun x hx => ?_, hw3.stay sx4 hpf, fun b ob e nb => ?_⟩⟩
    · have : x.1 ∈ (putQ xs t v (.bl true)).map (·.1) := List.mem_map_of_mem hx
      rw [putQ_keys] at this
      split at this
      · obtain ⟨z, hz, e⟩ := List.mem_map.mp this
        rw [← e]
        exact fx z hz
      · rcases List.mem_append.mp this with q | q
        · obtain ⟨z, hz, e⟩ := List.mem_map.mp q
          rw [← e]
          exact fx z hz
        · rw [List.mem_singleton.mp q]
          exact ft
    · exact sx4 b ob (sx3 b ob (sx b ob e nb) nb) (ne_of_none e nfa)
  · obtain ⟨xs, o, rfl, dk, lx, fx, hw', sx⟩ := hP
    refine ⟨_, rfl, fa, xs, rfl, dk, fx, by omega, fun D ws rs H5 s5 nD hD ka pm pw => ?_⟩
    have lr := pm.length_eq
    rw [List.length_map] at lr
    refine k D ws rs H5 (sx_free sx hw' nD) hD ka (fun t ht => ?_) (ris_of (pm.nodup_iff.mpr dk.nd) pw) (by omega) (hw'.same s5) (sx.trans (SameX.of s5))
    obtain ⟨z, hz, e⟩ := List.mem_map.mp (pm.mem_iff.mp ht)
    rw [← e]
    exact fx z hz
end
end Tw
set_option Elab.async false
set_option linter.all false
set_option maxRecDepth 100000
set_option maxHeartbeats 4000000
namespace Tw
open PySem PySem.Spec L2 PyProof.Rows
/-! ### >= of keys -/
def GeAt (A : Around) (s : Shared) (v u : Value) (b : Bool) : Prop :=
  ∀ (prog : Program) (w : World) (E : Value → Shared → Prop) (Q : Value → Shared → Prop), Q (.bool b) s → wpAny (model prog w) A (richCompare .GtE v u) Q E s
section
open PySem.SeqAt
open PySem.AutoSeq1 (wpAny_loadPart')
open PySem.MeetsSeq PySem.MeetsSeq2 PySem.MeetsSeq3
theorem tuple_ge_keys (l b : Addr) (items items2 : Array Value) (n n2 : Nat) (dd dd2 : Option Addr) (sl sl2 : Array (Option Value)) (ts us : List KT) :
    Meets (Builtin.«tuple.__ge__» ⟨[.ref l, .ref b], []⟩)
      (fun A R s => s.heap.get? l = some { cls := .type "tuple", dict := dd, data := .seq items n, slots := sl } ∧ s.heap.get? b = some { cls := .type "tuple", dict := dd2, data := .seq items2 n2, slots := sl2 } ∧
        KVals s.heap ts items.toList ∧ KVals s.heap us items2.toList ∧ cmpL ts us = true ∧
        (∀ x y v u, x ∈ ts → KVal s.heap x v → KVal s.heap y u → EqAt A.in1 s v u (x.eqb y)) ∧ (∀ x y v u, x ∈ ts → KVal s.heap x v → KVal s.heap y u → x.cmp y = true → GeAt A.in1 s v u (!x.plt y)) ∧
        R (.ok (.ret (.bool (!pltL ts us)))) s) :=
  .of_wp fun prog w A R s h => by
    obtain ⟨hp, g, d, tk, os⟩ := s; obtain ⟨hl, hb, hi, hj, hc, hE, hL, h⟩ := h
    have f2 := AutoSeq1.sub_tuple_tuple
    have z1 : items.size = ts.length := by rw [hi.length]; simp
    have z2 : items2.size = us.length := by rw [hj.length]; simp
    wp_walk using wpAny_loadPart' hl, wpAny_loadPart' hb, wpAny_forIn_list _ (fun rest b s' => b.1 = none ∧ s' = ⟨hp, g, d, tk, os⟩ ∧ ∃ (vs ws : List Value) (ts' us' : List KT), rest = vs.zip ws ∧
      KVals hp ts' vs ∧ KVals hp us' ws ∧ (∀ x ∈ ts', x ∈ ts) ∧ cmpL ts' us' = true ∧ ts'.length + items2.size = us'.length + items.size ∧ R (.ok (.ret (.bool (!pltL ts' us')))) ⟨hp, g, d, tk, os⟩) _
    case turn =>
      rintro ⟨y, x⟩ rest b s' ⟨hb', rfl, vs, ws, ts', us', hz, hvi, hwi, hin, hcm, hlen, hR⟩
      cases ts' with
      | nil => rw [KVals] at hvi; subst hvi; rw [List.zip_nil_left] at hz; cases hz
      | cons a ts' =>
        cases us' with
        | nil => rw [KVals] at hwi; subst hwi; rw [List.zip_nil_right] at hz; cases hz
        | cons c us' =>
          rw [KVals] at hvi hwi
          obtain ⟨v, vr, rfl, ka, hvi'⟩ := hvi
          obtain ⟨u, ur, rfl, kc, hwi'⟩ := hwi
          rw [List.zip_cons_cons] at hz
          injection hz with hyx hrest
          injection hyx with hy hx
          subst hy hx
          rw [pltL] at hR
          rw [cmpL] at hcm
          simp only [List.length_cons] at hlen
          have he := hE a c y x (hin a List.mem_cons_self) ka kc
          refine wpAny_bind (he prog w _ _ ?_)
          cases hq : a.eqb c with
          | true =>
            rw [hq, if_pos rfl] at hR hcm
            wp_walk
            exact ⟨rfl, rfl, _, _, _, _, hrest, hvi', hwi', fun z hz => hin z (List.mem_cons_of_mem _ hz), hcm, by omega, hR⟩
          | false =>
            rw [hq, if_neg Bool.false_ne_true] at hR hcm
            have hri := hL a c y x (hin a List.mem_cons_self) ka kc hcm prog w
            wp_walk using hri
            exact ⟨_, rfl, by simpa using hR⟩
    case fin =>
      rintro ⟨b1, b2⟩ s' ⟨hb', rfl, vs, ws, ts', us', hz, hvi, hwi, hin, hcm, hlen, hR⟩
      simp only at hb'
      subst hb'
      have hv : pltL ts' us' = decide (items.size < items2.size) := by
        cases ts' with
        | nil =>
          cases us' with
          | nil =>
            simp only [List.length_nil] at hlen
            rw [pltL]
            exact (decide_eq_false (by omega)).symm
          | cons c us' =>
            simp only [List.length_nil, List.length_cons] at hlen
            rw [pltL]
            exact (decide_eq_true (by omega)).symm
        | cons a ts' =>
          cases us' with
          | nil =>
            simp only [List.length_nil, List.length_cons] at hlen
            rw [pltL]
            exact (decide_eq_false (by omega)).symm
          | cons c us' =>
            rw [KVals] at hvi hwi
            obtain ⟨v, vr, rfl, _, _⟩ := hvi
            obtain ⟨u, ur, rfl, _, _⟩ := hwi
            rw [List.zip_cons_cons] at hz
            cases hz
      rw [hv, show (!decide (items.size < items2.size)) = decide (items2.size ≤ items.size) by by_cases z : items.size < items2.size <;> simp [z] <;> omega] at hR
      wp_walk
      exact ⟨_, rfl, by simpa [Builtin.Tuple.tupleCompareSizes] using hR⟩
    case h =>
      exact ⟨rfl, rfl, items.toList, items2.toList, ts, us, rfl, hi, hj, fun _ hx => hx, hc, by omega, h⟩
end
theorem geAt_key {s : Shared} : ∀ (n : Nat) (a b : KT) (A : Around) (v u : Value), a.depth ≤ n → KVal s.heap a v → KVal s.heap b u → a.cmp b = true → A.units + a.depth < cLine → GeAt A s v u (!a.plt b)
  | n, .int i, b, A, v, u, _, x, y, hc, hu => by
    rw [KVal] at x
    obtain ⟨t, rfl⟩ := x
    cases b with
    | int j => rw [KVal] at y; obtain ⟨t', rfl⟩ := y; rw [KT.plt]; exact fun prog w E Q h => (ge_int (by rw [show decide (j ≤ i) = !decide (i < j) by by_cases z : i < j <;> simp [z] <;> omega]; exact h) : wpAny (model prog w) A (compareOp .GtE (.int i t) (.int j t')) Q E s)
    | str z => simp [KT.cmp] at hc
    | tup m => simp [KT.cmp] at hc
  | n, .str w, b, A, v, u, _, x, y, hc, hu => by
    rw [KVal] at x
    obtain ⟨t, rfl⟩ := x
    cases b with
    | int j => simp [KT.cmp] at hc
    | str z => rw [KVal] at y; obtain ⟨t', rfl⟩ := y; rw [KT.plt]; exact fun prog w' E Q h => (PySem.P.ge_str h : wpAny (model prog w') A (compareOp .GtE (.str w t) (.str z t')) Q E s)
    | tup m => simp [KT.cmp] at hc
  | 0, .tup l, b, A, v, u, hn, x, y, hc, hu => by
    rw [KT.depth] at hn
    omega
  | n + 1, .tup l, b, A, v, u, hn, x, y, hc, hu => by
    rw [KVal] at x
    obtain ⟨p, its, rfl, px, kx⟩ := x
    rw [KT.depth] at hn hu
    have hu' : A.units < cLine := by omega
    cases b with
    | int j => simp [KT.cmp] at hc
    | str z => simp [KT.cmp] at hc
    | tup m =>
      rw [KVal] at y
      obtain ⟨q, its', rfl, py, ky⟩ := y
      rw [KT.cmp] at hc
      rw [KT.plt]
      intro prog w E Q h
      obtain ⟨⟨cls, dd, data, sl⟩, ho, hcl, nn1, hd⟩ := id px
      obtain ⟨⟨cls2, dd2, data2, sl2⟩, ho2, hcl2, nn2, hd2⟩ := id py
      simp only at hcl hd hcl2 hd2
      subst hcl hd hcl2 hd2
      refine richCompare_meets_room (op := .GtE) ⟨_, ho, rfl⟩ ⟨_, ho2, rfl⟩ PySem.F.slot_tuple_ge PySem.F.entry_tuple_ge (PySem.F.args_tuple_ge_2 _ _) (tuple_ge_keys p q its.toArray its'.toArray nn1 nn2 dd dd2 sl sl2 l m)
        ⟨ho, ho2, kx, ky, hc, fun x y v u hx k1 k2 => ?_, fun x y v u hx k1 k2 k3 => ?_, show Value.bool (!pltL l m) ≠ Value.notImplemented ∧ Q (.bool (!pltL l m)) s from ⟨(fun x => nomatch x), h⟩⟩ hu'
      · have d1 := depth_in hx
        exact eqAt_key x.depth x y A.in1 v u (Nat.le_refl _) k1 k2 (by show A.units + 1 + x.depth < cLine; omega)
      · have d1 := depth_in hx
        exact geAt_key n x y A.in1 v u (by omega) k1 k2 k3 (by show A.units + 1 + x.depth < cLine; omega)

section
variable {X : Cx}
def rGeK : R2 := fun x y H Q => ∃ a b, KeyAt H a x ∧ KeyAt H b y ∧ a.cmp b = true ∧ a.depth ≤ 200 ∧ Q (.bl (!a.plt b)) H
theorem op_geK {k : Nat} (hr : Room k X.A) : OpR X (compareOp .GtE) rGeK := by
  intro pins s σ H x y v u Q I rx ry h
  obtain ⟨a, b, ha, hb, hc, hd, q⟩ := h
  exact geAt_key a.depth a b X.A v u (Nat.le_refl _) (kval_of I a x v ha rx) (kval_of I b y u hb ry) hc (Room.key hr hd) X.prog X.w X.xe _ ⟨.bl _, H, I, rfl, q⟩
end
end Tw
set_option Elab.async false
set_option linter.all false
set_option maxRecDepth 100000
set_option maxHeartbeats 8000000
namespace Tw
open PySem PySem.Spec L2 PyProof.Rows
/-- alike of any two keys -/
def spAlikeG (n : Nat) : Sp := fun vs H Q _ => ∃ (v u : V) (t m : KT) (r : Nat), vs = [v, u] ∧ KeyAt H t v ∧ KeyAt H m u ∧ m.wide r = true ∧ r < n ∧ ∀ H', Same H H' → Q (.bl (t.eqb m)) H'
theorem eqb_len {l m : List KT} (h : l.length ≠ m.length) : eqbL l m = false := by
  rw [← eqbL_range, show (l.length == m.length) = false by simp [h], Bool.and_false]
theorem eqb_all {l m : List KT} (h : l.length = m.length) : ((List.range m.length).map fun j => (l.getD j (.int 0)).eqb (m.getD j (.int 0))).all id = eqbL l m := by
  rw [← eqbL_range, h, Nat.min_self, List.all_map]
  simp
section
variable {P : Program} {w : World} {K : PySem.W.Frag} {mg : Str → Option Value} {base : Heap} {f : Addr} {fd : FuncData}
theorem ok_alikeG {n : Nat} (F : Fun K "_law_alike" "_law_alike" sAlike f fd) (T : Txt mg) (DA : DefOk P w K mg base (n + 1) "_law_alike" ["_law_found", "_law_due_here"] (spAlikeG n)) :
    FnOk P w K mg base CX0 (n + 2) f fd ["_law_found", "_law_due_here"] (spAlikeG (n + 1)) := by
  refine F.ok scAlike (fun vs H Q E h => ?_) (fun cdv A outer s H vs Q E hr h => ?_)
  · obtain ⟨v, u, t, m, r, rfl, _⟩ := h
    rfl
  obtain ⟨v, u, t, m, r, rfl, hv, hu, hf, hn, k⟩ := h
  refine ⟨_, pss_cons (ps_if (pt_val (pe_callB tw_isinst rfl T.isi tb_isinstance (pa_cons (pv 1) (pa_cons (pe_bltn (v := .ty "tuple") rfl T.tuple tb_tuple rfl) pa_nil))))
      (pss_cons (ps_if (PW.pt (pw_or (pt_not (pt_val (pe_callB tw_isinst rfl T.isi tb_isinstance (pa_cons (pv 0) (pa_cons (pe_bltn (v := .ty "tuple") rfl T.tuple tb_tuple rfl) pa_nil)))))
        (pw_or1 (pt_cmpR op_ne (pe_callB call_len_seq rfl T.len tb_len (pa_cons (pv 0) pa_nil)) (pe_callB call_len_seq rfl T.len tb_len (pa_cons (pv 1) pa_nil)) (nomark _))))) (pss_one (ps_ret pe_bl)) pss_nil)
      (pss_one (ps_ret (pe_callB (tw_all rfl) rfl T.all tb_all (pa_cons (pe_comp [0, 1] ["_law_found", "_law_due_here"] rfl (pi_range1 rfl T.range (pa_cons (pe_callB call_len_seq rfl T.len tb_len (pa_cons (pv 1) pa_nil)) pa_nil)) (fun _ _ _ _ _ => pts_nil)
        (fun _ _ _ _ _ => pe_def DA hr (pa_cons (pe_ix (r := rIx K) ix_seq (pv 1) (pv 0) (fun _ _ => rfl)) (pa_cons (pe_ix (r := rIx K) ix_seq (pv 2) (pv 0) (fun _ _ => rfl)) pa_nil))) ⟨rfl, .inl rfl, rfl, rfl, .inl rfl, rfl, trivial⟩) pa_nil))))) pss_nil)
    (pss_cons (ps_if (pt_val (pe_callB tw_isinst rfl T.isi tb_isinstance (pa_cons (pv 1) (pa_cons (pe_bltn (v := .ty "str") rfl T.str tb_str rfl) pa_nil))))
      (pss_one (ps_ret (pe_and (pe_callB tw_isinst rfl T.isi tb_isinstance (pa_cons (pv 0) (pa_cons (pe_bltn (v := .ty "str") rfl T.str tb_str rfl) pa_nil))) (pe_one (pe_cmpR op_eq (pv 0) (pv 1) (nomark _)))))) pss_nil)
    (pss_one (ps_ret (pe_and (pe_callB tw_isinst rfl T.isi tb_isinstance (pa_cons (pv 0) (pa_cons (pe_bltn (v := .ty "int") rfl T.int tb_int rfl) pa_nil)))
      (pe_and (pe_not (pe_callB tw_isinst rfl T.isi tb_isinstance (pa_cons (pv 0) (pa_cons (pe_bltn (v := .ty "bool") rfl T.bool tb_bool rfl) pa_nil)))) (pe_one (pe_cmpR op_eq (pv 0) (pv 1) (nomark _)))))))), ?_⟩
  have kk := k H (Same.refl H)
  cases m with
  | int j =>
    have eu : u = .int j := by rw [KeyAt] at hu; exact hu
    subst eu
    refine ⟨_, rfl, _, _, _, _, rfl, .int j, kit_it, _, rfl, iteF ?_⟩
    refine ⟨_, rfl, _, _, _, _, rfl, .int j, kit_is', _, rfl, iteF ?_⟩
    cases t with
    | int i =>
      have ev : v = .int i := by rw [KeyAt] at hv; exact hv
      subst ev
      refine ⟨_, rfl, _, _, _, _, rfl, .int i, kit_ii, _, rfl, iteT ?_⟩
      refine ⟨_, rfl, _, _, _, _, rfl, .int i, kit_ib, _, rfl, _, rfl, iteT ?_⟩
      refine ⟨_, rfl, _, rfl, rfl, ?_⟩
      rw [KT.eqb] at kk
      have e : decide (V.int i = V.int j) = (i == j) := by
        by_cases z : i = j
        · subst z; simp
        · simp [z]
      rw [e]
      exact kk
    | str x =>
      rw [show (KT.str x).eqb (.int j) = false by simp [KT.eqb]] at kk
      exact ⟨_, rfl, _, _, _, _, rfl, hv.ty, kit_si, _, rfl, iteF kk⟩
    | tup l =>
      rw [show (KT.tup l).eqb (.int j) = false by simp [KT.eqb]] at kk
      exact ⟨_, rfl, _, _, _, _, rfl, hv.ty, kit_ti, _, rfl, iteF kk⟩
  | str y =>
    have eu : u = .str y := by rw [KeyAt] at hu; exact hu
    subst eu
    refine ⟨_, rfl, _, _, _, _, rfl, .str y, kit_st, _, rfl, iteF ?_⟩
    refine ⟨_, rfl, _, _, _, _, rfl, .str y, kit_ss, _, rfl, iteT ?_⟩
    cases t with
    | int i =>
      rw [show (KT.int i).eqb (.str y) = false by simp [KT.eqb]] at kk
      exact ⟨_, rfl, _, _, _, _, rfl, hv.ty, kit_is', _, rfl, iteF kk⟩
    | str x =>
      have ev : v = .str x := by rw [KeyAt] at hv; exact hv
      subst ev
      refine ⟨_, rfl, _, _, _, _, rfl, .str x, kit_ss, _, rfl, iteT ?_⟩
      refine ⟨_, rfl, _, rfl, rfl, ?_⟩
      rw [KT.eqb] at kk
      have e : decide (V.str x = V.str y) = (x == y) := by
        by_cases z : x = y
        · subst z; simp
        · simp [z]
      rw [e]
      exact kk
    | tup l =>
      rw [show (KT.tup l).eqb (.str y) = false by simp [KT.eqb]] at kk
      exact ⟨_, rfl, _, _, _, _, rfl, hv.ty, kit_ts, _, rfl, iteF kk⟩
  | tup m =>
    have tu := hu.ty (K := K)
    rw [KeyAt] at hu
    obtain ⟨b, us, rfl, eb, hus⟩ := hu
    have hl2 := hus.length
    rw [KT.wide, Bool.and_eq_true, Bool.and_eq_true] at hf
    obtain ⟨f0, f1, f2⟩ := hf
    have r0 := of_decide_eq_true f0
    have l4 := of_decide_eq_true f1
    refine ⟨_, rfl, _, _, _, _, rfl, tu, kit_tt, _, rfl, iteT ?_⟩
    cases t with
    | int i =>
      rw [show (KT.int i).eqb (.tup m) = false by simp [KT.eqb]] at kk
      exact ⟨_, rfl, _, _, _, _, rfl, hv.ty, kit_it, _, rfl, iteT (iteT kk)⟩
    | str x =>
      rw [show (KT.str x).eqb (.tup m) = false by simp [KT.eqb]] at kk
      exact ⟨_, rfl, _, _, _, _, rfl, hv.ty, kit_st, _, rfl, iteT (iteT kk)⟩
    | tup l =>
    have tv := hv.ty (K := K)
    rw [KeyAt] at hv
    obtain ⟨a, vs, rfl, ea, hvs⟩ := hv
    have hl := hvs.length
    rw [KT.eqb] at k kk
    refine ⟨_, rfl, _, _, _, _, rfl, tv, kit_tt, _, rfl, iteF ?_⟩
    refine ⟨_, rfl, a, vs, rfl, .inr (SqT.of ea), _, rfl, b, us, rfl, .inr (SqT.of eb), rfl, _, rfl, ?_⟩
    by_cases luv : vs.length = us.length
    · refine iteNS (by rw [luv]) ?_
      refine ⟨_, rfl, b, us, rfl, .inr (SqT.of eb), _, rfl, by omega, by omega, ?_⟩
      rw [Int.toNat_natCast]
      refine comp_map (n := us.length) (fun i x => x = .int (0 + (i : Int))) (fun D i ys H3 => Same H H3 ∧ H D = none ∧ ys = ((List.range i).map fun j => (l.getD j (.int 0)).eqb (m.getD j (.int 0))).map V.bl) (small1000 (by omega))
        (fun D i ys H3 hi _ => hi) (fun D i ys H3 x H4 hi _ hy => hy) (fun D ys H3 _ => Nat.le_refl _) (fun D hD => ⟨same_new hD _, hD, rfl⟩) (fun D i ys H3 x eD hl' hi hx hP R hR => ?_) (fun D ys H3 eD hP => ?_)
      · subst hx
        obtain ⟨s3, nD, rfl⟩ := hP
        have hi' : i < vs.length := by omega
        have hiv : vs[i]? = some vs[i] := by simp [hi']
        have hiu : us[i]? = some us[i] := by simp [hi]
        obtain ⟨t, et, kt⟩ := hvs.get hiv
        obtain ⟨t', et', kt'⟩ := hus.get hiu
        have ft : t'.wide (r - 1) = true := by rw [wideL_all] at f2; exact List.all_eq_true.mp f2 t' (List.mem_of_getElem? et')
        have av : atI vs (0 + (i : Int)) = some vs[i] := by rw [Int.zero_add]; exact atI_nat hiv
        have au : atI us (0 + (i : Int)) = some us[i] := by rw [Int.zero_add]; exact atI_nat hiu
        refine ⟨_, rfl, _, rfl, .inr (.inl ⟨a, vs, _, _, rfl, rfl, SqT.of (s3 _ _ ea), av, _, rfl, _, rfl, .inr (.inl ⟨b, us, _, _, rfl, rfl, SqT.of (s3 _ _ eb), au, vs[i], us[i], t, t', r - 1, rfl, kt.mono (Same.tups s3) _ _, kt'.mono (Same.tups s3) _ _, ft, by omega, fun H4 s4 => ?_⟩)⟩)⟩
        refine hR _ H4 (s4 D _ eD) ⟨fun b o e => by rw [upd_ne (ne_of_none e nD)]; exact s4 b o (s3 b o e), nD, ?_⟩
        rw [List.range_succ, List.map_append, List.map_append]
        congr 1
        show [V.bl (t.eqb t')] = [V.bl ((l.getD i (.int 0)).eqb (m.getD i (.int 0)))]
        rw [List.getD_eq_getElem?_getD, List.getD_eq_getElem?_getD, et, et']
        rfl
      · obtain ⟨s3, nD, rfl⟩ := hP
        refine ⟨D, _, rfl, SqL.of eD, ?_⟩
        rw [← hl2, eqb_all (by omega)]
        exact k H3 s3
    · rw [eqb_len (by omega)] at kk
      rw [decide_eq_false (fun z => luv (by have := vint_inj z; omega))]
      exact iteT kk
theorem all_alikeG (T : Txt mg) (L : Laid K mg "_law_alike" sAlike ["_law_found", "_law_due_here"]) : ∀ n : Nat, DefOk P w K mg base (n + 1) "_law_alike" ["_law_found", "_law_due_here"] (spAlikeG n)
  | 0 => L.of fun _ _ _ => sp_noneS fun vs H Q E h => by obtain ⟨v, u, t, m, r, _, _, _, _, h1, _⟩ := h; omega
  | n + 1 => L.of fun _ _ F => ok_alikeG F T (all_alikeG T L n)
/-! ### _law_rows_alike -/
def spRAlike : Sp := fun vs H Q _ => ∃ (a b : Addr) (xs ys : List V) (ts us : List KT), vs = [.ref a, .ref b] ∧ H a = some (.lst xs) ∧ H b = some (.lst ys) ∧ KeysAt H ts xs ∧ KeysAt H us ys ∧ (∀ t ∈ us, t.fits 3 = true) ∧ us.length ≤ 100 ∧ ∀ H', Same H H' → Q (.bl (eqbL ts us)) H'
theorem scRAlike : FnScope ["_law_found", "_law_due_here"] ["_law_found", "_law_due_here"] (defScope sRowsAlike) := ⟨rfl, rfl, rfl, by decide +kernel, rfl, by decide +kernel, by decide +kernel⟩
theorem ok_ralike (F : Fun K "_law_rows_alike" "_law_rows_alike" sRowsAlike f fd) (T : Txt mg) (DA : DefOk P w K mg base 6 "_law_alike" ["_law_found", "_law_due_here"] (spAlikeG 5)) : FnOk P w K mg base CX0 7 f fd ["_law_found", "_law_due_here"] spRAlike := by
  refine F.ok scRAlike (fun vs H Q E h => (by obtain ⟨_, _, _, _, _, _, rfl, _⟩ := h; rfl)) (fun cdv A outer s H vs Q E hr h => ?_)
  obtain ⟨a, b, xs, ys, ts, us, rfl, ha, hb, kx, ky, hf, h100, k⟩ := h
  refine ⟨_, pss_one (ps_ret (pe_and (pe_callB tw_isinst rfl T.isi tb_isinstance (pa_c (pv 0) (pa_c (pe_bltn (v := .ty "list") rfl T.list tb_list rfl) pa_nil)))
    (pe_one (pe_def DA hr (pa_c (pe_callTy call_tuple_of rfl T.tuple tb_tuple (pa_c (pv 0) pa_nil)) (pa_c (pe_callTy call_tuple_of rfl T.tuple tb_tuple (pa_c (pv 1) pa_nil)) pa_nil)))))), ?_⟩
  refine ⟨_, rfl, _, _, _, _, rfl, .lst ha, (by kernel_rfl), _, rfl, iteT ?_⟩
  refine ⟨_, rfl, a, xs, rfl, .inl ⟨SqL.of ha, fun p1 hp1 => ?_⟩⟩
  have g1 := same_new hp1 (.tup xs)
  refine ⟨_, rfl, b, ys, rfl, .inl ⟨SqL.of (g1 _ _ hb), fun p2 hp2 => ?_⟩⟩
  have g2 := same_new hp2 (.tup ys)
  have g := g1.trans g2
  refine ⟨.ref p1, .ref p2, .tup ts, .tup us, 4, rfl, .tup (g2 _ _ upd_same) (kx.mono (Same.tups g) _ _), .tup upd_same (ky.mono (Same.tups g) _ _), ?_, by decide, fun H' s' => ?_⟩
  · rw [KT.wide, Bool.and_eq_true, Bool.and_eq_true, wideL_all]
    exact ⟨by decide, decide_eq_true h100, List.all_eq_true.mpr fun t ht => wide_of t 3 (hf t ht)⟩
  · rw [KT.eqb]
    exact k H' (g.trans s')
end
end Tw
set_option Elab.async false
set_option linter.all false
set_option maxRecDepth 100000
set_option maxHeartbeats 8000000
namespace Tw
open PySem PySem.Spec L2
def badV : V → Bool
  | .str y => decide (y.cps.toList < (Str.ofString " ").cps.toList) || decide ((Str.ofString "~").cps.toList < y.cps.toList)
  | _ => false
theorem bad_sign (c : Nat) : badV (.str ⟨#[c]⟩) = !signOk c := by
  rw [← signs_le]
  have e1 : (Str.ofString " ").cps.toList = [32] := by decide +kernel
  have e2 : (Str.ofString "~").cps.toList = [126] := by decide +kernel
  show (decide ([c] < (Str.ofString " ").cps.toList) || decide ((Str.ofString "~").cps.toList < [c])) = _
  rw [e1, e2]
  cases decide ([c] < [32]) <;> cases decide ([126] < [c]) <;> rfl
theorem bad_none (l : List Nat) : ((l.filter fun c => !signOk c).map fun c => V.str ⟨#[c]⟩).isEmpty = l.all signOk := by
  induction l with
  | nil => rfl
  | cons c l ih =>
    rw [List.filter_cons, List.all_cons, ← ih]
    cases signOk c <;> simp
/-- isinstance of odd things, all kinds -/
theorem kit_oddL {K : PySem.W.Frag} {N : Addr → Prop} {H : Hp} {n : String} {v : V} (h : OddAt N H n v) :
    PySem.W.kitOne K (.type n) (.type "tuple") = some false ∧ PySem.W.kitOne K (.type n) (.type "str") = some false ∧ ∃ b, PySem.W.kitOne K (.type n) (.type "int") = some b ∧ PySem.W.kitOne K (.type n) (.type "bool") = some b := by
  rcases h with ⟨rfl, _⟩ | ⟨rfl, _⟩ | ⟨rfl, _⟩ | ⟨rfl, _⟩
  · exact ⟨by kernel_rfl, by kernel_rfl, true, by kernel_rfl, kit_bb⟩
  · exact ⟨by kernel_rfl, by kernel_rfl, false, by kernel_rfl, by kernel_rfl⟩
  · exact ⟨by kernel_rfl, by kernel_rfl, false, by kernel_rfl, by kernel_rfl⟩
  · exact ⟨by kernel_rfl, by kernel_rfl, false, by kernel_rfl, by kernel_rfl⟩
section
variable {P : Program} {w : World} {K : PySem.W.Frag} {mg : Str → Option Value} {base : Heap} {f : Addr} {fd : FuncData}
/-! ### _law_is_key -/
theorem scLKey : FnScope ["_law_thing", "_law_room"] ["_law_thing", "_law_room"] (defScope sLKey) := ⟨rfl, rfl, rfl, by decide +kernel, rfl, by decide +kernel, by decide +kernel⟩
theorem ok_lkey {n : Nat} (F : Fun K "_law_is_key" "_law_is_key" sLKey f fd) (T : Txt mg) (DF : DefOk P w K mg base (n + 1) "_law_is_key" ["_law_thing", "_law_room"] (spFitsG n)) :
    FnOk P w K mg base CX0 (n + 2) f fd ["_law_thing", "_law_room"] (spFitsG (n + 1)) := by
  refine F.ok scLKey (fun vs H Q E h => ?_) (fun cdv A outer s H vs Q E hr h => ?_)
  · obtain ⟨v, t, N, r, rfl, _⟩ := h
    rfl
  obtain ⟨v, t, N, r, rfl, hv, hq, hn, k⟩ := h
  refine ⟨_, pss_cons (ps_if (pt_val (pe_callB tw_isinst rfl T.isi tb_isinstance (pa_c (pv 0) (pa_c (pe_bltn (v := .ty "tuple") rfl T.tuple tb_tuple rfl) pa_nil))))
      (pss_one (ps_ret (pe_and (pe_cmpR op_gt (pv 1) pe_int (nomark _)) (pe_and (pe_cmpR op_lt (pe_callB call_len_seq rfl T.len tb_len (pa_c (pv 0) pa_nil)) pe_int (nomark _))
        (pe_one (pe_callB (tw_all rfl) rfl T.all tb_all (pa_c (pe_comp [1] ["_law_room"] rfl (pi_tup (pv 0)) (fun _ _ _ _ _ => pts_nil) (fun _ _ _ _ _ => pe_def DF hr (pa_c (pv 0) (pa_c (pe_op op_sub (pv 1) pe_int) pa_nil))) ⟨rfl, .inl rfl, rfl, trivial⟩) pa_nil))))))) pss_nil)
    (pss_cons (ps_if (pt_val (pe_callB tw_isinst rfl T.isi tb_isinstance (pa_c (pv 0) (pa_c (pe_bltn (v := .ty "str") rfl T.str tb_str rfl) pa_nil))))
      (pss_one (ps_ret (pe_and (pe_cmpR op_lt (pe_callB call_len_str rfl T.len tb_len (pa_c (pv 0) pa_nil)) pe_int (nomark _))
        (pe_one (pe_cmpR (tw_eq_nil hr.units0) (pe_comp [] [] rfl (pi_str (pv 0)) (fun _ _ _ _ _ => pts_one (PW.pt (pw_or (pt_cmpR op_lt_str (pv 0) pe_str (nomark _)) (pw_or1 (pt_cmpR op_gt_str (pv 0) pe_str (nomark _)))))) (fun _ _ _ _ _ => pv 0) trivial) (pe_lst pa_nil) (nomark _)))))) pss_nil)
    (pss_one (ps_ret (pe_and (pe_callB tw_isinst rfl T.isi tb_isinstance (pa_c (pv 0) (pa_c (pe_bltn (v := .ty "int") rfl T.int tb_int rfl) pa_nil)))
      (pe_and (pe_not (pe_callB tw_isinst rfl T.isi tb_isinstance (pa_c (pv 0) (pa_c (pe_bltn (v := .ty "bool") rfl T.bool tb_bool rfl) pa_nil))))
        (pe_one (pe_chain op_lt op_lt (pe_un un_neg (pe_op op_pow pe_int pe_int)) (pv 0) (pe_op op_pow pe_int pe_int)))))))), ?_⟩
  cases t with
  | int i =>
    have ev : v = .int i := by rw [ThAt] at hv; exact hv
    subst ev
    refine ⟨_, rfl, _, _, _, _, rfl, .int i, kit_it, _, rfl, iteF ?_⟩
    refine ⟨_, rfl, _, _, _, _, rfl, .int i, kit_is', _, rfl, iteF ?_⟩
    refine ⟨_, rfl, _, _, _, _, rfl, .int i, kit_ii, _, rfl, iteT ?_⟩
    refine ⟨_, rfl, _, _, _, _, rfl, .int i, kit_ib, _, rfl, _, rfl, iteT ?_⟩
    have kk := k H (Same.refl H)
    rw [TG.fits] at kk
    have e : ((10 : Int) ^ (60 : Int).toNat) = ((10 ^ 60 : Nat) : Int) := by decide +kernel
    refine ⟨_, _, rfl, rfl, ⟨by decide, by decide, by decide⟩, _, rfl, _, rfl, _, _, rfl, rfl, _, rfl, ?_⟩
    refine ite2 (fun c => ?_) (fun c => ?_)
    · refine ⟨_, _, rfl, rfl, ⟨by decide, by decide, by decide⟩, _, _, rfl, rfl, ?_⟩
      have c' := of_decide_eq_true c
      show Q (.bl (decide (i < 10 ^ (60 : Int).toNat))) H
      rw [e] at c' ⊢
      generalize (10 ^ 60 : Nat) = M at *
      have e2 : decide (i.natAbs < M) = decide (i < (M : Int)) := decide_eq_decide.mpr (by omega)
      rw [← e2]
      exact kk
    · rw [e] at c
      generalize (10 ^ 60 : Nat) = M at *
      have c' : ¬ (-(M : Int) < i) := fun z => c (decide_eq_true z)
      rw [decide_eq_false (by omega)] at kk
      exact kk
  | str x =>
    have ev : v = .str x := by rw [ThAt] at hv; exact hv
    subst ev
    have hlen : x.length ≤ 1000 := by rw [TG.neat] at hq; exact hq
    refine ⟨_, rfl, _, _, _, _, rfl, .str x, kit_st, _, rfl, iteF ?_⟩
    refine ⟨_, rfl, _, _, _, _, rfl, .str x, kit_ss, _, rfl, iteT ?_⟩
    refine ⟨_, rfl, x, rfl, nn hlen, _, _, rfl, rfl, _, rfl, ?_⟩
    refine ite2 (fun c => ?_) (fun c => ?_)
    · have c40 : x.length ≤ 40 := by have := of_decide_eq_true c; omega
      refine ⟨_, rfl, x, rfl, ?_⟩
      have hsz : x.cps.size ≤ 40 := c40
      refine comp_filter (n := x.cps.size) (fun i z => ∃ c, x.cps[i]? = some c ∧ z = .str ⟨#[c]⟩) badV (fun D i ys H3 => Same H H3 ∧ H D = none ∧ ys = ((x.cps.toList.take i).filter fun c => !signOk c).map fun c => V.str ⟨#[c]⟩) (small1000 (by omega))
        (fun D i ys H3 hi _ => hi) (fun D i ys H3 z H4 hi _ hy => hy) (fun D ys H3 _ => rfl) (fun D hD => ⟨same_new hD _, hD, rfl⟩) (fun D i ys H3 z hi hz hP R hR => ?_) (fun D i ys H3 z eD hi hz hk hP => ?_) (fun D i ys H3 z eD hi hz hk hP => ?_) (fun D ys H3 eD hP => ?_)
      · obtain ⟨c, hc, rfl⟩ := hz
        refine ⟨_, rfl, _, _, rfl, rfl, _, rfl, ?_⟩
        have hR' : R (decide ((⟨#[c]⟩ : Str).cps.toList < (Str.ofString " ").cps.toList) || decide ((Str.ofString "~").cps.toList < (⟨#[c]⟩ : Str).cps.toList)) H3 := hR
        refine ite2 (fun c1 => ?_) (fun c1 => ?_)
        · rw [c1, Bool.true_or] at hR'
          exact hR'
        · rw [Bool.eq_false_iff.mpr c1, Bool.false_or] at hR'
          exact ⟨_, rfl, _, _, rfl, rfl, _, rfl, hR'⟩
      · obtain ⟨c, hc, rfl⟩ := hz
        obtain ⟨s3, nD, rfl⟩ := hP
        refine ⟨fun b o e => by rw [upd_ne (ne_of_none e nD)]; exact s3 b o e, nD, ?_⟩
        have hc' : x.cps.toList[i]? = some c := by simpa using hc
        rw [bad_sign] at hk
        rw [List.take_add_one, hc', List.filter_append]
        simp [hk]
      · obtain ⟨c, hc, rfl⟩ := hz
        obtain ⟨s3, nD, rfl⟩ := hP
        refine ⟨s3, nD, ?_⟩
        have hc' : x.cps.toList[i]? = some c := by simpa using hc
        rw [bad_sign] at hk
        rw [List.take_add_one, hc', List.filter_append]
        simp [hk]
      · obtain ⟨s3, nD, rfl⟩ := hP
        refine ⟨(by show 0 ≤ sizeLine; decide), fun e0 he0 => ?_⟩
        have g4 := same_new he0 (.lst [])
        refine ⟨D, e0, _, rfl, rfl, SqL.of (g4 _ _ eD), SqL.of upd_same, ?_⟩
        have et : (x.cps.toList.take x.cps.size) = x.cps.toList := List.take_of_length_le (by simp)
        rw [bad_none, et]
        have kk := k _ (s3.trans g4)
        rw [TG.fits] at kk
        unfold textOk at kk
        rw [decide_eq_true c40, Bool.true_and] at kk
        exact kk
    · have c40 : ¬ x.length ≤ 40 := fun z => c (decide_eq_true (by omega))
      have kk := k H (Same.refl H)
      rw [TG.fits] at kk
      unfold textOk at kk
      rw [decide_eq_false c40, Bool.false_and] at kk
      exact kk
  | tup l =>
    rw [ThAt] at hv
    obtain ⟨a, vs, rfl, ea, hvs⟩ := hv
    have hl := hvs.length
    rw [TG.neat] at hq
    obtain ⟨hq1, hq2⟩ := hq
    have ty : TyOf K H (.ref a) (.type "tuple") := .tup ea
    refine ⟨_, rfl, _, _, _, _, rfl, ty, kit_tt, _, rfl, iteT ?_⟩
    refine ⟨_, rfl, _, _, rfl, rfl, _, rfl, ?_⟩
    refine ite2 (fun c1 => ?_) (fun c1 => ?_)
    · have r0 : 0 < r := by
        have := of_decide_eq_true c1
        omega
      refine ⟨_, rfl, a, vs, rfl, .inr (SqT.of ea), _, _, rfl, rfl, _, rfl, ?_⟩
      refine ite2 (fun c2 => ?_) (fun c2 => ?_)
      · have l4 : l.length ≤ 4 := by
          have := of_decide_eq_true c2
          omega
        refine ⟨_, rfl, a, rfl, ⟨vs, SqT.of ea⟩, ?_⟩
        refine comp_map (n := vs.length) (fun i z => vs[i]? = some z) (fun D i ys H3 => Same H H3 ∧ H D = none ∧ ys = ((l.take i).map fun t => t.fits (r - 1)).map V.bl) (small1000 (by omega))
          (fun D i ys H3 hi hP => ⟨vs, vs[i], SqT.of (hP.1 _ _ ea), by simp [hi]⟩) (fun D i ys H3 z H4 hi hP hy => ⟨hy.1, hy.2 vs (SqT.of (hP.1 _ _ ea))⟩) (fun D ys H3 hP => ⟨vs, SqT.of (hP.1 _ _ ea), Nat.le_refl _⟩)
          (fun D hD => ⟨same_new hD _, hD, rfl⟩) (fun D i ys H3 z eD hl' hi hz hP R hR => ?_) (fun D ys H3 eD hP => ?_)
        · obtain ⟨s3, nD, rfl⟩ := hP
          obtain ⟨t, et, kt⟩ := hvs.get hz
          have er : (r : Int) - 1 = ((r - 1 : Nat) : Int) := by omega
          refine ⟨_, rfl, _, rfl, _, _, rfl, rfl, z, t, N, r - 1, congrArg (fun y => [z, V.int y]) er, kt.mono (Keeps.same s3) _ _, neatL_mem hq2 (List.mem_of_getElem? et), by omega, fun H4 s4 => ?_⟩
          refine hR _ H4 (s4 D _ eD) ⟨fun b o e => by rw [upd_ne (ne_of_none e nD)]; exact s4 b o (s3 b o e), nD, ?_⟩
          rw [List.take_add_one, et]
          simp
        · obtain ⟨s3, nD, rfl⟩ := hP
          refine ⟨D, _, rfl, SqL.of eD, ?_⟩
          have kk := k H3 s3
          rw [TG.fits, decide_eq_true r0, Bool.true_and, decide_eq_true l4, Bool.true_and, gfitsL_all] at kk
          have et : l.take vs.length = l := List.take_of_length_le (by omega)
          rw [et, List.all_map]
          exact kk
      · have l4 : ¬ l.length ≤ 4 := fun z => c2 (decide_eq_true (by omega))
        have kk := k H (Same.refl H)
        rw [TG.fits, decide_eq_false l4, Bool.false_and, Bool.and_false] at kk
        exact kk
    · have r0 : ¬ 0 < r := fun z => c1 (decide_eq_true (by omega))
      have kk := k H (Same.refl H)
      rw [TG.fits, decide_eq_false r0, Bool.false_and] at kk
      exact kk
  | odd n' =>
    rw [ThAt] at hv
    have ty : TyOf K H v (.type n') := hv.ty
    obtain ⟨k1, k2, b, k3, k4⟩ := kit_oddL (K := K) hv
    have kk := k H (Same.refl H)
    rw [TG.fits] at kk
    refine ⟨_, rfl, _, _, _, _, rfl, ty, k1, _, rfl, iteF ?_⟩
    refine ⟨_, rfl, _, _, _, _, rfl, ty, k2, _, rfl, iteF ?_⟩
    refine ⟨_, rfl, _, _, _, _, rfl, ty, k3, _, rfl, ?_⟩
    cases b with
    | true =>
      refine iteT ⟨_, rfl, _, _, _, _, rfl, ty, k4, _, rfl, _, rfl, iteF ?_⟩
      exact kk
    | false => exact iteF kk
theorem all_lkey (T : Txt mg) (L : Laid K mg "_law_is_key" sLKey ["_law_thing", "_law_room"]) : ∀ n : Nat, DefOk P w K mg base (n + 1) "_law_is_key" ["_law_thing", "_law_room"] (spFitsG n)
  | 0 => L.of fun _ _ _ => sp_none fun vs H Q E h => by obtain ⟨v, t, N, r, _, _, _, h1, _⟩ := h; omega
  | n + 1 => L.of fun _ _ F => ok_lkey F T (all_lkey T L n)
end
end Tw
set_option Elab.async false
set_option linter.all false
set_option maxRecDepth 100000
set_option maxHeartbeats 8000000
namespace L2
open PySem PySem.Spec
theorem pa8 {X : Cx} {e0 e1 e2 e3 e4 e5 e6 e7 : Expr} {t0 t1 t2 t3 t4 t5 t6 t7 : TE} (g0 : PE X e0 t0) (g1 : PE X e1 t1) (g2 : PE X e2 t2) (g3 : PE X e3 t3) (g4 : PE X e4 t4) (g5 : PE X e5 t5) (g6 : PE X e6 t6) (g7 : PE X e7 t7) (h : [e0, e1, e2, e3, e4, e5, e6, e7].all starless = true := by rfl) :
    PA X [e0, e1, e2, e3, e4, e5, e6, e7] (tCons t0 (tCons t1 (tCons t2 (tCons t3 (tCons t4 (tCons t5 (tCons t6 (tCons t7 tNil)))))))) :=
  (pa_cons g0 (pa_cons g1 (pa_cons g2 (pa_cons g3 (pa_cons g4 (pa_cons g5 (pa_cons g6 (pa_cons g7 pa_nil (star_plain (List.all_eq_true.mp h e7 (by simp)))) (star_plain (List.all_eq_true.mp h e6 (by simp)))) (star_plain (List.all_eq_true.mp h e5 (by simp)))) (star_plain (List.all_eq_true.mp h e4 (by simp)))) (star_plain (List.all_eq_true.mp h e3 (by simp)))) (star_plain (List.all_eq_true.mp h e2 (by simp)))) (star_plain (List.all_eq_true.mp h e1 (by simp)))) (star_plain (List.all_eq_true.mp h e0 (by simp))))
end L2
namespace Tw
open PySem PySem.Spec L2 PyProof.Rows
/-! ### a larger set of places that may change -/
theorem odd_weak {N N' : Addr → Prop} {H : Hp} (h : ∀ b, N b → N' b) {n : String} {v : V} (t : OddAt N' H n v) : OddAt N H n v := by
  rcases t with t | t | ⟨e, a, xs, e1, e2, e3⟩ | ⟨e, a, xs, e1, e2, e3⟩
  · exact .inl t
  · exact .inr (.inl t)
  · exact .inr (.inr (.inl ⟨e, a, xs, e1, e2, fun z => e3 (h a z)⟩))
  · exact .inr (.inr (.inr ⟨e, a, xs, e1, e2, fun z => e3 (h a z)⟩))
mutual
theorem th_weak {N N' : Addr → Prop} {H : Hp} (h : ∀ b, N b → N' b) : ∀ (t : TG) (v : V), ThAt N' H t v → ThAt N H t v
  | .int i, v, x => by rw [ThAt] at x ⊢; exact x
  | .str i, v, x => by rw [ThAt] at x ⊢; exact x
  | .tup l, v, x => by
    rw [ThAt] at x ⊢
    obtain ⟨a, vs, e, e1, e2⟩ := x
    exact ⟨a, vs, e, e1, ths_weak h l vs e2⟩
  | .odd n, v, x => by
    rw [ThAt] at x ⊢
    exact odd_weak h x
theorem ths_weak {N N' : Addr → Prop} {H : Hp} (h : ∀ b, N b → N' b) : ∀ (l : List TG) (vs : List V), ThsAt N' H l vs → ThsAt N H l vs
  | [], vs, x => by rw [ThsAt] at x ⊢; exact x
  | t :: l, vs, x => by
    rw [ThsAt] at x ⊢
    obtain ⟨v, r, e, e1, e2⟩ := x
    exact ⟨v, r, e, th_weak h t v e1, ths_weak h l r e2⟩
end
theorem Thk.weak {N N' : Addr → Prop} {H : Hp} (h : ∀ b, N b → N' b) {o : Option KT} {v : V} (t : Thk N' H o v) : Thk N H o v := by
  cases o with
  | some k => exact t
  | none =>
    obtain ⟨g, a, b, c⟩ := t
    exact ⟨g, th_weak h g v a, b, c⟩
theorem LstK.weak {N N' : Addr → Prop} {H : Hp} (h : ∀ b, N b → N' b) {os : List (Option KT)} {a : Addr} (t : LstK N' H os a) : LstK N H os a := by
  obtain ⟨xs, e1, e2, e3⟩ := t
  exact ⟨xs, e1, fun z => e2 (h a z), Paired.mapP e3 fun _ _ z => z.weak h⟩
theorem PRow.weak {N N' : Addr → Prop} {H : Hp} (h : ∀ b, N b → N' b) {r : PR} {u : V} (t : PRow N' H r u) : PRow N H r u := by
  obtain ⟨t, x, a, b, e, e1, e2, e3, e4⟩ := t
  exact ⟨t, x, a, b, e, e1, e2.weak h, e3.weak h, e4.weak h⟩
/-- rows of a patch; sides of m things at most -/
def PRE (m : Nat) (N : Addr → Prop) (H : Hp) (us : List V) : Prop := ∀ u ∈ us, ∃ r : PR, PRow N H r u ∧ r.2.1.length ≤ m ∧ r.2.2.length ≤ m
theorem PRE.mono {m : Nat} {N : Addr → Prop} {H H' : Hp} {us : List V} (h : PRE m N H us) (k : Keeps N H H') : PRE m N H' us := fun u hu => by
  obtain ⟨r, a, b, c⟩ := h u hu
  exact ⟨r, a.mono k, b, c⟩
theorem PRE.weak {m : Nat} {N N' : Addr → Prop} {H : Hp} {us : List V} (h : ∀ b, N b → N' b) (t : PRE m N' H us) : PRE m N H us := fun u hu => by
  obtain ⟨r, a, b, c⟩ := t u hu
  exact ⟨r, a.weak h, b, c⟩
theorem PRE.more {m m' : Nat} {N : Addr → Prop} {H : Hp} {us : List V} (h : PRE m N H us) (l : m ≤ m') : PRE m' N H us := fun u hu => by
  obtain ⟨r, a, b, c⟩ := h u hu
  exact ⟨r, a, by omega, by omega⟩
theorem PRE.app {m : Nat} {N : Addr → Prop} {H : Hp} {us ws : List V} (h : PRE m N H us) (h' : PRE m N H ws) : PRE m N H (us ++ ws) := fun u hu => by
  rcases List.mem_append.mp hu with z | z
  · exact h u z
  · exact h' u z
theorem PRE.sub {m : Nat} {N : Addr → Prop} {H : Hp} {us ws : List V} (h : PRE m N H us) (l : ∀ z ∈ ws, z ∈ us) : PRE m N H ws := fun u hu => h u (l u hu)
theorem cutV_sub (us : List V) (lo hi : Option Int) : ∀ z ∈ cutV us lo hi, z ∈ us := fun z hz => List.mem_of_mem_drop (List.mem_of_mem_take hz)
theorem PRE.rows {m : Nat} {N : Addr → Prop} {H : Hp} : ∀ {us : List V}, PRE m N H us → ∃ rs : List PR, PRows N H rs us ∧ ∀ r ∈ rs, r.2.1.length ≤ m ∧ r.2.2.length ≤ m
  | [], _ => ⟨[], .nil, fun r h => by simp at h⟩
  | u :: us, h => by
    obtain ⟨r, a, b, c⟩ := h u List.mem_cons_self
    obtain ⟨rs, x, y⟩ := PRE.rows (us := us) fun z hz => h z (List.mem_cons_of_mem _ hz)
    refine ⟨r :: rs, .cons a x, fun z hz => ?_⟩
    rcases List.mem_cons.mp hz with e | e
    · rw [e]; exact ⟨b, c⟩
    · exact y z e
theorem keepP {p : Addr} {H H' : Hp} (W : WellAt H p) (s : SameX p H H') : Keeps (fun b => b = p) H H' := ⟨s.tupsW W, fun b o e n => s b o e n⟩
theorem well_ne {H : Hp} {p q : Addr} (W : WellAt H p) (h : H q = none) : q ≠ p := fun z => by
  obtain ⟨xs, e⟩ := W.some
  rw [z, e] at h; cases h
section
variable {P : Program} {w : World} {K : PySem.W.Frag} {mg : Str → Option Value} {base : Heap} {f : Addr} {fd : FuncData}
/-! ### _law_value -/
def spValue : Sp := fun vs H Q _ => ∃ (p : Addr), vs = [.ref p] ∧ WellAt H p ∧ ∀ (v : V) (t : KT) (H' : Hp), KeyAt H' t v → t.fits 3 = true → WellAt H' p → SameX p H H' → Q v H'
theorem scValue : FnScope ["_law_well_here"] ["_law_well_here"] (defScope sValue) := ⟨rfl, rfl, rfl, by decide +kernel, rfl, by decide +kernel, by decide +kernel⟩
theorem ok_value (F : Fun K "_law_value" "_law_value" sValue f fd) (DP : DefOk P w K mg base 1 "_law_pull" ["_law_well_here", "_law_many"] spPull) (DK : DefOk P w K mg base 6 "_law_key" ["_law_well_here", "_law_room"] (spKey 4)) : FnOk P w K mg base CX0 7 f fd ["_law_well_here"] spValue := by
  refine F.ok scValue (fun vs H Q E h => (by obtain ⟨_, rfl, _⟩ := h; rfl)) (fun cdv A outer s H vs Q E hr h => ?_)
  obtain ⟨p, rfl, W, q⟩ := h
  have hr1 := hr.mono (show 1 ≤ 6 by decide)
  refine ⟨_, pss_cons (ps_if (pt_cmpR op_eq (pe_def DP hr1 (pa_c (pv 0) (pa_c pe_int pa_nil))) pe_int (nomark _)) (pss_one (ps_ret (pe_def DK hr (pa_c (pv 0) (pa_c pe_int pa_nil))))) pss_nil)
    (pss_one (ps_ret (pe_ix (r := rIx K) ix_seq (pe_lst (pa6 pe_int pe_int pe_str (pe_tup (pa_c pe_int pa_nil)) pe_str (pe_tup pa_nil))) (pe_def DP hr1 (pa_c (pv 0) (pa_c pe_int pa_nil))) (fun _ _ => rfl)))), ?_⟩
  refine ⟨_, rfl, p, 3, rfl, W, small_lit (by decide) (by decide), fun w0 H1 w00 w01 W1 s1 => ⟨rfl, _, rfl, ?_⟩⟩
  refine ite2 (fun c => ?_) (fun c => ?_)
  · exact ⟨_, rfl, p, 3, rfl, W1, by decide, fun v t H3 hv ht W3 s3 => q v t H3 hv ht W3 (s1.trans s3)⟩
  refine ⟨nn (Nat.le_of_ble_eq_true rfl), fun t1 n1 => ?_⟩
  have g1 := same_new n1 (.tup [.int 1])
  refine ⟨nn (Nat.le_of_ble_eq_true rfl), fun t2 n2 => ?_⟩
  have g2 := same_new n2 (.tup [])
  refine ⟨nn (Nat.le_of_ble_eq_true rfl), fun d nd' => ?_⟩
  have g3 := same_new nd' (.lst [.int 0, .int 1, .str "1", .ref t1, .str "", .ref t2])
  have gA : Same H1 _ := (g1.trans g2).trans g3
  have nd2 : d ≠ p := well_ne (W1.same (g1.trans g2)) nd'
  refine ⟨_, rfl, p, 6, rfl, W1.same gA, small_lit (by decide) (by decide), fun r H3 r0 r1 W3 s3 => ?_⟩
  have tA := s3.tupsW (W1.same gA)
  have sA : SameX p H H3 := (s1.trans (SameX.of gA)).trans s3
  have k1 : KeyAt H3 (.tup [.int 1]) (.ref t1) := .tup (tA _ _ (g3 _ _ (g2 _ _ upd_same))) (.cons (.int 1) .nil)
  have k2 : KeyAt H3 (.tup []) (.ref t2) := .tup (tA _ _ (g3 _ _ upd_same)) .nil
  have eL : H3 d = some (.lst [.int 0, .int 1, .str "1", .ref t1, .str "", .ref t2]) := s3 d _ upd_same nd2
  obtain ⟨v, av, mv⟩ := atI_in (xs := [V.int 0, .int 1, .str "1", .ref t1, .str "", .ref t2]) r0 r1
  refine .inl ⟨d, _, _, v, rfl, rfl, SqL.of eL, av, ?_⟩
  simp only [List.mem_cons, List.not_mem_nil, or_false] at mv
  rcases mv with rfl | rfl | rfl | rfl | rfl | rfl
  · exact q _ _ H3 (.int 0) (by decide +kernel) W3 sA
  · exact q _ _ H3 (.int 1) (by decide +kernel) W3 sA
  · exact q _ _ H3 (.str _) (by decide +kernel) W3 sA
  · exact q _ _ H3 k1 (by decide +kernel) W3 sA
  · exact q _ _ H3 (.str _) (by decide +kernel) W3 sA
  · exact q _ _ H3 k2 (by decide +kernel) W3 sA
/-! ### _law_sides -/
def spSides : Sp := fun vs H Q _ => ∃ (p : Addr) (N : Addr → Prop), vs = [.ref p] ∧ WellAt H p ∧ N p ∧ (∀ b, N b → H b ≠ none) ∧
  ∀ (t a b : Addr) (o1 o2 : List (Option KT)) (H' : Hp), H' t = some (.tup [.ref a, .ref b]) → LstK N H' o1 a → LstK N H' o2 b → o1.length ≤ 1 → o2.length ≤ 1 → WellAt H' p → SameX p H H' → Q (.ref t) H'
abbrev nSides : List Str := ["_law_well_here", "_law_way", "_law_one", "_law_other"]
theorem scSides : FnScope nSides ["_law_well_here"] (defScope sSides) := ⟨rfl, rfl, rfl, by decide +kernel, rfl, by decide +kernel, by decide +kernel⟩
theorem ok_sides (F : Fun K "_law_sides" "_law_sides" sSides f fd) (DP : DefOk P w K mg base 1 "_law_pull" ["_law_well_here", "_law_many"] spPull) (DV : DefOk P w K mg base 7 "_law_value" ["_law_well_here"] spValue) : FnOk P w K mg base CX0 8 f fd ["_law_well_here"] spSides := by
  refine F.ok scSides (fun vs H Q E h => (by obtain ⟨_, _, rfl, _⟩ := h; rfl)) (fun cdv A outer s H vs Q E hr h => ?_)
  obtain ⟨p, N, rfl, W, Np, hN, q⟩ := h
  have nd := scSides.nd
  have hr1 := hr.mono (show 1 ≤ 7 by decide)
  refine ⟨_, pss_cons (ps_set (i := 1) nd rfl (Or.inl rfl) (pe_def DP hr1 (pa_c (pv 0) (pa_c pe_int pa_nil))))
    (pss_cons (ps_set (i := 2) nd rfl (Or.inl rfl) (pe_def DV hr (pa_c (pv 0) pa_nil)))
    (pss_cons (ps_set (i := 3) nd rfl (Or.inl rfl) (pe_def DV hr (pa_c (pv 0) pa_nil)))
    (pss_one (ps_ret (pe_ix (r := rIx K) ix_seq (pe_lst (pa3 (pe_tup (pa_c (pe_lst pa_nil) (pa_c (pe_lst (pa_c (pv 2) pa_nil)) pa_nil))) (pe_tup (pa_c (pe_lst (pa_c (pv 2) pa_nil)) (pa_c (pe_lst pa_nil) pa_nil))) (pe_tup (pa_c (pe_lst (pa_c (pv 2) pa_nil)) (pa_c (pe_lst (pa_c (pv 3) pa_nil)) pa_nil))))) (pv 1) (fun _ _ => rfl)))))), ?_⟩
  refine ⟨_, rfl, p, 3, rfl, W, small_lit (by decide) (by decide), fun w0 H1 w00 w01 W1 s1 => ?_⟩
  refine ⟨_, rfl, p, rfl, W1, fun v1 t1 H2 k1 f1 W2 s2 => ?_⟩
  refine ⟨_, rfl, p, rfl, W2, fun v2 t2 H3 k2 f2 W3 s3 => ?_⟩
  have k1' := k1.mono (s3.tupsW W2) _ _
  have s03 := (s1.trans s2).trans s3
  refine ⟨nn (Nat.le_of_ble_eq_true rfl), fun a1 n1 => ?_⟩
  have g1 := same_new n1 (.lst [])
  refine ⟨_, rfl, nn (Nat.le_of_ble_eq_true rfl), fun a2 n2 => ?_⟩
  have g2 := same_new n2 (.lst [v1])
  refine ⟨nn (Nat.le_of_ble_eq_true rfl), fun a3 n3 => ?_⟩
  have g3 := same_new n3 (.tup [.ref a1, .ref a2])
  refine ⟨_, rfl, nn (Nat.le_of_ble_eq_true rfl), fun a4 n4 => ?_⟩
  have g4 := same_new n4 (.lst [v1])
  refine ⟨nn (Nat.le_of_ble_eq_true rfl), fun a5 n5 => ?_⟩
  have g5 := same_new n5 (.lst [])
  refine ⟨nn (Nat.le_of_ble_eq_true rfl), fun a6 n6 => ?_⟩
  have g6 := same_new n6 (.tup [.ref a4, .ref a5])
  refine ⟨_, rfl, nn (Nat.le_of_ble_eq_true rfl), fun a7 n7 => ?_⟩
  have g7 := same_new n7 (.lst [v1])
  refine ⟨_, rfl, nn (Nat.le_of_ble_eq_true rfl), fun a8 n8 => ?_⟩
  have g8 := same_new n8 (.lst [v2])
  refine ⟨nn (Nat.le_of_ble_eq_true rfl), fun a9 n9 => ?_⟩
  have g9 := same_new n9 (.tup [.ref a7, .ref a8])
  refine ⟨nn (Nat.le_of_ble_eq_true rfl), fun d n10 => ?_⟩
  have g10 := same_new n10 (.lst [.ref a3, .ref a6, .ref a9])
  have c9 := g9.trans g10
  have c8 := g8.trans c9
  have c7 := g7.trans c8
  have c6 := g6.trans c7
  have c5 := g5.trans c6
  have c4 := g4.trans c5
  have c3 := g3.trans c4
  have c2 := g2.trans c3
  have c1 := g1.trans c2
  have b2 := g1.trans g2
  have b3 := b2.trans g3
  have b4 := b3.trans g4
  have b6 := (b4.trans g5).trans g6
  have b7 := b6.trans g7
  have e1 := c2 _ _ (upd_same (H := H3) (a := a1) (o := .lst []))
  have e2 := c3 _ _ (upd_same (H := upd H3 a1 (.lst [])) (a := a2) (o := .lst [v1]))
  have e3 := c4 _ _ (upd_same (a := a3) (o := .tup [.ref a1, .ref a2]))
  have e4 := c5 _ _ (upd_same (a := a4) (o := .lst [v1]))
  have e5 := c6 _ _ (upd_same (a := a5) (o := .lst []))
  have e6 := c7 _ _ (upd_same (a := a6) (o := .tup [.ref a4, .ref a5]))
  have e7 := c8 _ _ (upd_same (a := a7) (o := .lst [v1]))
  have e8 := c9 _ _ (upd_same (a := a8) (o := .lst [v2]))
  have e9 := g10 _ _ (upd_same (a := a9) (o := .tup [.ref a7, .ref a8]))
  have e10 := upd_same (H := upd (upd (upd (upd (upd (upd (upd (upd (upd H3 a1 (.lst [])) a2 (.lst [v1])) a3 (.tup [.ref a1, .ref a2])) a4 (.lst [v1])) a5 (.lst [])) a6 (.tup [.ref a4, .ref a5])) a7 (.lst [v1])) a8 (.lst [v2])) a9 (.tup [.ref a7, .ref a8])) (a := d) (o := .lst [.ref a3, .ref a6, .ref a9])
  have fr : ∀ {b : Addr} {H' : Hp}, Same H3 H' → H' b = none → ¬ N b := fun {b H'} s' h z => hN b z (sx_free (s03.trans (SameX.of s')) (W3.same s') h)
  have m1 : ¬ N a1 := fr (Same.refl H3) n1
  have m2 : ¬ N a2 := fr g1 n2
  have m4 : ¬ N a4 := fr b3 n4
  have m5 : ¬ N a5 := fr b4 n5
  have m7 : ¬ N a7 := fr b6 n7
  have m8 : ¬ N a8 := fr b7 n8
  have W4 := W3.same c1
  have s4 := s03.trans (SameX.of c1)
  have K1 := k1'.mono (Same.tups c1) _ _
  have K2 := k2.mono (Same.tups c1) _ _
  generalize upd (upd (upd (upd (upd (upd (upd (upd (upd (upd H3 a1 (.lst [])) a2 (.lst [v1])) a3 (.tup [.ref a1, .ref a2])) a4 (.lst [v1])) a5 (.lst [])) a6 (.tup [.ref a4, .ref a5])) a7 (.lst [v1])) a8 (.lst [v2])) a9 (.tup [.ref a7, .ref a8])) d (.lst [.ref a3, .ref a6, .ref a9]) = H4 at *
  have L0 : ∀ {a : Addr}, H4 a = some (.lst []) → ¬ N a → LstK N H4 [] a := fun e n => ⟨[], e, n, .nil⟩
  have L1 : ∀ {a : Addr}, H4 a = some (.lst [v1]) → ¬ N a → LstK N H4 [some t1] a := fun e n => ⟨[v1], e, n, .cons ⟨K1, f1⟩ .nil⟩
  have L2 : ∀ {a : Addr}, H4 a = some (.lst [v2]) → ¬ N a → LstK N H4 [some t2] a := fun e n => ⟨[v2], e, n, .cons ⟨K2, f2⟩ .nil⟩
  obtain ⟨v, av, mv⟩ := atI_in (xs := [V.ref a3, .ref a6, .ref a9]) w00 w01
  refine ⟨_, rfl, .inl ⟨d, _, _, v, rfl, rfl, SqL.of e10, av, ?_⟩⟩
  simp only [List.mem_cons, List.not_mem_nil, or_false] at mv
  rcases mv with rfl | rfl | rfl
  · exact q a3 a1 a2 [] [some t1] H4 e3 (L0 e1 m1) (L1 e2 m2) (Nat.le_of_ble_eq_true rfl) (Nat.le_of_ble_eq_true rfl) W4 s4
  · exact q a6 a4 a5 [some t1] [] H4 e6 (L1 e4 m4) (L0 e5 m5) (Nat.le_of_ble_eq_true rfl) (Nat.le_of_ble_eq_true rfl) W4 s4
  · exact q a9 a7 a8 [some t1] [some t2] H4 e9 (L1 e7 m7) (L2 e8 m8) (Nat.le_of_ble_eq_true rfl) (Nat.le_of_ble_eq_true rfl) W4 s4
end
end Tw
set_option Elab.async false
set_option linter.all false
set_option maxRecDepth 100000
set_option maxHeartbeats 8000000
namespace Tw
open PySem PySem.Spec L2 PyProof.Rows
section
variable {P : Program} {w : World} {K : PySem.W.Frag} {mg : Str → Option Value} {base : Heap} {f : Addr} {fd : FuncData}
/-! ### _law_rows -/
def spRows : Sp := fun vs H Q _ => ∃ (p : Addr), vs = [.ref p] ∧ WellAt H p ∧ ∀ (R : Addr) (us : List V) (H' : Hp), H' R = some (.lst us) → R ≠ p → PRE 1 (fun b => b = p) H' us → us.length ≤ 8 → WellAt H' p → SameX p H H' → Q (.ref R) H'
abbrev nRows : List Str := ["_law_well_here", "_law_rows_here", "_law_spot", "_law_old", "_law_new"]
theorem scRows : FnScope nRows ["_law_well_here"] (defScope sRows) := ⟨rfl, rfl, rfl, by decide +kernel, rfl, by decide +kernel, by decide +kernel⟩
theorem ok_rows (F : Fun K "_law_rows" "_law_rows" sRows f fd) (DP : DefOk P w K mg base 1 "_law_pull" ["_law_well_here", "_law_many"] spPull) (DK : DefOk P w K mg base 9 "_law_keys" ["_law_well_here", "_law_many"] spKeys) (DS : DefOk P w K mg base 8 "_law_sides" ["_law_well_here"] spSides) :
    FnOk P w K mg base CX0 10 f fd ["_law_well_here"] spRows := by
  refine F.ok scRows (fun vs H Q E h => (by obtain ⟨_, rfl, _⟩ := h; rfl)) (fun cdv A outer s H vs Q E hr h => ?_)
  obtain ⟨p, rfl, W, q⟩ := h
  have nd := scRows.nd
  have hr1 := hr.mono (show 1 ≤ 9 by decide)
  have hr8 := hr.mono (show 8 ≤ 9 by decide)
  refine ⟨_, pss_cons (ps_set (i := 1) nd rfl (Or.inl rfl) (pe_lst pa_nil))
    (pss_cons (ps_for PassesOwn.never rfl (pi_list (pe_def DK hr (pa_c (pv 0) (pa_c (pe_def DP hr1 (pa_c (pv 0) (pa_c pe_int pa_nil))) pa_nil)))) (pg_name (i := 2) nd rfl (Or.inl rfl))
      (pss_cons (ps_asg (pe_def DS hr8 (pa_c (pv 0) pa_nil)) (pg_tup rfl (pgs_cons (pg_name (i := 3) nd rfl (Or.inl rfl)) (pgs_cons (pg_name (i := 4) nd rfl (Or.inl rfl)) pgs_nil))))
      (pss_one (ps_expr (pe_bm PySem.F.plainAttrs_list PySem.F.slot_list_append PySem.F.type_list_append mt_append (pv 1) (pa_c (pe_tup (pa3 (pv 2) (pv 3) (pv 4))) pa_nil))))))
    (pss_one (ps_ret (pv 1)))), ?_⟩
  refine ⟨nn (Nat.le_of_ble_eq_true rfl), fun R nR => ?_⟩
  have g0 := same_new nR (.lst [])
  have hR0 : upd H R (.lst []) R = some (.lst []) := upd_same
  have W0 := W.same g0
  have Rp : R ≠ p := well_ne W nR
  generalize upd H R (.lst []) = H0 at g0 hR0 W0 ⊢
  refine ⟨_, rfl, _, rfl, p, 9, rfl, W0, small_lit (by decide) (by decide), fun m H1 m0 m1 W1 s1 => ?_⟩
  have em : m = ((m.toNat : Nat) : Int) := by omega
  refine ⟨p, m.toNat, congrArg (fun y => [V.ref p, V.int y]) em, W1, by omega, fun D ws ts H2 nD hD kD fD _ lD W2 s2 => ?_⟩
  have hR1 := s1 _ _ hR0 Rp
  have DR : D ≠ R := fun z => by rw [z, hR1] at nD; cases nD
  have Dp : D ≠ p := well_ne W1 nD
  have hR2 := s2 _ _ hR1 Rp
  have lw := kD.length
  have s02 : SameX p H H2 := ((SameX.of g0).trans s1).trans s2
  refine ⟨D, rfl, ⟨ws, SqL.of hD⟩, for_list (K := K) (a := D) (xs := ws) (fun i σ H' => ∃ (us : List V) (o2 o3 o4 : Option V), σ = [some (.ref p), some (.ref R), o2, o3, o4] ∧ H' R = some (.lst us) ∧ us.length = i ∧ PRE 1 (fun b => b = p ∨ b = R) H' us ∧ WellAt H' p ∧ H' D = some (.lst ws) ∧ KeysAt H' ts ws ∧ SameX p H H')
    ⟨[], _, _, _, rfl, hR2, rfl, fun u hu => by simp at hu, W2, hD, kD, s02⟩ (fun i σ H' _ hP => by obtain ⟨_, _, _, _, _, _, _, _, _, h, _⟩ := hP; exact SqL.of h) ?_ ?_⟩
  · rintro i u σ H3 hu ⟨us, o2, o3, o4, rfl, hR3, lu, pu, W3, hD3, k3, s3⟩
    have hi : i < ws.length := (List.getElem?_eq_some_iff.mp hu).1
    obtain ⟨t, et, kt⟩ := k3.get hu
    have ft := fD t (List.mem_of_getElem? et)
    refine ⟨_, rfl, p, fun b => b = p ∨ b = R, rfl, W3, .inl rfl, fun b hb => ?_, fun tt a b oa ob H4 e4 la lb l1 l2 W4 s4 => ?_⟩
    · rcases hb with rfl | rfl
      · obtain ⟨xs, e⟩ := W3.some
        rw [e]; exact fun z => nomatch z
      · rw [hR3]; exact fun z => nomatch z
    have hR4 := s4 _ _ hR3 Rp
    have hD4 := s4 _ _ hD3 Dp
    have k4 := k3.mono (s4.tupsW W3) _ _
    have kt4 := kt.mono (s4.tupsW W3) _ _
    have pu4 : PRE 1 (fun b => b = p ∨ b = R) H4 us := pu.mono ⟨s4.tupsW W3, fun b o e n => s4 b o e fun z => n (.inl z)⟩
    refine ⟨tt, _, rfl, SqT.of e4, rfl, _, _, rfl, _, _, rfl, rfl, ?_⟩
    refine ⟨_, rfl, .inl ⟨rfl, _, SqL.of hR4⟩, _, rfl, _, rfl, _, rfl, nn (Nat.le_of_ble_eq_true rfl), fun r nr => ?_⟩
    have g5 := same_new nr (.tup [u, .ref a, .ref b])
    have er := upd_same (H := H4) (a := r) (o := .tup [u, .ref a, .ref b])
    have hR5 := g5 _ _ hR4
    have hD5 := g5 _ _ hD4
    have W5 := W4.same g5
    have k5 := k4.mono (Same.tups g5) _ _
    have kt5 := kt4.mono (Same.tups g5) _ _
    have pu5 := pu4.mono (Keeps.same g5)
    have la5 := la.mono (Keeps.same g5)
    have lb5 := lb.mono (Keeps.same g5)
    have s5 : SameX p H (upd H4 r (.tup [u, .ref a, .ref b])) := (s3.trans s4).trans (SameX.of g5)
    generalize upd H4 r (.tup [u, .ref a, .ref b]) = H5 at *
    refine ⟨R, us, .ref r, rfl, rfl, hR5, nn (by omega), ?_⟩
    have tR : Tups H5 (upd H5 R (.lst (us ++ [.ref r]))) := (SameX.refl R H5).upd.tups hR5
    have kR : Keeps (fun b => b = p ∨ b = R) H5 (upd H5 R (.lst (us ++ [.ref r]))) := ⟨tR, fun b o e n => by rw [upd_ne fun z => n (.inr z)]; exact e⟩
    have rR : r ≠ R := fun z => by rw [z, hR5] at er; cases er
    refine ⟨us ++ [.ref r], _, _, _, rfl, upd_same, by simp [lu], PRE.app (pu5.mono kR) fun z hz => ?_, W5.stay (SameX.refl R H5).upd (Ne.symm Rp), by rw [upd_ne DR]; exact hD5, k5.mono tR _ _, fun b o e n => ?_⟩
    · rw [List.mem_singleton] at hz
      subst hz
      exact ⟨(some t, oa, ob), ⟨r, u, a, b, rfl, by rw [upd_ne rR]; exact er, ⟨kt5.mono tR _ _, ft⟩, la5.mono kR, lb5.mono kR⟩, l1, l2⟩
    · rw [upd_ne (ne_of_none e nR)]
      exact s5 b o e n
  · rintro σ H3 ⟨us, o2, o3, o4, rfl, hR3, lu, pu, W3, hD3, k3, s3⟩
    exact ⟨_, rfl, q R us H3 hR3 Rp (pu.weak fun b z => .inl z) (by omega) W3 s3⟩
end
end Tw
set_option Elab.async false
set_option linter.all false
set_option maxRecDepth 100000
set_option maxHeartbeats 8000000
namespace Tw
open PySem PySem.Spec L2 PyProof.Rows
theorem rep_len : (repS "a" 41).length = 41 := by decide +kernel
theorem nl_bad : textOk (Str.ofString "\n") = false := by decide +kernel
section
variable {P : Program} {w : World} {K : PySem.W.Frag} {mg : Str → Option Value} {base : Heap} {f : Addr} {fd : FuncData}
/-! ### _law_bad -/
def spBad : Sp := fun vs H Q _ => ∃ (p : Addr), vs = [.ref p] ∧ WellAt H p ∧ ∀ (v : V) (H' : Hp), Thk (fun b => b = p) H' none v → WellAt H' p → SameX p H H' → Q v H'
theorem scBad : FnScope ["_law_well_here"] ["_law_well_here"] (defScope sBad) := ⟨rfl, rfl, rfl, by decide +kernel, rfl, by decide +kernel, by decide +kernel⟩
theorem ok_bad (F : Fun K "_law_bad" "_law_bad" sBad f fd) (DP : DefOk P w K mg base 1 "_law_pull" ["_law_well_here", "_law_many"] spPull) : FnOk P w K mg base CX0 2 f fd ["_law_well_here"] spBad := by
  refine F.ok scBad (fun vs H Q E h => (by obtain ⟨_, rfl, _⟩ := h; rfl)) (fun cdv A outer s H vs Q E hr h => ?_)
  obtain ⟨p, rfl, W, q⟩ := h
  refine ⟨_, pss_one (ps_ret (pe_ix (r := rIx K) ix_seq (pe_lst (pa8 pe_bl pe_non (pe_lst (pa_c pe_int pa_nil)) (pe_op op_pow pe_int pe_int) (pe_op op_mul_str pe_str pe_int) (pe_tup (pa5 pe_int pe_int pe_int pe_int pe_int)) (pe_tup (pa_c pe_str pa_nil))
    (pe_tup (pa_c (pe_tup (pa_c (pe_tup (pa_c (pe_tup pa_nil) pa_nil)) pa_nil)) pa_nil)))) (pe_def DP hr (pa_c (pv 0) (pa_c pe_int pa_nil))) (fun _ _ => rfl))), ?_⟩
  refine ⟨nn (Nat.le_of_ble_eq_true rfl), fun a1 n1 => ?_⟩
  have g1 := same_new n1 (.lst [.int 1])
  refine ⟨_, _, rfl, rfl, ⟨by decide, by decide, by decide⟩, _, _, rfl, rfl, by decide +kernel, by decide, by decide, nn (Nat.le_of_ble_eq_true rfl), fun a2 n2 => ?_⟩
  have g2 := same_new n2 (.tup [.int 1, .int 2, .int 3, .int 4, .int 5])
  refine ⟨nn (Nat.le_of_ble_eq_true rfl), fun a3 n3 => ?_⟩
  have g3 := same_new n3 (.tup [.str (Str.ofString "\n")])
  refine ⟨nn (Nat.le_of_ble_eq_true rfl), fun a4 n4 => ?_⟩
  have g4 := same_new n4 (.tup [])
  refine ⟨nn (Nat.le_of_ble_eq_true rfl), fun a5 n5 => ?_⟩
  have g5 := same_new n5 (.tup [.ref a4])
  refine ⟨nn (Nat.le_of_ble_eq_true rfl), fun a6 n6 => ?_⟩
  have g6 := same_new n6 (.tup [.ref a5])
  refine ⟨nn (Nat.le_of_ble_eq_true rfl), fun a7 n7 => ?_⟩
  have g7 := same_new n7 (.tup [.ref a6])
  refine ⟨nn (Nat.le_of_ble_eq_true rfl), fun d n8 => ?_⟩
  have g8 := same_new n8 (.lst [.bl true, .non, .ref a1, .int ((10 : Int) ^ (60 : Int).toNat), .str (repS "a" 41), .ref a2, .ref a3, .ref a7])
  have c7 := g7.trans g8
  have c6 := g6.trans c7
  have c5 := g5.trans c6
  have c4 := g4.trans c5
  have c3 := g3.trans c4
  have c2 := g2.trans c3
  have c1 := g1.trans c2
  have b7 := ((((((g1.trans g2).trans g3).trans g4).trans g5).trans g6).trans g7)
  have e1 := c2 _ _ (upd_same (a := a1) (o := .lst [.int 1]))
  have e2 := c3 _ _ (upd_same (a := a2) (o := .tup [.int 1, .int 2, .int 3, .int 4, .int 5]))
  have e3 := c4 _ _ (upd_same (a := a3) (o := .tup [.str (Str.ofString "\n")]))
  have e4 := c5 _ _ (upd_same (a := a4) (o := .tup []))
  have e5 := c6 _ _ (upd_same (a := a5) (o := .tup [.ref a4]))
  have e6 := c7 _ _ (upd_same (a := a6) (o := .tup [.ref a5]))
  have e7 := g8 _ _ (upd_same (a := a7) (o := .tup [.ref a6]))
  have dp : d ≠ p := well_ne (W.same b7) n8
  have ap : a1 ≠ p := well_ne W n1
  have W1 := W.same c1
  have e8 : upd (upd (upd (upd (upd (upd (upd (upd H a1 (.lst [.int 1])) a2 (.tup [.int 1, .int 2, .int 3, .int 4, .int 5])) a3 (.tup [.str (Str.ofString "\n")])) a4 (.tup [])) a5 (.tup [.ref a4])) a6 (.tup [.ref a5])) a7 (.tup [.ref a6])) d (.lst [.bl true, .non, .ref a1, .int ((10 : Int) ^ (60 : Int).toNat), .str (repS "a" 41), .ref a2, .ref a3, .ref a7]) d = some (.lst [.bl true, .non, .ref a1, .int ((10 : Int) ^ (60 : Int).toNat), .str (repS "a" 41), .ref a2, .ref a3, .ref a7]) := upd_same
  generalize upd (upd (upd (upd (upd (upd (upd (upd H a1 (.lst [.int 1])) a2 (.tup [.int 1, .int 2, .int 3, .int 4, .int 5])) a3 (.tup [.str (Str.ofString "\n")])) a4 (.tup [])) a5 (.tup [.ref a4])) a6 (.tup [.ref a5])) a7 (.tup [.ref a6])) d (.lst [.bl true, .non, .ref a1, .int ((10 : Int) ^ (60 : Int).toNat), .str (repS "a" 41), .ref a2, .ref a3, .ref a7]) = H1 at *
  refine ⟨_, rfl, p, 8, rfl, W1, small_lit (by decide) (by decide), fun j H2 j0 j1 W2 s2 => ?_⟩
  obtain ⟨v, av, mv⟩ := atI_in (xs := [V.bl true, .non, .ref a1, .int ((10 : Int) ^ (60 : Int).toNat), .str (repS "a" 41), .ref a2, .ref a3, .ref a7]) j0 j1
  have t2 := s2.tupsW W1
  refine .inl ⟨d, _, _, v, rfl, rfl, SqL.of (s2 _ _ e8 dp), av, ?_⟩
  have fin : Thk (fun b => b = p) H2 none v → Q v H2 := fun h => q v H2 h W2 ((SameX.of c1).trans s2)
  refine fin ?_
  have hten : (10 : Int) ^ 60 ≤ (10 : Int) ^ (60 : Int).toNat := by decide +kernel
  clear av e8
  generalize (10 : Int) ^ (60 : Int).toNat = M at mv hten
  simp only [List.mem_cons, List.not_mem_nil, or_false] at mv
  rcases mv with rfl | rfl | rfl | rfl | rfl | rfl | rfl | rfl
  · exact ⟨.odd "bool", by rw [ThAt]; exact .inl ⟨rfl, true, rfl⟩, by rw [TG.neat]; trivial, by rw [TG.fits]⟩
  · exact ⟨.odd "NoneType", by rw [ThAt]; exact .inr (.inl ⟨rfl, rfl⟩), by rw [TG.neat]; trivial, by rw [TG.fits]⟩
  · exact ⟨.odd "list", by rw [ThAt]; exact .inr (.inr (.inl ⟨rfl, a1, _, rfl, s2 _ _ e1 ap, ap⟩)), by rw [TG.neat]; trivial, by rw [TG.fits]⟩
  · refine ⟨.int M, by rw [ThAt], by rw [TG.neat]; trivial, ?_⟩
    rw [TG.fits]
    refine decide_eq_false fun z => ?_
    have e : ((10 : Int) ^ 60) = ((10 ^ 60 : Nat) : Int) := by decide +kernel
    rw [e] at hten
    generalize (10 ^ 60 : Nat) = T at *
    omega
  · refine ⟨.str _, by rw [ThAt], by rw [TG.neat, rep_len]; decide, ?_⟩
    rw [TG.fits]
    unfold textOk
    rw [rep_len]
    rfl
  · refine ⟨.tup [.int 1, .int 2, .int 3, .int 4, .int 5], ?_, ?_, ?_⟩
    · rw [ThAt]
      exact ⟨a2, _, rfl, t2 _ _ e2, by simp [ThsAt, ThAt]⟩
    · simp [TG.neat, neatL]
    · simp [TG.fits]
  · refine ⟨.tup [.str (Str.ofString "\n")], ?_, ?_, ?_⟩
    · rw [ThAt]
      exact ⟨a3, _, rfl, t2 _ _ e3, by simp [ThsAt, ThAt]⟩
    · rw [TG.neat]
      exact ⟨by decide, by rw [neatL, neatL, TG.neat]; exact ⟨by decide +kernel, trivial⟩⟩
    · rw [TG.fits, gfitsL, TG.fits, nl_bad]
      rfl
  · refine ⟨.tup [.tup [.tup [.tup []]]], ?_, ?_, ?_⟩
    · rw [ThAt]
      refine ⟨a7, _, rfl, t2 _ _ e7, ?_⟩
      rw [ThsAt]
      refine ⟨_, _, rfl, ?_, by rw [ThsAt]⟩
      rw [ThAt]
      refine ⟨a6, _, rfl, t2 _ _ e6, ?_⟩
      rw [ThsAt]
      refine ⟨_, _, rfl, ?_, by rw [ThsAt]⟩
      rw [ThAt]
      refine ⟨a5, _, rfl, t2 _ _ e5, ?_⟩
      rw [ThsAt]
      refine ⟨_, _, rfl, ?_, by rw [ThsAt]⟩
      rw [ThAt]
      exact ⟨a4, _, rfl, t2 _ _ e4, by rw [ThsAt]⟩
    · simp [TG.neat, neatL]
    · simp [TG.fits, gfitsL]
end
end Tw
set_option Elab.async false
set_option linter.all false
set_option maxRecDepth 100000
set_option maxHeartbeats 8000000
namespace L2
open PySem PySem.Spec PyProof.Rows
theorem vals_at : ∀ {xs : List V} {us : List Value} (i : Nat), Vals xs us → (xs[i]? = none ∧ us[i]? = none) ∨ ∃ x u, xs[i]? = some x ∧ us[i]? = some u ∧ RelV x u
  | _, _, i, .nil => .inl ⟨by simp, by simp⟩
  | _, _, 0, .cons r t => .inr ⟨_, _, rfl, rfl, r⟩
  | _, _, i + 1, .cons r t => by
    rcases vals_at i t with ⟨a, b⟩ | ⟨x, u, a, b, c⟩
    · exact .inl ⟨by simpa using a, by simpa using b⟩
    · exact .inr ⟨x, u, by simpa using a, by simpa using b, c⟩
theorem vals_pick {xs : List V} {us : List Value} (r : Vals xs us) : ∀ idx : List Nat, Vals (idx.filterMap (xs[·]?)) (idx.filterMap (us[·]?))
  | [] => .nil
  | i :: idx => by
    rw [List.filterMap_cons, List.filterMap_cons]
    rcases vals_at i r with ⟨a, b⟩ | ⟨x, u, a, b, c⟩
    · rw [a, b]; exact vals_pick r idx
    · rw [a, b]; exact .cons c (vals_pick r idx)
section
variable {X : Cx}
/-- xs[::k], k below 0: what is told are items of xs -/
def tRev (K : PySem.W.Frag) (te t3 : TE) : TE := fun σ H Q => te σ H fun x H1 => t3 σ H1 fun y H2 => ∃ a xs k, x = .ref a ∧ y = .int k ∧ k < 0 ∧ SqL K H2 a xs ∧ ∀ p ys, H2 p = none → (∀ z ∈ ys, z ∈ xs) → ys.length ≤ xs.length → Q (.ref p) (upd H2 p (.lst ys))
theorem pe_rev {e e3 : Expr} {te t3 : TE} {p2 pos : Pos} (he : PE X e te) (h3 : PE X e3 t3) : PE X (.Subscript e (.Slice none none (some e3) p2) pos) (tRev X.K te t3) := by
  intro pins s σ H Q I h
  refine Subscript_ (thn (he pins s σ H _ I h) fun v s1 ⟨x, H1, I1, r1, q1⟩ => ?_)
  refine wpAny_Slice ?_
  rw [evalPart_none]
  refine wpAny_pure (wpAny_pure ?_)
  rw [evalPart_some]
  refine thn (h3 pins s1 σ H1 _ I1 q1) fun u s3 ⟨y, H3, I3, r3, q3⟩ => ?_
  obtain ⟨a, xs, k, rfl, rfl, hk, hx, q⟩ := q3
  cases r1
  obtain ⟨tk, rfl⟩ := r3
  have I4 : Inv X pins σ H3 { s3 with heap := s3.heap.push { cls := .type "slice", data := .fields #[.none, .none, .int k tk] } } := I3.kept (t' := s3.toks) fun b ob q => Heap.get?_push_of_some _ q
  obtain ⟨its, r, ht, hz⟩ := I4.list hx
  have hlen := r.length
  show wpAny (model X.prog X.w) X.A (subscriptTail e (.Slice none none (some e3) p2) (.ref a) (.ref s3.heap.objs.size)) (EP X pins σ Q) X.xe { s3 with heap := s3.heap.push { cls := .type "slice", data := .fields #[.none, .none, .int k tk] } }
  refine tail_any (ops := [.ref a, .ref s3.heap.objs.size]) ht.isList.typeIs slot_list_getitem.lookup ?_ (by with_unfolding_all rfl)
  refine wpAny_getItem_list_slice ht.isList (Heap.IsSliceOf.new ..) .none .none (.int k tk) (by simp; omega) ?_ (by rw [List.size_toArray] <;> omega)
  have pk : slicePick its.toArray none none (some k) = ((sliceRange (sliceBounds none none (some k) its.toArray.size).1 (sliceBounds none none (some k) its.toArray.size).2.1 (sliceBounds none none (some k) its.toArray.size).2.2).filterMap (its[·]?)).toArray := by
    unfold slicePick
    simp
  rw [pk]
  generalize hid : sliceRange (sliceBounds none none (some k) its.toArray.size).1 (sliceBounds none none (some k) its.toArray.size).2.1 (sliceBounds none none (some k) its.toArray.size).2.2 = idx
  have hl : idx.length ≤ xs.length := by
    have e := PySem.sliceRange_len_le (sliceBounds none none (some k) its.toArray.size).1 (sliceBounds none none (some k) its.toArray.size).2.1 (sliceBounds none none (some k) its.toArray.size).2.2 (by show k ≠ 0; omega)
    rw [hid] at e
    have e1 : (sliceBounds none none (some k) its.toArray.size) = ((its.toArray.size : Int) - 1, -1, k) := by
      have : ¬ k > 0 := by omega
      simp [sliceBounds, this]
    rw [e1] at e
    have : ¬ (k > 0) := by omega
    simp only [this, if_false, List.size_toArray] at e
    omega
  have hf := List.length_filterMap_le (xs[·]?) idx
  refine ⟨.ref _, _, I4.laid (t' := s3.toks) (o := .lst (idx.filterMap (xs[·]?))) (fun b ob q => Heap.get?_push_of_some _ q) (Nat.le_refl _) ?_, rfl, q _ _ (I4.hok.fresh (Nat.le_refl _)) (fun z hz => ?_) (by omega)⟩
  · exact ⟨by omega, _, 0, vals_pick r idx, Heap.get?_push_size _ rfl⟩
  · obtain ⟨i, _, hi⟩ := List.mem_filterMap.mp hz
    exact List.mem_of_getElem? hi
end
end L2
set_option Elab.async false
set_option linter.all false
set_option maxRecDepth 100000
set_option maxHeartbeats 8000000
namespace Tw
open PySem PySem.Spec L2 PyProof.Rows
def rListOf (K : PySem.W.Frag) : List V → Hp → VK → Prop := fun xs H Q => ∃ p ys, xs = [.ref p] ∧ (SqL K H p ys ∨ SqT K H p ys) ∧ ∀ l, H l = none → Q (.ref l) (upd H l (.lst ys))
theorem call_listOf {X : Cx} : CallR X (.type "list") (rListOf X.K) := call_list_of
/-- what a spoilt patch is -/
def SpEnd (p : Addr) (H0 : Hp) (m n : Nat) (Q : VK) : Prop := ∀ (L' : Addr) (us' : List V) (H' : Hp), WellAt H' p → SameX p H0 H' → H' L' = some (.lst us') → L' ≠ p → PRE (m + 1) (fun b => b = p) H' us' → us'.length ≤ 3 * n + 1 → Q (.ref L') H'
structure Rdy (H0 H : Hp) (p L : Addr) (us : List V) (spot : V) (o nw : Addr) (m : Nat) : Prop where
  w : WellAt H p
  lp : L ≠ p
  sx : SameX p H0 H
  hL : H L = some (.lst us)
  l30 : us.length ≤ 30
  l1 : 0 < us.length
  m10 : m ≤ 10
  pre : PRE m (fun b => b = p) H us
  spot : ∃ k, Thk (fun b => b = p) H k spot
  old : ∃ os, LstK (fun b => b = p) H os o ∧ os.length ≤ m
  new : ∃ os, LstK (fun b => b = p) H os nw ∧ os.length ≤ m
theorem Rdy.go {H0 H H' : Hp} {p L : Addr} {us : List V} {spot : V} {o nw : Addr} {m : Nat} (r : Rdy H0 H p L us spot o nw m) (s : SameX p H H') (w : WellAt H' p) : Rdy H0 H' p L us spot o nw m := by
  have k := keepP r.w s
  obtain ⟨k1, h1⟩ := r.spot
  obtain ⟨k2, h2, h2'⟩ := r.old
  obtain ⟨k3, h3, h3'⟩ := r.new
  exact ⟨w, r.lp, r.sx.trans s, s _ _ r.hL r.lp, r.l30, r.l1, r.m10, r.pre.mono k, ⟨k1, h1.mono k⟩, ⟨k2, h2.mono k, h2'⟩, ⟨k3, h3.mono k, h3'⟩⟩
theorem PRE.one {m : Nat} {N : Addr → Prop} {H : Hp} {q : Addr} {x : V} {a b : Addr} {k : Option KT} {o1 o2 : List (Option KT)} (e : H q = some (.tup [x, .ref a, .ref b])) (h : Thk N H k x) (h1 : LstK N H o1 a) (h2 : LstK N H o2 b) (l1 : o1.length ≤ m) (l2 : o2.length ≤ m) : PRE m N H [.ref q] := fun u hu => by
  rw [List.mem_singleton] at hu
  subst hu
  exact ⟨(k, o1, o2), ⟨q, x, a, b, rfl, e, h, h1, h2⟩, l1, l2⟩
abbrev nSpoilt : List Str := ["_law_well_here", "_law_rows_here", "_law_at", "_law_spot", "_law_old", "_law_new", "_law_way", "_law_row"]
theorem scSpoilt : FnScope nSpoilt ["_law_well_here", "_law_rows_here"] (defScope sSpoilt) := ⟨rfl, rfl, rfl, by decide +kernel, rfl, by decide +kernel, by decide +kernel⟩
/-- the rest of a body, once the row stands -/
def Tl (X : Cx) (b : List Stmt) : Prop := ∃ t, PSs X b t ∧ ∀ (H0 H : Hp) (p L : Addr) (at' way : Int) (us : List V) (spot : V) (o nw q : Addr) (m : Nat) (Q : VK), Rdy H0 H p L us spot o nw m → PRE (m + 1) (fun b => b = p) H [.ref q] → SpEnd p H0 m us.length Q →
  t { nx := fun _ H' => Q .non H', rt := Q } [some (.ref p), some (.ref L), some (.int at'), some spot, some (.ref o), some (.ref nw), some (.int way), some (.ref q)] H
section
variable {P : Program} {w : World} {K : PySem.W.Frag} {mg : Str → Option Value} {base : Heap} {f : Addr} {fd : FuncData} {cdv : Value} {A : Around} {outer : List Env} {s : Shared} {Hs : Hp} {E : XK}
theorem tl12 : Tl (cxOf CX0 P w K mg base nSpoilt "_law_spoilt" (defScope sSpoilt) f cdv A outer s Hs E).nox ((defBody sSpoilt).drop 12) := by
  refine ⟨_, pss_one (ps_ret (pe_op op_cat (pe_op op_cat (pe_slice sl_list (pv 1) po_none (po_some (pv 2))) (pe_lst (pa_c (pv 7) pa_nil))) (pe_slice sl_list (pv 1) (po_some (pe_op op_add (pv 2) pe_int)) po_none))), fun H0 H p L at' way us spot o nw q m Q r hq k => ?_⟩
  refine ⟨_, rfl, _, rfl, _, rfl, L, us, rfl, SqL.of r.hL, fun q1 n1 => ?_⟩
  have g1 := same_new n1 (.lst (cutV us none (some at')))
  refine ⟨_, rfl, nn (Nat.le_of_ble_eq_true rfl), fun q2 n2 => ?_⟩
  have g2 := same_new n2 (.lst [.ref q])
  have c1 := cutV_length us none (some at')
  have c2 := cutV_length us (some (at' + 1)) none
  have h30 := r.l30
  have h1 := r.l1
  refine ⟨q1, q2, _, _, rfl, rfl, g2 _ _ upd_same, upd_same, nn (by simp; omega), fun q3 n3 => ?_⟩
  have g3 := same_new n3 (.lst (cutV us none (some at') ++ [.ref q]))
  have g13 := (g1.trans g2).trans g3
  refine ⟨_, rfl, _, rfl, _, _, rfl, rfl, _, rfl, L, us, rfl, SqL.of (g13 _ _ r.hL), fun q4 n4 => ?_⟩
  have g4 := same_new n4 (.lst (cutV us (some (at' + 1)) none))
  refine ⟨q3, q4, _, _, rfl, rfl, g4 _ _ upd_same, upd_same, nn (by simp; omega), fun q5 n5 => ?_⟩
  have g5 := same_new n5 (.lst (cutV us none (some at') ++ [.ref q] ++ cutV us (some (at' + 1)) none))
  have gA := (g13.trans g4).trans g5
  refine k q5 _ _ (r.w.same gA) (r.sx.trans (SameX.of gA)) upd_same (well_ne (r.w.same (g13.trans g4)) n5) ?_ (by simp; omega)
  have pr := (r.pre.mono (Keeps.same gA)).more (Nat.le_succ m)
  exact ((pr.sub (cutV_sub _ _ _)).app (hq.mono (Keeps.same gA))).app (pr.sub (cutV_sub _ _ _))
theorem tl11 (DB : DefOk P w K mg base 2 "_law_bad" ["_law_well_here"] spBad) (hr : Room 2 (A.deeper (envOfC "_law_spoilt" (defScope sSpoilt) s.heap.objs.size f cdv))) : Tl (cxOf CX0 P w K mg base nSpoilt "_law_spoilt" (defScope sSpoilt) f cdv A outer s Hs E).nox ((defBody sSpoilt).drop 11) := by
  have nd := scSpoilt.nd
  obtain ⟨t, ht, hk⟩ := tl12 (P := P) (w := w) (K := K) (mg := mg) (base := base) (f := f) (cdv := cdv) (A := A) (outer := outer) (s := s) (Hs := Hs) (E := E)
  refine ⟨_, pss_cons (ps_if (pt_cmpR op_eq (pv 6) pe_int (nomark _)) (pss_one (ps_set (i := 7) nd rfl (Or.inl rfl) (pe_tup (pa3 (pv 3) (pv 4) (pe_lst (pa_c (pe_def DB hr (pa_c (pv 0) pa_nil)) pa_nil)))))) pss_nil) ht, fun H0 H p L at' way us spot o nw q m Q r hq k => ?_⟩
  refine ⟨_, rfl, rfl, _, rfl, ite2 (fun c => ?_) (fun c => hk H0 H p L at' way us spot o nw q m Q r hq k)⟩
  refine ⟨_, rfl, _, rfl, _, rfl, p, rfl, r.w, fun v H2 hv W2 s2 => ⟨nn (Nat.le_of_ble_eq_true rfl), fun a na => ⟨nn (Nat.le_of_ble_eq_true rfl), fun q' nq => ?_⟩⟩⟩
  have g1 := same_new na (.lst [v])
  have g2 := same_new nq (.tup [spot, .ref o, .ref a])
  have g := g1.trans g2
  have r' := r.go (s2.trans (SameX.of g)) (W2.same g)
  obtain ⟨k1, h1⟩ := r'.spot
  obtain ⟨k2, h2, h2'⟩ := r'.old
  exact hk H0 _ p L at' way us spot o nw q' m Q r' (PRE.one upd_same h1 h2 ⟨[v], g2 _ _ upd_same, well_ne W2 na, .cons (hv.mono (Keeps.same g)) .nil⟩ (by omega) (Nat.succ_le_succ (Nat.zero_le m))) k
theorem tl10 (DB : DefOk P w K mg base 2 "_law_bad" ["_law_well_here"] spBad) (hr : Room 2 (A.deeper (envOfC "_law_spoilt" (defScope sSpoilt) s.heap.objs.size f cdv))) : Tl (cxOf CX0 P w K mg base nSpoilt "_law_spoilt" (defScope sSpoilt) f cdv A outer s Hs E).nox ((defBody sSpoilt).drop 10) := by
  have nd := scSpoilt.nd
  obtain ⟨t, ht, hk⟩ := tl11 (outer := outer) (Hs := Hs) (E := E) DB hr
  refine ⟨_, pss_cons (ps_if (pt_cmpR op_eq (pv 6) pe_int (nomark _)) (pss_one (ps_set (i := 7) nd rfl (Or.inl rfl) (pe_tup (pa3 (pv 3) (pe_lst (pa_c (pe_def DB hr (pa_c (pv 0) pa_nil)) pa_nil)) (pv 5))))) pss_nil) ht, fun H0 H p L at' way us spot o nw q m Q r hq k => ?_⟩
  refine ⟨_, rfl, rfl, _, rfl, ite2 (fun c => ?_) (fun c => hk H0 H p L at' way us spot o nw q m Q r hq k)⟩
  refine ⟨_, rfl, _, rfl, p, rfl, r.w, fun v H2 hv W2 s2 => ⟨nn (Nat.le_of_ble_eq_true rfl), fun a na => ⟨_, rfl, nn (Nat.le_of_ble_eq_true rfl), fun q' nq => ?_⟩⟩⟩
  have g1 := same_new na (.lst [v])
  have g2 := same_new nq (.tup [spot, .ref a, .ref nw])
  have g := g1.trans g2
  have r' := r.go (s2.trans (SameX.of g)) (W2.same g)
  obtain ⟨k1, h1⟩ := r'.spot
  obtain ⟨k2, h2, h2'⟩ := r'.new
  exact hk H0 _ p L at' way us spot o nw q' m Q r' (PRE.one upd_same h1 ⟨[v], g2 _ _ upd_same, well_ne W2 na, .cons (hv.mono (Keeps.same g)) .nil⟩ h2 (Nat.succ_le_succ (Nat.zero_le m)) (by omega)) k
theorem tl9 (DB : DefOk P w K mg base 2 "_law_bad" ["_law_well_here"] spBad) (DV : DefOk P w K mg base 7 "_law_value" ["_law_well_here"] spValue) (hr : Room 7 (A.deeper (envOfC "_law_spoilt" (defScope sSpoilt) s.heap.objs.size f cdv))) : Tl (cxOf CX0 P w K mg base nSpoilt "_law_spoilt" (defScope sSpoilt) f cdv A outer s Hs E).nox ((defBody sSpoilt).drop 9) := by
  have nd := scSpoilt.nd
  obtain ⟨t, ht, hk⟩ := tl10 (outer := outer) (Hs := Hs) (E := E) DB (hr.mono (show 2 ≤ 7 by decide))
  refine ⟨_, pss_cons (ps_if (pt_cmpR op_eq (pv 6) pe_int (nomark _)) (pss_one (ps_set (i := 7) nd rfl (Or.inl rfl) (pe_tup (pa3 (pv 3) (pv 4) (pe_op op_cat (pv 5) (pe_lst (pa_c (pe_def DV hr (pa_c (pv 0) pa_nil)) pa_nil))))))) pss_nil) ht, fun H0 H p L at' way us spot o nw q m Q r hq k => ?_⟩
  refine ⟨_, rfl, rfl, _, rfl, ite2 (fun c => ?_) (fun c => hk H0 H p L at' way us spot o nw q m Q r hq k)⟩
  refine ⟨_, rfl, _, rfl, _, rfl, _, rfl, p, rfl, r.w, fun v vt H2 hv fv W2 s2 => ⟨nn (Nat.le_of_ble_eq_true rfl), fun a na => ?_⟩⟩
  have g1 := same_new na (.lst [v])
  have r1 := r.go (s2.trans (SameX.of g1)) (W2.same g1)
  obtain ⟨k3, ⟨xs, h3, h3n, h3p⟩, h3'⟩ := r1.new
  have l3 := Paired.length h3p
  have m10 := r.m10
  refine ⟨nw, a, xs, _, rfl, rfl, h3, upd_same, nn (by simp; omega), fun b nb => ⟨nn (Nat.le_of_ble_eq_true rfl), fun q' nq => ?_⟩⟩
  have g2 := same_new nb (.lst (xs ++ [v]))
  have g3 := same_new nq (.tup [spot, .ref o, .ref b])
  have g := g2.trans g3
  have r' := r1.go (SameX.of g) (r1.w.same g)
  obtain ⟨k1, h1⟩ := r'.spot
  obtain ⟨k2, h2, h2'⟩ := r'.old
  exact hk H0 _ p L at' way us spot o nw q' m Q r' (PRE.one upd_same h1 h2 ⟨xs ++ [v], g3 _ _ upd_same, well_ne r1.w nb, Paired.app (Paired.mapP h3p fun _ _ z => z.mono (Keeps.same g)) (.cons (a := some vt) ⟨hv.mono (Same.tups (g1.trans g)) _ _, fv⟩ .nil)⟩ (by omega) (by rw [List.length_append]; show _ + 1 ≤ _; omega)) k
theorem tl8 (DB : DefOk P w K mg base 2 "_law_bad" ["_law_well_here"] spBad) (DV : DefOk P w K mg base 7 "_law_value" ["_law_well_here"] spValue) (DK : DefOk P w K mg base 6 "_law_key" ["_law_well_here", "_law_room"] (spKey 4)) (hr : Room 7 (A.deeper (envOfC "_law_spoilt" (defScope sSpoilt) s.heap.objs.size f cdv))) : Tl (cxOf CX0 P w K mg base nSpoilt "_law_spoilt" (defScope sSpoilt) f cdv A outer s Hs E).nox ((defBody sSpoilt).drop 8) := by
  have nd := scSpoilt.nd
  obtain ⟨t, ht, hk⟩ := tl9 (outer := outer) (Hs := Hs) (E := E) DB DV hr
  refine ⟨_, pss_cons (ps_if (pt_cmpR op_eq (pv 6) pe_int (nomark _)) (pss_one (ps_set (i := 7) nd rfl (Or.inl rfl) (pe_tup (pa3 (pe_def DK (hr.mono (show 6 ≤ 7 by decide)) (pa_c (pv 0) (pa_c pe_int pa_nil))) (pv 4) (pv 5))))) pss_nil) ht, fun H0 H p L at' way us spot o nw q m Q r hq k => ?_⟩
  refine ⟨_, rfl, rfl, _, rfl, ite2 (fun c => ?_) (fun c => hk H0 H p L at' way us spot o nw q m Q r hq k)⟩
  refine ⟨_, rfl, p, 3, rfl, r.w, by decide, fun v vt H2 hv fv W2 s2 => ⟨_, rfl, _, rfl, nn (Nat.le_of_ble_eq_true rfl), fun q' nq => ?_⟩⟩
  have g := same_new nq (.tup [v, .ref o, .ref nw])
  have r' := r.go (s2.trans (SameX.of g)) (W2.same g)
  obtain ⟨k1, h1, h1'⟩ := r'.old
  obtain ⟨k2, h2, h2'⟩ := r'.new
  exact hk H0 _ p L at' way us spot o nw q' m Q r' (PRE.one (k := some vt) upd_same ⟨hv.mono (Same.tups g) _ _, fv⟩ h1 h2 (by omega) (by omega)) k
theorem tl7 (DB : DefOk P w K mg base 2 "_law_bad" ["_law_well_here"] spBad) (DV : DefOk P w K mg base 7 "_law_value" ["_law_well_here"] spValue) (DK : DefOk P w K mg base 6 "_law_key" ["_law_well_here", "_law_room"] (spKey 4)) (hr : Room 7 (A.deeper (envOfC "_law_spoilt" (defScope sSpoilt) s.heap.objs.size f cdv))) : Tl (cxOf CX0 P w K mg base nSpoilt "_law_spoilt" (defScope sSpoilt) f cdv A outer s Hs E).nox ((defBody sSpoilt).drop 7) := by
  have nd := scSpoilt.nd
  obtain ⟨t, ht, hk⟩ := tl8 (outer := outer) (Hs := Hs) (E := E) DB DV DK hr
  refine ⟨_, pss_cons (ps_if (pt_cmpR op_eq (pv 6) pe_int (nomark _)) (pss_one (ps_set (i := 7) nd rfl (Or.inl rfl) (pe_tup (pa3 (pe_def DB (hr.mono (show 2 ≤ 7 by decide)) (pa_c (pv 0) pa_nil)) (pv 4) (pv 5))))) pss_nil) ht, fun H0 H p L at' way us spot o nw q m Q r hq k => ?_⟩
  refine ⟨_, rfl, rfl, _, rfl, ite2 (fun c => ?_) (fun c => hk H0 H p L at' way us spot o nw q m Q r hq k)⟩
  refine ⟨_, rfl, p, rfl, r.w, fun v H2 hv W2 s2 => ⟨_, rfl, _, rfl, nn (Nat.le_of_ble_eq_true rfl), fun q' nq => ?_⟩⟩
  have g := same_new nq (.tup [v, .ref o, .ref nw])
  have r' := r.go (s2.trans (SameX.of g)) (W2.same g)
  obtain ⟨k1, h1, h1'⟩ := r'.old
  obtain ⟨k2, h2, h2'⟩ := r'.new
  exact hk H0 _ p L at' way us spot o nw q' m Q r' (PRE.one (k := none) upd_same (hv.mono (Keeps.same g)) h1 h2 (by omega) (by omega)) k
/-! ### _law_spoilt -/
theorem tl6 (T : Txt mg) (DB : DefOk P w K mg base 2 "_law_bad" ["_law_well_here"] spBad) (DV : DefOk P w K mg base 7 "_law_value" ["_law_well_here"] spValue) (DK : DefOk P w K mg base 6 "_law_key" ["_law_well_here", "_law_room"] (spKey 4)) (hr : Room 7 (A.deeper (envOfC "_law_spoilt" (defScope sSpoilt) s.heap.objs.size f cdv))) :
    ∃ t, PSs (cxOf CX0 P w K mg base nSpoilt "_law_spoilt" (defScope sSpoilt) f cdv A outer s Hs E).nox ((defBody sSpoilt).drop 6) t ∧ ∀ (H0 H : Hp) (p L : Addr) (at' way : Int) (us : List V) (spot : V) (o nw : Addr) (m : Nat) (Q : VK), Rdy H0 H p L us spot o nw m → SpEnd p H0 m us.length Q →
      t { nx := fun _ H' => Q .non H', rt := Q } [some (.ref p), some (.ref L), some (.int at'), some spot, some (.ref o), some (.ref nw), some (.int way), none] H := by
  have nd := scSpoilt.nd
  obtain ⟨t, ht, hk⟩ := tl7 (outer := outer) (Hs := Hs) (E := E) DB DV DK hr
  refine ⟨_, pss_cons (ps_set (i := 7) nd rfl (Or.inl rfl) (pe_tup (pa3 (pv 3) (pv 5) (pe_callTy (r := rListOf K) call_listOf rfl T.list tb_list (pa_c (pv 5) pa_nil))))) ht, fun H0 H p L at' way us spot o nw m Q r k => ?_⟩
  obtain ⟨k3, ⟨xs, h3, h3n, h3p⟩, h3'⟩ := r.new
  refine ⟨_, rfl, _, rfl, _, rfl, nw, xs, rfl, .inl (SqL.of h3), fun b nb => ⟨nn (Nat.le_of_ble_eq_true rfl), fun q' nq => ?_⟩⟩
  have g2 := same_new nb (.lst xs)
  have g3 := same_new nq (.tup [spot, .ref nw, .ref b])
  have g := g2.trans g3
  have r' := r.go (SameX.of g) (r.w.same g)
  obtain ⟨k1, h1⟩ := r'.spot
  exact hk H0 _ p L at' way us spot o nw q' m Q r' (PRE.one upd_same h1 (LstK.mono ⟨xs, h3, h3n, h3p⟩ (Keeps.same g)) ⟨xs, g3 _ _ upd_same, well_ne r.w nb, Paired.mapP h3p fun _ _ z => z.mono (Keeps.same g)⟩ (by omega) (by omega)) k
def spSpoilt : Sp := fun vs H Q _ => ∃ (p L : Addr) (us : List V) (m : Nat), vs = [.ref p, .ref L] ∧ WellAt H p ∧ L ≠ p ∧ H L = some (.lst us) ∧ us.length ≤ 30 ∧ m ≤ 10 ∧ PRE m (fun b => b = p) H us ∧ SpEnd p H m us.length Q
theorem ok_spoilt (F : Fun K "_law_spoilt" "_law_spoilt" sSpoilt f fd) (T : Txt mg) (DP : DefOk P w K mg base 1 "_law_pull" ["_law_well_here", "_law_many"] spPull) (DB : DefOk P w K mg base 2 "_law_bad" ["_law_well_here"] spBad) (DV : DefOk P w K mg base 7 "_law_value" ["_law_well_here"] spValue) (DK : DefOk P w K mg base 6 "_law_key" ["_law_well_here", "_law_room"] (spKey 4)) :
    FnOk P w K mg base CX0 8 f fd ["_law_well_here", "_law_rows_here"] spSpoilt := by
  refine F.ok scSpoilt (fun vs H Q E h => (by obtain ⟨_, _, _, _, rfl, _⟩ := h; rfl)) (fun cdv A outer s H vs Q E hr h => ?_)
  obtain ⟨p, L, us, m, rfl, W, Lp, hL, l30, m10, pre, k⟩ := h
  have nd := scSpoilt.nd
  have hr1 := hr.mono (show 1 ≤ 7 by decide)
  have hr2 := hr.mono (show 2 ≤ 7 by decide)
  obtain ⟨t, ht, hk⟩ := tl6 (outer := outer) (Hs := H) (E := E) T DB DV DK hr
  refine ⟨_, pss_cons (ps_if (pt_cmpR (tw_eq_nil hr.units0) (pv 1) (pe_lst pa_nil) (nomark _)) (pss_one (ps_ret (pe_lst (pa_c (pe_tup (pa3 (pe_def DB hr2 (pa_c (pv 0) pa_nil)) (pe_lst pa_nil) (pe_lst (pa_c pe_int pa_nil)))) pa_nil)))) pss_nil)
    (pss_cons (ps_set (i := 2) nd rfl (Or.inl rfl) (pe_def DP hr1 (pa_c (pv 0) (pa_c (pe_callB call_len_seq rfl T.len tb_len (pa_c (pv 1) pa_nil)) pa_nil))))
    (pss_cons (ps_asg (pe_ix (r := rIx K) ix_seq (pv 1) (pv 2) (fun _ _ => rfl)) (pg_tup rfl (pgs_cons (pg_name (i := 3) nd rfl (Or.inl rfl)) (pgs_cons (pg_name (i := 4) nd rfl (Or.inl rfl)) (pgs_cons (pg_name (i := 5) nd rfl (Or.inl rfl)) pgs_nil)))))
    (pss_cons (ps_set (i := 6) nd rfl (Or.inl rfl) (pe_def DP hr1 (pa_c (pv 0) (pa_c pe_int pa_nil))))
    (pss_cons (ps_if (pt_cmpR op_eq (pv 6) pe_int (nomark _)) (pss_one (ps_ret (pe_op op_cat (pe_op op_cat (pe_slice sl_list (pv 1) po_none (po_some (pv 2))) (pe_rev (pe_slice sl_list (pv 1) (po_some (pv 2)) (po_some (pe_op op_add (pv 2) pe_int))) (pe_un un_neg pe_int))) (pe_slice sl_list (pv 1) (po_some (pe_op op_add (pv 2) pe_int)) po_none)))) pss_nil)
    (pss_cons (ps_if (pt_cmpR op_eq (pv 6) pe_int (nomark _)) (pss_one (ps_ret (pe_op op_cat (pe_slice sl_list (pv 1) po_none (po_some (pe_op op_add (pv 2) pe_int))) (pe_slice sl_list (pv 1) (po_some (pv 2)) po_none)))) pss_nil) ht))))), ?_⟩
  refine ⟨_, rfl, nn (Nat.le_of_ble_eq_true rfl), fun e0 ne0 => ?_⟩
  have g0 := same_new ne0 (.lst [])
  have W0 := W.same g0
  have hL0 := g0 _ _ hL
  have he0 := upd_same (H := H) (a := e0) (o := .lst [])
  have pre0 := pre.mono (Keeps.same g0)
  generalize upd H e0 (.lst []) = H0 at g0 W0 hL0 he0 pre0 ⊢
  refine ⟨L, e0, us, rfl, rfl, SqL.of hL0, SqL.of he0, _, rfl, ?_⟩
  cases hie : us.isEmpty with
  | true =>
    refine iteT ⟨_, rfl, p, rfl, W0, fun v H2 hv W2 s2 => ⟨nn (Nat.le_of_ble_eq_true rfl), fun a na => ⟨nn (Nat.le_of_ble_eq_true rfl), fun b nb => ⟨nn (Nat.le_of_ble_eq_true rfl), fun q nq => ⟨nn (Nat.le_of_ble_eq_true rfl), fun l nl => ?_⟩⟩⟩⟩⟩
    have g1 := same_new na (.lst [])
    have g2 := same_new nb (.lst [.int 1])
    have g3 := same_new nq (.tup [v, .ref a, .ref b])
    have g4 := same_new nl (.lst [.ref q])
    have g := ((g1.trans g2).trans g3).trans g4
    refine k l _ _ (W2.same g) (((SameX.of g0).trans s2).trans (SameX.of g)) upd_same (well_ne (W2.same ((g1.trans g2).trans g3)) nl) ?_ (Nat.succ_le_succ (Nat.zero_le _))
    refine PRE.one (k := none) (o1 := []) (o2 := [some (.int 1)]) (g4 _ _ upd_same) (hv.mono (Keeps.same g)) ⟨[], (g2.trans (g3.trans g4)) _ _ upd_same, well_ne W2 na, .nil⟩ ⟨[.int 1], (g3.trans g4) _ _ upd_same, well_ne (W2.same g1) nb, .cons ⟨.int 1, by decide +kernel⟩ .nil⟩ (Nat.zero_le _) (Nat.succ_le_succ (Nat.zero_le _))
  | false =>
  have hpos : 0 < us.length := by
    cases us with
    | nil => cases hie
    | cons _ _ => simp
  refine iteF ⟨_, rfl, _, rfl, L, us, rfl, .inl (SqL.of hL0), p, us.length, rfl, W0, small_lit (by omega) (by omega), fun at' H1 a0 a1 W1 s1 => ?_⟩
  have hL1 := s1 _ _ hL0 Lp
  have pre1 := pre0.mono (keepP W0 s1)
  have ea : at' = ((at'.toNat : Nat) : Int) := by omega
  have hau : us[at'.toNat]? = some (us[at'.toNat]'(by omega)) := List.getElem?_eq_getElem (by omega)
  have av : atI us at' = some (us[at'.toNat]'(by omega)) := (congrArg (atI us) ea).trans (atI_nat hau)
  obtain ⟨r, ⟨tt, x, a, b, eu, ht, hx, hla, hlb⟩, l1, l2⟩ := pre1 _ (List.mem_of_getElem? hau)
  rw [eu] at av
  refine ⟨_, rfl, _, rfl, .inl ⟨L, us, _, _, rfl, rfl, SqL.of hL1, av, tt, _, rfl, SqT.of ht, rfl, _, _, rfl, _, _, rfl, _, _, rfl, rfl, ?_⟩⟩
  refine ⟨_, rfl, p, 8, rfl, W1, small_lit (by decide) (by decide), fun way H2 w0 w1 W2 s2 => ?_⟩
  have kp := keepP W1 s2
  have R : Rdy H H2 p L us x a b m := ⟨W2, Lp, ((SameX.of g0).trans s1).trans s2, s2 _ _ hL1 Lp, l30, hpos, m10, pre1.mono kp, ⟨_, hx.mono kp⟩, ⟨_, hla.mono kp, l1⟩, ⟨_, hlb.mono kp, l2⟩⟩
  clear hx hla hlb ht l1 l2 pre1 pre0 hau
  refine ⟨_, rfl, rfl, _, rfl, ite2 (fun c => ?_) (fun c => ?_)⟩
  · refine ⟨_, rfl, _, rfl, _, rfl, L, us, rfl, SqL.of R.hL, fun q1 n1 => ?_⟩
    have g1 := same_new n1 (.lst (cutV us none (some at')))
    refine ⟨_, rfl, _, rfl, _, rfl, _, rfl, _, _, rfl, rfl, _, rfl, L, us, rfl, SqL.of (g1 _ _ R.hL), fun q2 n2 => ?_⟩
    have g2 := same_new n2 (.lst (cutV us (some at') (some (at' + 2))))
    refine ⟨_, rfl, q2, _, _, rfl, rfl, by decide, SqL.of upd_same, fun q3 ys n3 my ly => ?_⟩
    have g3 := same_new n3 (.lst ys)
    have c1 := cutV_length us none (some at')
    have c2 := cutV_length us (some at') (some (at' + 2))
    have c3 := cutV_length us (some (at' + 2)) none
    refine ⟨q1, q3, _, _, rfl, rfl, (g2.trans g3) _ _ upd_same, upd_same, nn (by omega), fun q4 n4 => ?_⟩
    have g4 := same_new n4 (.lst (cutV us none (some at') ++ ys))
    have g14 := ((g1.trans g2).trans g3).trans g4
    refine ⟨_, rfl, _, rfl, _, _, rfl, rfl, _, rfl, L, us, rfl, SqL.of (g14 _ _ R.hL), fun q5 n5 => ?_⟩
    have g5 := same_new n5 (.lst (cutV us (some (at' + 2)) none))
    refine ⟨q4, q5, _, _, rfl, rfl, g5 _ _ upd_same, upd_same, nn (by simp; omega), fun q6 n6 => ?_⟩
    have g6 := same_new n6 (.lst (cutV us none (some at') ++ ys ++ cutV us (some (at' + 2)) none))
    have gA := (g14.trans g5).trans g6
    have pr := (R.pre.mono (Keeps.same gA)).more (Nat.le_succ m)
    refine k q6 _ _ (R.w.same gA) (R.sx.trans (SameX.of gA)) upd_same (well_ne (R.w.same (g14.trans g5)) n6) ?_ (by simp; omega)
    exact ((pr.sub (cutV_sub _ _ _)).app (pr.sub fun z hz => cutV_sub _ _ _ z (my z hz))).app (pr.sub (cutV_sub _ _ _))
  refine ⟨_, rfl, rfl, _, rfl, ite2 (fun c => ?_) (fun c => hk H H2 p L at' way us x a b m Q R k)⟩
  refine ⟨_, rfl, _, rfl, _, _, rfl, rfl, _, rfl, L, us, rfl, SqL.of R.hL, fun q1 n1 => ?_⟩
  have g1 := same_new n1 (.lst (cutV us none (some (at' + 1))))
  refine ⟨_, rfl, _, rfl, _, rfl, L, us, rfl, SqL.of (g1 _ _ R.hL), fun q2 n2 => ?_⟩
  have g2 := same_new n2 (.lst (cutV us (some at') none))
  have c1 := cutV_length us none (some (at' + 1))
  have c2 := cutV_length us (some at') none
  refine ⟨q1, q2, _, _, rfl, rfl, g2 _ _ upd_same, upd_same, nn (by omega), fun q3 n3 => ?_⟩
  have g3 := same_new n3 (.lst (cutV us none (some (at' + 1)) ++ cutV us (some at') none))
  have gA := (g1.trans g2).trans g3
  have pr := (R.pre.mono (Keeps.same gA)).more (Nat.le_succ m)
  refine k q3 _ _ (R.w.same gA) (R.sx.trans (SameX.of gA)) upd_same (well_ne (R.w.same (g1.trans g2)) n3) ?_ (by simp; omega)
  exact (pr.sub (cutV_sub _ _ _)).app (pr.sub (cutV_sub _ _ _))
end
end Tw
set_option Elab.async false
set_option linter.all false
set_option maxRecDepth 100000
set_option maxHeartbeats 8000000
namespace L2
open PySem PySem.Spec
section
variable {X : Cx}
/-- xs != [] -/
theorem tw_ne_nil (hu : X.A.units < cLine) : OpR X (compareOp .NotEq) (fun x y H Q => ∃ p b xs, x = .ref p ∧ y = .ref b ∧ SqL X.K H p xs ∧ SqL X.K H b [] ∧ Q (.bl (!xs.isEmpty)) H) := by
  intro pins s σ H x y v u Q I rx ry h
  obtain ⟨p, b, xs, rfl, rfl, h1, h2, q⟩ := h
  cases rx
  cases ry
  obtain ⟨its, r1, p1, z1⟩ := I.list h1
  obtain ⟨its2, r2, p2, z2⟩ := I.list h2
  have l1 := r1.length
  have l2 := r2.length
  have e2 : its2 = [] := List.eq_nil_of_length_eq_zero (by rw [← l2]; rfl)
  subst e2
  cases xs with
  | nil =>
    have e1 : its = [] := List.eq_nil_of_length_eq_zero (by rw [← l1]; rfl)
    subst e1
    exact PySem.SeqAt.RcNeAt.lists (e := fun _ => true) p1.isList p2.isList rfl hu (fun j h1 _ => absurd h1 (by simp)) X.prog X.w X.xe _ (fin_bl I q (by simp))
  | cons x r => exact PySem.SeqAt.RcNeAt.lists_lengths p1.isList p2.isList (by simp; intro e; subst e; simp at l1) hu X.prog X.w X.xe _ (fin_bl I q rfl)
end
end L2
namespace Tw
open PySem PySem.Spec L2 PyProof.Rows
/-! ### what is due, pure -/
def kAt (rs : List PR) (j : Nat) : KT := (rs.map fun r => kOf r.1).getD j (.int 0)
theorem kAt_of {rs : List PR} {j : Nat} {r : PR} (e : rs[j]? = some r) : kAt rs j = kOf r.1 := by
  unfold kAt
  rw [List.getD_eq_getElem?_getD, List.getElem?_map, e]
  rfl
theorem all_no {α : Type} {l : List α} {p : α → Bool} {a : α} {i : Nat} (e : l[i]? = some a) (h : p a = false) : l.all p = false := by
  cases q : l.all p with
  | false => rfl
  | true =>
    have := List.all_eq_true.mp q a (List.mem_of_getElem? e)
    rw [h] at this
    cases this
theorem bad_spot {rs : List PR} {i : Nat} {r : PR} (e : rs[i]? = some r) (h : r.1.isSome = false) : patchOk rs = false := by
  unfold patchOk
  rw [all_no (p := fun r : PR => r.1.isSome) e h, Bool.false_and]
theorem bad_ch {rs : List PR} {i : Nat} {r : PR} (e : rs[i]? = some r) (h : chOk r = false) : patchOk rs = false := by
  unfold patchOk
  rw [all_no e h, Bool.and_false, Bool.and_false]
theorem bad_rise {rs : List PR} {i : Nat} (hi : i + 1 < rs.length) (h : (kAt rs i).lt (kAt rs (i + 1)) = false) : patchOk rs = false := by
  unfold patchOk
  have : riseL (rs.map fun r => kOf r.1) = false := by
    cases q : riseL (rs.map fun r => kOf r.1) with
    | false => rfl
    | true =>
      have := List.all_eq_true.mp q _ (List.mem_map.mpr ⟨i, List.mem_range.mpr (by rw [List.length_map]; omega), rfl⟩)
      unfold kAt at h
      rw [id, h] at this
      cases this
  rw [this, Bool.false_and, Bool.and_false]
theorem all_yes {α : Type} {l : List α} {p : α → Bool} (h : ∀ (i : Nat) a, l[i]? = some a → p a = true) : l.all p = true := List.all_eq_true.mpr fun a ha => by
  obtain ⟨i, hi⟩ := List.getElem?_of_mem ha
  exact h i a hi
theorem good_all {rs : List PR} (h1 : ∀ (i : Nat) r, rs[i]? = some r → r.1.isSome = true ∧ chOk r = true) (h2 : ∀ i, i + 1 < rs.length → (kAt rs i).lt (kAt rs (i + 1)) = true) : patchOk rs = true := by
  unfold patchOk
  rw [all_yes (p := fun r : PR => r.1.isSome) fun i r e => (h1 i r e).1, all_yes (p := chOk) fun i r e => (h1 i r e).2, Bool.true_and, Bool.and_true]
  refine List.all_eq_true.mpr fun b hb => ?_
  obtain ⟨j, hj, rfl⟩ := List.mem_map.mp hb
  have hj' := List.mem_range.mp hj
  rw [List.length_map] at hj'
  exact h2 j (by omega)
def LstW (N : Addr → Prop) (H : Hp) (os : List (Option KT)) (u : V) : Prop := ∃ a xs, u = .ref a ∧ H a = some (.lst xs) ∧ Paired (Thk N H) os xs
theorem LstW.same {N : Addr → Prop} {H H' : Hp} {os : List (Option KT)} {u : V} (h : LstW N H os u) (s : Same H H') : LstW N H' os u := by
  obtain ⟨a, xs, e, e1, e2⟩ := h
  exact ⟨a, xs, e, s _ _ e1, Paired.mapP e2 fun _ _ z => z.mono (Keeps.same s)⟩
section
variable {P : Program} {w : World} {K : PySem.W.Frag} {mg : Str → Option Value} {base : Heap} {f : Addr} {fd : FuncData}
/-! ### _law_due -/
def spDue : Sp := fun vs H Q _ => ∃ (l : Addr) (us : List V) (rs : List PR) (N : Addr → Prop), vs = [.ref l] ∧ H l = some (.lst us) ∧ PRows N H rs us ∧ us.length ≤ 100 ∧ (∀ r ∈ rs, r.2.1.length ≤ 100 ∧ r.2.2.length ≤ 100) ∧ ∀ H', Same H H' → Q (.bl (patchOk rs)) H'
abbrev nDue : List Str := ["_law_rows_here", "_law_last", "_law_spot", "_law_old", "_law_new", "_law_things"]
theorem scDue : FnScope nDue ["_law_rows_here"] (defScope sDue) := ⟨rfl, rfl, rfl, by decide +kernel, rfl, by decide +kernel, by decide +kernel⟩
theorem ok_due (F : Fun K "_law_due" "_law_due" sDue f fd) (T : Txt mg) (DK : DefOk P w K mg base 5 "_law_is_key" ["_law_thing", "_law_room"] (spFitsG 4)) (DR : DefOk P w K mg base 6 "_law_rank" ["_law_spot"] (spRank 5)) (DA : DefOk P w K mg base 7 "_law_rows_alike" ["_law_found", "_law_due_here"] spRAlike) :
    FnOk P w K mg base CX0 8 f fd ["_law_rows_here"] spDue := by
  refine F.ok scDue (fun vs H Q E h => (by obtain ⟨_, _, _, _, rfl, _⟩ := h; rfl)) (fun cdv A outer s H vs Q E hr h => ?_)
  obtain ⟨l, us, rs, N, rfl, hl, hp, h100, hsm, k⟩ := h
  have nd := scDue.nd
  have ln := Paired.length hp
  have hr5 := hr.mono (show 5 ≤ 7 by decide)
  have hr6 := hr.mono (show 6 ≤ 7 by decide)
  have hun := hr.units0
  refine ⟨_, pss_cons (ps_set (i := 1) nd rfl (Or.inl rfl) (pe_lst pa_nil))
    (pss_cons (ps_for PassesOwn.never rfl (pi_list (pv 0)) (pg_tup rfl (pgs_cons (pg_name (i := 2) nd rfl (Or.inl rfl)) (pgs_cons (pg_name (i := 3) nd rfl (Or.inl rfl)) (pgs_cons (pg_name (i := 4) nd rfl (Or.inl rfl)) pgs_nil))))
      (pss_cons (ps_for PassesOwn.never rfl (pi_list (pe_lst (pa3 (pe_lst (pa_c (pv 2) pa_nil)) (pv 3) (pv 4)))) (pg_name (i := 5) nd rfl (Or.inl rfl))
        (pss_one (ps_if (PW.pt (pw_or (pt_cmpR op_gt (pe_callB call_len_seq rfl T.len tb_len (pa_c (pv 5) pa_nil)) pe_int (nomark _)) (pw_or1 (pt_not (pt_val (pe_callB (tw_all rfl) rfl T.all tb_all (pa_c (pe_comp [] [] rfl (pi_list (pv 5)) (fun _ _ _ _ _ => pts_nil) (fun _ _ _ _ _ => pe_def DK hr5 (pa_c (pv 0) (pa_c pe_int pa_nil))) trivial) pa_nil))))))) (pss_one (ps_ret pe_bl)) pss_nil)))
      (pss_cons (ps_if (PW.pt (pw_and (pt_cmpR (tw_ne_nil hun) (pv 1) (pe_lst pa_nil) (nomark _)) (pw_and1 (pt_cmpR (op_geK hr) (pe_def DR hr6 (pa_c (pe_ix (r := rIx K) ix_seq (pv 1) pe_int (fun _ _ => rfl)) pa_nil)) (pe_def DR hr6 (pa_c (pv 2) pa_nil)) (nomark _))))) (pss_one (ps_ret pe_bl)) pss_nil)
      (pss_cons (ps_if (pt_val (pe_def DA hr (pa_c (pv 3) (pa_c (pv 4) pa_nil)))) (pss_one (ps_ret pe_bl)) pss_nil)
      (pss_one (ps_set (i := 1) nd rfl (Or.inl rfl) (pe_lst (pa_c (pv 2) pa_nil))))))))
    (pss_one (ps_ret pe_bl))), ?_⟩
  refine ⟨nn (Nat.le_of_ble_eq_true rfl), fun la nla => ?_⟩
  have g0 := same_new nla (.lst [])
  have no : ∀ {H' : Hp}, Same H H' → patchOk rs = false → Q (.bl false) H' := fun s' e => by have := k _ s'; rw [e] at this; exact this
  refine ⟨_, rfl, l, rfl, ⟨us, SqL.of (g0 _ _ hl)⟩, for_list (K := K) (a := l) (xs := us) (fun i σ H2 => ∃ (la : Addr) (zs : List V) (x2 x3 x4 x5 : Option V), σ = [some (.ref l), some (.ref la), x2, x3, x4, x5] ∧ Same H H2 ∧ H2 la = some (.lst zs) ∧
      ((i = 0 ∧ zs = []) ∨ ∃ (j : Nat) (x : V) (t : KT) (r : PR), i = j + 1 ∧ zs = [x] ∧ KeyAt H2 t x ∧ t.fits 3 = true ∧ rs[j]? = some r ∧ r.1 = some t) ∧ (∀ j r, j < i → rs[j]? = some r → r.1.isSome = true ∧ chOk r = true) ∧ ∀ j, j + 1 < i → (kAt rs j).lt (kAt rs (j + 1)) = true)
    ⟨la, [], _, _, _, _, rfl, g0, upd_same, .inl ⟨rfl, rfl⟩, fun j r hj => absurd hj (by omega), fun j hj => absurd hj (by omega)⟩ (fun i σ H2 _ hP => by obtain ⟨_, _, _, _, _, _, _, s2, _⟩ := hP; exact SqL.of (s2 _ _ hl)) ?_ ?_⟩
  · rintro i u σ H2 hu ⟨la, zs, x2, x3, x4, x5, rfl, s2, hla, hz, hg1, hg2⟩
    obtain ⟨r, er, hrow⟩ := Paired.ix hp hu
    have hi : i < us.length := (List.getElem?_eq_some_iff.mp hu).1
    have sm := hsm r (List.mem_of_getElem? er)
    obtain ⟨tt, x, a, b, rfl, ht, hx, hA, hB⟩ := hrow.mono (Keeps.same s2)
    refine ⟨tt, _, rfl, SqT.of ht, rfl, _, _, rfl, _, _, rfl, _, _, rfl, rfl, ?_⟩
    refine ⟨_, rfl, nn (Nat.le_of_ble_eq_true rfl), fun a1 n1 => ?_⟩
    have g1 := same_new n1 (.lst [x])
    refine ⟨_, rfl, _, rfl, nn (Nat.le_of_ble_eq_true rfl), fun d n2 => ?_⟩
    have g2 := same_new n2 (.lst [.ref a1, .ref a, .ref b])
    have g := g1.trans g2
    have e1 := g2 _ _ (upd_same (H := H2) (a := a1) (o := .lst [x]))
    have e2 := upd_same (H := upd H2 a1 (.lst [x])) (a := d) (o := .lst [.ref a1, .ref a, .ref b])
    generalize upd (upd H2 a1 (.lst [x])) d (.lst [.ref a1, .ref a, .ref b]) = H3 at g e1 e2 ⊢
    have hx3 := hx.mono (Keeps.same g)
    have w1 : LstW N H3 [r.1] (.ref a1) := ⟨a1, [x], rfl, e1, .cons hx3 .nil⟩
    have w2 : LstW N H3 r.2.1 (.ref a) := by
      obtain ⟨xs, y1, _, y3⟩ := hA.mono (Keeps.same g)
      exact ⟨a, xs, rfl, y1, y3⟩
    have w3 : LstW N H3 r.2.2 (.ref b) := by
      obtain ⟨xs, y1, _, y3⟩ := hB.mono (Keeps.same g)
      exact ⟨b, xs, rfl, y1, y3⟩
    have ws : Paired (fun os u => LstW N H3 os u ∧ os.length ≤ 100) [[r.1], r.2.1, r.2.2] [V.ref a1, .ref a, .ref b] := .cons ⟨w1, by simp⟩ (.cons ⟨w2, sm.1⟩ (.cons ⟨w3, sm.2⟩ .nil))
    have fl : ∀ {H' : Hp} {j : Nat} {os : List (Option KT)}, Same H H' → [[r.1], r.2.1, r.2.2][j]? = some os → sideOk os = false → Q (.bl false) H' := fun {H' j os} s' ej h => by
      refine no s' ?_
      match j, ej with
      | 0, ej =>
        cases ej
        refine bad_spot er ?_
        cases q : r.1 with
        | none => rfl
        | some t => rw [q] at h; exact absurd h (by simp [sideOk])
      | 1, ej =>
        cases ej
        exact bad_ch er (by unfold chOk; rw [h, Bool.false_and])
      | 2, ej =>
        cases ej
        exact bad_ch er (by unfold chOk; rw [h, Bool.false_and, Bool.and_false])
    have s3 := s2.trans g
    refine ⟨d, rfl, ⟨_, SqL.of e2⟩, for_list (K := K) (a := d) (xs := [V.ref a1, .ref a, .ref b]) (fun j σ H4 => ∃ (x5 : Option V), σ = [some (.ref l), some (.ref la), some x, some (.ref a), some (.ref b), x5] ∧ Same H3 H4 ∧ ∀ j' os, j' < j → [[r.1], r.2.1, r.2.2][j']? = some os → sideOk os = true)
      ⟨_, rfl, Same.refl H3, fun j' os h => absurd h (by omega)⟩ (fun j σ H4 _ hP => by obtain ⟨_, _, s4, _⟩ := hP; exact SqL.of (s4 _ _ e2)) ?_ ?_⟩
    · rintro j u σ H4 hu4 ⟨x5, rfl, s4, hside⟩
      obtain ⟨os, eos, hw, l100⟩ := Paired.ix ws hu4
      obtain ⟨a', xs, rfl, ha', pa'⟩ := hw.same s4
      have lx := Paired.length pa'
      refine ⟨_, rfl, a', xs, rfl, .inl (SqL.of ha'), _, _, rfl, rfl, _, rfl, ?_⟩
      have e0 : decide ((1 : Int) < (xs.length : Int)) = !decide (os.length ≤ 1) := by
        rw [← lx]
        by_cases z : os.length ≤ 1
        · rw [decide_eq_true z, decide_eq_false (by omega)]; rfl
        · rw [decide_eq_false z, decide_eq_true (by omega)]; rfl
      rw [e0]
      cases hd : decide (os.length ≤ 1) with
      | false => exact iteT (iteT (fl (s3.trans s4) eos (by unfold sideOk; rw [hd, Bool.false_and])))
      | true =>
        refine iteF ⟨_, rfl, a', rfl, ⟨_, SqL.of ha'⟩, comp_over (fun i => .bl (os.getD i none).isSome) (SqL.of ha') (same_sq ha') (by omega) (fun i x H5 R hx s5 hR => ?_) (fun D H5 s5 nD hD => ?_)⟩
        · obtain ⟨o, eo, ho⟩ := Paired.ix pa' hx
          obtain ⟨g, g1, g2, g3⟩ := ho.tg
          refine ⟨_, rfl, x, g, N, 3, rfl, g1.mono (Keeps.same s5), g2, by decide, fun H6 s6 => ?_⟩
          rw [g3]
          have := hR H6 s6
          rw [List.getD_eq_getElem?_getD, eo] at this
          exact this
        · refine ⟨D, (List.range xs.length).map (fun i => (os.getD i none).isSome), rfl, SqL.of (by rw [hD, List.map_map]; rfl), ?_⟩
          rw [← lx, all_range (fun o : Option KT => o.isSome)]
          refine ⟨_, rfl, ?_⟩
          cases ha : os.all (fun o => o.isSome) with
          | false => exact iteT (fl ((s3.trans s4).trans s5) eos (by unfold sideOk; rw [ha, Bool.and_false]))
          | true =>
            refine iteF ⟨_, rfl, s4.trans s5, fun j' os' hj' e' => ?_⟩
            rcases Nat.lt_or_ge j' j with z | z
            · exact hside j' os' z e'
            · have : j' = j := by omega
              subst this
              rw [eos] at e'
              cases e'
              unfold sideOk
              rw [hd, ha]
              rfl
    rintro σ H4 ⟨x5, rfl, s4, hside⟩
    have o1 : sideOk [r.1] = true := hside 0 _ (Nat.le_of_ble_eq_true rfl) rfl
    have o2 : sideOk r.2.1 = true := hside 1 _ (Nat.le_of_ble_eq_true rfl) rfl
    have o3 : sideOk r.2.2 = true := hside 2 _ (Nat.le_of_ble_eq_true rfl) rfl
    have s04 := s3.trans s4
    obtain ⟨t, et⟩ : ∃ t, r.1 = some t := by
      cases q : r.1 with
      | some t => exact ⟨t, rfl⟩
      | none => rw [q] at o1; exact absurd o1 (by simp [sideOk])
    have kx : KeyAt H4 t x ∧ t.fits 3 = true := by
      have := hx3.mono (Keeps.same s4)
      rw [et] at this
      exact this
    have hla4 := s4 _ _ (g _ _ hla)
    obtain ⟨_, xa, ea, hxa, pxa⟩ := w2.same s4
    cases ea
    obtain ⟨_, xb, eb, hxb, pxb⟩ := w3.same s4
    cases eb
    have o2' := o2
    have o3' := o3
    unfold sideOk at o2' o3'
    rw [Bool.and_eq_true] at o2' o3'
    obtain ⟨ka, fa⟩ := keys_of pxa o2'.2
    obtain ⟨kb, fb⟩ := keys_of pxb o3'.2
    have endF : ∀ {H6 : Hp}, Same H4 H6 → eqbL (r.2.1.map kOf) (r.2.2.map kOf) = true → Q (.bl false) H6 := fun s6 e => no (s04.trans s6) (bad_ch er (by unfold chOk; rw [e]; simp))
    have kr : kAt rs i = t := by rw [kAt_of er, et]; rfl
    have good : eqbL (r.2.1.map kOf) (r.2.2.map kOf) = false → ∀ j r', j < i + 1 → rs[j]? = some r' → r'.1.isSome = true ∧ chOk r' = true := fun e j r' hj e' => by
      rcases Nat.lt_or_ge j i with z | z
      · exact hg1 j r' z e'
      · have : j = i := by omega
        subst this
        rw [er] at e'
        cases e'
        exact ⟨by rw [et]; rfl, by unfold chOk; rw [o2, o3, e]; rfl⟩
    rcases hz with ⟨hi0, rfl⟩ | ⟨j, y, ty, ry, hij, rfl, ky, fy, ery, ety⟩
    · refine ⟨_, rfl, nn (Nat.le_of_ble_eq_true rfl), fun e0 ne0 => ?_⟩
      have g5 := same_new ne0 (.lst [])
      refine ⟨la, e0, [], rfl, rfl, SqL.of (g5 _ _ hla4), SqL.of upd_same, _, rfl, iteF (iteF ?_)⟩
      refine ⟨_, rfl, _, rfl, a, b, xa, xb, _, _, rfl, g5 _ _ hxa, g5 _ _ hxb, ka.mono (Same.tups g5) _ _, kb.mono (Same.tups g5) _ _, fb, by rw [List.length_map]; exact sm.2, fun H6 s6 => ⟨_, rfl, ?_⟩⟩
      have s46 := g5.trans s6
      cases he : eqbL (r.2.1.map kOf) (r.2.2.map kOf) with
      | true => exact iteT (endF s46 he)
      | false =>
        refine iteF ⟨_, rfl, nn (Nat.le_of_ble_eq_true rfl), fun q nq => ?_⟩
        have g7 := same_new nq (.lst [x])
        exact ⟨q, [x], _, _, _, _, rfl, (s04.trans s46).trans g7, upd_same, .inr ⟨i, x, t, r, rfl, rfl, kx.1.mono (Same.tups (s46.trans g7)) _ _, kx.2, er, et⟩, good he, fun j hj => absurd hj (by omega)⟩
    · refine ⟨_, rfl, nn (Nat.le_of_ble_eq_true rfl), fun e0 ne0 => ?_⟩
      have g5 := same_new ne0 (.lst [])
      refine ⟨la, e0, [y], rfl, rfl, SqL.of (g5 _ _ hla4), SqL.of upd_same, _, rfl, iteT ?_⟩
      have ky5 := ky.mono (Same.tups ((g.trans s4).trans g5)) _ _
      have dy := fits_depth ty 3 fy
      have dt := fits_depth t 3 kx.2
      have dr := depth_rk ty
      refine ⟨_, rfl, .inl ⟨la, _, _, _, rfl, rfl, SqL.of (g5 _ _ hla4), rfl, ?_⟩⟩
      refine ⟨y, ty, 3, rfl, ky5, fy, by omega, fun v1 H6 k1 s6 => ?_⟩
      refine ⟨_, rfl, x, t, 3, rfl, kx.1.mono (Same.tups (g5.trans s6)) _ _, kx.2, by omega, fun v2 H7 k2 s7 => ?_⟩
      refine ⟨ty.rk, t.rk, k1.mono (Same.tups s7) _ _, k2, cmp_rk ty t, by omega, _, rfl, ?_⟩
      rw [plt_rk]
      have s47 := (g5.trans s6).trans s7
      have kj : kAt rs j = ty := by rw [kAt_of ery, ety]; rfl
      cases hlt : ty.lt t with
      | false => exact iteT (no (s04.trans s47) (bad_rise (i := j) (by omega) (by rw [kj, ← hij, kr]; exact hlt)))
      | true =>
      refine iteF ?_
      refine ⟨_, rfl, _, rfl, a, b, xa, xb, _, _, rfl, s47 _ _ hxa, s47 _ _ hxb, ka.mono (Same.tups s47) _ _, kb.mono (Same.tups s47) _ _, fb, by rw [List.length_map]; exact sm.2, fun H8 s8 => ⟨_, rfl, ?_⟩⟩
      have s48 := s47.trans s8
      cases he : eqbL (r.2.1.map kOf) (r.2.2.map kOf) with
      | true => exact iteT (endF s48 he)
      | false =>
        refine iteF ⟨_, rfl, nn (Nat.le_of_ble_eq_true rfl), fun q nq => ?_⟩
        have g9 := same_new nq (.lst [x])
        refine ⟨q, [x], _, _, _, _, rfl, (s04.trans s48).trans g9, upd_same, .inr ⟨i, x, t, r, rfl, rfl, kx.1.mono (Same.tups (s48.trans g9)) _ _, kx.2, er, et⟩, good he, fun j' hj' => ?_⟩
        rcases Nat.lt_or_ge (j' + 1) i with z | z
        · exact hg2 j' z
        · have : j' = j := by omega
          subst this
          rw [kj, ← hij, kr]
          exact hlt
  · rintro σ H2 ⟨la, zs, x2, x3, x4, x5, rfl, s2, hla, hz, hg1, hg2⟩
    have e : patchOk rs = true := good_all (fun i r er => hg1 i r (by have := (List.getElem?_eq_some_iff.mp er).1; omega) er) fun i hi => hg2 i (by omega)
    have := k H2 s2
    rw [e] at this
    exact this
end
end Tw
set_option Elab.async false
set_option linter.all false
set_option maxRecDepth 100000
set_option maxHeartbeats 8000000
namespace L2
open PySem PySem.Spec
section
variable {X : Cx}
/-- three names in a comprehension -/
def gTri (K : PySem.W.Frag) : TG := gTup K 3 (gCons (gName 0) (gCons (gName 1) (gCons (gName 2) gNil)))
theorem pg_tri {x y z : Str} {px py pz pos : Pos} {k : Nat} (hc : X.calm = true) (hN : X.N.Nodup) (h0 : X.N[0]? = some x) (h1 : X.N[1]? = some y) (h2 : X.N[2]? = some z) (lx : X.env.scope.names.lookup x = some .local) (ly : X.env.scope.names.lookup y = some .local) (lz : X.env.scope.names.lookup z = some .local) : PG X (.Tuple [.Name x px, .Name y py, .Name z pz] k pos) (gTri X.K) :=
  pg_tup hc (pgs_cons (pg_name hN h0 (.inl lx) (.inr lx)) (pgs_cons (pg_name hN h1 (.inl ly) (.inr ly)) (pgs_cons (pg_name hN h2 (.inl lz) (.inr lz)) pgs_nil)))
end
theorem comp_map3 {J : It} {K : PySem.W.Frag} {ix : List Nat} {te : TE} {Q : VK} {n : Nat} {σ : St} {H : Hp} (item : Nat → V → Prop) (Pv : Addr → Nat → List V → Hp → Prop) (hn : n < sizeLine)
    (hgo : ∀ D i ys H, i < n → Pv D i ys H → J.go i H) (hy : ∀ D i ys H x H', i < n → Pv D i ys H → J.yld i H x H' → H' = H ∧ item i x) (hstop : ∀ D ys H, Pv D n ys H → J.stop n H)
    (h0 : ∀ D, H D = none → Pv D 0 [] (upd H D (.lst [])))
    (step : ∀ D i ys H x, H D = some (.lst ys) → ys.length ≤ i → i < n → item i x → Pv D i ys H → ∃ a u v w, x = .ref a ∧ SqT K H a [u, v, w] ∧ ∀ R : VK, (∀ y H3, H3 D = some (.lst ys) → Pv D (i + 1) (ys ++ [y]) (upd H3 D (.lst (ys ++ [y]))) → R y H3) → te ([some u, some v, some w] ++ ix.map fun i => (σ[i]?).join) H R)
    (fin : ∀ D ys H, H D = some (.lst ys) → Pv D n ys H → Q (.ref D) H) : cEndT J 3 (gTri K) σ ix tTrue te H Q := by
  intro D hD
  refine ⟨fun i m H => m = n - i ∧ i ≤ n ∧ ∃ ys, H D = some (.lst ys) ∧ ys.length ≤ i ∧ Pv D i ys H, ⟨n, rfl, Nat.zero_le _, [], upd_same, Nat.le_refl _, h0 D hD⟩, ?_⟩
  rintro i m H ⟨rfl, hi, ys, e, hl, p⟩
  by_cases hlt : i < n
  · refine .inr ⟨hgo D i ys H hlt p, fun x H' y os ho => ?_⟩
    obtain ⟨rfl, it⟩ := hy D i ys H x H' hlt p y
    obtain ⟨a, u, v, w, rfl, hq, st⟩ := step D i ys _ x e hl hlt it p
    match os, ho with
    | [o1, o2, o3], _ =>
      refine ⟨a, _, rfl, hq, rfl, u, _, rfl, v, _, rfl, w, _, rfl, rfl, ⟨[some u, some v, some w], rfl, rfl⟩, ?_⟩
      unfold tTrue
      dsimp only
      rw [if_pos rfl]
      refine st _ fun y H3 e3 p3 => ?_
      exact ⟨ys, n - (i + 1), e3, by omega, by omega, rfl, hlt, ys ++ [y], upd_same, by rw [List.length_append, List.length_singleton]; omega, p3⟩
  · have e' : i = n := by omega
    subst e'
    exact .inl ⟨hstop D ys H p, fin D ys H e p⟩
end L2
namespace Tw
open PySem PySem.Spec L2 PyProof.Rows
/-! ### the same things are equal -/
def pln : V → Bool
  | .byt _ => false
  | .flt _ => false
  | _ => true
theorem eqAt_same {A : Around} {s : Shared} : ∀ {x : V} {v u : Value}, pln x = true → RelV x v → RelV x u → SeqAt.EqAt A s v u true
  | .non, _, _, _, rfl, rfl => SeqAt.EqAt.same _
  | .bl _, _, _, _, rfl, rfl => SeqAt.EqAt.same _
  | .int i, _, _, _, ⟨t, rfl⟩, ⟨t', rfl⟩ => by have := SeqAt.EqAt.int_int (A := A) (s := s) i t i t'; simpa using this
  | .str x, _, _, _, ⟨t, rfl⟩, ⟨t', rfl⟩ => by have := SeqAt.EqAt.str_str (A := A) (s := s) x t x t'; simpa using this
  | .ref _, _, _, _, rfl, rfl => SeqAt.EqAt.same _
  | .ty _, _, _, _, rfl, rfl => SeqAt.EqAt.same _
theorem pln_th {N : Addr → Prop} {H : Hp} : ∀ {t : TG} {v : V}, ThAt N H t v → pln v = true
  | .int i, v, h => by rw [ThAt] at h; subst h; rfl
  | .str i, v, h => by rw [ThAt] at h; subst h; rfl
  | .tup l, v, h => by rw [ThAt] at h; obtain ⟨a, vs, rfl, _⟩ := h; rfl
  | .odd n, v, h => by
    rw [ThAt] at h
    rcases h with ⟨_, b, rfl⟩ | ⟨_, rfl⟩ | ⟨_, a, xs, rfl, _⟩ | ⟨_, a, xs, rfl, _⟩ <;> rfl
theorem Thk.pl {N : Addr → Prop} {H : Hp} {o : Option KT} {v : V} (h : Thk N H o v) : pln v = true := by
  obtain ⟨g, h1, _⟩ := h.tg
  exact pln_th h1
theorem paired_pl {N : Addr → Prop} {H : Hp} : ∀ {os : List (Option KT)} {xs : List V}, Paired (Thk N H) os xs → ∀ z ∈ xs, pln z = true
  | _, _, .nil, z, hz => by simp at hz
  | _, _, .cons r t, z, hz => by
    rcases List.mem_cons.mp hz with e | e
    · rw [e]; exact r.pl
    · exact paired_pl t z e
section
variable {X : Cx} {pins : List (Addr × Obj)} {σ : L2.St} {H : Hp} {s : Shared}
theorem at_of {its : List Value} {j : Nat} {v : Value} (e : its[j]? = some v) (h : j < its.toArray.size) : its.toArray[j] = v := by
  have : its.toArray[j]? = some v := by simpa using e
  rw [Array.getElem?_eq_getElem h] at this
  exact Option.some.inj this
theorem eqAt_lists (I : Inv X pins σ H s) {A : Around} {a b : Addr} {xs : List V} (ha : H a = some (.lst xs)) (hb : H b = some (.lst xs)) (hp : ∀ z ∈ xs, pln z = true) (hu : A.units < cLine) : SeqAt.EqAt A s (.ref a) (.ref b) true := by
  by_cases e : a = b
  · subst e; exact SeqAt.EqAt.same _
  obtain ⟨its, r1, p1, z1⟩ := I.list (SqL.of ha)
  obtain ⟨its2, r2, p2, z2⟩ := I.list (SqL.of hb)
  have l1 := r1.length
  have l2 := r2.length
  have rc := SeqAt.RcAt.lists (A := A) (s := s) (e := fun _ => true) p1.isList p2.isList (by simp; omega) hu (fun j h1 h2 => by
    have hj : j < xs.length := by simp at h1; omega
    obtain ⟨v, e1, a1⟩ := r1.get (List.getElem?_eq_getElem hj)
    obtain ⟨u, e2, a2⟩ := r2.get (List.getElem?_eq_getElem hj)
    rw [at_of e1 h1, at_of e2 h2]
    exact eqAt_same (hp _ (List.getElem_mem hj)) a1 a2)
  rw [show ((List.range its.toArray.size).all fun _ => true) = true by simp] at rc
  exact .of_refs e rc
/-- a row and its copy -/
def CpRow (H : Hp) (u' u : V) : Prop := ∃ (t' t a' a b' b : Addr) (x : V) (xs ys : List V), u' = .ref t' ∧ u = .ref t ∧ H t' = some (.tup [x, .ref a', .ref b']) ∧ H t = some (.tup [x, .ref a, .ref b]) ∧ H a' = some (.lst xs) ∧ H a = some (.lst xs) ∧ H b' = some (.lst ys) ∧ H b = some (.lst ys) ∧ pln x = true ∧ (∀ z ∈ xs, pln z = true) ∧ ∀ z ∈ ys, pln z = true
theorem CpRow.same {H H' : Hp} {u' u : V} (h : CpRow H u' u) (k : Same H H') : CpRow H' u' u := by
  obtain ⟨t', t, a', a, b', b, x, xs, ys, h1, h2, h3, h4, h5, h6, h7, h8, h9⟩ := h
  exact ⟨t', t, a', a, b', b, x, xs, ys, h1, h2, k _ _ h3, k _ _ h4, k _ _ h5, k _ _ h6, k _ _ h7, k _ _ h8, h9⟩
/-- the same, away from a place -/
def CpD (D : Addr) (H : Hp) (u' u : V) : Prop := ∃ (t' t a' a b' b : Addr) (x : V) (xs ys : List V), u' = .ref t' ∧ u = .ref t ∧ H t' = some (.tup [x, .ref a', .ref b']) ∧ H t = some (.tup [x, .ref a, .ref b]) ∧ H a' = some (.lst xs) ∧ H a = some (.lst xs) ∧ H b' = some (.lst ys) ∧ H b = some (.lst ys) ∧ (pln x = true ∧ (∀ z ∈ xs, pln z = true) ∧ ∀ z ∈ ys, pln z = true) ∧ t' ≠ D ∧ t ≠ D ∧ a' ≠ D ∧ a ≠ D ∧ b' ≠ D ∧ b ≠ D
theorem CpD.row {D : Addr} {H : Hp} {u' u : V} (h : CpD D H u' u) : CpRow H u' u := by
  obtain ⟨t', t, a', a, b', b, x, xs, ys, h1, h2, h3, h4, h5, h6, h7, h8, h9, _⟩ := h
  exact ⟨t', t, a', a, b', b, x, xs, ys, h1, h2, h3, h4, h5, h6, h7, h8, h9⟩
theorem CpD.put {D : Addr} {H H' : Hp} {u' u : V} (h : CpD D H u' u) (k : SameX D H H') : CpD D H' u' u := by
  obtain ⟨t', t, a', a, b', b, x, xs, ys, h1, h2, h3, h4, h5, h6, h7, h8, h9, n1, n2, n3, n4, n5, n6⟩ := h
  exact ⟨t', t, a', a, b', b, x, xs, ys, h1, h2, k _ _ h3 n1, k _ _ h4 n2, k _ _ h5 n3, k _ _ h6 n4, k _ _ h7 n5, k _ _ h8 n6, h9, n1, n2, n3, n4, n5, n6⟩
theorem eqAt_row (I : Inv X pins σ H s) {A : Around} {u' u : V} {v w : Value} (h : CpRow H u' u) (r1 : RelV u' v) (r2 : RelV u w) (hu : A.units + 3 < cLine) : SeqAt.EqAt A s v w true := by
  obtain ⟨t', t, a', a, b', b, x, xs, ys, rfl, rfl, h3, h4, h5, h6, h7, h8, h9, h10, h11⟩ := h
  cases r1
  cases r2
  by_cases e : t' = t
  · subst e; exact SeqAt.EqAt.same _
  obtain ⟨its, q1, p1, _⟩ := I.tuple (SqT.of h3)
  obtain ⟨its2, q2, p2, _⟩ := I.tuple (SqT.of h4)
  have l1 := q1.length
  have l2 := q2.length
  have rc := SeqAt.RcAt.tuples (A := A) (s := s) (e := fun _ => true) p1 p2 (by omega) (fun j g1 g2 => by
    have hu1 : A.in1.units < cLine := by show A.units + 1 < cLine; omega
    match j with
    | 0 =>
      obtain ⟨v, e1, a1⟩ := q1.get (i := 0) rfl
      obtain ⟨u, e2, a2⟩ := q2.get (i := 0) rfl
      rw [at_of e1 g1, at_of e2 g2]
      exact eqAt_same h9 a1 a2
    | 1 =>
      obtain ⟨v, e1, a1⟩ := q1.get (i := 1) rfl
      obtain ⟨u, e2, a2⟩ := q2.get (i := 1) rfl
      rw [at_of e1 g1, at_of e2 g2]
      cases a1
      cases a2
      exact eqAt_lists I h5 h6 h10 hu1
    | 2 =>
      obtain ⟨v, e1, a1⟩ := q1.get (i := 2) rfl
      obtain ⟨u, e2, a2⟩ := q2.get (i := 2) rfl
      rw [at_of e1 g1, at_of e2 g2]
      cases a1
      cases a2
      exact eqAt_lists I h7 h8 h11 hu1
    | j + 3 =>
      simp at g1 l1
      omega)
  have er : ((List.range (min its.toArray.size its2.toArray.size)).all (fun _ => true) && its.toArray.size == its2.toArray.size) = true := by
    simp
    simp at l1 l2
    omega
  rw [er] at rc
  exact .of_refs e rc
end
section
variable {X : Cx}
theorem op_eqCp {k : Nat} (hr : Room k X.A) : OpR X (compareOp .Eq) (fun x y H Q => ∃ (d l : Addr) (us' us : List V), x = .ref d ∧ y = .ref l ∧ H d = some (.lst us') ∧ H l = some (.lst us) ∧ Paired (CpRow H) us' us ∧ Q (.bl true) H) := by
  intro pins s σ H x y v u Q I rx ry h
  obtain ⟨d, l, us', us, rfl, rfl, h1, h2, hp, q⟩ := h
  cases rx
  cases ry
  obtain ⟨its, r1, p1, z1⟩ := I.list (SqL.of h1)
  obtain ⟨its2, r2, p2, z2⟩ := I.list (SqL.of h2)
  have l1 := r1.length
  have l2 := r2.length
  have lp := Paired.length hp
  have hu := Room.key hr (n := 10) (by decide)
  refine PySem.SeqAt.eq_listAt (e := fun _ => true) p1.isList p2.isList (by simp; omega) (by omega) (fun j g1 g2 => ?_) (fin_bl I q (by simp))
  have hj : j < us.length := by simp at g2; omega
  obtain ⟨u', eu', hc⟩ := Paired.ix hp (List.getElem?_eq_getElem hj)
  obtain ⟨v, e1, a1⟩ := r1.get eu'
  obtain ⟨w, e2, a2⟩ := r2.get (List.getElem?_eq_getElem hj)
  rw [at_of e1 g1, at_of e2 g2]
  exact eqAt_row I hc a1 a2 (by show X.A.units + 1 + 3 < cLine; omega)
end
/-- what was there is away from what is new -/
theorem odd_at {p D : Addr} {H : Hp} (nD : H D = none) {n : String} {v : V} (t : OddAt (fun b => b = p) H n v) : OddAt (fun b => b = p ∨ b = D) H n v := by
  rcases t with t | t | ⟨e, a, xs, e1, e2, e3⟩ | ⟨e, a, xs, e1, e2, e3⟩
  · exact .inl t
  · exact .inr (.inl t)
  · exact .inr (.inr (.inl ⟨e, a, xs, e1, e2, fun z => z.elim e3 (ne_of_none e2 nD)⟩))
  · exact .inr (.inr (.inr ⟨e, a, xs, e1, e2, fun z => z.elim e3 (ne_of_none e2 nD)⟩))
mutual
theorem th_at {p D : Addr} {H : Hp} (hp : H p ≠ none) (nD : H D = none) : ∀ (t : TG) (v : V), ThAt (fun b => b = p) H t v → ThAt (fun b => b = p ∨ b = D) H t v
  | .int i, v, x => by rw [ThAt] at x ⊢; exact x
  | .str i, v, x => by rw [ThAt] at x ⊢; exact x
  | .tup l, v, x => by
    rw [ThAt] at x ⊢
    obtain ⟨a, vs, e, e1, e2⟩ := x
    exact ⟨a, vs, e, e1, ths_at hp nD l vs e2⟩
  | .odd n, v, x => by
    rw [ThAt] at x ⊢
    exact odd_at nD x
theorem ths_at {p D : Addr} {H : Hp} (hp : H p ≠ none) (nD : H D = none) : ∀ (l : List TG) (vs : List V), ThsAt (fun b => b = p) H l vs → ThsAt (fun b => b = p ∨ b = D) H l vs
  | [], vs, x => by rw [ThsAt] at x ⊢; exact x
  | t :: l, vs, x => by
    rw [ThsAt] at x ⊢
    obtain ⟨v, r, e, e1, e2⟩ := x
    exact ⟨v, r, e, th_at hp nD t v e1, ths_at hp nD l r e2⟩
end
theorem nd3 : (["_law_spot", "_law_old", "_law_new"] : List Str).Nodup := by decide +kernel
section
variable {P : Program} {w : World} {K : PySem.W.Frag} {mg : Str → Option Value} {base : Heap} {f : Addr} {fd : FuncData}
/-! ### _law_copy -/
def spCopy : Sp := fun vs H Q _ => ∃ (l p : Addr) (us : List V) (rs : List PR), vs = [.ref l] ∧ H l = some (.lst us) ∧ H p ≠ none ∧ PRows (fun b => b = p) H rs us ∧ us.length ≤ 900 ∧
  ∀ (D : Addr) (us' : List V) (H' : Hp), Same H H' → H' D = some (.lst us') → PRows (fun b => b = p) H' rs us' → Paired (CpRow H') us' us → Q (.ref D) H'
theorem scCopy : FnScope ["_law_rows_here"] ["_law_rows_here"] (defScope sCopy) := ⟨rfl, rfl, rfl, by decide +kernel, rfl, by decide +kernel, by decide +kernel⟩
theorem ok_copy (F : Fun K "_law_copy" "_law_copy" sCopy f fd) (T : Txt mg) : FnOk P w K mg base CX0 1 f fd ["_law_rows_here"] spCopy := by
  refine F.ok scCopy (fun vs H Q E h => (by obtain ⟨_, _, _, _, rfl, _⟩ := h; rfl)) (fun cdv A outer s H vs Q E hr h => ?_)
  obtain ⟨l, p, us, rs, rfl, hl, hpn, hp, h900, k⟩ := h
  refine ⟨_, pss_one (ps_ret (pe_compT (g := gTri K) ["_law_spot", "_law_old", "_law_new"] "_law_spot" [] [] rfl (fun _ _ _ _ _ => pg_tri rfl nd3 rfl rfl rfl rfl rfl rfl) (pi_list (pv 0)) (fun _ _ _ _ _ => pts_nil)
    (fun _ _ _ _ _ => pe_tup (pa3 (pv 0) (pe_callTy (r := rListOf K) call_listOf rfl T.list tb_list (pa_c (pv 1) pa_nil)) (pe_callTy (r := rListOf K) call_listOf rfl T.list tb_list (pa_c (pv 2) pa_nil)))) trivial)), ?_⟩
  refine ⟨_, rfl, l, rfl, ⟨us, SqL.of hl⟩, ?_⟩
  have ln := Paired.length hp
  refine comp_map3 (n := us.length) (fun i z => us[i]? = some z) (fun D i ys H3 => Same H H3 ∧ H D = none ∧ ys.length = i ∧ PRows (fun b => b = p ∨ b = D) H3 (rs.take i) ys ∧ ∀ j u' u, j < i → ys[j]? = some u' → us[j]? = some u → CpD D H3 u' u) (small1000 (by omega))
    (fun D i ys H3 hi hP => ⟨us, us[i], SqL.of (hP.1 _ _ hl), by simp [hi]⟩) (fun D i ys H3 z H4 hi hP hy => ⟨hy.1, hy.2 us (SqL.of (hP.1 _ _ hl))⟩) (fun D ys H3 hP => ⟨us, SqL.of (hP.1 _ _ hl), Nat.le_refl _⟩)
    (fun D hD => ⟨same_new hD _, hD, rfl, .nil, fun j u' u hj => absurd hj (by omega)⟩) (fun D i ys H3 z eD hl' hi hz hPv => ?_) (fun D ys H3 eD hPv => ?_)
  · obtain ⟨s3, nD, ly, hys, hcp⟩ := hPv
    obtain ⟨r, er, hrow⟩ := Paired.ix hp hz
    obtain ⟨t, x, a, b, rfl, ht, hx, ⟨xs, ha, na, pa⟩, zs, hb, nb, pb⟩ := hrow
    refine ⟨t, x, .ref a, .ref b, rfl, SqT.of (s3 _ _ ht), fun R hR => ?_⟩
    refine ⟨_, rfl, _, rfl, a, xs, rfl, .inl (SqL.of (s3 _ _ ha)), fun a' na' => ?_⟩
    have g1 := same_new na' (.lst xs)
    refine ⟨_, rfl, b, zs, rfl, .inl (SqL.of (g1 _ _ (s3 _ _ hb))), fun b' nb' => ⟨nn (Nat.le_of_ble_eq_true rfl), fun t' nt' => ?_⟩⟩
    have g2 := same_new nb' (.lst zs)
    have g3 := same_new nt' (.tup [x, .ref a', .ref b'])
    have g := (g1.trans g2).trans g3
    have ea := (g2.trans g3) _ _ (upd_same (H := H3) (a := a') (o := .lst xs))
    have eb := g3 _ _ (upd_same (H := upd H3 a' (.lst xs)) (a := b') (o := .lst zs))
    have et := upd_same (H := upd (upd H3 a' (.lst xs)) b' (.lst zs)) (a := t') (o := .tup [x, .ref a', .ref b'])
    generalize upd (upd (upd H3 a' (.lst xs)) b' (.lst zs)) t' (.tup [x, .ref a', .ref b']) = H5 at g ea eb et ⊢
    have eD5 := g _ _ eD
    have s5 := s3.trans g
    have aD : a' ≠ D := fun z => by rw [z, eD] at na'; cases na'
    have bD : b' ≠ D := fun z => by rw [z, g1 _ _ eD] at nb'; cases nb'
    have tD : t' ≠ D := fun z => by rw [z, (g1.trans g2) _ _ eD] at nt'; cases nt'
    have fp : ∀ {c : Addr} {H' : Hp}, Same H H' → H' c = none → c ≠ p := fun {c H'} s' e z => by
      cases q : H p with
      | none => exact hpn q
      | some o => rw [z, s' _ _ q] at e; cases e
    have ap := fp s3 na'
    have bp := fp (s3.trans g1) nb'
    have sD : SameX D H5 (upd H5 D (.lst (ys ++ [.ref t']))) := (SameX.refl D H5).upd
    have kD : Keeps (fun b => b = p ∨ b = D) H5 (upd H5 D (.lst (ys ++ [.ref t']))) := ⟨sD.tups eD5, fun b o e n => by rw [upd_ne fun z => n (.inr z)]; exact e⟩
    refine hR _ H5 eD5 ⟨fun c o e => by rw [upd_ne (ne_of_none e nD)]; exact s5 c o e, nD, by simp [ly], ?_, fun j u' u hj e1 e2 => ?_⟩
    · rw [List.take_add_one, er]
      refine Paired.app (PRows.mono (PRows.mono hys (Keeps.same g)) kD) (.cons ?_ .nil)
      have nn' : ∀ {c : Addr}, c ≠ p → c ≠ D → ¬ (c = p ∨ c = D) := fun h1 h2 z => z.elim h1 h2
      have wk : ∀ {o : Option KT} {v : V}, Thk (fun b => b = p) H o v → Thk (fun b => b = p ∨ b = D) H5 o v := fun {o v} h => by
        cases o with
        | some t => exact ⟨h.1.mono (Same.tups s5) _ _, h.2⟩
        | none =>
          obtain ⟨g0, q1, q2, q3⟩ := h
          exact ⟨g0, (th_at hpn nD g0 v q1).mono (Keeps.same s5), q2, q3⟩
      exact PRow.mono ⟨t', x, a', b', rfl, et, wk hx, ⟨xs, ea, nn' ap aD, Paired.mapP pa fun _ _ z => wk z⟩, ⟨zs, eb, nn' bp bD, Paired.mapP pb fun _ _ z => wk z⟩⟩ kD
    · rcases Nat.lt_or_ge j i with z | z
      · rw [List.getElem?_append_left (by omega)] at e1
        exact (((hcp j u' u z e1 e2).put (SameX.of g)).put sD)
      · have : j = i := by omega
        subst this
        rw [List.getElem?_append_right (by omega), ly, Nat.sub_self] at e1
        cases e1
        rw [hz] at e2
        cases e2
        have nH : ∀ {c : Addr} {o : HO}, H c = some o → c ≠ D := fun e => ne_of_none e nD
        exact CpD.put ⟨t', t, a', a, b', b, x, xs, zs, rfl, rfl, et, s5 _ _ ht, ea, s5 _ _ ha, eb, s5 _ _ hb, ⟨hx.pl, paired_pl pa, paired_pl pb⟩, tD, nH ht, aD, nH ha, bD, nH hb⟩ sD
  · obtain ⟨s3, nD, ly, hys, hcp⟩ := hPv
    rw [List.take_of_length_le (by omega)] at hys
    refine k D ys H3 s3 eD (Paired.mapP hys fun _ _ z => z.weak fun b z => .inl z) (paired_of (by omega) fun i u' u e1 e2 => (hcp i u' u (by have := (List.getElem?_eq_some_iff.mp e2).1; omega) e1 e2).row)
end
end Tw
set_option Elab.async false
set_option linter.all false
set_option maxRecDepth 100000
set_option maxHeartbeats 8000000
namespace Tw
open PySem PySem.Spec L2 PyProof.Rows
section
variable {P : Program} {w : World} {K : PySem.W.Frag} {mg : Str → Option Value} {base : Heap} {f : Addr} {fd : FuncData}
/-! ### _law_held -/
def spHeld : Sp := fun vs H Q _ => ∃ (d l : Addr) (us' us : List V), vs = [.ref d, .ref l] ∧ H d = some (.lst us') ∧ H l = some (.lst us) ∧ Paired (CpRow H) us' us ∧ us.length ≤ 100 ∧ Q (.bl true) H
theorem scHeld : FnScope ["_law_rows_here", "_law_others", "_law_j"] ["_law_rows_here", "_law_others"] (defScope sHeld) := ⟨rfl, rfl, rfl, by decide +kernel, rfl, by decide +kernel, by decide +kernel⟩
theorem ok_held (F : Fun K "_law_held" "_law_held" sHeld f fd) (T : Txt mg) : FnOk P w K mg base CX0 2 f fd ["_law_rows_here", "_law_others"] spHeld := by
  refine F.ok scHeld (fun vs H Q E h => (by obtain ⟨_, _, _, _, rfl, _⟩ := h; rfl)) (fun cdv A outer s H vs Q E hr h => ?_)
  obtain ⟨d, l, us', us, rfl, hd, hl, hp, h100, k⟩ := h
  have nd := scHeld.nd
  have lp := Paired.length hp
  refine ⟨_, pss_cons (ps_for PassesOwn.never rfl (pi_range1 rfl T.range (pa_c (pe_callB call_len_seq rfl T.len tb_len (pa_c (pv 1) pa_nil)) pa_nil)) (pg_name (i := 2) nd rfl (Or.inl rfl))
      (pss_one (ps_if (PW.pt (pw_or (pt_cmpR op_ne (pe_callB call_len_seq rfl T.len tb_len (pa_c (pv 0) pa_nil)) (pe_callB call_len_seq rfl T.len tb_len (pa_c (pv 1) pa_nil)) (nomark _))
        (pw_or (pt_cmpR op_ne (pe_callB call_len_seq rfl T.len tb_len (pa_c (pe_ix (r := rIx K) ix_seq (pe_ix (r := rIx K) ix_seq (pv 0) (pv 2) (fun _ _ => rfl)) pe_int (fun _ _ => rfl)) pa_nil)) (pe_callB call_len_seq rfl T.len tb_len (pa_c (pe_ix (r := rIx K) ix_seq (pe_ix (r := rIx K) ix_seq (pv 1) (pv 2) (fun _ _ => rfl)) pe_int (fun _ _ => rfl)) pa_nil)) (nomark _))
        (pw_or1 (pt_cmpR op_ne (pe_callB call_len_seq rfl T.len tb_len (pa_c (pe_ix (r := rIx K) ix_seq (pe_ix (r := rIx K) ix_seq (pv 0) (pv 2) (fun _ _ => rfl)) pe_int (fun _ _ => rfl)) pa_nil)) (pe_callB call_len_seq rfl T.len tb_len (pa_c (pe_ix (r := rIx K) ix_seq (pe_ix (r := rIx K) ix_seq (pv 1) (pv 2) (fun _ _ => rfl)) pe_int (fun _ _ => rfl)) pa_nil)) (nomark _)))))) (pss_one (ps_ret pe_bl)) pss_nil)))
    (pss_one (ps_ret (pe_and (pe_cmpR op_eq (pe_callB call_len_seq rfl T.len tb_len (pa_c (pv 0) pa_nil)) (pe_callB call_len_seq rfl T.len tb_len (pa_c (pv 1) pa_nil)) (nomark _)) (pe_one (pe_cmpR (op_eqCp hr) (pv 0) (pv 1) (nomark _)))))), ?_⟩
  refine ⟨_, rfl, l, us, rfl, .inl (SqL.of hl), _, rfl, by omega, by omega, ?_⟩
  rw [Int.toNat_natCast]
  refine for_range (n := us.length) (fun i σ H' => ∃ o2 : Option V, σ = [some (.ref d), some (.ref l), o2] ∧ H' = H) ⟨_, rfl, rfl⟩ ?_ ?_
  · rintro i σ H' hi ⟨o2, rfl, rfl⟩
    have hu : us[i]? = some us[i] := List.getElem?_eq_getElem hi
    obtain ⟨u', eu', hc⟩ := Paired.ix hp hu
    obtain ⟨t', t, a', a, b', b, x, xs, ys, e1, e2, h3, h4, h5, h6, h7, h8, h9⟩ := hc
    rw [e1] at eu'
    rw [e2] at hu
    have av' : atI us' (0 + (i : Int)) = some (.ref t') := by rw [Int.zero_add]; exact atI_nat eu'
    have av : atI us (0 + (i : Int)) = some (.ref t) := by rw [Int.zero_add]; exact atI_nat hu
    refine ⟨_, rfl, d, us', rfl, .inl (SqL.of hd), _, rfl, l, us, rfl, .inl (SqL.of hl), rfl, _, rfl, iteNS (by rw [lp]) ?_⟩
    refine ⟨_, rfl, _, rfl, .inl ⟨d, us', _, _, rfl, rfl, SqL.of hd, av', .inr (.inl ⟨t', _, _, .ref a', rfl, rfl, SqT.of h3, rfl, a', xs, rfl, .inl (SqL.of h5), ?_⟩)⟩⟩
    refine ⟨_, rfl, _, rfl, .inl ⟨l, us, _, _, rfl, rfl, SqL.of hl, av, .inr (.inl ⟨t, _, _, .ref a, rfl, rfl, SqT.of h4, rfl, a, xs, rfl, .inl (SqL.of h6), rfl, _, rfl, iteNS rfl ?_⟩)⟩⟩
    refine ⟨_, rfl, _, rfl, .inl ⟨d, us', _, _, rfl, rfl, SqL.of hd, av', .inr (.inl ⟨t', _, _, .ref b', rfl, rfl, SqT.of h3, rfl, b', ys, rfl, .inl (SqL.of h7), ?_⟩)⟩⟩
    refine ⟨_, rfl, _, rfl, .inl ⟨l, us, _, _, rfl, rfl, SqL.of hl, av, .inr (.inl ⟨t, _, _, .ref b, rfl, rfl, SqT.of h4, rfl, b, ys, rfl, .inl (SqL.of h8), rfl, _, rfl, iteNS rfl ?_⟩)⟩⟩
    exact ⟨_, rfl, rfl⟩
  · rintro σ H' ⟨o2, rfl, rfl⟩
    refine ⟨_, rfl, d, us', rfl, .inl (SqL.of hd), _, rfl, l, us, rfl, .inl (SqL.of hl), rfl, _, rfl, ?_⟩
    rw [lp, decide_eq_true rfl]
    exact iteT ⟨_, rfl, _, rfl, d, l, us', us, rfl, rfl, hd, hl, hp, k⟩
/-! ### law -/
abbrev nLaw : List Str := ["_law_script", "_law_k", "_law_well_here", "_law_spoils", "_law_rows_here", "_law_turn", "_law_handed", "_law_due_here", "_law_told"]
theorem scLaw : FnScope nLaw ["_law_script"] (defScope sLaw) := ⟨rfl, rfl, rfl, by decide +kernel, rfl, by decide +kernel, by decide +kernel⟩
theorem ok_law (F : Fun K "law" "law" sLaw f fd) (T : Txt mg) (DW : DefOk P w K mg base 1 "_law_well" ["_law_script", "_law_k"] (spWell K)) (DP : DefOk P w K mg base 1 "_law_pull" ["_law_well_here", "_law_many"] spPull)
    (DR : DefOk P w K mg base 10 "_law_rows" ["_law_well_here"] spRows) (DS : DefOk P w K mg base 8 "_law_spoilt" ["_law_well_here", "_law_rows_here"] spSpoilt) (DC : DefOk P w K mg base 1 "_law_copy" ["_law_rows_here"] spCopy) (DD : DefOk P w K mg base 8 "_law_due" ["_law_rows_here"] spDue)
    (DO : DefOk P w K mg base 9 "patch_ok" ["rows"] spPatchOk) (DH : DefOk P w K mg base 2 "_law_held" ["_law_rows_here", "_law_others"] spHeld) :
    FnOk P w K mg base CX0 20 f fd ["_law_script"] (spLaw K) := by
  refine F.ok scLaw (fun vs H Q E h => (by obtain ⟨_, _, rfl, _⟩ := h; rfl)) (fun cdv A outer s H vs Q E hr h => ?_)
  obtain ⟨a, ns, rfl, hS, hn, k⟩ := h
  have nd := scLaw.nd
  have hr1 := hr.mono (show 1 ≤ 19 by decide)
  have hr2 := hr.mono (show 2 ≤ 19 by decide)
  have hr8 := hr.mono (show 8 ≤ 19 by decide)
  have hr9 := hr.mono (show 9 ≤ 19 by decide)
  have hr10 := hr.mono (show 10 ≤ 19 by decide)
  refine ⟨_, pss_cons (ps_for PassesOwn.never rfl (pi_range2 rfl T.range (pa_c pe_int (pa_c (pe_callB (call_max2 rfl) rfl T.max tb_max (pa_c pe_int (pa_c (pe_callB (call_min2 rfl) rfl T.min tb_min (pa_c (pe_callB call_len_seq rfl T.len tb_len (pa_c (pv 0) pa_nil)) (pa_c pe_int pa_nil))) pa_nil))) pa_nil))) (pg_name (i := 1) nd rfl (Or.inl rfl))
      (pss_cons (ps_set (i := 2) nd rfl (Or.inl rfl) (pe_def DW hr1 (pa_c (pv 0) (pa_c (pv 1) pa_nil))))
      (pss_cons (ps_set (i := 3) nd rfl (Or.inl rfl) (pe_def DP hr1 (pa_c (pv 2) (pa_c pe_int pa_nil))))
      (pss_cons (ps_set (i := 4) nd rfl (Or.inl rfl) (pe_def DR hr10 (pa_c (pv 2) pa_nil)))
      (pss_cons (ps_for PassesOwn.never rfl (pi_range1 rfl T.range (pa_c (pv 3) pa_nil)) (pg_name (i := 5) nd rfl (Or.inl rfl))
        (pss_one (ps_set (i := 4) nd rfl (Or.inl rfl) (pe_def DS hr8 (pa_c (pv 2) (pa_c (pv 4) pa_nil))))))
      (pss_cons (ps_set (i := 6) nd rfl (Or.inl rfl) (pe_def DC hr1 (pa_c (pv 4) pa_nil)))
      (pss_cons (ps_set (i := 7) nd rfl (Or.inl rfl) (pe_def DD hr8 (pa_c (pv 4) pa_nil)))
      (pss_one (ps_for PassesOwn.never rfl (pi_range1 rfl T.range (pa_c pe_int pa_nil)) (pg_name (i := 5) nd rfl (Or.inl rfl))
        (pss_cons (ps_set (i := 8) nd rfl (Or.inl rfl) (pe_def DO hr9 (pa_c (pv 6) pa_nil)))
        (pss_one (ps_if (PW.pt (pw_or (pt_not (pt_val (pe_callB tw_isinst rfl T.isi tb_isinstance (pa_c (pv 8) (pa_c (pe_bltn (v := .ty "bool") rfl T.bool tb_bool rfl) pa_nil))))) (pw_or (pt_cmpR op_ne (pv 8) (pv 7) (nomark _)) (pw_or1 (pt_not (pt_val (pe_def DH hr2 (pa_c (pv 6) (pa_c (pv 4) pa_nil)))))))))
          (pss_one (ps_ret pe_bl)) pss_nil))))))))))))
    (pss_one (ps_ret pe_bl)), ?_⟩
  obtain ⟨M, eM, M3, M61⟩ : ∃ M : Int, (if (if (63 : Int) < ((ns.map V.int).length : Int) then (63 : Int) else ((ns.map V.int).length : Int)) > 4 then (if (63 : Int) < ((ns.map V.int).length : Int) then (63 : Int) else ((ns.map V.int).length : Int)) else 4) = M ∧ 4 ≤ M ∧ M ≤ 63 := by
    refine ⟨_, rfl, ?_, ?_⟩
    · (repeat' split) <;> omega
    · (repeat' split) <;> omega
  refine ⟨_, rfl, a, ns.map V.int, rfl, .inl hS, _, _, rfl, _, _, rfl, 1, M, congrArg (fun z => [V.int 1, V.int z]) eM, ⟨by omega, by omega, by omega, by omega⟩, ?_⟩
  clear eM
  refine for_range (lo := 1) (n := (M - 1).toNat) (fun i σ H3 => ∃ (x1 x2 x3 x4 x5 x6 x7 x8 : Option V), σ = [some (.ref a), x1, x2, x3, x4, x5, x6, x7, x8] ∧ Same H H3) ⟨_, _, _, _, _, _, _, _, rfl, Same.refl _⟩ ?_ ?_
  · rintro i σ H3 hi ⟨x1, x2, x3, x4, x5, x6, x7, x8, rfl, s3⟩
    refine ⟨_, rfl, _, rfl, a, ns, _, rfl, s3.seq hS, hn, by omega, by omega, fun p H4 np s4 W4 => ?_⟩
    refine ⟨_, rfl, p, 3, rfl, W4, small_lit (by decide) (by decide), fun m H5 m0 m1 W5 s5 => ?_⟩
    refine ⟨_, rfl, p, rfl, W5, fun R us H6 hR Rp pre l8 W6 s6 => ?_⟩
    have f6 : SameX p H4 H6 := s5.trans s6
    refine ⟨_, rfl, m, rfl, by omega, by omega, for_range (n := m.toNat) (fun j σ H7 => ∃ (L : Addr) (us : List V) (x5 : Option V), σ = [some (.ref a), some (.int (1 + (i : Int))), some (.ref p), some (.int m), some (.ref L), x5, x6, x7, x8] ∧ H7 L = some (.lst us) ∧ L ≠ p ∧ PRE (1 + j) (fun b => b = p) H7 us ∧ (j = 0 → us.length ≤ 8) ∧ (j ≤ 1 → us.length ≤ 25) ∧ us.length ≤ 76 ∧ WellAt H7 p ∧ SameX p H4 H7)
      ⟨R, us, _, rfl, hR, Rp, pre, fun _ => l8, fun _ => by omega, by omega, W6, f6⟩ ?_ ?_⟩
    · rintro j σ H7 hj ⟨L, us, x5, rfl, hL, Lp, pre, q0, q1, q2, W7, s7⟩
      have hj2 : j ≤ 1 := by omega
      have u25 := q1 hj2
      refine ⟨_, rfl, _, rfl, p, L, us, 1 + j, rfl, W7, Lp, hL, by omega, by omega, pre, fun L' us' H8 W8 s8 hL' Lp' pre' l' => ?_⟩
      refine ⟨L', us', _, rfl, hL', Lp', pre', fun z => absurd z (by omega), fun z => ?_, by omega, W8, s7.trans s8⟩
      have := q0 (by omega)
      omega
    rintro σ H7 ⟨L, us, x5, rfl, hL, Lp, pre, _, _, q2, W7, s7⟩
    obtain ⟨rs, hp, hsm⟩ := pre.rows
    have f7 : Same H3 H7 := fun b o e => s7 b o (s4 b o e) (ne_of_none e np)
    have pn : H7 p ≠ none := by
      obtain ⟨xs, e⟩ := W7.some
      rw [e]; exact fun z => nomatch z
    have sm : ∀ r ∈ rs, r.2.1.length ≤ 100 ∧ r.2.2.length ≤ 100 := fun r hr => by
      have := hsm r hr
      omega
    refine ⟨_, rfl, L, p, us, rs, rfl, hL, pn, hp, by omega, fun D us' H8 s8 hD hp8 cp8 => ?_⟩
    have hL8 := s8 _ _ hL
    have lp := Paired.length cp8
    refine ⟨_, rfl, L, us, rs, _, rfl, hL8, PRows.mono hp (Keeps.same s8), by omega, sm, fun H9 s9 => ?_⟩
    refine ⟨2, rfl, by decide, by decide, for_range (n := 2) (fun j σ H10 => ∃ (x5 x8 : Option V), σ = [some (.ref a), some (.int (1 + (i : Int))), some (.ref p), some (.int m), some (.ref L), x5, some (.ref D), some (.bl (patchOk rs)), x8] ∧ Same H9 H10) ⟨_, _, rfl, Same.refl _⟩ ?_ ?_⟩
    · rintro j σ H10 hj ⟨x5, x8, rfl, s10⟩
      have s8' := s9.trans s10
      refine ⟨_, rfl, D, us', rs, _, rfl, s8' _ _ hD, PRows.mono hp8 (Keeps.same s8'), by omega, sm, fun H11 s11 => ?_⟩
      have t8 := s8'.trans s11
      refine ⟨_, rfl, _, _, _, _, rfl, .bl _, kit_bb, _, rfl, iteF ?_⟩
      refine ⟨_, rfl, _, rfl, rfl, _, rfl, iteNS rfl ?_⟩
      refine ⟨_, rfl, _, rfl, D, L, us', us, rfl, t8 _ _ hD, t8 _ _ hL8, Paired.mapP cp8 fun _ _ z => z.same t8, by omega, ⟨_, rfl, iteF ⟨_, _, rfl, s10.trans s11⟩⟩⟩
    · rintro σ H10 ⟨x5, x8, rfl, s10⟩
      exact ⟨_, _, _, _, _, _, _, _, rfl, (s3.trans f7).trans ((s8.trans s9).trans s10)⟩
  · rintro σ H3 ⟨x1, x2, x3, x4, x5, x6, x7, x8, rfl, s3⟩
    exact k H3
end
end Tw
set_option Elab.async false
set_option linter.all false
set_option maxRecDepth 100000
set_option maxHeartbeats 8000000
namespace Tw
open PySem PySem.Spec L2
theorem all_mk {l : PySem.W.OpenLaw} {w : World} {K : PySem.W.Frag} {h : Heap} {mg : Str → Option Value} {fa f1 f2 f3 f4 f5 f6 f7 f8 f9 f10 f11 f12 f13 f14 f15 f16 f17 f18 f19 f20 f21 f22 f23 f24 f25 f26 f27 f28 f29 : Addr} (X : K.In h) (G : h.Ns mainGlobals mg) (hfa : mg "law" = some (.ref fa))
    {od1 an1 od2 an2 od3 an3 od4 an4 od5 an5 od6 an6 od7 an7 od8 an8 od9 an9 od10 an10 od11 an11 od12 an12 od13 an13 od14 an14 od15 an15 od16 an16 od17 an17 od18 an18 od19 an19 od20 an20 od21 an21 od22 an22 od23 an23 od24 an24 od25 an25 od26 an26 od27 an27 od28 an28 od29 an29 : Option Addr} {sl1 sl2 sl3 sl4 sl5 sl6 sl7 sl8 sl9 sl10 sl11 sl12 sl13 sl14 sl15 sl16 sl17 sl18 sl19 sl20 sl21 sl22 sl23 sl24 sl25 sl26 sl27 sl28 sl29 : Array (Option Value)} {oc1 kV1 dc1 pm1 cd1 ct1 oc2 kV2 dc2 pm2 cd2 ct2 oc3 kV3 dc3 pm3 cd3 ct3 oc4 kV4 dc4 pm4 cd4 ct4 oc5 kV5 dc5 pm5 cd5 ct5 oc6 kV6 dc6 pm6 cd6 ct6 oc7 kV7 dc7 pm7 cd7 ct7 oc8 kV8 dc8 pm8 cd8 ct8 oc9 kV9 dc9 pm9 cd9 ct9 oc10 kV10 dc10 pm10 cd10 ct10 oc11 kV11 dc11 pm11 cd11 ct11 oc12 kV12 dc12 pm12 cd12 ct12 oc13 kV13 dc13 pm13 cd13 ct13 oc14 kV14 dc14 pm14 cd14 ct14 oc15 kV15 dc15 pm15 cd15 ct15 oc16 kV16 dc16 pm16 cd16 ct16 oc17 kV17 dc17 pm17 cd17 ct17 oc18 kV18 dc18 pm18 cd18 ct18 oc19 kV19 dc19 pm19 cd19 ct19 oc20 kV20 dc20 pm20 cd20 ct20 oc21 kV21 dc21 pm21 cd21 ct21 oc22 kV22 dc22 pm22 cd22 ct22 oc23 kV23 dc23 pm23 cd23 ct23 oc24 kV24 dc24 pm24 cd24 ct24 oc25 kV25 dc25 pm25 cd25 ct25 oc26 kV26 dc26 pm26 cd26 ct26 oc27 kV27 dc27 pm27 cd27 ct27 oc28 kV28 dc28 pm28 cd28 ct28 oc29 kV29 dc29 pm29 cd29 ct29 : Value} {t1 t2 t3 : Tok}
    (a1 : PySem.W.nsIn K mainGlobals "is_key" = some (some (.ref f1))) (l1 : K.lookup f1 = some ⟨oc1, od1, .func (PySem.W.fnOf "is_key" "is_key" (defArgs sIsKey) (defBody sIsKey) (defScope sIsKey) .none kV1 dc1 pm1 an1 cd1 ct1), sl1⟩) (c1 : PySem.W.codeIn K cd1 "is_key" = true) (k1 : PySem.W.keepIn K (.ref f1) = true)
    (a2 : PySem.W.nsIn K mainGlobals "fits" = some (some (.ref f2))) (l2 : K.lookup f2 = some ⟨oc2, od2, .func (PySem.W.fnOf "fits" "fits" (defArgs sFits) (defBody sFits) (defScope sFits) .none kV2 dc2 pm2 an2 cd2 ct2), sl2⟩) (c2 : PySem.W.codeIn K cd2 "fits" = true) (k2 : PySem.W.keepIn K (.ref f2) = true)
    (a3 : PySem.W.nsIn K mainGlobals "has_few_figures" = some (some (.ref f3))) (l3 : K.lookup f3 = some ⟨oc3, od3, .func (PySem.W.fnOf "has_few_figures" "has_few_figures" (defArgs sFew) (defBody sFew) (defScope sFew) .none kV3 dc3 pm3 an3 cd3 ct3), sl3⟩) (c3 : PySem.W.codeIn K cd3 "has_few_figures" = true) (k3 : PySem.W.keepIn K (.ref f3) = true)
    (a4 : PySem.W.nsIn K mainGlobals "is_sign" = some (some (.ref f4))) (l4 : K.lookup f4 = some ⟨oc4, od4, .func (PySem.W.fnOf "is_sign" "is_sign" (defArgs sSign) (defBody sSign) (defScope sSign) .none kV4 dc4 pm4 an4 cd4 ct4), sl4⟩) (c4 : PySem.W.codeIn K cd4 "is_sign" = true) (k4 : PySem.W.keepIn K (.ref f4) = true)
    (a5 : PySem.W.nsIn K mainGlobals "ahead" = some (some (.ref f5))) (l5 : K.lookup f5 = some ⟨oc5, od5, .func (PySem.W.fnOf "ahead" "ahead" (defArgs sAhead) (defBody sAhead) (defScope sAhead) .none kV5 dc5 pm5 an5 cd5 ct5), sl5⟩) (c5 : PySem.W.codeIn K cd5 "ahead" = true) (k5 : PySem.W.keepIn K (.ref f5) = true)
    (a6 : PySem.W.nsIn K mainGlobals "standing" = some (some (.ref f6))) (l6 : K.lookup f6 = some ⟨oc6, od6, .func (PySem.W.fnOf "standing" "standing" (defArgs sStanding) (defBody sStanding) (defScope sStanding) .none kV6 dc6 pm6 an6 cd6 ct6), sl6⟩) (c6 : PySem.W.codeIn K cd6 "standing" = true) (k6 : PySem.W.keepIn K (.ref f6) = true)
    (a7 : PySem.W.nsIn K mainGlobals "rise" = some (some (.ref f7))) (l7 : K.lookup f7 = some ⟨oc7, od7, .func (PySem.W.fnOf "rise" "rise" (defArgs sRise) (defBody sRise) (defScope sRise) .none kV7 dc7 pm7 an7 cd7 ct7), sl7⟩) (c7 : PySem.W.codeIn K cd7 "rise" = true) (k7 : PySem.W.keepIn K (.ref f7) = true)
    (a8 : PySem.W.nsIn K mainGlobals "patch_ok" = some (some (.ref f8))) (l8 : K.lookup f8 = some ⟨oc8, od8, .func (PySem.W.fnOf "patch_ok" "patch_ok" (defArgs sPatchOk) (defBody sPatchOk) (defScope sPatchOk) .none kV8 dc8 pm8 an8 cd8 ct8), sl8⟩) (c8 : PySem.W.codeIn K cd8 "patch_ok" = true) (k8 : PySem.W.keepIn K (.ref f8) = true)
    (a9 : PySem.W.nsIn K mainGlobals "is_change" = some (some (.ref f9))) (l9 : K.lookup f9 = some ⟨oc9, od9, .func (PySem.W.fnOf "is_change" "is_change" (defArgs sIsChange) (defBody sIsChange) (defScope sIsChange) .none kV9 dc9 pm9 an9 cd9 ct9), sl9⟩) (c9 : PySem.W.codeIn K cd9 "is_change" = true) (k9 : PySem.W.keepIn K (.ref f9) = true)
    (a10 : PySem.W.nsIn K mainGlobals "is_side" = some (some (.ref f10))) (l10 : K.lookup f10 = some ⟨oc10, od10, .func (PySem.W.fnOf "is_side" "is_side" (defArgs sIsSide) (defBody sIsSide) (defScope sIsSide) .none kV10 dc10 pm10 an10 cd10 ct10), sl10⟩) (c10 : PySem.W.codeIn K cd10 "is_side" = true) (k10 : PySem.W.keepIn K (.ref f10) = true)
    (a11 : PySem.W.nsIn K mainGlobals "_law_well" = some (some (.ref f11))) (l11 : K.lookup f11 = some ⟨oc11, od11, .func (PySem.W.fnOf "_law_well" "_law_well" (defArgs sWell) (defBody sWell) (defScope sWell) .none kV11 dc11 pm11 an11 cd11 ct11), sl11⟩) (c11 : PySem.W.codeIn K cd11 "_law_well" = true) (k11 : PySem.W.keepIn K (.ref f11) = true)
    (a12 : PySem.W.nsIn K mainGlobals "_law_pull" = some (some (.ref f12))) (l12 : K.lookup f12 = some ⟨oc12, od12, .func (PySem.W.fnOf "_law_pull" "_law_pull" (defArgs sPull) (defBody sPull) (defScope sPull) .none kV12 dc12 pm12 an12 cd12 ct12), sl12⟩) (c12 : PySem.W.codeIn K cd12 "_law_pull" = true) (k12 : PySem.W.keepIn K (.ref f12) = true)
    (a13 : PySem.W.nsIn K mainGlobals "_law_great" = some (some (.ref f13))) (l13 : K.lookup f13 = some ⟨oc13, od13, .func (PySem.W.fnOf "_law_great" "_law_great" (defArgs sGreat) (defBody sGreat) (defScope sGreat) .none kV13 dc13 pm13 an13 cd13 ct13), sl13⟩) (c13 : PySem.W.codeIn K cd13 "_law_great" = true) (k13 : PySem.W.keepIn K (.ref f13) = true)
    (a14 : PySem.W.nsIn K mainGlobals "_law_text" = some (some (.ref f14))) (l14 : K.lookup f14 = some ⟨oc14, od14, .func (PySem.W.fnOf "_law_text" "_law_text" (defArgs sText) (defBody sText) (defScope sText) .none kV14 dc14 pm14 an14 cd14 ct14), sl14⟩) (c14 : PySem.W.codeIn K cd14 "_law_text" = true) (k14 : PySem.W.keepIn K (.ref f14) = true)
    (a15 : PySem.W.nsIn K mainGlobals "_law_key" = some (some (.ref f15))) (l15 : K.lookup f15 = some ⟨oc15, od15, .func (PySem.W.fnOf "_law_key" "_law_key" (defArgs sKey) (defBody sKey) (defScope sKey) .none kV15 dc15 pm15 an15 cd15 ct15), sl15⟩) (c15 : PySem.W.codeIn K cd15 "_law_key" = true) (k15 : PySem.W.keepIn K (.ref f15) = true)
    (a16 : PySem.W.nsIn K mainGlobals "_law_rank" = some (some (.ref f16))) (l16 : K.lookup f16 = some ⟨oc16, od16, .func (PySem.W.fnOf "_law_rank" "_law_rank" (defArgs sRank) (defBody sRank) (defScope sRank) .none kV16 dc16 pm16 an16 cd16 ct16), sl16⟩) (c16 : PySem.W.codeIn K cd16 "_law_rank" = true) (k16 : PySem.W.keepIn K (.ref f16) = true)
    (a17 : PySem.W.nsIn K mainGlobals "_law_keys" = some (some (.ref f17))) (l17 : K.lookup f17 = some ⟨oc17, od17, .func (PySem.W.fnOf "_law_keys" "_law_keys" (defArgs sKeys) (defBody sKeys) (defScope sKeys) .none kV17 dc17 pm17 an17 cd17 ct17), sl17⟩) (c17 : PySem.W.codeIn K cd17 "_law_keys" = true) (k17 : PySem.W.keepIn K (.ref f17) = true)
    (a18 : PySem.W.nsIn K mainGlobals "_law_alike" = some (some (.ref f18))) (l18 : K.lookup f18 = some ⟨oc18, od18, .func (PySem.W.fnOf "_law_alike" "_law_alike" (defArgs sAlike) (defBody sAlike) (defScope sAlike) .none kV18 dc18 pm18 an18 cd18 ct18), sl18⟩) (c18 : PySem.W.codeIn K cd18 "_law_alike" = true) (k18 : PySem.W.keepIn K (.ref f18) = true)
    (a19 : PySem.W.nsIn K mainGlobals "_law_rows_alike" = some (some (.ref f19))) (l19 : K.lookup f19 = some ⟨oc19, od19, .func (PySem.W.fnOf "_law_rows_alike" "_law_rows_alike" (defArgs sRowsAlike) (defBody sRowsAlike) (defScope sRowsAlike) .none kV19 dc19 pm19 an19 cd19 ct19), sl19⟩) (c19 : PySem.W.codeIn K cd19 "_law_rows_alike" = true) (k19 : PySem.W.keepIn K (.ref f19) = true)
    (a20 : PySem.W.nsIn K mainGlobals "_law_value" = some (some (.ref f20))) (l20 : K.lookup f20 = some ⟨oc20, od20, .func (PySem.W.fnOf "_law_value" "_law_value" (defArgs sValue) (defBody sValue) (defScope sValue) .none kV20 dc20 pm20 an20 cd20 ct20), sl20⟩) (c20 : PySem.W.codeIn K cd20 "_law_value" = true) (k20 : PySem.W.keepIn K (.ref f20) = true)
    (a21 : PySem.W.nsIn K mainGlobals "_law_bad" = some (some (.ref f21))) (l21 : K.lookup f21 = some ⟨oc21, od21, .func (PySem.W.fnOf "_law_bad" "_law_bad" (defArgs sBad) (defBody sBad) (defScope sBad) .none kV21 dc21 pm21 an21 cd21 ct21), sl21⟩) (c21 : PySem.W.codeIn K cd21 "_law_bad" = true) (k21 : PySem.W.keepIn K (.ref f21) = true)
    (a22 : PySem.W.nsIn K mainGlobals "_law_is_key" = some (some (.ref f22))) (l22 : K.lookup f22 = some ⟨oc22, od22, .func (PySem.W.fnOf "_law_is_key" "_law_is_key" (defArgs sLKey) (defBody sLKey) (defScope sLKey) .none kV22 dc22 pm22 an22 cd22 ct22), sl22⟩) (c22 : PySem.W.codeIn K cd22 "_law_is_key" = true) (k22 : PySem.W.keepIn K (.ref f22) = true)
    (a23 : PySem.W.nsIn K mainGlobals "_law_sides" = some (some (.ref f23))) (l23 : K.lookup f23 = some ⟨oc23, od23, .func (PySem.W.fnOf "_law_sides" "_law_sides" (defArgs sSides) (defBody sSides) (defScope sSides) .none kV23 dc23 pm23 an23 cd23 ct23), sl23⟩) (c23 : PySem.W.codeIn K cd23 "_law_sides" = true) (k23 : PySem.W.keepIn K (.ref f23) = true)
    (a24 : PySem.W.nsIn K mainGlobals "_law_rows" = some (some (.ref f24))) (l24 : K.lookup f24 = some ⟨oc24, od24, .func (PySem.W.fnOf "_law_rows" "_law_rows" (defArgs sRows) (defBody sRows) (defScope sRows) .none kV24 dc24 pm24 an24 cd24 ct24), sl24⟩) (c24 : PySem.W.codeIn K cd24 "_law_rows" = true) (k24 : PySem.W.keepIn K (.ref f24) = true)
    (a25 : PySem.W.nsIn K mainGlobals "_law_spoilt" = some (some (.ref f25))) (l25 : K.lookup f25 = some ⟨oc25, od25, .func (PySem.W.fnOf "_law_spoilt" "_law_spoilt" (defArgs sSpoilt) (defBody sSpoilt) (defScope sSpoilt) .none kV25 dc25 pm25 an25 cd25 ct25), sl25⟩) (c25 : PySem.W.codeIn K cd25 "_law_spoilt" = true) (k25 : PySem.W.keepIn K (.ref f25) = true)
    (a26 : PySem.W.nsIn K mainGlobals "_law_due" = some (some (.ref f26))) (l26 : K.lookup f26 = some ⟨oc26, od26, .func (PySem.W.fnOf "_law_due" "_law_due" (defArgs sDue) (defBody sDue) (defScope sDue) .none kV26 dc26 pm26 an26 cd26 ct26), sl26⟩) (c26 : PySem.W.codeIn K cd26 "_law_due" = true) (k26 : PySem.W.keepIn K (.ref f26) = true)
    (a27 : PySem.W.nsIn K mainGlobals "_law_copy" = some (some (.ref f27))) (l27 : K.lookup f27 = some ⟨oc27, od27, .func (PySem.W.fnOf "_law_copy" "_law_copy" (defArgs sCopy) (defBody sCopy) (defScope sCopy) .none kV27 dc27 pm27 an27 cd27 ct27), sl27⟩) (c27 : PySem.W.codeIn K cd27 "_law_copy" = true) (k27 : PySem.W.keepIn K (.ref f27) = true)
    (a28 : PySem.W.nsIn K mainGlobals "_law_held" = some (some (.ref f28))) (l28 : K.lookup f28 = some ⟨oc28, od28, .func (PySem.W.fnOf "_law_held" "_law_held" (defArgs sHeld) (defBody sHeld) (defScope sHeld) .none kV28 dc28 pm28 an28 cd28 ct28), sl28⟩) (c28 : PySem.W.codeIn K cd28 "_law_held" = true) (k28 : PySem.W.keepIn K (.ref f28) = true)
    (a29 : PySem.W.nsIn K mainGlobals "law" = some (some (.ref f29))) (l29 : K.lookup f29 = some ⟨oc29, od29, .func (PySem.W.fnOf "law" "law" (defArgs sLaw) (defBody sLaw) (defScope sLaw) .none kV29 dc29 pm29 an29 cd29 ct29), sl29⟩) (c29 : PySem.W.codeIn K cd29 "law" = true) (k29 : PySem.W.keepIn K (.ref f29) = true)
    (z1 : PySem.W.nsIn K mainGlobals "isinstance" = some none) (z2 : PySem.W.nsIn K mainGlobals "bool" = some none) (z3 : PySem.W.nsIn K mainGlobals "int" = some none) (z4 : PySem.W.nsIn K mainGlobals "str" = some none) (z5 : PySem.W.nsIn K mainGlobals "tuple" = some none) (z6 : PySem.W.nsIn K mainGlobals "list" = some none) (z7 : PySem.W.nsIn K mainGlobals "len" = some none) (z8 : PySem.W.nsIn K mainGlobals "all" = some none) (z9 : PySem.W.nsIn K mainGlobals "abs" = some none) (z10 : PySem.W.nsIn K mainGlobals "max" = some none) (z11 : PySem.W.nsIn K mainGlobals "min" = some none) (z12 : PySem.W.nsIn K mainGlobals "range" = some none) (z13 : PySem.W.nsIn K mainGlobals "sorted" = some none)
    (m1 : PySem.W.nsIn K mainGlobals "MOST_SIGNS" = some (some (.int 40 t1))) (m2 : PySem.W.nsIn K mainGlobals "MOST_THINGS" = some (some (.int 4 t2))) (m3 : PySem.W.nsIn K mainGlobals "MOST_DEEP" = some (some (.int 3 t3))) :
    ∃ fd : FuncData, (∀ (s : Shared) (v : Value), BindsTo s fd ⟨[v], []⟩ [("_law_script", v)]) ∧ ∀ base : Heap, K.In base → base.Ns mainGlobals mg → FnOk l.prog w K mg base CX0 20 fa fd ["_law_script"] (spLaw K) := by
  have e := hfa.symm.trans (PySem.W.mg_of X G a29)
  cases e
  have T : Txt mg := ⟨PySem.W.mg_none_of X G z1, PySem.W.mg_none_of X G z2, PySem.W.mg_none_of X G z3, PySem.W.mg_none_of X G z4, PySem.W.mg_none_of X G z5, PySem.W.mg_none_of X G z6, PySem.W.mg_none_of X G z7, PySem.W.mg_none_of X G z8, PySem.W.mg_none_of X G z9, PySem.W.mg_none_of X G z10, PySem.W.mg_none_of X G z11, PySem.W.mg_none_of X G z12, PySem.W.mg_none_of X G z13, ⟨_, PySem.W.mg_of X G m1⟩, ⟨_, PySem.W.mg_of X G m2⟩, ⟨_, PySem.W.mg_of X G m3⟩⟩
  have L1 : Laid K mg "is_key" sIsKey ["thing"] := laid_mk X G a1 l1 c1 k1 fun _ _ _ _ _ _ us hl => match us, hl with | [_], _ => rfl
  have L2 : Laid K mg "fits" sFits ["thing", "room"] := laid_mk X G a2 l2 c2 k2 fun _ _ _ _ _ _ us hl => match us, hl with | [_, _], _ => rfl
  have L3 : Laid K mg "has_few_figures" sFew ["number"] := laid_mk X G a3 l3 c3 k3 fun _ _ _ _ _ _ us hl => match us, hl with | [_], _ => rfl
  have L4 : Laid K mg "is_sign" sSign ["sign"] := laid_mk X G a4 l4 c4 k4 fun _ _ _ _ _ _ us hl => match us, hl with | [_], _ => rfl
  have L5 : Laid K mg "ahead" sAhead ["one", "other"] := laid_mk X G a5 l5 c5 k5 fun _ _ _ _ _ _ us hl => match us, hl with | [_, _], _ => rfl
  have L6 : Laid K mg "standing" sStanding ["key"] := laid_mk X G a6 l6 c6 k6 fun _ _ _ _ _ _ us hl => match us, hl with | [_], _ => rfl
  have L7 : Laid K mg "rise" sRise ["keys"] := laid_mk X G a7 l7 c7 k7 fun _ _ _ _ _ _ us hl => match us, hl with | [_], _ => rfl
  have L8 : Laid K mg "patch_ok" sPatchOk ["rows"] := laid_mk X G a8 l8 c8 k8 fun _ _ _ _ _ _ us hl => match us, hl with | [_], _ => rfl
  have L9 : Laid K mg "is_change" sIsChange ["row"] := laid_mk X G a9 l9 c9 k9 fun _ _ _ _ _ _ us hl => match us, hl with | [_], _ => rfl
  have L10 : Laid K mg "is_side" sIsSide ["things"] := laid_mk X G a10 l10 c10 k10 fun _ _ _ _ _ _ us hl => match us, hl with | [_], _ => rfl
  have L11 : Laid K mg "_law_well" sWell ["_law_script", "_law_k"] := laid_mk X G a11 l11 c11 k11 fun _ _ _ _ _ _ us hl => match us, hl with | [_, _], _ => rfl
  have L12 : Laid K mg "_law_pull" sPull ["_law_well_here", "_law_many"] := laid_mk X G a12 l12 c12 k12 fun _ _ _ _ _ _ us hl => match us, hl with | [_, _], _ => rfl
  have L13 : Laid K mg "_law_great" sGreat ["_law_well_here", "_law_bound"] := laid_mk X G a13 l13 c13 k13 fun _ _ _ _ _ _ us hl => match us, hl with | [_, _], _ => rfl
  have L14 : Laid K mg "_law_text" sText ["_law_well_here"] := laid_mk X G a14 l14 c14 k14 fun _ _ _ _ _ _ us hl => match us, hl with | [_], _ => rfl
  have L15 : Laid K mg "_law_key" sKey ["_law_well_here", "_law_room"] := laid_mk X G a15 l15 c15 k15 fun _ _ _ _ _ _ us hl => match us, hl with | [_, _], _ => rfl
  have L16 : Laid K mg "_law_rank" sRank ["_law_spot"] := laid_mk X G a16 l16 c16 k16 fun _ _ _ _ _ _ us hl => match us, hl with | [_], _ => rfl
  have L17 : Laid K mg "_law_keys" sKeys ["_law_well_here", "_law_many"] := laid_mk X G a17 l17 c17 k17 fun _ _ _ _ _ _ us hl => match us, hl with | [_, _], _ => rfl
  have L18 : Laid K mg "_law_alike" sAlike ["_law_found", "_law_due_here"] := laid_mk X G a18 l18 c18 k18 fun _ _ _ _ _ _ us hl => match us, hl with | [_, _], _ => rfl
  have L19 : Laid K mg "_law_rows_alike" sRowsAlike ["_law_found", "_law_due_here"] := laid_mk X G a19 l19 c19 k19 fun _ _ _ _ _ _ us hl => match us, hl with | [_, _], _ => rfl
  have L20 : Laid K mg "_law_value" sValue ["_law_well_here"] := laid_mk X G a20 l20 c20 k20 fun _ _ _ _ _ _ us hl => match us, hl with | [_], _ => rfl
  have L21 : Laid K mg "_law_bad" sBad ["_law_well_here"] := laid_mk X G a21 l21 c21 k21 fun _ _ _ _ _ _ us hl => match us, hl with | [_], _ => rfl
  have L22 : Laid K mg "_law_is_key" sLKey ["_law_thing", "_law_room"] := laid_mk X G a22 l22 c22 k22 fun _ _ _ _ _ _ us hl => match us, hl with | [_, _], _ => rfl
  have L23 : Laid K mg "_law_sides" sSides ["_law_well_here"] := laid_mk X G a23 l23 c23 k23 fun _ _ _ _ _ _ us hl => match us, hl with | [_], _ => rfl
  have L24 : Laid K mg "_law_rows" sRows ["_law_well_here"] := laid_mk X G a24 l24 c24 k24 fun _ _ _ _ _ _ us hl => match us, hl with | [_], _ => rfl
  have L25 : Laid K mg "_law_spoilt" sSpoilt ["_law_well_here", "_law_rows_here"] := laid_mk X G a25 l25 c25 k25 fun _ _ _ _ _ _ us hl => match us, hl with | [_, _], _ => rfl
  have L26 : Laid K mg "_law_due" sDue ["_law_rows_here"] := laid_mk X G a26 l26 c26 k26 fun _ _ _ _ _ _ us hl => match us, hl with | [_], _ => rfl
  have L27 : Laid K mg "_law_copy" sCopy ["_law_rows_here"] := laid_mk X G a27 l27 c27 k27 fun _ _ _ _ _ _ us hl => match us, hl with | [_], _ => rfl
  have L28 : Laid K mg "_law_held" sHeld ["_law_rows_here", "_law_others"] := laid_mk X G a28 l28 c28 k28 fun _ _ _ _ _ _ us hl => match us, hl with | [_, _], _ => rfl
  refine ⟨PySem.W.fnOf "law" "law" (defArgs sLaw) (defBody sLaw) (defScope sLaw) .none kV29 dc29 pm29 an29 cd29 ct29, fun s v => .of_eq rfl, fun base kb _ => ?_⟩
  have DP : DefOk l.prog w K mg base 1 "_law_pull" ["_law_well_here", "_law_many"] spPull := L12.of fun _ _ F => ok_pull F
  have DG : DefOk l.prog w K mg base 2 "_law_great" ["_law_well_here", "_law_bound"] spPull := L13.of fun _ _ F => ok_great F T DP
  have DT : DefOk l.prog w K mg base 2 "_law_text" ["_law_well_here"] spText := L14.of fun _ _ F => ok_text F T DP
  have DW : DefOk l.prog w K mg base 1 "_law_well" ["_law_script", "_law_k"] (spWell K) := L11.of fun _ _ F => ok_well F T
  have DFe : DefOk l.prog w K mg base 1 "has_few_figures" ["number"] spFew := L3.of fun _ _ F => ok_few F T
  have DSg : DefOk l.prog w K mg base 1 "is_sign" ["sign"] spSign := L4.of fun _ _ F => ok_sign F
  have DFi : DefOk l.prog w K mg base 5 "fits" ["thing", "room"] (spFitsG 4) := all_fits T L2 DFe DSg 4
  have DI : DefOk l.prog w K mg base 6 "is_key" ["thing"] spIsKeyG := L1.of fun _ _ F => ok_iskey F T DFi
  have DSt : DefOk l.prog w K mg base 6 "standing" ["key"] (spSt 5) := all_standing T L6 5
  have DAh : DefOk l.prog w K mg base 7 "ahead" ["one", "other"] spAhead := L5.of fun _ _ F => ok_ahead F DSt
  have DRi : DefOk l.prog w K mg base 8 "rise" ["keys"] spRise := L7.of fun _ _ F => ok_rise F T DAh
  have DSd : DefOk l.prog w K mg base 7 "is_side" ["things"] spSide := L10.of fun _ _ F => ok_side F T DI
  have DCh : DefOk l.prog w K mg base 8 "is_change" ["row"] spChange := L9.of fun _ _ F => ok_change F T DSd
  have DO : DefOk l.prog w K mg base 9 "patch_ok" ["rows"] spPatchOk := L8.of fun _ _ F => ok_patchok F T DI DRi DCh
  have DK : DefOk l.prog w K mg base 6 "_law_key" ["_law_well_here", "_law_room"] (spKey 4) := all_key T L15 DP DG DT 4
  have DRk : DefOk l.prog w K mg base 6 "_law_rank" ["_law_spot"] (spRank 5) := all_rank T L16 5
  have DKs : DefOk l.prog w K mg base 9 "_law_keys" ["_law_well_here", "_law_many"] spKeys := L17.of fun _ _ F => ok_keys F T DK DRk
  have DRa : DefOk l.prog w K mg base 7 "_law_rows_alike" ["_law_found", "_law_due_here"] spRAlike := L19.of fun _ _ F => ok_ralike F T (all_alikeG T L18 5)
  have DV : DefOk l.prog w K mg base 7 "_law_value" ["_law_well_here"] spValue := L20.of fun _ _ F => ok_value F DP DK
  have DB : DefOk l.prog w K mg base 2 "_law_bad" ["_law_well_here"] spBad := L21.of fun _ _ F => ok_bad F DP
  have DLk : DefOk l.prog w K mg base 5 "_law_is_key" ["_law_thing", "_law_room"] (spFitsG 4) := all_lkey T L22 4
  have DSi : DefOk l.prog w K mg base 8 "_law_sides" ["_law_well_here"] spSides := L23.of fun _ _ F => ok_sides F DP DV
  have DRo : DefOk l.prog w K mg base 10 "_law_rows" ["_law_well_here"] spRows := L24.of fun _ _ F => ok_rows F DP DKs DSi
  have DSp : DefOk l.prog w K mg base 8 "_law_spoilt" ["_law_well_here", "_law_rows_here"] spSpoilt := L25.of fun _ _ F => ok_spoilt F T DP DB DV DK
  have DDu : DefOk l.prog w K mg base 8 "_law_due" ["_law_rows_here"] spDue := L26.of fun _ _ F => ok_due F T DLk DRk DRa
  have DC : DefOk l.prog w K mg base 1 "_law_copy" ["_law_rows_here"] spCopy := L27.of fun _ _ F => ok_copy F T
  have DH : DefOk l.prog w K mg base 2 "_law_held" ["_law_rows_here", "_law_others"] spHeld := L28.of fun _ _ F => ok_held F T
  exact ok_law (fun_mk (st := sLaw) l29 c29 k29) T DW DP DRo DSp DC DDu DO DH
theorem walk {l : PySem.W.OpenLaw} {q : Program} {loose : List Str} {XP : (Str → Option Value) → Heap → Prop} {YP : World → Heap → Prop} {d : DefRec} {K : Params → PySem.W.Frag} (hn : l.most = some 63) (hdf : d.params.defaults = [])
    (hY : ∀ (w : World) (h : Heap), YP w h → (K w.params).In h)
    (F : ∀ (w : World) (mg : Str → Option Value) (fa : Addr) (h : Heap), (K w.params).In h → h.Ns mainGlobals mg → mg d.name = some (.ref fa) →
      ∃ fd : FuncData, (∀ (s : Shared) (u : Value), BindsTo s fd ⟨[u], []⟩ [("_law_script", u)]) ∧ ∀ base : Heap, (K w.params).In base → base.Ns mainGlobals mg → FnOk l.prog w (K w.params) mg base CX0 20 fa fd ["_law_script"] (spLaw (K w.params))) :
    PySem.W.WalkO q loose XP YP l.row.toRowW d [] (fun f vs => PySem.call f vs) :=
  L2.walk_of (n := 63) (k := 20) (x := "_law_script") (CX := fun _ => CX0) (sp := fun w => spLaw (K w.params)) hn (by decide) hdf ⟨rfl, by decide, by decide⟩ hY F (fun _ _ a ns hl _ hS => ⟨a, ns, rfl, hS, hl, fun _ => rfl⟩) fun _ _ _ _ _ z => z
end Tw
open PySem PySem.W PyProof.Rows
set_option maxRecDepth 100000 in
set_option maxHeartbeats 0 in
theorem PySem.Challenge.cw_twigmap_k64_patches_holds : PySem.Challenge.rw_twigmap_k64_patches.Holds := by
  w_on; o_law; k_head; (case hw => w_witness2)
  k_fill
  refine Tw.walk (l := PySem.Challenge.rw_twigmap_k64_patches) rfl rfl (fun w h Y => PySem.W.kIn_of Y) ?F
  case F =>
    intro w mg fa h KX G hmg
    refine' Tw.all_mk KX G hmg ?a1 ?l1 ?c1 ?k1 ?a2 ?l2 ?c2 ?k2 ?a3 ?l3 ?c3 ?k3 ?a4 ?l4 ?c4 ?k4 ?a5 ?l5 ?c5 ?k5 ?a6 ?l6 ?c6 ?k6 ?a7 ?l7 ?c7 ?k7 ?a8 ?l8 ?c8 ?k8 ?a9 ?l9 ?c9 ?k9 ?a10 ?l10 ?c10 ?k10 ?a11 ?l11 ?c11 ?k11 ?a12 ?l12 ?c12 ?k12 ?a13 ?l13 ?c13 ?k13 ?a14 ?l14 ?c14 ?k14 ?a15 ?l15 ?c15 ?k15 ?a16 ?l16 ?c16 ?k16 ?a17 ?l17 ?c17 ?k17 ?a18 ?l18 ?c18 ?k18 ?a19 ?l19 ?c19 ?k19 ?a20 ?l20 ?c20 ?k20 ?a21 ?l21 ?c21 ?k21 ?a22 ?l22 ?c22 ?k22 ?a23 ?l23 ?c23 ?k23 ?a24 ?l24 ?c24 ?k24 ?a25 ?l25 ?c25 ?k25 ?a26 ?l26 ?c26 ?k26 ?a27 ?l27 ?c27 ?k27 ?a28 ?l28 ?c28 ?k28 ?a29 ?l29 ?c29 ?k29 ?z1 ?z2 ?z3 ?z4 ?z5 ?z6 ?z7 ?z8 ?z9 ?z10 ?z11 ?z12 ?z13 ?m1 ?m2 ?m3
    (case a1 => k_is)
    (case l1 => k_is)
    (case c1 => k_is)
    (case k1 => k_is)
    (case a2 => k_is)
    (case l2 => k_is)
    (case c2 => k_is)
    (case k2 => k_is)
    (case a3 => k_is)
    (case l3 => k_is)
    (case c3 => k_is)
    (case k3 => k_is)
    (case a4 => k_is)
    (case l4 => k_is)
    (case c4 => k_is)
    (case k4 => k_is)
    (case a5 => k_is)
    (case l5 => k_is)
    (case c5 => k_is)
    (case k5 => k_is)
    (case a6 => k_is)
    (case l6 => k_is)
    (case c6 => k_is)
    (case k6 => k_is)
    (case a7 => k_is)
    (case l7 => k_is)
    (case c7 => k_is)
    (case k7 => k_is)
    (case a8 => k_is)
    (case l8 => k_is)
    (case c8 => k_is)
    (case k8 => k_is)
    (case a9 => k_is)
    (case l9 => k_is)
    (case c9 => k_is)
    (case k9 => k_is)
    (case a10 => k_is)
    (case l10 => k_is)
    (case c10 => k_is)
    (case k10 => k_is)
    (case a11 => k_is)
    (case l11 => k_is)
    (case c11 => k_is)
    (case k11 => k_is)
    (case a12 => k_is)
    (case l12 => k_is)
    (case c12 => k_is)
    (case k12 => k_is)
    (case a13 => k_is)
    (case l13 => k_is)
    (case c13 => k_is)
    (case k13 => k_is)
    (case a14 => k_is)
    (case l14 => k_is)
    (case c14 => k_is)
    (case k14 => k_is)
    (case a15 => k_is)
    (case l15 => k_is)
    (case c15 => k_is)
    (case k15 => k_is)
    (case a16 => k_is)
    (case l16 => k_is)
    (case c16 => k_is)
    (case k16 => k_is)
    (case a17 => k_is)
    (case l17 => k_is)
    (case c17 => k_is)
    (case k17 => k_is)
    (case a18 => k_is)
    (case l18 => k_is)
    (case c18 => k_is)
    (case k18 => k_is)
    (case a19 => k_is)
    (case l19 => k_is)
    (case c19 => k_is)
    (case k19 => k_is)
    (case a20 => k_is)
    (case l20 => k_is)
    (case c20 => k_is)
    (case k20 => k_is)
    (case a21 => k_is)
    (case l21 => k_is)
    (case c21 => k_is)
    (case k21 => k_is)
    (case a22 => k_is)
    (case l22 => k_is)
    (case c22 => k_is)
    (case k22 => k_is)
    (case a23 => k_is)
    (case l23 => k_is)
    (case c23 => k_is)
    (case k23 => k_is)
    (case a24 => k_is)
    (case l24 => k_is)
    (case c24 => k_is)
    (case k24 => k_is)
    (case a25 => k_is)
    (case l25 => k_is)
    (case c25 => k_is)
    (case k25 => k_is)
    (case a26 => k_is)
    (case l26 => k_is)
    (case c26 => k_is)
    (case k26 => k_is)
    (case a27 => k_is)
    (case l27 => k_is)
    (case c27 => k_is)
    (case k27 => k_is)
    (case a28 => k_is)
    (case l28 => k_is)
    (case c28 => k_is)
    (case k28 => k_is)
    (case a29 => k_is)
    (case l29 => k_is)
    (case c29 => k_is)
    (case k29 => k_is)
    (case z1 => k_is)
    (case z2 => k_is)
    (case z3 => k_is)
    (case z4 => k_is)
    (case z5 => k_is)
    (case z6 => k_is)
    (case z7 => k_is)
    (case z8 => k_is)
    (case z9 => k_is)
    (case z10 => k_is)
    (case z11 => k_is)
    (case z12 => k_is)
    (case z13 => k_is)
    (case m1 => k_is)
    (case m2 => k_is)
    (case m3 => k_is)
