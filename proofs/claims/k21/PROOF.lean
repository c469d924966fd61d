import PyProof.Rows.All
import Wide.All
import OpenK.AllK
import Wide.FinOn
import Lean
import PyProof.EqAt
import PyProof.EqKinds
import PyProof.TupleCall
import PyProof.NeKinds
import PyProof.NsDelKeeps
import PyProof.ExcBaseAll.ValueError
import KE.KIsAll
import PyProof.ExcArgsOwn
import PyProof.ExcAttrAll.ValueError
import KE.KLam
import KE.KDictList
import PyProof.Rows.SortWalk
import PySem.Challenge.RW_twigmap_k21_leaves_put
set_option Elab.async false
set_option linter.all false
set_option maxRecDepth 100000
/-! THE HAND LAYER, for ints, bools, texts, own classes, LISTS and tuples (index, slices, in, append, pop ..), calls, loops. Paste it whole ahead of your own text; what your proof does not reach may be deleted. -/
namespace L2
open PySem PySem.Spec PyProof.Rows

/-- a key: an int or a str -/
abbrev Key := Sum Int Str
def keyIs : Key → Value → Bool
  | .inl k, v => Value.isInt k v
  | .inr x, v => Value.isStrOf x v
def keyH (w : World) : Key → Int
  | .inl k => hashInt k
  | .inr x => hashStr w x
theorem keyIs_shape : ∀ {k : Key} {v : Value}, keyIs k v = true → (∃ i t, k = Sum.inl i ∧ v = Value.int i t) ∨ (∃ x t, k = Sum.inr x ∧ v = Value.str x t)
  | .inl i, v, h => by
    obtain ⟨t, e⟩ := Value.isInt_shape (k := i) (v := v) h
    exact .inl ⟨i, t, rfl, e⟩
  | .inr x, v, h => by
    obtain ⟨t, e⟩ := Value.isStrOf_shape (x := x) (v := v) h
    exact .inr ⟨x, t, rfl, e⟩
theorem keyIs_int (i : Int) (t : Tok) : keyIs (.inl i) (.int i t) = true := by simp [keyIs, Value.isInt]
theorem keyIs_str (x : Str) (t : Tok) : keyIs (.inr x) (.str x t) = true := by simp [keyIs, Value.isStrOf]
theorem key_ll (a b : Int) : decide ((Sum.inl a : Key) = Sum.inl b) = (a == b) := by
  by_cases e : a = b
  · subst e; simp
  · have h : ¬ (Sum.inl a : Key) = Sum.inl b := fun q => e (Sum.inl.inj q)
    rw [decide_eq_false h]
    exact (beq_eq_false_iff_ne.mpr e).symm
theorem key_rr (a b : Str) : decide ((Sum.inr a : Key) = Sum.inr b) = decide (a = b) := by
  by_cases e : a = b
  · subst e; simp
  · have h : ¬ (Sum.inr a : Key) = Sum.inr b := fun q => e (Sum.inr.inj q)
    rw [decide_eq_false h, decide_eq_false e]
theorem key_lr (a : Int) (b : Str) : decide ((Sum.inl a : Key) = Sum.inr b) = false := decide_eq_false (fun q => nomatch q)
theorem key_rl (a : Str) (b : Int) : decide ((Sum.inr a : Key) = Sum.inl b) = false := decide_eq_false (fun q => nomatch q)

def mixKind (prog : Program) (w : World) : PySem.KeyKind prog w Key where
  is := keyIs
  hash := keyH w
  inj := fun v a b ha hb => by
    rcases keyIs_shape ha with ⟨i, t, rfl, rfl⟩ | ⟨x, t, rfl, rfl⟩
    · rcases keyIs_shape hb with ⟨j, u, rfl, e⟩ | ⟨y, u, rfl, e⟩
      · injection e with e1 _; rw [e1]
      · exact nomatch e
    · rcases keyIs_shape hb with ⟨j, u, rfl, e⟩ | ⟨y, u, rfl, e⟩
      · exact nomatch e
      · injection e with e1 _; rw [e1]
  byValue := fun k v h => by
    rcases keyIs_shape h with ⟨i, t, rfl, rfl⟩ | ⟨x, t, rfl, rfl⟩ <;> rfl
  pyHash := fun hv h => by
    rcases keyIs_shape hv with ⟨i, t, rfl, rfl⟩ | ⟨x, t, rfl, rfl⟩
    · exact wpAny_pyHash_int h
    · exact wpAny_pyHash_str h
  eqBool := fun hu hv h => by
    rcases keyIs_shape hu with ⟨i, t, rfl, rfl⟩ | ⟨x, t, rfl, rfl⟩
    · rcases keyIs_shape hv with ⟨j, u, rfl, rfl⟩ | ⟨y, u, rfl, rfl⟩
      · rw [key_ll] at h; exact wpAny_eqBool_int h
      · rw [key_lr] at h; exact SeqAt.EqAt.int_str i t y u _ _ _ _ h
    · rcases keyIs_shape hv with ⟨j, u, rfl, rfl⟩ | ⟨y, u, rfl, rfl⟩
      · rw [key_rl] at h; exact SeqAt.EqAt.str_int x t j u _ _ _ _ h
      · rw [key_rr] at h; exact wpAny_eqBool_str h
  «strs» := fun k x t v h => by
    rcases keyIs_shape h with ⟨i, u, rfl, e⟩ | ⟨y, u, rfl, e⟩
    · exact nomatch e
    · injection e with e1 _
      subst e1
      cases v <;> rfl

theorem mixKind_int (prog : Program) (w : World) (i : Int) (t : Tok) : (mixKind prog w).is (.inl i) (.int i t) = true := keyIs_int i t
theorem mixKind_str (prog : Program) (w : World) (x : Str) (t : Tok) : (mixKind prog w).is (.inr x) (.str x t) = true := keyIs_str x t
end L2

namespace L2
open PySem PySem.Spec PyProof.Rows

/-- a value, without the heap -/
inductive V where
  | non | bl (b : Bool) | int (i : Int) | str (x : Str) | byt (b : Array UInt8) | flt (b : UInt64) | ref (a : Addr) | ty (n : String)
  deriving DecidableEq

def RelV : V → Value → Prop
  | .non, u => u = Value.none
  | .bl b, u => u = Value.bool b
  | .int i, u => ∃ t, u = Value.int i t
  | .str x, u => ∃ t, u = Value.str x t
  | .byt b, u => ∃ t, u = Value.bytes b t
  | .flt b, u => ∃ t, u = Value.float b t
  | .ref a, u => u = Value.ref a
  | .ty n, u => u = Value.type n

abbrev Vals : List V → List Value → Prop := Paired RelV
theorem Vals.length {xs : List V} {us : List Value} (r : Vals xs us) : xs.length = us.length := Paired.length r
theorem Vals.get : ∀ {xs : List V} {us : List Value} {i : Nat} {x : V}, Vals xs us → xs[i]? = some x → ∃ u, us[i]? = some u ∧ RelV x u
  | _, _, _, _, .nil, e => by simp at e
  | _, _, 0, _, .cons r _, e => by simp at e; subst e; exact ⟨_, rfl, r⟩
  | _, _, i + 1, x, .cons _ t, e => by
    obtain ⟨u, h1, h2⟩ := Vals.get (i := i) (x := x) t (by simpa using e)
    exact ⟨u, by simpa using h1, h2⟩
theorem Vals.set {x : V} {u : Value} (r : RelV x u) : ∀ {xs : List V} {us : List Value} (i : Nat), Vals xs us → Vals (xs.set i x) (us.set i u)
  | _, _, _, .nil => .nil
  | _, _, 0, .cons _ t => .cons r t
  | _, _, i + 1, .cons q t => .cons q (Vals.set r i t)
theorem Vals.append : ∀ {xs ys : List V} {us ws : List Value}, Vals xs us → Vals ys ws → Vals (xs ++ ys) (us ++ ws)
  | _, _, _, _, .nil, s => s
  | _, _, _, _, .cons r t, s => .cons r (Vals.append t s)
theorem Vals.take : ∀ {xs : List V} {us : List Value} (n : Nat), Vals xs us → Vals (xs.take n) (us.take n)
  | _, _, 0, _ => .nil
  | _, _, _ + 1, .nil => .nil
  | _, _, n + 1, .cons r t => .cons r (Vals.take n t)
theorem Vals.drop : ∀ {xs : List V} {us : List Value} (n : Nat), Vals xs us → Vals (xs.drop n) (us.drop n)
  | _, _, 0, r => r
  | _, _, _ + 1, .nil => .nil
  | _, _, n + 1, .cons _ t => Vals.drop n t
theorem Vals.none_of : ∀ {xs : List V} {us : List Value} {i : Nat}, Vals xs us → xs[i]? = none → us[i]? = none := fun {xs us i} r e => by
  have h1 := r.length
  have h2 : xs.length ≤ i := List.getElem?_eq_none_iff.mp e
  exact List.getElem?_eq_none_iff.mpr (by omega)

def RelO : Option V → Option Value → Prop
  | some v, some u => RelV v u
  | none, none => True
  | _, _ => False
def KV {κ : Type} : List (κ × V) → List (κ × Value) → Prop := Paired fun (p : κ × V) (q : κ × Value) => p.1 = q.1 ∧ RelV p.2 q.2

/-- a key of a dict (00_mix): an int or a text -/
def kV : Key → V
  | .inl i => .int i
  | .inr x => .str x

/-- what stands at a tracked address -/
inductive HO where
  /-- a list -/
  | lst (xs : List V)
  /-- a tuple (never changes) -/
  | tup (xs : List V)
  /-- a dict whose keys are ints and texts; one whose keys are tuples of ints and texts (the empty one is both) -/
  | dK (kvs : List (Key × V)) | dT (kvs : List (List Key × V))
  /-- a set of ints: its members, its size -/
  | set (S : Int → Bool) (n : Nat)
  /-- an instance of the class at C, its dict at dx, its attributes -/
  | ins (C dx : Addr) (fs : List (Str × V))
  /-- the dict of the instance at x -/
  | own (x : Addr)
  /-- the dict of an exception -/
  | xd (fs : List (Str × V))
  /-- a bound method, f of x -/
  | met (f x : Addr)
  /-- a range object lo, lo + 1, .. below hi -/
  | rng (lo hi : Int)
  /-- a thing that is known to the object (the script; a dict while a loop walks it): read, never written while it is so -/
  | frz (o : Obj) (u : HO)
  /-- a code object's table -/
  | tbl (ps : Array Value)
  /-- any other thing, by what is true of its one object (a def of one's own: SetO a S n := HO.ext fun h => ..) -/
  | ext (φ : Heap → Prop)

abbrev Hp := Addr → Option HO
def upd (H : Hp) (a : Addr) (o : HO) : Hp := fun b => if b = a then some o else H b
theorem upd_same {H : Hp} {a : Addr} {o : HO} : upd H a o a = some o := by unfold upd; rw [if_pos rfl]
theorem upd_ne {H : Hp} {a b : Addr} {o : HO} (h : b ≠ a) : upd H a o b = H b := by unfold upd; rw [if_neg h]
theorem upd_upd {H : Hp} {a : Addr} {o u : HO} : upd (upd H a o) a u = upd H a u := by
  funext b; unfold upd; split <;> rfl
/-- two objects of different content stand apart -/
theorem ne_of {H : Hp} {a b : Addr} {o u : HO} (h : H a = some o) (h' : H b = some u) (d : o ≠ u) : a ≠ b := by
  intro e; subst e; rw [h] at h'; exact d (Option.some.inj h')
theorem ne_of_none {H : Hp} {a b : Addr} {o : HO} (h : H a = some o) (h' : H b = none) : a ≠ b := by
  intro e; subst e; rw [h] at h'; cases h'

section
variable (P : Program) (w : World)
def ObjOk (H : Hp) (h : Heap) (a : Addr) : HO → Prop
  | .lst xs => xs.length ≤ sizeLine ∧ ∃ (its : List Value) (n : Nat), Vals xs its ∧ h.get? a = some { cls := .type "list", data := .seq its.toArray n }
  | .tup xs => xs.length ≤ sizeLine ∧ ∃ its : List Value, Vals xs its ∧ IsTup h a its.toArray
  | .dK kvs => kvs.length ≤ sizeLine ∧ (a == sysModules) = false ∧ ∃ vs, KV kvs vs ∧ h.DictOf (mixKind P w) a vs
  | .dT kvs => kvs.length ≤ sizeLine ∧ (a == sysModules) = false ∧ ∃ xs : List (List Key × Addr × Value),
      Paired (fun (p : List Key × V) (q : List Key × Addr × Value) => p.1 = q.1 ∧ H q.2.1 = some (.tup (p.1.map kV)) ∧ RelV p.2 q.2.2) kvs xs ∧
      ∃ o es ep, h.get? a = some o ∧ o.ExactDict ∧ o.data = .dict es ep ∧ es.toList = xs.map (entryOfKey (tupleKind (mixKind P w))) ∧ (xs.map (·.1)).Nodup
  | .set S n => h.SetOf (intKind P w) a S n
  | .ins C dx fs => H dx = some (.own a) ∧ fs.length ≤ 1000 ∧ dx ≠ a ∧ h.get? a = some (PySem.W.instObj C dx) ∧
      ∃ mA, h.Ns1 dx mA ∧ (∀ f, RelO (fs.lookup f) (mA f)) ∧ PySem.Within mA (fs.map (·.1))
  | .own _ => ∃ o, h.get? a = some o
  | .xd fs => ∃ mA, h.Ns1 a mA ∧ ∀ f, RelO (fs.lookup f) (mA f)
  | .rng lo hi => ∃ t u v, h.get? a = some { cls := .type "range", data := .fields #[.int lo t, .int hi u, .int 1 v] }
  | .frz o u => h.get? a = some o ∧ ObjOk H h a u
  | .tbl ps => h.get? a = some { cls := .none, data := .fields ps }
  | .met f x => h.get? a = some (PySem.W.methodObj (.ref f) (.ref x))
  | .ext φ => φ h ∧ (∃ o, h.get? a = some o) ∧ ∀ h1 h2 : Heap, φ h1 → (∀ o, h1.get? a = some o → h2.get? a = some o) → φ h2
/-- the abstract heap is held -/
def HOk (H : Hp) (h : Heap) : Prop := ∀ a o, H a = some o → ObjOk P w H h a o
end

section
variable {P : Program} {w : World} {H H' : Hp} {h h' : Heap} {a : Addr} {o : HO}
theorem ObjOk.lt (x : ObjOk P w H h a o) : a < h.objs.size := by
  cases o with
  | lst xs => obtain ⟨_, _, _, _, e⟩ := x; exact Heap.lt_size e
  | tup xs => obtain ⟨_, _, _, p⟩ := x; exact p.lt
  | dK kvs => obtain ⟨_, _, _, _, o, _, _, e, _⟩ := x; exact Heap.lt_size e
  | dT kvs => obtain ⟨_, _, _, _, o, _, _, e, _⟩ := x; exact Heap.lt_size e
  | set S n => obtain ⟨o, _, _, _, e, _⟩ := x; exact Heap.lt_size e
  | ins C dx fs => obtain ⟨_, _, _, e, _⟩ := x; exact Heap.lt_size e
  | own y => obtain ⟨_, e⟩ := x; exact Heap.lt_size e
  | xd fs => obtain ⟨_, ⟨_, _, _, e, _⟩, _⟩ := x; exact Heap.lt_size e
  | rng lo hi => obtain ⟨_, _, _, e⟩ := x; exact Heap.lt_size e
  | frz ob u => obtain ⟨e, _⟩ := x; exact Heap.lt_size e
  | tbl ps => exact Heap.lt_size (show h.get? a = some _ from x)
  | met f y => exact Heap.lt_size (show h.get? a = some _ from x)
  | ext φ => obtain ⟨_, ⟨_, e⟩, _⟩ := x; exact Heap.lt_size e
theorem Paired.mapP {α β : Type} {F G : α → β → Prop} : ∀ {l₁ : List α} {l₂ : List β}, Paired F l₁ l₂ → (∀ a b, F a b → G a b) → Paired G l₁ l₂
  | _, _, .nil, _ => .nil
  | _, _, .cons r t, f => .cons (f _ _ r) (Paired.mapP t f)
/-- what an object's description leans on: its own object, its own dict, the tuples -/
theorem ObjOk.stay (x : ObjOk P w H h a o) (k : ∀ b u, (b = a ∨ H b = some (.own a)) → h.get? b = some u → h'.get? b = some u)
    (ho : ∀ b, H b = some (.own a) → H' b = some (.own a)) (ht : ∀ b xs, H b = some (.tup xs) → H' b = some (.tup xs)) : ObjOk P w H' h' a o := by
  induction o with
  | lst xs => obtain ⟨z, its, n, r, e⟩ := x; exact ⟨z, its, n, r, k _ _ (.inl rfl) e⟩
  | tup xs => obtain ⟨z, its, r, ob, e, c⟩ := x; exact ⟨z, its, r, ob, k _ _ (.inl rfl) e, c⟩
  | dK kvs => obtain ⟨z, y, vs, r, ob, es, ep, e, c⟩ := x; exact ⟨z, y, vs, r, ob, es, ep, k _ _ (.inl rfl) e, c⟩
  | dT kvs =>
    obtain ⟨z, y, xs, r, ob, es, ep, e, c⟩ := x
    exact ⟨z, y, xs, Paired.mapP r fun p q z => ⟨z.1, ht _ _ z.2.1, z.2.2⟩, ob, es, ep, k _ _ (.inl rfl) e, c⟩
  | set S n => obtain ⟨ob, es, ep, t, e, c⟩ := x; exact ⟨ob, es, ep, t, k _ _ (.inl rfl) e, c⟩
  | ins C dx fs =>
    obtain ⟨d, z, ne, e, mA, ⟨od, es, ep, e2, c⟩, r⟩ := x
    exact ⟨ho _ d, z, ne, k _ _ (.inl rfl) e, mA, ⟨od, es, ep, k _ _ (.inr d) e2, c⟩, r⟩
  | own y => obtain ⟨ob, e⟩ := x; exact ⟨ob, k _ _ (.inl rfl) e⟩
  | xd fs => obtain ⟨mA, ⟨od, es, ep, e, c⟩, r⟩ := x; exact ⟨mA, ⟨od, es, ep, k _ _ (.inl rfl) e, c⟩, r⟩
  | rng lo hi => obtain ⟨t, u, v, e⟩ := x; exact ⟨t, u, v, k _ _ (.inl rfl) e⟩
  | frz ob u ih => obtain ⟨e, q⟩ := x; exact ⟨k _ _ (.inl rfl) e, ih q⟩
  | tbl ps =>
    have e : h.get? a = some { cls := .none, data := .fields ps } := x
    show h'.get? a = some { cls := .none, data := .fields ps }
    exact k a _ (.inl rfl) e
  | met f y =>
    have e : h.get? a = some (PySem.W.methodObj (.ref f) (.ref y)) := x
    show h'.get? a = some (PySem.W.methodObj (.ref f) (.ref y))
    exact k a _ (.inl rfl) e
  | ext φ => obtain ⟨p, ⟨o, e⟩, st⟩ := x; exact ⟨st _ _ p fun o q => k _ _ (.inl rfl) q, ⟨o, k _ _ (.inl rfl) e⟩, st⟩
theorem HOk.lt (x : HOk P w H h) (e : H a = some o) : a < h.objs.size := (x a o e).lt
theorem HOk.fresh (x : HOk P w H h) (e : h.objs.size ≤ a) : H a = none := by
  cases q : H a with
  | none => rfl
  | some u => exact absurd (Nat.lt_of_lt_of_le (x.lt q) e) (Nat.lt_irrefl _)
/-- every object of the heap is kept -/
theorem HOk.kept (x : HOk P w H h) (k : ∀ b u, h.get? b = some u → h'.get? b = some u) : HOk P w H h' := fun a o e =>
  (x a o e).stay (fun b u _ q => k b u q) (fun _ q => q) fun _ _ q => q
/-- a new object is laid and tracked -/
theorem HOk.laid (x : HOk P w H h) (k : ∀ b u, h.get? b = some u → h'.get? b = some u) (hp : h.objs.size ≤ a) (new : ObjOk P w (upd H a o) h' a o) : HOk P w (upd H a o) h' := fun b u e => by
  have hn := x.fresh hp
  by_cases hb : b = a
  · subst hb; rw [upd_same] at e; cases e; exact new
  · rw [upd_ne hb] at e
    exact (x b u e).stay (fun c v _ q => k c v q) (fun c q => by rw [upd_ne (ne_of_none q hn)]; exact q) fun c xs q => by rw [upd_ne (ne_of_none q hn)]; exact q
end

/-- what may be read as u: it is u, or a known u -/
def Rd (H : Hp) (a : Addr) (u : HO) : Prop := H a = some u ∨ ∃ o, H a = some (.frz o u)
theorem Rd.of {H : Hp} {a : Addr} {u : HO} (h : H a = some u) : Rd H a u := .inl h
theorem Rd.ok {P : Program} {w : World} {H : Hp} {h : Heap} {a : Addr} {u : HO} (r : Rd H a u) (x : HOk P w H h) : ObjOk P w H h a u := by
  rcases r with r | ⟨o, r⟩
  · exact x a u r
  · obtain ⟨_, q⟩ := x a _ r
    exact q
/-- what may be written -/
def Mut : Option HO → Prop
  | some (.lst _) => True
  | some (.dK _) => True
  | some (.dT _) => True
  | some (.set _ _) => True
  | some (.ins _ _ _) => True
  | some (.ext _) => True
  | _ => False
section
variable {P : Program} {w : World} {H : Hp} {h h' : Heap} {x e : Addr} {o' : HO}
/-- the object at e is changed: x itself, or the dict of the instance x -/
theorem HOk.write (ok : HOk P w H h) (mu : Mut (H x)) (he : e = x ∨ H e = some (.own x)) (k : ∀ b u, b ≠ e → h.get? b = some u → h'.get? b = some u) (heo : ∃ u, h'.get? e = some u)
    (new : ObjOk P w (upd H x o') h' x o') : HOk P w (upd H x o') h' := fun b u q => by
  have nown : ∀ c y, H c = some (.own y) → c ≠ x := fun c y r z => by subst z; rw [r] at mu; exact mu
  have ntup : ∀ c xs, H c = some (.tup xs) → c ≠ x := fun c xs r z => by subst z; rw [r] at mu; exact mu
  by_cases hb : b = x
  · subst hb; rw [upd_same] at q; cases q; exact new
  · rw [upd_ne hb] at q
    by_cases hbe : b = e
    · have q' : H b = some (.own x) := by
        rcases he with z | z
        · exact absurd (hbe.trans z) hb
        · rw [hbe]; exact z
      rw [q] at q'; cases q'
      obtain ⟨v, hv⟩ := heo
      exact ⟨v, by rw [hbe]; exact hv⟩
    · refine (ok b u q).stay (fun c v hc r => k c v ?_ r) (fun c r => by rw [upd_ne (nown c b r)]; exact r) fun c xs r => by rw [upd_ne (ntup c xs r)]; exact r
      rcases hc with rfl | hc
      · exact hbe
      · rintro rfl
        rcases he with z | z
        · exact nown c b hc z
        · rw [hc] at z; cases z; exact hb rfl
end

/-! ### kept unless tracked; of the frames at fs (the callers') the slots may change (an exception that passes writes there); of the records at ex (iterators) nothing is said -/
structure Un (fs ex : List Addr) (H H' : Hp) (h h' : Heap) : Prop where
  keep : ∀ b o, h.get? b = some o → H b = none → b ∉ fs → b ∉ ex → h'.get? b = some o
  slot : ∀ b o, h.get? b = some o → H b = none → b ∈ fs → b ∉ ex → ∃ sl, h'.get? b = some { o with slots := sl }
  free : ∀ b o, h.get? b = some o → H b = none → b ∉ ex → H' b = none
  there : ∀ b o, h.get? b = some o → b ∉ ex → ∃ o', h'.get? b = some o'
  tups : ∀ b xs, H b = some (.tup xs) → H' b = some (.tup xs)
  frzs : ∀ b o u, H b = some (.frz o u) → H' b = some (.frz o u)
  tbls : ∀ b ps, H b = some (.tbl ps) → ∃ more, H' b = some (.tbl (ps ++ more))
section
variable {fs fs' ex ex' : List Addr} {H H1 H2 : Hp} {h h1 h2 h' : Heap} {a x e : Addr} {o : HO}
theorem Un.any (u : Un fs ex H H1 h h1) {b : Addr} {ob : Obj} (q : h.get? b = some ob) (n : H b = none) (hx : b ∉ ex) : ∃ sl, h1.get? b = some { ob with slots := sl } := by
  by_cases hb : b ∈ fs
  · exact u.slot b ob q n hb hx
  · exact ⟨ob.slots, u.keep b ob q n hb hx⟩
theorem Un.trans (a : Un fs ex H H1 h h1) (b : Un fs ex H1 H2 h1 h2) : Un fs ex H H2 h h2 where
  keep := fun c ob q n hc hx => b.keep c ob (a.keep c ob q n hc hx) (a.free c ob q n hx) hc hx
  slot := fun c ob q n hc hx => by
    obtain ⟨sl, e1⟩ := a.slot c ob q n hc hx
    obtain ⟨sl', e2⟩ := b.slot c _ e1 (a.free c ob q n hx) hc hx
    exact ⟨sl', e2⟩
  free := fun c ob q n hx => by
    obtain ⟨o', e1⟩ := a.there c ob q hx
    exact b.free c o' e1 (a.free c ob q n hx) hx
  there := fun c ob q hx => by
    obtain ⟨o', e1⟩ := a.there c ob q hx
    exact b.there c o' e1 hx
  tups := fun c xs q => b.tups c xs (a.tups c xs q)
  frzs := fun c ob xs q => b.frzs c ob xs (a.frzs c ob xs q)
  tbls := fun c ps q => by
    obtain ⟨m1, e1⟩ := a.tbls c ps q
    obtain ⟨m2, e2⟩ := b.tbls c _ e1
    exact ⟨m1 ++ m2, by rw [e2, Array.append_assoc]⟩
theorem Un.kept (k : ∀ b u, h.get? b = some u → h'.get? b = some u) : Un fs ex H H h h' :=
  ⟨fun b ob q _ _ _ => k b ob q, fun b ob q _ _ _ => ⟨ob.slots, k b ob q⟩, fun _ _ _ n _ => n, fun b ob q _ => ⟨ob, k b ob q⟩, fun _ _ q => q, fun _ _ _ q => q, fun _ ps q => ⟨#[], by rw [q]; simp⟩⟩
theorem Un.refl : Un fs ex H H h h := Un.kept fun _ _ q => q
theorem Un.laid (k : ∀ b u, h.get? b = some u → h'.get? b = some u) (hp : h.objs.size ≤ a) (hn : H a = none) : Un fs ex H (upd H a o) h h' where
  keep := fun b u q _ _ _ => k b u q
  slot := fun b u q _ _ _ => ⟨u.slots, k b u q⟩
  free := fun b u q n _ => by rw [upd_ne (Nat.ne_of_lt (Nat.lt_of_lt_of_le (Heap.lt_size q) hp))]; exact n
  there := fun b u q _ => ⟨u, k b u q⟩
  tups := fun b xs q => by rw [upd_ne (ne_of_none q hn)]; exact q
  frzs := fun b u xs q => by rw [upd_ne (ne_of_none q hn)]; exact q
  tbls := fun b ps q => ⟨#[], by rw [upd_ne (ne_of_none q hn), q]; simp⟩
theorem Un.write (mu : Mut (H x)) (he : e = x ∨ H e = some (.own x)) (k : ∀ b u, b ≠ e → h.get? b = some u → h'.get? b = some u) (heo : ∃ u, h'.get? e = some u) : Un fs ex H (upd H x o) h h' := by
  have hx : ∀ b, H b = none → b ≠ x := fun b n z => by subst z; rw [n] at mu; exact mu
  have hb : ∀ b, H b = none → b ≠ e := fun b n z => by
    subst z
    rcases he with r | r
    · exact hx b n r
    · rw [n] at r; cases r
  have hm : ∀ b u, H b = some u → ¬ Mut (some u) → b ≠ x := fun b u q nm z => by subst z; rw [q] at mu; exact nm mu
  refine ⟨fun b u q n _ _ => k b u (hb b n) q, fun b u q n _ _ => ⟨u.slots, k b u (hb b n) q⟩, fun b u q n _ => by rw [upd_ne (hx b n)]; exact n, fun b u q _ => ?_,
    fun b xs q => by rw [upd_ne (hm b _ q fun z => z)]; exact q, fun b u xs q => by rw [upd_ne (hm b _ q fun z => z)]; exact q, fun b ps q => ⟨#[], by rw [upd_ne (hm b _ q fun z => z), q]; simp⟩⟩
  by_cases hbe : b = e
  · subst hbe; exact heo
  · exact ⟨u, k b u hbe q⟩
theorem Un.mono (u : Un fs ex H H1 h h1) (hs : ∀ b ∈ fs, b ∈ fs') (hx : ∀ b ∈ ex, b ∈ ex') : Un fs' ex' H H1 h h1 :=
  ⟨fun b ob q n hb he => u.keep b ob q n (fun z => hb (hs b z)) fun z => he (hx b z), fun _ _ q n _ he => u.any q n fun z => he (hx _ z), fun b ob q n he => u.free b ob q n fun z => he (hx b z), fun b ob q he => u.there b ob q fun z => he (hx b z), u.tups, u.frzs, u.tbls⟩
end

/-! ### the heap without what is tracked -/
def trk (h : Heap) (H : Hp) : List Addr := (List.range h.objs.size).filter fun a => (H a).isSome
def hidT (h : Heap) (H : Hp) : Heap := PySem.W.hideAll h (trk h H)
theorem hidT_size (h : Heap) (H : Hp) : (hidT h H).objs.size = h.objs.size := PySem.W.hideAll_size _ _
theorem hidT_get {h : Heap} {H : Hp} {b : Addr} {o : Obj} (e : h.get? b = some o) (n : H b = none) : (hidT h H).get? b = some o :=
  PySem.W.hideAll_get _ e fun hm => by
    have q : (H b).isSome = true := (List.mem_filter.mp hm).2
    rw [n] at q; simp at q
theorem of_hidT {h : Heap} {H : Hp} {b : Addr} {o : Obj} (e : (hidT h H).get? b = some o) : h.get? b = some o ∧ H b = none := by
  have e' : h.get? b = some o := PySem.W.of_hideAll (trk h H) e
  refine ⟨e', ?_⟩
  cases q : H b with
  | none => rfl
  | some x =>
    have hm : b ∈ trk h H := List.mem_filter.mpr ⟨List.mem_range.mpr (Heap.lt_size e'), by simp [q]⟩
    have z : (hidT h H).get? b = none := PySem.W.hideAll_none (trk h H) hm
    rw [z] at e; cases e

/-! ### OpenK's ledger, filled with every new object but one -/
def allNews (g h : Heap) (L : Addr) : List (Addr × Obj) := (List.range h.objs.size).filterMap fun a => if a = L ∨ (g.get? a).isSome = true then none else (h.get? a).map fun o => (a, o)
def rest (g h : Heap) (L d : Addr) : List (Addr × Obj) := (allNews g h L).filter fun p => decide (p.1 ≠ d)
end L2

namespace L2
open PySem PySem.Spec PyProof.Rows

/-- the module's facts, over the base: the heap at the law's entry without what is tracked there -/
structure Mod (K : PySem.W.Frag) (mg : Str → Option Value) (base : Heap) : Prop where
  kin : K.In base
  glob : base.Ns mainGlobals mg
  blt : ∃ mb, base.Ns builtinsNs mb ∧ ∀ x : Str, x ≠ "__name__" → mb x = bootBuiltins x
  nolimit : base.NoLimit

/-- the context: a def's body (or a comprehension's block) running. base: fixed through the whole law; s₀, H₀: the entry; outer: the frames whose slots others may change (a def's callers); stack: all frames that run;
   ex: iterators that were made ahead of the entry and are walked here (a comprehension's); fn: the names whose cells were made at the entry (a def: all; a comprehension's block: its own); calm: not within an except suite; pn: pins that every state bears; xe: what is wanted of an exception that leaves the code -/
structure Cx where
  prog : Program
  w : World
  K : PySem.W.Frag
  mg : Str → Option Value
  base : Heap
  A : Around
  N : List Str
  s₀ : Shared
  H₀ : Hp
  env : Env
  outer : List Env
  stack : List Env
  ex : List Addr
  fn : Str → Bool
  calm : Bool
  pn : List (Addr × Obj)
  xe : Value → Shared → Prop
/-- the callers' frames -/
def frs (l : List Env) : List Addr := l.filterMap (·.frame)
abbrev Cx.fs (X : Cx) : List Addr := frs X.outer

def Vis (sc : Scope) (x : Str) : Prop := sc.names.lookup x = some .local ∨ sc.names.lookup x = some .cell ∨ sc.names.lookup x = some .free
def Loc (sc : Scope) (x : Str) : Prop := sc.names.lookup x = some .local ∨ sc.names.lookup x = some .cell
def Look (env : Env) (h : Heap) (m : Str → Option Value) (x : Str) (u : Value) : Prop :=
  (env.kindOf x = some .local ∧ m x = some u) ∨ ((env.kindOf x = some .cell ∨ env.kindOf x = some .free) ∧ ∃ c, env.cells.lookup x = some c ∧ h.IsCell c (some u))

structure Cx.Ok (X : Cx) : Prop where
  mod : Mod X.K X.mg X.base
  kind : X.env.scope.kind = .function
  glob : X.env.globals = mainGlobals
  blt : X.env.builtins = builtinsNs
  above : X.s₀.heap.objs.size ≤ X.env.locals
  inj : ∀ x y c, X.env.cells.lookup x = some c → X.env.cells.lookup y = some c → x = y
  has : ∀ x, (X.env.kindOf x = some .cell ∨ X.env.kindOf x = some .free) → ∃ c, X.env.cells.lookup x = some c
  cab : ∀ x c, X.fn x = true → X.env.cells.lookup x = some c → X.s₀.heap.objs.size ≤ c
  hd : X.calm = true → X.A.handled = none
  frames : X.A.frames = some X.stack
  stk : X.stack = X.outer ∨ (X.stack = X.env :: X.outer ∧ X.env.frame = some X.env.locals)
  exf : ∀ b ∈ X.ex, b ≠ X.env.locals ∧ ∀ x c, X.env.cells.lookup x = some c → c ≠ b
  bs : ∀ b o, X.base.get? b = some o → X.s₀.heap.get? b = some o ∧ X.H₀ b = none
  bsz : X.base.objs.size ≤ X.s₀.heap.objs.size
  noex : ∀ b o, X.base.get? b = some o → b ∉ X.ex
  exfs : ∀ b ∈ X.ex, b ∉ X.fs
  funs : X.s₀.heap.FunFrames X.base X.outer
  frf : ∀ b ∈ X.fs, X.H₀ b = none

structure Inv (X : Cx) (pins : List (Addr × Obj)) (σ : List (Option V)) (H : Hp) (s : Shared) : Prop where
  ok : X.Ok
  os : s.os = X.s₀.os
  bare : AllBare s.gens
  base : Un X.fs X.ex X.H₀ H X.s₀.heap s.heap
  loc : ∃ m, s.heap.Ns X.env.locals m ∧ ∀ (i : Nat) (x : Str) (v : V), X.N[i]? = some x → σ[i]? = some (some v) → Vis X.env.scope x → ∃ u, RelV v u ∧ Look X.env s.heap m x u
  cell : ∀ x c, X.env.cells.lookup x = some c → ∃ v, s.heap.IsCell c v
  free : H X.env.locals = none
  freeC : ∀ x c, X.env.cells.lookup x = some c → H c = none
  pin : ∀ p ∈ X.pn ++ pins, s.heap.get? p.1 = some p.2 ∧ H p.1 = none ∧ p.1 ≠ X.env.locals ∧ p.1 ∉ X.fs ∧ ∀ v, p.2.data ≠ .cell v
  hok : HOk X.prog X.w H s.heap
  len : σ.length = X.N.length

section
variable {X : Cx} {pins : List (Addr × Obj)} {σ : List (Option V)} {H H' : Hp} {s : Shared} {h' : Heap}

theorem Cx.Ok.nofr (ok : X.Ok) {b : Addr} {o : Obj} (e : X.base.get? b = some o) : b ∉ X.fs := fun hb => by
  have := (ok.funs.mem hb).1
  rw [e] at this; cases this
theorem Inv.bs (I : Inv X pins σ H s) : ∀ b o, X.base.get? b = some o → s.heap.get? b = some o ∧ H b = none := fun b o e =>
  ⟨I.base.keep b o (I.ok.bs b o e).1 (I.ok.bs b o e).2 (I.ok.nofr e) (I.ok.noex b o e), I.base.free b o (I.ok.bs b o e).1 (I.ok.bs b o e).2 (I.ok.noex b o e)⟩
theorem Inv.bk (I : Inv X pins σ H s) : ∀ b o, X.base.get? b = some o → s.heap.get? b = some o := fun b o e => (I.bs b o e).1
theorem Inv.mod (I : Inv X pins σ H s) : Mod X.K X.mg X.base := I.ok.mod
theorem Inv.kIn (I : Inv X pins σ H s) : X.K.In s.heap := I.ok.mod.kin.keeps I.bk
theorem Inv.nolimit (I : Inv X pins σ H s) : s.heap.NoLimit := I.ok.mod.nolimit.keeps I.bk
/-- the frame over the base: for OpenK's rules (K.In X.base is I.mod.kin) -/
theorem Inv.fr (I : Inv X pins σ H s) : ∃ m, Fr X.base X.env.locals s.heap m :=
  let ⟨m, hn, _⟩ := I.loc
  ⟨m, hn, I.bk, Nat.le_trans I.ok.bsz I.ok.above⟩
theorem Inv.lt (I : Inv X pins σ H s) : X.env.locals < s.heap.objs.size := let ⟨_, hn, _⟩ := I.loc; hn.lt
theorem Inv.sz (I : Inv X pins σ H s) : X.s₀.heap.objs.size ≤ s.heap.objs.size := Nat.le_trans I.ok.above (Nat.le_of_lt I.lt)
theorem Inv.nofs (I : Inv X pins σ H s) {a : Addr} (h : s.heap.objs.size ≤ a) : a ∉ X.fs := fun hb => by
  obtain ⟨_, o, ho, _⟩ := I.ok.funs.mem hb
  exact absurd (Nat.lt_of_lt_of_le (Heap.lt_size ho) (Nat.le_trans I.sz h)) (Nat.lt_irrefl _)
theorem Inv.cne (I : Inv X pins σ H s) : ∀ x c, X.env.cells.lookup x = some c → c ≠ X.env.locals := fun x c e z => by
  obtain ⟨v, o, ho, hd⟩ := I.cell x c e
  obtain ⟨m, ⟨o', es, ep, ho', hd', _⟩, _⟩ := I.loc
  rw [z, ho'] at ho; cases ho; rw [hd'] at hd; cases hd
theorem Inv.funs (I : Inv X pins σ H s) : s.heap.FunFrames X.base X.outer := by
  have all : ∀ (l : List Env), (∀ b ∈ frs l, b ∈ X.fs) → X.s₀.heap.FunFrames X.base l → s.heap.FunFrames X.base l := by
    intro l
    induction l with
    | nil => intro _ _; trivial
    | cons env r ih =>
      intro hs hl
      obtain ⟨hk, ⟨L, o, hf, hn, ho, hd⟩, hr⟩ := hl
      have hL : L ∈ X.fs := hs L (by unfold frs; rw [List.filterMap_cons, hf]; exact List.mem_cons_self)
      obtain ⟨sl, e⟩ := I.base.slot L o ho (I.ok.frf L hL) hL fun z => I.ok.exfs L z hL
      exact ⟨hk, ⟨L, _, hf, hn, e, hd⟩, ih (fun b hb => hs b (by unfold frs; rw [List.filterMap_cons, hf]; exact List.mem_cons_of_mem _ hb)) hr⟩
  exact all X.outer (fun _ hb => hb) I.ok.funs

/-- the frames that run, for a call -/
theorem Inv.stack (I : Inv X pins σ H s) : s.heap.FunFrames X.base X.stack := by
  rcases I.ok.stk with e | ⟨e, hf⟩
  · rw [e]; exact I.funs
  · rw [e]
    obtain ⟨m, hn, _⟩ := I.loc
    refine .cons (by rw [I.ok.kind]; decide) hf hn ?_ I.funs
    exact Heap.get?_none_of_le (Nat.le_trans I.ok.bsz I.ok.above)
theorem Inv.stkSub (I : Inv X pins σ H s) : ∀ b ∈ frs X.stack, b ∈ X.env.locals :: X.fs := fun b hb => by
  rcases I.ok.stk with e | ⟨e, hf⟩
  · rw [e] at hb; exact List.mem_cons_of_mem _ hb
  · rw [e] at hb
    unfold frs at hb
    rw [List.filterMap_cons, hf] at hb
    exact hb
theorem Inv.stkFree (I : Inv X pins σ H s) : ∀ b ∈ frs X.stack, H b = none := fun b hb => by
  rcases List.mem_cons.mp (I.stkSub b hb) with e | hb
  · rw [e]; exact I.free
  · obtain ⟨_, o, ho, _⟩ := I.ok.funs.mem hb
    exact I.base.free b o ho (I.ok.frf b hb) fun z => I.ok.exfs b z hb

/-- THE STEP: the untracked objects but the frame and the records at ch are kept (the callers' frames up to slots), the frame's map is kept, the new abstract heap is held -/
theorem Inv.step {g' : Array GenState} {t' : Nat} {d' : Drawn} {ch : List Addr} (I : Inv X pins σ H s)
    (hch : ∀ b ∈ ch, (b ∈ X.ex ∨ X.s₀.heap.objs.size ≤ b) ∧ b ≠ X.env.locals ∧ (∀ x c, X.env.cells.lookup x = some c → c ≠ b) ∧ ∀ p ∈ X.pn ++ pins, p.1 ≠ b)
    (keep : ∀ b o, b ≠ X.env.locals → b ∉ X.fs → b ∉ ch → s.heap.get? b = some o → H b = none → h'.get? b = some o)
    (slot : ∀ b o, b ≠ X.env.locals → b ∈ X.fs → b ∉ ch → s.heap.get? b = some o → H b = none → ∃ sl, h'.get? b = some { o with slots := sl }) (free : ∀ b o, b ∉ ch → s.heap.get? b = some o → H b = none → H' b = none)
    (there : ∀ b o, b ∉ ch → s.heap.get? b = some o → ∃ o', h'.get? b = some o')
    (tups : ∀ b xs, H b = some (.tup xs) → H' b = some (.tup xs)) (frzs : ∀ b o u, H b = some (.frz o u) → H' b = some (.frz o u)) (tbls : ∀ b ps, H b = some (.tbl ps) → ∃ more, H' b = some (.tbl (ps ++ more)))
    (ns : ∀ m, s.heap.Ns X.env.locals m → h'.Ns X.env.locals m) (hok : HOk X.prog X.w H' h') (hg : AllBare g') :
    Inv X pins σ H' { s with heap := h', gens := g', drawn := d', toks := t' } := by
  have neL : ∀ b o, X.s₀.heap.get? b = some o → b ≠ X.env.locals := fun b o e => Nat.ne_of_lt (Nat.lt_of_lt_of_le (Heap.lt_size e) I.ok.above)
  have neC : ∀ b o, X.s₀.heap.get? b = some o → b ∉ X.ex → b ∉ ch := fun b o e hx hb => by
    rcases (hch b hb).1 with z | z
    · exact hx z
    · exact absurd (Nat.lt_of_lt_of_le (Heap.lt_size e) z) (Nat.lt_irrefl _)
  have cellK : ∀ x c, X.env.cells.lookup x = some c → ∀ v, s.heap.IsCell c v → h'.IsCell c v := fun x c e v ⟨o, ho, hd⟩ => by
    have nch : c ∉ ch := fun z => (hch c z).2.2.1 x c e rfl
    by_cases hc : c ∈ X.fs
    · obtain ⟨sl, q⟩ := slot c o (I.cne x c e) hc nch ho (I.freeC x c e)
      exact ⟨_, q, hd⟩
    · exact ⟨o, keep c o (I.cne x c e) hc nch ho (I.freeC x c e), hd⟩
  refine ⟨I.ok, I.os, hg, ⟨fun b o e n hb hx => ?_, fun b o e n hb hx => ?_, fun b o e n hx => ?_, fun b o e hx => ?_, fun b xs e => tups b xs (I.base.tups b xs e), fun b o xs e => frzs b o xs (I.base.frzs b o xs e), fun b ps e => ?_⟩, ?_, fun x c e => ?_, ?_, fun x c e => ?_, fun p hp => ?_, hok, I.len⟩
  · exact keep b o (neL b o e) hb (neC b o e hx) (I.base.keep b o e n hb hx) (I.base.free b o e n hx)
  · obtain ⟨sl, e1⟩ := I.base.slot b o e n hb hx
    obtain ⟨sl', e2⟩ := slot b _ (neL b o e) hb (neC b o e hx) e1 (I.base.free b o e n hx)
    exact ⟨sl', e2⟩
  · obtain ⟨o', e1⟩ := I.base.there b o e hx
    exact free b o' (neC b o e hx) e1 (I.base.free b o e n hx)
  · obtain ⟨o', e1⟩ := I.base.there b o e hx
    exact there b o' (neC b o e hx) e1
  · obtain ⟨m1, e1⟩ := I.base.tbls b ps e
    obtain ⟨m2, e2⟩ := tbls b _ e1
    exact ⟨m1 ++ m2, by rw [e2, Array.append_assoc]⟩
  · obtain ⟨m, hn, hl⟩ := I.loc
    refine ⟨m, ns m hn, fun i x v e1 e2 e3 => ?_⟩
    obtain ⟨u, r, l⟩ := hl i x v e1 e2 e3
    refine ⟨u, r, ?_⟩
    rcases l with l | ⟨k, c, e, z⟩
    · exact .inl l
    · exact .inr ⟨k, c, e, cellK x c e _ z⟩
  · obtain ⟨v, z⟩ := I.cell x c e
    exact ⟨v, cellK x c e v z⟩
  · obtain ⟨m, ⟨o, _, _, ho, _⟩, _⟩ := I.loc
    exact free _ o (fun z => (hch _ z).2.1 rfl) ho I.free
  · obtain ⟨v, o, ho, hd⟩ := I.cell x c e
    exact free c o (fun z => (hch c z).2.2.1 x c e rfl) ho (I.freeC x c e)
  · obtain ⟨e, n, ne, nf, d⟩ := I.pin p hp
    have nch : p.1 ∉ ch := fun z => (hch p.1 z).2.2.2 p hp rfl
    exact ⟨keep p.1 p.2 ne nf nch e n, free p.1 p.2 nch e n, ne, nf, d⟩
/-- .. where the frame's own object is kept too -/
theorem Inv.un {t' : Nat} (I : Inv X pins σ H s) (u : Un X.fs [] H H' s.heap h') (hok : HOk X.prog X.w H' h') : Inv X pins σ H' { s with heap := h', toks := t' } := by
  obtain ⟨m, ⟨o, es, ep, ho, r⟩, _⟩ := id I.loc
  obtain ⟨sl, hL⟩ := u.any ho I.free (by simp)
  exact I.step (g' := s.gens) (d' := s.drawn) (ch := []) (fun _ z => nomatch z) (fun b o _ hb _ e n => u.keep b o e n hb (by simp)) (fun b o _ hb _ e n => u.slot b o e n hb (by simp)) (fun b o _ e n => u.free b o e n (by simp)) (fun b o _ e => u.there b o e (by simp)) u.tups u.frzs u.tbls (fun m' hm => by
    obtain ⟨o', es', ep', ho', r'⟩ := hm
    rw [ho] at ho'; cases ho'
    exact ⟨_, es', ep', hL, r'⟩) hok I.bare
/-- behind a call (or a comprehension's block): the slots of this frame may have changed too, the records at ch may have turned -/
theorem Inv.call {g' : Array GenState} {t' : Nat} {d' : Drawn} {ch : List Addr} (I : Inv X pins σ H s) (u : Un (frs X.stack) ch H H' s.heap h') (hok : HOk X.prog X.w H' h') (hg : AllBare g')
    (hch : ∀ b ∈ ch, (b ∈ X.ex ∨ X.s₀.heap.objs.size ≤ b) ∧ b ≠ X.env.locals ∧ (∀ x c, X.env.cells.lookup x = some c → c ≠ b) ∧ ∀ p ∈ X.pn ++ pins, p.1 ≠ b) :
    Inv X pins σ H' { s with heap := h', gens := g', drawn := d', toks := t' } := by
  obtain ⟨m, ⟨o, es, ep, ho, r⟩, _⟩ := id I.loc
  obtain ⟨sl, hL⟩ := u.any ho I.free fun z => (hch _ z).2.1 rfl
  exact I.step (ch := ch) hch (fun b o hL hb hc e n => u.keep b o e n (fun z => (List.mem_cons.mp (I.stkSub b z)).elim hL hb) hc) (fun b o _ _ hc e n => u.any e n hc) (fun b o hc e n => u.free b o e n hc) (fun b o hc e => u.there b o e hc) u.tups u.frzs u.tbls (fun m' hm => by
    obtain ⟨o', es', ep', ho', r'⟩ := hm
    rw [ho] at ho'; cases ho'
    exact ⟨_, es', ep', hL, r'⟩) hok hg
/-- an untracked record of ours (an iterator) has turned -/
theorem Inv.turned {t' : Nat} {it : Addr} (I : Inv X pins σ H s) (k : ∀ b o, b ≠ it → s.heap.get? b = some o → h'.get? b = some o) (hn : H it = none) (hL : it ≠ X.env.locals)
    (h1 : it ∈ X.ex ∨ X.s₀.heap.objs.size ≤ it) (h2 : ∀ x c, X.env.cells.lookup x = some c → c ≠ it) (h3 : ∀ p ∈ X.pn ++ pins, p.1 ≠ it) : Inv X pins σ H { s with heap := h', toks := t' } := by
  have nit : ∀ b u, H b = some u → b ≠ it := fun b u e z => by rw [z, hn] at e; cases e
  refine I.step (g' := s.gens) (d' := s.drawn) (ch := [it]) (fun b hb => ?_) (fun b o _ _ hc e _ => k b o (fun z => hc (by simp [z])) e) (fun b o _ _ hc e _ => ⟨o.slots, k b o (fun z => hc (by simp [z])) e⟩) (fun _ _ _ _ n => n)
    (fun b o hc e => ⟨o, k b o (fun z => hc (by simp [z])) e⟩) (fun _ _ e => e) (fun _ _ _ e => e) (fun b ps e => ⟨#[], by rw [e]; simp⟩) (fun m hm => ?_) (fun b u e => ?_) I.bare
  · have e : b = it := by simpa using hb
    subst e
    exact ⟨h1, hL, h2, h3⟩
  · obtain ⟨o, es, ep, ho, r⟩ := hm
    exact ⟨o, es, ep, k _ o (Ne.symm hL) ho, r⟩
  · refine (I.hok b u e).stay (fun c v hc q => k c v ?_ q) (fun _ q => q) fun _ _ q => q
    rcases hc with z | z
    · rw [z]; exact nit b u e
    · exact nit c _ z
theorem Inv.tok (I : Inv X pins σ H s) (t : Nat) : Inv X pins σ H { s with toks := t } := I.un (h' := s.heap) (t' := t) Un.refl I.hok
/-- all objects kept -/
theorem Inv.kept {t' : Nat} (I : Inv X pins σ H s) (k : ∀ b u, s.heap.get? b = some u → h'.get? b = some u) : Inv X pins σ H { s with heap := h', toks := t' } := I.un (Un.kept k) (I.hok.kept k)
/-- a new object laid and tracked -/
theorem Inv.laid {a : Addr} {o : HO} {t' : Nat} (I : Inv X pins σ H s) (k : ∀ b u, s.heap.get? b = some u → h'.get? b = some u) (hp : s.heap.objs.size ≤ a) (new : ObjOk X.prog X.w (upd H a o) h' a o) :
    Inv X pins σ (upd H a o) { s with heap := h', toks := t' } := I.un (Un.laid k hp (I.hok.fresh hp)) (I.hok.laid k hp new)
/-- an object written -/
theorem Inv.write {x e : Addr} {o : HO} {t' : Nat} (I : Inv X pins σ H s) (mu : Mut (H x)) (he : e = x ∨ H e = some (.own x)) (k : ∀ b u, b ≠ e → s.heap.get? b = some u → h'.get? b = some u) (heo : ∃ u, h'.get? e = some u)
    (new : ObjOk X.prog X.w (upd H x o) h' x o) : Inv X pins σ (upd H x o) { s with heap := h', toks := t' } := I.un (Un.write mu he k heo) (I.hok.write mu he k heo new)
theorem Inv.pins_of {pins' : List (Addr × Obj)} (I : Inv X pins σ H s) (h : ∀ p ∈ pins', s.heap.get? p.1 = some p.2 ∧ H p.1 = none ∧ p.1 ≠ X.env.locals ∧ p.1 ∉ X.fs ∧ ∀ v, p.2.data ≠ .cell v) : Inv X pins' σ H s :=
  ⟨I.ok, I.os, I.bare, I.base, I.loc, I.cell, I.free, I.freeC, fun p hp => (List.mem_append.mp hp).elim (fun z => I.pin p (List.mem_append_left _ z)) (h p), I.hok, I.len⟩

theorem nodup_ix {N : List Str} (hN : N.Nodup) {i j : Nat} {x : Str} (a : N[i]? = some x) (b : N[j]? = some x) : i = j := by
  obtain ⟨h1, e1⟩ := List.getElem?_eq_some_iff.mp a
  obtain ⟨h2, e2⟩ := List.getElem?_eq_some_iff.mp b
  exact (List.getElem_inj hN).mp (e1.trans e2.symm)

/-- a name is stored; what changed -/
theorem store_ok2 {M : Model} {A : Around} {E : Value → Shared → Prop} {i : Nat} {x : Str} {v : V} {u : Value} {Q : Unit → Shared → Prop} (I : Inv X pins σ H s) (hN : X.N.Nodup) (hi : X.N[i]? = some x) (hx : Loc X.env.scope x) (r : RelV v u)
    (h : ∀ s', Inv X pins (σ.set i (some v)) H s' → (∃ a, Heap.SameBut a s.heap s'.heap ∧ (a = X.env.locals ∨ X.env.cells.lookup x = some a)) → Q () s') (hf : X.fn x = true ∨ X.env.scope.names.lookup x = some .local := by first | exact .inl rfl | exact .inr rfl | assumption) : wpAny M A (storeName X.env x u) Q E s := by
  obtain ⟨m, hn, hl⟩ := id I.loc
  have hcls : (X.env.scope.kind == .class || (X.env.scope.kind == .module && X.env.locals != X.env.globals)) = false := by rw [I.ok.kind]; rfl
  have hiσ : i < σ.length := by rw [I.len]; exact (List.getElem?_eq_some_iff.mp hi).1
  have cne := I.cne
  have tracked : ∀ {a : Addr} {h' : Heap}, (∃ o, s.heap.get? a = some o ∧ H a = none) → Heap.SameBut a s.heap h' → HOk X.prog X.w H h' := fun {a h'} ha hs b ob e => by
    obtain ⟨_, _, hfree⟩ := ha
    refine (I.hok b ob e).stay (fun c w' hc q => (hs.2 c ?_).trans q) (fun _ q => q) fun _ _ q => q
    rintro rfl
    rcases hc with rfl | hc
    · rw [hfree] at e; cases e
    · rw [hfree] at hc; cases hc
  rcases hx with hk | hk
  · refine wpAny_storeName_local hk hn (fun h' hn' hs => ?_) hcls
    obtain ⟨oL, _, _, hoL, _⟩ := id hn
    refine h _ ⟨I.ok, I.os, I.bare, ⟨fun b o e n hb hx => ?_, fun b o e n hb hx => ?_, I.base.free, fun b o e hx => ?_, I.base.tups, I.base.frzs, I.base.tbls⟩, ⟨_, hn', fun j y v' e1 e2 e3 => ?_⟩, fun y c e => ?_, I.free, I.freeC, fun p hp => ?_, tracked ⟨oL, hoL, I.free⟩ hs, by simpa using I.len⟩ ⟨_, hs, .inl rfl⟩
    · exact (hs.2 b (Nat.ne_of_lt (Nat.lt_of_lt_of_le (Heap.lt_size e) I.ok.above))).trans (I.base.keep b o e n hb hx)
    · obtain ⟨sl, e1⟩ := I.base.slot b o e n hb hx
      exact ⟨sl, (hs.2 b (Nat.ne_of_lt (Nat.lt_of_lt_of_le (Heap.lt_size e) I.ok.above))).trans e1⟩
    · obtain ⟨o', e1⟩ := I.base.there b o e hx
      exact ⟨o', (hs.2 b (Nat.ne_of_lt (Nat.lt_of_lt_of_le (Heap.lt_size e) I.ok.above))).trans e1⟩
    · by_cases hj : j = i
      · subst hj
        rw [hi] at e1; cases e1
        rw [List.getElem?_set_self hiσ] at e2
        cases e2
        exact ⟨u, r, .inl ⟨hk, by simp⟩⟩
      · rw [List.getElem?_set_ne (Ne.symm hj)] at e2
        obtain ⟨u', r', q⟩ := hl j y v' e1 e2 e3
        refine ⟨u', r', ?_⟩
        rcases q with ⟨k, e⟩ | ⟨k, c, e, z⟩
        · refine .inl ⟨k, ?_⟩
          have : y ≠ x := fun e => hj (nodup_ix hN e1 (e ▸ hi))
          simp [this, e]
        · exact .inr ⟨k, c, e, z.sameBut hs (cne y c e)⟩
    · obtain ⟨w', z⟩ := I.cell y c e
      exact ⟨w', z.sameBut hs (cne y c e)⟩
    · obtain ⟨e, n, ne, nf, d⟩ := I.pin p hp
      exact ⟨(hs.2 p.1 ne).trans e, n, ne, nf, d⟩
  · have hfn : X.fn x = true := by
      rcases hf with z | z
      · exact z
      · rw [z] at hk; cases hk
    obtain ⟨c, hc⟩ := I.ok.has x (.inl hk)
    obtain ⟨w', z⟩ := I.cell x c hc
    refine wpAny_storeName_cell I.ok.kind hk hc z (fun h' hc' hs => ?_)
    obtain ⟨oc, hoc, hocd⟩ := id z
    refine h { s with heap := h' } ⟨I.ok, I.os, I.bare, ⟨fun b o e n hb hx => ?_, fun b o e n hb hx => ?_, I.base.free, fun b o e hx => ?_, I.base.tups, I.base.frzs, I.base.tbls⟩, ⟨m, hn.sameBut hs (Ne.symm (cne x c hc)), fun j y v' e1 e2 e3 => ?_⟩, fun y c' e => ?_, I.free, I.freeC, fun p hp => ?_, tracked ⟨oc, hoc, I.freeC x c hc⟩ hs, by simpa using I.len⟩ ⟨c, hs, .inr hc⟩
    · exact (hs.2 b (Nat.ne_of_lt (Nat.lt_of_lt_of_le (Heap.lt_size e) (I.ok.cab x c hfn hc)))).trans (I.base.keep b o e n hb hx)
    · obtain ⟨sl, e1⟩ := I.base.slot b o e n hb hx
      exact ⟨sl, (hs.2 b (Nat.ne_of_lt (Nat.lt_of_lt_of_le (Heap.lt_size e) (I.ok.cab x c hfn hc)))).trans e1⟩
    · obtain ⟨o', e1⟩ := I.base.there b o e hx
      exact ⟨o', (hs.2 b (Nat.ne_of_lt (Nat.lt_of_lt_of_le (Heap.lt_size e) (I.ok.cab x c hfn hc)))).trans e1⟩
    · by_cases hj : j = i
      · subst hj
        rw [hi] at e1; cases e1
        rw [List.getElem?_set_self hiσ] at e2
        cases e2
        exact ⟨u, r, .inr ⟨.inl hk, c, hc, hc'⟩⟩
      · rw [List.getElem?_set_ne (Ne.symm hj)] at e2
        obtain ⟨u', r', q⟩ := hl j y v' e1 e2 e3
        refine ⟨u', r', ?_⟩
        rcases q with q | ⟨k, c', e, z'⟩
        · exact .inl q
        · refine .inr ⟨k, c', e, z'.sameBut hs ?_⟩
          rintro rfl
          exact hj (nodup_ix hN e1 (I.ok.inj _ _ _ e hc ▸ hi))
    · by_cases hcc : c' = c
      · subst hcc; exact ⟨_, hc'⟩
      · obtain ⟨w2, z2⟩ := I.cell y c' e
        exact ⟨w2, z2.sameBut hs hcc⟩
    · obtain ⟨e, n, ne, nf, d⟩ := I.pin p hp
      refine ⟨(hs.2 p.1 ?_).trans e, n, ne, nf, d⟩
      intro q
      rw [q, hoc] at e
      have q' : oc = p.2 := Option.some.inj e
      exact d w' (by rw [← q']; exact hocd)
theorem store_ok {M : Model} {A : Around} {E : Value → Shared → Prop} {i : Nat} {x : Str} {v : V} {u : Value} {Q : Unit → Shared → Prop} (I : Inv X pins σ H s) (hN : X.N.Nodup) (hi : X.N[i]? = some x) (hx : Loc X.env.scope x) (r : RelV v u)
    (h : ∀ s', Inv X pins (σ.set i (some v)) H s' → Q () s') (hf : X.fn x = true ∨ X.env.scope.names.lookup x = some .local := by first | exact .inl rfl | exact .inr rfl | assumption) : wpAny M A (storeName X.env x u) Q E s :=
  store_ok2 I hN hi hx r (fun s' I' _ => h s' I') hf
/-- behind a call or a block, the state as it is -/
theorem Inv.call' {s' : Shared} {ch : List Addr} (I : Inv X pins σ H s) (ho : s'.os = s.os) (u : Un (frs X.stack) ch H H' s.heap s'.heap) (hok : HOk X.prog X.w H' s'.heap) (hg : AllBare s'.gens)
    (hch : ∀ b ∈ ch, (b ∈ X.ex ∨ X.s₀.heap.objs.size ≤ b) ∧ b ≠ X.env.locals ∧ (∀ x c, X.env.cells.lookup x = some c → c ≠ b) ∧ ∀ p ∈ X.pn ++ pins, p.1 ≠ b) : Inv X pins σ H' s' := by
  obtain ⟨h', g', d', t', o'⟩ := s'
  have e : o' = s.os := ho
  subst e
  exact I.call (g' := g') (t' := t') (d' := d') u hok hg hch
end

/-! ### the judgements -/
/-- an exception: its class, its own dict's address (where it has one), the abstract heap behind it -/
abbrev XK := Value → Option Addr → Hp → Prop
abbrev St := List (Option V)
abbrev VK := V → Hp → Prop
/-- an expression's reading; a test's; an argument list's -/
abbrev TE := St → Hp → VK → Prop
abbrev TT := St → Hp → (Bool → Hp → Prop) → Prop
abbrev TA := St → Hp → (List V → Hp → Prop) → Prop
/-- what is wanted behind a statement -/
structure Ends where
  nx : St → Hp → Prop
  rt : VK
  bk : St → Hp → Prop := fun _ _ => False
  ct : St → Hp → Prop := fun _ _ => False
abbrev TS := Ends → St → Hp → Prop

def EP (X : Cx) (pins : List (Addr × Obj)) (σ : St) (Q : VK) (u : Value) (s' : Shared) : Prop := ∃ v H', Inv X pins σ H' s' ∧ RelV v u ∧ Q v H'
def TP (X : Cx) (pins : List (Addr × Obj)) (σ : St) (Q : Bool → Hp → Prop) (b : Bool) (s' : Shared) : Prop := ∃ H', Inv X pins σ H' s' ∧ Q b H'
def AP (X : Cx) (pins : List (Addr × Obj)) (σ : St) (Q : List V → Hp → Prop) (us : List Value) (s' : Shared) : Prop := ∃ vs H', Inv X pins σ H' s' ∧ Vals vs us ∧ Q vs H'
def SP (X : Cx) (pins : List (Addr × Obj)) (D : Ends) (f : Flow) (s' : Shared) : Prop :=
  match f with
  | .next => ∃ σ' H', Inv X pins σ' H' s' ∧ D.nx σ' H'
  | .brk => ∃ σ' H', Inv X pins σ' H' s' ∧ D.bk σ' H'
  | .cont => ∃ σ' H', Inv X pins σ' H' s' ∧ D.ct σ' H'
  | .ret u => ∃ v σ' H', Inv X pins σ' H' s' ∧ RelV v u ∧ D.rt v H'

def PE (X : Cx) (e : Expr) (t : TE) : Prop :=
  ∀ (pins : List (Addr × Obj)) (s : Shared) (σ : St) (H : Hp) (Q : VK), Inv X pins σ H s → t σ H Q → wpAny (model X.prog X.w) X.A (eval e X.env) (EP X pins σ Q) X.xe s
def PT (X : Cx) (e : Expr) (t : TT) : Prop :=
  ∀ (pins : List (Addr × Obj)) (s : Shared) (σ : St) (H : Hp) (Q : Bool → Hp → Prop), Inv X pins σ H s → t σ H Q → wpAny (model X.prog X.w) X.A (isTrue e X.env (eval e X.env)) (TP X pins σ Q) X.xe s
/-- a test whatever its 'whole' is (and, or) -/
def PW (X : Cx) (e : Expr) (t : TT) : Prop :=
  ∀ (whole : Sem Value) (pins : List (Addr × Obj)) (s : Shared) (σ : St) (H : Hp) (Q : Bool → Hp → Prop), Inv X pins σ H s → t σ H Q → wpAny (model X.prog X.w) X.A (isTrue e X.env whole) (TP X pins σ Q) X.xe s
theorem PW.pt {X : Cx} {e : Expr} {t : TT} (h : PW X e t) : PT X e t := h _
/-- an argument list (no star), from the left -/
def PA (X : Cx) (es : List Expr) (t : TA) : Prop :=
  ∀ (pos : Pos) (pins : List (Addr × Obj)) (s : Shared) (σ : St) (H : Hp) (Q : List V → Hp → Prop), Inv X pins σ H s → t σ H Q → wpAny (model X.prog X.w) X.A (spliced (backTo pos (starEach es X.env))) (AP X pins σ Q) X.xe s
def PS (X : Cx) (st : Stmt) (t : TS) : Prop :=
  ∀ (pins : List (Addr × Obj)) (s : Shared) (σ : St) (H : Hp) (D : Ends), Inv X pins σ H s → t D σ H → wpAny (model X.prog X.w) X.A (exec st X.env) (SP X pins D) X.xe s
def PSs (X : Cx) (st : List Stmt) (t : TS) : Prop :=
  ∀ (pins : List (Addr × Obj)) (s : Shared) (σ : St) (H : Hp) (D : Ends), Inv X pins σ H s → t D σ H → wpAny (model X.prog X.w) X.A (execs st X.env) (SP X pins D) X.xe s
/-- weaken the end -/
theorem thn {α : Type} {t : Sem α} {Q Q' : α → Shared → Prop} {M : Model} {A : Around} {E : Value → Shared → Prop} {s : Shared} (h : wpAny M A t Q E s) (hQ : ∀ a s, Q a s → Q' a s) : wpAny M A t Q' E s := wpAny_mono h hQ fun _ _ x => x
end L2

namespace L2
open PySem PySem.Spec PyProof.Rows
section
variable {X : Cx}

/-! ### names and constants -/
def tVar (i : Nat) : TE := fun σ H Q => ∃ v, σ[i]? = some (some v) ∧ Q v H
def tC (v : V) : TE := fun _ H Q => Q v H
theorem pe_var {i : Nat} {x : Str} {pos : Pos} (hN : X.N[i]? = some x) (hv : Vis X.env.scope x) (hd : (x == ("__debug__" : Str)) = false := by decide) (hcd : (x == ("__classdict__" : Str)) = false := by decide) : PE X (.Name x pos) (tVar i) := by
  intro pins s σ H Q I h
  obtain ⟨v, e, h⟩ := h
  obtain ⟨m, hn, hl⟩ := I.loc
  obtain ⟨u, r, l⟩ := hl i x v hN e hv
  have fin : EP X pins σ Q u s := ⟨v, H, I, r, h⟩
  rcases l with ⟨hk, hm⟩ | ⟨hk, c, hc, hcell⟩
  · exact wpAny_Name (wpAny_loadName_local I.ok.kind hk hn hm fin) hd
  · rcases hk with hk | hk
    · exact wpAny_Name (wpAny_loadName_cell I.ok.kind hk hc hcell fin) hd
    · exact wpAny_Name (wpAny_loadName_free I.ok.kind hk hc hcell fin hcd) hd
theorem pe_int {i j pos} : PE X (.Constant (.int i) j pos) (tC (.int i)) := fun _ _ _ H _ I h => wpAny_Constant_int ⟨.int i, H, I.tok _, ⟨_, rfl⟩, h⟩
theorem pe_bl {b j pos} : PE X (.Constant (.bool b) j pos) (tC (.bl b)) := fun _ _ _ H _ I h => Constant_bool ⟨.bl b, H, I, rfl, h⟩
theorem pe_non {j pos} : PE X (.Constant .none j pos) (tC .non) := fun _ _ _ H _ I h => Constant_none ⟨.non, H, I, rfl, h⟩
theorem pe_str {x j pos} : PE X (.Constant (.str x) j pos) (tC (.str x)) := fun _ _ _ H _ I h => Calls.Constant_str ⟨.str x, H, I.tok _, ⟨_, rfl⟩, h⟩

/-- a global name of the def -/
def Gl (X : Cx) (x : Str) : Prop := X.env.kindOf x = some .globalImplicit
theorem ld_glob {E : Value → Shared → Prop} {pins : List (Addr × Obj)} {s : Shared} {σ : St} {H : Hp} {x : Str} {u : Value} {pos : Pos} {Q : Value → Shared → Prop} (I : Inv X pins σ H s) (hg : Gl X x) (hm : X.mg x = some u) (h : Q u s)
    (hd : (x == ("__debug__" : Str)) = false := by decide) : wpAny (model X.prog X.w) X.A (eval (.Name x pos) X.env) Q E s :=
  Calls.Name_function_global I.ok.kind hg (Calls.loadGlobal_global (by rw [I.ok.glob]; exact I.mod.glob.keeps I.bk) hm h) hd
theorem ld_blt {E : Value → Shared → Prop} {pins : List (Addr × Obj)} {s : Shared} {σ : St} {H : Hp} {x : Str} {u : Value} {pos : Pos} {Q : Value → Shared → Prop} (I : Inv X pins σ H s) (hg : Gl X x) (hm : X.mg x = none) (hv : bootBuiltins x = some u) (h : Q u s)
    (hn : x ≠ "__name__" := by decide) (hd : (x == ("__debug__" : Str)) = false := by decide) : wpAny (model X.prog X.w) X.A (eval (.Name x pos) X.env) Q E s := by
  obtain ⟨mb, h1, h2⟩ := I.mod.blt
  exact Calls.Name_function_global I.ok.kind hg (Calls.loadGlobal_builtin (by rw [I.ok.glob]; exact I.mod.glob.keeps I.bk) hm (by rw [I.ok.blt]; exact h1.keeps I.bk) ((h2 x hn).trans hv) h) hd
/-- a module's constant, a class, a function, as a value -/
theorem pe_glob {x : Str} {v : V} {u : Value} {pos : Pos} (hg : Gl X x) (hm : X.mg x = some u) (r : RelV v u) (hd : (x == ("__debug__" : Str)) = false := by decide) : PE X (.Name x pos) (tC v) :=
  fun _ _ _ H _ I h => ld_glob I hg hm ⟨v, H, I, r, h⟩ hd
theorem pe_bltn {x : Str} {v : V} {u : Value} {pos : Pos} (hg : Gl X x) (hm : X.mg x = none) (hv : bootBuiltins x = some u) (r : RelV v u) (hn : x ≠ "__name__" := by decide) (hd : (x == ("__debug__" : Str)) = false := by decide) : PE X (.Name x pos) (tC v) :=
  fun _ _ _ H _ I h => ld_blt I hg hm hv ⟨v, H, I, r, h⟩ hn hd

/-! ### arithmetic -/
variable {a b : Expr} {ta tb : TE} {pos : Pos}
/-! ### comparisons -/
def PC (X : Cx) (op : CmpOp) (a b : Expr) (t : TE) : Prop :=
  ∀ (pins : List (Addr × Obj)) (s : Shared) (σ : St) (H : Hp) (Q : VK), Inv X pins σ H s → t σ H Q →
    wpAny (model X.prog X.w) X.A (eval a X.env) (fun v s₁ => wpAny (model X.prog X.w) X.A (eval b X.env) (fun u s₂ => wpAny (model X.prog X.w) X.A (compareOp op v u) (EP X pins σ Q) X.xe s₂) X.xe s₁) X.xe s
theorem nobehind (b : Expr) {op : CmpOp} (h : op ≠ .In) (h2 : op ≠ .NotIn) : behindInMarks op b = false := by
  have e1 : (op == CmpOp.In) = false := by cases op <;> first | rfl | exact absurd rfl h
  have e2 : (op == CmpOp.NotIn) = false := by cases op <;> first | rfl | exact absurd rfl h2
  cases b <;> simp [behindInMarks, e1, e2]
/-- a comparison as a value, as a test -/
def tB (t : TE) : TT := fun σ H Q => t σ H fun x H1 => ∃ c, x = .bl c ∧ Q c H1
theorem pt_cmp {op : CmpOp} {t : TE} (h : PC X op a b t) (h1 : behindInMarks op b = false := by first | exact nobehind _ (by decide) (by decide) | rfl) : PT X (.Compare a [op] [b] pos) (tB t) := by
  intro pins s σ H Q I hw
  refine wpAny_isTrue_Compare1 (thn (h pins s σ H _ I hw) fun v s1 h1 => thn h1 fun u s2 h2 => thn h2 fun c s3 ⟨x, H1, I1, r1, q1⟩ => ?_) h1
  obtain ⟨d, rfl, q⟩ := q1
  cases r1
  exact wpAny_truthy_bool ⟨H1, I1, q⟩
/-- an expression whose value is a bool, as a test -/
theorem pt_val {e : Expr} {t : TE} (h : PE X e t) (he : ∀ whole, isTrue e X.env whole = (do let v ← whole; standAt e.pos; holding [v] (truthy v)) := by intro _; rfl) : PT X e (tB t) := by
  intro pins s σ H Q I hw
  refine isTrue_plain (thn (h pins s σ H _ I hw) fun v s1 ⟨x, H1, I1, r1, q1⟩ => ?_) (he _)
  obtain ⟨d, rfl, q⟩ := q1
  cases r1
  exact wpAny_truthy_bool ⟨H1, I1, q⟩

/-! ### and, or, not -/
variable {tA tB' : TT} {rest : List Expr}
def tAnd (t u : TT) : TT := fun σ H Q => t σ H fun c H1 => if c = true then u σ H1 Q else Q false H1
def tOr (t u : TT) : TT := fun σ H Q => t σ H fun c H1 => if c = true then Q true H1 else u σ H1 Q
def tNot (t : TT) : TT := fun σ H Q => t σ H fun c H1 => Q (!c) H1
theorem pw_and1 (ha : PT X a tA) : PW X (.BoolOp .And [a] pos) tA := by
  intro wh pins s σ H Q I h
  refine isTrue_and (thn (ha pins s σ H Q I h) fun c s1 e => ?_)
  cases c with
  | true => exact isTrue_and_nil e
  | false => exact e
theorem pw_or1 (ha : PT X a tA) : PW X (.BoolOp .Or [a] pos) tA := by
  intro wh pins s σ H Q I h
  refine isTrue_or (thn (ha pins s σ H Q I h) fun c s1 e => ?_)
  cases c with
  | false => exact isTrue_or_nil e
  | true => exact e
theorem pw_and (ha : PT X a tA) (hb : PW X (.BoolOp .And (b :: rest) pos) tB') : PW X (.BoolOp .And (a :: b :: rest) pos) (tAnd tA tB') := by
  intro wh pins s σ H Q I h
  refine isTrue_and (thn (ha pins s σ H _ I h) fun c s1 ⟨H1, I1, q1⟩ => ?_)
  cases c with
  | true => exact hb wh pins s1 σ H1 Q I1 q1
  | false => exact ⟨H1, I1, q1⟩
theorem pw_or (ha : PT X a tA) (hb : PW X (.BoolOp .Or (b :: rest) pos) tB') : PW X (.BoolOp .Or (a :: b :: rest) pos) (tOr tA tB') := by
  intro wh pins s σ H Q I h
  refine isTrue_or (thn (ha pins s σ H _ I h) fun c s1 ⟨H1, I1, q1⟩ => ?_)
  cases c with
  | true => exact ⟨H1, I1, q1⟩
  | false => exact hb wh pins s1 σ H1 Q I1 q1
theorem pt_not (ha : PT X a tA) : PT X (.UnaryOp .Not a pos) (tNot tA) := by
  intro pins s σ H Q I h
  exact isTrue_not (ha pins s σ H (fun c H1 => Q (!c) H1) I h)
/-- .. as values (bools) -/
def tAndV (ta tb : TE) : TE := fun σ H Q => ta σ H fun x H1 => ∃ c, x = .bl c ∧ if c = true then tb σ H1 Q else Q (.bl false) H1
def tNotV (ta : TE) : TE := fun σ H Q => ta σ H fun x H1 => ∃ c, x = .bl c ∧ Q (.bl (!c)) H1
theorem pe_one {op} {t : TE} (h : PE X a t) : PE X (.BoolOp op [a] pos) t := fun pins s σ H Q I hw => BoolOp_one (h pins s σ H Q I hw)
theorem pe_and (ha : PE X a ta) (hb : PE X (.BoolOp .And (b :: rest) pos) tb) : PE X (.BoolOp .And (a :: b :: rest) pos) (tAndV ta tb) := by
  intro pins s σ H Q I h
  refine BoolOp_and (thn (ha pins s σ H _ I h) fun v s1 ⟨x, H1, I1, r1, q1⟩ => ?_)
  obtain ⟨c, rfl, q1⟩ := q1
  cases r1
  refine wpAny_truthy_bool ?_
  cases c with
  | true => exact hb pins s1 σ H1 Q I1 q1
  | false => exact ⟨.bl false, H1, I1, rfl, q1⟩
theorem pe_not (ha : PE X a ta) : PE X (.UnaryOp .Not a pos) (tNotV ta) := by
  intro pins s σ H Q I h
  refine UnaryOp_ (thn (ha pins s σ H _ I h) fun v s1 ⟨x, H1, I1, r1, q1⟩ => ?_)
  obtain ⟨c, rfl, q1⟩ := q1
  cases r1
  exact not_of (wpAny_truthy_bool ⟨.bl (!c), H1, I1, rfl, q1⟩)
end
end L2

namespace L2
open PySem PySem.Spec PyProof.Rows

/-! ### a list, a tuple that is read: tracked, frozen, or an object of the module -/
def SqL (K : PySem.W.Frag) (H : Hp) (a : Addr) (xs : List V) : Prop :=
  Rd H a (.lst xs) ∨
    ∃ (o : Obj) (its : Array Value) (n : Nat), K.lookup a = some o ∧ o.cls = .type "list" ∧ o.dict = none ∧ o.data = .seq its n ∧ its.size ≤ sizeLine ∧ Vals xs its.toList
def SqT (K : PySem.W.Frag) (H : Hp) (a : Addr) (xs : List V) : Prop :=
  Rd H a (.tup xs) ∨
    ∃ (o : Obj) (its : Array Value) (n : Nat), K.lookup a = some o ∧ o.cls = .type "tuple" ∧ o.data = .seq its n ∧ its.size ≤ sizeLine ∧ Vals xs its.toList
def absV : Value → Option V
  | .none => some .non
  | .bool b => some (.bl b)
  | .int i _ => some (.int i)
  | .str x _ => some (.str x)
  | .bytes b _ => some (.byt b)
  | .float b _ => some (.flt b)
  | .ref a => some (.ref a)
  | .type n => some (.ty n)
  | _ => none
theorem RelV.abs {x : V} {u : Value} (r : RelV x u) : absV u = some x := by
  cases x with
  | non => cases r; rfl
  | bl _ => cases r; rfl
  | int _ => obtain ⟨t, rfl⟩ := r; rfl
  | str _ => obtain ⟨t, rfl⟩ := r; rfl
  | byt _ => obtain ⟨t, rfl⟩ := r; rfl
  | flt _ => obtain ⟨t, rfl⟩ := r; rfl
  | ref _ => cases r; rfl
  | ty _ => cases r; rfl
theorem RelV.inj {x y : V} {u : Value} (r : RelV x u) (q : RelV y u) : x = y := Option.some.inj (r.abs.symm.trans q.abs)
theorem Vals.inj : ∀ {xs ys : List V} {us : List Value}, Vals xs us → Vals ys us → xs = ys
  | _, _, _, .nil, .nil => rfl
  | _, _, _, .cons r t, .cons r' t' => by rw [r.inj r', Vals.inj t t']
section
variable {X : Cx} {pins : List (Addr × Obj)} {σ : St} {H : Hp} {s : Shared} {a : Addr} {xs ys : List V}
theorem SqL.of {K : PySem.W.Frag} (h : H a = some (.lst xs)) : SqL K H a xs := .inl (.inl h)
theorem SqT.of {K : PySem.W.Frag} (h : H a = some (.tup xs)) : SqT K H a xs := .inl (.inl h)
theorem Inv.list (I : Inv X pins σ H s) (h : SqL X.K H a xs) : ∃ its : List Value, Vals xs its ∧ PlainL s.heap a its.toArray ∧ xs.length ≤ sizeLine := by
  rcases h with h | ⟨o, its, n, hk, hc, hd, hs, hz, r⟩
  · obtain ⟨z, its, n, r, e⟩ := h.ok I.hok
    exact ⟨its, r, ⟨_, n, e, rfl, rfl, rfl⟩, z⟩
  · refine ⟨its.toList, r, ⟨o, n, I.kIn a o hk, hc, hd, by simpa using hs⟩, ?_⟩
    have e := r.length
    simp only [Array.length_toList] at e
    omega
theorem Inv.tuple (I : Inv X pins σ H s) (h : SqT X.K H a xs) : ∃ its : List Value, Vals xs its ∧ IsTup s.heap a its.toArray ∧ xs.length ≤ sizeLine := by
  rcases h with h | ⟨o, its, n, hk, hc, hs, hz, r⟩
  · obtain ⟨z, its, r, p⟩ := h.ok I.hok
    exact ⟨its, r, p, z⟩
  · refine ⟨its.toList, r, ⟨o, I.kIn a o hk, hc, n, by simpa using hs⟩, ?_⟩
    have e := r.length
    simp only [Array.length_toList] at e
    omega
theorem Inv.list_inj (I : Inv X pins σ H s) (h : SqL X.K H a xs) (h' : SqL X.K H a ys) : xs = ys := by
  obtain ⟨its, r, ⟨o, n, e, _, _, d⟩, _⟩ := I.list h
  obtain ⟨its', r', ⟨o', n', e', _, _, d'⟩, _⟩ := I.list h'
  rw [e] at e'; cases e'
  rw [d] at d'
  injection d' with d1 _
  have : its = its' := by simpa using congrArg Array.toList d1
  subst this
  exact r.inj r'
theorem Inv.tuple_inj (I : Inv X pins σ H s) (h : SqT X.K H a xs) (h' : SqT X.K H a ys) : xs = ys := by
  obtain ⟨its, r, ⟨o, e, _, n, d⟩, _⟩ := I.tuple h
  obtain ⟨its', r', ⟨o', e', _, n', d'⟩, _⟩ := I.tuple h'
  rw [e] at e'; cases e'
  rw [d] at d'
  injection d' with d1 _
  have : its = its' := by simpa using congrArg Array.toList d1
  subst this
  exact r.inj r'
end

/-! ### another wish about exceptions -/
abbrev Cx.wish (X : Cx) (E : Value → Shared → Prop) : Cx := { X with xe := E }
/-- no exception leaves -/
abbrev Cx.nox (X : Cx) : Cx := X.wish fun _ _ => False
theorem Cx.Ok.wish {X : Cx} (ok : X.Ok) (E : Value → Shared → Prop) : (X.wish E).Ok :=
  ⟨ok.mod, ok.kind, ok.glob, ok.blt, ok.above, ok.inj, ok.has, ok.cab, ok.hd, ok.frames, ok.stk, ok.exf, ok.bs, ok.bsz, ok.noex, ok.exfs, ok.funs, ok.frf⟩
theorem Cx.Ok.unwish {X : Cx} {E : Value → Shared → Prop} (ok : (X.wish E).Ok) : X.Ok :=
  ⟨ok.mod, ok.kind, ok.glob, ok.blt, ok.above, ok.inj, ok.has, ok.cab, ok.hd, ok.frames, ok.stk, ok.exf, ok.bs, ok.bsz, ok.noex, ok.exfs, ok.funs, ok.frf⟩
section
variable {X : Cx} {pins : List (Addr × Obj)} {σ : St} {H : Hp} {s : Shared} {E : Value → Shared → Prop}
theorem Inv.wish (I : Inv X pins σ H s) (E : Value → Shared → Prop) : Inv (X.wish E) pins σ H s := ⟨I.ok.wish E, I.os, I.bare, I.base, I.loc, I.cell, I.free, I.freeC, I.pin, I.hok, I.len⟩
theorem Inv.unwish (I : Inv (X.wish E) pins σ H s) : Inv X pins σ H s := ⟨I.ok.unwish, I.os, I.bare, I.base, I.loc, I.cell, I.free, I.freeC, I.pin, I.hok, I.len⟩
theorem SP.unwish {D : Ends} {f : Flow} {s' : Shared} (h : SP (X.wish E) pins D f s') : SP X pins D f s' := by
  cases f with
  | next => obtain ⟨σ', H', I, q⟩ := h; exact ⟨σ', H', I.unwish, q⟩
  | brk => obtain ⟨σ', H', I, q⟩ := h; exact ⟨σ', H', I.unwish, q⟩
  | cont => obtain ⟨σ', H', I, q⟩ := h; exact ⟨σ', H', I.unwish, q⟩
  | ret u => obtain ⟨v, σ', H', I, r, q⟩ := h; exact ⟨v, σ', H', I.unwish, r, q⟩
theorem PE.nox {e : Expr} {t : TE} (h : PE X.nox e t) : PE X e t := fun pins s σ H Q I hw =>
  wpAny_mono (h pins s σ H Q (I.wish _) hw) (fun _ _ ⟨v, H', I', r, q⟩ => ⟨v, H', I'.unwish, r, q⟩) fun _ _ z => False.elim z
theorem PT.nox {e : Expr} {t : TT} (h : PT X.nox e t) : PT X e t := fun pins s σ H Q I hw =>
  wpAny_mono (h pins s σ H Q (I.wish _) hw) (fun _ _ ⟨H', I', q⟩ => ⟨H', I'.unwish, q⟩) fun _ _ z => False.elim z
theorem PSs.nox {st : List Stmt} {t : TS} (h : PSs X.nox st t) : PSs X st t := fun pins s σ H D I hw =>
  wpAny_mono (h pins s σ H D (I.wish _) hw) (fun _ _ q => q.unwish) fun _ _ z => False.elim z
end

/-! ### blocks and small statements -/
section
variable {X : Cx} {st : Stmt} {rest : List Stmt} {t u : TS} {e : Expr} {te : TE} {pos : Pos}
def tNext : TS := fun D σ H => D.nx σ H
def tSeq (t u : TS) : TS := fun D σ H => t { D with nx := u D } σ H
theorem pss_nil : PSs X [] tNext := fun _ _ σ H _ I h => wpAny_execs_nil ⟨σ, H, I, h⟩
theorem pss_cons (h1 : PS X st t) (h2 : PSs X rest u) : PSs X (st :: rest) (tSeq t u) := by
  intro pins s σ H D I h
  refine wpAny_execs_cons (thn (h1 pins s σ H { D with nx := u D } I h) fun f s1 q => ?_)
  cases f with
  | next =>
    obtain ⟨σ', H', I', q⟩ := q
    exact h2 pins s1 σ' H' D I' q
  | ret v => exact q
  | brk => exact q
  | cont => exact q
theorem pss_one (h1 : PS X st t) : PSs X [st] t := by
  intro pins s σ H D I h
  refine wpAny_execs_cons (thn (h1 pins s σ H D I h) fun f s1 q => ?_)
  cases f with
  | next => exact wpAny_execs_nil q
  | ret v => exact q
  | brk => exact q
  | cont => exact q
/-- in a def's body nothing is shown -/
theorem Inv.quiet {pins : List (Addr × Obj)} {σ : St} {H : Hp} {s : Shared} (I : Inv X pins σ H s) : interactive X.env = false := by simp [interactive, I.ok.kind]
/-- an expression whose value is dropped -/
def tDrop (te : TE) : TS := fun D σ H => te σ H fun _ H1 => D.nx σ H1
theorem ps_expr (he : PE X e te) (hs : swapsWith e none pos.line X.env = pure false := by rfl) : PS X (.Expr e pos) (tDrop te) := by
  intro pins s σ H D I h
  exact wpAny_Expr_any (thn (he pins s σ H _ I h) fun v s1 ⟨x, H1, I1, r1, q1⟩ => ⟨σ, H1, I1, q1⟩) I.quiet hs
def tRet (te : TE) : TS := fun D σ H => te σ H D.rt
theorem ps_ret (he : PE X e te) : PS X (.Return (some e) pos) (tRet te) := by
  intro pins s σ H D I h
  exact wpAny_Return_some (thn (he pins s σ H _ I h) fun v s1 ⟨x, H1, I1, r1, q1⟩ => ⟨x, σ, H1, I1, r1, q1⟩)
def tIfS (c : TT) (t u : TS) : TS := fun D σ H => c σ H fun b H1 => if b = true then t D σ H1 else u D σ H1
theorem ps_if {c : Expr} {a b : List Stmt} {tc : TT} (hc : PT X c tc) (ha : PSs X a t) (hb : PSs X b u) : PS X (.If c a b pos) (tIfS tc t u) := by
  intro pins s σ H D I h
  refine wpAny_If (thn (hc pins s σ H _ I h) fun d s1 ⟨H1, I1, q1⟩ => ?_)
  cases d with
  | true => exact ha pins s1 σ H1 D I1 q1
  | false => exact hb pins s1 σ H1 D I1 q1
/-- code that the proof never comes to -/
def tNever : TS := fun _ _ _ => False
theorem ps_never : PS X st tNever := fun _ _ _ _ _ _ h => h.elim
theorem pss_never {sts : List Stmt} : PSs X sts tNever := fun _ _ _ _ _ _ h => h.elim
end

/-! ### targets -/
abbrev TG := V → St → Hp → (St → Hp → Prop) → Prop
abbrev TGs := List V → St → Hp → (St → Hp → Prop) → Prop
def PG (X : Cx) (target : Expr) (t : TG) : Prop :=
  ∀ (pins : List (Addr × Obj)) (s : Shared) (σ : St) (H : Hp) (v : V) (u : Value) (Q : St → Hp → Prop), Inv X pins σ H s → RelV v u → t v σ H Q →
    wpAny (model X.prog X.w) X.A (assign target X.env u) (fun _ s' => ∃ σ' H', Inv X pins σ' H' s' ∧ Q σ' H') X.xe s
/-- several targets, one after another -/
def PGs (X : Cx) (ts : List Expr) (t : TGs) : Prop :=
  ∀ (pins : List (Addr × Obj)) (s : Shared) (σ : St) (H : Hp) (vs : List V) (us : List Value) (Q : St → Hp → Prop), Inv X pins σ H s → Vals vs us → t vs σ H Q →
    wpAny (model X.prog X.w) X.A (assignInOrder ((assignEach ts X.env).map (·.2)) us) (fun _ s' => ∃ σ' H', Inv X pins σ' H' s' ∧ Q σ' H') X.xe s
/-- o[i] = v, by values -/
abbrev TSet := V → V → V → Hp → (Hp → Prop) → Prop
def PSet (X : Cx) (t : TSet) : Prop :=
  ∀ (pins : List (Addr × Obj)) (s : Shared) (σ : St) (H : Hp) (o i v : V) (ov iv u : Value) (Q : Hp → Prop), Inv X pins σ H s → RelV o ov → RelV i iv → RelV v u → t o i v H Q →
    wpAny (model X.prog X.w) X.A (setItem ov iv u) (fun _ s' => ∃ H', Inv X pins σ H' s' ∧ Q H') X.xe s
section
variable {X : Cx} {pos : Pos}
def gName (i : Nat) : TG := fun v σ H Q => Q (σ.set i (some v)) H
theorem pg_name {i : Nat} {x : Str} (hN : X.N.Nodup) (hi : X.N[i]? = some x) (hx : Loc X.env.scope x) (hf : X.fn x = true ∨ X.env.scope.names.lookup x = some .local := by first | exact .inl rfl | exact .inr rfl | assumption) : PG X (.Name x pos) (gName i) := by
  intro pins s σ H v u Q I r h
  exact wpAny_assign_Name (store_ok I hN hi hx r (fun s' I' => ⟨_, H, I', h⟩) hf)
def gNil : TGs := fun vs σ H Q => vs = [] ∧ Q σ H
def gCons (t : TG) (u : TGs) : TGs := fun vs σ H Q => ∃ v r, vs = v :: r ∧ t v σ H fun σ' H' => u r σ' H' Q
theorem pgs_nil : PGs X [] gNil := by
  intro pins s σ H vs us Q I r h
  obtain ⟨e, h⟩ := h
  subst e
  cases r
  exact assignInOrder_nil ⟨σ, H, I, h⟩
theorem pgs_cons {e : Expr} {es : List Expr} {t : TG} {u : TGs} (h1 : PG X e t) (h2 : PGs X es u)
    (hs : (assignEach (e :: es) X.env).map (·.2) = assign e X.env :: (assignEach es X.env).map (·.2) := by rfl) : PGs X (e :: es) (gCons t u) := by
  intro pins s σ H vs us Q I r h
  obtain ⟨v, vr, e1, h⟩ := h
  subst e1
  cases r with
  | cons r rr =>
    rw [hs]
    refine assignInOrder_cons (thn (h1 pins s σ H _ _ _ I r h) fun _ s1 ⟨σ1, H1, I1, q1⟩ => ?_)
    exact h2 pins s1 σ1 H1 _ _ Q I1 rr q1
/-- (a, b, ..) = a tuple of that length -/
def gTup (K : PySem.W.Frag) (n : Nat) (t : TGs) : TG := fun v σ H Q => ∃ a xs, v = .ref a ∧ SqT K H a xs ∧ xs.length = n ∧ t xs σ H Q
theorem pg_tup {es : List Expr} {k : Nat} {t : TGs} {n : Nat} (hc : X.calm = true) (h : PGs X es t)
    (hn : (assignEach es X.env).length = n := by rfl) (hst : (assignEach es X.env).findIdx? (·.1) = none := by rfl) : PG X (.Tuple es k pos) (gTup X.K n t) := by
  intro pins s σ H v u Q I r hw
  obtain ⟨a, xs, e1, hq, hl, hw⟩ := hw
  subst e1
  cases r
  obtain ⟨its, rv, ht, hz⟩ := I.tuple hq
  refine assign_Tuple_tuple (I.ok.hd hc) ht (by simp [hn, ← hl, rv.length]) hst fun h' hx => ?_
  have I1 : Inv X pins σ H { s with heap := h' } := I.kept (t' := s.toks) fun b o e => hx b o (Nat.ne_of_lt (Heap.lt_size e)) e
  exact h pins _ σ H xs _ Q I1 (by simpa using rv) hw
/-- o[i] = .. -/
def gSub (to ti : TE) (t : TSet) : TG := fun v σ H Q => to σ H fun o H1 => ti σ H1 fun i H2 => t o i v H2 fun H3 => Q σ H3
theorem pg_sub {o i : Expr} {to ti : TE} {t : TSet} (ho : PE X o to) (hi : PE X i ti) (hs : PSet X t)
    (ha : ∀ v, assign (.Subscript o i pos) X.env v = (do
      let ov ← holding [v] (eval o X.env)
      let iv ← holding [v, ov] (eval i X.env)
      standAt pos
      holding [v, ov, iv] (setItem ov iv v)
      release [v, ov, iv] []) := by intro _; rfl) : PG X (.Subscript o i pos) (gSub to ti t) := by
  intro pins s σ H v u Q I r h
  rw [ha]
  refine wpAny_bind (wpAny_holding (thn (ho pins s σ H _ I h) fun ov s1 ⟨x, H1, I1, r1, q1⟩ => ?_))
  refine wpAny_bind (wpAny_holding (thn (hi pins s1 σ H1 _ I1 q1) fun iv s2 ⟨y, H2, I2, r2, q2⟩ => ?_))
  refine wpAny_bind (wpAny_standAt (wpAny_bind (wpAny_holding (thn (hs pins s2 σ H2 x y v ov iv u _ I2 r1 r2 r q2) fun _ s3 ⟨H3, I3, q3⟩ => ?_))))
  exact wpAny_release ⟨σ, H3, I3, q3⟩
/-- target = value -/
def tAsg (te : TE) (g : TG) : TS := fun D σ H => te σ H fun x H1 => g x σ H1 D.nx
theorem ps_asg {tg e : Expr} {te : TE} {g : TG} (he : PE X e te) (hg : PG X tg g) (hs : swapsWithSole [tg] e pos.line X.env = pure false := by rfl) (hw : swappedStores [tg] e X.env = pure none := by rfl)
    (h1 : (assignEach [tg] X.env).map (·.2) = [assign tg X.env] := by rfl) : PS X (.Assign [tg] e pos) (tAsg te g) := by
  intro pins s σ H D I h
  refine wpAny_Assign_stores (thn (he pins s σ H _ I h) fun v s1 ⟨x, H1, I1, r1, q1⟩ => ?_) hs hw
  rw [h1]
  exact thn (hg pins s1 σ H1 x v _ I1 r1 q1) fun _ s2 q => q
/-- name = value -/
theorem ps_set {i : Nat} {x : Str} {e : Expr} {te : TE} {pos' : Pos} (hN : X.N.Nodup) (hi : X.N[i]? = some x) (hx : Loc X.env.scope x) (he : PE X e te) (hs : swapsWith e (some (.Name x pos')) pos.line X.env = pure false := by rfl) (hf : X.fn x = true ∨ X.env.scope.names.lookup x = some .local := by first | exact .inl rfl | exact .inr rfl | assumption) :
    PS X (.Assign [.Name x pos'] e pos) (tAsg te (gName i)) := by
  intro pins s σ H D I h
  refine wpAny_Assign_Name (thn (he pins s σ H _ I h) fun v s1 ⟨y, H1, I1, r1, q1⟩ => ?_) hs
  exact store_ok I1 hN hi hx r1 (fun s2 I2 => ⟨_, H1, I2, q1⟩) hf
end

/-! ### while -/
section
variable {X : Cx} {pos : Pos}
/-- the invariant W with its measure -/
def tWhile (c : TT) (tb : TS) : TS := fun D σ H => ∃ W : Nat → St → Hp → Prop, (∃ m, W m σ H) ∧ ∀ m σ H, W m σ H →
  c σ H fun b H1 => if b = true then ∃ N : St → Hp → Prop, (∀ σ' H', N σ' H' → ∃ m', m' < m ∧ W m' σ' H') ∧ tb { D with nx := N, ct := N, bk := D.nx } σ H1 else D.nx σ H1
theorem ps_while {c : Expr} {body : List Stmt} {tc : TT} {tb : TS} (hp : PassesOwn (model X.prog X.w) X.A X.env X.xe) (hc : PT X c tc) (hb : PSs X body tb) : PS X (.While c body [] pos) (tWhile tc tb) := by
  intro pins s σ H D I h
  obtain ⟨W, ⟨m0, w0⟩, turn⟩ := h
  refine wpAny_While (codeAny_whileLoop (fun n s' => ∃ σ' H', Inv X pins σ' H' s' ∧ W n σ' H') ?_ m0 ⟨σ, H, I, w0⟩)
  rintro n s1 ⟨σ1, H1, I1, w1⟩
  refine wpAny_passesOwn hp (thn (hc pins s1 σ1 H1 _ I1 (turn n σ1 H1 w1)) fun b s2 ⟨H2, I2, q2⟩ => ?_)
  cases b with
  | true =>
    obtain ⟨N, hN, q2⟩ := q2
    rw [if_pos rfl]
    refine wpAny_passesOwn hp (thn (hb pins s2 σ1 H2 _ I2 q2) fun f s3 q3 => ?_)
    cases f with
    | next =>
      obtain ⟨σ3, H3, I3, n3⟩ := q3
      obtain ⟨m', hm, w3⟩ := hN σ3 H3 n3
      exact ⟨m', hm, σ3, H3, I3, w3⟩
    | cont =>
      obtain ⟨σ3, H3, I3, n3⟩ := q3
      obtain ⟨m', hm, w3⟩ := hN σ3 H3 n3
      exact ⟨m', hm, σ3, H3, I3, w3⟩
    | brk => exact q3
    | ret v => exact q3
  | false =>
    rw [if_neg Bool.false_ne_true]
    exact wpAny_execs_nil ⟨σ1, H2, I2, q2⟩
end

/-! ### what a loop or a comprehension walks -/
/-- at turn i: it yields x (the heap may grow), or it stops -/
structure It where
  go : Nat → Hp → Prop
  yld : Nat → Hp → V → Hp → Prop
  stop : Nat → Hp → Prop
/-- the iterator's own objects may turn: they are not the frame's, not pinned, younger than the entry (or a comprehension's own) -/
def FpOk (X : Cx) (pins : List (Addr × Obj)) (H : Hp) (b : Addr) : Prop :=
  H b = none ∧ b ≠ X.env.locals ∧ b ∉ X.fs ∧ (b ∈ X.ex ∨ X.s₀.heap.objs.size ≤ b) ∧ (∀ x c, X.env.cells.lookup x = some c → c ≠ b) ∧ ∀ p ∈ X.pn ++ pins, p.1 ≠ b
theorem Inv.fpOk {X : Cx} {pins : List (Addr × Obj)} {σ : St} {H H' : Hp} {s : Shared} {b : Addr} (I : Inv X pins σ H s) (hb : s.heap.objs.size ≤ b) (hn : H' b = none) : FpOk X pins H' b := by
  refine ⟨hn, Nat.ne_of_gt (Nat.lt_of_lt_of_le I.lt hb), I.nofs hb, .inr (Nat.le_trans I.sz hb), fun x c e z => ?_, fun p hp z => ?_⟩
  · obtain ⟨v, q⟩ := I.cell x c e
    exact absurd (Nat.lt_of_lt_of_le q.lt (by rw [z]; exact hb)) (Nat.lt_irrefl _)
  · exact absurd (Nat.lt_of_lt_of_le (Heap.lt_size (I.pin p hp).1) (by rw [z]; exact hb)) (Nat.lt_irrefl _)
structure Turn (P : Program) (w : World) (K : PySem.W.Frag) (tg : Expr) (J : It) (fp : List Addr) (it : Addr) (tn : Nat → Heap → Prop) : Prop where
  mem : it ∈ fp
  obj : ∀ i h, tn i h → ∀ b ∈ fp, ∃ o, h.get? b = some o ∧ ∀ v, o.data ≠ .cell v
  keep : ∀ i h h', tn i h → (∀ b ∈ fp, ∀ o, h.get? b = some o → h'.get? b = some o) → tn i h'
  item : ∀ (X : Cx), X.prog = P → X.w = w → X.K = K → X.calm = true → ∀ (i : Nat) (pins : List (Addr × Obj)) (s : Shared) (σ : St) (H : Hp) (E : Value → Shared → Prop), Inv X pins σ H s → (∀ b ∈ fp, FpOk X pins H b) → tn i s.heap → J.go i H →
    wpAny (model P w) X.A (pyNext (.ref it)) (fun r s1 => ∃ u, r = some u ∧
      wpAny (model P w) X.A (letOwnedTupleGo tg (.ref it) u) (fun _ s2 => ∃ x H', Inv X pins σ H' s2 ∧ RelV x u ∧ J.yld i H x H' ∧ tn (i + 1) s2.heap ∧ ∀ b ∈ fp, H' b = none) E s1) E s
  done : ∀ (X : Cx), X.prog = P → X.w = w → X.K = K → X.calm = true → ∀ (i : Nat) (pins : List (Addr × Obj)) (s : Shared) (σ : St) (H : Hp) (E : Value → Shared → Prop), Inv X pins σ H s → (∀ b ∈ fp, FpOk X pins H b) → tn i s.heap → J.stop i H →
    wpAny (model P w) X.A (pyNext (.ref it)) (fun r s1 => r = none ∧ Inv X pins σ H s1) E s
  self : ∀ (A : Around) (i : Nat) (s : Shared) (Q : Value → Shared → Prop) (E : Value → Shared → Prop), tn i s.heap → Q (.ref it) s → wpAny (model P w) A (pyIter (.ref it)) Q E s
abbrev TI := St → Hp → (It → Hp → Prop) → Prop
/-- an iterator has come -/
def PIE (X : Cx) (pins : List (Addr × Obj)) (σ : St) (tg : Expr) (R : It → Hp → Prop) (itv : Value) (s2 : Shared) : Prop :=
  ∃ (it : Addr) (fp : List Addr) (tn : Nat → Heap → Prop) (J : It) (H' : Hp), itv = .ref it ∧ Inv X pins σ H' s2 ∧ Turn X.prog X.w X.K tg J fp it tn ∧ tn 0 s2.heap ∧ (∀ b ∈ fp, FpOk X pins H' b) ∧ R J H'
def PI (X : Cx) (tg iter : Expr) (wi : TI) : Prop :=
  ∀ (pins : List (Addr × Obj)) (s : Shared) (σ : St) (H : Hp) (R : It → Hp → Prop), Inv X pins σ H s → wi σ H R →
    wpAny (model X.prog X.w) X.A (eval iter X.env) (fun v s1 => wpAny (model X.prog X.w) X.A (pyIter v) (PIE X pins σ tg R) X.xe s1) X.xe s

/-- the step ahead of the store is nothing for an iterator that keeps no tuple -/
theorem go_of {M : Model} {A : Around} {E : Value → Shared → Prop} {s : Shared} {tg : Expr} {it : Addr} {u : Value} {o : Obj} {n : String} {vs : Array Value} {Q : Unit → Shared → Prop} (ho : s.heap.get? it = some o) (hc : o.cls = .type n) (hd : o.data = .fields vs)
    (hn : ["enumerate", "zip", "dict_itemiterator", "dict_reverseitemiterator", "odict_iterator", "itertools.zip_longest", "itertools.pairwise"].contains n = false) (hQ : Q () s) : wpAny M A (letOwnedTupleGo tg (.ref it) u) Q E s := by
  unfold letOwnedTupleGo
  cases tg <;> first
    | exact wpAny_pure hQ
    | (cases u <;> first
        | exact wpAny_pure hQ
        | (refine wpAny_bind (wpAny_load ho ?_)
           rw [hc, hd]
           show wpAny M A (if (["enumerate", "zip", "dict_itemiterator", "dict_reverseitemiterator", "odict_iterator", "itertools.zip_longest", "itertools.pairwise"].contains n && vs[0]? == some (rawInt _)) = true then _ else _) Q E s
           rw [if_neg (by intro h; rw [hn, Bool.false_and] at h; cases h)]
           exact wpAny_pure hQ))

/-- the list at a, as it stands at each turn (a loop may append to it) -/
def Itl (K : PySem.W.Frag) (a : Addr) : It :=
  ⟨fun i H => ∃ xs x, SqL K H a xs ∧ xs[i]? = some x, fun i H x H' => H' = H ∧ ∀ xs, SqL K H a xs → xs[i]? = some x, fun i H => ∃ xs, SqL K H a xs ∧ xs.length ≤ i⟩
def Itt (K : PySem.W.Frag) (a : Addr) : It :=
  ⟨fun i H => ∃ xs x, SqT K H a xs ∧ xs[i]? = some x, fun i H x H' => H' = H ∧ ∀ xs, SqT K H a xs → xs[i]? = some x, fun i H => ∃ xs, SqT K H a xs ∧ xs.length ≤ i⟩
/-- lo, lo + 1, .. (n of them) -/
def Itr (lo : Int) (n : Nat) : It := ⟨fun i _ => i < n, fun i H x H' => H' = H ∧ x = .int (lo + i), fun i _ => n ≤ i⟩
theorem turn_list {P : Program} {w : World} {K : PySem.W.Frag} {tg : Expr} (a it : Addr) : Turn P w K tg (Itl K a) [it] it (fun i h => h.IsListIter it a i) where
  mem := by simp
  obj := fun i h st b hb => by
    have e : b = it := by simpa using hb
    subst e
    obtain ⟨o, e, c, d⟩ := st
    exact ⟨o, e, fun v z => by rw [d] at z; cases z⟩
  keep := fun i h h' st k => st.at fun o e => k it (by simp) o e
  item := by
    intro X hP hw hK hc i pins s σ H E I hf st hg
    subst hP hw hK
    obtain ⟨xs, x, hq, hx⟩ := hg
    obtain ⟨its, rv, p, hz⟩ := I.list hq
    obtain ⟨u, hu, ru⟩ := rv.get hx
    obtain ⟨f0, f1, f2, f3, f4, f5⟩ := hf it (by simp)
    refine wpAny_pyNext_list_item st p.isList (x := u) (by simpa using hu) fun h' st' sb => ?_
    have I1 : Inv X pins σ H { s with heap := h' } := I.turned (t' := s.toks) (fun b o hb e => (sb.2 b hb).trans e) f0 f1 f3 f4 f5
    obtain ⟨o, e, c, d⟩ := id st'
    exact ⟨u, rfl, go_of (s := { s with heap := h' }) e c d (by decide) ⟨x, H, I1, ru, ⟨rfl, fun ys hy => by rw [I.list_inj hy hq]; exact hx⟩, st', fun b hb => (hf b hb).1⟩⟩
  done := by
    intro X hP hw hK hc i pins s σ H E I hf st hg
    subst hP hw hK
    obtain ⟨xs, hq, hx⟩ := hg
    obtain ⟨its, rv, p, hz⟩ := I.list hq
    obtain ⟨f0, f1, f2, f3, f4, f5⟩ := hf it (by simp)
    have hl := rv.length
    exact wpAny_pyNext_list_end (I.ok.hd hc) st p.isList (by simp; omega) fun h' eb => ⟨rfl, I.turned (t' := s.toks) (fun b o hb e => eb b o hb e) f0 f1 f3 f4 f5⟩
  self := fun _ _ _ _ _ st h => wpAny_pyIter_listiter st h
theorem turn_tuple {P : Program} {w : World} {K : PySem.W.Frag} {tg : Expr} (a it : Addr) : Turn P w K tg (Itt K a) [it] it (fun i h => h.IsTupleIter it a i) where
  mem := by simp
  obj := fun i h st b hb => by
    have e : b = it := by simpa using hb
    subst e
    obtain ⟨o, e, c, d⟩ := st
    exact ⟨o, e, fun v z => by rw [d] at z; cases z⟩
  keep := fun i h h' st k => st.at fun o e => k it (by simp) o e
  item := by
    intro X hP hw hK hc i pins s σ H E I hf st hg
    subst hP hw hK
    obtain ⟨xs, x, hq, hx⟩ := hg
    obtain ⟨its, rv, p, hz⟩ := I.tuple hq
    obtain ⟨u, hu, ru⟩ := rv.get hx
    obtain ⟨f0, f1, f2, f3, f4, f5⟩ := hf it (by simp)
    refine wpAny_pyNext_tuple_item st (show s.heap.IsTuple a its.toArray from p) (x := u) (by simpa using hu) fun h' st' sb => ?_
    have I1 : Inv X pins σ H { s with heap := h' } := I.turned (t' := s.toks) (fun b o hb e => (sb.2 b hb).trans e) f0 f1 f3 f4 f5
    obtain ⟨o, e, c, d⟩ := id st'
    exact ⟨u, rfl, go_of (s := { s with heap := h' }) e c d (by decide) ⟨x, H, I1, ru, ⟨rfl, fun ys hy => by rw [I.tuple_inj hy hq]; exact hx⟩, st', fun b hb => (hf b hb).1⟩⟩
  done := by
    intro X hP hw hK hc i pins s σ H E I hf st hg
    subst hP hw hK
    obtain ⟨xs, hq, hx⟩ := hg
    obtain ⟨its, rv, p, hz⟩ := I.tuple hq
    obtain ⟨f0, f1, f2, f3, f4, f5⟩ := hf it (by simp)
    have hl := rv.length
    exact wpAny_pyNext_tuple_end (I.ok.hd hc) st (show s.heap.IsTuple a its.toArray from p) (by simp; omega) fun h' eb => ⟨rfl, I.turned (t' := s.toks) (fun b o hb e => eb b o hb e) f0 f1 f3 f4 f5⟩
  self := fun _ _ _ _ _ st h => wpAny_pyIter_tupleiter st h
theorem turn_range {P : Program} {w : World} {K : PySem.W.Frag} {tg : Expr} (it : Addr) (lo : Int) (n : Nat) : Turn P w K tg (Itr lo n) [it] it (fun i h => IsRangeIter h it (lo + (i : Nat) * 1) ((n : Int) - (i : Nat)) 1) where
  mem := by simp
  obj := fun i h st b hb => by
    have e : b = it := by simpa using hb
    subst e
    exact ⟨_, st, fun v z => by
      have z' : Data.fields _ = Data.cell v := z
      cases z'⟩
  keep := fun i h h' st k => k it (by simp) _ st
  item := by
    intro X hP hw hK hc i pins s σ H E I hf st hg
    subst hP hw hK
    obtain ⟨f0, f1, f2, f3, f4, f5⟩ := hf it (by simp)
    have W := Walks.range (prog := X.prog) (w := X.w) (I.ok.hd hc) it lo 1 n
    refine W.item i s _ _ hg st fun v h' tk hv st' kk => ?_
    obtain ⟨t, rfl⟩ := hv
    have I1 : Inv X pins σ H { s with heap := h', toks := tk } := I.turned (fun b o hb e => kk b o (by simpa using hb) e) f0 f1 f3 f4 f5
    refine ⟨_, rfl, go_of (s := { s with heap := h', toks := tk }) (n := "range_iterator") st' rfl rfl (by decide) ⟨.int (lo + i), H, I1, ⟨t, ?_⟩, ⟨rfl, rfl⟩, st', fun b hb => (hf b hb).1⟩⟩
    rw [Int.mul_one]
  done := by
    intro X hP hw hK hc i pins s σ H E I hf st hg
    subst hP hw hK
    obtain ⟨f0, f1, f2, f3, f4, f5⟩ := hf it (by simp)
    exact wpAny_pyNext_range_end (I.ok.hd hc) st (by have : n ≤ i := hg; omega) fun h' eb => ⟨rfl, I.turned (t' := s.toks) (fun b o hb e => eb b o hb e) f0 f1 f3 f4 f5⟩
  self := fun _ _ _ _ _ st h => wpAny_pyIter_rangeiter st h
end L2

namespace L2
open PySem PySem.Spec PyProof.Rows
section
variable {X : Cx} {tg : Expr}
def iList (K : PySem.W.Frag) (tl : TE) : TI := fun σ H R => tl σ H fun x H1 => ∃ a, x = .ref a ∧ (∃ xs, SqL K H1 a xs) ∧ R (Itl K a) H1
def iTup (K : PySem.W.Frag) (tl : TE) : TI := fun σ H R => tl σ H fun x H1 => ∃ a, x = .ref a ∧ (∃ xs, SqT K H1 a xs) ∧ R (Itt K a) H1
theorem pi_list {l : Expr} {tl : TE} (hl : PE X l tl) : PI X tg l (iList X.K tl) := by
  intro pins s σ H R I h
  refine thn (hl pins s σ H _ I h) fun v s1 ⟨x, H1, I1, r1, q1⟩ => ?_
  obtain ⟨a, e, ⟨xs, hq⟩, q⟩ := q1
  subst e
  cases r1
  obtain ⟨its, rv, p, hz⟩ := I1.list hq
  refine wpAny_pyIter_list p.isList ?_
  refine ⟨s1.heap.objs.size, [s1.heap.objs.size], _, _, H1, rfl, I1.kept (t' := s1.toks) fun b o e => Heap.get?_push_of_some _ e, turn_list a _, ⟨_, Heap.get?_push_size _ rfl, rfl, rfl⟩, fun b hb => ?_, q⟩
  have e : b = s1.heap.objs.size := by simpa using hb
  subst e
  exact I1.fpOk (Nat.le_refl _) (I1.hok.fresh (Nat.le_refl _))
theorem pi_tup {l : Expr} {tl : TE} (hl : PE X l tl) : PI X tg l (iTup X.K tl) := by
  intro pins s σ H R I h
  refine thn (hl pins s σ H _ I h) fun v s1 ⟨x, H1, I1, r1, q1⟩ => ?_
  obtain ⟨a, e, ⟨xs, hq⟩, q⟩ := q1
  subst e
  cases r1
  obtain ⟨its, rv, p, hz⟩ := I1.tuple hq
  refine wpAny_pyIter_tuple (show s1.heap.IsTuple a its.toArray from p) ?_
  refine ⟨s1.heap.objs.size, [s1.heap.objs.size], _, _, H1, rfl, I1.kept (t' := s1.toks) fun b o e => Heap.get?_push_of_some _ e, turn_tuple a _, ⟨_, Heap.get?_push_size _ rfl, rfl, rfl⟩, fun b hb => ?_, q⟩
  have e : b = s1.heap.objs.size := by simpa using hb
  subst e
  exact I1.fpOk (Nat.le_refl _) (I1.hok.fresh (Nat.le_refl _))
/-- a range object just made, walked -/
theorem range_it {pins : List (Addr × Obj)} {σ : St} {H : Hp} {s : Shared} {R : It → Hp → Prop} {E : Value → Shared → Prop} {lo hi : Int} {t u v : Tok} {tk : Nat} (I : Inv X pins σ H s) (h1 : -(2 ^ 62) ≤ lo) (h2 : lo < 2 ^ 62) (h3 : -(2 ^ 62) ≤ hi) (h4 : hi < 2 ^ 62)
    (q : R (Itr lo (hi - lo).toNat) H) : wpAny (model X.prog X.w) X.A (pyIter (.ref s.heap.objs.size)) (PIE X pins σ tg R) E { s with heap := s.heap.push { cls := .type "range", data := .fields #[.int lo t, .int hi u, .int 1 v] }, toks := tk } := by
  refine wpAny_pyIter_range (IsRange.new ..) (small_one h1 h2 h3 h4) ?_
  have I1 : Inv X pins σ H { s with heap := s.heap.push { cls := .type "range", data := .fields #[.int lo t, .int hi u, .int 1 v] }, toks := tk } := I.kept fun b o e => Heap.get?_push_of_some _ e
  refine ⟨(s.heap.push { cls := .type "range", data := .fields #[.int lo t, .int hi u, .int 1 v] }).objs.size, [(s.heap.push { cls := .type "range", data := .fields #[.int lo t, .int hi u, .int 1 v] }).objs.size], _, _, H, rfl,
    I1.kept (t' := tk) fun b o e => Heap.get?_push_of_some _ e, turn_range _ lo (hi - lo).toNat, ?_, fun b hb => ?_, q⟩
  · have e1 : lo + ((0 : Nat) : Int) * 1 = lo := by simp
    have e2 : (((hi - lo).toNat : Nat) : Int) - ((0 : Nat) : Int) = Builtin.Range.rangeSize lo hi 1 := by rw [rangeSize_one]; split <;> omega
    show IsRangeIter _ _ (lo + ((0 : Nat) : Int) * 1) ((((hi - lo).toNat : Nat) : Int) - ((0 : Nat) : Int)) 1
    rw [e1, e2]
    exact Heap.get?_push_size _ rfl
  · have e : b = (s.heap.push { cls := .type "range", data := .fields #[.int lo t, .int hi u, .int 1 v] }).objs.size := by simpa using hb
    subst e
    exact I1.fpOk (Nat.le_refl _) (I1.hok.fresh (Nat.le_refl _))
def iRng1 (ta : TA) : TI := fun σ H R => ta σ H fun vs H1 => ∃ j : Int, vs = [.int j] ∧ -(2 ^ 62) ≤ j ∧ j < 2 ^ 62 ∧ R (Itr 0 j.toNat) H1
def iRng2 (ta : TA) : TI := fun σ H R => ta σ H fun vs H1 => ∃ i j : Int, vs = [.int i, .int j] ∧ (-(2 ^ 62) ≤ i ∧ i < 2 ^ 62 ∧ -(2 ^ 62) ≤ j ∧ j < 2 ^ 62) ∧ R (Itr i (j - i).toNat) H1
theorem pi_range1 {a : Expr} {ta : TA} {p pos : Pos} (hg : Gl X "range") (hm : X.mg "range" = none) (ha : PA X [a] ta) (hs : starEach [a] X.env = [(false, eval a X.env)] := by rfl) : PI X tg (.Call (.Name "range" p) [a] [] pos) (iRng1 ta) := by
  intro pins s σ H R I h
  refine Call_ (ld_blt I hg hm boot_range (PyProof.Rows.callWith_type1 (thn (ha pos pins s σ H _ I h) fun us s1 ⟨vs, H1, I1, r1, q1⟩ => ?_) hs rfl))
  obtain ⟨j, e, q1, q2, q⟩ := q1
  subst e
  cases r1 with
  | cons r rr =>
    cases rr
    obtain ⟨t, rfl⟩ := r
    exact call_range_1 (range_it I1 (by omega) (by omega) q1 q2 (by simpa using q))
theorem pi_range2 {a b : Expr} {ta : TA} {p pos : Pos} (hg : Gl X "range") (hm : X.mg "range" = none) (ha : PA X [a, b] ta) (hs : starEach [a, b] X.env = [(false, eval a X.env), (false, eval b X.env)] := by rfl) (hs2 : starEach [b] X.env = [(false, eval b X.env)] := by rfl) :
    PI X tg (.Call (.Name "range" p) [a, b] [] pos) (iRng2 ta) := by
  intro pins s σ H R I h
  refine Call_ (ld_blt I hg hm boot_range (PyProof.Rows.callWith_type1 (thn (ha pos pins s σ H _ I h) fun us s1 ⟨vs, H1, I1, r1, q1⟩ => ?_) (by rw [hs, hs2]) (by rw [hs2]; rfl)))
  obtain ⟨i, j, e, ⟨q1, q2, q3, q4⟩, q⟩ := q1
  subst e
  cases r1 with
  | cons r rr =>
    cases rr with
    | cons r' rr =>
      cases rr
      obtain ⟨t, rfl⟩ := r
      obtain ⟨t', rfl⟩ := r'
      exact call_range_2 (range_it I1 q1 q2 q3 q4 q)

/-! ### for -/
/-- W: the invariant by the turn and a measure; N: what the body is to reach -/
def tFor (wi : TI) (g : TG) (tb : TS) : TS := fun D σ H => wi σ H fun J H1 => ∃ W : Nat → Nat → St → Hp → Prop, (∃ m, W 0 m σ H1) ∧ ∀ i m σ H, W i m σ H →
  (J.stop i H ∧ D.nx σ H) ∨ (J.go i H ∧ ∃ N : St → Hp → Prop, (∀ σ' H', N σ' H' → ∃ m', m' < m ∧ W (i + 1) m' σ' H') ∧ ∀ x H', J.yld i H x H' → g x σ H' fun σ2 H2 => tb { D with nx := N, ct := N, bk := D.nx } σ2 H2)
/-- the records at fp as they stand -/
def pinsAt (fp : List Addr) (h : Heap) : List (Addr × Obj) := fp.filterMap fun b => (h.get? b).map fun o => (b, o)
theorem mem_pinsAt {fp : List Addr} {h : Heap} {b : Addr} {o : Obj} (hb : b ∈ fp) (e : h.get? b = some o) : (b, o) ∈ pinsAt fp h := List.mem_filterMap.mpr ⟨b, hb, by rw [e]; rfl⟩
theorem of_pinsAt {fp : List Addr} {h : Heap} {p : Addr × Obj} (hp : p ∈ pinsAt fp h) : p.1 ∈ fp ∧ h.get? p.1 = some p.2 := by
  obtain ⟨b, hb, e⟩ := List.mem_filterMap.mp hp
  cases q : h.get? b with
  | none => rw [q] at e; cases e
  | some o =>
    rw [q] at e
    have e' : (b, o) = p := Option.some.inj e
    subst e'
    exact ⟨hb, q⟩
theorem Inv.pinned {pins : List (Addr × Obj)} {σ : St} {H : Hp} {s : Shared} {fp : List Addr} (I : Inv X pins σ H s) (hf : ∀ b ∈ fp, FpOk X pins H b) (ho : ∀ b ∈ fp, ∃ o, s.heap.get? b = some o ∧ ∀ v, o.data ≠ .cell v) : Inv X (pins ++ pinsAt fp s.heap) σ H s :=
  I.pins_of fun p hp => (List.mem_append.mp hp).elim (fun z => I.pin p (List.mem_append_right _ z)) fun z => by
    obtain ⟨hb, e⟩ := of_pinsAt z
    obtain ⟨f0, f1, f2, _⟩ := hf p.1 hb
    obtain ⟨o, e', d⟩ := ho p.1 hb
    rw [e] at e'; cases e'
    exact ⟨e, f0, f1, f2, d⟩
theorem Inv.unpinned {pins pl : List (Addr × Obj)} {σ : St} {H : Hp} {s : Shared} (I : Inv X (pins ++ pl) σ H s) : Inv X pins σ H s := I.pins_of fun p hp => I.pin p (List.mem_append_right _ (List.mem_append_left _ hp))
theorem ps_for {iter : Expr} {body : List Stmt} {wi : TI} {g : TG} {tb : TS} {pos : Pos} (hp : PassesOwn (model X.prog X.w) X.A X.env X.xe) (hc : X.calm = true) (hi : PI X tg iter wi) (hg : PG X tg g) (hb : PSs X body tb)
    (hs : ∀ x, foldedSetIterable iter X.env x = pure x := by intro _; rfl) : PS X (.For tg iter body [] pos) (tFor wi g tb) := by
  intro pins s σ H D I h
  refine wpAny_For (thn (hi pins s σ H _ I h) fun v s1 h1 => thn h1 fun itv s2 h2 => ?_) hs
  obtain ⟨it, fp, tn, J, H2, e, I2, T, st2, f2, W, ⟨m0, w0⟩, turn⟩ := h2
  subst e
  -- what stays true of the iterator's objects through the loop
  have stat : ∀ {H' : Hp}, (∀ b ∈ fp, H' b = none) → ∀ b ∈ fp, FpOk X pins H' b := fun hn b hb => ⟨hn b hb, (f2 b hb).2⟩
  refine codeAny_forLoop_any (fun n s' => ∃ i σ' H', Inv X pins σ' H' s' ∧ tn i s'.heap ∧ (∀ b ∈ fp, H' b = none) ∧ W i n σ' H') ?_ m0 ⟨0, σ, H2, I2, st2, fun b hb => (f2 b hb).1, w0⟩
  rintro n s3 ⟨i, σ3, H3, I3, st3, fr3, w3⟩
  rcases turn i n σ3 H3 w3 with ⟨stop, qn⟩ | ⟨go, N, hN, step⟩
  · refine wpAny_passesOwn hp (thn (T.done X rfl rfl rfl hc i pins s3 σ3 H3 X.xe I3 (stat fr3) st3 stop) fun r s4 ⟨hr, I4⟩ => ?_)
    subst hr
    exact wpAny_execs_nil ⟨σ3, H3, I4, qn⟩
  · refine wpAny_passesOwn hp (thn (T.item X rfl rfl rfl hc i pins s3 σ3 H3 X.xe I3 (stat fr3) st3 go) fun r s4 ⟨u, hr, h4⟩ => ?_)
    subst hr
    refine wpAny_passesOwn hp (thn h4 fun _ s5 ⟨x, H5, I5, r5, y5, st5, fr5⟩ => ?_)
    have I5' := I5.pinned (stat fr5) (T.obj _ _ st5)
    refine wpAny_passesOwn hp (thn (hg _ s5 σ3 H5 x u _ I5' r5 (step x H5 y5)) fun _ s6 ⟨σ6, H6, I6, q6⟩ => ?_)
    refine wpAny_passesOwn hp (thn (hb _ s6 σ6 H6 _ I6 q6) fun f s7 q7 => ?_)
    have again : ∀ {σ7 : St} {H7 : Hp}, Inv X (pins ++ pinsAt fp s5.heap) σ7 H7 s7 → N σ7 H7 → ∃ m, m < n ∧ ∃ i σ' H', Inv X pins σ' H' s7 ∧ tn i s7.heap ∧ (∀ b ∈ fp, H' b = none) ∧ W i m σ' H' := fun {σ7 H7} I7 n7 => by
      obtain ⟨m', hm, w7⟩ := hN σ7 H7 n7
      refine ⟨m', hm, i + 1, σ7, H7, I7.unpinned, T.keep _ _ _ st5 fun b hb o e => (I7.pin (b, o) (List.mem_append_right _ (List.mem_append_right _ (mem_pinsAt hb e)))).1, fun b hb => ?_, w7⟩
      obtain ⟨o, e, d⟩ := T.obj _ _ st5 b hb
      exact (I7.pin (b, o) (List.mem_append_right _ (List.mem_append_right _ (mem_pinsAt hb e)))).2.1
    cases f with
    | next => obtain ⟨σ7, H7, I7, n7⟩ := q7; exact again I7 n7
    | cont => obtain ⟨σ7, H7, I7, n7⟩ := q7; exact again I7 n7
    | brk => obtain ⟨σ7, H7, I7, q7⟩ := q7; exact ⟨σ7, H7, I7.unpinned, q7⟩
    | ret v => obtain ⟨x7, σ7, H7, I7, r7, q7⟩ := q7; exact ⟨x7, σ7, H7, I7.unpinned, r7, q7⟩
end

/-! ### the forms one uses -/
/-- over a list that the body leaves as it is -/
theorem for_list {K : PySem.W.Frag} {a : Addr} {xs : List V} {g : TG} {tb : TS} {D : Ends} {σ : St} {H : Hp} (Pv : Nat → St → Hp → Prop) (h0 : Pv 0 σ H) (hl : ∀ i σ H, i ≤ xs.length → Pv i σ H → SqL K H a xs)
    (hs : ∀ i x σ H, xs[i]? = some x → Pv i σ H → g x σ H fun σ2 H2 => tb { D with nx := Pv (i + 1), ct := Pv (i + 1), bk := D.nx } σ2 H2) (hd : ∀ σ H, Pv xs.length σ H → D.nx σ H) :
    ∃ W : Nat → Nat → St → Hp → Prop, (∃ m, W 0 m σ H) ∧ ∀ i m σ H, W i m σ H →
      ((Itl K a).stop i H ∧ D.nx σ H) ∨ ((Itl K a).go i H ∧ ∃ N : St → Hp → Prop, (∀ σ' H', N σ' H' → ∃ m', m' < m ∧ W (i + 1) m' σ' H') ∧ ∀ x H', (Itl K a).yld i H x H' → g x σ H' fun σ2 H2 => tb { D with nx := N, ct := N, bk := D.nx } σ2 H2) := by
  refine ⟨fun i m σ H => m = xs.length - i ∧ i ≤ xs.length ∧ Pv i σ H, ⟨xs.length, by simp, Nat.zero_le _, h0⟩, ?_⟩
  rintro i m σ H ⟨rfl, hi, p⟩
  have q := hl i σ H hi p
  by_cases hlt : i < xs.length
  · refine .inr ⟨⟨xs, xs[i], q, by simp [hlt]⟩, Pv (i + 1), fun σ' H' p' => ⟨xs.length - (i + 1), by omega, rfl, hlt, p'⟩, fun x H' y => ?_⟩
    obtain ⟨e, y⟩ := y
    subst e
    exact hs i x σ _ (y xs q) p
  · have e : i = xs.length := by omega
    subst e
    exact .inl ⟨⟨xs, q, Nat.le_refl _⟩, hd σ H p⟩
theorem for_range {lo : Int} {n : Nat} {g : TG} {tb : TS} {D : Ends} {σ : St} {H : Hp} (Pv : Nat → St → Hp → Prop) (h0 : Pv 0 σ H)
    (hs : ∀ i σ H, i < n → Pv i σ H → g (.int (lo + i)) σ H fun σ2 H2 => tb { D with nx := Pv (i + 1), ct := Pv (i + 1), bk := D.nx } σ2 H2) (hd : ∀ σ H, Pv n σ H → D.nx σ H) :
    ∃ W : Nat → Nat → St → Hp → Prop, (∃ m, W 0 m σ H) ∧ ∀ i m σ H, W i m σ H →
      ((Itr lo n).stop i H ∧ D.nx σ H) ∨ ((Itr lo n).go i H ∧ ∃ N : St → Hp → Prop, (∀ σ' H', N σ' H' → ∃ m', m' < m ∧ W (i + 1) m' σ' H') ∧ ∀ x H', (Itr lo n).yld i H x H' → g x σ H' fun σ2 H2 => tb { D with nx := N, ct := N, bk := D.nx } σ2 H2) := by
  refine ⟨fun i m σ H => m = n - i ∧ i ≤ n ∧ Pv i σ H, ⟨n, by simp, Nat.zero_le _, h0⟩, ?_⟩
  rintro i m σ H ⟨rfl, hi, p⟩
  by_cases hlt : i < n
  · refine .inr ⟨hlt, Pv (i + 1), fun σ' H' p' => ⟨n - (i + 1), by omega, rfl, hlt, p'⟩, fun x H' y => ?_⟩
    obtain ⟨e, y⟩ := y
    subst e y
    exact hs i σ _ hlt p
  · have e : i = n := by omega
    subst e
    exact .inl ⟨Nat.le_refl _, hd σ H p⟩
end L2

namespace L2
open PySem PySem.Spec PyProof.Rows

abbrev R2 := V → V → Hp → VK → Prop
/-- a two-place operation on values: f is binaryOp op, inplaceOp op or compareOp op -/
def OpR (X : Cx) (f : Value → Value → Sem Value) (r : R2) : Prop :=
  ∀ (pins : List (Addr × Obj)) (s : Shared) (σ : St) (H : Hp) (x y : V) (v u : Value) (Q : VK), Inv X pins σ H s → RelV x v → RelV y u → r x y H Q →
    wpAny (model X.prog X.w) X.A (f v u) (EP X pins σ Q) X.xe s
/-- a one-place operation -/
def UnR (X : Cx) (f : Value → Sem Value) (r : V → Hp → VK → Prop) : Prop :=
  ∀ (pins : List (Addr × Obj)) (s : Shared) (σ : St) (H : Hp) (x : V) (v : Value) (Q : VK), Inv X pins σ H s → RelV x v → r x H Q →
    wpAny (model X.prog X.w) X.A (f v) (EP X pins σ Q) X.xe s
/-- a call of a value that is known (a builtin, a type) with values -/
def CallR (X : Cx) (f : Value) (r : List V → Hp → VK → Prop) : Prop :=
  ∀ (pins : List (Addr × Obj)) (s : Shared) (σ : St) (H : Hp) (xs : List V) (us : List Value) (Q : VK), Inv X pins σ H s → Vals xs us → r xs H Q →
    wpAny (model X.prog X.w) X.A (call f us) (EP X pins σ Q) X.xe s
def tOp (r : R2) (ta tb : TE) : TE := fun σ H Q => ta σ H fun x H1 => tb σ H1 fun y H2 => r x y H2 Q
def tUn (r : V → Hp → VK → Prop) (ta : TE) : TE := fun σ H Q => ta σ H fun x H1 => r x H1 Q
/-- ints in, under C, and a value out -/
def rI (C : Int → Int → Prop) (g : Int → Int → V) : R2 := fun x y H Q => ∃ i j, x = .int i ∧ y = .int j ∧ C i j ∧ Q (g i j) H
def rI0 (g : Int → Int → V) : R2 := fun x y H Q => ∃ i j, x = .int i ∧ y = .int j ∧ Q (g i j) H
def rU (g : Int → V) : V → Hp → VK → Prop := fun x H Q => ∃ i, x = .int i ∧ Q (g i) H

section
variable {X : Cx} {a b c : Expr} {ta tb tc : TE} {pos : Pos}

theorem binT (ha : PE X a ta) (hb : PE X b tb) {pins : List (Addr × Obj)} {s : Shared} {σ : St} {H : Hp} {R : V → V → Hp → Prop} (I : Inv X pins σ H s)
    (h : ta σ H fun x H1 => tb σ H1 fun y H2 => R x y H2) {Q : Value → Shared → Prop} {f : Value → Value → Sem Value}
    (hf : ∀ v u s2 x y H2, Inv X pins σ H2 s2 → RelV x v → RelV y u → R x y H2 → wpAny (model X.prog X.w) X.A (f v u) Q X.xe s2) :
    wpAny (model X.prog X.w) X.A (eval a X.env) (fun v s₁ => wpAny (model X.prog X.w) X.A (eval b X.env) (fun u s₂ => wpAny (model X.prog X.w) X.A (f v u) Q X.xe s₂) X.xe s₁) X.xe s := by
  refine thn (ha pins s σ H _ I h) fun v s1 ⟨x, H1, I1, r1, q1⟩ => ?_
  refine thn (hb pins s1 σ H1 _ I1 q1) fun u s2 ⟨y, H2, I2, r2, q2⟩ => ?_
  exact hf v u s2 x y H2 I2 r1 r2 q2

theorem pe_op {op : Operator} {r : R2} (ho : OpR X (binaryOp op) r) (ha : PE X a ta) (hb : PE X b tb) : PE X (.BinOp a op b pos) (tOp r ta tb) := by
  intro pins s σ H Q I h
  exact wpAny_BinOp (binT ha hb I h fun v u s2 x y H2 I2 rx ry q => ho pins s2 σ H2 x y v u Q I2 rx ry q)
theorem pe_un {op : UnaryOp} {r : V → Hp → VK → Prop} (ho : UnR X (unaryOp op) r) (ha : PE X a ta) : PE X (.UnaryOp op a pos) (tUn r ta) := by
  intro pins s σ H Q I h
  exact UnaryOp_ (thn (ha pins s σ H _ I h) fun v s1 ⟨x, H1, I1, r1, q1⟩ => ho pins s1 σ H1 x v Q I1 r1 q1)
/-! ### ints -/
theorem opI {f : Value → Value → Sem Value} {C : Int → Int → Prop} {g : Int → Int → Int}
    (rule : ∀ (i j : Int) (t u : Tok) (s : Shared) (Q : Value → Shared → Prop) (E : Value → Shared → Prop), C i j → Q (.int (g i j) s.toks) { s with toks := s.toks + 1 } → wpAny (model X.prog X.w) X.A (f (.int i t) (.int j u)) Q E s) :
    OpR X f (rI C fun i j => .int (g i j)) := by
  intro pins s σ H x y v u Q I rx ry h
  obtain ⟨i, j, rfl, rfl, hc, q⟩ := h
  obtain ⟨t, rfl⟩ := rx
  obtain ⟨t', rfl⟩ := ry
  exact rule i j t t' s _ _ hc ⟨.int (g i j), H, I.tok _, ⟨_, rfl⟩, q⟩
theorem opI0 {f : Value → Value → Sem Value} {g : Int → Int → Int}
    (rule : ∀ (i j : Int) (t u : Tok) (s : Shared) (Q : Value → Shared → Prop) (E : Value → Shared → Prop), Q (.int (g i j) s.toks) { s with toks := s.toks + 1 } → wpAny (model X.prog X.w) X.A (f (.int i t) (.int j u)) Q E s) :
    OpR X f (rI0 fun i j => .int (g i j)) := by
  intro pins s σ H x y v u Q I rx ry h
  obtain ⟨i, j, rfl, rfl, q⟩ := h
  obtain ⟨t, rfl⟩ := rx
  obtain ⟨t', rfl⟩ := ry
  exact rule i j t t' s _ _ ⟨.int (g i j), H, I.tok _, ⟨_, rfl⟩, q⟩
theorem opB0 {f : Value → Value → Sem Value} {g : Int → Int → Bool}
    (rule : ∀ (i j : Int) (t u : Tok) (s : Shared) (Q : Value → Shared → Prop) (E : Value → Shared → Prop), Q (.bool (g i j)) s → wpAny (model X.prog X.w) X.A (f (.int i t) (.int j u)) Q E s) :
    OpR X f (rI0 fun i j => .bl (g i j)) := by
  intro pins s σ H x y v u Q I rx ry h
  obtain ⟨i, j, rfl, rfl, q⟩ := h
  obtain ⟨t, rfl⟩ := rx
  obtain ⟨t', rfl⟩ := ry
  exact rule i j t t' s _ _ ⟨.bl (g i j), H, I, rfl, q⟩

def CDiv (i j : Int) : Prop := 0 < j ∧ j < 1073741824
def CPow (i j : Int) : Prop := 0 ≤ j ∧ j ≤ 1000000 ∧ i.natAbs < 2 ^ 64
def CMul (i j : Int) : Prop := (-(2 ^ 64) < i ∧ i < 2 ^ 64) ∨ (-(2 ^ 64) < j ∧ j < 2 ^ 64)
theorem CMul.ok {i j : Int} (h : CMul i j) : IntMulOk i j := by
  rcases h with ⟨h1, h2⟩ | ⟨h1, h2⟩
  · exact .of_left (intBits_le_64 h1 h2)
  · exact .of_right (intBits_le_64 h1 h2)
theorem op_add : OpR X (binaryOp .Add) (rI0 fun i j => .int (i + j)) := opI0 fun _ _ _ _ _ _ _ q => add_int q
theorem op_sub : OpR X (binaryOp .Sub) (rI0 fun i j => .int (i - j)) := opI0 fun _ _ _ _ _ _ _ q => sub_int q
theorem op_mul : OpR X (binaryOp .Mult) (rI CMul fun i j => .int (i * j)) := opI fun _ _ _ _ _ _ _ hc q => mul_int q hc.ok
/-- // by a positive divisor -/
theorem op_fdiv : OpR X (binaryOp .FloorDiv) (rI CDiv fun i j => .int (i / j)) := opI fun i j _ _ _ _ _ hc q => by
  have h1 : (0 : Int) < j := hc.1
  have h2 : j < 1073741824 := hc.2
  exact floordiv_int (by omega) (by rw [Int.fdiv_eq_ediv_of_nonneg i (by omega)]; exact q) (.inl (PyProof.noPylong_small (by omega)))
/-- % by a positive divisor of any size -/
theorem op_mod : OpR X (binaryOp .Mod) (rI (fun _ j => 0 < j) fun i j => .int (i % j)) := opI fun i j _ _ _ _ _ hc q => by
  have h1 : (0 : Int) < j := hc
  exact mod_int' (by omega) (by rw [Int.fmod_eq_emod_of_nonneg i (by omega)]; exact q)
theorem op_pow : OpR X (binaryOp .Pow) (rI CPow fun i j => .int (i ^ j.toNat)) := opI fun _ _ _ _ _ _ _ hc q => pow_int_small hc.1 hc.2.1 hc.2.2 q
theorem unI {f : Value → Sem Value} {g : Int → Int}
    (rule : ∀ (i : Int) (t : Tok) (s : Shared) (Q : Value → Shared → Prop) (E : Value → Shared → Prop), Q (.int (g i) s.toks) { s with toks := s.toks + 1 } → wpAny (model X.prog X.w) X.A (f (.int i t)) Q E s) :
    UnR X f (rU fun i => .int (g i)) := by
  intro pins s σ H x v Q I rx h
  obtain ⟨i, rfl, q⟩ := h
  obtain ⟨t, rfl⟩ := rx
  exact rule i t s _ _ ⟨.int (g i), H, I.tok _, ⟨_, rfl⟩, q⟩
theorem un_neg : UnR X (unaryOp .USub) (rU fun i => .int (-i)) := unI fun _ _ _ _ _ q => neg_int q
/-! ### bools among ints: n += (a < b) -/
end

/-! ### comparisons -/
/-- the scalars that == tells apart as data does -/
def scal : V → V → Bool
  | .non, .non => true | .non, .int _ => true | .int _, .non => true | .non, .bl _ => true | .bl _, .non => true | .non, .str _ => true | .str _, .non => true
  | .int _, .int _ => true | .bl _, .bl _ => true | .str _, .str _ => true | .byt _, .byt _ => true
  | .int _, .str _ => true | .str _, .int _ => true | .bl _, .str _ => true | .str _, .bl _ => true
  | _, _ => false
def rEq : R2 := fun x y H Q => scal x y = true ∧ Q (.bl (decide (x = y))) H
def rNe : R2 := fun x y H Q => scal x y = true ∧ Q (.bl (!decide (x = y))) H

theorem dec_int {i j : Int} : decide (V.int i = V.int j) = (i == j) := by
  rw [Bool.eq_iff_iff]
  simp
theorem dec_bl {i j : Bool} : decide (V.bl i = V.bl j) = (i == j) := by
  rw [Bool.eq_iff_iff]
  simp
theorem dec_str {i j : Str} : decide (V.str i = V.str j) = (i == j) := by
  rw [Bool.eq_iff_iff]
  simp
theorem dec_byt {i j : Array UInt8} : decide (V.byt i = V.byt j) = (i.toList == j.toList) := by
  rw [Bool.eq_iff_iff]
  cases i
  cases j
  simp

section
variable {X : Cx} {a b c : Expr} {ta tb tc : TE} {pos : Pos}
theorem fin_bl {pins : List (Addr × Obj)} {σ : St} {H : Hp} {s : Shared} {Q : VK} {k k' : Bool} (I : Inv X pins σ H s) (q : Q (.bl k) H) (e : k = k') : EP X pins σ Q (.bool k') s := by
  subst e
  exact ⟨.bl k, H, I, rfl, q⟩
theorem op_eq : OpR X (compareOp .Eq) rEq := by
  intro pins s σ H x y v u Q I rx ry h
  obtain ⟨hs, q⟩ := h
  cases x with
  | non =>
    cases rx
    cases y with
    | non => cases ry; exact PySem.EqNone.eq_none_none (fin_bl I q (by simp))
    | bl j => cases ry; exact PySem.EqNone.eq_none_bool (fin_bl I q (by simp))
    | int j => obtain ⟨t', rfl⟩ := ry; exact PySem.EqNone.eq_none_int (fin_bl I q (by simp))
    | str j => obtain ⟨t', rfl⟩ := ry; exact PySem.EqNone.eq_none_str (fin_bl I q (by simp))
    | _ => exact absurd (show false = true from hs) Bool.false_ne_true
  | bl i =>
    cases rx
    cases y with
    | non => cases ry; exact PySem.EqNone.eq_bool_none (fin_bl I q (by simp))
    | bl j => cases ry; exact eq_bool (fin_bl I q dec_bl)
    | str j => obtain ⟨t', rfl⟩ := ry; exact PySem.EqMixed.eq_bool_str (fin_bl I q (by simp))
    | _ => exact absurd (show false = true from hs) Bool.false_ne_true
  | int i =>
    obtain ⟨t, rfl⟩ := rx
    cases y with
    | non => cases ry; exact PySem.EqNone.eq_int_none (fin_bl I q (by simp))
    | int j => obtain ⟨t', rfl⟩ := ry; exact eq_int (fin_bl I q dec_int)
    | str j => obtain ⟨t', rfl⟩ := ry; exact PySem.EqMixed.eq_int_str (fin_bl I q (by simp))
    | _ => exact absurd (show false = true from hs) Bool.false_ne_true
  | str i =>
    obtain ⟨t, rfl⟩ := rx
    cases y with
    | non => cases ry; exact PySem.EqNone.eq_str_none (fin_bl I q (by simp))
    | bl j => cases ry; exact PySem.EqMixed.eq_str_bool (fin_bl I q (by simp))
    | int j => obtain ⟨t', rfl⟩ := ry; exact PySem.EqMixed.eq_str_int (fin_bl I q (by simp))
    | str j => obtain ⟨t', rfl⟩ := ry; exact eq_str (fin_bl I q dec_str)
    | _ => exact absurd (show false = true from hs) Bool.false_ne_true
  | byt i =>
    obtain ⟨t, rfl⟩ := rx
    cases y with
    | byt j => obtain ⟨t', rfl⟩ := ry; exact PySem.W.eq_bytes (fin_bl I q dec_byt)
    | _ => exact absurd (show false = true from hs) Bool.false_ne_true
  | _ => cases y <;> exact absurd (show false = true from hs) Bool.false_ne_true
theorem op_ne : OpR X (compareOp .NotEq) rNe := by
  intro pins s σ H x y v u Q I rx ry h
  obtain ⟨hs, q⟩ := h
  cases x with
  | non =>
    cases rx
    cases y with
    | non => cases ry; exact PySem.EqNone.ne_none_none (fin_bl I q (by simp))
    | bl j => cases ry; exact PySem.EqNone.ne_none_bool (fin_bl I q (by simp))
    | int j => obtain ⟨t', rfl⟩ := ry; exact PySem.EqNone.ne_none_int (fin_bl I q (by simp))
    | str j => obtain ⟨t', rfl⟩ := ry; exact PySem.EqNone.ne_none_str (fin_bl I q (by simp))
    | _ => exact absurd (show false = true from hs) Bool.false_ne_true
  | bl i =>
    cases rx
    cases y with
    | non => cases ry; exact PySem.EqNone.ne_bool_none (fin_bl I q (by simp))
    | bl j => cases ry; exact ne_bool (fin_bl I q (congrArg not dec_bl))
    | str j => obtain ⟨t', rfl⟩ := ry; exact PySem.EqMixed.ne_bool_str (fin_bl I q (by simp))
    | _ => exact absurd (show false = true from hs) Bool.false_ne_true
  | int i =>
    obtain ⟨t, rfl⟩ := rx
    cases y with
    | non => cases ry; exact PySem.EqNone.ne_int_none (fin_bl I q (by simp))
    | int j => obtain ⟨t', rfl⟩ := ry; exact ne_int (fin_bl I q (congrArg not dec_int))
    | str j => obtain ⟨t', rfl⟩ := ry; exact PySem.EqMixed.ne_int_str (fin_bl I q (by simp))
    | _ => exact absurd (show false = true from hs) Bool.false_ne_true
  | str i =>
    obtain ⟨t, rfl⟩ := rx
    cases y with
    | non => cases ry; exact PySem.EqNone.ne_str_none (fin_bl I q (by simp))
    | bl j => cases ry; exact PySem.EqMixed.ne_str_bool (fin_bl I q (by simp))
    | int j => obtain ⟨t', rfl⟩ := ry; exact PySem.EqMixed.ne_str_int (fin_bl I q (by simp))
    | str j => obtain ⟨t', rfl⟩ := ry; exact ne_str (fin_bl I q (congrArg not dec_str))
    | _ => exact absurd (show false = true from hs) Bool.false_ne_true
  | byt i =>
    obtain ⟨t, rfl⟩ := rx
    cases y with
    | byt j => obtain ⟨t', rfl⟩ := ry; exact PySem.W.ne_bytes (fin_bl I q (congrArg not dec_byt))
    | _ => exact absurd (show false = true from hs) Bool.false_ne_true
  | _ => cases y <;> exact absurd (show false = true from hs) Bool.false_ne_true

theorem op_lt : OpR X (compareOp .Lt) (rI0 fun i j => .bl (decide (i < j))) := opB0 fun _ _ _ _ _ _ _ q => lt_int q
theorem op_le : OpR X (compareOp .LtE) (rI0 fun i j => .bl (decide (i ≤ j))) := opB0 fun _ _ _ _ _ _ _ q => le_int q
theorem op_gt : OpR X (compareOp .Gt) (rI0 fun i j => .bl (decide (j < i))) := opB0 fun _ _ _ _ _ _ _ q => gt_int q
theorem op_ge : OpR X (compareOp .GtE) (rI0 fun i j => .bl (decide (j ≤ i))) := opB0 fun _ _ _ _ _ _ _ q => ge_int q
/-- two rules for one operation: by cases -/
theorem OpR.or {f : Value → Value → Sem Value} {r r' : R2} (h : OpR X f r) (h' : OpR X f r') : OpR X f (fun x y H Q => r x y H Q ∨ r' x y H Q) := by
  intro pins s σ H x y v u Q I rx ry q
  rcases q with q | q
  · exact h pins s σ H x y v u Q I rx ry q
  · exact h' pins s σ H x y v u Q I rx ry q

theorem nomark (b : Expr) {op : CmpOp} (h : op ≠ .In := by decide) (h2 : op ≠ .NotIn := by decide) : behindInMarks op b = false := by
  have e1 : (op == CmpOp.In) = false := by cases op <;> first | rfl | exact absurd rfl h
  have e2 : (op == CmpOp.NotIn) = false := by cases op <;> first | rfl | exact absurd rfl h2
  cases b <;> simp [behindInMarks, e1, e2]
/-- a comparison as a value; hm: nomark b, or (for in, not in) by with_unfolding_all rfl -/
theorem pe_cmpR {op : CmpOp} {r : R2} (ho : OpR X (compareOp op) r) (ha : PE X a ta) (hb : PE X b tb) (hm : behindInMarks op b = false) : PE X (.Compare a [op] [b] pos) (tOp r ta tb) := by
  intro pins s σ H Q I h
  exact wpAny_Compare1 (binT ha hb I h fun v u s2 x y H2 I2 rx ry q => ho pins s2 σ H2 x y v u Q I2 rx ry q) hm
/-- a reading of a value as a test -/
def tTest (t : TE) : TT := fun σ H Q => t σ H fun x H' => ∃ k, x = .bl k ∧ Q k H'
theorem pt_cmpR {op : CmpOp} {r : R2} (ho : OpR X (compareOp op) r) (ha : PE X a ta) (hb : PE X b tb) (hm : behindInMarks op b = false) : PT X (.Compare a [op] [b] pos) (tTest (tOp r ta tb)) := by
  intro pins s σ H Q I h
  refine wpAny_isTrue_Compare1 (thn (ha pins s σ H _ I h) fun v s1 ⟨x, H1, I1, r1, q1⟩ => thn (hb pins s1 σ H1 _ I1 q1) fun u s2 ⟨y, H2, I2, r2, q2⟩ =>
    thn (ho pins s2 σ H2 x y v u _ I2 r1 r2 q2) fun c s3 ⟨z, H3, I3, r3, k, e, q3⟩ => ?_) hm
  subst e
  cases r3
  exact wpAny_truthy_bool ⟨H3, I3, q3⟩
/-- a op1 b op2 c -/
def tChain (r r' : R2) (ta tb tc : TE) : TE := fun σ H Q => ta σ H fun x H1 => tb σ H1 fun y H2 => r x y H2 fun z H3 => ∃ k, z = .bl k ∧
  (if k = true then tc σ H3 fun w' H4 => r' y w' H4 Q else Q (.bl false) H3)
theorem pe_chain {op op' : CmpOp} {r r' : R2} (ho : OpR X (compareOp op) r) (ho' : OpR X (compareOp op') r') (ha : PE X a ta) (hb : PE X b tb) (hc : PE X c tc)
    (hm : lastMarks [op, op'] [b, c] = false := by with_unfolding_all rfl) : PE X (.Compare a [op, op'] [b, c] pos) (tChain r r' ta tb tc) := by
  intro pins s σ H Q I h
  refine Compare_chain (thn (ha pins s σ H _ I h) fun v s1 ⟨x, H1, I1, r1, q1⟩ => chain_link (thn (hb pins s1 σ H1 _ I1 q1) fun u s2 ⟨y, H2, I2, r2, q2⟩ =>
    thn (ho pins s2 σ H2 x y v u _ I2 r1 r2 q2) fun d s3 ⟨z, H3, I3, r3, k, e, q3⟩ => ?_)) hm
  subst e
  cases r3
  refine wpAny_truthy_bool ?_
  cases k with
  | false => exact ite_ff ⟨.bl false, H3, I3, rfl, q3⟩
  | true => exact ite_tt (chain_last (thn (hc pins s3 σ H3 _ I3 q3) fun w' s4 ⟨z', H4, I4, r4, q4⟩ => ho' pins s4 σ H4 y z' u w' Q I4 r2 r4 q4))
theorem pt_chain {op op' : CmpOp} {r r' : R2} (ho : OpR X (compareOp op) r) (ho' : OpR X (compareOp op') r') (ha : PE X a ta) (hb : PE X b tb) (hc : PE X c tc)
    (hm : lastMarks [op, op'] [b, c] = false := by with_unfolding_all rfl) : PT X (.Compare a [op, op'] [b, c] pos) (tTest (tChain r r' ta tb tc)) := by
  intro pins s σ H Q I h
  refine isTrue_chain (thn (ha pins s σ H _ I h) fun v s1 ⟨x, H1, I1, r1, q1⟩ => test_link (thn (hb pins s1 σ H1 _ I1 q1) fun u s2 ⟨y, H2, I2, r2, q2⟩ =>
    thn (ho pins s2 σ H2 x y v u _ I2 r1 r2 q2) fun d s3 ⟨z, H3, I3, r3, k, e, q3⟩ => ?_)) hm
  subst e
  cases r3
  refine wpAny_truthy_bool ?_
  cases k with
  | false =>
    obtain ⟨k', e', q'⟩ := q3
    cases e'
    exact ite_ff ⟨H3, I3, q'⟩
  | true =>
    refine ite_tt (test_last (thn (hc pins s3 σ H3 _ I3 q3) fun w' s4 ⟨z', H4, I4, r4, q4⟩ => thn (ho' pins s4 σ H4 y z' u w' _ I4 r2 r4 q4) fun d' s5 ⟨z2, H5, I5, r5, k2, e2, q5⟩ => ?_))
    subst e2
    cases r5
    exact wpAny_truthy_bool ⟨H5, I5, q5⟩

/-! ### truth -/
theorem line63 : (sizeLine : Nat) < 2 ^ 63 := by rw [sizeLine_eq]; decide
/-! ### strs and bytes -/
theorem op_add_str : OpR X (binaryOp .Add) (fun x y H Q => ∃ i j, x = .str i ∧ y = .str j ∧ i.length + j.length ≤ sizeLine ∧ Q (.str (i ++ j)) H) := by
  intro pins s σ H x y v u Q I rx ry h
  obtain ⟨i, j, rfl, rfl, hz, q⟩ := h
  obtain ⟨t, rfl⟩ := rx
  obtain ⟨t', rfl⟩ := ry
  exact add_str (fun t' tk => ⟨.str (i ++ j), H, I.tok _, ⟨_, rfl⟩, q⟩) hz
/-! ### scalar builtins, by CallR -/
theorem vals1 {x : V} {us : List Value} (r : Vals [x] us) : ∃ u, us = [u] ∧ RelV x u := by
  cases r with
  | cons r1 r2 => cases r2; exact ⟨_, rfl, r1⟩
theorem vals2 {x y : V} {us : List Value} (r : Vals [x, y] us) : ∃ u w', us = [u, w'] ∧ RelV x u ∧ RelV y w' := by
  cases r with
  | cons r1 r2 =>
    cases r2 with
    | cons r3 r4 => cases r4; exact ⟨_, _, rfl, r1, r3⟩
theorem call_abs : CallR X (.builtin "abs") (fun xs H Q => ∃ i, xs = [.int i] ∧ Q (.int (if i < 0 then -i else i)) H) := by
  intro pins s σ H xs us Q I r h
  obtain ⟨i, rfl, q⟩ := h
  obtain ⟨u, rfl, t, rfl⟩ := vals1 r
  exact call_abs_int fun u tk => ⟨.int (if i < 0 then -i else i), H, I.tok _, ⟨_, rfl⟩, q⟩
theorem call_max2 (hc : X.calm = true) : CallR X (.builtin "max") (fun xs H Q => ∃ i j, xs = [.int i, .int j] ∧ Q (.int (if j > i then j else i)) H) := by
  intro pins s σ H xs us Q I r h
  obtain ⟨i, j, rfl, q⟩ := h
  obtain ⟨u, w', rfl, ⟨t, rfl⟩, ⟨t', rfl⟩⟩ := vals2 r
  refine max_two_ints (I.ok.hd hc) fun h' tk k => ⟨_, H, I.kept k, ?_, q⟩
  by_cases hj : j > i
  · rw [if_pos hj, if_pos hj]; exact ⟨_, rfl⟩
  · rw [if_neg hj, if_neg hj]; exact ⟨_, rfl⟩
theorem call_min2 (hc : X.calm = true) : CallR X (.builtin "min") (fun xs H Q => ∃ i j, xs = [.int i, .int j] ∧ Q (.int (if j < i then j else i)) H) := by
  intro pins s σ H xs us Q I r h
  obtain ⟨i, j, rfl, q⟩ := h
  obtain ⟨u, w', rfl, ⟨t, rfl⟩, ⟨t', rfl⟩⟩ := vals2 r
  refine min_two_ints (I.ok.hd hc) fun h' tk k => ⟨_, H, I.kept k, ?_, q⟩
  by_cases hj : j < i
  · rw [if_pos hj, if_pos hj]; exact ⟨_, rfl⟩
  · rw [if_neg hj, if_neg hj]; exact ⟨_, rfl⟩
theorem call_int1 : CallR X (.type "int") (fun xs H Q => (∃ i, xs = [.int i] ∧ Q (.int i) H) ∨ ∃ k, xs = [.bl k] ∧ Q (.int (if k then 1 else 0)) H) := by
  intro pins s σ H xs us Q I r h
  rcases h with ⟨i, rfl, q⟩ | ⟨k, rfl, q⟩
  · obtain ⟨u, rfl, t, rfl⟩ := vals1 r
    exact call_int_int ⟨.int i, H, I, ⟨_, rfl⟩, q⟩
  · obtain ⟨u, rfl, r1⟩ := vals1 r
    cases r1
    exact call_int_bool ⟨.int (if k then 1 else 0), H, I.tok _, ⟨_, rfl⟩, q⟩
end
end L2

namespace L2
open PySem PySem.Spec PyProof.Rows

/-! ### an instance, its attributes a map -/
structure ObjM (h : Heap) (x dx C : Addr) (mA : Str → Option Value) : Prop where
  obj : h.get? x = some (PySem.W.instObj C dx)
  ns : h.Ns1 dx mA
  ne : dx ≠ x

theorem lookIn_ns {h : Heap} {dx : Addr} {mA : Str → Option Value} (n : h.Ns1 dx mA) : ∃ od, h.get? dx = some od ∧ ∀ name, PySem.W.lookIn name od = some (mA name) := by
  obtain ⟨o, es, ep, ho, hd, hk, _, hm⟩ := n
  refine ⟨o, ho, fun name => ?_⟩
  have e := hm name
  unfold nsFind findBy at e
  rw [← Array.find?_toList] at e
  unfold PySem.W.lookIn
  rw [hd]
  dsimp only
  split
  · rename_i y q
    rw [q] at e
    exact congrArg some e
  · rename_i q
    rw [q] at e
    have a : es.toList.any (·.refKey) = false := by
      rw [List.any_eq_false]
      intro y hy
      obtain ⟨z, t, hkey⟩ := hk y (Array.mem_toList_iff.mp hy)
      simp [DictEntry.refKey, hkey]
    have a' : ¬ es.toList.any (·.refKey) = true := by rw [a]; exact Bool.false_ne_true
    rw [if_neg a']
    exact congrArg some e

theorem ObjM.look {h : Heap} {x dx C : Addr} {mA : Str → Option Value} (I : ObjM h x dx C mA) : ∃ od, PySem.W.InstAt h x (PySem.W.instObj C dx) C (some od) ∧ ∀ name, PySem.W.lookIn name od = some (mA name) :=
  let ⟨od, ho, hl⟩ := lookIn_ns I.ns
  ⟨od, ⟨I.obj, rfl, rfl, ho⟩, hl⟩

section
variable {prog : Program} {w : World} {A : Around} {E : Value → Shared → Prop} {s : Shared} {K : PySem.W.Frag} {x dx C f : Addr} {mA : Str → Option Value} {name : Str} {v : Value}

theorem get_map {expr : Bool} {Q : Value → Shared → Prop} (X : K.In s.heap) (I : ObjM s.heap x dx C mA) (hg : PySem.W.plainGet K C name = true) (hh : PySem.W.hasDictIn K C = true)
    (ha : PySem.W.findIn K (.ref C) name = some none) (hv : mA name = some v) (hv' : PySem.W.handedIn v = true) (h : Q v { s with toks := s.toks + 1 }) :
    wpAny (model prog w) A (getAttr (.ref x) name expr) Q E s := by
  obtain ⟨od, J, hl⟩ := I.look
  exact PySem.W.get_value X J (PySem.W.plainGet_of hg).1 (PySem.W.findObj_own hh ha rfl (by rw [hl, hv])) hv' h

theorem get_meth {pl : Sem Bool} {Q : Value × List Value → Shared → Prop} (X : K.In s.heap) (I : ObjM s.heap x dx C mA) (hg : PySem.W.plainGet K C name = true)
    (hf : PySem.W.findIn K (.ref C) name = some (some (.ref f))) (ht : PySem.W.isFn K (.ref f) = true) (hv : mA name = none) (h : Q (.ref f, [.ref x]) s) :
    wpAny (model prog w) A (getMethod (.ref x) name pl) Q E s := by
  obtain ⟨od, J, hl⟩ := I.look
  exact PySem.W.method_fn X J (PySem.W.plainGet_of hg).1 (PySem.W.plainGet_of hg).2 hf (beq_iff_eq.mp ht) (by show (PySem.W.lookIn name od).map (·.isSome) = some false; rw [hl, hv]; rfl) h

theorem set_map {ns : List Str} {Q : Unit → Shared → Prop} (X : K.In s.heap) (I : ObjM s.heap x dx C mA)
    (hs : PySem.W.findIn K (.ref C) "__setattr__" = some (some (.builtin "object.__setattr__"))) (hp : PySem.W.plainOver K C = true) (ht : PySem.W.takerIn K C name = some none) (hh : PySem.W.hasDictIn K C = true)
    (hw : PySem.Within mA ns) (hsz : ns.length ≤ sizeLine)
    (h : ∀ h', ObjM h' x dx C (fun y => if y = name then some v else mA y) → Heap.SameBut dx s.heap h' → Q () { s with heap := h', toks := s.toks + 2 }) :
    wpAny (model prog w) A (setAttr (.ref x) name v) Q E s := by
  obtain ⟨od, J, hl⟩ := I.look
  refine PySem.W.set_plain X J hs (PySem.W.osa_open (s := { s with toks := s.toks + 1 }) (r := none) X J hp ht fun b => ?_)
  obtain ⟨cd, hc, hd'⟩ := PySem.W.any_some hh
  have hx : s.heap.get? x = some ⟨.ref C, some dx, .plain, #[]⟩ := I.obj
  refine wpAny_bind (wpAny_pure (wpAny_bind (wpAny_bind (wpAny_loadPart hx (wpAny_bind (PySem.W.Looks.here (s := { s with toks := s.toks + 1 }) (PySem.W.looks_clsIn X hc) ?_))))))
  rw [hd']
  refine wpAny_pure (a := some dx) (wpAny_bind (wpAny_pure (wpAny_bind ?_)))
  refine wpAny_nsSet1 (s := { s with toks := s.toks + 1 }) I.ns fun h' hn2 hs2 => ?_
  obtain ⟨oD, esD, epD, hoD, hdD, hcD⟩ := hn2.count (PySem.Within.cons name v hw)
  refine wpAny_bind (wpAny_lookBehind hoD (by rw [hdD]; exact pastItsLine_dict (Nat.le_trans hcD (by rw [List.length_cons]; omega))) ?_)
  exact wpAny_pure (h _ ⟨(hs2.2 _ (Ne.symm I.ne)).trans I.obj, hn2, I.ne⟩ hs2)

/-- C(..): the dict at the heap's end, the instance behind it; then its __init__ -/
theorem make_map {R : Result → Shared → Prop} {vs : List Value} {kw : List (Str × Value)} (X : K.In s.heap) (hm : PySem.W.makesIn K C = true)
    (hi : PySem.W.findIn K (.ref C) "__init__" = some (some (.ref f))) (hf : PySem.W.typeIn K (.ref f) = some (.type "function"))
    (h : codeAny (model prog w) (A.under (.builtin "type.__call__" ⟨.ref C :: vs, kw⟩)) (.call (.ref f) ⟨.ref (s.heap.objs.size + 1) :: vs, kw⟩) (PySem.W.InitBack (s.heap.objs.size + 1) R)
      { s with heap := (s.heap.push PySem.W.emptyDict).push (PySem.W.instObj C s.heap.objs.size) }) :
    codeAny (model prog w) A (.call (.ref C) ⟨vs, kw⟩) R s := by
  obtain ⟨hh, g, d, t, os⟩ := s
  exact PySem.W.make_core (PySem.W.makes_of X hm) (PySem.W.looks_findIn X hi) (fun self => PySem.W.bind_fn X self hf) (.inl rfl) h
end

/-! ### the attributes as a list of pairs -/
def putF (f : Str) (v : V) : List (Str × V) → List (Str × V)
  | [] => [(f, v)]
  | (g, x) :: r => if g = f then (g, v) :: r else (g, x) :: putF f v r
theorem lookup_putF (f g : Str) (v : V) : ∀ fs : List (Str × V), (putF f v fs).lookup g = if g = f then some v else fs.lookup g
  | [] => by
    show List.lookup g [(f, v)] = _
    by_cases h : g = f
    · have hb : (g == f) = true := beq_iff_eq.mpr h
      simp only [List.lookup, hb, if_pos h]
    · have hb : (g == f) = false := beq_eq_false_iff_ne.mpr h
      simp only [List.lookup, hb, if_neg h]
  | (k, x) :: r => by
    have ih := lookup_putF f g v r
    rw [show putF f v ((k, x) :: r) = (if k = f then (k, v) :: r else (k, x) :: putF f v r) from rfl]
    by_cases hk : k = f
    · rw [if_pos hk]
      by_cases h : g = k
      · have hb : (g == k) = true := beq_iff_eq.mpr h
        simp only [List.lookup, hb, if_pos (h.trans hk)]
      · have hb : (g == k) = false := beq_eq_false_iff_ne.mpr h
        simp only [List.lookup, hb, if_neg (fun e : g = f => h (e.trans hk.symm))]
    · rw [if_neg hk]
      by_cases h : g = k
      · have hb : (g == k) = true := beq_iff_eq.mpr h
        simp only [List.lookup, hb, if_neg (fun e : g = f => hk (h.symm.trans e))]
      · have hb : (g == k) = false := beq_eq_false_iff_ne.mpr h
        simp only [List.lookup, hb]
        exact ih
theorem keys_putF (f : Str) (v : V) : ∀ fs : List (Str × V), f ∈ (putF f v fs).map (·.1) ∧ ∀ g, g ∈ fs.map (·.1) → g ∈ (putF f v fs).map (·.1)
  | [] => ⟨by simp [putF], fun g h => by simp at h⟩
  | (k, x) :: r => by
    obtain ⟨i1, i2⟩ := keys_putF f v r
    rw [show putF f v ((k, x) :: r) = (if k = f then (k, v) :: r else (k, x) :: putF f v r) from rfl]
    by_cases hk : k = f
    · rw [if_pos hk]
      subst hk
      exact ⟨by simp, fun g h => by simpa using h⟩
    · rw [if_neg hk]
      refine ⟨?_, fun g h => ?_⟩
      · rw [List.map_cons]
        exact List.mem_cons_of_mem _ i1
      · rw [List.map_cons] at h ⊢
        rcases List.mem_cons.mp h with e | e
        · exact List.mem_cons.mpr (.inl e)
        · exact List.mem_cons_of_mem _ (i2 g e)
theorem length_putF (f : Str) (v : V) : ∀ fs : List (Str × V), (putF f v fs).length ≤ fs.length + 1
  | [] => by simp [putF]
  | (k, x) :: r => by
    have ih := length_putF f v r
    rw [show putF f v ((k, x) :: r) = (if k = f then (k, v) :: r else (k, x) :: putF f v r) from rfl]
    by_cases hk : k = f
    · rw [if_pos hk, List.length_cons, List.length_cons]; omega
    · rw [if_neg hk, List.length_cons, List.length_cons]; omega

theorem RelO.some_of {v : V} {o : Option Value} (r : RelO (some v) o) : ∃ u, o = some u ∧ RelV v u := by
  cases o with
  | none => exact (show False from r).elim
  | some u => exact ⟨u, rfl, r⟩
theorem RelO.none_of {o : Option Value} (r : RelO none o) : o = none := by
  cases o with
  | none => rfl
  | some u => exact (show False from r).elim
theorem handed_of {v : V} {u : Value} (r : RelV v u) : PySem.W.handedIn u = true := by
  cases v with
  | non => cases (show u = Value.none from r); rfl
  | bl b => cases (show u = Value.bool b from r); rfl
  | int i => obtain ⟨t, e⟩ := (show ∃ t, u = Value.int i t from r); cases e; rfl
  | str x => obtain ⟨t, e⟩ := (show ∃ t, u = Value.str x t from r); cases e; rfl
  | byt b => obtain ⟨t, e⟩ := (show ∃ t, u = Value.bytes b t from r); cases e; rfl
  | flt b => obtain ⟨t, e⟩ := (show ∃ t, u = Value.float b t from r); cases e; rfl
  | ref a => cases (show u = Value.ref a from r); rfl
  | ty n => cases (show u = Value.type n from r); rfl

section
variable {P : Program} {w : World} {H H' : Hp} {h h' : Heap} {a C dx : Addr} {fs fs' : List (Str × V)}
theorem ins_get (hok : HOk P w H h) (e : H a = some (.ins C dx fs)) : ∃ mA, ObjM h a dx C mA ∧ (∀ f, RelO (fs.lookup f) (mA f)) ∧ PySem.Within mA (fs.map (·.1)) ∧ fs.length ≤ 1000 ∧ H dx = some (.own a) := by
  obtain ⟨d, z, ne, ob, mA, n, r, q⟩ := (show ObjOk P w H h a (.ins C dx fs) from hok a _ e)
  exact ⟨mA, ⟨ob, n, ne⟩, r, q, z, d⟩
end

/-! ### what of the text a class must have -/
structure Cls (K : PySem.W.Frag) (C : Addr) : Prop where
  pg : PySem.W.plainGet K C Str.empty = true
  hd : PySem.W.hasDictIn K C = true
  po : PySem.W.plainOver K C = true
  sa : PySem.W.findIn K (.ref C) "__setattr__" = some (some (.builtin "object.__setattr__"))
theorem Cls.get {K : PySem.W.Frag} {C : Addr} (c : Cls K C) (f : Str) : PySem.W.plainGet K C f = true := c.pg
/-- no class of it has the name -/
def NoAttr (K : PySem.W.Frag) (C : Addr) (f : Str) : Prop := PySem.W.findIn K (.ref C) f = some none
theorem NoAttr.taker {K : PySem.W.Frag} {C : Addr} {f : Str} (n : NoAttr K C f) : PySem.W.takerIn K C f = some none := by
  unfold PySem.W.takerIn
  rw [show PySem.W.findIn K (.ref C) f = some none from n]
  rfl
/-- a method: a plain def of the class or of one above it -/
structure Meth (K : PySem.W.Frag) (C : Addr) (m : Str) (f : Addr) : Prop where
  at_ : PySem.W.findIn K (.ref C) m = some (some (.ref f))
  fn : PySem.W.isFn K (.ref f) = true
  kp : PySem.W.keepIn K (.ref f) = true

section
variable {X : Cx} {pins : List (Addr × Obj)} {σ : St} {H : Hp} {s : Shared} {a C dx : Addr} {fs : List (Str × V)} {f : Str} {v : V} {A : Around} {E : Value → Shared → Prop}

theorem getattr_ok {b : Bool} {Q : Value → Shared → Prop} (I : Inv X pins σ H s) (e : H a = some (.ins C dx fs)) (c : Cls X.K C) (n : NoAttr X.K C f) (l : fs.lookup f = some v)
    (h : ∀ u s', Inv X pins σ H s' → RelV v u → Q u s') : wpAny (model X.prog X.w) A (getAttr (.ref a) f b) Q E s := by
  obtain ⟨mA, O, r, _, _, _⟩ := ins_get I.hok e
  obtain ⟨u, hu, ru⟩ := RelO.some_of (v := v) (o := mA f) (by rw [← l]; exact r f)
  exact get_map I.kIn O (c.get f) c.hd n hu (handed_of ru) (h u _ (I.tok _) ru)

theorem getmeth_ok {m : Str} {g : Addr} {pl : Sem Bool} {Q : Value × List Value → Shared → Prop} (I : Inv X pins σ H s) (e : H a = some (.ins C dx fs)) (c : Cls X.K C) (k : Meth X.K C m g) (l : fs.lookup m = none)
    (h : Q (.ref g, [.ref a]) s) : wpAny (model X.prog X.w) A (getMethod (.ref a) m pl) Q E s := by
  obtain ⟨mA, O, r, _, _, _⟩ := ins_get I.hok e
  have hn : mA m = none := RelO.none_of (by rw [← l]; exact r m)
  exact get_meth I.kIn O (c.get m) k.at_ k.fn hn h

theorem setattr_ok {y : V} {u : Value} {Q : Unit → Shared → Prop} (I : Inv X pins σ H s) (e : H a = some (.ins C dx fs)) (c : Cls X.K C) (n : NoAttr X.K C f) (hl : fs.length < 1000) (ry : RelV y u)
    (h : ∀ s', Inv X pins σ (upd H a (.ins C dx (putF f y fs))) s' → Q () s') : wpAny (model X.prog X.w) A (setAttr (.ref a) f u) Q E s := by
  obtain ⟨mA, O, r, wi, _, ho⟩ := ins_get I.hok e
  have hz : (fs.map (·.1)).length ≤ sizeLine := by rw [List.length_map, sizeLine_eq]; omega
  refine set_map I.kIn O c.sa c.po n.taker c.hd wi hz fun h' O' sb => h _ ?_
  have hd : ∃ o, h'.get? dx = some o := let ⟨o, _, _, e', _⟩ := O'.ns; ⟨o, e'⟩
  refine I.write (x := a) (e := dx) (by rw [e]; exact True.intro) (.inr ho) (fun b q hb z => (sb.2 b hb).trans z) hd ?_
  refine ⟨by rw [upd_ne O.ne]; exact ho, ?_, O.ne, O'.obj, _, O'.ns, fun g => ?_, fun g hg => ?_⟩
  · have := length_putF f y fs; omega
  · show RelO ((putF f y fs).lookup g) (if g = f then some u else mA g)
    rw [lookup_putF]
    by_cases q : g = f
    · rw [if_pos q, if_pos q]; exact ry
    · rw [if_neg q, if_neg q]; exact r g
  · by_cases q : g = f
    · rw [q]; exact (keys_putF f y fs).1
    · refine (keys_putF f y fs).2 g (wi g fun z => hg ?_)
      show (if g = f then some u else mA g) = none
      rw [if_neg q]; exact z

/-- a new instance, tracked, without attributes -/
theorem Inv.made (I : Inv X pins σ H s) : Inv X pins σ (upd (upd H s.heap.objs.size (.own (s.heap.objs.size + 1))) (s.heap.objs.size + 1) (.ins C s.heap.objs.size []))
    { s with heap := (s.heap.push PySem.W.emptyDict).push (PySem.W.instObj C s.heap.objs.size) } := by
  have e1 : (s.heap.push PySem.W.emptyDict).get? s.heap.objs.size = some PySem.W.emptyDict := Heap.get?_push_size s.heap rfl
  have e2 : ((s.heap.push PySem.W.emptyDict).push (PySem.W.instObj C s.heap.objs.size)).get? (s.heap.objs.size + 1) = some (PySem.W.instObj C s.heap.objs.size) := by
    have := Heap.get?_push_size (s.heap.push PySem.W.emptyDict) (o := PySem.W.instObj C s.heap.objs.size) rfl
    rwa [Heap.size_push] at this
  have e3 : (s.heap.push PySem.W.emptyDict).Ns s.heap.objs.size (fun _ => none) := ⟨PySem.W.emptyDict, #[], _, e1, rfl, (fun e he => absurd he (by simp)), fun _ => rfl⟩
  have I1 := I.laid (a := s.heap.objs.size) (o := .own (s.heap.objs.size + 1)) (h' := s.heap.push PySem.W.emptyDict) (t' := s.toks) (fun b u q => Heap.get?_push_of_some _ q) (Nat.le_refl _) ⟨_, e1⟩
  refine I1.laid (a := s.heap.objs.size + 1) (o := .ins C s.heap.objs.size []) (t' := s.toks) (fun b u q => Heap.get?_push_of_some _ q) (Nat.le_of_eq (Heap.size_push _ _)) ?_
  have ne : s.heap.objs.size ≠ s.heap.objs.size + 1 := Nat.ne_of_lt (Nat.lt_succ_self _)
  refine ⟨by rw [upd_ne ne, upd_same], Nat.zero_le _, ne, e2, fun _ => none, (Heap.Ns1.of_empty e3).at fun o q => Heap.get?_push_of_some _ q, fun _ => True.intro, fun y hy => absurd rfl hy⟩

/-- e.f where nothing but the object is asked: through attributeBase (super) and the last hold -/
theorem attr_of {prog : Program} {w : World} {env : Env} {e : Expr} {f : Str} {pos : Pos} {s : Shared} {Q : Value → Shared → Prop} (hb : attributeBase e f env (eval e env) = eval e env)
    (h : wpAny (model prog w) A (eval e env) (fun o s₁ => wpAny (model prog w) A (getAttr o f true) Q E s₁) E s) : wpAny (model prog w) A (eval (.Attribute e f pos) env) Q E s :=
  Attribute_any_ h (by rw [arm_eval_Attribute, hb])
end

/-! ### readings and rules -/
/-- e.f, an attribute of the instance -/
def tFld (K : PySem.W.Frag) (ta : TE) (f : Str) : TE := fun σ H Q => ta σ H fun x H1 => ∃ a C dx fs v, x = .ref a ∧ H1 a = some (.ins C dx fs) ∧ Cls K C ∧ NoAttr K C f ∧ fs.lookup f = some v ∧ Q v H1
/-- e.f = value -/
def sFld (K : PySem.W.Frag) (ta tv : TE) (f : Str) : TS := fun D σ H => tv σ H fun y H1 => ta σ H1 fun x H2 => ∃ a C dx fs, x = .ref a ∧ H2 a = some (.ins C dx fs) ∧ Cls K C ∧ NoAttr K C f ∧ fs.length < 1000 ∧
  D.nx σ (upd H2 a (.ins C dx (putF f y fs)))
section
variable {X : Cx} {o e value : Expr} {f : Str} {pos pos' tpos : Pos} {ta tv : TE}
theorem pe_fld (he : PE X e ta) (hb : attributeBase e f X.env (eval e X.env) = eval e X.env) : PE X (.Attribute e f pos) (tFld X.K ta f) := by
  intro pins s σ H Q I h
  refine attr_of hb (thn (he pins s σ H _ I h) fun u s1 ⟨x, H1, I1, rx, a, C, dx, fs, v, ex, ea, c, n, l, q⟩ => ?_)
  subst ex
  obtain rfl : u = Value.ref a := rx
  exact getattr_ok I1 ea c n l fun u' s2 I2 ru => ⟨v, H1, I2, ru, q⟩
theorem ps_fld (ha : PE X o ta) (hv : PE X value tv) (hs : swapsWith value (some (.Attribute o f pos')) pos.line X.env = pure false) : PS X (.Assign [.Attribute o f pos'] value pos) (sFld X.K ta tv f) := by
  intro pins s σ H D I h
  refine plainObj_wpAny_Assign_Attribute (thn (hv pins s σ H _ I h) fun u s1 ⟨y, H1, I1, ry, q⟩ => thn (ha pins s1 σ H1 _ I1 q) fun ov s2 ⟨x, H2, I2, rx, a, C, dx, fs, ex, ea, c, n, l, q2⟩ => ?_) hs
  subst ex
  obtain rfl : ov = Value.ref a := rx
  exact setattr_ok I2 ea c n l ry fun s3 I3 => ⟨σ, _, I3, q2⟩
end

/-! ### isinstance -/
section
variable {X : Cx} {pins : List (Addr × Obj)} {σ : St} {H : Hp} {s : Shared} {A : Around} {E : Value → Shared → Prop} {Q : Value → Shared → Prop} {c : Value} {b : Bool}
/-- the type of a value, as the fragment's deciders take it; for an instance its class -/
inductive TyOf (K : PySem.W.Frag) (H : Hp) : V → Value → Prop where
  | non : TyOf K H .non (.type "NoneType")
  | bl (x : Bool) : TyOf K H (.bl x) (.type "bool")
  | int (i : Int) : TyOf K H (.int i) (.type "int")
  | str (x : Str) : TyOf K H (.str x) (.type "str")
  | flt (x : UInt64) : TyOf K H (.flt x) (.type "float")
  | lst {a : Addr} {xs : List V} (e : H a = some (.lst xs)) : TyOf K H (.ref a) (.type "list")
  | frz {a : Addr} {o : Obj} {xs : List V} (e : H a = some (.frz o (.lst xs))) : TyOf K H (.ref a) (.type "list")
  | tup {a : Addr} {xs : List V} (e : H a = some (.tup xs)) : TyOf K H (.ref a) (.type "tuple")
  | dK {a : Addr} {kvs : List (Key × V)} (e : H a = some (.dK kvs)) : TyOf K H (.ref a) (.type "dict")
  | dT {a : Addr} {kvs : List (List Key × V)} (e : H a = some (.dT kvs)) : TyOf K H (.ref a) (.type "dict")
  | ins {a C dx : Addr} {fs : List (Str × V)} (e : H a = some (.ins C dx fs)) (cl : Cls K C) (ha : PySem.W.findIn K (.ref C) "__class__" = some (some (.builtin "object.__class__")))
      (hn : PySem.W.specialIn K (.builtin "object.__class__") "__get__" = some (some (.builtin "getset_descriptor.__get__"))) (htk : PySem.W.takesIn K (.builtin "object.__class__") = some true)
      (hm : PySem.W.mroIn K C (.type "object") = some true) : TyOf K H (.ref a) (.ref C)
/-- isinstance(x, c) for one class c, a built-in or an own one: kitOne's answer -/
theorem isinst_ok {x : V} {u t : Value} (I : Inv X pins σ H s) (rx : RelV x u) (ty : TyOf X.K H x t) (e : PySem.W.kitOne X.K t c = some b) (h : ∀ tk, Q (.bool b) { s with toks := tk }) :
    wpAny (model X.prog X.w) A (call (.builtin "isinstance") [u, c]) Q E s := by
  cases ty with
  | non => cases (show u = Value.none from rx); exact PySem.W.kia_one PySem.W.kitx_none I.kIn True.intro e (fun z => nomatch z) h
  | bl y => cases (show u = Value.bool y from rx); exact PySem.W.kia_one PySem.W.kitx_bool I.kIn True.intro e (fun z => nomatch z) h
  | int i => obtain ⟨t, q⟩ := (show ∃ t, u = Value.int i t from rx); cases q; exact PySem.W.kia_one PySem.W.kitx_int I.kIn True.intro e (fun z => nomatch z) h
  | str y => obtain ⟨t, q⟩ := (show ∃ t, u = Value.str y t from rx); cases q; exact PySem.W.kia_one PySem.W.kitx_str I.kIn True.intro e (fun z => nomatch z) h
  | flt y => obtain ⟨t, q⟩ := (show ∃ t, u = Value.float y t from rx); cases q; exact PySem.W.kia_one PySem.W.kitx_float I.kIn True.intro e (fun z => nomatch z) h
  | @lst a xs ea =>
    cases (show u = Value.ref a from rx)
    obtain ⟨_, _, n, _, h1⟩ := (show ObjOk X.prog X.w H s.heap a (.lst xs) from I.hok a _ ea)
    exact PySem.W.kia_one PySem.W.kitx_list I.kIn ⟨_, h1, rfl⟩ e (fun z => nomatch z) h
  | @frz a ob xs ea =>
    cases (show u = Value.ref a from rx)
    obtain ⟨_, _, _, n, _, h1⟩ := (show ObjOk X.prog X.w H s.heap a (.frz ob (.lst xs)) from I.hok a _ ea)
    exact PySem.W.kia_one PySem.W.kitx_list I.kIn ⟨_, h1, rfl⟩ e (fun z => nomatch z) h
  | @tup a xs ea =>
    cases (show u = Value.ref a from rx)
    obtain ⟨_, _, _, p⟩ := (show ObjOk X.prog X.w H s.heap a (.tup xs) from I.hok a _ ea)
    obtain ⟨o, h1, h2, _⟩ := p
    exact PySem.W.kia_one PySem.W.kitx_tuple I.kIn ⟨o, h1, h2⟩ e (fun z => nomatch z) h
  | @dK a kvs ea =>
    cases (show u = Value.ref a from rx)
    obtain ⟨_, _, vs, _, p⟩ := (show ObjOk X.prog X.w H s.heap a (.dK kvs) from I.hok a _ ea)
    obtain ⟨o, es, ep, h1, h2, _⟩ := p
    exact PySem.W.kia_one PySem.W.kitx_dict I.kIn ⟨o, h1, h2.1⟩ e (fun z => nomatch z) h
  | @dT a kvs ea =>
    cases (show u = Value.ref a from rx)
    obtain ⟨_, _, xs, _, o, es, ep, h1, h2, _⟩ := (show ObjOk X.prog X.w H s.heap a (.dT kvs) from I.hok a _ ea)
    exact PySem.W.kia_one PySem.W.kitx_dict I.kIn ⟨o, h1, h2.1⟩ e (fun z => nomatch z) h
  | @ins a C dx fs ea cl ha hn htk hm =>
    cases (show u = Value.ref a from rx)
    obtain ⟨mA, O, _⟩ := ins_get I.hok ea
    obtain ⟨od, J, _⟩ := O.look
    exact PySem.W.kia_one (PySem.W.kitx_own (cl.get _) cl.hd ha hn htk hm) I.kIn J e (fun z => nomatch z) h
end
end L2

namespace L2
open PySem PySem.Spec PyProof.Rows

/-! ### room -/
structure Room (k : Nat) (A : Around) : Prop where
  hd : A.handled = none
  dp : A.depth + 3 * k + 5 < recursionLimit
  un : A.units + 16 * k + 200 < cLine
theorem Room.mono {j k : Nat} {A : Around} (r : Room k A) (h : j ≤ k) : Room j A := ⟨r.hd, by have := r.dp; omega, by have := r.un; omega⟩
theorem Room.deeper {k : Nat} {A : Around} (r : Room (k + 1) A) (env : Env) : Room k (A.deeper env) :=
  ⟨r.hd, by have := r.dp; show A.depth + 1 + 3 * k + 5 < _; omega, by have := r.un; show A.units + 3 + 16 * k + 200 < _; omega⟩
theorem Room.in1 {k : Nat} {A : Around} (r : Room (k + 1) A) : Room k A.in1 :=
  ⟨r.hd, by have := r.dp; show A.depth + 3 * k + 5 < _; omega, by have := r.un; show A.units + 1 + 16 * k + 200 < _; omega⟩
theorem make_depth {A : Around} {C : Addr} {us : List Value} {kw : List (Str × Value)} : (A.under (.builtin "type.__call__" ⟨.ref C :: us, kw⟩)).depth = A.depth + 1 := by
  first | rfl | simp [Around.under, Code.weight, Code.isCreation, Code.isGuard, Code.isCaller, Code.frames, Code.isFrame, guardIds]
theorem make_units {A : Around} {C : Addr} {us : List Value} {kw : List (Str × Value)} : (A.under (.builtin "type.__call__" ⟨.ref C :: us, kw⟩)).units = A.units + 1 := by
  first | rfl | simp [Around.under, Code.cUnits, Code.frames, Code.isFrame]
theorem Room.make {k : Nat} {A : Around} (r : Room (k + 1) A) (C : Addr) (us : List Value) (kw : List (Str × Value)) : Room k (A.under (.builtin "type.__call__" ⟨.ref C :: us, kw⟩)) :=
  ⟨r.hd, by have := r.dp; rw [make_depth]; omega, by have := r.un; rw [make_units]; omega⟩
theorem Room.depth {k : Nat} {A : Around} (r : Room k A) : A.depth < recursionLimit := by have := r.dp; omega
theorem Room.units {k : Nat} {A : Around} (r : Room k A) : A.units + 64 < cLine := by have := r.un; omega
theorem Room.units0 {k : Nat} {A : Around} (r : Room k A) : A.units < cLine := by have := r.un; omega

/-! ### argument lists and displays -/
def tNil : TA := fun _ H Q => Q [] H
def tCons (ta : TE) (tr : TA) : TA := fun σ H Q => ta σ H fun x H1 => tr σ H1 fun xs H2 => Q (x :: xs) H2
section
variable {X : Cx} {e : Expr} {es : List Expr} {te : TE} {t : TA} {pos : Pos}
theorem pa_nil : PA X [] tNil := fun _ _ _ _ H Q I h => Calls.spliced_nil ⟨[], H, I, .nil, h⟩
theorem pa_cons (ha : PE X e te) (hr : PA X es t) (hs : starEach (e :: es) X.env = (false, eval e X.env) :: starEach es X.env := by rfl) : PA X (e :: es) (tCons te t) := by
  intro pos pins s σ H Q I h
  rw [hs]
  show wpAny _ _ (spliced ((false, eval e X.env) :: backTo pos (starEach es X.env))) _ _ s
  refine Calls.spliced_cons (thn (ha pins s σ H _ I h) fun u s1 ⟨x, H1, I1, r1, q1⟩ => ?_)
  exact thn (hr pos pins s1 σ H1 _ I1 q1) fun us s2 ⟨xs, H2, I2, r2, q2⟩ => ⟨x :: xs, H2, I2, .cons r1 r2, q2⟩

/-- a tuple, a list of written items -/
def tTup (t : TA) : TE := fun σ H Q => t σ H fun xs H1 => xs.length ≤ sizeLine ∧ ∀ p, H1 p = none → Q (.ref p) (upd H1 p (.tup xs))
def tLst (t : TA) : TE := fun σ H Q => t σ H fun xs H1 => xs.length ≤ sizeLine ∧ ∀ p, H1 p = none → Q (.ref p) (upd H1 p (.lst xs))
theorem pe_tup {x1} (h : PA X es t) : PE X (.Tuple es x1 pos) (tTup t) := by
  intro pins s σ H Q I hq
  refine wpAny_Tuple_spliced (thn (h pos pins s σ H _ I hq) fun us s1 ⟨xs, H1, I1, r, z, q⟩ => ⟨by rw [← r.length]; exact z, ?_⟩)
  have hf : H1 s1.heap.objs.size = none := I1.hok.fresh (Nat.le_refl _)
  refine ⟨.ref s1.heap.objs.size, upd H1 s1.heap.objs.size (.tup xs), I1.laid (t' := s1.toks) (fun b u e => Heap.get?_push_of_some _ e) (Nat.le_refl _) ?_, rfl, q _ hf⟩
  exact ⟨z, us, r, ⟨_, Heap.get?_push_size _ rfl, rfl, _, rfl⟩⟩
theorem pe_lst (h : PA X es t) : PE X (.List es pos) (tLst t) := by
  intro pins s σ H Q I hq
  refine wpAny_List_spliced (thn (h pos pins s σ H _ I hq) fun us s1 ⟨xs, H1, I1, r, z, q⟩ => ⟨by rw [← r.length]; exact z, ?_⟩)
  have hf : H1 s1.heap.objs.size = none := I1.hok.fresh (Nat.le_refl _)
  refine ⟨.ref s1.heap.objs.size, upd H1 s1.heap.objs.size (.lst xs), I1.laid (t' := s1.toks) (fun b u e => Heap.get?_push_of_some _ e) (Nat.le_refl _) ?_, rfl, q _ hf⟩
  exact ⟨z, us, 0, r, Heap.get?_push_size _ rfl⟩
end

/-! ### what a def promises -/
/-- a def's promise: the bound arguments in the parameters' order, the heap, the wanted end, the wanted exception -/
abbrev Sp := List V → Hp → VK → XK → Prop
/-- how an exception lies behind a call (file 08 gives it): the callers' frames, abstract heap and state ahead of the call, the wish, the exception, the state -/
abbrev CXT := List Env → Hp → Shared → XK → Value → Shared → Prop

/-- the state at a call -/
structure Env0 (P : Program) (w : World) (K : PySem.W.Frag) (mg : Str → Option Value) (base : Heap) (A : Around) (outer : List Env) (s : Shared) (H : Hp) : Prop where
  frames : A.frames = some outer
  mod : Mod K mg base
  bs : ∀ b o, base.get? b = some o → s.heap.get? b = some o ∧ H b = none
  bsz : base.objs.size ≤ s.heap.objs.size
  funs : s.heap.FunFrames base outer
  frf : ∀ b ∈ frs outer, H b = none
  hok : HOk P w H s.heap
  bare : AllBare s.gens
/-- a call's end -/
def CE (outer : List Env) (P : Program) (w : World) (H : Hp) (s : Shared) (Q : VK) (u : Value) (s' : Shared) : Prop :=
  ∃ v H', s'.os = s.os ∧ AllBare s'.gens ∧ Un (frs outer) [] H H' s.heap s'.heap ∧ HOk P w H' s'.heap ∧ RelV v u ∧ Q v H'
def CR (CX : CXT) (outer : List Env) (P : Program) (w : World) (H : Hp) (s : Shared) (Q : VK) (E : XK) (r : Result) (s' : Shared) : Prop :=
  match r with
  | .ok (.ret u) => CE outer P w H s Q u s'
  | .ok _ => False
  | .error e => CX outer H s E e s'
structure FnOk (P : Program) (w : World) (K : PySem.W.Frag) (mg : Str → Option Value) (base : Heap) (CX : CXT) (k : Nat) (f : Addr) (fd : FuncData) (ps : List Str) (sp : Sp) : Prop where
  len : ∀ vs H Q E, sp vs H Q E → vs.length = ps.length
  run : ∀ (A : Around) (outer : List Env) (s : Shared) (H : Hp) (args : Args) (us : List Value) (vs : List V) (Q : VK) (E : XK), Room k A → Env0 P w K mg base A outer s H → BindsTo s fd args (ps.zip us) → Vals vs us → sp vs H Q E →
    codeAny (model P w) A (.call (.ref f) args) (CR CX outer P w H s Q E) s
theorem FnOk.mono {P : Program} {w : World} {K : PySem.W.Frag} {mg : Str → Option Value} {base : Heap} {CX : CXT} {j k : Nat} {f : Addr} {fd : FuncData} {ps : List Str} {sp : Sp} (F : FnOk P w K mg base CX j f fd ps sp) (h : j ≤ k) :
    FnOk P w K mg base CX k f fd ps sp := ⟨F.len, fun A outer s H args us vs Q E hr => F.run A outer s H args us vs Q E (hr.mono h)⟩
theorem Env0.make {P : Program} {w : World} {K : PySem.W.Frag} {mg : Str → Option Value} {base : Heap} {A : Around} {outer : List Env} {s : Shared} {H : Hp} (e : Env0 P w K mg base A outer s H) (C : Addr) (us : List Value) (kw : List (Str × Value)) :
    Env0 P w K mg base (A.under (.builtin "type.__call__" ⟨.ref C :: us, kw⟩)) outer s H := ⟨by first | exact e.frames | (simpa [Around.under, Code.envs, Code.isFrame, pushEnvs] using e.frames), e.mod, e.bs, e.bsz, e.funs, e.frf, e.hok, e.bare⟩
theorem Env0.in1 {P : Program} {w : World} {K : PySem.W.Frag} {mg : Str → Option Value} {base : Heap} {A : Around} {outer : List Env} {s : Shared} {H : Hp} (e : Env0 P w K mg base A outer s H) :
    Env0 P w K mg base A.in1 outer s H := ⟨e.frames, e.mod, e.bs, e.bsz, e.funs, e.frf, e.hok, e.bare⟩

section
variable {X : Cx} {pins : List (Addr × Obj)} {σ : St} {H : Hp} {s s' : Shared}
/-- from a body: what a callee wants -/
theorem Inv.env0 (I : Inv X pins σ H s) : Env0 X.prog X.w X.K X.mg X.base X.A X.stack s H :=
  ⟨I.ok.frames, I.ok.mod, I.bs, Nat.le_trans I.ok.bsz I.sz, I.stack, I.stkFree, I.hok, I.bare⟩
/-- behind a call -/
theorem Inv.after {Q : VK} {u : Value} (I : Inv X pins σ H s) (h : CE X.stack X.prog X.w H s Q u s') : EP X pins σ Q u s' := by
  obtain ⟨v, H', os, bare, un, hok, r, q⟩ := h
  obtain ⟨hh, g, d, t, os'⟩ := s'
  obtain rfl : os' = s.os := os
  exact ⟨v, H', I.call (h' := hh) (g' := g) (d' := d) (t' := t) (ch := []) un hok bare (fun b z => absurd z (by simp)), r, q⟩
end

/-! ### calls -/
/-- f(..): the written arguments, then the defaults dvs; E: what is wanted of an exception -/
def tCall (sp : Sp) (dvs : List V) (E : XK) (t : TA) : TE := fun σ H Q => t σ H fun vs H1 => sp (vs ++ dvs) H1 Q E
/-- o.m(..) of an instance of the class at C -/
def tMeth (C : Addr) (m : Str) (sp : Sp) (dvs : List V) (E : XK) (ta : TE) (t : TA) : TE := fun σ H Q => ta σ H fun x H1 => ∃ a dx fs, x = .ref a ∧ H1 a = some (.ins C dx fs) ∧ fs.lookup m = none ∧
  t σ H1 fun vs H2 => sp (x :: (vs ++ dvs)) H2 Q E
/-- C(..): a new instance and its dict, then __init__ -/
def tMake (C : Addr) (sp : Sp) (dvs : List V) (E : XK) (t : TA) : TE := fun σ H Q => t σ H fun vs H1 => ∀ x dx, H1 x = none → H1 dx = none → dx ≠ x →
  sp (.ref x :: (vs ++ dvs)) (upd (upd H1 dx (.own x)) x (.ins C dx [])) (fun v H2 => v = .non ∧ Q (.ref x) H2) E

/-- how the parameters are bound: us the positional arguments, kw the keywords' values by name, ds the defaults that fill up -/
def Binds (K : PySem.W.Frag) (fd : FuncData) (ps : List Str) (ds : List Value) : Prop :=
  ∀ (s : Shared) (us : List Value), K.In s.heap → (us ++ ds).length = ps.length → BindsTo s fd ⟨us, []⟩ (ps.zip (us ++ ds))
/-- every parameter is given -/
theorem Binds.all {K : PySem.W.Frag} {fd : FuncData} {ps : List Str} (h : ∀ us : List Value, us.length = ps.length → bindArgs fd ⟨us, []⟩ = pure (ps.zip us)) : Binds K fd ps [] := fun s us _ hl => by
  rw [List.append_nil] at hl ⊢
  exact .of_eq (h us hl)

/-- an exception of a callee reaches what this body wants of exceptions -/
def Passes (CX : CXT) (X : Cx) (E : XK) : Prop := ∀ (pins : List (Addr × Obj)) (σ : St) (H : Hp) (s : Shared) (e : Value) (s' : Shared), Inv X pins σ H s → CX X.stack H s E e s' → X.xe e s'

section
variable {X : Cx} {CX : CXT} {k : Nat} {f C : Addr} {fd : FuncData} {ps : List Str} {sp : Sp} {dvs : List V} {ds : List Value} {E : XK} {x m : Str} {p pos apos : Pos} {e o : Expr} {es : List Expr} {ta : TE} {t : TA}

/-- the callee runs -/
theorem run_fn {pins : List (Addr × Obj)} {σ : St} {H : Hp} {s : Shared} {Q : VK} {us : List Value} {vs : List V} (F : FnOk X.prog X.w X.K X.mg X.base CX k f fd ps sp) (hr : Room k X.A) (hb : Binds X.K fd ps ds) (hd : Vals dvs ds) (hx : Passes CX X E)
    (I : Inv X pins σ H s) (r : Vals vs us) (h : sp (vs ++ dvs) H Q E) : wpAny (model X.prog X.w) X.A (call (.ref f) us) (EP X pins σ Q) X.xe s := by
  have r2 : Vals (vs ++ dvs) (us ++ ds) := r.append hd
  have hl : (us ++ ds).length = ps.length := by rw [← r2.length]; exact F.len _ _ _ _ h
  refine wpAny_call (codeAny_mono (F.run X.A X.stack s H ⟨us, []⟩ (us ++ ds) (vs ++ dvs) Q E hr I.env0 (hb s us I.kIn hl) r2 h) fun r s' hq => ?_)
  cases r with
  | error e => exact hx pins σ H s e s' I hq
  | ok fl =>
    cases fl with
    | ret u => exact I.after hq
    | next => exact False.elim hq
    | brk => exact False.elim hq
    | cont => exact False.elim hq

theorem pe_call (F : FnOk X.prog X.w X.K X.mg X.base CX k f fd ps sp) (hr : Room k X.A) (hg : Gl X x) (hm : X.mg x = some (.ref f)) (hk : PySem.W.keepIn X.K (.ref f) = true) (hb : Binds X.K fd ps ds) (hd : Vals dvs ds) (hx : Passes CX X E)
    (ha : PA X (e :: es) t) (hdb : (x == ("__debug__" : Str)) = false := by decide) (he : starEach (e :: es) X.env = (false, eval e X.env) :: starEach es X.env := by rfl) (hpl : (backTo pos (starEach es X.env)).any (·.1) = false := by rfl) :
    PE X (.Call (.Name x p) (e :: es) [] pos) (tCall sp dvs E t) := by
  intro pins s σ H Q I h
  refine wpAny_Call_Name_kw (ld_glob I hg hm ?_ hdb)
  refine PySem.W.callWith_K (h₀ := X.base) I.ok.mod.kin hk (thn (ha pos pins s σ H _ I h) fun us s1 ⟨vs, H1, I1, r, q⟩ => ⟨I1.kIn, ?_⟩) he hpl
  exact run_fn F hr hb hd hx I1 r q
/-- o.m(e, ..) -/
theorem pe_meth {pl : Sem Bool} (he : PE X o ta) (c : Cls X.K C) (hm : Meth X.K C m f) (F : FnOk X.prog X.w X.K X.mg X.base CX k f fd ps sp) (hr : Room k X.A) (hb : Binds X.K fd ps ds) (hd : Vals dvs ds) (hx : Passes CX X E) (ha : PA X (e :: es) t)
    (hst : starEach (e :: es) X.env = (false, eval e X.env) :: starEach es X.env := by rfl) (hpl : (backTo pos (starEach es X.env)).any (·.1) = false := by rfl)
    (ht : eval (.Call (.Attribute o m apos) (e :: es) [] pos) X.env = (do
      let ov ← eval o X.env
      standAt apos.atName
      let (f, first) ← holding [ov] (getMethod ov m pl)
      callWith pos f first (backTo pos (starEach (e :: es) X.env)) (backToKw pos (keywordEach [] X.env))) := by rfl) :
    PE X (.Call (.Attribute o m apos) (e :: es) [] pos) (tMeth C m sp dvs E ta t) := by
  intro pins s σ H Q I h
  refine PySem.W.methodCall_KW (pl := pl) (thn (he pins s σ H _ I h) fun u s1 ⟨x, H1, I1, rx, a, dx, fs, ex, ea, l, q⟩ => ?_) ht
  subst ex
  obtain rfl : u = Value.ref a := rx
  refine getmeth_ok I1 ea c hm l ?_
  refine PySem.W.callWith_K (first := [.ref a]) (h₀ := X.base) I.ok.mod.kin hm.kp (thn (ha pos pins s1 σ H1 _ I1 q) fun us s2 ⟨vs, H2, I2, r, q2⟩ => ⟨I2.kIn, ?_⟩) hst hpl
  exact run_fn (us := .ref a :: us) (vs := .ref a :: vs) F hr hb hd hx I2 (.cons rfl r) q2
/-- o.m() -/
theorem pe_meth0 {pl : Sem Bool} (he : PE X o ta) (c : Cls X.K C) (hm : Meth X.K C m f) (F : FnOk X.prog X.w X.K X.mg X.base CX k f fd ps sp) (hr : Room k X.A) (hb : Binds X.K fd ps ds) (hd : Vals dvs ds) (hx : Passes CX X E)
    (ht : eval (.Call (.Attribute o m apos) [] [] pos) X.env = (do
      let ov ← eval o X.env
      standAt apos.atName
      let (f, first) ← holding [ov] (getMethod ov m pl)
      callWith pos f first (backTo pos (starEach [] X.env)) (backToKw pos (keywordEach [] X.env))) := by rfl) :
    PE X (.Call (.Attribute o m apos) [] [] pos) (tMeth C m sp dvs E ta tNil) := by
  intro pins s σ H Q I h
  refine PySem.W.methodCall_KW (pl := pl) (thn (he pins s σ H _ I h) fun u s1 ⟨x, H1, I1, rx, a, dx, fs, ex, ea, l, q⟩ => ?_) ht
  subst ex
  obtain rfl : u = Value.ref a := rx
  refine getmeth_ok I1 ea c hm l ?_
  exact PySem.W.callWith_K0 (first := [.ref a]) I1.kIn hm.kp (run_fn (us := [.ref a]) (vs := [.ref a]) F hr hb hd hx I1 (.cons rfl .nil) q)

/-- what a class must have to be made -/
structure Mk (K : PySem.W.Frag) (C f : Addr) : Prop where
  makes : PySem.W.makesIn K C = true
  init : PySem.W.findIn K (.ref C) "__init__" = some (some (.ref f))
  fn : PySem.W.isFn K (.ref f) = true
  kp : PySem.W.keepIn K (.ref C) = true

theorem run_make {pins : List (Addr × Obj)} {σ : St} {H : Hp} {s : Shared} {Q : VK} {us : List Value} {vs : List V} (M : Mk X.K C f) (F : FnOk X.prog X.w X.K X.mg X.base CX k f fd ps sp) (hr : Room (k + 1) X.A) (hb : Binds X.K fd ps ds) (hd : Vals dvs ds)
    (hx : Passes CX X E) (I : Inv X pins σ H s) (r : Vals vs us)
    (h : ∀ x dx, H x = none → H dx = none → dx ≠ x → sp (.ref x :: (vs ++ dvs)) (upd (upd H dx (.own x)) x (.ins C dx [])) (fun v H2 => v = .non ∧ Q (.ref x) H2) E) :
    wpAny (model X.prog X.w) X.A (call (.ref C) us) (EP X pins σ Q) X.xe s := by
  have hq := h (s.heap.objs.size + 1) s.heap.objs.size (I.hok.fresh (Nat.le_succ _)) (I.hok.fresh (Nat.le_refl _)) (Nat.ne_of_lt (Nat.lt_succ_self _))
  have I2 := Inv.made (C := C) I
  have r2 : Vals (V.ref (s.heap.objs.size + 1) :: (vs ++ dvs)) (Value.ref (s.heap.objs.size + 1) :: (us ++ ds)) := .cons rfl (r.append hd)
  have hl : (Value.ref (s.heap.objs.size + 1) :: us ++ ds).length = ps.length := by
    have e := r2.length
    rw [F.len _ _ _ _ hq] at e
    exact e.symm
  refine wpAny_call (make_map (f := f) I.kIn M.makes M.init (beq_iff_eq.mp M.fn) (codeAny_mono (F.run _ X.stack _ _ ⟨Value.ref (s.heap.objs.size + 1) :: us, []⟩ (Value.ref (s.heap.objs.size + 1) :: (us ++ ds)) _ _ E (hr.make C us [])
    (I2.env0.make C us []) (hb _ (Value.ref (s.heap.objs.size + 1) :: us) I2.kIn hl) r2 hq) fun r s' hq' => ?_))
  cases r with
  | error e => exact hx pins σ _ _ e s' I2 hq'
  | ok fl =>
    cases fl with
    | ret u =>
      obtain ⟨v, H', I3, rv, ev, q3⟩ := I2.after hq'
      subst ev
      exact ⟨rv, ⟨V.ref (s.heap.objs.size + 1), H', I3, rfl, q3⟩⟩
    | next => exact False.elim hq'
    | brk => exact False.elim hq'
    | cont => exact False.elim hq'
theorem pe_make (M : Mk X.K C f) (F : FnOk X.prog X.w X.K X.mg X.base CX k f fd ps sp) (hr : Room (k + 1) X.A) (hg : Gl X x) (hm : X.mg x = some (.ref C)) (hb : Binds X.K fd ps ds) (hd : Vals dvs ds) (hx : Passes CX X E)
    (ha : PA X (e :: es) t) (hdb : (x == ("__debug__" : Str)) = false := by decide) (he : starEach (e :: es) X.env = (false, eval e X.env) :: starEach es X.env := by rfl) (hpl : (backTo pos (starEach es X.env)).any (·.1) = false := by rfl) :
    PE X (.Call (.Name x p) (e :: es) [] pos) (tMake C sp dvs E t) := by
  intro pins s σ H Q I h
  refine wpAny_Call_Name_kw (ld_glob I hg hm ?_ hdb)
  refine PySem.W.callWith_K (h₀ := X.base) I.ok.mod.kin M.kp (thn (ha pos pins s σ H _ I h) fun us s1 ⟨vs, H1, I1, r, q⟩ => ⟨I1.kIn, ?_⟩) he hpl
  exact run_make M F hr hb hd hx I1 r q
theorem pe_make0 (M : Mk X.K C f) (F : FnOk X.prog X.w X.K X.mg X.base CX k f fd ps sp) (hr : Room (k + 1) X.A) (hg : Gl X x) (hm : X.mg x = some (.ref C)) (hb : Binds X.K fd ps ds) (hd : Vals dvs ds) (hx : Passes CX X E)
    (hdb : (x == ("__debug__" : Str)) = false := by decide) : PE X (.Call (.Name x p) [] [] pos) (tMake C sp dvs E tNil) := by
  intro pins s σ H Q I h
  refine wpAny_Call_Name_kw (ld_glob I hg hm ?_ hdb)
  exact PySem.W.callWith_K0 I.kIn M.kp (run_make (us := []) M F hr hb hd hx I .nil h)
end

/-! ### keywords -/
/-- the values of the keywords, from the left -/
def PK (X : Cx) (kws : List Keyword) (t : TA) : Prop :=
  ∀ (pos : Pos) (pins : List (Addr × Obj)) (s : Shared) (σ : St) (H : Hp) (Q : List V → Hp → Prop), Inv X pins σ H s → t σ H Q → wpAny (model X.prog X.w) X.A (evalAll ((backToKw pos (keywordEach kws X.env)).map (·.2))) (AP X pins σ Q) X.xe s
section
variable {X : Cx} {CX : CXT} {k : Nat} {f C : Addr} {fd : FuncData} {ps ks : List Str} {sp : Sp} {E : XK} {x m : Str} {p pos apos kpos : Pos} {e o : Expr} {es : List Expr} {kws : List Keyword} {te ta : TE} {t tk : TA} {nm : Option Str}
theorem pk_nil : PK X [] tNil := fun _ _ _ _ H Q I h => wpAny_evalAll_nil ⟨[], H, I, .nil, h⟩
theorem pk_cons (ha : PE X e te) (hr : PK X kws t) : PK X (⟨nm, e, kpos⟩ :: kws) (tCons te t) := by
  intro pos pins s σ H Q I h
  show wpAny _ _ (evalAll ((do let v ← eval e X.env; standAt pos; pure v) :: (backToKw pos (keywordEach kws X.env)).map (·.2))) _ _ s
  refine wpAny_evalAll_cons (wpAny_bind (thn (ha pins s σ H _ I h) fun u s1 ⟨x, H1, I1, r1, q1⟩ => wpAny_bind (wpAny_standAt (wpAny_pure ?_))))
  exact thn (hr pos pins s1 σ H1 _ I1 q1) fun us s2 ⟨xs, H2, I2, r2, q2⟩ => ⟨x :: xs, H2, I2, .cons r1 r2, q2⟩

variable {g : List Value → List Value → List Value} {gV : List V → List V → List V}
end

/-! ### a def's body keeps its promise -/
/-- names: the parameters first -/
structure FnScope (N P : List Str) (sc : Scope) : Prop where
  kind : sc.kind = .function
  co : sc.isCoroutine = false
  gen : sc.isGenerator = false
  nd : N.Nodup
  pre : N.take P.length = P
  par : ∀ x ∈ P, sc.names.lookup x = some .local ∨ sc.names.lookup x = some .cell
  nofree : ∀ y ∈ sc.names, y.2 ≠ .free

theorem bindL_out {kindOf : Str → Option NameKind} {x : Str} : ∀ {binds : List (Str × Value)} {m : Str → Option Value}, (∀ v, (x, v) ∉ binds) → bindL kindOf binds m x = m x
  | [], _, _ => rfl
  | (n, v) :: r, m, h => by
    unfold bindL
    rw [bindL_out fun w hw => h w (List.mem_cons_of_mem _ hw)]
    split
    · have : x ≠ n := by rintro rfl; exact h v List.mem_cons_self
      simp [this]
    · rfl
theorem bindC_out {kindOf : Str → Option NameKind} {x : Str} : ∀ {binds : List (Str × Value)} {m : Str → Option Value}, (∀ v, (x, v) ∉ binds) → bindC kindOf binds m x = m x
  | [], _, _ => rfl
  | (n, v) :: r, m, h => by
    unfold bindC
    rw [bindC_out fun w hw => h w (List.mem_cons_of_mem _ hw)]
    split
    · rfl
    · have : x ≠ n := by rintro rfl; exact h v List.mem_cons_self
      simp [this]
theorem bindL_get {kindOf : Str → Option NameKind} {x : Str} {v : Value} : ∀ {P : List Str} {vs : List Value} {i : Nat} {m : Str → Option Value}, P.Nodup → P[i]? = some x → vs[i]? = some v → kindOf x = some .local →
    bindL kindOf (P.zip vs) m x = some v
  | [], _, _, _, _, h, _, _ => by simp at h
  | _ :: _, [], _, _, _, _, h, _ => by simp at h
  | p :: P, w :: vs, 0, m, nd, h1, h2, hk => by
    simp at h1 h2; subst h1; subst h2
    show bindL kindOf ((p, w) :: P.zip vs) m p = _
    unfold bindL
    rw [bindL_out fun v hv => (List.nodup_cons.mp nd).1 (List.of_mem_zip hv).1, if_pos hk]
    simp
  | p :: P, w :: vs, i + 1, m, nd, h1, h2, hk => by
    show bindL kindOf ((p, w) :: P.zip vs) m x = _
    unfold bindL
    exact bindL_get (i := i) (List.nodup_cons.mp nd).2 (by simpa using h1) (by simpa using h2) hk
theorem bindC_get {kindOf : Str → Option NameKind} {x : Str} {v : Value} : ∀ {P : List Str} {vs : List Value} {i : Nat} {m : Str → Option Value}, P.Nodup → P[i]? = some x → vs[i]? = some v → kindOf x ≠ some .local →
    bindC kindOf (P.zip vs) m x = some v
  | [], _, _, _, _, h, _, _ => by simp at h
  | _ :: _, [], _, _, _, _, h, _ => by simp at h
  | p :: P, w :: vs, 0, m, nd, h1, h2, hk => by
    simp at h1 h2; subst h1; subst h2
    show bindC kindOf ((p, w) :: P.zip vs) m p = _
    unfold bindC
    rw [bindC_out fun v hv => (List.nodup_cons.mp nd).1 (List.of_mem_zip hv).1, if_neg hk]
    simp
  | p :: P, w :: vs, i + 1, m, nd, h1, h2, hk => by
    show bindC kindOf ((p, w) :: P.zip vs) m x = _
    unfold bindC
    exact bindC_get (i := i) (List.nodup_cons.mp nd).2 (by simpa using h1) (by simpa using h2) hk

/-- the names' values at the entry -/
def start (N : List Str) (vs : List V) : St := vs.map some ++ List.replicate (N.length - vs.length) none

/-- the context of a def's body, at its entry; an exception leaves the frame, then lies as CX says -/
def cxOf (CX : CXT) (P : Program) (w : World) (K : PySem.W.Frag) (mg : Str → Option Value) (base : Heap) (N : List Str) (qual : Str) (scope : Scope) (f : Addr) (cd : Value) (A : Around) (outer : List Env) (s : Shared) (H : Hp) (E : XK) : Cx where
  prog := P
  w := w
  K := K
  mg := mg
  base := base
  A := A.deeper (envOfC qual scope s.heap.objs.size f cd)
  N := N
  s₀ := s
  H₀ := H
  env := envOfC qual scope s.heap.objs.size f cd
  outer := outer
  stack := envOfC qual scope s.heap.objs.size f cd :: outer
  ex := []
  calm := true
  fn := fun _ => true
  pn := []
  xe := fun e s' => wpAny (model P w) (A.deeper (envOfC qual scope s.heap.objs.size f cd)) (leaving (envOfC qual scope s.heap.objs.size f cd) e) (fun _ s'' => CX outer H s E e s'') (fun e' s'' => CX outer H s E e' s'') s'

theorem cell_has {sc : Scope} {n : Nat} {x : Str} (h : sc.names.lookup x = some .cell) : ∃ c, (cellsFrom n sc.names []).lookup x = some c := by
  have q := PySem.W.cellsFrom_some sc.names n [] (.inl h)
  exact Option.isSome_iff_exists.mp q

theorem inv_start {CX : CXT} {P : Program} {w : World} {K : PySem.W.Frag} {mg : Str → Option Value} {base : Heap} {N ps : List Str} {qual : Str} {scope : Scope} {f : Addr} {cd : Value} {A : Around} {outer : List Env} {s s1 : Shared} {H : Hp} {E : XK} {us : List Value} {vs : List V}
    (S : FnScope N ps scope) (hd : A.handled = none) (e0 : Env0 P w K mg base A outer s H) (hl : vs.length = ps.length) (r : Vals vs us)
    (x : InCallC s s.heap.objs.size (bindL (envOfC qual scope s.heap.objs.size f cd).kindOf (ps.zip us) fun _ => none) (cellsFrom (s.heap.objs.size + 1) scope.names []) (bindC (envOfC qual scope s.heap.objs.size f cd).kindOf (ps.zip us) fun _ => none) s1) :
    Inv (cxOf CX P w K mg base N qual scope f cd A outer s H E) [] (start N vs) H s1 := by
  have hpl : ps.length ≤ N.length := by have := congrArg List.length S.pre; rw [List.length_take] at this; omega
  obtain ⟨h1, tk, rfl, hk⟩ := x.done
  have noA : ∀ b : Addr, b ∉ (cxOf CX P w K mg base N qual scope f cd A outer s H E).ex := fun b z => absurd (show b ∈ ([] : List Addr) from z) (by simp)
  refine ⟨⟨e0.mod, S.kind, rfl, rfl, Nat.le_refl _, fun y z c h1 h2 => ?_, fun y hy => ?_, fun y c _ h => ?_, fun _ => hd, Around.frames_deeper e0.frames, .inr ⟨rfl, rfl⟩, fun b z => absurd z (noA b), e0.bs, e0.bsz, fun b _ _ => noA b, fun b z => absurd z (noA b), e0.funs, e0.frf⟩,
    rfl, e0.bare, Un.kept hk, ⟨_, x.toInCall.ns, fun i y v h1 h2 h3 => ?_⟩, fun y c h => ⟨_, x.cell y c h⟩, e0.hok.fresh (Nat.le_refl _), fun y c h => ?_, fun p hp => absurd (show p ∈ ([] : List (Addr × Obj)) from hp) (by simp), e0.hok.kept hk, ?_⟩
  · exact name_of_addr x.apart (PySem.mem_of_lookup h1) (PySem.mem_of_lookup h2)
  · have hy : scope.names.lookup y = some .cell ∨ scope.names.lookup y = some .free := hy
    rcases hy with hy | hy
    · exact cell_has hy
    · exact absurd rfl (S.nofree _ (PySem.mem_of_lookup hy))
  · exact Nat.le_of_lt (x.above y c (PySem.mem_of_lookup h))
  · have hi : i < vs.length := by
      unfold start at h2
      by_cases hi : i < vs.length
      · exact hi
      · rw [List.getElem?_append_right (by simpa using hi)] at h2
        rw [List.getElem?_replicate] at h2
        split at h2 <;> cases h2
    have ha : vs[i]? = some v := by
      unfold start at h2
      rw [List.getElem?_append_left (by simpa using hi), List.getElem?_map] at h2
      cases e : vs[i]? with
      | none => rw [e] at h2; cases h2
      | some a => rw [e] at h2; cases h2; rfl
    obtain ⟨u, hu, rv⟩ := r.get ha
    have hp : ps[i]? = some y := by
      rw [← S.pre, List.getElem?_take_of_lt (by omega)]; exact h1
    have ndP : ps.Nodup := by rw [← S.pre]; exact S.nd.sublist (List.take_sublist _ _)
    refine ⟨u, rv, ?_⟩
    rcases S.par y (List.mem_of_getElem? hp) with k | k
    · exact .inl ⟨k, bindL_get ndP hp hu k⟩
    · obtain ⟨c, e⟩ := cell_has (n := s.heap.objs.size + 1) k
      refine .inr ⟨.inl k, c, e, ?_⟩
      have q := x.cell y c e
      rw [bindC_get ndP hp hu (by show scope.names.lookup y ≠ _; rw [k]; decide)] at q
      exact q
  · exact e0.hok.fresh (Nat.le_of_lt (x.above y c (PySem.mem_of_lookup h)))
  · unfold start
    show _ = N.length
    rw [List.length_append, List.length_map, List.length_replicate]
    omega

/-- THE RULE: a def (or a method) of the text, by its body. The body's reading t is chosen for each entry; it is run at the parameters' values -/
theorem fn_of {CX : CXT} {P : Program} {w : World} {K : PySem.W.Frag} {mg : Str → Option Value} {base : Heap} {k : Nat} {f : Addr} {name qual : Str} {params : Arguments} {body : List Stmt} {scope : Scope} {dV kV doc pm cdv ct oc : Value} {an od : Option Addr}
    {osl : Array (Option Value)} {N ps : List Str} {sp : Sp} (lk : K.lookup f = some ⟨oc, od, .func (PySem.W.fnOf name qual params body scope dV kV doc pm an cdv ct), osl⟩) (hcd : PySem.W.codeIn K cdv qual = true) (S : FnScope N ps scope)
    (len : ∀ vs H Q E, sp vs H Q E → vs.length = ps.length)
    (hbody : ∀ (A : Around) (outer : List Env) (s : Shared) (H : Hp) (vs : List V) (Q : VK) (E : XK), Room k (A.deeper (envOfC qual scope s.heap.objs.size f cdv)) → sp vs H Q E →
      ∃ t, PSs (cxOf CX P w K mg base N qual scope f cdv A outer s H E) body t ∧ t { nx := fun _ H' => Q .non H', rt := Q } (start N vs) H) :
    FnOk P w K mg base CX (k + 1) f (PySem.W.fnOf name qual params body scope dV kV doc pm an cdv ct) ps sp := by
  refine ⟨len, fun A outer s H args us vs Q E hr e0 hb r hsp => ?_⟩
  have hl := len _ _ _ _ hsp
  have KX : K.In s.heap := e0.mod.kin.keeps fun b o e => (e0.bs b o e).1
  have lim : s.heap.NoLimit := e0.mod.nolimit.keeps fun b o e => (e0.bs b o e).1
  have hkind : ∀ y ∈ ps.zip us, scope.names.lookup y.1 = some .local ∨ (scope.names.lookup y.1 = some .cell ∧ ((cellsFrom (s.heap.objs.size + 1) scope.names []).lookup y.1).isSome = true) := fun ⟨n, v⟩ hy => by
    rcases S.par n (List.of_mem_zip hy).1 with q | q
    · exact .inl q
    · exact .inr ⟨q, PySem.W.cellsFrom_some _ _ _ (.inl q)⟩
  refine codeAny_call_function hr.depth (KX _ _ lk) rfl S.co S.gen rfl (PySem.W.codeRec_of KX hcd) (hb _ _ _ _ ?_)
  refine wpAny_newFunctionEnv_cells S.kind hkind fun env he s1 x => ?_
  subst he
  refine ⟨lim.keeps x.toInCall.keep, codeAny_func ?_⟩
  obtain ⟨t, ht, hq⟩ := hbody A outer s H vs Q E (hr.deeper _) hsp
  have I : Inv (cxOf CX P w K mg base N qual scope f cdv A outer s H E) [] (start N vs) H s1 := inv_start S hr.hd e0 hl r x
  refine wpAny_mono (ht [] s1 (start N vs) H _ I hq) (fun fl s' hs => ?_) fun e s' hs => hs
  have fin : ∀ {σ' : St} {H' : Hp} {v : V} {u : Value}, Inv (cxOf CX P w K mg base N qual scope f cdv A outer s H E) [] σ' H' s' → RelV v u → Q v H' → CE outer P w H s Q u s' :=
    fun {σ' H' v u} J rv q => ⟨v, H', J.os, J.bare, J.base, J.hok, rv, q⟩
  cases fl with
  | ret u =>
    obtain ⟨v, σ', H', J, rv, q⟩ := hs
    exact fin J rv q
  | next =>
    obtain ⟨σ', H', J, q⟩ := hs
    exact fin (v := V.non) (u := Value.none) J rfl q
  | brk =>
    obtain ⟨_, _, _, q⟩ := hs
    exact False.elim q
  | cont =>
    obtain ⟨_, _, _, q⟩ := hs
    exact False.elim q
end L2

namespace L2
open PySem PySem.Spec PyProof.Rows
section
variable {X : Cx} {x : Str} {p pos : Pos} {e : Expr} {es : List Expr} {t : TA} {id T : String} {r : List V → Hp → VK → Prop}

def tCB (r : List V → Hp → VK → Prop) (t : TA) : TE := fun σ H Q => t σ H fun vs H1 => r vs H1 Q
/-- f(e, ..), f a built-in function -/
theorem pe_callB (hc : CallR X (.builtin id) r) (hg : Gl X x) (hm : X.mg x = none) (hv : bootBuiltins x = some (.builtin id)) (ha : PA X (e :: es) t) (hn : x ≠ "__name__" := by decide) (hdb : (x == ("__debug__" : Str)) = false := by decide)
    (he : starEach (e :: es) X.env = (false, eval e X.env) :: starEach es X.env := by rfl) (hpl : (backTo pos (starEach es X.env)).any (·.1) = false := by rfl) : PE X (.Call (.Name x p) (e :: es) [] pos) (tCB r t) := by
  intro pins s σ H Q I h
  refine wpAny_Call_Name_kw (ld_blt I hg hm hv ?_ hn hdb)
  exact PyProof.Rows.callWith_builtin1 (thn (ha pos pins s σ H _ I h) fun us s1 ⟨vs, H1, I1, r1, q1⟩ => hc pins s1 σ H1 vs us Q I1 r1 q1) he hpl
/-- T(e, ..), T a built-in type -/
theorem pe_callTy (hc : CallR X (.type T) r) (hg : Gl X x) (hm : X.mg x = none) (hv : bootBuiltins x = some (.type T)) (ha : PA X (e :: es) t) (hn : x ≠ "__name__" := by decide) (hdb : (x == ("__debug__" : Str)) = false := by decide)
    (he : starEach (e :: es) X.env = (false, eval e X.env) :: starEach es X.env := by rfl) (hpl : (backTo pos (starEach es X.env)).any (·.1) = false := by rfl) : PE X (.Call (.Name x p) (e :: es) [] pos) (tCB r t) := by
  intro pins s σ H Q I h
  refine wpAny_Call_Name_kw (ld_blt I hg hm hv ?_ hn hdb)
  exact PyProof.Rows.callWith_type1 (thn (ha pos pins s σ H _ I h) fun us s1 ⟨vs, H1, I1, r1, q1⟩ => hc pins s1 σ H1 vs us Q I1 r1 q1) he hpl
end
end L2

namespace HT
open PySem PyProof.Rows

theorem rcLt_int (A : Around) (s : Shared) (a : Int) (t : Tok) (c : Int) (u : Tok) (prog : Program) (w : World) (E : Value → Shared → Prop) (Q : Value → Shared → Prop) (h : Q (.bool (decide (a < c))) s) :
    wpAny (model prog w) A (richCompare .Lt (.int a t) (.int c u)) Q E s :=
  (PyProof.Rows.lt_int h : wpAny (model prog w) A (compareOp .Lt (.int a t) (.int c u)) Q E s)

section
open PySem.SeqAt
open PySem.AutoSeq1 (wpAny_loadPart')
open PySem.MeetsSeq PySem.MeetsSeq2 PySem.MeetsSeq3

end

section
variable {prog : Program} {w : World} {A : Around} {E : Value → Shared → Prop} {s : Shared}

/-! ### t[a:b], not the whole -/
/-- a slice's bound as a place among n (d where it is left out) -/
def sIx (n d : Nat) : Option Int → Nat
  | none => d
  | some v => if v < 0 then (v + (n : Int)).toNat else min v.toNat n
theorem sIx_none (n d : Nat) : sIx n d none = d := rfl
theorem sIx_nat (n d k : Nat) : sIx n d (some (k : Int)) = min k n := by
  show (if (k : Int) < 0 then ((k : Int) + (n : Int)).toNat else min (k : Int).toNat n) = min k n
  rw [if_neg (by omega), Int.toNat_natCast]
theorem sIx_le (n d : Nat) (hd : d ≤ n) (o : Option Int) : sIx n d o ≤ n := by
  cases o with
  | none => exact hd
  | some v =>
    show (if v < 0 then (v + (n : Int)).toNat else min v.toNat n) ≤ n
    by_cases hv : v < 0
    · rw [if_pos hv]; omega
    · rw [if_neg hv]; exact Nat.min_le_right _ _
theorem clip_eq (v : Int) (n d : Nat) : (if v < 0 then max (v + (n : Int)) 0 else min v (n : Int)) = ((sIx n d (some v) : Nat) : Int) := by
  show (if v < 0 then max (v + (n : Int)) 0 else min v (n : Int)) = (((if v < 0 then (v + (n : Int)).toNat else min v.toNat n) : Nat) : Int)
  by_cases hv : v < 0
  · simp only [if_pos hv]; omega
  · simp only [if_neg hv]; omega
theorem adjust_gen (lo hi : Option Int) (n : Nat) : Builtin.Slice.sliceAdjust lo hi 1 (n : Int) = (((sIx n 0 lo : Nat) : Int), ((sIx n n hi : Nat) : Int)) := by
  have h1 : ¬ ((1 : Int) < 0) := by omega
  unfold Builtin.Slice.sliceAdjust
  simp only [h1, if_false]
  refine Prod.ext ?_ ?_
  · cases lo with
    | none => rfl
    | some v => exact clip_eq v n 0
  · cases hi with
    | none => rfl
    | some v => exact clip_eq v n n
theorem places_gen (i j : Nat) : Builtin.Slice.slicePlaces (i : Int) (j : Int) 1 = j - i := by
  unfold Builtin.Slice.slicePlaces
  have h1 : (1 : Int) > 0 := by omega
  simp only [h1, if_true, Int.ediv_one]
  split <;> omega
theorem slicePart_ {v : Value} {o : Option Int} {Q : Option Int → Shared → Prop} (p : IsPart v o) (h : Q o s) : wpAny (model prog w) A (Builtin.Slice.slicePartIndex v) Q E s := by
  cases p with
  | none => exact slicePart_none h
  | int i t => exact slicePart_int h
theorem sliceApplied_gen {sl : Addr} {vl vu : Value} {lo hi : Option Int} {n : Nat} {Q : Int × Int × Nat → Shared → Prop} (hs : s.heap.IsSliceOf sl vl vu .none) (pl : IsPart vl lo) (pu : IsPart vu hi)
    (h : Q (((sIx n 0 lo : Nat) : Int), 1, sIx n n hi - sIx n 0 lo) s) : wpAny (model prog w) A (Builtin.Slice.sliceApplied (.ref sl) (pure (n : Int))) Q E s := by
  obtain ⟨os, hos, hcs, hds⟩ := id hs
  unfold Builtin.Slice.sliceApplied Builtin.Slice.sliceFields
  refine wpAny_bind (wpAny_bind (wpAny_field hos hds (x := vl) rfl (wpAny_bind (wpAny_field hos hds (x := vu) rfl (wpAny_bind (wpAny_field hos hds (x := .none) rfl (wpAny_pure ?_)))))))
  refine wpAny_bind (slicePart_none ?_)
  show wpAny _ _ (if ((1 : Int) == 0) = true then _ else _) _ _ s
  rw [if_neg (by decide)]
  refine wpAny_bind (slicePart_ pl (wpAny_bind (slicePart_ pu (wpAny_bind (wpAny_pure ?_)))))
  show wpAny _ _ (match Builtin.Slice.sliceAdjust lo hi 1 (n : Int) with | (lo, hi) => pure (lo, (1 : Int), Builtin.Slice.slicePlaces lo hi 1)) _ _ s
  rw [adjust_gen lo hi n]
  show wpAny _ _ (pure (((sIx n 0 lo : Nat) : Int), (1 : Int), Builtin.Slice.slicePlaces ((sIx n 0 lo : Nat) : Int) ((sIx n n hi : Nat) : Int) 1)) _ _ s
  rw [places_gen]
  exact wpAny_pure h
theorem pick_gen (xs : Array Value) (i k : Nat) : ((List.range k).filterMap fun (m : Nat) => xs[((i : Int) + (m : Int) * 1).toNat]?).toArray = ((xs.toList.drop i).take k).toArray := by
  have e : (fun (m : Nat) => xs[((i : Int) + (m : Int) * 1).toNat]?) = fun m => xs[i + m]? := by
    funext m
    have : ((i : Int) + (m : Int) * 1).toNat = i + m := by omega
    rw [this]
  rw [e]
  have := pick_run xs i k
  rw [List.filterMap_map] at this
  have e2 : ((fun x => xs[x]?) ∘ fun x => i + x) = fun m => xs[i + m]? := rfl
  rw [e2] at this
  rw [this]

theorem getItem_tuple_cut {t sl : Addr} {items : Array Value} {vl vu : Value} {lo hi : Option Int} {Q : Value → Shared → Prop} (ht : IsTup s.heap t items) (hs : s.heap.IsSliceOf sl vl vu .none) (pl : IsPart vl lo) (pu : IsPart vu hi)
    (hw : ¬ (sIx items.size 0 lo = 0 ∧ sIx items.size items.size hi = items.size))
    (h : Q (.ref s.heap.objs.size) { s with heap := s.heap.push { cls := .type "tuple", data := .seq ((items.toList.drop (sIx items.size 0 lo)).take (sIx items.size items.size hi - sIx items.size 0 lo)).toArray } })
    (hsz : items.size ≤ sizeLine) : wpAny (model prog w) A (getItem (.ref t) (.ref sl)) Q E s := by
  have htake : sizeOk (.seq ((items.toList.drop (sIx items.size 0 lo)).take (sIx items.size items.size hi - sIx items.size 0 lo)).toArray) := by
    show ((items.toList.drop (sIx items.size 0 lo)).take (sIx items.size items.size hi - sIx items.size 0 lo)).toArray.size ≤ sizeLine
    rw [List.size_toArray, List.length_take, List.length_drop, Array.length_toList]
    omega
  have hj : sIx items.size items.size hi ≤ items.size := sIx_le _ _ (Nat.le_refl _) hi
  obtain ⟨os, hos, hcs, hds⟩ := id hs
  have hTs : s.TypeIs (.ref sl) "slice" := ⟨os, hos, hcs⟩
  unfold getItem
  try with_reducible refine wpAny_holding ?_
  first | refine wpAny_bind (wpAny_pure ?_) | skip
  refine wpAny_bind (wpAny_sequenceKey ht.typeIs (by decide) ?_)
  refine wpAny_bind (wpAny_callSpecial?_slot (name := Str.ofString "__getitem__") ht.typeIs PyProof.Rows.slot_tuple_getitem
    (wpAny_call_entry PyProof.Rows.slot_tuple_getitem ht.typeIs entry_tuple_getitem ?_ (args_tuple_getitem _ _)))
  show wpAny _ _ (Builtin.Tuple.tupleItemsOf (.ref t) >>= _) _ _ s
  refine wpAny_bind (tupleItemsOf_ ht ?_)
  refine wpAny_bind (wpAny_typeOf hTs ?_)
  rw [if_pos (by decide)]
  refine wpAny_bind (sliceApplied_gen hs pl pu ?_)
  have hno : ¬ ((((sIx items.size 0 lo : Nat) : Int) == 0 && (1 : Int) == 1 && (sIx items.size items.size hi - sIx items.size 0 lo) == items.size) = true) := by
    intro q
    rw [Bool.and_eq_true, Bool.and_eq_true] at q
    have q1 : ((sIx items.size 0 lo : Nat) : Int) = 0 := eq_of_beq q.1.1
    have q2 : sIx items.size items.size hi - sIx items.size 0 lo = items.size := eq_of_beq q.2
    exact hw ⟨by omega, by omega⟩
  show wpAny _ _ (if (((sIx items.size 0 lo : Nat) : Int) == 0 && (1 : Int) == 1 && (sIx items.size items.size hi - sIx items.size 0 lo) == items.size) = true then _ else _) _ _ s
  rw [if_neg hno, pick_gen]
  first
    | exact wpAny_bind (m := Builtin.Tuple.tupleExact _) (wpAny_newObj_type (wpAny_pure ⟨_, rfl, wpAny_pure h⟩) htake)
    | exact wpAny_bind (m := Builtin.Tuple.tupleExact _) (wpAny_newObj_type (wpAny_bind (wpAny_pure (wpAny_pure ⟨_, rfl, wpAny_pure h⟩))) htake)
    | exact wpAny_bind (wpAny_bind (m := Builtin.Tuple.tupleExact _) (wpAny_newObj_type (wpAny_pure (wpAny_pure ⟨_, rfl, wpAny_pure h⟩)) htake))
    | exact wpAny_bind (wpAny_bind (m := Builtin.Tuple.tupleExact _) (wpAny_newObj_type (wpAny_pure ⟨_, rfl, wpAny_pure h⟩) htake))
end
end HT

namespace L2
open PySem PySem.Spec PyProof.Rows

/-! ### the parts of a slice -/
abbrev TO := St → Hp → (Option Int → Hp → Prop) → Prop
/-- a slice's part (left out, or an int) -/
def PO (X : Cx) (e : Option Expr) (t : TO) : Prop :=
  ∀ (pins : List (Addr × Obj)) (s : Shared) (σ : St) (H : Hp) (Q : Option Int → Hp → Prop), Inv X pins σ H s → t σ H Q →
    wpAny (model X.prog X.w) X.A (evalPart e X.env) (fun u s' => ∃ o H', Inv X pins σ H' s' ∧ IsPart u o ∧ Q o H') X.xe s
def tNoPart : TO := fun _ H Q => Q none H
def tPart (t : TE) : TO := fun σ H Q => t σ H fun x H1 => ∃ i, x = .int i ∧ Q (some i) H1

theorem intsAre_of {ns : List Int} : ∀ {us : List Value}, Vals (ns.map V.int) us → IntsAre us ns := by
  induction ns with
  | nil => intro us r; rw [List.map_nil] at r; cases r; exact .nil
  | cons n ns ih =>
    intro us r
    rw [List.map_cons] at r
    cases r with
    | cons r1 r2 =>
      obtain ⟨t, e⟩ := r1
      subst e
      exact .cons n t (ih r2)

section
variable {X : Cx} {e : Expr} {te : TE} {lo hi : Option Expr} {tl th : TO} {pos p2 : Pos}

theorem po_none : PO X none tNoPart := by
  intro pins s σ H Q I h
  rw [evalPart_none]
  exact wpAny_pure ⟨none, H, I, .none, h⟩
theorem po_some (h : PE X e te) : PO X (some e) (tPart te) := by
  intro pins s σ H Q I hw
  rw [evalPart_some]
  refine thn (h pins s σ H _ I hw) fun u s1 ⟨x, H1, I1, r1, q1⟩ => ?_
  obtain ⟨i, rfl, q⟩ := q1
  obtain ⟨t, rfl⟩ := r1
  exact ⟨some i, H1, I1, .int i t, q⟩

/-- what a slice of a value is, by values: the slice object stands at sl -/
def SlR (X : Cx) (r : V → Option Int → Option Int → Hp → VK → Prop) : Prop :=
  ∀ (pins : List (Addr × Obj)) (s : Shared) (σ : St) (H : Hp) (x : V) (v vl vu : Value) (lo hi : Option Int) (sl : Addr) (Q : VK), Inv X pins σ H s → RelV x v → s.heap.IsSliceOf sl vl vu .none → IsPart vl lo → IsPart vu hi → r x lo hi H Q →
    ∃ T id, typeLookup (.type T) "__getitem__" = pure (some (.builtin id)) ∧ s.TypeIs v T ∧ wpAny (model X.prog X.w) X.A (getItem v (.ref sl)) (EP X pins σ Q) X.xe s
theorem SlR.or {r r' : V → Option Int → Option Int → Hp → VK → Prop} (h : SlR X r) (h' : SlR X r') : SlR X (fun x lo hi H Q => r x lo hi H Q ∨ r' x lo hi H Q) := by
  intro pins s σ H x v vl vu lo hi sl Q I rx hs pl pu q
  rcases q with q | q
  · exact h pins s σ H x v vl vu lo hi sl Q I rx hs pl pu q
  · exact h' pins s σ H x v vl vu lo hi sl Q I rx hs pl pu q
def tSl (r : V → Option Int → Option Int → Hp → VK → Prop) (te : TE) (tl th : TO) : TE := fun σ H Q => te σ H fun x H1 => tl σ H1 fun l H2 => th σ H2 fun u H3 => r x l u H3 Q
/-- a[lo:hi], any a -/
theorem pe_slice {r : V → Option Int → Option Int → Hp → VK → Prop} (hr : SlR X r) (he : PE X e te) (hl : PO X lo tl) (hu : PO X hi th) : PE X (.Subscript e (.Slice lo hi none p2) pos) (tSl r te tl th) := by
  intro pins s σ H Q I h
  refine Subscript_ (thn (he pins s σ H _ I h) fun v s1 ⟨x, H1, I1, r1, q1⟩ => ?_)
  refine wpAny_Slice (thn (hl pins s1 σ H1 _ I1 q1) fun vl s2 ⟨l, H2, I2, pl, q2⟩ => thn (hu pins s2 σ H2 _ I2 q2) fun vu s3 ⟨u, H3, I3, pu, q3⟩ => ?_)
  rw [evalPart_none]
  refine wpAny_pure ?_
  have I4 : Inv X pins σ H3 { s3 with heap := s3.heap.push { cls := .type "slice", data := .fields #[vl, vu, .none] } } := I3.kept (t' := s3.toks) fun b ob q => Heap.get?_push_of_some _ q
  obtain ⟨T, id, hT, ht, hg⟩ := hr pins { s3 with heap := s3.heap.push { cls := .type "slice", data := .fields #[vl, vu, .none] } } σ H3 x v vl vu l u s3.heap.objs.size Q I4 r1 (Heap.IsSliceOf.new ..) pl pu q3
  show wpAny (model X.prog X.w) X.A (subscriptTail e (.Slice lo hi none p2) v (.ref s3.heap.objs.size)) (EP X pins σ Q) X.xe { s3 with heap := s3.heap.push { cls := .type "slice", data := .fields #[vl, vu, .none] } }
  exact tail_any (ops := [.ref s3.heap.objs.size, v]) ht hT hg (by with_unfolding_all rfl)

/-- the items of xs[lo:hi] -/
def cutV (xs : List V) (lo hi : Option Int) : List V := (xs.drop (HT.sIx xs.length 0 lo)).take (HT.sIx xs.length xs.length hi - HT.sIx xs.length 0 lo)
theorem cutV_length (xs : List V) (lo hi : Option Int) : (cutV xs lo hi).length ≤ xs.length := by
  unfold cutV
  rw [List.length_take, List.length_drop]
  omega
/-- t[lo:hi], not the whole of it (the whole would be t itself) -/
def rSlT (K : PySem.W.Frag) : V → Option Int → Option Int → Hp → VK → Prop := fun x lo hi H Q => ∃ a xs, x = .ref a ∧ SqT K H a xs ∧
  ¬ (HT.sIx xs.length 0 lo = 0 ∧ HT.sIx xs.length xs.length hi = xs.length) ∧ ∀ p, H p = none → Q (.ref p) (upd H p (.tup (cutV xs lo hi)))
theorem sl_tup : SlR X (rSlT X.K) := by
  intro pins s σ H x v vl vu lo hi sl Q I rx hs pl pu h
  obtain ⟨a, xs, rfl, hx, hw, q⟩ := h
  cases rx
  obtain ⟨its, r, ht, hz⟩ := I.tuple hx
  have hlen : its.toArray.size = xs.length := by rw [List.size_toArray]; exact r.length.symm
  refine ⟨"tuple", _, PyProof.Rows.slot_tuple_getitem.lookup, ht.typeIs, ?_⟩
  refine HT.getItem_tuple_cut ht hs pl pu (by rw [hlen]; exact hw) ?_ (by rw [hlen]; exact hz)
  rw [hlen]
  refine ⟨.ref s.heap.objs.size, _, I.laid (t' := s.toks) (o := .tup (cutV xs lo hi)) (fun b ob q => Heap.get?_push_of_some _ q) (Nat.le_refl _) ?_, rfl, q _ (I.hok.fresh (Nat.le_refl _))⟩
  exact ⟨Nat.le_trans (cutV_length xs lo hi) hz, _, (r.drop (HT.sIx xs.length 0 lo)).take (HT.sIx xs.length xs.length hi - HT.sIx xs.length 0 lo), IsTup.new _ _⟩

/-! ### t < u, t + u -/
end
end L2

namespace L2
open PySem PySem.Spec PyProof.Rows

/-! ### places -/
/-- the place that an index of any sign means -/
def ixN (n : Nat) (i : Int) : Option Nat := if 0 ≤ i then (if i < n then some i.toNat else none) else if -(n : Int) ≤ i then some (i + n).toNat else none
def atI {α : Type} (xs : List α) (i : Int) : Option α := (ixN xs.length i).bind fun j => xs[j]?
theorem ixN_seq {n : Nat} {i : Int} {j : Nat} (h : ixN n i = some j) : seqIndex? i n = some j ∧ j < n ∧ -(n : Int) ≤ i ∧ i < n := by
  unfold ixN at h
  by_cases h0 : 0 ≤ i
  · rw [if_pos h0] at h
    by_cases h1 : i < n
    · rw [if_pos h1] at h
      have e : i.toNat = j := Option.some.inj h
      exact ⟨by rw [seqIndex_of h0 h1, e], by omega, by omega, h1⟩
    · rw [if_neg h1] at h; cases h
  · rw [if_neg h0] at h
    by_cases h1 : -(n : Int) ≤ i
    · rw [if_pos h1] at h
      have e : (i + n).toNat = j := Option.some.inj h
      exact ⟨by rw [seqIndex_neg (by omega) h1, e], by omega, h1, by omega⟩
    · rw [if_neg h1] at h; cases h
theorem atI_get {α : Type} {xs : List α} {i : Int} {v : α} (h : atI xs i = some v) : ∃ j, seqIndex? i xs.length = some j ∧ xs[j]? = some v ∧ j < xs.length ∧ -(xs.length : Int) ≤ i ∧ i < xs.length := by
  unfold atI at h
  cases e : ixN xs.length i with
  | none => rw [e] at h; cases h
  | some j =>
    rw [e] at h
    obtain ⟨h1, h2, h3, h4⟩ := ixN_seq e
    exact ⟨j, h1, h, h2, h3, h4⟩
theorem atI_nat {α : Type} {xs : List α} {j : Nat} {v : α} (h : xs[j]? = some v) : atI xs (j : Int) = some v := by
  have hj : j < xs.length := (List.getElem?_eq_some_iff.mp h).1
  have e : ixN xs.length (j : Int) = some j := by
    unfold ixN
    rw [if_pos (by omega), if_pos (by omega)]; simp
  unfold atI; rw [e]; exact h
theorem atI_last {α : Type} (xs : List α) (v : α) : atI (xs ++ [v]) (-1) = some v := by
  have hl : (xs ++ [v]).length = xs.length + 1 := by simp
  have e : ixN (xs ++ [v]).length (-1) = some xs.length := by
    unfold ixN
    rw [hl, if_neg (by decide), if_pos (by omega)]
    congr 1
    omega
  unfold atI
  rw [e]
  show (xs ++ [v])[xs.length]? = some v
  simp

/-! ### what may be subscripted -/
/-- what stands as an index of a plain subscript -/
def PlainIx (b : Expr) : Prop := ∀ o i, subscripted b false o i = operate [o, i] (getItem o i)
/-- a subscript by values -/
def IxR (X : Cx) (r : R2) : Prop :=
  ∀ (value slice : Expr) (pins : List (Addr × Obj)) (s : Shared) (σ : St) (H : Hp) (x y : V) (v u : Value) (Q : VK), Inv X pins σ H s → RelV x v → RelV y u → r x y H Q →
    subscripted slice false v u = operate [v, u] (getItem v u) → wpAny (model X.prog X.w) X.A (subscriptTail value slice v u) (EP X pins σ Q) X.xe s
/-- a call of a builtin's method by values: the receiver, the arguments -/
def MtR (X : Cx) (id : String) (r : V → List V → Hp → VK → Prop) : Prop :=
  ∀ (pins : List (Addr × Obj)) (s : Shared) (σ : St) (H : Hp) (x : V) (xs : List V) (v : Value) (us : List Value) (Q : VK), Inv X pins σ H s → RelV x v → Vals xs us → r x xs H Q →
    wpAny (model X.prog X.w) X.A (call (.builtin id) (v :: us)) (EP X pins σ Q) X.xe s
section
variable {X : Cx} {a b : Expr} {ta tb : TE} {pos : Pos}
theorem IxR.or {r r' : R2} (h : IxR X r) (h' : IxR X r') : IxR X (fun x y H Q => r x y H Q ∨ r' x y H Q) := by
  intro value slice pins s σ H x y v u Q I rx ry q hs
  rcases q with q | q
  · exact h value slice pins s σ H x y v u Q I rx ry q hs
  · exact h' value slice pins s σ H x y v u Q I rx ry q hs
theorem MtR.or {id : String} {r r' : V → List V → Hp → VK → Prop} (h : MtR X id r) (h' : MtR X id r') : MtR X id (fun x xs H Q => r x xs H Q ∨ r' x xs H Q) := by
  intro pins s σ H x xs v us Q I rx rs q
  rcases q with q | q
  · exact h pins s σ H x xs v us Q I rx rs q
  · exact h' pins s σ H x xs v us Q I rx rs q
/-- a[b] -/
theorem pe_ix {r : R2} (hr : IxR X r) (ha : PE X a ta) (hb : PE X b tb) (hs : PlainIx b) : PE X (.Subscript a b pos) (tOp r ta tb) := by
  intro pins s σ H Q I h
  exact Subscript_ (binT ha hb I h fun v u s2 x y H2 I2 rx ry q => hr a b pins s2 σ H2 x y v u Q I2 rx ry q (hs _ _))

def rIxL (K : PySem.W.Frag) : R2 := fun x y H Q => ∃ p xs i v, x = .ref p ∧ y = .int i ∧ SqL K H p xs ∧ atI xs i = some v ∧ Q v H
def rIxT (K : PySem.W.Frag) : R2 := fun x y H Q => ∃ p xs i v, x = .ref p ∧ y = .int i ∧ SqT K H p xs ∧ atI xs i = some v ∧ Q v H
def rIxS : R2 := fun x y H Q => ∃ z i c, x = .str z ∧ y = .int i ∧ z.length ≤ sizeLine ∧ atI z.cps.toList i = some c ∧ Q (.str ⟨#[c]⟩) H
theorem ix_list : IxR X (rIxL X.K) := by
  intro value slice pins s σ H x y v u Q I rx ry h hs
  obtain ⟨p, xs, i, z, rfl, rfl, hq, he, q⟩ := h
  cases rx
  obtain ⟨t, rfl⟩ := ry
  obtain ⟨its, r, pl, hz⟩ := I.list hq
  obtain ⟨j, h1, h2, h3, h4, h5⟩ := atI_get he
  obtain ⟨w, ew, rw'⟩ := r.get h2
  have hl := r.length
  have hn := line63
  have fin : EP X pins σ Q w s := ⟨z, H, I, rw', q⟩
  by_cases h0 : 0 ≤ i
  · have hj : i.toNat = j := by
      rw [seqIndex_of h0 h5] at h1
      exact Option.some.inj h1
    exact item_listR pl.isList h0 (by omega) (by rw [hj]; simpa using ew) fin hs
  · have hj : (i + (its.toArray.size : Int)).toNat = j := by
      rw [seqIndex_neg (by omega) h4] at h1
      rw [List.size_toArray, ← hl]
      exact Option.some.inj h1
    exact subscriptTail_builtinR (x := w) pl.isList.typeIs slot_list_getitem.lookup
      (wpAny_getItem_list_neg (Q := fun r s' => r = w ∧ EP X pins σ Q r s') pl.isList (by omega) (by rw [List.size_toArray] <;> omega) (by omega) (by rw [hj]; simpa using ew) ⟨rfl, fin⟩) hs
theorem ix_tup : IxR X (rIxT X.K) := by
  intro value slice pins s σ H x y v u Q I rx ry h hs
  obtain ⟨p, xs, i, z, rfl, rfl, hq, he, q⟩ := h
  cases rx
  obtain ⟨t, rfl⟩ := ry
  obtain ⟨its, r, pl, hz⟩ := I.tuple hq
  obtain ⟨j, h1, h2, h3, h4, h5⟩ := atI_get he
  obtain ⟨w, ew, rw'⟩ := r.get h2
  have hl := r.length
  have hn := line63
  have fin : EP X pins σ Q w s := ⟨z, H, I, rw', q⟩
  exact subscriptTail_builtinR (x := w) pl.typeIs slot_tuple_getitem.lookup
    (getItem_tuple (j := j) (Q := fun r s' => r = w ∧ EP X pins σ Q r s') pl (by omega) (by omega) (by rw [List.size_toArray, ← hl]; exact h1) (by simpa using ew) ⟨rfl, fin⟩) hs
theorem ix_str : IxR X rIxS := by
  intro value slice pins s σ H x y v u Q I rx ry h hs
  obtain ⟨z, i, c, rfl, rfl, hz, he, q⟩ := h
  obtain ⟨t, rfl⟩ := rx
  obtain ⟨t', rfl⟩ := ry
  obtain ⟨j, h1, h2, h3, h4, h5⟩ := atI_get he
  have hl : z.cps.toList.length = z.length := by simp [Str.length]
  rw [hl] at h1 h4 h5
  have hn := line63
  exact tail_any (typeIs_str s z t) slot_str_getitem.lookup (getItem_str (c := c) (by
    have e1 : decide (i < -(2 ^ 63 : Int)) = false := decide_eq_false (by omega)
    have e2 : decide (i ≥ 2 ^ 63) = false := decide_eq_false (by omega)
    rw [e1, e2, Bool.or_false]) (by rw [h1]; simpa using h2) ⟨.str ⟨#[c]⟩, H, I.tok _, ⟨_, rfl⟩, q⟩) hs
/-- list, tuple or str -/
def rIx (K : PySem.W.Frag) : R2 := fun x y H Q => rIxL K x y H Q ∨ rIxT K x y H Q ∨ rIxS x y H Q
theorem ix_seq : IxR X (rIx X.K) := ix_list.or (ix_tup.or ix_str)

/-! ### xs[i] = v, any sign -/
/-- the list's object behind a store -/
theorem mapSeq_set (its : List Value) (n j : Nat) (u : Value) : Obj.mapSeq (·.setIfInBounds j u) { cls := .type "list", data := .seq its.toArray n } = { cls := .type "list", data := .seq (its.set j u).toArray n } := by
  simp [Obj.mapSeq]
theorem Inv.lst {pins : List (Addr × Obj)} {σ : St} {H : Hp} {s : Shared} {p : Addr} {xs : List V} (I : Inv X pins σ H s) (h : H p = some (.lst xs)) :
    ∃ (its : List Value) (n : Nat), Vals xs its ∧ s.heap.get? p = some { cls := .type "list", data := .seq its.toArray n } ∧ xs.length ≤ sizeLine := by
  obtain ⟨z, its, n, r, e⟩ := I.hok p _ h
  exact ⟨its, n, r, e, z⟩
/-- the list at p is written by an update of its object -/
theorem Inv.lstUpd {pins : List (Addr × Obj)} {σ : St} {H : Hp} {s : Shared} {p : Addr} {xs ys : List V} {its its' : List Value} {n n' : Nat} {f : Obj → Obj} (I : Inv X pins σ H s) (h : H p = some (.lst xs))
    (ho : s.heap.get? p = some { cls := .type "list", data := .seq its.toArray n }) (hf : f { cls := .type "list", data := .seq its.toArray n } = { cls := .type "list", data := .seq its'.toArray n' }) (r : Vals ys its') (hz : ys.length ≤ sizeLine) (t : Nat) :
    Inv X pins σ (upd H p (.lst ys)) { s with heap := s.heap.update p f, toks := t } := by
  have e : (s.heap.update p f).get? p = some { cls := .type "list", data := .seq its'.toArray n' } := by
    rw [Heap.get?_update_self f ho (by rw [hf] <;> rfl), hf]
  refine I.write (x := p) (e := p) (by rw [h]; trivial) (.inl rfl) (fun b u hb q => (Heap.get?_update_other _ _ (Ne.symm hb)).trans q) ⟨_, e⟩ ?_
  exact ⟨hz, its', n', r, e⟩
def rSetL : V → V → V → Hp → (Hp → Prop) → Prop := fun o i v H Q => ∃ p xs k j, o = .ref p ∧ i = .int k ∧ H p = some (.lst xs) ∧ ixN xs.length k = some j ∧ Q (upd H p (.lst (xs.set j v)))
theorem set_list : PSet X rSetL := by
  intro pins s σ H o i v ov iv u Q I ro ri rv h
  obtain ⟨p, xs, k, j, rfl, rfl, hp, hj, q⟩ := h
  cases ro
  obtain ⟨t, rfl⟩ := ri
  obtain ⟨its, n, r, ho, hz⟩ := I.lst hp
  obtain ⟨h1, h2, h3, h4⟩ := ixN_seq hj
  have hl := r.length
  have hn := line63
  have I' : Inv X pins σ (upd H p (.lst (xs.set j v))) { s with heap := s.heap.update p (Obj.mapSeq (·.setIfInBounds j u)) } :=
    I.lstUpd hp ho (mapSeq_set its n j u) (r.set rv j) (by rw [List.length_set]; exact hz) s.toks
  by_cases h0 : 0 ≤ k
  · have hk : k.toNat = j := by
      rw [seqIndex_of h0 h4] at h1
      exact Option.some.inj h1
    exact PySem.W.ki_setAt ho h0 (by omega) (by rw [List.size_toArray, ← hl]; exact h4) (by rw [hk]; exact ⟨_, I', q⟩)
  · have hk : (k + (its.toArray.size : Int)).toNat = j := by
      rw [seqIndex_neg (by omega) h3] at h1
      rw [List.size_toArray, ← hl]
      exact Option.some.inj h1
    exact PySem.W.ki_setBack ho (by omega) (by rw [List.size_toArray, ← hl]; exact h3) (by omega) (by rw [hk]; exact ⟨_, I', q⟩)

/-! ### slices -/
theorem slice_bounds (lo hi : Option Int) (n : Nat) : (sliceBounds lo hi none n).1 = ((HT.sIx n 0 lo : Nat) : Int) ∧ (sliceBounds lo hi none n).2.1 = ((HT.sIx n n hi : Nat) : Int) ∧ (sliceBounds lo hi none n).2.2 = 1 := by
  refine ⟨?_, ?_, rfl⟩
  · cases lo with
    | none => simp [sliceBounds, HT.sIx]
    | some i =>
      simp only [sliceBounds, HT.sIx, Option.getD_none, show (1 : Int) > 0 by decide, if_true]
      by_cases h : i < 0
      · simp only [h, if_true] <;> omega
      · simp only [h, if_false] <;> omega
  · cases hi with
    | none => simp [sliceBounds, HT.sIx]
    | some i =>
      simp only [sliceBounds, HT.sIx, Option.getD_none, show (1 : Int) > 0 by decide, if_true]
      by_cases h : i < 0
      · simp only [h, if_true] <;> omega
      · simp only [h, if_false] <;> omega
theorem slicePick_cut (its : List Value) (lo hi : Option Int) : slicePick its.toArray lo hi none = ((its.drop (HT.sIx its.length 0 lo)).take (HT.sIx its.length its.length hi - HT.sIx its.length 0 lo)).toArray := by
  obtain ⟨h1, h2, h3⟩ := slice_bounds lo hi its.toArray.size
  unfold slicePick
  rw [h1, h2, h3]
  simp only [sliceRange_one, pick_run, List.size_toArray] <;> rfl
/-- xs[lo:hi] of a list: a new list -/
def rSlL (K : PySem.W.Frag) : V → Option Int → Option Int → Hp → VK → Prop := fun x lo hi H Q => ∃ a xs, x = .ref a ∧ SqL K H a xs ∧ ∀ p, H p = none → Q (.ref p) (upd H p (.lst (cutV xs lo hi)))
theorem sl_list : SlR X (rSlL X.K) := by
  intro pins s σ H x v vl vu lo hi sl Q I rx hs pl pu h
  obtain ⟨a, xs, rfl, hx, q⟩ := h
  cases rx
  obtain ⟨its, r, ht, hz⟩ := I.list hx
  have hlen := r.length
  refine ⟨"list", _, slot_list_getitem.lookup, ht.isList.typeIs, ?_⟩
  refine wpAny_getItem_list_slice ht.isList hs pl pu .none (by simp) ?_ (by rw [List.size_toArray] <;> omega)
  rw [slicePick_cut, ← hlen]
  refine ⟨.ref s.heap.objs.size, _, I.laid (t' := s.toks) (o := .lst (cutV xs lo hi)) (fun b ob q => Heap.get?_push_of_some _ q) (Nat.le_refl _) ?_, rfl, q _ (I.hok.fresh (Nat.le_refl _))⟩
  exact ⟨Nat.le_trans (cutV_length xs lo hi) hz, _, 0, (r.drop (HT.sIx xs.length 0 lo)).take (HT.sIx xs.length xs.length hi - HT.sIx xs.length 0 lo), Heap.get?_push_size _ rfl⟩

/-! ### in, not in: flat items -/
def flatV : V → Bool
  | .non => true
  | .bl _ => true
  | .int _ => true
  | .str _ => true
  | _ => false
/-- == of flat values -/
def eqV : V → V → Bool
  | .non, .non => true
  | .bl a, .bl b => a == b
  | .bl a, .int b => (if a then 1 else 0) == b
  | .int a, .bl b => a == (if b then 1 else 0)
  | .int a, .int b => a == b
  | .str a, .str b => a == b
  | _, _ => false
theorem eqAt_V {A : Around} {s : Shared} {y x : V} {u v : Value} (ry : RelV y u) (rx : RelV x v) (fy : flatV y = true) (fx : flatV x = true) : SeqAt.EqAt A s u v (eqV y x) := by
  cases y with
  | non =>
    cases ry
    cases x with
    | non => cases rx; exact SeqAt.EqAt.same _
    | bl b => cases rx; exact SeqAt.EqAt.none_bool b
    | int b => obtain ⟨t, rfl⟩ := rx; exact SeqAt.EqAt.none_int b t
    | str b => obtain ⟨t, rfl⟩ := rx; exact SeqAt.EqAt.none_str b t
    | _ => exact absurd (show false = true from fx) Bool.false_ne_true
  | bl a =>
    cases ry
    cases x with
    | non => cases rx; exact SeqAt.EqAt.bool_none a
    | bl b => cases rx; exact SeqAt.EqAt.bool_bool a b
    | int b => obtain ⟨t, rfl⟩ := rx; exact SeqAt.EqAt.bool_int a b t
    | str b => obtain ⟨t, rfl⟩ := rx; exact SeqAt.EqAt.bool_str a b t
    | _ => exact absurd (show false = true from fx) Bool.false_ne_true
  | int a =>
    obtain ⟨t', rfl⟩ := ry
    cases x with
    | non => cases rx; exact SeqAt.EqAt.int_none a t'
    | bl b => cases rx; exact SeqAt.EqAt.int_bool a t' b
    | int b => obtain ⟨t, rfl⟩ := rx; exact SeqAt.EqAt.int_int a t' b t
    | str b => obtain ⟨t, rfl⟩ := rx; exact SeqAt.EqAt.int_str a t' b t
    | _ => exact absurd (show false = true from fx) Bool.false_ne_true
  | str a =>
    obtain ⟨t', rfl⟩ := ry
    cases x with
    | non => cases rx; exact SeqAt.EqAt.str_none a t'
    | bl b => cases rx; exact SeqAt.EqAt.str_bool a t' b
    | int b => obtain ⟨t, rfl⟩ := rx; exact SeqAt.EqAt.str_int a t' b t
    | str b => obtain ⟨t, rfl⟩ := rx; exact SeqAt.EqAt.str_str a t' b t
    | _ => exact absurd (show false = true from fx) Bool.false_ne_true
  | _ => exact absurd (show false = true from fy) Bool.false_ne_true
/-- the items' answers, read off the values (a value's own answer does not lean on its token) -/
def eqU (x : V) (u : Value) : Bool := match u with
  | .none => eqV .non x
  | .bool b => eqV (.bl b) x
  | .int i _ => eqV (.int i) x
  | .str z _ => eqV (.str z) x
  | _ => false
theorem eqU_of {x y : V} {u : Value} (r : RelV y u) (f : flatV y = true) : eqU x u = eqV y x := by
  cases y with
  | non => cases r; rfl
  | bl b => cases r; rfl
  | int i => obtain ⟨t, rfl⟩ := r; rfl
  | str z => obtain ⟨t, rfl⟩ := r; rfl
  | _ => exact absurd (show false = true from f) Bool.false_ne_true
theorem any_eqU {x : V} : ∀ {xs : List V} {us : List Value}, Vals xs us → xs.all flatV = true → us.any (eqU x) = xs.any fun y => eqV y x
  | _, _, .nil, _ => rfl
  | y :: xs, u :: us, .cons r t, f => by
    rw [List.all_cons, Bool.and_eq_true] at f
    rw [List.any_cons, List.any_cons, eqU_of r f.1, any_eqU t f.2]
theorem mem_eqAt {A : Around} {s : Shared} {x : V} {v : Value} (rx : RelV x v) (fx : flatV x = true) : ∀ {xs : List V} {us : List Value}, Vals xs us → xs.all flatV = true → ∀ u ∈ us, SeqAt.EqAt A s u v (eqU x u)
  | _, _, .nil, _ => fun u hu => by cases hu
  | y :: xs, u :: us, .cons r t, f => fun u' hu => by
    rw [List.all_cons, Bool.and_eq_true] at f
    rcases List.mem_cons.mp hu with rfl | hu
    · rw [eqU_of r f.1]; exact eqAt_V r rx f.1 fx
    · exact mem_eqAt rx fx t f.2 u' hu
def inV (x : V) (xs : List V) : Bool := xs.any fun y => eqV y x
/-- x in a list or tuple of flat items -/
def rIn (K : PySem.W.Frag) (neg : Bool) : R2 := fun x y H Q => ∃ p xs, y = .ref p ∧ (SqL K H p xs ∨ SqT K H p xs) ∧ flatV x = true ∧ xs.all flatV = true ∧ Q (.bl (if neg then !inV x xs else inV x xs)) H
theorem op_notIn_seq : OpR X (compareOp .NotIn) (rIn X.K true) := by
  intro pins s σ H x y v u Q I rx ry h
  obtain ⟨p, xs, rfl, hq, fx, fs, q⟩ := h
  cases ry
  rcases hq with hq | hq
  · obtain ⟨its, r, pl, hz⟩ := I.list hq
    refine SeqAt.notIn_listAt (eqU x) pl.isList (fun w hw => mem_eqAt rx fx r fs w (by simpa using hw)) ⟨.bl _, H, I, rfl, ?_⟩
    rw [show its.toArray.any (eqU x) = its.any (eqU x) by simp, any_eqU r fs]
    exact q
  · obtain ⟨its, r, pl, hz⟩ := I.tuple hq
    refine SeqAt.notIn_tupleAt (eqU x) pl (fun w hw => mem_eqAt rx fx r fs w (by simpa using hw)) ⟨.bl _, H, I, rfl, ?_⟩
    rw [show its.toArray.any (eqU x) = its.any (eqU x) by simp, any_eqU r fs]
    exact q
/-! ### len, list(x), tuple(x) of any list or tuple that is read -/
theorem call_len_seq : CallR X (.builtin "len") (fun xs H Q => ∃ p ys, xs = [.ref p] ∧ (SqL X.K H p ys ∨ SqT X.K H p ys) ∧ Q (.int ys.length) H) := by
  intro pins s σ H xs us Q I r h
  obtain ⟨p, ys, rfl, hq, q⟩ := h
  obtain ⟨u, rfl, rx⟩ := vals1 r
  cases rx
  have hn := line63
  rcases hq with hq | hq
  · obtain ⟨its, r', pl, hz⟩ := I.list hq
    have hlen := r'.length
    exact Calls.call_len_list pl.isList (by simp only [List.size_toArray] <;> omega) ⟨.int ys.length, H, I.tok _, ⟨s.toks + 1, by rw [List.size_toArray, hlen]⟩, q⟩
  · obtain ⟨its, r', pl, hz⟩ := I.tuple hq
    have hlen := r'.length
    exact len_tuple pl (by simp only [List.size_toArray] <;> omega) ⟨.int ys.length, H, I.tok _, ⟨s.toks + 1, by rw [List.size_toArray, hlen]⟩, q⟩
theorem call_len_str : CallR X (.builtin "len") (fun xs H Q => ∃ z, xs = [.str z] ∧ z.length ≤ sizeLine ∧ Q (.int z.length) H) := by
  intro pins s σ H xs us Q I r h
  obtain ⟨z, rfl, hz, q⟩ := h
  obtain ⟨u, rfl, t, rfl⟩ := vals1 r
  have hn := line63
  exact len_str (by omega) ⟨.int z.length, H, I.tok _, ⟨_, rfl⟩, q⟩
theorem CallR.or {f : Value} {r r' : List V → Hp → VK → Prop} (h : CallR X f r) (h' : CallR X f r') : CallR X f (fun xs H Q => r xs H Q ∨ r' xs H Q) := by
  intro pins s σ H xs us Q I rs q
  rcases q with q | q
  · exact h pins s σ H xs us Q I rs q
  · exact h' pins s σ H xs us Q I rs q
theorem call_list_of : CallR X (.type "list") (fun xs H Q => ∃ p ys, xs = [.ref p] ∧ (SqL X.K H p ys ∨ SqT X.K H p ys) ∧ ∀ l, H l = none → Q (.ref l) (upd H l (.lst ys))) := by
  intro pins s σ H xs us Q I r h
  obtain ⟨p, ys, rfl, hq, q⟩ := h
  obtain ⟨u, rfl, rx⟩ := vals1 r
  cases rx
  have fin : ∀ (its : List Value), Vals ys its → ys.length ≤ sizeLine → ∀ (h' : Heap) (c' : Nat), (∀ b o', s.heap.get? b = some o' → h'.get? b = some o') →
      h'.get? s.heap.objs.size = some { cls := .type "list", dict := none, data := .seq its.toArray c', slots := #[] } → EP X pins σ Q (.ref s.heap.objs.size) { s with heap := h' } := fun its r' hz h' c' kp e =>
    ⟨.ref s.heap.objs.size, _, I.laid (t' := s.toks) kp (Nat.le_refl _) (show ObjOk X.prog X.w _ h' _ (.lst ys) from ⟨hz, its, c', r', e⟩), rfl, q _ (I.hok.fresh (Nat.le_refl _))⟩
  rcases hq with hq | hq
  · obtain ⟨its, r', pl, hz⟩ := I.list hq
    have hlen := r'.length
    obtain ⟨o, ho, hc, n, hd⟩ := pl.isList
    exact call_list_seq p (.inl rfl) ho hc hd (fun h' c' kp e => fin its r' hz h' c' kp e) (by simp only [List.size_toArray] <;> omega)
  · obtain ⟨its, r', pl, hz⟩ := I.tuple hq
    have hlen := r'.length
    obtain ⟨o, ho, hc, n, hd⟩ := pl
    exact call_list_seq p (.inr rfl) ho hc hd (fun h' c' kp e => fin its r' hz h' c' kp e) (by simp only [List.size_toArray] <;> omega)
theorem call_tuple_of : CallR X (.type "tuple") (fun xs H Q => ∃ p ys, xs = [.ref p] ∧ ((SqL X.K H p ys ∧ ∀ l, H l = none → Q (.ref l) (upd H l (.tup ys))) ∨ (SqT X.K H p ys ∧ Q (.ref p) H))) := by
  intro pins s σ H xs us Q I r h
  obtain ⟨p, ys, rfl, h⟩ := h
  obtain ⟨u, rfl, rx⟩ := vals1 r
  cases rx
  rcases h with ⟨hq, q⟩ | ⟨hq, q⟩
  · obtain ⟨its, r', pl, hz⟩ := I.list hq
    have hlen := r'.length
    refine call_tuple_list pl.isList (fun h' kp => ?_) (by simp only [List.size_toArray] <;> omega)
    have I1 : Inv X pins σ H { s with heap := h' } := I.kept (t' := s.toks) kp
    have I2 : Inv X pins σ (upd H h'.objs.size (.tup ys)) { s with heap := h'.push { cls := .type "tuple", data := .seq its.toArray } } :=
      I1.laid (t' := s.toks) (fun b o e => Heap.get?_push_of_some _ e) (Nat.le_refl _) (show ObjOk X.prog X.w _ _ _ (.tup ys) from ⟨hz, its, r', IsTup.new _ _⟩)
    exact ⟨.ref h'.objs.size, _, I2, rfl, q _ (I1.hok.fresh (Nat.le_refl _))⟩
  · obtain ⟨its, r', pl, hz⟩ := I.tuple hq
    exact call_tuple_same pl ⟨.ref p, H, I, rfl, q⟩

/-! ### the call of a builtin's method: o.m(..) -/
/-- the value is of that builtin type -/
def tyV (K : PySem.W.Frag) (T : String) (x : V) (H : Hp) : Prop := match x with
  | .str _ => T = "str"
  | .int _ => T = "int"
  | .ref p => (T = "list" ∧ ∃ xs, SqL K H p xs) ∨ (T = "tuple" ∧ ∃ o, K.lookup p = some o ∧ o.cls = .type "tuple" ∧ o.dict = none) ∨
      (T = "dict" ∧ ((∃ kvs, H p = some (.dK kvs)) ∨ ∃ kvs, H p = some (.dT kvs))) ∨ (T = "set" ∧ ∃ S n, H p = some (.set S n))
  | _ => False
theorem tyV_is {pins : List (Addr × Obj)} {σ : St} {H : Hp} {s : Shared} {T : String} {x : V} {v : Value} (I : Inv X pins σ H s) (r : RelV x v) (ty : tyV X.K T x H) :
    s.TypeIs v T ∧ ∀ a, v = .ref a → ∃ ob, s.heap.get? a = some ob ∧ ob.dict = none := by
  cases x with
  | str z =>
    obtain ⟨t, rfl⟩ := r
    cases (show T = "str" from ty)
    exact ⟨typeIs_str s z t, fun _ e => nomatch e⟩
  | int i =>
    obtain ⟨t, rfl⟩ := r
    cases (show T = "int" from ty)
    exact ⟨typeIs_int s i t, fun _ e => nomatch e⟩
  | ref p =>
    cases r
    rcases ty with ⟨rfl, xs, hq⟩ | ⟨rfl, o, hk, hc, hd⟩ | ⟨rfl, hk⟩ | ⟨rfl, S, n, hk⟩
    · obtain ⟨its, _, pl, _⟩ := I.list hq
      refine ⟨pl.isList.typeIs, fun a e => ?_⟩
      cases e
      obtain ⟨o, n, e, c, hd, _⟩ := pl
      exact ⟨o, e, hd⟩
    · refine ⟨⟨o, I.kIn p o hk, hc⟩, fun a e => ?_⟩
      cases e
      exact ⟨o, I.kIn _ o hk, hd⟩
    · have z : ∃ o, s.heap.get? p = some o ∧ o.ExactDict := by
        rcases hk with ⟨kvs, hk⟩ | ⟨kvs, hk⟩
        · obtain ⟨_, _, _, _, o, _, _, e, ex, _⟩ := I.hok p _ hk
          exact ⟨o, e, ex⟩
        · obtain ⟨_, _, _, _, o, _, _, e, ex, _⟩ := I.hok p _ hk
          exact ⟨o, e, ex⟩
      obtain ⟨o, e, ex⟩ := z
      refine ⟨⟨o, e, ex.1⟩, fun a e2 => ?_⟩
      cases e2
      exact ⟨o, e, ex.2.1⟩
    · obtain ⟨o, _, _, _, e, ex, _⟩ := I.hok p _ hk
      refine ⟨⟨o, e, ex.1⟩, fun a e2 => ?_⟩
      cases e2
      exact ⟨o, e, ex.2.1⟩
  | _ => exact False.elim ty
def tBM0 (K : PySem.W.Frag) (T : String) (r : V → List V → Hp → VK → Prop) (to : TE) : TE := fun σ H Q => to σ H fun x H1 => tyV K T x H1 ∧ r x [] H1 Q
def tBM (K : PySem.W.Frag) (T : String) (r : V → List V → Hp → VK → Prop) (to : TE) (t : TA) : TE := fun σ H Q => to σ H fun x H1 => tyV K T x H1 ∧ t σ H1 fun xs H2 => r x xs H2 Q
variable {o e : Expr} {es : List Expr} {to : TE} {t : TA} {name : Str} {apos cpos : Pos} {T id : String} {r : V → List V → Hp → VK → Prop}
theorem pe_bm0 (pa : PlainAttrs T) (slot : Slot T name id) (hty : typeOf (.builtin id) = pure (.type "method_descriptor")) (hm : MtR X id r) (ho : PE X o to)
    (hbase : attributeBase o name X.env (eval o X.env) = eval o X.env := by rfl) (hline : (apos.endLine == cpos.line) = true := by rfl) : PE X (.Call (.Attribute o name apos) [] [] cpos) (tBM0 X.K T r to) := by
  intro pins s σ H Q I h
  refine wpAny_Call_method0_late hbase hline (thn (ho pins s σ H _ I h) fun v s1 ⟨x, H1, I1, r1, ty, q1⟩ => ?_)
  obtain ⟨h1, h2⟩ := tyV_is I1 r1 ty
  exact ⟨T, id, pa, slot, hty, h1, h2, Calls.callWith_builtin rfl (PySem.evalArgs_none (hm pins s1 σ H1 x [] v [] Q I1 r1 .nil q1))⟩
theorem pe_bm (pa : PlainAttrs T) (slot : Slot T name id) (hty : typeOf (.builtin id) = pure (.type "method_descriptor")) (hm : MtR X id r) (ho : PE X o to) (ha : PA X (e :: es) t)
    (hbase : attributeBase o name X.env (eval o X.env) = eval o X.env := by rfl)
    (hfew : ((backTo cpos (starEach (e :: es) X.env)).all (fun x => !x.1) && (backToKw cpos (keywordEach [] X.env)).all (fun x => x.1.isSome)
      && decide ((e :: es).length + ([] : List Keyword).length + (if ([] : List Keyword).isEmpty then 0 else 1) < 30)) = true := by rfl)
    (hline : (apos.endLine == cpos.line) = true := by rfl) (hs : starEach (e :: es) X.env = (false, eval e X.env) :: starEach es X.env := by rfl) (hplain : (backTo cpos (starEach es X.env)).any (·.1) = false := by rfl) :
    PE X (.Call (.Attribute o name apos) (e :: es) [] cpos) (tBM X.K T r to t) := by
  intro pins s σ H Q I h
  refine wpAny_Call_method_late hbase hfew hline rfl (thn (ho pins s σ H _ I h) fun v s1 ⟨x, H1, I1, r1, ty, q1⟩ => ?_)
  obtain ⟨h1, h2⟩ := tyV_is I1 r1 ty
  refine ⟨T, id, pa, slot, hty, h1, h2, ?_⟩
  have hA := ha cpos pins s1 σ H1 _ I1 q1
  rw [hs] at hA ⊢
  refine Calls.callWith_builtin (by show (false || (backTo cpos (starEach es X.env)).any (·.1)) = false; rw [hplain] <;> rfl) (Calls.evalArgs_plain ?_)
  exact thn hA fun us s2 ⟨vs, H2, I2, r2, q2⟩ => hm pins s2 σ H2 x vs v us Q I2 r1 r2 q2
/- xs.append(e), list.index on a module's tuple .. are MtR facts of 06m -/
end
end L2

namespace L2
open PySem PySem.Spec PyProof.Rows

def MtM (X : Cx) (id : String) (r : V → List V → Hp → VK → Prop) : Prop :=
  ∀ (pins : List (Addr × Obj)) (s : Shared) (σ : St) (H : Hp) (x : V) (xs : List V) (v : Value) (us : List Value) (Q : VK), Inv X pins σ H s → RelV x v → Vals xs us → r x xs H Q →
    wpAny (model X.prog X.w) X.A (call (.builtin id) (v :: us)) (EP X pins σ Q) X.xe s

/-! ### lists of values -/
theorem Vals.one : ∀ {x : V} {us : List Value}, Vals [x] us → ∃ u, us = [u] ∧ RelV x u
  | _, _, .cons r .nil => ⟨_, rfl, r⟩
theorem Vals.two : ∀ {x y : V} {us : List Value}, Vals [x, y] us → ∃ u v, us = [u, v] ∧ RelV x u ∧ RelV y v
  | _, _, _, .cons r (.cons q .nil) => ⟨_, _, rfl, r, q⟩
theorem Vals.zero : ∀ {us : List Value}, Vals [] us → us = []
  | _, .nil => rfl
theorem Vals.dropLast {xs : List V} {us : List Value} (h : Vals xs us) : Vals xs.dropLast us.dropLast := by
  induction h with
  | nil => exact .nil
  | cons r t ih =>
    cases t with
    | nil => exact .nil
    | cons q t' => exact .cons r ih
section
variable {X : Cx} {pins : List (Addr × Obj)} {σ : St} {H : Hp} {s : Shared} {l b : Addr} {xs ys zs : List V}

/-! ### the two steps: a tracked list is rewritten, a new list is laid -/
theorem Inv.lset {its its' : List Value} {n : Nat} {f : Array Value → Array Value} {t' : Nat} (I : Inv X pins σ H s) (hH : H l = some (.lst xs))
    (e : s.heap.get? l = some { cls := .type "list", data := .seq its.toArray n }) (hf : f its.toArray = its'.toArray) (hv : Vals ys its') (hz : ys.length ≤ sizeLine) :
    Inv X pins σ (upd H l (.lst ys)) { s with heap := s.heap.update l (Obj.mapSeq f), toks := t' } := by
  have q := PySem.IsL.update e f
  rw [hf] at q
  refine I.write (x := l) (e := l) (by rw [hH]; exact trivial) (.inl rfl) (fun b' u hb hu => (Heap.get?_update_other s.heap (Obj.mapSeq f) (Ne.symm hb)).trans hu) ⟨_, q⟩ ?_
  exact ⟨hz, its', _, hv, q⟩
theorem Inv.lnew {its : List Value} {t' : Nat} (I : Inv X pins σ H s) (hv : Vals ys its) (hz : ys.length ≤ sizeLine) :
    Inv X pins σ (upd H s.heap.objs.size (.lst ys)) { s with heap := s.heap.push { cls := .type "list", data := .seq its.toArray }, toks := t' } :=
  I.laid (fun _ _ q => Heap.get?_push_of_some _ q) (Nat.le_refl _) ⟨hz, its, 0, hv, Heap.get?_push_size _ rfl⟩
theorem Inv.fresh (I : Inv X pins σ H s) : H s.heap.objs.size = none := I.hok.fresh (Nat.le_refl _)
theorem Inv.lstM (I : Inv X pins σ H s) (hH : H l = some (.lst xs)) : xs.length ≤ sizeLine ∧ ∃ (its : List Value) (n : Nat), Vals xs its ∧ xs.length = its.length ∧ s.heap.get? l = some { cls := .type "list", data := .seq its.toArray n } := by
  obtain ⟨z, its, n, r, e⟩ := I.hok l _ hH
  exact ⟨z, its, n, r, r.length, e⟩

end

section
variable {X : Cx}

/-! ### methods -/
def rAppend : V → List V → Hp → VK → Prop := fun x vs H Q => ∃ l xs y, x = .ref l ∧ vs = [y] ∧ H l = some (.lst xs) ∧ xs.length < sizeLine ∧ Q .non (upd H l (.lst (xs ++ [y])))
theorem mt_append : MtM X "list.append" rAppend := by
  intro pins s σ H x vs v us Q I rx rv h
  obtain ⟨l, xs, y, rfl, rfl, hH, hz, q⟩ := h
  cases rx
  obtain ⟨u, rfl, ru⟩ := rv.one
  obtain ⟨z, its, n, r, hl, e⟩ := I.lstM hH
  refine call_meets F.slot_list_append ⟨_, e, rfl⟩ F.entry_list_append (F.args_list_append_2 _ _) (PySem.list_append l its.toArray n u (by rw [List.size_toArray]; omega)) ⟨e, ?_⟩
  refine ⟨.non, _, I.lset (its' := its ++ [u]) hH e (by simp) (r.append (.cons ru .nil)) ?_, rfl, q⟩
  rw [List.length_append, List.length_singleton]
  omega

def rClear : V → List V → Hp → VK → Prop := fun x vs H Q => ∃ l xs, x = .ref l ∧ vs = [] ∧ H l = some (.lst xs) ∧ Q .non (upd H l (.lst []))
theorem mt_clear : MtM X "list.clear" rClear := by
  intro pins s σ H x vs v us Q I rx rv h
  obtain ⟨l, xs, rfl, rfl, hH, q⟩ := h
  cases rx
  have hus := rv.zero
  subst hus
  obtain ⟨z, its, n, r, hl, e⟩ := I.lstM hH
  refine call_meets F.slot_list_clear ⟨_, e, rfl⟩ F.entry_list_clear (F.args_list_clear_1 _) (AutoSeq1.list_clear_list_0 l its.toArray n (by rw [List.size_toArray]; omega)) ⟨e, ?_⟩
  exact ⟨.non, _, I.lset (its' := []) (ys := []) hH e rfl .nil (Nat.zero_le _), rfl, q⟩

/-! ### list + list, list += list, list * int -/
def rCat : R2 := fun x y H Q => ∃ l b xs zs, x = .ref l ∧ y = .ref b ∧ H l = some (.lst xs) ∧ H b = some (.lst zs) ∧ xs.length + zs.length ≤ sizeLine ∧ ∀ p, H p = none → Q (.ref p) (upd H p (.lst (xs ++ zs)))
theorem op_cat : OpR X (binaryOp .Add) rCat := by
  intro pins s σ H x y v u Q I rx ry h
  obtain ⟨l, b, xs, zs, rfl, rfl, hH, hB, hz, q⟩ := h
  cases rx
  cases ry
  obtain ⟨z, its, n, r, hl, e⟩ := I.lstM hH
  obtain ⟨z2, its2, n2, r2, hl2, e2⟩ := I.lstM hB
  refine PySem.P.add_list e e2 ?_ (by rw [List.size_toArray, List.size_toArray]; omega)
  have ea : its.toArray ++ its2.toArray = (its ++ its2).toArray := by simp
  rw [ea]
  exact ⟨.ref _, _, I.lnew (t' := s.toks) (r.append r2) (by rw [List.length_append]; omega), rfl, q _ I.fresh⟩
/-! ### del xs[i] -/
end

/-! ### xs[a:b] = ys -/
section
variable {prog : Program} {w : World} {A : Around} {E : Value → Shared → Prop} {s : Shared}
set_option maxRecDepth 100000 in
end

section
variable {X : Cx}
end
end L2

namespace Att
open PySem PySem.W PySem.Calls PyProof.Rows

/-! ### the script -/
theorem ints_of_wellAll {P : Params} {h : Heap} : ∀ (ns : List Int) (vs : List Value), WellAll P h vs (ns.map WData.int) → IntsAre vs ns := by
  intro ns
  induction ns with
  | nil =>
    intro vs w
    rw [List.map_nil] at w
    cases w
    exact .nil
  | cons n ns ih =>
    intro vs w
    rw [List.map_cons] at w
    cases w with
    | cons a b =>
      cases a
      exact .cons _ _ (ih _ b)

theorem script_of {l : OpenLaw} {n : Nat} (hn : l.most = some n) {P : Params} {h : Heap} {args : List WData} {vals : List Value}
    (hpre : l.row.toRowW.claim.pre args = true) (hwl : WellAll P h vals args) :
    ∃ a vs ns, vals = [Value.ref a] ∧ args = [WData.list (ns.map WData.int)] ∧ h.get? a = some { cls := .type "list", data := .seq vs.toArray } ∧ IntsAre vs ns ∧ ns.length ≤ n := by
  have hsh : WShape.hasAll [] args [.list .int] = true := (pre_splitW hpre).1
  have hc : l.pre.holds [] { args := args } = true := (pre_splitW hpre).2
  obtain ⟨d, r, rfl, h1, h2⟩ := hasAllW_cons hsh
  obtain rfl := hasAllW_nil h2
  obtain ⟨xs, rfl, h3⟩ := hasW_list h1
  obtain ⟨ns, rfl⟩ := items_int h3
  have hlen : ns.length ≤ n := by
    unfold OpenLaw.pre at hc
    have h4 : (WTm.not (.lt (.lit (.int (n : Int))) (.len (.arg 0)))).holds [] { args := [.list (ns.map .int)] } = true := by
      have h4 := (holds_andW hc).1
      rw [hn] at h4
      exact h4
    have h5 := condW_of h4 (w_not (w_lt w_lit (w_len_list (w_arg rfl))))
    rw [List.length_map] at h5
    refine Nat.le_of_not_lt fun q => ?_
    have q' : (n : Int) < ((ns.length : Nat) : Int) := by omega
    first
      | (rw [decide_eq_true q'] at h5; exact absurd h5 (by decide))
      | (simp at h5; omega)
  cases hwl with
  | cons w1 w2 =>
    cases w2
    cases w1 with
    | list ho hall => exact ⟨_, _, ns, rfl, rfl, ho, ints_of_wellAll ns _ hall, hlen⟩

theorem post_true (l : OpenLaw) (args : List WData) : l.row.toRowW.claim.post args (.bool true) args = true :=
  postW_of (r := l.row.toRowW) (X := (true == true))
    (show WShape.has [] (.bool true) .bool = true by first | rfl | decide | simp [WShape.has, WShape.arms, WShape.armsAll])
    (show (WTm.eq .res (.lit (.bool true))).value [] { args := args, res := some (.bool true), after := args } = some (.bool (true == true)) from w_eq_bool (w_res rfl) w_lit) rfl

/-! ### the attachment: holds_open's last premise (the goal 'hc' behind k_head) from a wpAny of the law's body -/
/-- the same from a codeAny of the CALL (for a layer whose function contracts speak of calls) -/
theorem attach_call {l : OpenLaw} {n : Nat} {q : Program} {loose : List Str} {XP : (Str → Option Value) → Heap → Prop} {YP : World → Heap → Prop} {d : DefRec}
    (hn : l.most = some n) (hdf : d.params.defaults = [])
    (call : ∀ (w : World) (s₀ s₁ : Shared) (mg mb : Str → Option Value) (fa : Addr) (o : Obj) (pm cd doc : Value) (a : Addr) (vs : List Value) (ns : List Int),
      Ground q loose [] XP w s₀ mg mb s₁.heap → YP w s₁.heap →
      s₁.heap.get? fa = some o → o.data = .func (docDef d.name d.params d.body d.scope pm cd doc) → s₁.heap.CodeRec cd d.name → mg d.name = some (.ref fa) →
      s₁.heap.get? a = some { cls := .type "list", data := .seq vs.toArray } → IntsAre vs ns → ns.length ≤ n → s₁.gens = #[] →
      codeAny (model l.prog w) callerA (.call (.ref fa) ⟨[.ref a], []⟩) (fun r s' => r = .ok (.ret (.bool true)) ∧ OldK s₁.heap s'.heap ∧ s'.os = s₁.os ∧ AllBare s'.gens) s₁) :
    WalkO q loose XP YP l.row.toRowW d [] (fun f vs => PySem.call f vs) := by
  intro w s₀ s₁ mg mb G Y fa o pm cd doc dV kV ho hd hcd hD hmg hg args vals as hpre hlay hrd hwl hlo
  obtain rfl : dV = .none := Dflts.none hD hdf
  obtain rfl : kV = .none := Dflts.noKw hD
  obtain ⟨a, vs, ns, rfl, rfl, hobj, hints, hlen⟩ := script_of hn hpre hwl
  refine enter_call (codeAny_mono (call w s₀ s₁ mg mb fa o pm cd doc a vs ns G Y ho (fd_plain hd) hcd hmg hobj hints hlen hg) fun r s' hq => ?_)
  obtain ⟨rfl, h2, h3, h4⟩ := hq
  exact ⟨.inl ⟨.bool true, .bool true, [], rfl, fun _ => rfl, .bool true, post_true l _, fun _ => ⟨List.Pairwise.nil, fun _ hm => (nomatch hm)⟩⟩, h2, h3, h4⟩

/-! ### rules over ANY heap (no ledger) from facts about the written part K: the library's own take a ledger (News) for what they write -/
section
variable {prog : Program} {w : World} {A : Around} {E : Value → Shared → Prop} {s : Shared} {K : Frag}

/-! the whole heap as the ledger: makes every rule that writes through a ledger a rule over any heap -/
def ledger (h : Heap) (L d : Addr) : List (Addr × Obj) := (List.range h.objs.size).filterMap fun a => if a = L ∨ a = d then none else (h.get? a).map fun o => (a, o)
end
end Att

namespace L2
open PySem PySem.Spec PyProof.Rows

theorem vals_ints : ∀ {vs : List Value} {ns : List Int}, IntsAre vs ns → Vals (ns.map V.int) vs
  | _, _, .nil => .nil
  | _, _, .cons n t h => .cons ⟨t, rfl⟩ (vals_ints h)

/-- nothing is tracked but the script, known to the object (or it is an object of the module) -/
def Only (H : Hp) : Prop := ∀ b, H b = none ∨ ∃ o xs, H b = some (.frz o (.lst xs))

/-- THE HEAD: the law's promise, at the heap behind the top. F, the promise of the law's def, may use that base is part of the heap (so K.In base, base.Ns mainGlobals mg stand in Mod) -/
theorem law_call {P : Program} {w : World} {K : PySem.W.Frag} {mg mb : Str → Option Value} {CX : CXT} {k : Nat} {fa a : Addr} {fd : FuncData} {x : Str} {sp : Sp} {s₁ : Shared} {vs : List Value} {ns : List Int}
    (KX : K.In s₁.heap) (hns : s₁.heap.Ns mainGlobals mg) (hb : s₁.heap.Ns builtinsNs mb) (hbb : ∀ x : Str, x ≠ "__name__" → mb x = bootBuiltins x) (hlim : s₁.heap.NoLimit) (hg : s₁.gens = #[])
    (ha : s₁.heap.get? a = some { cls := .type "list", data := .seq vs.toArray }) (hi : IntsAre vs ns) (hl : ns.length ≤ sizeLine) (hr : Room k callerA)
    (F : ∀ base : Heap, K.In base → base.Ns mainGlobals mg → FnOk P w K mg base CX k fa fd [x] sp) (hbind : ∀ (s : Shared) (u : Value), BindsTo s fd ⟨[u], []⟩ [(x, u)])
    (hsp : ∀ H : Hp, Only H → SqL K H a (ns.map V.int) → sp [.ref a] H (fun v _ => v = .bl true) fun _ _ _ => False)
    (hCX : ∀ H e s', CX [] H s₁ (fun _ _ _ => False) e s' → False) :
    codeAny (model P w) callerA (.call (.ref fa) ⟨[.ref a], []⟩) (fun r s' => r = .ok (.ret (.bool true)) ∧ OldK s₁.heap s'.heap ∧ s'.os = s₁.os ∧ AllBare s'.gens) s₁ := by
  have rv := vals_ints hi
  have lenV := hi.length
  -- from an abstract heap in which nothing but the script may be tracked
  have core : ∀ H : Hp, Only H → SqL K H a (ns.map V.int) → HOk P w H s₁.heap → (∀ b, H b ≠ none → b = a) → (H a ≠ none → K.lookup a = none) →
      codeAny (model P w) callerA (.call (.ref fa) ⟨[.ref a], []⟩) (fun r s' => r = .ok (.ret (.bool true)) ∧ OldK s₁.heap s'.heap ∧ s'.os = s₁.os ∧ AllBare s'.gens) s₁ := by
    intro H hO hS hok hA hK
    have base_of : ∀ {b : Addr} {o : Obj}, s₁.heap.get? b = some o → H b = none → (hidT s₁.heap H).get? b = some o := fun e n => hidT_get e n
    have noA : ∀ {b : Addr} {o : Obj} {es : Array DictEntry} {ep : Nat}, s₁.heap.get? b = some o → o.data = .dict es ep → H b = none := fun {b o es ep} e d => by
      cases q : H b with
      | none => rfl
      | some u =>
        have e' : b = a := hA b (by rw [q]; simp)
        subst e'
        rw [ha] at e; cases e
        have d' : Data.seq vs.toArray _ = Data.dict es ep := d
        cases d'
    have nsK : ∀ {b : Addr} {m : Str → Option Value}, s₁.heap.Ns b m → (hidT s₁.heap H).Ns b m := fun {b m} ⟨o, es, ep, e, d, r⟩ => ⟨o, es, ep, base_of e (noA e d), d, r⟩
    have hKb : K.In (hidT s₁.heap H) := fun b o e => base_of (KX b o e) (by
      cases q : H b with
      | none => rfl
      | some u =>
        have e' : b = a := hA b (by rw [q]; simp)
        subst e'
        rw [hK (by rw [q]; simp)] at e; cases e)
    have hM : Mod K mg (hidT s₁.heap H) := ⟨hKb, nsK hns, ⟨mb, nsK hb, hbb⟩, let ⟨mc, h1, h2⟩ := hlim; ⟨mc, nsK h1, h2⟩⟩
    have e0 : Env0 P w K mg (hidT s₁.heap H) callerA [] s₁ H := ⟨rfl, hM, fun b o e => of_hidT e, Nat.le_of_eq (hidT_size _ _), trivial, fun b hb => absurd (show b ∈ ([] : List Addr) from hb) (by simp), hok, .of_eq hg⟩
    refine codeAny_mono ((F _ hKb (nsK hns)).run callerA [] s₁ H ⟨[.ref a], []⟩ [.ref a] [.ref a] _ _ hr e0 (hbind s₁ (.ref a)) (.cons rfl .nil) (hsp H hO hS)) fun r s' h => ?_
    cases r with
    | error e => exact (hCX H e s' h).elim
    | ok fl =>
      cases fl with
      | next => exact False.elim h
      | brk => exact False.elim h
      | cont => exact False.elim h
      | ret u =>
        obtain ⟨v, H', os, bare, un, hok', r', q⟩ := h
        have q' : v = .bl true := q
        subst q'
        obtain rfl : u = Value.bool true := r'
        refine ⟨rfl, OldK.of_keep fun b o e => ?_, os, bare⟩
        cases q : H b with
        | none => exact un.keep b o e q (by intro z; exact absurd (show b ∈ ([] : List Addr) from z) (by simp)) (by simp)
        | some u =>
          rcases hO b with z | ⟨ob, xs, z⟩
          · rw [q] at z; cases z
          · have z2 := un.frzs b ob _ z
            obtain ⟨e1, _⟩ := hok b _ z
            obtain ⟨e2, _⟩ := hok' b _ z2
            rw [e] at e1; cases e1
            exact e2
  cases hk : K.lookup a with
  | some o =>
    -- the script is one of the module's own objects
    have e := KX a o hk
    rw [ha] at e
    cases e
    refine core (fun _ => none) (fun _ => .inl rfl) (.inr ⟨_, vs.toArray, _, hk, rfl, rfl, rfl, by rw [List.size_toArray, lenV]; exact hl, by simpa using rv⟩) (fun b u z => by have z' : (none : Option HO) = some u := z; cases z') (fun b z => absurd rfl z) fun z => absurd rfl z
  | none =>
    refine core (fun b => if b = a then some (.frz { cls := .type "list", data := .seq vs.toArray } (.lst (ns.map V.int))) else none) (fun b => ?_) (.inl (.inr ⟨{ cls := .type "list", data := .seq vs.toArray }, if_pos rfl⟩)) (fun b u z => ?_) (fun b z => ?_) fun _ => hk
    · by_cases hb : b = a
      · exact .inr ⟨_, _, if_pos hb⟩
      · exact .inl (if_neg hb)
    · by_cases hb : b = a
      · have z' := (if_pos hb).symm.trans z
        cases z'
        subst hb
        exact ⟨ha, by rw [List.length_map]; exact hl, vs, _, rv, ha⟩
      · have z' := (if_neg hb).symm.trans z
        cases z'
    · by_cases hb : b = a
      · exact hb
      · exact absurd (if_neg hb) z
end L2

namespace L2
open PySem PySem.Spec PyProof.Rows

abbrev KOf {K : PySem.W.Frag} {h : Heap} (_ : K.In h) : PySem.W.Frag := K

/-- the goal that k_head leaves (case hc), from the law's promise. F gives the function object fd (K's own) once, then the promise over every base -/
theorem walk_of {l : PySem.W.OpenLaw} {n k : Nat} {q : Program} {loose : List Str} {XP : (Str → Option Value) → Heap → Prop} {YP : World → Heap → Prop} {d : DefRec} {K : Params → PySem.W.Frag} {CX : World → CXT} {sp : World → Sp} {x : Str}
    (hn : l.most = some n) (hn2 : n ≤ sizeLine) (hdf : d.params.defaults = []) (hr : Room k callerA)
    (hY : ∀ (w : World) (h : Heap), YP w h → (K w.params).In h)
    (F : ∀ (w : World) (mg : Str → Option Value) (fa : Addr) (h : Heap), (K w.params).In h → h.Ns mainGlobals mg → mg d.name = some (.ref fa) →
      ∃ fd : FuncData, (∀ (s : Shared) (u : Value), BindsTo s fd ⟨[u], []⟩ [(x, u)]) ∧
        ∀ base : Heap, (K w.params).In base → base.Ns mainGlobals mg → FnOk l.prog w (K w.params) mg base (CX w) k fa fd [x] (sp w))
    (hsp : ∀ (w : World) (H : Hp) (a : Addr) (ns : List Int), ns.length ≤ n → Only H → SqL (K w.params) H a (ns.map V.int) → sp w [.ref a] H (fun v _ => v = .bl true) fun _ _ _ => False)
    (hCX : ∀ (w : World) (H : Hp) (s : Shared) (e : Value) (s' : Shared), CX w [] H s (fun _ _ _ => False) e s' → False) :
    PySem.W.WalkO q loose XP YP l.row.toRowW d [] (fun f vs => PySem.call f vs) := by
  refine Att.attach_call hn hdf fun w s₀ s₁ mg mb fa o pm cd doc a vs ns G Y ho hd hcd hmg hobj hints hlen hg => ?_
  have KX := hY w _ Y
  obtain ⟨fd, hb, hF⟩ := F w mg fa _ KX G.T.g hmg
  exact law_call KX G.T.g G.T.b G.T.builtins G.T.nolimit hg hobj hints (Nat.le_trans hlen hn2) hr hF hb (fun H hO hS => hsp w H a ns hlen hO hS) fun H e s' => hCX w H s₁ e s'
end L2

/- THE LAST THEOREM (shape; LID, My.* are yours):
   My.Adr: a structure of the addresses that your layer names (classes, functions); My.Txt K t: a structure (Prop) of the equations over K;
   My.txt_mk : {K} {implicit addresses ..} (e1 : nsIn K mainGlobals "law" = some (some (.ref f))) (e2 : K.lookup f = some ⟨oc, od, .func (fnOf "law" "law" params body scope dV kV doc pm an cdv ct), sl⟩) (e3 : codeIn K cdv "law" = true) .. : ∃ t, My.Txt K t

set_option maxRecDepth 100000 in
set_option maxHeartbeats 0 in
theorem PySem.Challenge.cw_LID_holds : PySem.Challenge.rw_LID.Holds := by
  w_on; o_law; k_head; (case hw => w_witness2)
  k_fill
  refine L2.walk_of (l := PySem.Challenge.rw_LID) (n := 63) (k := 40) (x := "script") (CX := fun w => ..) (sp := fun _ => My.sp_law) rfl (by decide) rfl ⟨rfl, by decide, by decide⟩ (fun w h Y => PySem.W.kIn_of Y) ?F ?S ?C
  case F =>
    intro w mg fa h KX G hmg
    have T : ∃ t, My.Txt (L2.KOf KX) t := by
      dsimp only [L2.KOf]                          -- K must stand as «<heap const> w.params» for k_is
      refine' My.txt_mk ?e1 ?e2 ?e3 ..
      (case e1 => PySem.W.k_is)                    -- in the order: a name -> its address -> its object -> its parts
      (case e2 => PySem.W.k_is)
      ..
    obtain ⟨t, T⟩ := T
    have e0 := hmg.symm.trans (PySem.W.mg_of KX G T.law)
    cases e0                                       -- fa is the law's own address
    exact ⟨_, fun s u => .of_eq rfl, fun base kb nb => My.law_fn T kb nb⟩     -- if «.of_eq rfl» comes too early: refine' ⟨_, ?b, fun base kb nb => My.law_fn T kb nb⟩; exact fun s u => .of_eq rfl
  case S => exact fun w H a ns hl hO hS => ..
  case C => exact ..
(the tactic k_is has no namespace: write k_is) -/

/-! SHORT WORDS over the layer: a def of the text, its body, what a loop and a test want. -/
namespace L2
open PySem PySem.Spec PyProof.Rows

/-! ### the text by places -/
/-- the j-th statement of a class's body -/
def inClass (s : Stmt) (j : Nat) : Stmt := match s with
  | .ClassDef _ _ _ body _ _ _ _ _ _ _ => body.getD j (.Pass ⟨0, 0, 0, 0⟩)
  | _ => .Pass ⟨0, 0, 0, 0⟩
def defArgs (s : Stmt) : Arguments := match s with
  | .FunctionDef _ a _ _ _ _ _ _ _ _ => a
  | _ => { posonlyargs := [], args := [], vararg := none, kwonlyargs := [], kw_defaults := [], kwarg := none, defaults := [] }
def defBody (s : Stmt) : List Stmt := match s with
  | .FunctionDef _ _ b _ _ _ _ _ _ _ => b
  | _ => []
def defScope (s : Stmt) : Scope := match s with
  | .FunctionDef _ _ _ _ _ _ sc _ _ _ => sc
  | _ => { kind := .function, names := [], isGenerator := false, isCoroutine := false }

/-! ### no exception leaves a def -/
abbrev CX0 : CXT := fun _ _ _ _ _ _ => False
abbrev E0 : XK := fun _ _ _ => False
theorem pass0 {X : Cx} : Passes CX0 X E0 := fun _ _ _ _ _ _ _ h => h.elim

/-! ### a def (or method) of the text as it stands behind the top -/
structure Fun (K : PySem.W.Frag) (x qual : Str) (st : Stmt) (f : Addr) (fd : FuncData) : Prop where
  ex : ∃ (oc : Value) (od : Option Addr) (kV doc pm : Value) (an : Option Addr) (cdv ct : Value) (osl : Array (Option Value)),
    fd = PySem.W.fnOf x qual (defArgs st) (defBody st) (defScope st) .none kV doc pm an cdv ct ∧ K.lookup f = some ⟨oc, od, .func fd, osl⟩ ∧ PySem.W.codeIn K cdv qual = true
  kp : PySem.W.keepIn K (.ref f) = true
section
variable {P : Program} {w : World} {K : PySem.W.Frag} {mg : Str → Option Value} {base : Heap}
/-- THE RULE for a def: its body as a term of rules, and the reading of that term -/
theorem Fun.ok {x qual : Str} {st : Stmt} {f : Addr} {fd : FuncData} {N ps : List Str} {k : Nat} {sp : Sp} (F : Fun K x qual st f fd) (S : FnScope N ps (defScope st)) (len : ∀ vs H Q E, sp vs H Q E → vs.length = ps.length)
    (hbody : ∀ (cdv : Value) (A : Around) (outer : List Env) (s : Shared) (H : Hp) (vs : List V) (Q : VK) (E : XK), Room k (A.deeper (envOfC qual (defScope st) s.heap.objs.size f cdv)) → sp vs H Q E →
      ∃ t, PSs (cxOf CX0 P w K mg base N qual (defScope st) f cdv A outer s H E).nox (defBody st) t ∧ t { nx := fun _ H' => Q .non H', rt := Q } (start N vs) H) : FnOk P w K mg base CX0 (k + 1) f fd ps sp := by
  obtain ⟨oc, od, kV, doc, pm, an, cdv, ct, osl, rfl, lk, hcd⟩ := F.ex
  refine fn_of lk hcd S len fun A outer s H vs Q E hr hsp => ?_
  obtain ⟨t, h, q⟩ := hbody cdv A outer s H vs Q E hr hsp
  exact ⟨t, h.nox, q⟩
/-- how its arguments bind (no defaults): h is «fun _ _ _ _ _ _ us hl => match us, hl with | [_, _], _ => rfl», one _ a parameter -/
theorem Fun.binds {x qual : Str} {st : Stmt} {f : Addr} {fd : FuncData} {ps : List Str} (F : Fun K x qual st f fd)
    (h : ∀ (kV doc pm : Value) (an : Option Addr) (cdv ct : Value) (us : List Value), us.length = ps.length → bindArgs (PySem.W.fnOf x qual (defArgs st) (defBody st) (defScope st) .none kV doc pm an cdv ct) ⟨us, []⟩ = pure (ps.zip us)) : Binds K fd ps [] := by
  obtain ⟨oc, od, kV, doc, pm, an, cdv, ct, osl, rfl, lk, hcd⟩ := F.ex
  exact .all (h kV doc pm an cdv ct)
theorem fun_mk {x qual : Str} {st : Stmt} {f : Addr} {oc : Value} {od an : Option Addr} {osl : Array (Option Value)} {kV doc pm cdv ct : Value} (l : K.lookup f = some ⟨oc, od, .func (PySem.W.fnOf x qual (defArgs st) (defBody st) (defScope st) .none kV doc pm an cdv ct), osl⟩)
    (c : PySem.W.codeIn K cdv qual = true) (k : PySem.W.keepIn K (.ref f) = true) : Fun K x qual st f (PySem.W.fnOf x qual (defArgs st) (defBody st) (defScope st) .none kV doc pm an cdv ct) := ⟨⟨oc, od, kV, doc, pm, an, cdv, ct, osl, rfl, l, c⟩, k⟩
end
theorem hu_of {A : Around} {k : Nat} (hr : Room k A) : A.units + 1 < cLine := Nat.lt_of_le_of_lt (Nat.add_le_add_left (by decide : 1 ≤ 64) _) hr.units
theorem small1000 {n : Nat} (h : n ≤ 1000) : n < sizeLine := Nat.lt_of_le_of_lt h (by decide)

/-! ### expressions in short: the name that stands in the i-th slot -/
section
variable {X : Cx}
theorem pv (i : Nat) {x : Str} {pos : Pos} (hN : X.N[i]? = some x := by rfl) (hv : Vis X.env.scope x := by first | exact Or.inl rfl | exact Or.inr (Or.inl rfl) | exact Or.inr (Or.inr rfl)) (hd : (x == ("__debug__" : Str)) = false := by decide)
    (hcd : (x == ("__classdict__" : Str)) = false := by decide) : PE X (.Name x pos) (tVar i) := pe_var hN hv hd hcd
end

/-! ### tests -/
theorem iteF {A B : Prop} (h : B) : if false = true then A else B := by
  rw [if_neg Bool.false_ne_true]
  exact h
theorem iteT {A B : Prop} (h : A) : if true = true then A else B := by
  rw [if_pos rfl]
  exact h
theorem ite2 {c A B : Prop} [Decidable c] (h1 : c → A) (h2 : ¬ c → B) : if c then A else B := by
  by_cases h : c
  · rw [if_pos h]
    exact h1 h
  · rw [if_neg h]
    exact h2 h
theorem iteNS {c A B : Prop} [Decidable c] (hc : c) (h : B) : if (!decide c) = true then A else B := by
  rw [decide_eq_true hc]
  exact iteF h

/-! ### heaps -/
/-- all that was tracked is as it was -/
def Same (H H' : Hp) : Prop := ∀ b o, H b = some o → H' b = some o
theorem Same.refl (H : Hp) : Same H H := fun _ _ h => h
theorem Same.trans {H H1 H2 : Hp} (a : Same H H1) (b : Same H1 H2) : Same H H2 := fun c o h => b c o (a c o h)
theorem Same.free {H H' : Hp} (e : Same H H') {l : Addr} (h : H' l = Option.none) : H l = Option.none := by
  cases q : H l with
  | none => rfl
  | some o =>
    rw [e l o q] at h
    cases h
theorem Same.seq {K : PySem.W.Frag} {H H' : Hp} {a : Addr} {xs : List V} (e : Same H H') (h : SqL K H a xs) : SqL K H' a xs := by
  rcases h with (h | ⟨o, h⟩) | h
  · exact .inl (.inl (e _ _ h))
  · exact .inl (.inr ⟨o, e _ _ h⟩)
  · exact .inr h

end L2
set_option Elab.async false
set_option linter.all false
set_option maxRecDepth 100000
set_option maxHeartbeats 4000000
namespace L2
open PySem PySem.Spec PyProof.Rows

section
variable {prog : Program} {w : World} {A : Around} {R : Result → Shared → Prop} {s : Shared}
/-- the comprehension's loop, the step ahead of the store kept -/
theorem compLoop_go {elt target iter : Expr} {ifs : List Expr} {scope : Scope} {pos : Pos} {it acc : Value} {env : Env} (I : Nat → Shared → Prop)
    (turn : ∀ n s, I n s → wpAny (model prog w) A (pyNext it) (fun r s₁ => match r with
      | none => R (.ok .next) s₁
      | some v => wpAny (model prog w) A (letOwnedTupleGo target it v) (fun _ s₀ => wpAny (model prog w) A (assign target env v) (fun _ s₂ =>
          wpAny (model prog w) A (forIn ifs true fun c r => if r = true then do let ok ← isTrue c env (eval c env); pure (ForInStep.yield ok) else pure (ForInStep.yield r)) (fun ok s₃ =>
            if ok = true then wpAny (model prog w) A (eval elt env) (fun x s₄ =>
              wpAny (model prog w) A (call (.builtin "list.append") [acc, x]) (fun _ s₅ => ∃ m, m < n ∧ I m s₅) (notedBy (model prog w) A env fun e s' => R (.error e) s') s₄) (notedBy (model prog w) A env fun e s' => R (.error e) s') s₃
            else ∃ m, m < n ∧ I m s₃) (notedBy (model prog w) A env fun e s' => R (.error e) s') s₂) (notedBy (model prog w) A env fun e s' => R (.error e) s') s₀) (notedBy (model prog w) A env fun e s' => R (.error e) s') s₁) (notedBy (model prog w) A env fun e s' => R (.error e) s') s)
    (n : Nat) (h : I n s) :
    codeAny (model prog w) A (.compLoop (.ListComp elt [⟨target, iter, ifs, 0⟩] scope pos) 0 it acc env) R s := by
  refine codeAny_loop rfl I (fun n s hI => ?_) n h
  show wpAny _ A ((compTurn (.ListComp elt [⟨target, iter, ifs, 0⟩] scope pos) 0 it acc env).onRaise (fun x => do noteFrame x env; theTreesLotGoes x)) _ _ s
  refine wpAny_noted ?_
  rw [compTurn_list]
  refine wpAny_bind (wpAny_standAt (wpAny_bind (wpAny_mono (turn n s hI) (fun r s₁ h₁ => ?_) fun _ _ h' => h')))
  cases r with
  | none => exact wpAny_pure h₁
  | some v =>
    refine wpAny_bind (wpAny_mono h₁ (fun _ s₀ h₀ => ?_) fun _ _ h' => h')
    refine wpAny_bind (wpAny_mono h₀ (fun _ s₂ h₂ => wpAny_bind (wpAny_mono h₂ (fun ok s₃ h₃ => ?_) fun _ _ h' => h')) fun _ _ h' => h')
    cases ok with
    | false => exact wpAny_pure ⟨rfl, h₃⟩
    | true =>
      exact wpAny_bind (wpAny_bind (wpAny_mono h₃ (fun x s₄ h₄ => wpAny_bind (wpAny_mono h₄ (fun _ s₅ h₅ => wpAny_pure (wpAny_pure ⟨rfl, h₅⟩)) fun _ _ h' => h')) fun _ _ h' => h'))
end

/-- the closure that a comprehension takes -/
def closL (env : Env) (l : List (Str × NameKind)) : List (Str × Addr) → List (Str × Addr) := fun cs => l.foldl (fun cs p => if p.2 == .free then (p.1, (env.cells.lookup p.1).getD 0) :: cs else cs) cs
def FreeIn (env : Env) (l : List (Str × NameKind)) : Prop := ∀ p ∈ l, p.2 = .free → ∃ c, env.cells.lookup p.1 = some c
theorem closure_eq {env : Env} {scope : Scope} (h : FreeIn env scope.names) : closureFor scope env = pure (closL env scope.names []) := by
  have all : ∀ (l : List (Str × NameKind)) (cs : List (Str × Addr)), FreeIn env l → (forIn l cs fun x r => if (x.2 == .free) = true then do let a ← cellOf env x.1; pure (ForInStep.yield ((x.1, a) :: r)) else pure (ForInStep.yield r) : Sem (List (Str × Addr))) = pure (closL env l cs) := by
    intro l
    induction l with
    | nil => intro cs _; rfl
    | cons p r ih =>
      intro cs hf
      have e : closL env (p :: r) cs = closL env r (if p.2 == .free then (p.1, (env.cells.lookup p.1).getD 0) :: cs else cs) := rfl
      rw [List.forIn_cons, e]
      cases hk : (p.2 == NameKind.free) with
      | true =>
        obtain ⟨c, hc⟩ := hf p List.mem_cons_self (eq_of_beq hk)
        have hcell : cellOf env p.1 = pure c := by unfold cellOf; rw [hc]
        simp only [if_true, hcell, pure_bind]
        rw [ih _ fun q hq => hf q (List.mem_cons_of_mem _ hq), hc]
        rfl
      | false =>
        simp only [Bool.false_eq_true, if_false, pure_bind]
        exact ih _ fun q hq => hf q (List.mem_cons_of_mem _ hq)
  have := all scope.names [] h
  simpa [closureFor] using this
theorem clos_sub {env : Env} : ∀ {l : List (Str × NameKind)} {cs : List (Str × Addr)} {x : Str} {c : Addr}, FreeIn env l → (closL env l cs).lookup x = some c → cs.lookup x = some c ∨ env.cells.lookup x = some c
  | [], _, _, _, _, h => .inl h
  | p :: r, cs, x, c, hf, h => by
    have h' : (closL env r (if p.2 == .free then (p.1, (env.cells.lookup p.1).getD 0) :: cs else cs)).lookup x = some c := h
    rcases clos_sub (fun q hq => hf q (List.mem_cons_of_mem _ hq)) h' with q | q
    · cases hk : (p.2 == NameKind.free) with
      | true =>
        rw [hk, if_pos rfl, List.lookup_cons] at q
        cases e : x == p.1 with
        | true =>
          rw [e] at q
          obtain ⟨d, hd⟩ := hf p List.mem_cons_self (eq_of_beq hk)
          refine .inr ?_
          rw [eq_of_beq e, hd]
          rw [hd] at q
          exact q
        | false =>
          rw [e] at q
          exact .inl q
      | false =>
        rw [hk, if_neg Bool.false_ne_true] at q
        exact .inl q
    · exact .inr q
theorem clos_mono {env : Env} {x : Str} : ∀ {l : List (Str × NameKind)} {cs : List (Str × Addr)}, (cs.lookup x).isSome = true → ((closL env l cs).lookup x).isSome = true
  | [], _, h => h
  | p :: r, cs, h => by
    show ((closL env r (if p.2 == .free then (p.1, (env.cells.lookup p.1).getD 0) :: cs else cs)).lookup x).isSome = true
    refine clos_mono ?_
    cases hk : (p.2 == NameKind.free) with
    | true =>
      rw [if_pos rfl, List.lookup_cons]
      cases e : x == p.1 with
      | true => rfl
      | false => exact h
    | false => rw [if_neg Bool.false_ne_true]; exact h
theorem clos_has {env : Env} {x : Str} : ∀ {l : List (Str × NameKind)} {cs : List (Str × Addr)}, (x, NameKind.free) ∈ l → ((closL env l cs).lookup x).isSome = true
  | [], _, h => by cases h
  | p :: r, cs, h => by
    show ((closL env r (if p.2 == .free then (p.1, (env.cells.lookup p.1).getD 0) :: cs else cs)).lookup x).isSome = true
    rcases List.mem_cons.mp h with e | h
    · subst e
      refine clos_mono ?_
      show (List.lookup x ((x, (env.cells.lookup x).getD 0) :: cs)).isSome = true
      rw [List.lookup_cons, beq_self_eq_true]
      rfl
    · exact clos_has h
def SubCells (env : Env) (cl : List (Str × Addr)) : Prop := ∀ x c, cl.lookup x = some c → env.cells.lookup x = some c
theorem SubCells.get {env : Env} {cl : List (Str × Addr)} {x : Str} {c : Addr} (h : SubCells env cl) (e : cl.lookup x = some c) : env.cells.lookup x = some c := h x c e
theorem sub_clos {env : Env} {l : List (Str × NameKind)} (h : FreeIn env l) : SubCells env (closL env l []) := fun x c e => by
  rcases clos_sub h e with q | q
  · cases q
  · exact q
/-- a free name of the block is a cell of it, or still free -/
theorem relabel_free {env : Env} : ∀ {names : List (Str × NameKind)} {x : Str}, names.lookup x = some .free →
    (names.map fun (n, k) => if (k == NameKind.free && env.scope.kind == .function && env.kindOf n == some .cell) then (n, NameKind.cell) else (n, k)).lookup x = some .cell ∨
    (names.map fun (n, k) => if (k == NameKind.free && env.scope.kind == .function && env.kindOf n == some .cell) then (n, NameKind.cell) else (n, k)).lookup x = some .free
  | [], _, h => by simp at h
  | (n, k) :: r, x, h => by
    rw [List.lookup_cons] at h
    simp only [List.map_cons]
    cases hx : x == n with
    | true =>
      rw [hx] at h
      cases h
      split
      · exact .inl (by rw [List.lookup_cons, hx])
      · exact .inr (by rw [List.lookup_cons, hx])
    | false =>
      rw [hx] at h
      have ih := relabel_free (env := env) h
      split
      · rw [List.lookup_cons, hx]; exact ih
      · rw [List.lookup_cons, hx]; exact ih
theorem relabel_back {env : Env} : ∀ {names : List (Str × NameKind)} {x : Str}, (∀ y ∈ names, y.2 ≠ .cell) →
    ((names.map fun (n, k) => if (k == NameKind.free && env.scope.kind == .function && env.kindOf n == some .cell) then (n, NameKind.cell) else (n, k)).lookup x = some .cell ∨
    (names.map fun (n, k) => if (k == NameKind.free && env.scope.kind == .function && env.kindOf n == some .cell) then (n, NameKind.cell) else (n, k)).lookup x = some .free) → (x, NameKind.free) ∈ names
  | [], _, _, h => by simp at h
  | (n, k) :: r, x, hc, h => by
    have hr : ∀ y ∈ r, y.2 ≠ .cell := fun y hy => hc y (List.mem_cons_of_mem _ hy)
    simp only [List.map_cons] at h
    cases hx : x == n with
    | true =>
      have en := eq_of_beq hx
      subst en
      by_cases hk : k = .free
      · subst hk; exact List.mem_cons_self
      · have hb : (k == NameKind.free) = false := by simpa using hk
        simp only [hb, Bool.false_and, Bool.false_eq_true, if_false, List.lookup_cons, beq_self_eq_true] at h
        rcases h with h | h
        · exact absurd (Option.some.inj h) (hc _ List.mem_cons_self)
        · exact absurd (Option.some.inj h) hk
    | false =>
      refine List.mem_cons_of_mem _ (relabel_back (env := env) hr ?_)
      split at h
      · simpa only [List.lookup_cons, hx] using h
      · simpa only [List.lookup_cons, hx] using h
def FreeOk (X : Cx) (scope : Scope) : List Nat → List Str → Prop
  | [], [] => True
  | i :: is, y :: ys => X.N[i]? = some y ∧ (X.env.kindOf y = some .cell ∨ X.env.kindOf y = some .free) ∧ scope.names.lookup y = some .free ∧ FreeOk X scope is ys
  | _, _ => False
theorem FreeOk.len {X : Cx} {scope : Scope} : ∀ {is : List Nat} {ys : List Str}, FreeOk X scope is ys → is.length = ys.length
  | [], [], _ => rfl
  | _ :: _, _ :: _, h => congrArg (· + 1) h.2.2.2.len
theorem FreeOk.get {X : Cx} {scope : Scope} : ∀ {is : List Nat} {ys : List Str} {j : Nat} {y : Str}, FreeOk X scope is ys → ys[j]? = some y →
    ∃ i, is[j]? = some i ∧ X.N[i]? = some y ∧ (X.env.kindOf y = some .cell ∨ X.env.kindOf y = some .free) ∧ scope.names.lookup y = some .free
  | [], [], _, _, _, h => by simp at h
  | i :: _, z :: _, 0, y, f, h => by
    simp at h
    subst h
    exact ⟨i, rfl, f.1, f.2.1, f.2.2.1⟩
  | _ :: is, _ :: ys, j + 1, y, f, h => by
    obtain ⟨i, e, r⟩ := FreeOk.get (j := j) f.2.2.2 (by simpa using h)
    exact ⟨i, by simpa using e, r⟩

/-- the context of a comprehension's block -/
def cxComp (X : Cx) (N : List Str) (scope : Scope) (cl : List (Str × Addr)) (C : Addr) (s : Shared) (H : Hp) (fp : List Addr) (E : Value → Shared → Prop) : Cx where
  prog := X.prog
  w := X.w
  K := X.K
  mg := X.mg
  base := X.base
  A := X.A
  N := N
  s₀ := s
  H₀ := H
  env := compEnvC scope cl C X.env
  outer := X.stack
  stack := X.stack
  ex := fp
  fn := fun _ => false
  calm := X.calm
  pn := []
  xe := E

def cSlots0 (σ : St) (ix : List Nat) : St := none :: ix.map fun i => (σ[i]?).join
def cSlots (σ : St) (ix : List Nat) (x : V) : St := some x :: ix.map fun i => (σ[i]?).join

def PTs (X : Cx) (ifs : List Expr) (tt : TT) : Prop :=
  ∀ (pins : List (Addr × Obj)) (s : Shared) (σ : St) (H : Hp) (Q : Bool → Hp → Prop), Inv X pins σ H s → tt σ H Q →
    wpAny (model X.prog X.w) X.A (forIn ifs true fun c r => if r = true then do let ok ← isTrue c X.env (eval c X.env); pure (ForInStep.yield ok) else pure (ForInStep.yield r)) (TP X pins σ Q) X.xe s
def tTrue : TT := fun _ H Q => Q true H
theorem pts_nil {X : Cx} : PTs X [] tTrue := fun _ _ _ H _ I h => wpAny_tests_nil ⟨H, I, h⟩
theorem pts_one {X : Cx} {c : Expr} {t : TT} (h : PT X c t) : PTs X [c] t := fun pins s σ H Q I hw => wpAny_tests_one (h pins s σ H Q I hw)

/-- the comprehension's end: D its list; W the invariant by the turn and a measure -/
def cEnd (J : It) (σ : St) (ix : List Nat) (tt : TT) (te : TE) (H1 : Hp) (Q : VK) : Prop :=
  ∀ D, H1 D = none → ∃ W : Nat → Nat → Hp → Prop, (∃ m, W 0 m (upd H1 D (.lst []))) ∧ ∀ i m H, W i m H →
    (J.stop i H ∧ Q (.ref D) H) ∨ (J.go i H ∧ ∀ x H', J.yld i H x H' → tt (cSlots σ ix x) H' fun c H2 =>
      if c = true then te (cSlots σ ix x) H2 fun y H3 => ∃ ys m', H3 D = some (.lst ys) ∧ ys.length < sizeLine ∧ m' < m ∧ W (i + 1) m' (upd H3 D (.lst (ys ++ [y])))
      else ∃ m', m' < m ∧ W (i + 1) m' H2)
def tComp (wi : TI) (ix : List Nat) (tt : TT) (te : TE) : TE := fun σ H Q => wi σ H fun J H1 => cEnd J σ ix tt te H1 Q

section
variable {X : Cx} {pins : List (Addr × Obj)} {σ : St} {H : Hp} {s : Shared}

theorem slots_get {ix : List Nat} {j : Nat} {v : V} (h : (ix.map fun i => (σ[i]?).join)[j]? = some (some v)) : ∃ i, ix[j]? = some i ∧ σ[i]? = some (some v) := by
  rw [List.getElem?_map] at h
  cases e : ix[j]? with
  | none => rw [e] at h; cases h
  | some i =>
    rw [e] at h
    have h' : (σ[i]?).join = some v := Option.some.inj h
    refine ⟨i, rfl, ?_⟩
    cases q : σ[i]? with
    | none => rw [q] at h'; cases h'
    | some o =>
      rw [q] at h'
      cases o with
      | none => cases h'
      | some z => cases h'; rfl

theorem inv_comp {x : Str} {ys : List Str} {ix : List Nat} {scope : Scope} {cl : List (Str × Addr)} {fp : List Addr} {E : Value → Shared → Prop} {h₁ : Heap} {D C n : Nat} {tk : Nat} {m : Str → Option Value}
    (I : Inv X pins σ H s) (hf : ∀ b ∈ fp, FpOk X pins H b ∧ b < s.heap.objs.size) (sub : SubCells X.env cl) (hkind : scope.kind = .function)
    (hhas : ∀ y, ((relabel scope X.env).names.lookup y = some .cell ∨ (relabel scope X.env).names.lookup y = some .free) → ∃ c, cl.lookup y = some c) (fo : FreeOk X scope ix ys)
    (hD : s.heap.objs.size ≤ D) (hC : s.heap.objs.size ≤ C) (hDC : D ≠ C) (hns : h₁.Ns C m) (k : ∀ b o, s.heap.get? b = some o → h₁.get? b = some o)
    (hd : h₁.get? D = some { cls := .type "list", data := .seq ([] : List Value).toArray n }) :
    Inv (cxComp X (x :: ys) scope cl C s H fp E) [] (cSlots0 σ ix) (upd H D (.lst [])) { s with heap := h₁, toks := tk } := by
  have lt_of_cell : ∀ y c, cl.lookup y = some c → c < s.heap.objs.size := fun y c e => by
    obtain ⟨v, q⟩ := I.cell y c (sub.get e)
    exact q.lt
  refine ⟨⟨I.ok.mod, hkind, I.ok.glob, I.ok.blt, hC, fun y z c h1 h2 => I.ok.inj y z c (sub.get h1) (sub.get h2), hhas, fun y c h _ => absurd h (by simp [cxComp]), I.ok.hd, I.ok.frames, .inl rfl, fun b hb => ⟨?_, fun y c e => ?_⟩, I.bs, Nat.le_trans I.ok.bsz I.sz, fun b o e hb => ?_, fun b hb z => ?_, I.stack, I.stkFree⟩,
    rfl, I.bare, Un.laid k hD (I.hok.fresh hD), ⟨m, hns, fun j y v e1 e2 e3 => ?_⟩, fun y c e => ?_, ?_, fun y c e => ?_, fun p hp => absurd (show p ∈ ([] : List (Addr × Obj)) from hp) (by simp), I.hok.laid k hD ?_, ?_⟩
  · exact Nat.ne_of_lt (Nat.lt_of_lt_of_le (hf b hb).2 hC)
  · exact (hf b hb).1.2.2.2.2.1 y c (sub.get e)
  · obtain ⟨_, _, _, z, _⟩ := (hf b hb).1
    rcases z with z | z
    · exact I.ok.noex b o e z
    · exact absurd (Nat.lt_of_lt_of_le (Heap.lt_size (I.ok.bs b o e).1) z) (Nat.lt_irrefl _)
  · obtain ⟨_, z1, z2, _⟩ := (hf b hb).1
    rcases List.mem_cons.mp (I.stkSub b z) with q | q
    · exact z1 q
    · exact z2 q
  · cases j with
    | zero => simp [cSlots0] at e2
    | succ j =>
      have e1' : ys[j]? = some y := by simpa [cxComp] using e1
      have e2' : (ix.map fun i => (σ[i]?).join)[j]? = some (some v) := by simpa [cSlots0] using e2
      obtain ⟨i, q1, q2⟩ := slots_get e2'
      obtain ⟨i', p1, p2, p3, p4'⟩ := fo.get e1'
      rw [q1] at p1
      cases p1
      have p4 : (relabel scope X.env).names.lookup y = some .cell ∨ (relabel scope X.env).names.lookup y = some .free := relabel_free p4'
      obtain ⟨c, p5⟩ := hhas y p4
      obtain ⟨m0, hn0, hl⟩ := I.loc
      obtain ⟨u, r, l⟩ := hl i y v p2 q2 (.inr p3)
      refine ⟨u, r, .inr ⟨p4, c, p5, ?_⟩⟩
      rcases l with ⟨l1, _⟩ | ⟨_, c', l2, l3⟩
      · rcases p3 with p3 | p3
        · rw [l1] at p3; cases p3
        · rw [l1] at p3; cases p3
      · rw [sub.get p5] at l2
        cases l2
        obtain ⟨o, ho, hd'⟩ := l3
        exact ⟨o, k _ _ ho, hd'⟩
  · obtain ⟨v, o, ho, hd'⟩ := I.cell y c (sub.get e)
    exact ⟨v, o, k _ _ ho, hd'⟩
  · show upd H D (.lst []) C = none
    rw [upd_ne (Ne.symm hDC)]
    exact I.hok.fresh hC
  · show upd H D (.lst []) c = none
    rw [upd_ne (Nat.ne_of_lt (Nat.lt_of_lt_of_le (lt_of_cell y c e) hD))]
    exact I.freeC y c (sub.get e)
  · exact ⟨Nat.zero_le _, [], n, .nil, hd⟩
  · show (cSlots0 σ ix).length = (x :: ys).length
    unfold cSlots0
    rw [List.length_cons, List.length_map, fo.len, List.length_cons]

theorem comp_block {elt iter : Expr} {x : Str} {px : Pos} {ifs : List Expr} {scope : Scope} {cl : List (Str × Addr)} {pos : Pos} {ix : List Nat} {ys : List Str} {tt : TT} {te : TE} {it : Addr} {fp : List Addr} {tn : Nat → Heap → Prop} {J : It} {Q : VK} {E : Value → Shared → Prop}
    {RR : Value → Addr → Result → Shared → Prop}
    (hc : X.calm = true) (ht : ∀ C s H fp E, PTs (cxComp X (x :: ys) scope cl C s H fp E) ifs tt) (he : ∀ C s H fp E, PE (cxComp X (x :: ys) scope cl C s H fp E) elt te)
    (sub : SubCells X.env cl) (hkind : scope.kind = .function) (hnd : (x :: ys).Nodup) (hx : scope.names.lookup x = some .local) (hcell : ∀ y ∈ scope.names, y.2 ≠ .cell)
    (hhas : ∀ y, ((relabel scope X.env).names.lookup y = some .cell ∨ (relabel scope X.env).names.lookup y = some .free) → ∃ c, cl.lookup y = some c) (fo : FreeOk X scope ix ys)
    (I : Inv X pins σ H s) (T : Turn X.prog X.w X.K (.Name x px) J fp it tn) (st : tn 0 s.heap) (hf : ∀ b ∈ fp, FpOk X pins H b) (q : cEnd J σ ix tt te H Q)
    (hRR : ∀ D C s' H' m, s.heap.objs.size ≤ C → Inv X pins σ H' s' → FpOk X pins H' C → s'.heap.Ns C m → Q (.ref D) H' → RR (.ref D) C (.ok .next) s') :
    wpAny (model X.prog X.w) X.A (newList []) (fun acc s₃ => wpAny (model X.prog X.w) X.A (newFunctionEnv scope X.env.globals cl [] X.env.qual none .none (some X.env)) (fun cenv s₄ =>
      codeAny (model X.prog X.w) X.A (.compStart (.ListComp elt [⟨.Name x px, iter, ifs, 0⟩] scope pos) 0 (.ref it) acc { cenv with scope := relabel scope X.env }) (RR acc cenv.locals) s₄) E s₃) E s := by
  refine wpAny_newObj_type (wpAny_newFunctionEnv hcell (by intro y hy; simp at hy) (fun h₁ hns₁ hsb₁ => ?_) hkind)
  dsimp only at hns₁ hsb₁ ⊢
  generalize hH2 : s.heap.push { cls := .type "list", dict := none, data := .seq ([] : List Value).toArray } = H2 at hns₁ hsb₁ ⊢
  have hC : H2.objs.size = s.heap.objs.size + 1 := by rw [← hH2, Heap.size_push]
  have hDC : s.heap.objs.size ≠ H2.objs.size := by rw [hC]; exact Nat.ne_of_lt (Nat.lt_succ_self _)
  have hCle : s.heap.objs.size ≤ H2.objs.size := by rw [hC]; exact Nat.le_succ _
  have below : ∀ b, b < s.heap.objs.size → b ≠ H2.objs.size ∧ b ≠ s.heap.objs.size := fun b hb => ⟨by rw [hC]; exact Nat.ne_of_lt (Nat.lt_succ_of_lt hb), Nat.ne_of_lt hb⟩
  have old : ∀ b o, s.heap.get? b = some o → h₁.get? b = some o := fun b o e => hsb₁.extBut b o (below b (Heap.lt_size e)).1 (Heap.get?_push_of_some _ (hH2 ▸ Heap.get?_push_of_some _ e))
  have hacc : ∃ n, h₁.get? s.heap.objs.size = some { cls := .type "list", data := .seq ([] : List Value).toArray n } := ⟨_, hsb₁.extBut _ _ hDC (Heap.get?_push_of_some _ (hH2 ▸ Heap.get?_push_size _ rfl))⟩
  obtain ⟨nD, hacc⟩ := hacc
  have hf' : ∀ b ∈ fp, FpOk X pins H b ∧ b < s.heap.objs.size := fun b hb => ⟨hf b hb, by obtain ⟨o, e, _⟩ := T.obj 0 _ st b hb; exact Heap.lt_size e⟩
  have hDn : H s.heap.objs.size = none := I.hok.fresh (Nat.le_refl _)
  obtain ⟨W, ⟨m0, w0⟩, turn⟩ := q _ hDn
  generalize hE : notedBy (model X.prog X.w) X.A (compEnvC scope cl H2.objs.size X.env) (fun e s' => RR (.ref s.heap.objs.size) H2.objs.size (.error e) s') = EE
  have hlx : (relabel scope X.env).names.lookup x = some .local := lookup_relabel_local hx
  have I0 : Inv (cxComp X (x :: ys) scope cl H2.objs.size s H fp EE) [] (cSlots0 σ ix) (upd H s.heap.objs.size (.lst [])) { s with heap := h₁, toks := s.toks + ([] : List (Str × Value)).length } :=
    inv_comp I hf' sub hkind hhas fo (Nat.le_refl _) hCle hDC hns₁ old hacc
  have st1 : tn 0 h₁ := T.keep _ _ _ st fun b _ o e => old b o e
  have fr1 : ∀ b ∈ fp, upd H s.heap.objs.size (.lst []) b = none := fun b hb => by rw [upd_ne (below b (hf' b hb).2).2]; exact (hf b hb).1
  have stat : ∀ {H' : Hp}, (∀ b ∈ fp, H' b = none) → ∀ b ∈ fp, FpOk (cxComp X (x :: ys) scope cl H2.objs.size s H fp EE) [] H' b := fun hn b hb =>
    ⟨hn b hb, (I0.ok.exf b hb).1, I0.ok.exfs b hb, .inl hb, (I0.ok.exf b hb).2, fun p hp => absurd (show p ∈ ([] : List (Addr × Obj)) from hp) (by simp)⟩
  have loop : ∀ s₃ : Shared, s₃ = { s with heap := h₁, toks := s.toks + ([] : List (Str × Value)).length } →
      codeAny (model X.prog X.w) X.A (.compLoop (.ListComp elt [⟨.Name x px, iter, ifs, 0⟩] scope pos) 0 (.ref it) (.ref s.heap.objs.size) (compEnvC scope cl H2.objs.size X.env)) (RR (.ref s.heap.objs.size) H2.objs.size) s₃ := by
    rintro s₃ rfl
    refine compLoop_go (fun n s' => ∃ i σ' H', Inv (cxComp X (x :: ys) scope cl H2.objs.size s H fp EE) [] σ' H' s' ∧ (∃ o, σ' = o :: ix.map fun i => (σ[i]?).join) ∧ tn i s'.heap ∧ (∀ b ∈ fp, H' b = none) ∧ W i n H') ?_ m0 ⟨0, _, _, I0, ⟨none, rfl⟩, st1, fr1, w0⟩
    rintro n s3 ⟨i, σ3, H3, I3, ⟨o3, hσ3⟩, st3, fr3, w3⟩
    rw [hE]
    rcases turn i n H3 w3 with ⟨stop, qn⟩ | ⟨go, step⟩
    · refine thn (T.done (cxComp X (x :: ys) scope cl H2.objs.size s H fp EE) rfl rfl rfl hc i [] s3 σ3 H3 EE I3 (stat fr3) st3 stop) fun r s4 ⟨hr, I4⟩ => ?_
      subst hr
      obtain ⟨m4, hn4, _⟩ := I4.loc
      have Ix : Inv X pins σ H3 s4 := I.call' (s' := s4) (ch := fp) I4.os I4.base I4.hok I4.bare fun b hb => by
        obtain ⟨_, z1, _, z3, z4, z5⟩ := hf b hb
        exact ⟨z3, z1, z4, z5⟩
      exact hRR _ _ s4 H3 m4 hCle Ix (I.fpOk hCle I4.free) hn4 qn
    · refine thn (T.item (cxComp X (x :: ys) scope cl H2.objs.size s H fp EE) rfl rfl rfl hc i [] s3 σ3 H3 EE I3 (stat fr3) st3 go) fun r s4 ⟨u, hr, h4⟩ => ?_
      subst hr
      refine thn h4 fun _ s5 ⟨xv, H5, I5, r5, y5, st5, fr5⟩ => ?_
      have I5' := I5.pinned (stat fr5) (T.obj _ _ st5)
      have again : ∀ {σ7 : St} {H7 : Hp} {s7 : Shared} {m' : Nat}, Inv (cxComp X (x :: ys) scope cl H2.objs.size s H fp EE) ([] ++ pinsAt fp s5.heap) σ7 H7 s7 → (∃ o, σ7 = o :: ix.map fun i => (σ[i]?).join) → m' < n → W (i + 1) m' H7 →
          ∃ m, m < n ∧ ∃ i σ' H', Inv (cxComp X (x :: ys) scope cl H2.objs.size s H fp EE) [] σ' H' s7 ∧ (∃ o, σ' = o :: ix.map fun i => (σ[i]?).join) ∧ tn i s7.heap ∧ (∀ b ∈ fp, H' b = none) ∧ W i m H' := fun {σ7 H7 s7 m'} I7 e7 hm w7 => by
        refine ⟨m', hm, i + 1, σ7, H7, I7.unpinned, e7, T.keep _ _ _ st5 fun b hb o e => (I7.pin (b, o) (List.mem_append_right _ (List.mem_append_right _ (mem_pinsAt hb e)))).1, fun b hb => ?_, w7⟩
        obtain ⟨o, e, d⟩ := T.obj _ _ st5 b hb
        exact (I7.pin (b, o) (List.mem_append_right _ (List.mem_append_right _ (mem_pinsAt hb e)))).2.1
      have hg : PG (cxComp X (x :: ys) scope cl H2.objs.size s H fp EE) (.Name x px) (gName 0) := pg_name hnd rfl (.inl hlx) (.inr hlx)
      refine thn (hg _ s5 σ3 H5 xv u (fun σ6 H6 => σ6 = cSlots σ ix xv ∧ H6 = H5) I5' r5 ⟨by rw [hσ3]; rfl, rfl⟩) fun _ s6 ⟨σ6, H6, I6, e6, e6'⟩ => ?_
      subst e6 e6'
      refine thn (ht _ _ _ _ _ _ s6 _ _ _ I6 (step xv _ y5)) fun ok s7 ⟨H7, I7, q7⟩ => ?_
      cases ok with
      | false =>
        rw [if_neg Bool.false_ne_true] at q7 ⊢
        obtain ⟨m', hm, w7⟩ := q7
        exact again I7 ⟨_, rfl⟩ hm w7
      | true =>
        rw [if_pos rfl] at q7 ⊢
        refine thn (he _ _ _ _ _ _ s7 _ _ _ I7 q7) fun y s8 ⟨yv, H8, I8, r8, ys8, m', e8, z8, hm, w8⟩ => ?_
        refine thn (mt_append _ s8 _ H8 (.ref s.heap.objs.size) [yv] (.ref s.heap.objs.size) [y] (fun _ H9 => W (i + 1) m' H9) I8 rfl (.cons r8 .nil) ⟨_, ys8, yv, rfl, rfl, e8, z8, w8⟩) fun _ s9 ⟨_, H9, I9, _, w9⟩ => ?_
        exact again I9 ⟨_, rfl⟩ hm w9
  exact codeAny_compStart_list (loop _ rfl) (T.self _ 0 _ _ _ st1 (loop _ rfl))

def kindsOk (env : Env) (l : List (Str × NameKind)) : Bool := l.all fun p => !(p.2 == .free) || env.kindOf p.1 == some .cell || env.kindOf p.1 == some .free
theorem kinds_free {X : Cx} {l : List (Str × NameKind)} (ok : X.Ok) (h : kindsOk X.env l = true) : FreeIn X.env l := fun p hp hk => by
  have q := List.all_eq_true.mp h p hp
  rw [hk] at q
  have q' : (X.env.kindOf p.1 == some .cell || X.env.kindOf p.1 == some .free) = true := by simpa using q
  rcases Bool.or_eq_true_iff.mp q' with q | q
  · exact ok.has p.1 (.inl (eq_of_beq q))
  · exact ok.has p.1 (.inr (eq_of_beq q))
/-- what a block's scope must be: its own names local, no cells of its own -/
def blockOk (scope : Scope) (x : Str) : Bool := scope.kind == .function && scope.names.lookup x == some .local && scope.names.all (fun p => !(p.2 == .cell)) && scope.names.all (fun p => !(p.2 == .local) || scope.names.lookup p.1 == some .local)
structure BlockOk (scope : Scope) (x : Str) : Prop where
  kind : scope.kind = .function
  own : scope.names.lookup x = some .local
  cell : ∀ y ∈ scope.names, y.2 ≠ .cell
  names : ∀ y ∈ scope.names, y.2 = .local → scope.names.lookup y.1 = some .local
theorem block_of {scope : Scope} {x : Str} (h : blockOk scope x = true) : BlockOk scope x := by
  unfold blockOk at h
  rw [Bool.and_eq_true, Bool.and_eq_true, Bool.and_eq_true] at h
  obtain ⟨⟨⟨h1, h2⟩, h3⟩, h4⟩ := h
  refine ⟨eq_of_beq h1, eq_of_beq h2, fun y hy z => ?_, fun y hy z => ?_⟩
  · have := List.all_eq_true.mp h3 y hy
    rw [z] at this
    cases this
  · have := List.all_eq_true.mp h4 y hy
    rw [z] at this
    have q : (scope.names.lookup y.1 == some NameKind.local) = true := by simpa using this
    exact eq_of_beq q
theorem has_of {scope : Scope} {env : Env} (hcell : ∀ y ∈ scope.names, y.2 ≠ .cell) (y : Str) (h : (relabel scope env).names.lookup y = some .cell ∨ (relabel scope env).names.lookup y = some .free) : ∃ c, (closL env scope.names []).lookup y = some c :=
  Option.isSome_iff_exists.mp (clos_has (relabel_back hcell h))

theorem pe_comp {elt iter : Expr} {x : Str} {px : Pos} {ifs : List Expr} {scope : Scope} {pos : Pos} {wi : TI} {tt : TT} {te : TE} (ix : List Nat) (ys : List Str)
    (hc : X.calm = true) (hi : PI X (.Name x px) iter wi) (ht : ∀ C s H fp E, PTs (cxComp X (x :: ys) scope (closL X.env scope.names []) C s H fp E) ifs tt) (he : ∀ C s H fp E, PE (cxComp X (x :: ys) scope (closL X.env scope.names []) C s H fp E) elt te)
    (fo : FreeOk X scope ix ys) (hk : kindsOk X.env scope.names = true := by rfl) (hb : blockOk scope x = true := by rfl) (hnd : (x :: ys).Nodup := by decide +kernel)
    (hs : ∀ x, foldedSetIterable iter X.env x = pure x := by intro _; rfl) :
    PE X (.ListComp elt [⟨.Name x px, iter, ifs, 0⟩] scope pos) (tComp wi ix tt te) := by
  intro pins s σ H Q I h
  have B := block_of hb
  have F := kinds_free I.ok hk
  rw [eval_ListComp]
  refine wpAny_comprehension_free (use := none) rfl hs (closure_eq F) B.kind B.names (thn (hi pins s σ H _ I h) fun v s1 h1 => thn h1 fun itv s2 h2 => ?_)
  obtain ⟨it, fp, tn, J, H2, e, I2, T, st2, f2, q2⟩ := h2
  subst e
  refine comp_block (RR := fun acc C => compPost (model X.prog X.w) X.A X.xe none (EP X pins σ Q) acc C) hc ht he (sub_clos F) B.kind hnd B.own B.cell (has_of B.cell) fo I2 T st2 f2 q2 ?_
  intro D C s' H' m hC Ix fC hn q
  refine ⟨m, hn, fun h' sb => ⟨.ref D, H', ?_, rfl, q⟩⟩
  obtain ⟨f0, f1, _, f3, f4, f5⟩ := fC
  exact Ix.turned (t' := s'.toks) (fun b o hb e => (sb.2 b hb).trans e) f0 f1 f3 f4 f5

end
end L2
set_option Elab.async false
set_option linter.all false
set_option maxRecDepth 100000
set_option maxHeartbeats 4000000
namespace L2
open PySem PySem.Spec PyProof.Rows

section
variable {X : Cx}
/-! ### isinstance(x, T), T a built-in type's name -/
def rIsi (K : PySem.W.Frag) : List V → Hp → VK → Prop := fun xs H Q => ∃ x n t b, xs = [x, .ty n] ∧ TyOf K H x t ∧ PySem.W.kitOne K t (.type n) = some b ∧ Q (.bl b) H
theorem tw_isinst : CallR X (.builtin "isinstance") (rIsi X.K) := by
  intro pins s σ H xs us Q I r h
  obtain ⟨x, n, t, b, rfl, ty, e, q⟩ := h
  obtain ⟨u, w', rfl, rx, rn⟩ := vals2 r
  cases (show w' = Value.type n from rn)
  exact isinst_ok I rx ty e fun tk => ⟨.bl b, H, I.tok tk, rfl, q⟩
theorem kit_bb {K : PySem.W.Frag} : PySem.W.kitOne K (.type "bool") (.type "bool") = some true := by kernel_rfl
theorem kit_ib {K : PySem.W.Frag} : PySem.W.kitOne K (.type "int") (.type "bool") = some false := by kernel_rfl
theorem kit_sb {K : PySem.W.Frag} : PySem.W.kitOne K (.type "str") (.type "bool") = some false := by kernel_rfl
theorem kit_tb {K : PySem.W.Frag} : PySem.W.kitOne K (.type "tuple") (.type "bool") = some false := by kernel_rfl
theorem kit_ii {K : PySem.W.Frag} : PySem.W.kitOne K (.type "int") (.type "int") = some true := by kernel_rfl
theorem kit_si {K : PySem.W.Frag} : PySem.W.kitOne K (.type "str") (.type "int") = some false := by kernel_rfl
theorem kit_ti {K : PySem.W.Frag} : PySem.W.kitOne K (.type "tuple") (.type "int") = some false := by kernel_rfl
theorem kit_is' {K : PySem.W.Frag} : PySem.W.kitOne K (.type "int") (.type "str") = some false := by kernel_rfl
theorem kit_ss {K : PySem.W.Frag} : PySem.W.kitOne K (.type "str") (.type "str") = some true := by kernel_rfl
theorem kit_ts {K : PySem.W.Frag} : PySem.W.kitOne K (.type "tuple") (.type "str") = some false := by kernel_rfl
theorem kit_it {K : PySem.W.Frag} : PySem.W.kitOne K (.type "int") (.type "tuple") = some false := by kernel_rfl
theorem kit_st {K : PySem.W.Frag} : PySem.W.kitOne K (.type "str") (.type "tuple") = some false := by kernel_rfl
theorem kit_tt {K : PySem.W.Frag} : PySem.W.kitOne K (.type "tuple") (.type "tuple") = some true := by kernel_rfl
theorem tb_isinstance : bootBuiltins "isinstance" = some (.builtin "isinstance") := by decide +kernel
theorem tb_all : bootBuiltins "all" = some (.builtin "all") := by decide +kernel
theorem tb_max : bootBuiltins "max" = some (.builtin "max") := by decide +kernel
theorem tb_min : bootBuiltins "min" = some (.builtin "min") := by decide +kernel
theorem tb_abs : bootBuiltins "abs" = some (.builtin "abs") := by decide +kernel
theorem tb_len : bootBuiltins "len" = some (.builtin "len") := by decide +kernel
theorem tb_bool : bootBuiltins "bool" = some (.type "bool") := by decide +kernel
theorem tb_int : bootBuiltins "int" = some (.type "int") := by decide +kernel
theorem tb_str : bootBuiltins "str" = some (.type "str") := by decide +kernel
theorem tb_tuple : bootBuiltins "tuple" = some (.type "tuple") := by decide +kernel
theorem tb_list : bootBuiltins "list" = some (.type "list") := by decide +kernel

/-! ### operators -/
theorem tw_le_str : OpR X (compareOp .LtE) (fun x y H Q => ∃ i j, x = .str i ∧ y = .str j ∧ Q (.bl (!decide (j.cps.toList < i.cps.toList))) H) := by
  intro pins s σ H x y v u Q I rx ry h
  obtain ⟨i, j, rfl, rfl, q⟩ := h
  obtain ⟨t, rfl⟩ := rx
  obtain ⟨t', rfl⟩ := ry
  exact PySem.P.le_str (fin_bl I q (by simp))
theorem tw_isnot_bl : OpR X (compareOp .IsNot) (fun x y H Q => ∃ i j, x = .bl i ∧ y = .bl j ∧ Q (.bl (i != j)) H) := by
  intro pins s σ H x y v u Q I rx ry h
  obtain ⟨i, j, rfl, rfl, q⟩ := h
  cases rx
  cases ry
  exact isnot_bool (fin_bl I q rfl)
theorem tw_eq_nil (hu : X.A.units < cLine) : OpR X (compareOp .Eq) (fun x y H Q => ∃ p b xs, x = .ref p ∧ y = .ref b ∧ SqL X.K H p xs ∧ SqL X.K H b [] ∧ Q (.bl xs.isEmpty) H) := by
  intro pins s σ H x y v u Q I rx ry h
  obtain ⟨p, b, xs, rfl, rfl, h1, h2, q⟩ := h
  cases rx
  cases ry
  obtain ⟨its, r1, p1, z1⟩ := I.list h1
  obtain ⟨its2, r2, p2, z2⟩ := I.list h2
  have l1 := r1.length
  have l2 := r2.length
  have e2 : its2 = [] := List.eq_nil_of_length_eq_zero (by rw [← l2]; rfl)
  subst e2
  cases xs with
  | nil =>
    have e1 : its = [] := List.eq_nil_of_length_eq_zero (by rw [← l1]; rfl)
    subst e1
    exact PySem.SeqAt.eq_listAt (e := fun _ => true) p1.isList p2.isList rfl hu (fun j h1 _ => absurd h1 (by simp)) (fin_bl I q (by simp))
  | cons x r => exact PySem.SeqAt.eq_list_lengthsAt p1.isList p2.isList (by simp; intro e; subst e; simp at l1) hu (fin_bl I q rfl)
def CDivL (i j : Int) : Prop := 0 < j ∧ j.natAbs.log2 < 9000
theorem tw_fdiv : OpR X (binaryOp .FloorDiv) (rI CDivL fun i j => .int (i / j)) := opI fun i j _ _ _ _ _ hc q => by
  have h1 : (0 : Int) < j := hc.1
  exact floordiv_int (by omega) (by rw [Int.fdiv_eq_ediv_of_nonneg i (by omega)]; exact q) (.inl (PyProof.noPylong_of_log2 hc.2))

/-! ### xs.insert(i, y), 0 ≤ i -/
def rInsert : V → List V → Hp → VK → Prop := fun x vs H Q => ∃ (l : Addr) (xs : List V) (i : Nat) (y : V), x = .ref l ∧ vs = [.int (i : Int), y] ∧ H l = some (.lst xs) ∧ i ≤ xs.length ∧ xs.length < sizeLine ∧ Q .non (upd H l (.lst (xs.take i ++ y :: xs.drop i)))
theorem insert_meets {l : Addr} {its : List Value} {n : Nat} {x : Int} {t : Tok} {u : Value} {A : Around} {prog : Program} {w : World} {E : Value → Shared → Prop} {s : Shared} {Q : Value → Shared → Prop} (e : s.heap.get? l = some { cls := .type "list", data := .seq its.toArray n })
    (hx : Builtin.List.listFitsIndex x = true) (hz : its.length ≤ sizeLine) (x0 : 0 ≤ x) (x1 : x.toNat ≤ its.length)
    (h : ∀ g : Array Value → Array Value, g its.toArray = (its.take x.toNat ++ u :: its.drop x.toNat).toArray → Q .none { s with heap := s.heap.update l (Obj.mapSeq g) }) : wpAny (model prog w) A (call (.builtin "list.insert") [.ref l, .int x t, u]) Q E s := by
  refine call_meets F.slot_list_insert ⟨_, e, rfl⟩ F.entry_list_insert (F.args_list_insert_3 _ _ _) (PySem.AutoSeq1.list_insert_list_int_val_1 l its.toArray n x t u (by rw [hx]; exact Bool.false_ne_true) (by rw [List.size_toArray]; exact hz)) ⟨e, h _ ?_⟩
  have n1 : ¬ (x < 0) := by omega
  have n2 : min x.toNat its.length = x.toNat := by omega
  simp only [List.size_toArray, n1, if_false, n2]
  apply Array.toList_inj.mp
  simp
  exact List.take_of_length_le (by rw [List.length_drop]; exact Nat.le_refl _)
theorem mt_insert : MtM X "list.insert" rInsert := by
  intro pins s σ H x vs v us Q I rx rv h
  obtain ⟨l, xs, i, y, rfl, rfl, hH, hi, hz, q⟩ := h
  cases rx
  obtain ⟨u1, u2, rfl, ⟨t, rfl⟩, r2⟩ := rv.two
  obtain ⟨z, its, n, r, hl, e⟩ := I.lstM hH
  have h63 := line63
  have ei : (i : Int).toNat = i := Int.toNat_natCast i
  have fits : Builtin.List.listFitsIndex (i : Int) = true := by
    unfold Builtin.List.listFitsIndex
    have a1 : (-(2 ^ 63 : Int) ≤ (i : Int)) := by omega
    have a2 : ((i : Int) < 2 ^ 63) := by omega
    exact Bool.and_eq_true_iff.mpr ⟨decide_eq_true a1, decide_eq_true a2⟩
  refine insert_meets e fits (by rw [← hl]; exact z) (by omega) (by rw [ei, ← hl]; exact hi) fun g hg => ?_
  rw [ei] at hg
  refine ⟨.non, _, I.lset (its' := its.take i ++ u2 :: its.drop i) hH e hg ((r.take i).append (.cons r2 (r.drop i))) ?_, rfl, q⟩
  rw [List.length_append, List.length_cons, List.length_take, List.length_drop]
  omega

/-! ### all of a list of bools -/
theorem tw_all (hc : X.calm = true) : CallR X (.builtin "all") (fun xs H Q => ∃ (p : Addr) (bs : List Bool), xs = [.ref p] ∧ SqL X.K H p (bs.map V.bl) ∧ Q (.bl (bs.all id)) H) := by
  intro pins s σ H xs us Q I r h
  obtain ⟨p, bs, rfl, hq, q⟩ := h
  obtain ⟨u, rfl, rx⟩ := vals1 r
  cases rx
  obtain ⟨its, rv, pl, hz⟩ := I.list hq
  have hl := rv.length
  have hlt : p < s.heap.objs.size := by obtain ⟨_, e, _⟩ := pl.isList; exact Heap.lt_size e
  have hne : p ≠ s.heap.objs.size := Nat.ne_of_lt hlt
  have hh := I.ok.hd hc
  have tr : ∀ (i : Nat) (v : Value), its.toArray[i]? = some v → v = .bool (bs.getD i true) := fun i v hv => by
    have hv' : its[i]? = some v := by simpa using hv
    have hi : i < its.length := (List.getElem?_eq_some_iff.mp hv').1
    have hb : i < bs.length := by rw [List.length_map] at hl; omega
    obtain ⟨u, e1, e2⟩ := rv.get (i := i) (x := .bl bs[i]) (by rw [List.getElem?_map, List.getElem?_eq_getElem hb]; rfl)
    rw [hv'] at e1
    cases e1
    rw [show v = Value.bool bs[i] from e2, List.getD_eq_getElem?_getD, List.getElem?_eq_getElem hb]
    rfl
  refine call_all_walk (wpAny_pyIter_list pl.isList ?_)
  refine ⟨_, _, _, _, _, _, (fun i => bs.getD i true), rfl, Walks.list (A := X.A.in1) hh s.heap.objs.size p hne its.toArray, ⟨⟨_, Heap.get?_push_size _ rfl, rfl, rfl⟩, pl.isList.push _⟩, fun i v s' Q' E' hP hQ => ?_, fun h' tk hk => ?_⟩
  · rw [tr i v hP]
    exact wpAny_truthy_bool hQ
  · have e : (List.range its.toArray.size).all (fun i => bs.getD i true) = bs.all id := by
      rw [List.size_toArray, ← hl, List.length_map]
      have e2 : bs.all id = ((List.range bs.length).map fun i => bs.getD i true).all id := by rw [range_getD]
      rw [e2, List.all_map]
      rfl
    rw [e]
    refine ⟨.bl (bs.all id), H, I.kept (t' := tk) fun b o eb => hk b o ?_ (Heap.get?_push_of_some _ eb), rfl, q⟩
    intro hm
    exact absurd (Heap.lt_size eb) (by rw [List.mem_singleton.mp hm]; exact Nat.lt_irrefl _)
end

/-! ### max of a list of ints, with a default -/
def maxF (b : Int) (l : List Int) : Int := l.foldl (fun a c => if c > a then c else a) b
def maxD (d : Int) : List Int → Int
  | [] => d
  | x :: r => maxF x r
section
variable {prog : Program} {w : World} {A : Around} {R : Result → Shared → Prop}
theorem maxd_loop (hh : A.handled = none) {I l S : Addr} {its : List Value} {ns : List Int} {kw : List (Str × Value)} (hSI : S ≠ I) (hSl : S ≠ l) (hlI : l ≠ I) (hi : IntsAre its ns) :
    ∀ (k j : Nat) (s : Shared) (b : Int) (tb : Tok) (c : Nat), its.length - j = k → j ≤ its.length → s.heap.IsListIter I l j → s.heap.IsList l its.toArray → s.heap.get? S = some { cls := .type "list", dict := none, data := .seq #[.int b tb, .int b tb] c, slots := #[] } →
      (∀ t h' tk, (∀ a o, a ≠ I → a ≠ S → s.heap.get? a = some o → h'.get? a = some o) → R (.ok (.ret (.int (maxF b (ns.drop j)) t))) { s with heap := h', toks := tk }) →
      codeAny (model prog w) A (.builtin "max.loop" ⟨[.ref I, .none, .ref S], kw⟩) R s := by
  have nm : (toString "max" ++ toString ".loop" : String) = "max.loop" := by decide
  have W := Walks.list (prog := prog) (w := w) (A := A.in1) hh I l hlI its.toArray
  have hlen := IntsAre.length hi
  intro k
  induction k with
  | zero =>
    intro j s b tb c hk hj st hl hS hR
    have hn : j = its.toArray.size := by rw [List.size_toArray]; omega
    refine codeAny_builtin PySem.F.entry_max_loop ?_; rw [Around.under_plainId PySem.F.plain_max_loop _]
    show wpAny _ A.in1 (seqItems? (.ref S) >>= _) _ _ s; refine wpAny_bind (wpAny_seqItems hS rfl ?_)
    show wpAny _ A.in1 (tryCatch (pyNext (.ref I)) _ >>= _) _ _ s; refine wpAny_bind (wpAny_tryCatch (W.done s _ _ (by rw [← hn]; exact ⟨st, hl⟩) fun h' tk hk' => ?_))
    have hS' := hk' S _ (by simpa using hSI) hS
    show wpAny _ A.in1 (updateSeq S (fun _ => #[]) >>= _) _ _ _; refine wpAny_bind (wpAny_updateSeq hS' rfl (wpAny_bind (wpAny_letGo (wpAny_pure ?_))))
    have q := hR tb (h'.update S (Obj.mapSeq fun _ => #[])) tk fun a o ha hb e => (Heap.get?_update_other _ _ (Ne.symm hb)).trans (hk' a o (by simpa using ha) e)
    rw [List.drop_eq_nil_of_le (by rw [← hlen]; rw [List.size_toArray] at hn; omega)] at q
    exact q
  | succ k ih =>
    intro j s b tb c hk hj st hl hS hR
    have hn : j < its.toArray.size := by rw [List.size_toArray]; omega
    refine codeAny_builtin PySem.F.entry_max_loop ?_; rw [Around.under_plainId PySem.F.plain_max_loop _]
    show wpAny _ A.in1 (seqItems? (.ref S) >>= _) _ _ s; refine wpAny_bind (wpAny_seqItems hS rfl ?_)
    show wpAny _ A.in1 (tryCatch (pyNext (.ref I)) _ >>= _) _ _ s; refine wpAny_bind (wpAny_tryCatch (W.item j s _ _ hn ⟨st, hl⟩ fun v h' tk hP st' hk' => ?_))
    have hS' := hk' S _ (by simpa using hSI) hS
    have hjl : j < ns.length := by rw [← hlen]; rw [List.size_toArray] at hn; exact hn
    obtain ⟨tv, hv⟩ : ∃ t, v = .int ns[j] t := by
      have r : Vals (ns.map V.int) its := vals_ints hi
      obtain ⟨u, e1, t, e2⟩ := r.get (i := j) (x := .int ns[j]) (by rw [List.getElem?_map, List.getElem?_eq_getElem hjl]; rfl)
      have hP' : its[j]? = some v := by simpa using hP
      rw [hP'] at e1
      cases e1
      exact ⟨t, e2⟩
    subst hv
    have hd : ns.drop j = ns[j] :: ns.drop (j + 1) := List.drop_eq_getElem_cons hjl
    show wpAny _ A.in1 (tryCatch (holding [_, _] (richCompare .Gt (.int ns[j] tv) (.int b tb) >>= _)) _ >>= _) _ _ _
    refine wpAny_bind (wpAny_tryCatch (wpAny_holding (wpAny_bind (CmpOf.ints_gt (P := fun i v => (i = 0 ∧ v = .int ns[j] tv) ∨ (i = 1 ∧ v = .int b tb)) (fun i => if i = 0 then ns[j] else b) (fun i v hv => ?_) 0 1 _ _ _ _ _ (.inl ⟨rfl, rfl⟩) (.inr ⟨rfl, rfl⟩) ?_))))
    · rcases hv with ⟨rfl, rfl⟩ | ⟨rfl, rfl⟩
      · exact ⟨tv, rfl⟩
      · exact ⟨tb, rfl⟩
    refine wpAny_bind (wpAny_holding (wpAny_truthy_bool (wpAny_bind (wpAny_letGo (wpAny_pure ?_)))))
    by_cases hb : ns[j] > b
    · simp only [if_pos, hb, decide_true, Nat.one_ne_zero, if_false, ↓reduceIte]
      refine wpAny_bind (wpAny_updateSeq hS' rfl (wpAny_bind (wpAny_letGo ?_)))
      rw [nm]
      refine wpAny_pure ⟨plainId_quiet PySem.F.plain_max_loop _, ih (j + 1) _ ns[j] tv _ (by omega) (by omega) ?_ ?_ (Heap.get?_update_self _ hS' rfl) fun t h2 tk2 hk2 => ?_⟩
      · obtain ⟨o, e, r⟩ := st'.1
        exact ⟨o, (Heap.get?_update_other _ _ hSI).trans e, r⟩
      · obtain ⟨o, e, r⟩ := st'.2
        exact ⟨o, (Heap.get?_update_other _ _ hSl).trans e, r⟩
      · have q := hR t h2 tk2 fun a o ha hs e => hk2 a o ha hs ((Heap.get?_update_other _ _ (Ne.symm hs)).trans (hk' a o (by simpa using ha) e))
        rw [hd] at q
        have e2 : maxF b (ns[j] :: ns.drop (j + 1)) = maxF ns[j] (ns.drop (j + 1)) := by unfold maxF; rw [List.foldl_cons, if_pos hb]
        rw [e2] at q
        exact q
    · simp only [hb, decide_false, Nat.one_ne_zero, if_false, Bool.false_eq_true, ↓reduceIte]
      refine wpAny_bind (wpAny_letGo ?_)
      rw [nm]
      refine wpAny_pure ⟨plainId_quiet PySem.F.plain_max_loop _, ih (j + 1) _ b tb c (by omega) (by omega) st'.1 st'.2 hS' fun t h2 tk2 hk2 => ?_⟩
      have q := hR t h2 tk2 fun a o ha hs e => hk2 a o ha hs (hk' a o (by simpa using ha) e)
      rw [hd] at q
      have e2 : maxF b (ns[j] :: ns.drop (j + 1)) = maxF b (ns.drop (j + 1)) := by unfold maxF; rw [List.foldl_cons, if_neg hb]
      rw [e2] at q
      exact q
end
theorem args_maxd (a v : Value) : argsOk "max" ⟨[a], [(Str.ofString "default", v)]⟩ := by unfold argsOk; kernel_rfl
section
variable {X : Cx}
theorem max_default (hc : X.calm = true) {pins : List (Addr × Obj)} {σ : St} {H : Hp} {s : Shared} {Q : VK} {l : Addr} {ns : List Int} {d : Int} {td : Tok} (I : Inv X pins σ H s) (hq : SqL X.K H l (ns.map V.int)) (q : Q (.int (maxD d ns)) H) :
    wpAny (model X.prog X.w) X.A (call (.builtin "max") [.ref l] [(Str.ofString "default", .int d td)]) (EP X pins σ Q) X.xe s := by
  have nm : (toString "max" ++ toString ".loop" : String) = "max.loop" := by decide
  obtain ⟨its, rv, pl, hz⟩ := I.list hq
  have hi : IntsAre its ns := intsAre_of rv
  have hlen := IntsAre.length hi
  have hh := I.ok.hd hc
  have hlt : l < s.heap.objs.size := by obtain ⟨_, e, _⟩ := pl.isList; exact Heap.lt_size e
  refine PyProof.Rows.kmk_tree PySem.F.kind_max PySem.F.plain_max PySem.F.entry_max (args_maxd _ _) ?_
  show wpAny _ X.A.in1 (Builtin.Builtins.bindParams "max" ["key", "default"] 0 ⟨[], [(Str.ofString "default", .int d td)]⟩ >>= _) _ _ s
  refine wpAny_bind (wpAny_of_eq (show Builtin.Builtins.bindParams "max" ["key", "default"] 0 ⟨[], [(Str.ofString "default", .int d td)]⟩ = pure [none, some (.int d td)] from rfl) ?_)
  refine wpAny_bind (wpAny_pure (wpAny_bind (wpAny_pyIter_list pl.isList (wpAny_bind (wpAny_newList ?_ (Nat.zero_le _))))))
  rw [nm]
  have szI : (s.heap.push { cls := .type "list_iterator", data := .fields #[.ref l, .int 0 0] }).objs.size = s.heap.objs.size + 1 := Heap.size_push ..
  have hlI : l ≠ s.heap.objs.size := Nat.ne_of_lt hlt
  have hSI : (s.heap.push { cls := .type "list_iterator", data := .fields #[.ref l, .int 0 0] }).objs.size ≠ s.heap.objs.size := by rw [szI]; exact Nat.ne_of_gt (Nat.lt_succ_self _)
  have hSl : (s.heap.push { cls := .type "list_iterator", data := .fields #[.ref l, .int 0 0] }).objs.size ≠ l := by rw [szI]; exact Nat.ne_of_gt (Nat.lt_succ_of_lt hlt)
  generalize hS : (s.heap.push { cls := .type "list_iterator", data := .fields #[.ref l, .int 0 0] }).objs.size = S at *
  have old : ∀ a o, s.heap.get? a = some o → ((s.heap.push { cls := .type "list_iterator", data := .fields #[.ref l, .int 0 0] }).push { cls := .type "list", data := .seq ([] : List Value).toArray }).get? a = some o := fun a o e => Heap.get?_push_of_some _ (Heap.get?_push_of_some _ e)
  have gI : ((s.heap.push { cls := .type "list_iterator", data := .fields #[.ref l, .int 0 0] }).push { cls := .type "list", data := .seq ([] : List Value).toArray }).IsListIter s.heap.objs.size l 0 := ⟨_, Heap.get?_push_of_some _ (Heap.get?_push_size _ rfl), rfl, rfl⟩
  have gL : ((s.heap.push { cls := .type "list_iterator", data := .fields #[.ref l, .int 0 0] }).push { cls := .type "list", data := .seq ([] : List Value).toArray }).IsList l its.toArray := (pl.isList.push _).push _
  have gS : ((s.heap.push { cls := .type "list_iterator", data := .fields #[.ref l, .int 0 0] }).push { cls := .type "list", data := .seq ([] : List Value).toArray }).get? S = some { cls := .type "list", dict := none, data := .seq #[] 0, slots := #[] } := by
    rw [← hS]
    exact Heap.get?_push_size _ rfl
  generalize ((s.heap.push { cls := .type "list_iterator", data := .fields #[.ref l, .int 0 0] }).push { cls := .type "list", data := .seq ([] : List Value).toArray }) = h2 at *
  refine wpAny_pure ⟨plainId_quiet PySem.F.plain_max_loop _, ?_⟩
  have W := Walks.list (prog := X.prog) (w := X.w) (A := X.A.in1) hh s.heap.objs.size l hlI its.toArray
  refine codeAny_builtin PySem.F.entry_max_loop ?_; rw [Around.under_plainId PySem.F.plain_max_loop _]
  show wpAny _ X.A.in1 (seqItems? (.ref S) >>= _) _ _ _; refine wpAny_bind (wpAny_seqItems gS rfl ?_)
  show wpAny _ X.A.in1 (tryCatch (pyNext (.ref s.heap.objs.size)) _ >>= _) _ _ _
  have nS : ∀ a o, s.heap.get? a = some o → a ≠ S := fun a o e z => by
    have h := Heap.lt_size e
    rw [z, szI] at h
    exact absurd h (Nat.not_lt.mpr (Nat.le_succ _))
  have keepI : ∀ {h' : Heap} {tk : Nat} {v : Int} {t : Tok}, (∀ a o, a ≠ s.heap.objs.size → a ≠ S → h2.get? a = some o → h'.get? a = some o) → v = maxD d ns → EP X pins σ Q (.int v t) { s with heap := h', toks := tk } := fun {h' tk v t} k e => by
    subst e
    exact ⟨.int (maxD d ns), H, I.kept (t' := tk) fun a o e => k a o (Nat.ne_of_lt (Heap.lt_size e)) (nS a o e) (old a o e), ⟨t, rfl⟩, q⟩
  cases ns with
  | nil =>
    have z : its = [] := List.eq_nil_of_length_eq_zero hlen
    subst z
    refine wpAny_bind (wpAny_tryCatch (W.done _ _ _ ⟨gI, gL⟩ fun h' tk hk' => ?_))
    show wpAny _ X.A.in1 (rule _ >>= _) _ _ _
    refine wpAny_bind (wpAny_rule (wpAny_pure ?_))
    exact keepI (fun a o ha hs e => hk' a o (by simpa using ha) e) rfl
  | cons x r =>
    have zl : 0 < its.toArray.size := by rw [List.size_toArray, hlen]; exact Nat.succ_pos _
    refine wpAny_bind (wpAny_tryCatch (W.item 0 _ _ _ zl ⟨gI, gL⟩ fun v h' tk hP st' hk' => ?_))
    have hS' := hk' S _ (by simpa using hSI) gS
    obtain ⟨tv, hv⟩ : ∃ t, v = .int x t := by
      obtain ⟨u, e1, t, e2⟩ := rv.get (i := 0) (x := .int x) rfl
      have hP' : its[0]? = some v := by simpa using hP
      rw [hP'] at e1
      cases e1
      exact ⟨t, e2⟩
    subst hv
    show wpAny _ X.A.in1 (updateSeq S (fun _ => #[.int x tv, .int x tv]) >>= _) _ _ _
    refine wpAny_bind (wpAny_updateSeq hS' rfl ?_)
    rw [nm]
    refine wpAny_pure ⟨plainId_quiet PySem.F.plain_max_loop _, maxd_loop hh hSI hSl hlI hi _ 1 _ x tv _ rfl (by rw [hlen]; exact Nat.succ_le_succ (Nat.zero_le _)) ?_ ?_ (Heap.get?_update_self _ hS' rfl) fun t h3 tk3 hk3 => ?_⟩
    · obtain ⟨o, e, r⟩ := st'.1
      exact ⟨o, (Heap.get?_update_other _ _ hSI).trans e, r⟩
    · obtain ⟨o, e, r⟩ := st'.2
      exact ⟨o, (Heap.get?_update_other _ _ hSl).trans e, r⟩
    · exact keepI (fun a o ha hs e => hk3 a o ha hs ((Heap.get?_update_other _ _ (Ne.symm hs)).trans (hk' a o (by simpa using ha) e))) rfl
def tMaxD (t tk : TA) (K : PySem.W.Frag) : TE := fun σ H Q => t σ H fun vs H1 => tk σ H1 fun zs H2 => ∃ (l : Addr) (ns : List Int) (d : Int), vs = [.ref l] ∧ zs = [.int d] ∧ SqL K H2 l (ns.map V.int) ∧ Q (.int (maxD d ns)) H2
theorem pe_maxD {p pos kp : Pos} {e dv : Expr} {t tk : TA} (hc : X.calm = true) (hg : Gl X "max") (hm : X.mg "max" = none) (ha : PA X [e] t) (hk : PK X [⟨some (Str.ofString "default"), dv, kp⟩] tk)
    (he : backTo pos (starEach [e] X.env) = (false, eval e X.env) :: backTo pos (starEach [] X.env) := by rfl) (hplain : (backTo pos (starEach [e] X.env)).any (·.1) = false := by rfl) :
    PE X (.Call (.Name "max" p) [e] [⟨some (Str.ofString "default"), dv, kp⟩] pos) (tMaxD t tk X.K) := by
  intro pins s σ H Q I h
  refine wpAny_Call_Name_kw (ld_blt I hg hm tb_max (callWith_kw (thn (ha pos pins s σ H _ I h) fun us s1 ⟨vs, H1, I1, r, q⟩ => ?_) he hplain))
  refine thn (hk pos pins s1 σ H1 _ I1 q) fun ws s2 ⟨zs, H2, I2, rz, l, ns, d, e1, e2, hq, q2⟩ => ?_
  subst e1 e2
  obtain ⟨u, rfl, ru⟩ := vals1 r
  obtain ⟨u2, rfl, t2, rfl⟩ := vals1 rz
  cases ru
  exact max_default hc I2 hq q2
end

/-! ### the signs of a text -/
def Its (x : Str) : It := ⟨fun i _ => i < x.cps.size, fun i H v H' => H' = H ∧ ∃ c, x.cps[i]? = some c ∧ v = .str ⟨#[c]⟩, fun i _ => i = x.cps.size⟩
theorem turn_strOf {P : Program} {w : World} {K : PySem.W.Frag} {tg : Expr} (ty : String) (hty : ["enumerate", "zip", "dict_itemiterator", "dict_reverseitemiterator", "odict_iterator", "itertools.zip_longest", "itertools.pairwise"].contains ty = false) (x : Str) (t : Tok) (it : Addr)
    (W : ∀ A : Around, A.handled = none → Walks P w A it [it] [it] x.cps.size (SignAt x) (fun i h => h.IsStrIter it ty x t i))
    (self : ∀ (A : Around) (i : Nat) (s : Shared) (Q : Value → Shared → Prop) (E : Value → Shared → Prop), s.heap.IsStrIter it ty x t i → Q (.ref it) s → wpAny (model P w) A (pyIter (.ref it)) Q E s) :
    Turn P w K tg (Its x) [it] it (fun i h => h.IsStrIter it ty x t i) where
  mem := by simp
  obj := fun i h st b hb => by
    have e : b = it := by simpa using hb
    subst e
    obtain ⟨o, e, c, d⟩ := st
    exact ⟨o, e, fun v z => by rw [d] at z; cases z⟩
  keep := fun i h h' ⟨o, e, r⟩ k => ⟨o, k it (by simp) o e, r⟩
  item := by
    intro X hP hw hK hc i pins s σ H E I hf st hg
    subst hP hw hK
    obtain ⟨f0, f1, f2, f3, f4, f5⟩ := hf it (by simp)
    refine (W X.A (I.ok.hd hc)).item i s _ _ hg st fun v h' tk hv st' kk => ?_
    obtain ⟨c, u, hx, rfl⟩ := hv
    have I1 : Inv X pins σ H { s with heap := h', toks := tk } := I.turned (fun b o hb e => kk b o (by simpa using hb) e) f0 f1 f3 f4 f5
    obtain ⟨o, e, cl, d⟩ := id st'
    exact ⟨_, rfl, go_of (s := { s with heap := h', toks := tk }) e cl d hty ⟨.str ⟨#[c]⟩, H, I1, ⟨u, rfl⟩, ⟨rfl, c, hx, rfl⟩, st', fun b hb => (hf b hb).1⟩⟩
  done := by
    intro X hP hw hK hc i pins s σ H E I hf st hg
    subst hP hw hK
    obtain ⟨f0, f1, f2, f3, f4, f5⟩ := hf it (by simp)
    have hi : i = x.cps.size := hg
    subst hi
    exact (W X.A (I.ok.hd hc)).done s _ _ st fun h' tk kk => ⟨rfl, I.turned (fun b o hb e => kk b o (by simpa using hb) e) f0 f1 f3 f4 f5⟩
  self := self
section
variable {X : Cx} {tg : Expr}
def iStr (tl : TE) : TI := fun σ H R => tl σ H fun v H1 => ∃ x, v = .str x ∧ R (Its x) H1
theorem pi_str {l : Expr} {tl : TE} (hl : PE X l tl) : PI X tg l (iStr tl) := by
  intro pins s σ H R I h
  refine thn (hl pins s σ H _ I h) fun v s1 ⟨z, H1, I1, r1, x, e, q⟩ => ?_
  subst e
  obtain ⟨t, rfl⟩ := r1
  have fp : ∀ b ∈ [s1.heap.objs.size], FpOk X pins H1 b := fun b hb => by
    rw [List.mem_singleton.mp hb]
    exact I1.fpOk (Nat.le_refl _) (I1.hok.fresh (Nat.le_refl _))
  cases ha : x.cps.all (· < 128)
  · exact wpAny_pyIter_wide ha ⟨s1.heap.objs.size, [s1.heap.objs.size], _, _, H1, rfl, I1.kept (t' := s1.toks) fun b o e => Heap.get?_push_of_some _ e,
      turn_strOf "str_iterator" (by decide) x t _ (fun A hA => Walks.strWide hA _ x t) (fun A i s Q E st h => wpAny_pyIter_striter_wide st h), ⟨_, Heap.get?_push_size _ rfl, rfl, rfl⟩, fp, q⟩
  · exact wpAny_pyIter_ascii ha ⟨s1.heap.objs.size, [s1.heap.objs.size], _, _, H1, rfl, I1.kept (t' := s1.toks) fun b o e => Heap.get?_push_of_some _ e,
      turn_strOf "str_ascii_iterator" (by decide) x t _ (fun A hA => Walks.strAscii hA _ x t) (fun A i s Q E st h => wpAny_pyIter_striter_ascii st h), ⟨_, Heap.get?_push_size _ rfl, rfl, rfl⟩, fp, q⟩
end

/-! ### the forms of a comprehension that one uses: D its list, after i items it holds ys -/
section
variable {σ : St} {H : Hp} {ix : List Nat} {te : TE} {Q : VK} {K : PySem.W.Frag}
theorem comp_map {J : It} {n : Nat} (item : Nat → V → Prop) (Pv : Addr → Nat → List V → Hp → Prop) (hn : n < sizeLine)
    (hgo : ∀ D i ys H, i < n → Pv D i ys H → J.go i H) (hy : ∀ D i ys H x H', i < n → Pv D i ys H → J.yld i H x H' → H' = H ∧ item i x) (hstop : ∀ D ys H, Pv D n ys H → J.stop n H)
    (h0 : ∀ D, H D = none → Pv D 0 [] (upd H D (.lst [])))
    (step : ∀ D i ys H x, H D = some (.lst ys) → ys.length ≤ i → i < n → item i x → Pv D i ys H → ∀ R : VK, (∀ y H3, H3 D = some (.lst ys) → Pv D (i + 1) (ys ++ [y]) (upd H3 D (.lst (ys ++ [y]))) → R y H3) → te (cSlots σ ix x) H R)
    (fin : ∀ D ys H, H D = some (.lst ys) → Pv D n ys H → Q (.ref D) H) : cEnd J σ ix tTrue te H Q := by
  intro D hD
  refine ⟨fun i m H => m = n - i ∧ i ≤ n ∧ ∃ ys, H D = some (.lst ys) ∧ ys.length ≤ i ∧ Pv D i ys H, ⟨n, rfl, Nat.zero_le _, [], upd_same, Nat.le_refl _, h0 D hD⟩, ?_⟩
  rintro i m H ⟨rfl, hi, ys, e, hl, p⟩
  by_cases hlt : i < n
  · refine .inr ⟨hgo D i ys H hlt p, fun x H' y => ?_⟩
    obtain ⟨rfl, it⟩ := hy D i ys H x H' hlt p y
    unfold tTrue
    dsimp only
    rw [if_pos rfl]
    refine step D i ys _ x e hl hlt it p _ fun y H3 e3 p3 => ?_
    exact ⟨ys, n - (i + 1), e3, by omega, by omega, rfl, hlt, ys ++ [y], upd_same, by rw [List.length_append, List.length_singleton]; omega, p3⟩
  · have e' : i = n := by omega
    subst e'
    exact .inl ⟨hstop D ys H p, fin D ys H e p⟩
end
end L2
set_option linter.all false
namespace Tw
open PySem

/-- a key, as a tree -/
inductive KT where
  | int (i : Int)
  | str (x : Str)
  | tup (l : List KT)

mutual
def KT.depth : KT → Nat
  | .int _ => 0
  | .str _ => 0
  | .tup l => 1 + depthL l
def depthL : List KT → Nat
  | [] => 0
  | t :: r => max t.depth (depthL r)
end
mutual
def KT.size : KT → Nat
  | .int _ => 1
  | .str _ => 1
  | .tup l => 1 + sizeL l
def sizeL : List KT → Nat
  | [] => 0
  | t :: r => t.size + sizeL r
end
def signOk (c : Nat) : Bool := decide (32 ≤ c) && decide (c ≤ 126)
def textOk (x : Str) : Bool := decide (x.length ≤ 40) && x.cps.toList.all signOk
mutual
def KT.fits : KT → Nat → Bool
  | .int i, _ => decide (i.natAbs < 10 ^ 60)
  | .str x, _ => textOk x
  | .tup l, r => decide (0 < r) && (decide (l.length ≤ 4) && fitsL l (r - 1))
def fitsL : List KT → Nat → Bool
  | [], _ => true
  | t :: l, r => t.fits r && fitsL l r
end

theorem fitsL_all (r : Nat) : ∀ l : List KT, fitsL l r = l.all fun t => t.fits r
  | [] => by simp [fitsL]
  | t :: l => by rw [fitsL, List.all_cons, fitsL_all r l]

mutual
theorem fits_depth : ∀ (t : KT) (r : Nat), t.fits r = true → t.depth ≤ r
  | .int _, r, _ => by rw [KT.depth]; exact Nat.zero_le _
  | .str _, r, _ => by rw [KT.depth]; exact Nat.zero_le _
  | .tup l, r, h => by
    rw [KT.fits, Bool.and_eq_true, Bool.and_eq_true] at h
    obtain ⟨h1, _, h3⟩ := h
    have h1' : 0 < r := of_decide_eq_true h1
    have := fitsL_depth l (r - 1) h3
    rw [KT.depth]
    omega
theorem fitsL_depth : ∀ (l : List KT) (r : Nat), fitsL l r = true → depthL l ≤ r
  | [], r, _ => by rw [depthL]; exact Nat.zero_le _
  | t :: l, r, h => by
    rw [fitsL, Bool.and_eq_true] at h
    have a := fits_depth t r h.1
    have b := fitsL_depth l r h.2
    rw [depthL]
    omega
end
mutual
theorem fits_more : ∀ (t : KT) (r q : Nat), t.fits r = true → t.depth ≤ q → t.fits q = true
  | .int _, r, q, h, _ => by rw [KT.fits] at h ⊢; exact h
  | .str _, r, q, h, _ => by rw [KT.fits] at h ⊢; exact h
  | .tup l, r, q, h, hd => by
    rw [KT.fits, Bool.and_eq_true, Bool.and_eq_true] at h ⊢
    obtain ⟨h1, h2, h3⟩ := h
    rw [KT.depth] at hd
    exact ⟨decide_eq_true (by omega), h2, fitsL_more l (r - 1) (q - 1) h3 (by omega)⟩
theorem fitsL_more : ∀ (l : List KT) (r q : Nat), fitsL l r = true → depthL l ≤ q → fitsL l q = true
  | [], r, q, _, _ => by rw [fitsL]
  | t :: l, r, q, h, hd => by
    rw [fitsL, Bool.and_eq_true] at h ⊢
    rw [depthL] at hd
    exact ⟨fits_more t r q h.1 (by omega), fitsL_more l r q h.2 (by omega)⟩
end
def KT.things : KT → List KT
  | .tup l => l
  | _ => []
def below (l : List KT) : List KT := l.flatMap KT.things
end Tw
set_option linter.all false
namespace Tw
open PySem

/-! ### keys alike; Python's own order; the keys' order -/
mutual
def KT.eqb : KT → KT → Bool
  | .int i, .int j => i == j
  | .str x, .str y => x == y
  | .tup l, .tup m => eqbL l m
  | _, _ => false
def eqbL : List KT → List KT → Bool
  | [], [] => true
  | a :: l, b :: m => a.eqb b && eqbL l m
  | _, _ => false
end
mutual
def KT.plt : KT → KT → Bool
  | .int i, .int j => decide (i < j)
  | .str x, .str y => decide (x.cps.toList < y.cps.toList)
  | .tup l, .tup m => pltL l m
  | _, _ => false
def pltL : List KT → List KT → Bool
  | [], [] => false
  | [], _ :: _ => true
  | _ :: _, [] => false
  | a :: l, b :: m => if a.eqb b = true then pltL l m else a.plt b
end
mutual
def KT.cmp : KT → KT → Bool
  | .int _, .int _ => true
  | .str _, .str _ => true
  | .tup l, .tup m => cmpL l m
  | _, _ => false
def cmpL : List KT → List KT → Bool
  | [], _ => true
  | _ :: _, [] => true
  | a :: l, b :: m => if a.eqb b = true then cmpL l m else a.cmp b
end
def KT.kind : KT → Nat
  | .int _ => 0
  | .str _ => 1
  | .tup _ => 2
mutual
def KT.lt : KT → KT → Bool
  | .int i, .int j => decide (i < j)
  | .int _, .str _ => true
  | .int _, .tup _ => true
  | .str _, .int _ => false
  | .str x, .str y => decide (x.cps.toList < y.cps.toList)
  | .str _, .tup _ => true
  | .tup _, .int _ => false
  | .tup _, .str _ => false
  | .tup l, .tup m => ltL l m
def ltL : List KT → List KT → Bool
  | [], [] => false
  | [], _ :: _ => true
  | _ :: _, [] => false
  | a :: l, b :: m => if a.eqb b = true then ltL l m else a.lt b
end
mutual
def KT.st : KT → KT
  | .int i => .tup [.int 0, .int i]
  | .str x => .tup [.int 1, .str x]
  | .tup l => .tup [.int 2, .tup (stL l)]
def stL : List KT → List KT
  | [] => []
  | t :: l => t.st :: stL l
end
theorem stL_map : ∀ l : List KT, stL l = l.map KT.st
  | [] => by rw [stL]; rfl
  | t :: l => by rw [stL, stL_map l]; rfl

mutual
theorem eqb_eq : ∀ (a b : KT), a.eqb b = true → a = b
  | .int i, .int j, h => by rw [KT.eqb] at h; rw [eq_of_beq h]
  | .str x, .str y, h => by rw [KT.eqb] at h; rw [eq_of_beq h]
  | .tup l, .tup m, h => by rw [KT.eqb] at h; rw [eqbL_eq l m h]
  | .int _, .str _, h => by simp [KT.eqb] at h
  | .int _, .tup _, h => by simp [KT.eqb] at h
  | .str _, .int _, h => by simp [KT.eqb] at h
  | .str _, .tup _, h => by simp [KT.eqb] at h
  | .tup _, .int _, h => by simp [KT.eqb] at h
  | .tup _, .str _, h => by simp [KT.eqb] at h
theorem eqbL_eq : ∀ (l m : List KT), eqbL l m = true → l = m
  | [], [], _ => rfl
  | a :: l, b :: m, h => by
    rw [eqbL, Bool.and_eq_true] at h
    rw [eqb_eq a b h.1, eqbL_eq l m h.2]
  | [], _ :: _, h => by simp [eqbL] at h
  | _ :: _, [], h => by simp [eqbL] at h
end
mutual
theorem eqb_self : ∀ a : KT, a.eqb a = true
  | .int i => by rw [KT.eqb]; exact beq_self_eq_true i
  | .str x => by rw [KT.eqb]; exact beq_self_eq_true x
  | .tup l => by rw [KT.eqb]; exact eqbL_self l
theorem eqbL_self : ∀ l : List KT, eqbL l l = true
  | [] => by rw [eqbL]
  | a :: l => by rw [eqbL, eqb_self a, eqbL_self l]; rfl
end
mutual
theorem eqb_st : ∀ a b : KT, a.st.eqb b.st = a.eqb b
  | .int i, .int j => by simp [KT.st, KT.eqb, eqbL]
  | .str x, .str y => by simp [KT.st, KT.eqb, eqbL]
  | .tup l, .tup m => by simp [KT.st, KT.eqb, eqbL, eqbL_st l m]
  | .int _, .str _ => by simp [KT.st, KT.eqb, eqbL]
  | .int _, .tup _ => by simp [KT.st, KT.eqb, eqbL]
  | .str _, .int _ => by simp [KT.st, KT.eqb, eqbL]
  | .str _, .tup _ => by simp [KT.st, KT.eqb, eqbL]
  | .tup _, .int _ => by simp [KT.st, KT.eqb, eqbL]
  | .tup _, .str _ => by simp [KT.st, KT.eqb, eqbL]
theorem eqbL_st : ∀ l m : List KT, eqbL (stL l) (stL m) = eqbL l m
  | [], [] => by simp [stL, eqbL]
  | a :: l, b :: m => by simp [stL, eqbL, eqb_st a b, eqbL_st l m]
  | [], _ :: _ => by simp [stL, eqbL]
  | _ :: _, [] => by simp [stL, eqbL]
end
theorem ltL_self : ∀ l : List KT, ltL l l = false
  | [] => by rw [ltL]
  | a :: l => by rw [ltL, eqb_self a, if_pos rfl, ltL_self l]
theorem ltL_eqb {l m : List KT} (h : eqbL l m = true) : ltL l m = false := by
  rw [eqbL_eq l m h]; exact ltL_self m

mutual
theorem cmp_st : ∀ a b : KT, a.st.cmp b.st = true
  | .int i, .int j => by simp [KT.st, KT.eqb, KT.cmp, cmpL]
  | .str x, .str y => by simp [KT.st, KT.eqb, KT.cmp, cmpL]
  | .tup l, .tup m => by simp [KT.st, KT.eqb, KT.cmp, cmpL, cmpL_st l m]
  | .int _, .str _ => by simp [KT.st, KT.eqb, KT.cmp, cmpL]
  | .int _, .tup _ => by simp [KT.st, KT.eqb, KT.cmp, cmpL]
  | .str _, .int _ => by simp [KT.st, KT.eqb, KT.cmp, cmpL]
  | .str _, .tup _ => by simp [KT.st, KT.eqb, KT.cmp, cmpL]
  | .tup _, .int _ => by simp [KT.st, KT.eqb, KT.cmp, cmpL]
  | .tup _, .str _ => by simp [KT.st, KT.eqb, KT.cmp, cmpL]
theorem cmpL_st : ∀ l m : List KT, cmpL (stL l) (stL m) = true
  | [], _ => by simp [stL, cmpL]
  | _ :: _, [] => by simp [stL, cmpL]
  | a :: l, b :: m => by
    rw [stL, stL, cmpL, cmpL_st l m, cmp_st a b]
    split <;> rfl
end
mutual
theorem plt_st : ∀ a b : KT, a.st.plt b.st = a.lt b
  | .int i, .int j => by
    simp only [KT.st, KT.eqb, KT.plt, pltL, KT.lt, beq_self_eq_true, if_true]
    by_cases h : i = j
    · subst h; simp
    · simp [h]
  | .str x, .str y => by
    simp only [KT.st, KT.eqb, KT.plt, pltL, KT.lt, beq_self_eq_true, if_true]
    by_cases h : x = y
    · subst h; simp
    · simp [h]
  | .tup l, .tup m => by
    simp only [KT.st, KT.eqb, KT.plt, pltL, KT.lt, beq_self_eq_true, if_true, eqbL_st, pltL_st l m]
    cases h : eqbL l m with
    | true => rw [if_pos rfl, ltL_eqb h]
    | false => rw [if_neg Bool.false_ne_true]
  | .int _, .str _ => by simp [KT.st, KT.eqb, KT.plt, pltL, KT.lt]
  | .int _, .tup _ => by simp [KT.st, KT.eqb, KT.plt, pltL, KT.lt]
  | .str _, .int _ => by simp [KT.st, KT.eqb, KT.plt, pltL, KT.lt]
  | .str _, .tup _ => by simp [KT.st, KT.eqb, KT.plt, pltL, KT.lt]
  | .tup _, .int _ => by simp [KT.st, KT.eqb, KT.plt, pltL, KT.lt]
  | .tup _, .str _ => by simp [KT.st, KT.eqb, KT.plt, pltL, KT.lt]
theorem pltL_st : ∀ l m : List KT, pltL (stL l) (stL m) = ltL l m
  | [], [] => by simp [stL, pltL, ltL]
  | [], _ :: _ => by simp [stL, pltL, ltL]
  | _ :: _, [] => by simp [stL, pltL, ltL]
  | a :: l, b :: m => by rw [stL, stL, pltL, ltL, eqb_st a b, pltL_st l m, plt_st a b]
end
mutual
theorem depth_st : ∀ t : KT, t.st.depth ≤ 2 * t.depth + 1
  | .int i => by simp [KT.st, KT.depth, depthL]
  | .str x => by simp [KT.st, KT.depth, depthL]
  | .tup l => by
    have := depthL_st l
    simp only [KT.st, KT.depth, depthL]
    omega
theorem depthL_st : ∀ l : List KT, depthL (stL l) ≤ 2 * depthL l + 1
  | [] => by simp [stL, depthL]
  | t :: l => by
    have a := depth_st t
    have b := depthL_st l
    rw [stL, depthL, depthL]
    omega
end

/-! ### the laws' own way, from place to place -/
/-! ### keys near one another -/
theorem text_of {x : Str} (h : textOk x = true) : x.cps.size ≤ 40 ∧ x.cps.toList.all signOk = true := by
  unfold textOk at h
  rw [Bool.and_eq_true] at h
  exact ⟨of_decide_eq_true h.1, h.2⟩
end Tw
set_option linter.all false
namespace Tw
open PySem
/-! ### the keys' order is a strict one in which all keys stand -/
end Tw
set_option linter.all false
namespace Tw
open PySem
/-- a thing of any kind, as a tree; odd: what is no number, text or tuple, by its type's name -/
inductive TG where
  | int (i : Int)
  | str (x : Str)
  | tup (l : List TG)
  | odd (n : String)
mutual
def TG.fits : TG → Nat → Bool
  | .int i, _ => decide (i.natAbs < 10 ^ 60)
  | .str x, _ => textOk x
  | .tup l, r => decide (0 < r) && (decide (l.length ≤ 4) && gfitsL l (r - 1))
  | .odd _, _ => false
def gfitsL : List TG → Nat → Bool
  | [], _ => true
  | t :: l, r => t.fits r && gfitsL l r
end
theorem gfitsL_all (r : Nat) : ∀ l : List TG, gfitsL l r = l.all fun t => t.fits r
  | [] => by simp [gfitsL]
  | t :: l => by rw [gfitsL, List.all_cons, gfitsL_all r l]
mutual
def KT.emb : KT → TG
  | .int i => .int i
  | .str x => .str x
  | .tup l => .tup (embL l)
def embL : List KT → List TG
  | [] => []
  | t :: l => t.emb :: embL l
end
theorem embL_map : ∀ l : List KT, embL l = l.map KT.emb
  | [] => by rw [embL]; rfl
  | t :: l => by rw [embL, embL_map l]; rfl
mutual
theorem emb_fits : ∀ (t : KT) (r : Nat), t.emb.fits r = t.fits r
  | .int i, r => by rw [KT.emb, TG.fits, KT.fits]
  | .str x, r => by rw [KT.emb, TG.fits, KT.fits]
  | .tup l, r => by rw [KT.emb, TG.fits, KT.fits, embL_fits l (r - 1), embL_map, List.length_map]
theorem embL_fits : ∀ (l : List KT) (r : Nat), gfitsL (embL l) r = fitsL l r
  | [], r => by rw [embL, gfitsL, fitsL]
  | t :: l, r => by rw [embL, gfitsL, fitsL, emb_fits t r, embL_fits l r]
end
/-! no text in it is long, no tuple in it is wide -/
mutual
def TG.neat : TG → Prop
  | .int _ => True
  | .str x => x.length ≤ 1000
  | .tup l => l.length ≤ 5 ∧ neatL l
  | .odd _ => True
def neatL : List TG → Prop
  | [] => True
  | t :: l => t.neat ∧ neatL l
end
theorem neatL_mem : ∀ {l : List TG} {t : TG}, neatL l → t ∈ l → t.neat
  | [], _, _, h => by cases h
  | u :: l, t, h, hm => by
    rw [neatL] at h
    rcases List.mem_cons.mp hm with e | e
    · subst e; exact h.1
    · exact neatL_mem h.2 e
mutual
theorem emb_neat : ∀ (t : KT) (r : Nat), t.fits r = true → t.emb.neat
  | .int i, r, h => by rw [KT.emb, TG.neat]; trivial
  | .str x, r, h => by
    rw [KT.fits] at h
    rw [KT.emb, TG.neat]
    have := (text_of h).1
    exact Nat.le_trans this (by decide)
  | .tup l, r, h => by
    rw [KT.fits, Bool.and_eq_true, Bool.and_eq_true] at h
    rw [KT.emb, TG.neat, embL_map, List.length_map, ← embL_map]
    have := of_decide_eq_true h.2.1
    exact ⟨by omega, embL_neat l (r - 1) h.2.2⟩
theorem embL_neat : ∀ (l : List KT) (r : Nat), fitsL l r = true → neatL (embL l)
  | [], r, h => by rw [embL, neatL]; trivial
  | t :: l, r, h => by
    rw [fitsL, Bool.and_eq_true] at h
    rw [embL, neatL]
    exact ⟨emb_neat t r h.1, embL_neat l r h.2⟩
end
end Tw
set_option Elab.async false
set_option linter.all false
set_option maxRecDepth 100000
set_option maxHeartbeats 4000000
namespace Tw
open PySem PySem.Spec L2

/-- a def of the text with its promise -/
structure DefOk (P : Program) (w : World) (K : PySem.W.Frag) (mg : Str → Option Value) (base : Heap) (k : Nat) (x : Str) (ps : List Str) (sp : Sp) : Prop where
  ex : ∃ f fd, FnOk P w K mg base CX0 k f fd ps sp ∧ Binds K fd ps [] ∧ PySem.W.keepIn K (.ref f) = true ∧ mg x = some (.ref f)
theorem pe_def {X : Cx} {k : Nat} {x : Str} {ps : List Str} {sp : Sp} {e : Expr} {es : List Expr} {t : TA} {p pos : Pos} (D : DefOk X.prog X.w X.K X.mg X.base k x ps sp) (hr : Room k X.A) (ha : PA X (e :: es) t) (hg : Gl X x := by rfl)
    (hdb : (x == ("__debug__" : Str)) = false := by decide) (he : starEach (e :: es) X.env = (false, eval e X.env) :: starEach es X.env := by rfl) (hpl : (backTo pos (starEach es X.env)).any (·.1) = false := by rfl) :
    PE X (.Call (.Name x p) (e :: es) [] pos) (tCall sp [] E0 t) := by
  obtain ⟨f, fd, F, b, kp, m⟩ := D.ex
  exact pe_call F hr hg m kp b .nil pass0 ha hdb he hpl

/-! ### keys on the heap -/
mutual
def KeyAt (H : Hp) : KT → V → Prop
  | .int i, v => v = .int i
  | .str x, v => v = .str x
  | .tup l, v => ∃ a vs, v = .ref a ∧ H a = some (.tup vs) ∧ KeysAt H l vs
def KeysAt (H : Hp) : List KT → List V → Prop
  | [], vs => vs = []
  | t :: l, vs => ∃ v r, vs = v :: r ∧ KeyAt H t v ∧ KeysAt H l r
end
/-- the tuples stay -/
def Tups (H H' : Hp) : Prop := ∀ b xs, H b = some (.tup xs) → H' b = some (.tup xs)
mutual
theorem KeyAt.mono {H H' : Hp} (m : Tups H H') : ∀ (t : KT) (v : V), KeyAt H t v → KeyAt H' t v
  | .int _, _, h => by rw [KeyAt] at h ⊢; exact h
  | .str _, _, h => by rw [KeyAt] at h ⊢; exact h
  | .tup l, _, h => by
    rw [KeyAt] at h ⊢
    obtain ⟨a, vs, e, h1, h2⟩ := h
    exact ⟨a, vs, e, m a vs h1, KeysAt.mono m l vs h2⟩
theorem KeysAt.mono {H H' : Hp} (m : Tups H H') : ∀ (l : List KT) (vs : List V), KeysAt H l vs → KeysAt H' l vs
  | [], _, h => by rw [KeysAt] at h ⊢; exact h
  | t :: l, _, h => by
    rw [KeysAt] at h ⊢
    obtain ⟨v, r, e, h1, h2⟩ := h
    exact ⟨v, r, e, KeyAt.mono m t v h1, KeysAt.mono m l r h2⟩
end
theorem KeysAt.nil {H : Hp} : KeysAt H [] [] := by rw [KeysAt]
theorem KeysAt.cons {H : Hp} {t : KT} {l : List KT} {v : V} {r : List V} (h : KeyAt H t v) (hr : KeysAt H l r) : KeysAt H (t :: l) (v :: r) := by
  rw [KeysAt]
  exact ⟨v, r, rfl, h, hr⟩
theorem KeyAt.tup {H : Hp} {a : Addr} {vs : List V} {l : List KT} (e : H a = some (.tup vs)) (h : KeysAt H l vs) : KeyAt H (.tup l) (.ref a) := by
  rw [KeyAt]
  exact ⟨a, vs, rfl, e, h⟩
theorem KeyAt.int {H : Hp} (i : Int) : KeyAt H (.int i) (.int i) := by rw [KeyAt]
theorem KeyAt.str {H : Hp} (x : Str) : KeyAt H (.str x) (.str x) := by rw [KeyAt]
theorem KeysAt.append {H : Hp} : ∀ {l m : List KT} {vs ws : List V}, KeysAt H l vs → KeysAt H m ws → KeysAt H (l ++ m) (vs ++ ws)
  | [], m, vs, ws, h, g => by rw [KeysAt] at h; subst h; exact g
  | t :: l, m, vs, ws, h, g => by
    rw [KeysAt] at h
    obtain ⟨v, r, rfl, h1, h2⟩ := h
    exact .cons h1 (h2.append g)
theorem KeysAt.length {H : Hp} : ∀ {l : List KT} {vs : List V}, KeysAt H l vs → l.length = vs.length
  | [], vs, h => by rw [KeysAt] at h; subst h; rfl
  | t :: l, vs, h => by
    rw [KeysAt] at h
    obtain ⟨v, r, rfl, _, h2⟩ := h
    rw [List.length_cons, List.length_cons, h2.length]
theorem KeysAt.get {H : Hp} : ∀ {l : List KT} {vs : List V} {i : Nat} {v : V}, KeysAt H l vs → vs[i]? = some v → ∃ t, l[i]? = some t ∧ KeyAt H t v
  | [], vs, i, v, h, e => by rw [KeysAt] at h; subst h; simp at e
  | t :: l, vs, 0, v, h, e => by
    rw [KeysAt] at h
    obtain ⟨v', r, rfl, h1, _⟩ := h
    simp at e
    subst e
    exact ⟨t, rfl, h1⟩
  | t :: l, vs, i + 1, v, h, e => by
    rw [KeysAt] at h
    obtain ⟨v', r, rfl, _, h2⟩ := h
    obtain ⟨t', e1, e2⟩ := h2.get (i := i) (by simpa using e)
    exact ⟨t', by simpa using e1, e2⟩
theorem KeysAt.take {H : Hp} : ∀ {l : List KT} {vs : List V} (n : Nat), KeysAt H l vs → KeysAt H (l.take n) (vs.take n)
  | l, vs, 0, _ => by simp only [List.take_zero]; exact .nil
  | [], vs, n + 1, h => by rw [KeysAt] at h; subst h; exact .nil
  | t :: l, vs, n + 1, h => by
    rw [KeysAt] at h
    obtain ⟨v', r, rfl, h1, h2⟩ := h
    exact .cons h1 (h2.take n)
theorem KeysAt.drop {H : Hp} : ∀ {l : List KT} {vs : List V} (n : Nat), KeysAt H l vs → KeysAt H (l.drop n) (vs.drop n)
  | l, vs, 0, h => h
  | [], vs, n + 1, h => by rw [KeysAt] at h; subst h; exact .nil
  | t :: l, vs, n + 1, h => by
    rw [KeysAt] at h
    obtain ⟨v', r, rfl, h1, h2⟩ := h
    exact h2.drop n
def KT.ty : KT → Value
  | .int _ => .type "int"
  | .str _ => .type "str"
  | .tup _ => .type "tuple"
theorem KeyAt.ty {H : Hp} {K : PySem.W.Frag} {t : KT} {v : V} (h : KeyAt H t v) : TyOf K H v t.ty := by
  cases t with
  | int i => rw [KeyAt] at h; subst h; exact .int i
  | str x => rw [KeyAt] at h; subst h; exact .str x
  | tup l => rw [KeyAt] at h; obtain ⟨a, vs, rfl, e, _⟩ := h; exact .tup e

/-! ### what stays -/
/-- all but p -/
def SameX (p : Addr) (H H' : Hp) : Prop := ∀ b o, H b = some o → b ≠ p → H' b = some o
theorem SameX.refl (p : Addr) (H : Hp) : SameX p H H := fun _ _ h _ => h
theorem SameX.trans {p : Addr} {H H1 H2 : Hp} (a : SameX p H H1) (b : SameX p H1 H2) : SameX p H H2 := fun c o h n => b c o (a c o h n) n
theorem SameX.upd {p : Addr} {H H' : Hp} {o : HO} (a : SameX p H H') : SameX p H (L2.upd H' p o) := fun c u h n => by rw [upd_ne n]; exact a c u h n
theorem SameX.of {p : Addr} {H H' : Hp} (a : Same H H') : SameX p H H' := fun c o h _ => a c o h
theorem SameX.tups {p : Addr} {H H' : Hp} {xs : List V} (a : SameX p H H') (h : H p = some (.lst xs)) : Tups H H' := fun b ys e => a b _ e (ne_of e h (by intro z; cases z))
theorem Same.tups {H H' : Hp} (a : Same H H') : Tups H H' := fun b ys e => a b _ e
theorem same_new {H : Hp} {p : Addr} (h : H p = none) (o : HO) : Same H (L2.upd H p o) := fun b u q => by rw [upd_ne (ne_of_none q h)]; exact q
theorem Tups.trans {H H1 H2 : Hp} (a : Tups H H1) (b : Tups H1 H2) : Tups H H2 := fun c xs h => b c xs (a c xs h)

/-! ### the well of draws: a list of four ints -/
structure WellAt (H : Hp) (p : Addr) : Prop where
  ex : ∃ a b c d : Int, H p = some (.lst [.int a, .int b, .int c, .int d]) ∧ 0 ≤ a ∧ a < 2147483647 ∧ 0 ≤ c ∧ 0 ≤ d
theorem WellAt.stay {H H' : Hp} {p q : Addr} (w : WellAt H p) (s : SameX q H H') (n : p ≠ q) : WellAt H' p := by
  obtain ⟨a, b, c, d, e, r⟩ := w.ex
  exact ⟨a, b, c, d, s p _ e n, r⟩
theorem WellAt.same {H H' : Hp} {p : Addr} (w : WellAt H p) (s : Same H H') : WellAt H' p := by
  obtain ⟨a, b, c, d, e, r⟩ := w.ex
  exact ⟨a, b, c, d, s p _ e, r⟩
theorem WellAt.some {H : Hp} {p : Addr} (w : WellAt H p) : ∃ xs, H p = Option.some (.lst xs) := by
  obtain ⟨a, b, c, d, e, r⟩ := w.ex
  exact ⟨_, e⟩
theorem SameX.tupsW {p : Addr} {H H' : Hp} (a : SameX p H H') (w : WellAt H p) : Tups H H' := by
  obtain ⟨xs, e⟩ := w.some
  exact a.tups e

/-! ### the promises -/
def small (m : Int) : Prop := 0 < m ∧ m.natAbs.log2 < 9000
def spWell (K : PySem.W.Frag) : Sp := fun vs H Q _ => ∃ (a : Addr) (ns : List Int) (k : Int), vs = [.ref a, .int k] ∧ SqL K H a (ns.map V.int) ∧ ns.length ≤ 63 ∧ 0 ≤ k ∧ k ≤ 1000 ∧
  ∀ (p : Addr) (H' : Hp), H p = none → Same H H' → WellAt H' p → Q (.ref p) H'
def spPull : Sp := fun vs H Q _ => ∃ (p : Addr) (m : Int), vs = [.ref p, .int m] ∧ WellAt H p ∧ small m ∧ ∀ (r : Int) (H' : Hp), 0 ≤ r → r < m → WellAt H' p → SameX p H H' → Q (.int r) H'
def spText : Sp := fun vs H Q _ => ∃ (p : Addr), vs = [.ref p] ∧ WellAt H p ∧ ∀ (x : Str) (H' : Hp), textOk x = true → WellAt H' p → SameX p H H' → Q (.str x) H'
def spKey (n : Nat) : Sp := fun vs H Q _ => ∃ (p : Addr) (r : Nat), vs = [.ref p, .int (r : Int)] ∧ WellAt H p ∧ r < n ∧ ∀ (v : V) (t : KT) (H' : Hp), KeyAt H' t v → t.fits r = true → WellAt H' p → SameX p H H' → Q v H'
def spFew : Sp := fun vs H Q _ => ∃ i : Int, vs = [.int i] ∧ Q (.bl (decide (i.natAbs < 10 ^ 60))) H
def spSign : Sp := fun vs H Q _ => ∃ c : Nat, vs = [.str ⟨#[c]⟩] ∧ Q (.bl (signOk c)) H
/-! ### small facts -/
theorem nn {n : Nat} (h : n ≤ 1000) : n ≤ sizeLine := Nat.le_of_lt (small1000 h)
theorem at2 {x y : V} {i : Int} (h0 : 0 ≤ i) (h1 : i < 2) : ∃ v, atI [x, y] i = some v ∧ (v = x ∨ v = y) := by
  rcases (show i = 0 ∨ i = 1 by omega) with e | e
  · subst e; exact ⟨x, rfl, .inl rfl⟩
  · subst e; exact ⟨y, rfl, .inr rfl⟩
theorem atI_in {α : Type} {xs : List α} {i : Int} (h0 : 0 ≤ i) (h1 : i < (xs.length : Int)) : ∃ v, atI xs i = some v ∧ v ∈ xs := by
  have hk : i.toNat < xs.length := by omega
  have e : i = ((i.toNat : Nat) : Int) := by omega
  rw [e]
  exact ⟨xs[i.toNat], atI_nat (List.getElem?_eq_getElem hk), List.getElem_mem hk⟩
theorem small_lit {m : Int} (h0 : 0 < m) (h1 : m.natAbs < 2 ^ 250) : small m := by
  refine ⟨h0, ?_⟩
  have : m.natAbs.log2 < 250 := (Nat.log2_lt (by omega)).mpr h1
  omega
theorem vint_inj {i j : Int} (h : V.int i = V.int j) : i = j := by injection h
theorem signs_le (c : Nat) : ((!decide ([c] < [32])) && !decide ([126] < [c])) = signOk c := by
  unfold signOk
  have a : ([c] < [32]) ↔ c < 32 := by simp [List.cons_lt_cons_iff]
  have b : ([126] < [c]) ↔ 126 < c := by simp [List.cons_lt_cons_iff]
  rw [Bool.eq_iff_iff]
  simp only [Bool.and_eq_true, Bool.not_eq_true', decide_eq_false_iff_not, decide_eq_true_eq, a, b]
  omega
theorem few_eq (i : Int) : decide ((if i < 0 then -i else i) < 10 ^ (60 : Int).toNat) = decide (i.natAbs < 10 ^ 60) := by
  have e : ((10 : Int) ^ (60 : Int).toNat) = ((10 ^ 60 : Nat) : Int) := by decide +kernel
  rw [e]
  generalize (10 ^ 60 : Nat) = N
  apply decide_eq_decide.mpr
  split <;> omega
end Tw
set_option Elab.async false
set_option linter.all false
set_option maxRecDepth 100000
set_option maxHeartbeats 4000000
namespace Tw
open PySem PySem.Spec L2 PyProof.Rows

/-! ### keys as values -/
mutual
def KVal (h : Heap) : KT → Value → Prop
  | .int i, v => ∃ t, v = .int i t
  | .str x, v => ∃ t, v = .str x t
  | .tup l, v => ∃ (a : Addr) (its : List Value), v = .ref a ∧ IsTup h a its.toArray ∧ KVals h l its
def KVals (h : Heap) : List KT → List Value → Prop
  | [], vs => vs = []
  | t :: l, vs => ∃ v r, vs = v :: r ∧ KVal h t v ∧ KVals h l r
end
section
variable {X : Cx} {pins : List (Addr × Obj)} {σ : L2.St} {H : Hp} {s : Shared}
mutual
theorem kval_of (I : Inv X pins σ H s) : ∀ (t : KT) (x : V) (v : Value), KeyAt H t x → RelV x v → KVal s.heap t v
  | .int i, x, v, h, r => by
    rw [KeyAt] at h
    subst h
    rw [KVal]
    exact r
  | .str y, x, v, h, r => by
    rw [KeyAt] at h
    subst h
    rw [KVal]
    exact r
  | .tup l, x, v, h, r => by
    rw [KeyAt] at h
    obtain ⟨a, vs, rfl, e, hk⟩ := h
    obtain ⟨its, rv, pl, _⟩ := I.tuple (SqT.of e)
    rw [KVal]
    exact ⟨a, its, r, pl, kvals_of I l vs its hk rv⟩
theorem kvals_of (I : Inv X pins σ H s) : ∀ (l : List KT) (vs : List V) (us : List Value), KeysAt H l vs → Vals vs us → KVals s.heap l us
  | [], vs, us, h, r => by
    rw [KeysAt] at h
    subst h
    rw [KVals]
    cases r
    rfl
  | t :: l, vs, us, h, r => by
    rw [KeysAt] at h
    obtain ⟨v, q, rfl, h1, h2⟩ := h
    cases r with
    | cons r1 r2 =>
      rw [KVals]
      exact ⟨_, _, rfl, kval_of I t v _ h1 r1, kvals_of I l q _ h2 r2⟩
end
end
theorem isTup_inj {h : Heap} {a : Addr} {its its' : List Value} (x : IsTup h a its.toArray) (y : IsTup h a its'.toArray) : its = its' := by
  obtain ⟨o, e, _, n, d⟩ := x
  obtain ⟨o', e', _, n', d'⟩ := y
  rw [e] at e'
  cases e'
  rw [d] at d'
  injection d' with d1 _
  simpa using congrArg Array.toList d1
mutual
theorem KVal.inj {h : Heap} : ∀ (a b : KT) (v : Value), KVal h a v → KVal h b v → a.eqb b = true
  | .int i, b, v, x, y => by
    rw [KVal] at x
    obtain ⟨t, rfl⟩ := x
    cases b with
    | int j => rw [KVal] at y; obtain ⟨u, e⟩ := y; injection e with e _; rw [KT.eqb, e]; exact beq_self_eq_true j
    | str z => rw [KVal] at y; obtain ⟨u, e⟩ := y; cases e
    | tup m => rw [KVal] at y; obtain ⟨_, _, e, _⟩ := y; cases e
  | .str w, b, v, x, y => by
    rw [KVal] at x
    obtain ⟨t, rfl⟩ := x
    cases b with
    | int j => rw [KVal] at y; obtain ⟨u, e⟩ := y; cases e
    | str z => rw [KVal] at y; obtain ⟨u, e⟩ := y; injection e with e _; rw [KT.eqb, e]; exact beq_self_eq_true z
    | tup m => rw [KVal] at y; obtain ⟨_, _, e, _⟩ := y; cases e
  | .tup l, b, v, x, y => by
    rw [KVal] at x
    obtain ⟨p, its, rfl, px, kx⟩ := x
    cases b with
    | int j => rw [KVal] at y; obtain ⟨u, e⟩ := y; cases e
    | str z => rw [KVal] at y; obtain ⟨u, e⟩ := y; cases e
    | tup m =>
      rw [KVal] at y
      obtain ⟨q, its', e, py, ky⟩ := y
      cases e
      cases isTup_inj px py
      rw [KT.eqb]
      exact KVals.inj l m its kx ky
theorem KVals.inj {h : Heap} : ∀ (l m : List KT) (us : List Value), KVals h l us → KVals h m us → eqbL l m = true
  | [], m, us, x, y => by
    rw [KVals] at x
    subst x
    cases m with
    | nil => rw [eqbL]
    | cons b m => rw [KVals] at y; obtain ⟨_, _, e, _⟩ := y; cases e
  | a :: l, m, us, x, y => by
    rw [KVals] at x
    obtain ⟨v, r, rfl, x1, x2⟩ := x
    cases m with
    | nil => rw [KVals] at y; cases y
    | cons b m =>
      rw [KVals] at y
      obtain ⟨v', r', e, y1, y2⟩ := y
      injection e with e1 e2
      subst e1 e2
      rw [eqbL, KVal.inj a b v x1 y1, KVals.inj l m r x2 y2]
      rfl
end
theorem KVals.length {h : Heap} : ∀ {l : List KT} {us : List Value}, KVals h l us → l.length = us.length
  | [], us, x => by rw [KVals] at x; subst x; rfl
  | a :: l, us, x => by
    rw [KVals] at x
    obtain ⟨v, r, rfl, _, x2⟩ := x
    rw [List.length_cons, List.length_cons, x2.length]
theorem KVals.get {h : Heap} : ∀ {l : List KT} {us : List Value} {j : Nat} {u : Value}, KVals h l us → us[j]? = some u → ∃ t, l[j]? = some t ∧ KVal h t u
  | [], us, j, u, x, e => by rw [KVals] at x; subst x; simp at e
  | a :: l, us, 0, u, x, e => by
    rw [KVals] at x
    obtain ⟨v, r, rfl, x1, _⟩ := x
    simp at e
    subst e
    exact ⟨a, rfl, x1⟩
  | a :: l, us, j + 1, u, x, e => by
    rw [KVals] at x
    obtain ⟨v, r, rfl, _, x2⟩ := x
    obtain ⟨t, e1, e2⟩ := x2.get (j := j) (by simpa using e)
    exact ⟨t, by simpa using e1, e2⟩
theorem depth_in : ∀ {l : List KT} {t : KT}, t ∈ l → t.depth ≤ depthL l
  | [], _, h => by cases h
  | u :: l, t, h => by
    rw [depthL]
    rcases List.mem_cons.mp h with e | h
    · subst e; omega
    · have := depth_in h; omega
theorem eqbL_range : ∀ (l m : List KT), ((List.range (min l.length m.length)).all (fun j => (l.getD j (.int 0)).eqb (m.getD j (.int 0))) && l.length == m.length) = eqbL l m
  | [], [] => by simp [eqbL]
  | [], _ :: _ => by simp [eqbL]
  | _ :: _, [] => by simp [eqbL]
  | a :: l, b :: m => by
    have ih := eqbL_range l m
    have e : min (a :: l).length (b :: m).length = min l.length m.length + 1 := by simp only [List.length_cons]; omega
    rw [e, List.range_succ_eq_map, List.all_cons, List.all_map, eqbL, ← ih, Bool.and_assoc]
    simp [Function.comp_def]

/-! ### == -/
theorem eqAt_key {s : Shared} : ∀ (n : Nat) (a b : KT) (A : Around) (v u : Value), a.depth ≤ n → KVal s.heap a v → KVal s.heap b u → A.units + a.depth < cLine → SeqAt.EqAt A s v u (a.eqb b)
  | n, .int i, b, A, v, u, _, x, y, hu => by
    rw [KVal] at x
    obtain ⟨t, rfl⟩ := x
    have hu' : A.units < cLine := by omega
    cases b with
    | int j => rw [KVal] at y; obtain ⟨t', rfl⟩ := y; rw [KT.eqb]; exact SeqAt.EqAt.int_int i t j t'
    | str z => rw [KVal] at y; obtain ⟨t', rfl⟩ := y; rw [show (KT.int i).eqb (.str z) = false by simp [KT.eqb]]; exact SeqAt.EqAt.int_str i t z t'
    | tup m => rw [KVal] at y; obtain ⟨p, its, rfl, py, _⟩ := y; rw [show (KT.int i).eqb (.tup m) = false by simp [KT.eqb]]; exact SeqAt.EqAt.int_tuple i t py hu'
  | n, .str w, b, A, v, u, _, x, y, hu => by
    rw [KVal] at x
    obtain ⟨t, rfl⟩ := x
    have hu' : A.units < cLine := by omega
    cases b with
    | int j => rw [KVal] at y; obtain ⟨t', rfl⟩ := y; rw [show (KT.str w).eqb (.int j) = false by simp [KT.eqb]]; exact SeqAt.EqAt.str_int w t j t'
    | str z => rw [KVal] at y; obtain ⟨t', rfl⟩ := y; rw [KT.eqb]; exact SeqAt.EqAt.str_str w t z t'
    | tup m => rw [KVal] at y; obtain ⟨p, its, rfl, py, _⟩ := y; rw [show (KT.str w).eqb (.tup m) = false by simp [KT.eqb]]; exact SeqAt.EqAt.str_tuple w t py hu'
  | 0, .tup l, b, A, v, u, hn, x, y, hu => by
    rw [KT.depth] at hn
    omega
  | n + 1, .tup l, b, A, v, u, hn, x, y, hu => by
    have x' := x
    rw [KVal] at x
    obtain ⟨p, its, rfl, px, kx⟩ := x
    rw [KT.depth] at hn hu
    have hu' : A.units < cLine := by omega
    cases b with
    | int j => rw [KVal] at y; obtain ⟨t', rfl⟩ := y; rw [show (KT.tup l).eqb (.int j) = false by simp [KT.eqb]]; exact SeqAt.EqAt.tuple_int j t' px hu'
    | str z => rw [KVal] at y; obtain ⟨t', rfl⟩ := y; rw [show (KT.tup l).eqb (.str z) = false by simp [KT.eqb]]; exact SeqAt.EqAt.tuple_str z t' px hu'
    | tup m =>
      have y' := y
      rw [KVal] at y
      obtain ⟨q, its', rfl, py, ky⟩ := y
      by_cases hpq : p = q
      · subst hpq
        rw [KVal.inj _ _ _ x' y']
        exact SeqAt.EqAt.same _
      · have lx := kx.length
        have ly := ky.length
        have rc := SeqAt.RcAt.tuples (A := A) (s := s) (e := fun j => (l.getD j (.int 0)).eqb (m.getD j (.int 0))) px py hu' (fun j h1 h2 => by
          have h1' : j < its.length := by simpa using h1
          have h2' : j < its'.length := by simpa using h2
          obtain ⟨t1, e1, k1⟩ := kx.get (j := j) (u := its[j]) (by simp [h1'])
          obtain ⟨t2, e2, k2⟩ := ky.get (j := j) (u := its'[j]) (by simp [h2'])
          have d1 := depth_in (List.mem_of_getElem? e1)
          have g1 : l.getD j (.int 0) = t1 := by rw [List.getD_eq_getElem?_getD, e1]; rfl
          have g2 : m.getD j (.int 0) = t2 := by rw [List.getD_eq_getElem?_getD, e2]; rfl
          have := eqAt_key n t1 t2 A.in1 its[j] its'[j] (by omega) k1 k2 (by show A.units + 1 + t1.depth < cLine; omega)
          show SeqAt.EqAt A.in1 s _ _ ((l.getD j (.int 0)).eqb (m.getD j (.int 0)))
          rw [g1, g2]
          simpa using this)
        have er : ((List.range (min its.toArray.size its'.toArray.size)).all (fun j => (l.getD j (.int 0)).eqb (m.getD j (.int 0))) && its.toArray.size == its'.toArray.size) = (KT.tup l).eqb (.tup m) := by
          rw [List.size_toArray, List.size_toArray, ← lx, ← ly, KT.eqb]
          exact eqbL_range l m
        rw [er] at rc
        exact .of_refs hpq rc
theorem neAt_key {s : Shared} (a b : KT) (A : Around) (v u : Value) (x : KVal s.heap a v) (y : KVal s.heap b u) (hu : A.units + a.depth < cLine) : SeqAt.RcNeAt A s v u (!a.eqb b) := by
  have hu' : A.units < cLine := by omega
  cases a with
  | int i =>
    rw [KVal] at x
    obtain ⟨t, rfl⟩ := x
    cases b with
    | int j => rw [KVal] at y; obtain ⟨t', rfl⟩ := y; rw [KT.eqb]; exact SeqAt.RcNeAt.int_int i t j t'
    | str z => rw [KVal] at y; obtain ⟨t', rfl⟩ := y; rw [show (KT.int i).eqb (.str z) = false by simp [KT.eqb]]; exact SeqAt.RcNeAt.int_str i t z t'
    | tup m => rw [KVal] at y; obtain ⟨p, its, rfl, py, _⟩ := y; rw [show (KT.int i).eqb (.tup m) = false by simp [KT.eqb]]; exact SeqAt.RcNeAt.int_tuple i t py hu'
  | str w =>
    rw [KVal] at x
    obtain ⟨t, rfl⟩ := x
    cases b with
    | int j => rw [KVal] at y; obtain ⟨t', rfl⟩ := y; rw [show (KT.str w).eqb (.int j) = false by simp [KT.eqb]]; exact SeqAt.RcNeAt.str_int w t j t'
    | str z => rw [KVal] at y; obtain ⟨t', rfl⟩ := y; rw [KT.eqb]; exact SeqAt.RcNeAt.str_str w t z t'
    | tup m => rw [KVal] at y; obtain ⟨p, its, rfl, py, _⟩ := y; rw [show (KT.str w).eqb (.tup m) = false by simp [KT.eqb]]; exact SeqAt.RcNeAt.str_tuple w t py hu'
  | tup l =>
    rw [KVal] at x
    obtain ⟨p, its, rfl, px, kx⟩ := x
    rw [KT.depth] at hu
    cases b with
    | int j => rw [KVal] at y; obtain ⟨t', rfl⟩ := y; rw [show (KT.tup l).eqb (.int j) = false by simp [KT.eqb]]; exact SeqAt.RcNeAt.tuple_int j t' px hu'
    | str z => rw [KVal] at y; obtain ⟨t', rfl⟩ := y; rw [show (KT.tup l).eqb (.str z) = false by simp [KT.eqb]]; exact SeqAt.RcNeAt.tuple_str z t' px hu'
    | tup m =>
      rw [KVal] at y
      obtain ⟨q, its', rfl, py, ky⟩ := y
      have lx := kx.length
      have ly := ky.length
      have rc := SeqAt.RcNeAt.tuples (A := A) (s := s) (e := fun j => (l.getD j (.int 0)).eqb (m.getD j (.int 0))) px py hu' (fun j h1 h2 => by
        have h1' : j < its.length := by simpa using h1
        have h2' : j < its'.length := by simpa using h2
        obtain ⟨t1, e1, k1⟩ := kx.get (j := j) (u := its[j]) (by simp [h1'])
        obtain ⟨t2, e2, k2⟩ := ky.get (j := j) (u := its'[j]) (by simp [h2'])
        have d1 := depth_in (List.mem_of_getElem? e1)
        have g1 : l.getD j (.int 0) = t1 := by rw [List.getD_eq_getElem?_getD, e1]; rfl
        have g2 : m.getD j (.int 0) = t2 := by rw [List.getD_eq_getElem?_getD, e2]; rfl
        have := eqAt_key t1.depth t1 t2 A.in1 its[j] its'[j] (Nat.le_refl _) k1 k2 (by show A.units + 1 + t1.depth < cLine; omega)
        show SeqAt.EqAt A.in1 s _ _ ((l.getD j (.int 0)).eqb (m.getD j (.int 0)))
        rw [g1, g2]
        simpa using this)
      have er : ((List.range (min its.toArray.size its'.toArray.size)).all (fun j => (l.getD j (.int 0)).eqb (m.getD j (.int 0))) && its.toArray.size == its'.toArray.size) = (KT.tup l).eqb (.tup m) := by
        rw [List.size_toArray, List.size_toArray, ← lx, ← ly, KT.eqb]
        exact eqbL_range l m
      rw [er] at rc
      exact rc

/-! ### < -/
def LtAt (A : Around) (s : Shared) (v u : Value) (b : Bool) : Prop :=
  ∀ (prog : Program) (w : World) (E : Value → Shared → Prop) (Q : Value → Shared → Prop), Q (.bool b) s → wpAny (model prog w) A (richCompare .Lt v u) Q E s
section
open PySem.SeqAt
open PySem.AutoSeq1 (wpAny_loadPart')
open PySem.MeetsSeq PySem.MeetsSeq2 PySem.MeetsSeq3
theorem tuple_lt_keys (l b : Addr) (items items2 : Array Value) (n n2 : Nat) (dd dd2 : Option Addr) (sl sl2 : Array (Option Value)) (ts us : List KT) :
    Meets (Builtin.«tuple.__lt__» ⟨[.ref l, .ref b], []⟩)
      (fun A R s => s.heap.get? l = some { cls := .type "tuple", dict := dd, data := .seq items n, slots := sl } ∧ s.heap.get? b = some { cls := .type "tuple", dict := dd2, data := .seq items2 n2, slots := sl2 } ∧
        KVals s.heap ts items.toList ∧ KVals s.heap us items2.toList ∧ cmpL ts us = true ∧
        (∀ x y v u, x ∈ ts → KVal s.heap x v → KVal s.heap y u → EqAt A.in1 s v u (x.eqb y)) ∧ (∀ x y v u, x ∈ ts → KVal s.heap x v → KVal s.heap y u → x.cmp y = true → LtAt A.in1 s v u (x.plt y)) ∧
        R (.ok (.ret (.bool (pltL ts us)))) s) :=
  .of_wp fun prog w A R s h => by
    obtain ⟨hp, g, d, tk, os⟩ := s; obtain ⟨hl, hb, hi, hj, hc, hE, hL, h⟩ := h
    have f2 := AutoSeq1.sub_tuple_tuple
    have z1 : items.size = ts.length := by rw [hi.length]; simp
    have z2 : items2.size = us.length := by rw [hj.length]; simp
    wp_walk using wpAny_loadPart' hl, wpAny_loadPart' hb, wpAny_forIn_list _ (fun rest b s' => b.1 = none ∧ s' = ⟨hp, g, d, tk, os⟩ ∧ ∃ (vs ws : List Value) (ts' us' : List KT), rest = vs.zip ws ∧
      KVals hp ts' vs ∧ KVals hp us' ws ∧ (∀ x ∈ ts', x ∈ ts) ∧ cmpL ts' us' = true ∧ ts'.length + items2.size = us'.length + items.size ∧ R (.ok (.ret (.bool (pltL ts' us')))) ⟨hp, g, d, tk, os⟩) _
    case turn =>
      rintro ⟨y, x⟩ rest b s' ⟨hb', rfl, vs, ws, ts', us', hz, hvi, hwi, hin, hcm, hlen, hR⟩
      cases ts' with
      | nil => rw [KVals] at hvi; subst hvi; rw [List.zip_nil_left] at hz; cases hz
      | cons a ts' =>
        cases us' with
        | nil => rw [KVals] at hwi; subst hwi; rw [List.zip_nil_right] at hz; cases hz
        | cons c us' =>
          rw [KVals] at hvi hwi
          obtain ⟨v, vr, rfl, ka, hvi'⟩ := hvi
          obtain ⟨u, ur, rfl, kc, hwi'⟩ := hwi
          rw [List.zip_cons_cons] at hz
          injection hz with hyx hrest
          injection hyx with hy hx
          subst hy hx
          rw [pltL] at hR
          rw [cmpL] at hcm
          simp only [List.length_cons] at hlen
          have he := hE a c y x (hin a List.mem_cons_self) ka kc
          refine wpAny_bind (he prog w _ _ ?_)
          cases hq : a.eqb c with
          | true =>
            rw [hq, if_pos rfl] at hR hcm
            wp_walk
            exact ⟨rfl, rfl, _, _, _, _, hrest, hvi', hwi', fun z hz => hin z (List.mem_cons_of_mem _ hz), hcm, by omega, hR⟩
          | false =>
            rw [hq, if_neg Bool.false_ne_true] at hR hcm
            have hri := hL a c y x (hin a List.mem_cons_self) ka kc hcm prog w
            wp_walk using hri
            exact ⟨_, rfl, by simpa using hR⟩
    case fin =>
      rintro ⟨b1, b2⟩ s' ⟨hb', rfl, vs, ws, ts', us', hz, hvi, hwi, hin, hcm, hlen, hR⟩
      simp only at hb'
      subst hb'
      have hv : pltL ts' us' = decide (items.size < items2.size) := by
        cases ts' with
        | nil =>
          cases us' with
          | nil =>
            simp only [List.length_nil] at hlen
            rw [pltL]
            exact (decide_eq_false (by omega)).symm
          | cons c us' =>
            simp only [List.length_nil, List.length_cons] at hlen
            rw [pltL]
            exact (decide_eq_true (by omega)).symm
        | cons a ts' =>
          cases us' with
          | nil =>
            simp only [List.length_nil, List.length_cons] at hlen
            rw [pltL]
            exact (decide_eq_false (by omega)).symm
          | cons c us' =>
            rw [KVals] at hvi hwi
            obtain ⟨v, vr, rfl, _, _⟩ := hvi
            obtain ⟨u, ur, rfl, _, _⟩ := hwi
            rw [List.zip_cons_cons] at hz
            cases hz
      rw [hv] at hR
      wp_walk
      exact ⟨_, rfl, by simpa [Builtin.Tuple.tupleCompareSizes] using hR⟩
    case h =>
      exact ⟨rfl, rfl, items.toList, items2.toList, ts, us, rfl, hi, hj, fun _ hx => hx, hc, by omega, h⟩
end
theorem ltAt_key {s : Shared} : ∀ (n : Nat) (a b : KT) (A : Around) (v u : Value), a.depth ≤ n → KVal s.heap a v → KVal s.heap b u → a.cmp b = true → A.units + a.depth < cLine → LtAt A s v u (a.plt b)
  | n, .int i, b, A, v, u, _, x, y, hc, hu => by
    rw [KVal] at x
    obtain ⟨t, rfl⟩ := x
    cases b with
    | int j => rw [KVal] at y; obtain ⟨t', rfl⟩ := y; rw [KT.plt]; exact fun prog w E Q h => HT.rcLt_int A s i t j t' prog w E Q h
    | str z => simp [KT.cmp] at hc
    | tup m => simp [KT.cmp] at hc
  | n, .str w, b, A, v, u, _, x, y, hc, hu => by
    rw [KVal] at x
    obtain ⟨t, rfl⟩ := x
    cases b with
    | int j => simp [KT.cmp] at hc
    | str z => rw [KVal] at y; obtain ⟨t', rfl⟩ := y; rw [KT.plt]; exact fun prog w' E Q h => (lt_str h : wpAny (model prog w') A (compareOp .Lt (.str w t) (.str z t')) Q E s)
    | tup m => simp [KT.cmp] at hc
  | 0, .tup l, b, A, v, u, hn, x, y, hc, hu => by
    rw [KT.depth] at hn
    omega
  | n + 1, .tup l, b, A, v, u, hn, x, y, hc, hu => by
    rw [KVal] at x
    obtain ⟨p, its, rfl, px, kx⟩ := x
    rw [KT.depth] at hn hu
    have hu' : A.units < cLine := by omega
    cases b with
    | int j => simp [KT.cmp] at hc
    | str z => simp [KT.cmp] at hc
    | tup m =>
      rw [KVal] at y
      obtain ⟨q, its', rfl, py, ky⟩ := y
      rw [KT.cmp] at hc
      rw [KT.plt]
      intro prog w E Q h
      obtain ⟨⟨cls, dd, data, sl⟩, ho, hcl, nn1, hd⟩ := id px
      obtain ⟨⟨cls2, dd2, data2, sl2⟩, ho2, hcl2, nn2, hd2⟩ := id py
      simp only at hcl hd hcl2 hd2
      subst hcl hd hcl2 hd2
      refine richCompare_meets_room (op := .Lt) ⟨_, ho, rfl⟩ ⟨_, ho2, rfl⟩ PySem.F.slot_tuple_lt PySem.F.entry_tuple_lt (PySem.F.args_tuple_lt_2 _ _) (tuple_lt_keys p q its.toArray its'.toArray nn1 nn2 dd dd2 sl sl2 l m)
        ⟨ho, ho2, kx, ky, hc, fun x y v u hx k1 k2 => ?_, fun x y v u hx k1 k2 k3 => ?_, show Value.bool (pltL l m) ≠ Value.notImplemented ∧ Q (.bool (pltL l m)) s from ⟨(fun x => nomatch x), h⟩⟩ hu'
      · have d1 := depth_in hx
        exact eqAt_key x.depth x y A.in1 v u (Nat.le_refl _) k1 k2 (by show A.units + 1 + x.depth < cLine; omega)
      · have d1 := depth_in hx
        exact ltAt_key n x y A.in1 v u (by omega) k1 k2 k3 (by show A.units + 1 + x.depth < cLine; omega)

section
variable {X : Cx}
theorem Room.key {k : Nat} {A : Around} (r : Room k A) {n : Nat} (h : n ≤ 200) : A.units + n < cLine := by have := r.un; omega
def rNeK : R2 := fun x y H Q => ∃ a b, KeyAt H a x ∧ KeyAt H b y ∧ a.depth ≤ 200 ∧ Q (.bl (!a.eqb b)) H
def rLtK : R2 := fun x y H Q => ∃ a b, KeyAt H a x ∧ KeyAt H b y ∧ a.cmp b = true ∧ a.depth ≤ 200 ∧ Q (.bl (a.plt b)) H
theorem op_neK {k : Nat} (hr : Room k X.A) : OpR X (compareOp .NotEq) rNeK := by
  intro pins s σ H x y v u Q I rx ry h
  obtain ⟨a, b, ha, hb, hd, q⟩ := h
  exact neAt_key a b X.A v u (kval_of I a x v ha rx) (kval_of I b y u hb ry) (Room.key hr hd) X.prog X.w X.xe _ ⟨.bl _, H, I, rfl, q⟩
theorem op_ltK {k : Nat} (hr : Room k X.A) : OpR X (compareOp .Lt) rLtK := by
  intro pins s σ H x y v u Q I rx ry h
  obtain ⟨a, b, ha, hb, hc, hd, q⟩ := h
  exact ltAt_key a.depth a b X.A v u (Nat.le_refl _) (kval_of I a x v ha rx) (kval_of I b y u hb ry) hc (Room.key hr hd) X.prog X.w X.xe _ ⟨.bl _, H, I, rfl, q⟩
end
end Tw
set_option Elab.async false
set_option linter.all false
set_option maxRecDepth 100000
set_option maxHeartbeats 4000000
namespace L2
open PySem PySem.Spec PyProof.Rows

/-! ### an exception that flies: what stands but the frames stays -/
theorem ObjOk.there {P : Program} {w : World} {H : Hp} {h : Heap} {a : Addr} : ∀ {o : HO}, ObjOk P w H h a o → ∃ ob, h.get? a = some ob := by
  intro o x
  induction o with
  | lst xs => obtain ⟨z, its, n, r, e⟩ := x; exact ⟨_, e⟩
  | tup xs => obtain ⟨z, its, r, ob, e, c⟩ := x; exact ⟨_, e⟩
  | dK kvs => obtain ⟨z, y, vs, r, ob, es, ep, e, c⟩ := x; exact ⟨_, e⟩
  | dT kvs => obtain ⟨z, y, xs, r, ob, es, ep, e, c⟩ := x; exact ⟨_, e⟩
  | set S n => obtain ⟨ob, es, ep, t, e, c⟩ := x; exact ⟨_, e⟩
  | ins C dx fs => obtain ⟨d, z, ne, e, _⟩ := x; exact ⟨_, e⟩
  | own y => exact x
  | xd fs => obtain ⟨mA, ⟨od, es, ep, e, c⟩, r⟩ := x; exact ⟨_, e⟩
  | rng lo hi => obtain ⟨t, u, v, e⟩ := x; exact ⟨_, e⟩
  | frz ob u ih => exact ⟨_, x.1⟩
  | tbl ps => exact ⟨_, x⟩
  | met f y => exact ⟨_, x⟩
  | ext φ => exact x.2.1
theorem HOk.there {P : Program} {w : World} {H : Hp} {h : Heap} {a : Addr} (x : HOk P w H h) (n : H a ≠ none) : ∃ ob, h.get? a = some ob := by
  cases e : H a with
  | none => exact absurd e n
  | some o => exact ObjOk.there (x a o e)
theorem HOk.keptT {P : Program} {w : World} {H : Hp} {h h' : Heap} (x : HOk P w H h) (k : ∀ b u, h.get? b = some u → H b ≠ none → h'.get? b = some u) : HOk P w H h' := fun a o e =>
  (x a o e).stay (fun b u hb q => k b u q (by
    rcases hb with rfl | hb
    · rw [e]; exact fun z => nomatch z
    · rw [hb]; exact fun z => nomatch z)) (fun _ q => q) fun _ _ q => q
theorem un_less {L : Addr} {fs ex : List Addr} {H H' : Hp} {h h' : Heap} (u : Un (L :: fs) ex H H' h h') (hL : h.get? L = none) : Un fs ex H H' h h' where
  keep := fun b o q n hb hx => u.keep b o q n (fun z => by
    rcases List.mem_cons.mp z with z | z
    · rw [z, hL] at q; cases q
    · exact hb z) hx
  slot := fun b o q n hb hx => u.slot b o q n (List.mem_cons_of_mem _ hb) hx
  free := u.free
  there := u.there
  tups := u.tups
  frzs := u.frzs
  tbls := u.tbls
structure Flown (P : Program) (w : World) (outer : List Env) (H : Hp) (s : Shared) (ea : Addr) (cls : Value) (H' : Hp) (s' : Shared) : Prop where
  ex : ∃ (a0 : Value) (B : Heap), Heap.FlyingW B outer ea cls a0 s'.heap ∧ (∀ b o, s'.heap.get? b = some o → H' b ≠ none → B.get? b = some o) ∧ (∀ b o, s.heap.get? b = some o → H b = none → b ∉ frs outer → B.get? b = some o) ∧ (∀ b o, s.heap.get? b = some o → b ∉ frs outer → ∃ o', B.get? b = some o')
  os : s'.os = s.os
  bare : AllBare s'.gens
  un : Un (frs outer) [] H H' s.heap s'.heap
  hok : HOk P w H' s'.heap
  new : s.heap.get? ea = none
  free : H' ea = none
/-- how an exception lies behind a call: E of its class and the abstract heap -/
def CXw (P : Program) (w : World) : CXT := fun outer H s E e s' => ∃ ea cls H', e = .ref ea ∧ Flown P w outer H s ea cls H' s' ∧ E cls none H'
/-- a def's own frame, whose exceptions lie so -/
structure FnX (X : Cx) (E : XK) : Prop where
  stack : X.stack = X.env :: X.outer
  frame : X.env.frame = some X.env.locals
  ex : X.ex = []
  calm : X.calm = true
  xe : ∀ e s', wpAny (model X.prog X.w) X.A (leaving X.env e) (fun _ s'' => CXw X.prog X.w X.outer X.H₀ X.s₀ E e s'') (fun e' s'' => CXw X.prog X.w X.outer X.H₀ X.s₀ E e' s'') s' → X.xe e s'

section
variable {X : Cx} {pins : List (Addr × Obj)} {σ : St} {H H' : Hp} {s s' : Shared} {E : XK}
theorem frs_stack (F : FnX X E) : frs X.stack = X.env.locals :: X.fs := by
  rw [F.stack]
  show List.filterMap _ (X.env :: X.outer) = _
  rw [List.filterMap_cons, F.frame]
  rfl
theorem Inv.noloc (I : Inv X pins σ H s) : X.s₀.heap.get? X.env.locals = none := Heap.get?_none_of_le I.ok.above
/-- from the entry to behind the flight, through this frame -/
theorem un_through (F : FnX X E) (I : Inv X pins σ H s) {h2 : Heap} (u : Un (frs X.stack) [] H H' s.heap h2) : Un (frs X.outer) [] X.H₀ H' X.s₀.heap h2 := by
  have b := I.base
  rw [F.ex] at b
  have u1 : Un (frs X.stack) [] X.H₀ H X.s₀.heap s.heap := b.mono (fun b hb => by rw [frs_stack F]; exact List.mem_cons_of_mem _ hb) fun _ h => h
  have u2 := u1.trans u
  rw [frs_stack F] at u2
  exact un_less u2 I.noloc
theorem notin_stack (F : FnX X E) (I : Inv X pins σ H s) {b : Addr} {o : Obj} (q : X.s₀.heap.get? b = some o) (n : b ∉ frs X.outer) : b ∉ frs X.stack := fun z => by
  rw [frs_stack F] at z
  rcases List.mem_cons.mp z with z | z
  · rw [z, I.noloc] at q; cases q
  · exact n z
/-- the heaps of a flight, by the one that stays -/
theorem un_fly {fs : List Addr} {h h' B : Heap} (hok : HOk X.prog X.w H h) (st : B.StaysIn h') (inT : ∀ b o, h.get? b = some o → H b ≠ none → B.get? b = some o) (inB : ∀ b o, h.get? b = some o → H b = none → b ∉ fs → B.get? b = some o)
    (sm : h.UpToSlots h') (nf : ∀ b ∈ fs, ∀ o, h.get? b = some o → ∀ vs, o.data ≠ .fields vs) : Un fs [] H H h h' where
  keep := fun b o q n hb _ => st b o (inB b o q n hb)
  slot := fun b o q n hb _ => sm b o q (nf b hb o q)
  free := fun b o q n _ => n
  there := fun b o q _ => by
    by_cases n : H b = none
    · by_cases hb : b ∈ fs
      · obtain ⟨sl, e⟩ := sm b o q (nf b hb o q)
        exact ⟨_, e⟩
      · exact ⟨o, st b o (inB b o q n hb)⟩
    · exact ⟨o, st b o (inT b o q n)⟩
  tups := fun _ _ q => q
  frzs := fun _ _ _ q => q
  tbls := fun _ ps q => ⟨#[], by rw [q]; simp⟩
theorem frames_nf (I : Inv X pins σ H s) : ∀ b ∈ frs X.stack, ∀ o, s.heap.get? b = some o → ∀ vs, o.data ≠ .fields vs := fun b hb o q vs z => by
  obtain ⟨_, o', e, d⟩ := I.stack.mem hb
  rw [q] at e
  cases e
  exact d vs z

/-! ### raise C(), C without an __init__ of its own -/
theorem ps_raise0 {x : Str} {C : Addr} {np cpos pos : Pos} (F : FnX X E) (O : OwnCls x C [.type "ValueError", .type "Exception", .type "BaseException", .type "object"] "ValueError.__new__" X.mg X.base) (hg : Gl X x)
    (hd : (x == ("__debug__" : Str)) = false := by decide) :
    PS X (.Raise (some (.Call (.Name x np) [] [] cpos)) none pos) (fun _ _ H => E (.ref C) none H) := by
  intro pins s σ H D I h
  have hh := I.ok.hd F.calm
  have FB := PySem.F.excBase_ValueError
  obtain ⟨tl, N, nm, q, bs, hdct, sn, sub, ab, col, dd, k0, k1, k2, k3, k5, mN, hC, hN, hni, T⟩ := O.obj
  refine wpAny_Raise_call_subT (C := C) (nm := nm) (q := q) (N := N) (bs := bs) (bm := tl) (hdct := hdct) (sn := sn) (sub := sub) (ab := ab) (col := col) (dd := dd) (k0 := k0) (k1 := k1) (k2 := k2) (k3 := k3) (k5 := k5)
    FB (mN := mN) (T.hasType FB.hasBase) hh rfl hni (ld_glob I hg O.bound ⟨rfl, ?_⟩ hd)
  refine evalArgs_empty ⟨rfl, Nat.zero_le _, I.bk _ _ hC, hN.keeps I.bk, T.keeps I.bk, fun h' e hm => F.xe _ _ ?_⟩
  have hfr : X.A.frames = some (X.env :: X.outer) := by rw [I.ok.frames, F.stack]
  have fs : s.heap.FunFrames (PySem.W.hideAll s.heap (frs X.stack)) (X.env :: X.outer) := by
    have := PySem.W.funFrames_hide (as := frs X.stack) I.stack (fun env he a ha => List.mem_filterMap.mpr ⟨env, he, ha⟩)
    rw [F.stack] at this ⊢
    exact this
  refine wpAny_leaves_madeW (base := PySem.W.hideAll s.heap (frs X.stack)) (h := s.heap) hfr F.frame (fun b o q => PySem.W.of_hideAll _ q) fs hm fun h2 t fl tup nt sm => ?_
  have inT : ∀ b o, s.heap.get? b = some o → H b ≠ none → (PySem.W.hideAll s.heap (frs X.stack)).get? b = some o := fun b o q n => PySem.W.hideAll_get _ q fun z => n (I.stkFree b z)
  have inB : ∀ b o, s.heap.get? b = some o → H b = none → b ∉ frs X.stack → (PySem.W.hideAll s.heap (frs X.stack)).get? b = some o := fun b o q _ n => PySem.W.hideAll_get _ q n
  have sm2 : s.heap.UpToSlots h2 := fun b o q d => sm b o (hm.keeps b o q) d
  have u := un_fly I.hok fl.1 inT inB sm2 (frames_nf I)
  have e0 : s.heap.get? e = none := hm.new
  refine ⟨e, .ref C, H, rfl, ⟨⟨_, _, fl, fun b o q n => ?_, fun b o q n hb => ?_, fun b o q hb => ?_⟩, I.os, I.bare, un_through F I u, I.hok.keptT fun b o q n => fl.1 b o (inT b o q n), ?_, ?_⟩, h⟩
  · obtain ⟨o', q'⟩ := I.hok.there n
    have q2 := fl.1 b o' (inT b o' q' n)
    have q3 : h2.get? b = some o := q
    rw [q2] at q3
    have z := Option.some.inj q3
    rw [← z]
    exact inT b o' q' n
  · have bb := I.base
    rw [F.ex] at bb
    have q1 := bb.keep b o q n hb (by simp)
    exact inB b o q1 (bb.free b o q n (by simp)) (notin_stack F I q hb)
  · obtain ⟨o', q'⟩ := I.base.there b o q (by rw [F.ex]; simp)
    exact ⟨o', PySem.W.hideAll_get _ q' (notin_stack F I q hb)⟩
  · cases z : X.s₀.heap.get? e with
    | none => rfl
    | some o =>
      obtain ⟨o', q⟩ := I.base.there e o z (by rw [F.ex]; simp)
      rw [e0] at q
      cases q
  · cases z : H e with
    | none => rfl
    | some o =>
      obtain ⟨o', q⟩ := I.hok.there (a := e) (by rw [z]; exact fun y => nomatch y)
      rw [e0] at q
      cases q
/-- an exception of a callee leaves this frame too -/
theorem passes_fn {E1 : XK} (F : FnX X E) (hE : ∀ cls o H, E1 cls o H → E cls o H) : Passes (CXw X.prog X.w) X E1 := by
  intro pins σ H s e s' I h
  obtain ⟨ea, cls, H', rfl, W, q⟩ := h
  obtain ⟨a0, B, fl, inT, inB, inA⟩ := W.ex
  have hfr : X.A.frames = some (X.env :: X.outer) := by rw [I.ok.frames, F.stack]
  refine F.xe _ _ (wpAny_leaves_onW hfr F.frame (by rw [← F.stack]; exact fl) fun h2 fl2 sm => ?_)
  have st := I.stack
  have u : Un (frs X.stack) [] H H' s.heap h2 := {
    keep := fun b o q n hb _ => fl2.1 b o (inB b o q n hb)
    slot := fun b o q n hb _ => by
      obtain ⟨sl, e1⟩ := W.un.slot b o q n hb (by simp)
      obtain ⟨sl2, e2⟩ := sm b _ e1 (fun vs z => frames_nf I b hb o q vs z)
      exact ⟨sl2, e2⟩
    free := W.un.free
    there := fun b o q _ => by
      by_cases hb : b ∈ frs X.stack
      · obtain ⟨sl, e1⟩ := W.un.slot b o q (I.stkFree b hb) hb (by simp)
        obtain ⟨sl2, e2⟩ := sm b _ e1 (fun vs z => frames_nf I b hb o q vs z)
        exact ⟨_, e2⟩
      · obtain ⟨o', e1⟩ := inA b o q hb
        exact ⟨o', fl2.1 b o' e1⟩
    tups := W.un.tups
    frzs := W.un.frzs
    tbls := W.un.tbls }
  refine ⟨ea, cls, H', rfl, ⟨⟨a0, B, fl2, fun b o q2 n => ?_, fun b o q2 n hb => ?_, fun b o q2 hb => ?_⟩, W.os.trans I.os, W.bare, un_through F I u, W.hok.keptT fun b o q2 n => fl2.1 b o (inT b o q2 n), ?_, W.free⟩, hE _ _ _ q⟩
  · obtain ⟨o', q'⟩ := W.hok.there n
    have q3 := fl2.1 b o' (inT b o' q' n)
    have q4 : h2.get? b = some o := q2
    rw [q3] at q4
    have z := Option.some.inj q4
    rw [← z]
    exact inT b o' q' n
  · have bb := I.base
    rw [F.ex] at bb
    exact inB b o (bb.keep b o q2 n hb (by simp)) (bb.free b o q2 n (by simp)) (notin_stack F I q2 hb)
  · obtain ⟨o', q'⟩ := I.base.there b o q2 (by rw [F.ex]; simp)
    exact inA b o' q' (notin_stack F I q2 hb)
  · cases z : X.s₀.heap.get? ea with
    | none => rfl
    | some o =>
      obtain ⟨o', q'⟩ := I.base.there ea o z (by rw [F.ex]; simp)
      rw [W.new] at q'
      cases q'
end
end L2
set_option Elab.async false
set_option linter.all false
set_option maxRecDepth 100000
set_option maxHeartbeats 4000000
namespace L2
open PySem PySem.Spec PySem.W PyProof.Rows
/-- an object of the class at C stands there -/
def IsOf (x C : Addr) (h : Heap) : Prop := ∃ o, h.get? x = some o ∧ o.cls = .ref C
theorem IsOf.ty {x C : Addr} {h : Heap} (I : IsOf x C h) (M : Model) : Looks M h (typeOf (.ref x)) (.ref C) := by
  obtain ⟨o, e, c⟩ := I
  rw [← c]
  exact Looks.andThen (Looks.ld e) Looks.now
/-- what the written part says of an own exception class -/
structure ExcC (K : Frag) (C : Addr) : Prop where
  ga : findIn K (.ref C) "__getattribute__" = some (some (.builtin "BaseException.__getattribute__"))
  hk : findIn K (.ref C) "__getattr__" = some none
  mB : mroIn K C (.type "BaseException") = some true
  mO : mroIn K C (.type "object") = some true
  ca : findIn K (.ref C) "__class__" = some (some (.builtin "object.__class__"))
  hn : specialIn K (.builtin "object.__class__") "__get__" = some (some (.builtin "getset_descriptor.__get__"))
  tk : takesIn K (.builtin "object.__class__") = some true
section
variable {prog : Program} {w : World} {A : Around} {E : Value → Shared → Prop} {s : Shared} {K : Frag} {x C : Addr}
theorem exc_check {nv : Value} {Q : Unit → Shared → Prop} (X : K.In s.heap) (I : IsOf x C s.heap) (hm : mroIn K C (.type "BaseException") = some true) (hq : Q () s) :
    wpAny (model prog w) A (checkBuiltinCall "BaseException.__getattribute__" ⟨[.ref x, nv], []⟩) Q E s := by
  obtain ⟨hh, g, d, t, os⟩ := s
  have k1 : builtinKind "BaseException.__getattribute__" = some .slot := by decide +kernel
  have k2 : splitId "BaseException.__getattribute__" = some ("BaseException", "__getattribute__") := by decide +kernel
  have la := I.ty (model prog w)
  have lb := looks_mroIn (M := model prog w) X hm
  have lc := F.args_bexc_ga (.ref x) nv
  simp only [checkBuiltinCall, k1, k2]
  refine wpAny_bind ?_
  unfold isInstance
  repeat lk
  exact hq
theorem exc_entry {name : Str} {tk : Tok} {r : Builtin.ObjectAttr.Found} {Q : Fin → Shared → Prop} (X : K.In s.heap) (I : IsOf x C s.heap) (fd : Looks (model prog w) s.heap (Builtin.ObjectAttr.find (.ref x) (.ref C) name) r)
    (h : match r with
      | .value v => Q (.done (.ret v)) s
      | .bind g a => wpAny (model prog w) A (call g [a, .ref x, .ref C]) (fun v s' => Q (.done (.ret v)) s') E s
      | .missing => False) : wpAny (model prog w) A (Builtin.«object.__getattribute__» ⟨[.ref x, .str name tk], []⟩) Q E s := by
  obtain ⟨hh, g, d, t, os⟩ := s
  have la := I.ty (model prog w)
  unfold Builtin.«object.__getattribute__»
  refine wpAny_bind (wpAny_pure ?_)
  refine wpAny_bind (wpAny_pure ?_)
  refine wpAny_bind (la.at ?_)
  refine wpAny_bind (fd.at ?_)
  cases r with
  | value v => exact wpAny_pure h
  | bind g a =>
    show wpAny _ _ (holding [a] (call g [a, .ref x, .ref C]) >>= ret) _ _ _
    exact wpAny_bind (wpAny_holding (wpAny_mono h (fun v s' z => wpAny_pure z) fun _ _ z => z))
  | missing => exact h.elim
theorem exc_attr {name : Str} {r : Builtin.ObjectAttr.Found} {expr fill : Bool} {tk : Tok} {Q : Value → Shared → Prop} (X : K.In s.heap) (I : IsOf x C s.heap) (e : ExcC K C) (fd : Looks (model prog w) s.heap (Builtin.ObjectAttr.find (.ref x) (.ref C) name) r)
    (h : match r with
      | .value v => handedIn v = true ∧ Q v s
      | .bind g a => wpAny (model prog w) A.in1 (call g [a, .ref x, .ref C]) (fun v s' => handedIn v = true ∧ Q v s') (fun _ _ => False) s
      | .missing => False) : wpAny (model prog w) A (getAttrBy (.ref x) (.str name tk) fill expr) Q E s := by
  have FA := F.excAttr_ValueError
  have la := I.ty (model prog w)
  have lb := looks_findIn (M := model prog w) X e.ga
  have lc := looks_findIn (M := model prog w) X e.hk
  have ne : (Value.builtin "BaseException.__getattribute__" == Value.builtin "object.__getattribute__") = false := by decide +kernel
  obtain ⟨hh, g, d, t, os⟩ := s
  unfold getAttrBy
  refine wpAny_holding (wpAny_bind (la.at (wpAny_bind (lb.at ?_))))
  show wpAny _ _ (if (true && (Value.builtin "BaseException.__getattribute__" == Value.builtin "object.__getattribute__")) = true then _ else getAttrByItsOwn (.ref x) (.str name tk) (.ref C) (.builtin "BaseException.__getattribute__") fill expr) _ _ _
  rw [ne, if_neg (by decide)]
  unfold getAttrByItsOwn hookBefore
  refine wpAny_bind (lc.at ?_)
  refine wpAny_bind (wpAny_attempt (wpAny_holding ?_))
  unfold callGetattribute
  rw [if_neg (by cases expr <;> decide)]
  unfold boundAndCalled
  rw [FA.ga.bind (.ref x)]
  refine wpAny_bind (wpAny_pure ?_)
  refine wpAny_call (codeAny_call_builtin FA.ga.plain F.entry_bexc_ga (exc_check X I e.mB (exc_entry X I fd ?_)))
  cases r with
  | value v => exact handed_on h.1 h.2
  | bind g a => exact wpAny_mono h (fun v s' z => handed_on z.1 z.2) fun _ _ z => z.elim
  | missing => exact h.elim
theorem exc_cls {R : Result → Shared → Prop} {tp : Value} (X : K.In s.heap) (I : IsOf x C s.heap) (e : ExcC K C) (h : R (.ok (.ret (.ref C))) s) :
    codeAny (model prog w) A (.call (.builtin "getset_descriptor.__get__") ⟨[.builtin "object.__class__", .ref x, tp], []⟩) R s := by
  obtain ⟨hh, gs, dr, tt, oss⟩ := s
  have la := I.ty (model prog w)
  have lb := looks_mroIn (M := model prog w) X e.mO
  refine codeAny_call_builtin KF.slot_gs.plain KF.entry_gs ?_
  refine KF.slot_gs.check _ _ _ _ _ _ _ _ KF.type_class (KF.args_gs _ _ _) ?_
  unfold Builtin.«getset_descriptor.__get__»
  unfold Builtin.Getset_descriptor.descrGet
  rw [dga_obj]
  refine wpAny_bind (wpAny_pure ?_)
  unfold Builtin.Getset_descriptor.descrGetter
  unfold Builtin.Getset_descriptor.descrCheckInstance
  unfold Builtin.Getset_descriptor.descrNameAndClass
  unfold isInstance
  simp only [KF.owner_class]
  repeat lk
  refine ⟨Code.quiet_builtin _ (by decide +kernel), ?_⟩
  refine codeAny_builtin KF.entry_class ?_
  unfold Builtin.«object.__class__»
  unfold shownTypeOf
  repeat lk
  exact h
theorem exc_find (X : K.In s.heap) (e : ExcC K C) (M : Model) : Looks M s.heap (Builtin.ObjectAttr.find (.ref x) (.ref C) "__class__") (.bind (.builtin "getset_descriptor.__get__") (.builtin "object.__class__")) := by
  have la := looks_findIn (M := M) X e.ca
  have lb := looks_specialIn (M := M) X e.hn
  have lc := looks_takesIn (M := M) X e.tk
  refine Looks.andThen la (Looks.andThen lb ?_)
  exact Looks.andThen (show Looks M s.heap (Builtin.ObjectAttr.dataDescriptor? (some (.builtin "object.__class__")) (some (.builtin "getset_descriptor.__get__"))) (some (_, _)) from Looks.andThen lc Looks.now) (Looks.tag Looks.now)
end
theorem ExcC.cls {K : Frag} {C : Addr} (e : ExcC K C) : ∃ cl d cd sl, K.lookup C = some ⟨cl, d, .cls cd, sl⟩ := by
  obtain ⟨cd, h, _⟩ := Option.bind_eq_some_iff.mp e.mB
  unfold clsIn at h
  split at h
  · rename_i c' d' cd' sl' ho
    exact ⟨c', d', cd', sl', ho⟩
  · cases h
theorem kitx_exc {K : Frag} {x C : Addr} (e : ExcC K C) : KitX K (.ref x) (.ref C) (IsOf x C) where
  ty := fun M _ _ I => I.ty M
  it := fun _ _ X _ => by
    obtain ⟨cl, d, cd, sl, ho⟩ := e.cls
    intro A' Q' E' s' k q
    unfold isType loadHead
    have z := k _ _ (X _ _ ho)
    exact wpAny_bind (wpAny_loadPart z (wpAny_pure q))
  ne := fun h tp dd its n sl X htp => by
    obtain ⟨cl, d, cd, sl', ho⟩ := e.cls
    cases q : (Value.ref C == Value.ref tp) with
    | false => rfl
    | true =>
      have e2 : C = tp := Value.ref.inj (eq_of_beq q)
      rw [← e2, X _ _ ho] at htp
      cases htp
  ca := fun {prog w A E Q s} X I k => by
    unfold getAttr? getAttrBy?
    refine wpAny_bind (wpAny_mkText (wpAny_bind (wpAny_attempt ?_)))
    refine exc_attr (s := { s with toks := s.toks + 1 }) X I e (exc_find (s := { s with toks := s.toks + 1 }) X e _) ?_
    exact wpAny_call (exc_cls (s := { s with toks := s.toks + 1 }) X I e ⟨rfl, wpAny_pure k⟩)
end L2
set_option Elab.async false
set_option linter.all false
set_option maxRecDepth 100000
set_option maxHeartbeats 4000000
namespace L2
open PySem PySem.Spec PyProof.Rows

/-- an exception that was caught, at ea, of the class at C, without attributes of its own -/
def ExcO (ea C : Addr) : HO := .ext (IsOf ea C)
theorem excO_ok {P : Program} {w : World} {H : Hp} {h : Heap} {ea C : Addr} (I : IsOf ea C h) : ObjOk P w H h ea (ExcO ea C) := by
  obtain ⟨o, e, c⟩ := I
  exact ⟨⟨o, e, c⟩, ⟨o, e⟩, fun h1 h2 ⟨o1, e1, c1⟩ k => ⟨o1, k o1 e1, c1⟩⟩
/-- the context of an except suite -/
def Cx.held (X : Cx) (ea : Addr) (E : Value → Shared → Prop) : Cx := { X with A := X.A.mark (some (.ref ea)), calm := false, xe := E }
section
variable {X : Cx} {pins : List (Addr × Obj)} {σ : St} {H H' : Hp} {s s' : Shared} {ea : Addr} {E : Value → Shared → Prop}
theorem Inv.held (I : Inv X pins σ H s) (ea : Addr) (E : Value → Shared → Prop) : Inv (X.held ea E) pins σ H s :=
  ⟨⟨I.ok.mod, I.ok.kind, I.ok.glob, I.ok.blt, I.ok.above, I.ok.inj, I.ok.has, I.ok.cab, fun z => absurd z Bool.false_ne_true, I.ok.frames, I.ok.stk, I.ok.exf, I.ok.bs, I.ok.bsz, I.ok.noex, I.ok.exfs, I.ok.funs, I.ok.frf⟩,
    I.os, I.bare, I.base, I.loc, I.cell, I.free, I.freeC, I.pin, I.hok, I.len⟩
theorem Inv.unheld (ok : X.Ok) (I : Inv (X.held ea E) pins σ H s) : Inv X pins σ H s := ⟨ok, I.os, I.bare, I.base, I.loc, I.cell, I.free, I.freeC, I.pin, I.hok, I.len⟩
/-- a thing that stands already is tracked from here on -/
theorem Inv.track {a : Addr} {o : HO} (I : Inv X pins σ H s) (h0 : X.s₀.heap.get? a = none) (hl : a ≠ X.env.locals) (hc : ∀ x c, X.env.cells.lookup x = some c → c ≠ a) (hp : ∀ p ∈ X.pn ++ pins, p.1 ≠ a) (hn : H a = none)
    (new : ObjOk X.prog X.w (upd H a o) s.heap a o) : Inv X pins σ (upd H a o) s := by
  have nt : ∀ {b : Addr} {u : HO}, H b = some u → b ≠ a := fun {b u} e z => by rw [z, hn] at e; cases e
  refine ⟨I.ok, I.os, I.bare, ⟨I.base.keep, I.base.slot, fun b ob q n hx => ?_, I.base.there, fun b xs q => ?_, fun b ob u q => ?_, fun b ps q => ?_⟩, I.loc, I.cell, ?_, fun x c e => ?_, fun p hp' => ?_, fun b u e => ?_, I.len⟩
  · rw [upd_ne (fun z => by rw [z, h0] at q; cases q)]
    exact I.base.free b ob q n hx
  · have e := I.base.tups b xs q
    rw [upd_ne (nt e)]; exact e
  · have e := I.base.frzs b ob u q
    rw [upd_ne (nt e)]; exact e
  · obtain ⟨more, e⟩ := I.base.tbls b ps q
    exact ⟨more, by rw [upd_ne (nt e)]; exact e⟩
  · rw [upd_ne (Ne.symm hl)]; exact I.free
  · rw [upd_ne (hc x c e)]; exact I.freeC x c e
  · obtain ⟨e, n, r⟩ := I.pin p hp'
    exact ⟨e, by rw [upd_ne (hp p hp')]; exact n, r⟩
  · by_cases hb : b = a
    · subst hb
      rw [upd_same] at e
      cases e
      exact new
    · rw [upd_ne hb] at e
      exact (I.hok b u e).stay (fun _ _ _ q => q) (fun c q => by rw [upd_ne (nt q)]; exact q) fun c xs q => by rw [upd_ne (nt q)]; exact q
/-- it lands in this frame -/
theorem land {B h2 : Heap} {cls : Value} (I : Inv X pins σ H s) (W : Flown X.prog X.w X.stack H s ea cls H' s') (inT : ∀ b o, s'.heap.get? b = some o → H' b ≠ none → B.get? b = some o)
    (inB : ∀ b o, s.heap.get? b = some o → H b = none → b ∉ frs X.stack → B.get? b = some o) (inA : ∀ b o, s.heap.get? b = some o → b ∉ frs X.stack → ∃ o', B.get? b = some o') (st : B.StaysIn h2) (sm : s'.heap.UpToSlots h2) :
    Inv X pins σ H' { s' with heap := h2 } := by
  have u : Un (frs X.stack) [] H H' s.heap h2 := {
    keep := fun b o q n hb _ => st b o (inB b o q n hb)
    slot := fun b o q n hb _ => by
      obtain ⟨sl, e1⟩ := W.un.slot b o q n hb (by simp)
      obtain ⟨sl2, e2⟩ := sm b _ e1 (fun vs z => frames_nf I b hb o q vs z)
      exact ⟨sl2, e2⟩
    free := W.un.free
    there := fun b o q _ => by
      by_cases hb : b ∈ frs X.stack
      · obtain ⟨sl, e1⟩ := W.un.slot b o q (I.stkFree b hb) hb (by simp)
        obtain ⟨sl2, e2⟩ := sm b _ e1 (fun vs z => frames_nf I b hb o q vs z)
        exact ⟨_, e2⟩
      · obtain ⟨o', e1⟩ := inA b o q hb
        exact ⟨o', st b o' e1⟩
    tups := W.un.tups
    frzs := W.un.frzs
    tbls := W.un.tbls }
  exact I.call' (s' := { s' with heap := h2 }) W.os u (W.hok.keptT fun b o q n => st b o (inT b o q n)) W.bare (fun b hb => absurd hb (by simp))
/-- a name of the frame goes: its slot is forgotten -/
theorem Inv.goes {i : Nat} {n : Str} {M : Model} {A : Around} {Q : Unit → Shared → Prop} {pos : Pos} (I : Inv X pins σ H s) (hN : X.N.Nodup) (hi : X.N[i]? = some n) (hx : X.env.scope.names.lookup n = some .local)
    (h : ∀ s', Inv X pins (σ.set i none) H s' → Q () s') : wpAny M A (do bindName X.env n .none; unbindBehindTheSuite X.env n pos) Q E s := by
  obtain ⟨m, hn, hl⟩ := id I.loc
  have hcls : (X.env.scope.kind == .class || (X.env.scope.kind == .module && X.env.locals != X.env.globals)) = false := by rw [I.ok.kind]; rfl
  have hiσ : i < σ.length := by rw [I.len]; exact (List.getElem?_eq_some_iff.mp hi).1
  refine wpAny_nameGoes_keeps hx hn hcls fun h' v hn' hs => h _ ?_
  obtain ⟨oL, _, _, hoL, _⟩ := id hn
  have neL : ∀ b o, X.s₀.heap.get? b = some o → b ≠ X.env.locals := fun b o e => Nat.ne_of_lt (Nat.lt_of_lt_of_le (Heap.lt_size e) I.ok.above)
  refine ⟨I.ok, I.os, I.bare, ⟨fun b o e n hb hx => ?_, fun b o e n hb hx => ?_, I.base.free, fun b o e hx => ?_, I.base.tups, I.base.frzs, I.base.tbls⟩, ⟨_, hn', fun j y v' e1 e2 e3 => ?_⟩, fun y c e => ?_, I.free, I.freeC, fun p hp => ?_, fun b ob e => ?_, by simpa using I.len⟩
  · exact (hs.2 b (neL b o e)).trans (I.base.keep b o e n hb hx)
  · obtain ⟨sl, e1⟩ := I.base.slot b o e n hb hx
    exact ⟨sl, (hs.2 b (neL b o e)).trans e1⟩
  · obtain ⟨o', e1⟩ := I.base.there b o e hx
    exact ⟨o', (hs.2 b (neL b o e)).trans e1⟩
  · by_cases hj : j = i
    · subst hj
      rw [List.getElem?_set_self hiσ] at e2
      cases e2
    · rw [List.getElem?_set_ne (Ne.symm hj)] at e2
      obtain ⟨u', r', q⟩ := hl j y v' e1 e2 e3
      refine ⟨u', r', ?_⟩
      rcases q with ⟨k, e⟩ | ⟨k, c, e, z⟩
      · refine .inl ⟨k, ?_⟩
        have : y ≠ n := fun e => hj (nodup_ix hN e1 (e ▸ hi))
        simp [this, e]
      · exact .inr ⟨k, c, e, z.sameBut hs (I.cne y c e)⟩
  · obtain ⟨w', z⟩ := I.cell y c e
    exact ⟨w', z.sameBut hs (I.cne y c e)⟩
  · obtain ⟨e, n, ne, nf, d⟩ := I.pin p hp
    exact ⟨(hs.2 p.1 ne).trans e, n, ne, nf, d⟩
  · refine (I.hok b ob e).stay (fun c w' hc q => (hs.2 c ?_).trans q) (fun _ q => q) fun _ _ q => q
    rintro rfl
    rcases hc with rfl | hc
    · rw [I.free] at e; cases e
    · rw [I.free] at hc; cases hc
end
section
variable {prog : Program} {w : World} {A : Around} {E : Value → Shared → Prop} {s : Shared} {K : PySem.W.Frag} {x C CB : Addr}
theorem exc_matches {b : Bool} {Q : Bool → Shared → Prop} (X : K.In s.heap) (I : IsOf x C s.heap) (ht : PySem.W.typeIn K (.ref CB) = some (.type "type")) (hB : PySem.W.mroIn K CB (.type "BaseException") = some true)
    (hC : PySem.W.mroIn K C (.ref CB) = some b) (h : Q b s) : wpAny (model prog w) A (excMatches (.ref x) (.ref CB)) Q E s := by
  obtain ⟨hh, g, d, t, os⟩ := s
  have L0 := I.ty (model prog w)
  have L1 := PySem.W.looks_mroIn (M := model prog w) X hB
  have L2 := PySem.W.looks_mroIn (M := model prog w) X hC
  have L3 := PySem.W.looks_typeIn (M := model prog w) X ht
  have f := tc_notTuple
  have L4 : PySem.W.Looks (model prog w) hh (isType (.ref CB)) true := by
    obtain ⟨cdD, hcD, _⟩ := Option.bind_eq_some_iff.mp hB
    unfold PySem.W.clsIn at hcD
    split at hcD
    · rename_i c' d' cd' sl' ho
      intro A' Q' E' s' k q
      unfold isType loadHead
      exact wpAny_bind (wpAny_loadPart (k _ _ (X _ _ ho)) (wpAny_pure q))
    · cases hcD
  unfold excMatches isInstance isExcClass
  refine wpAny_bind (wpAny_bind (L3.at ?_))
  rw [f]
  refine wpAny_pure ?_
  rw [if_neg Bool.false_ne_true]
  refine wpAny_bind (wpAny_pure ?_)
  simp only [List.forIn_cons, List.forIn_nil]
  cases b with
  | true =>
    repeat (first | lk | wp_step)
    all_goals first | exact h | trace_state
  | false =>
    repeat (first | lk | wp_step)
    all_goals first | exact h | trace_state
end

/-! ### try: f(..) / except Y as n: suite -/
/-- what the handler wants of the exception: its class C, under CB; then the suite, the exception in slot i -/
def eTry (K : PySem.W.Frag) (CB : Addr) (i : Nat) (ts : TS) (D : Ends) (σ : St) : XK := fun cls _ H2 => ∃ C, cls = .ref C ∧ PySem.W.mroIn K C (.ref CB) = some true ∧ ∀ ea, H2 ea = none →
  ts { nx := fun σ' H' => D.nx (σ'.set i none) H', rt := D.rt, bk := fun σ' H' => D.bk (σ'.set i none) H', ct := fun σ' H' => D.ct (σ'.set i none) H' } (σ.set i (some (.ref ea))) (upd H2 ea (ExcO ea C))
end L2
set_option Elab.async false
set_option linter.all false
set_option maxRecDepth 100000
set_option maxHeartbeats 4000000
namespace L2
open PySem PySem.Spec PyProof.Rows
section
variable {X : Cx}
/-! ### more rules -/
theorem Inv.big {pins : List (Addr × Obj)} {σ : St} {H : Hp} {s : Shared} (I : Inv X pins σ H s) : sysModules < s.heap.objs.size := by
  have h : mainGlobals < s.heap.objs.size := (I.mod.glob.keeps I.bk).lt
  exact Nat.lt_trans (by decide) h
theorem dk_empty {P : Program} {w : World} {H : Hp} (h : Heap) (hb : sysModules < h.objs.size) : ObjOk P w H (h.push { cls := .type "dict", data := .dict #[] }) h.objs.size (.dK []) :=
  ⟨Nat.zero_le _, beq_eq_false_iff_ne.mpr (Ne.symm (Nat.ne_of_lt hb)), [], .nil, Heap.DictOf.new h⟩
def tDNewK : TE := fun _ H Q => ∀ p, H p = none → Q (.ref p) (upd H p (.dK []))
theorem pe_dnewK {pos : Pos} : PE X (.Dict [] [] pos) tDNewK := fun pins s σ H Q I h =>
  wpAny_Dict_empty ⟨.ref s.heap.objs.size, _, I.laid (a := s.heap.objs.size) (o := .dK []) (t' := s.toks) (fun _ _ q => Heap.get?_push_of_some _ q) (Nat.le_refl _) (dk_empty s.heap I.big), rfl, h _ (I.hok.fresh (Nat.le_refl _))⟩
/-- c * n, c one sign -/
def repS (x : Str) (n : Int) : Str := ⟨(List.replicate n.toNat x.cps).foldl (· ++ ·) #[]⟩
theorem rep_size (a : Array Nat) : ∀ (k : Nat) (b : Array Nat), ((List.replicate k a).foldl (· ++ ·) b).size = b.size + k * a.size
  | 0, b => by simp
  | k + 1, b => by
    rw [List.replicate_succ, List.foldl_cons, rep_size a k, Array.size_append, Nat.succ_mul]
    omega
theorem op_mul_str : OpR X (binaryOp .Mult) (fun x y H Q => ∃ i n, x = .str i ∧ y = .int n ∧ i.length = 1 ∧ 2 ≤ n ∧ n ≤ 1000 ∧ Q (.str (repS i n)) H) := by
  intro pins s σ H x y v u Q I rx ry h
  obtain ⟨i, n, rfl, rfl, hi, h2, h3, q⟩ := h
  obtain ⟨t, rfl⟩ := rx
  obtain ⟨t', rfl⟩ := ry
  have n1 : ¬ n < 1 := by omega
  have n2 : ¬ ((n == 1 || i.length == 0) = true) := by rw [hi]; simp; omega
  have sz : (repS i n).length ≤ sizeLine := by
    show ((List.replicate n.toNat i.cps).foldl (· ++ ·) #[]).size ≤ sizeLine
    have e : i.cps.size = 1 := hi
    rw [rep_size, e]
    exact Nat.le_of_lt (small1000 (by simp; omega))
  refine PySem.P.mul_str ?_ (fun _ _ => ?_) (fun _ _ => ?_) ?_
  · rw [decide_eq_false (by omega), decide_eq_false (by omega)]; rfl
  · rw [hi]
    have : (1 : Int) ≤ (2 ^ 63 - 1) / n := (Int.le_ediv_iff_mul_le (by omega)).mpr (by omega)
    omega
  · rw [hi]
    unfold Builtin.Str.tooLong sizeLine
    exact decide_eq_false (by omega)
  · rw [if_neg n1, if_neg n2]
    exact ⟨sz, ⟨.str (repS i n), H, I.tok _, ⟨_, rfl⟩, q⟩⟩
/-- t[lo:hi], the whole -/
def rSlTW (K : PySem.W.Frag) : V → Option Int → Option Int → Hp → VK → Prop := fun x lo hi H Q => ∃ a xs, x = .ref a ∧ SqT K H a xs ∧ HT.sIx xs.length 0 lo = 0 ∧ HT.sIx xs.length xs.length hi = xs.length ∧ Q (.ref a) H
theorem sl_tupW : SlR X (rSlTW X.K) := by
  intro pins s σ H x v vl vu lo hi sl Q I rx hs pl pu h
  obtain ⟨a, xs, rfl, hx, s0, s1, q⟩ := h
  cases rx
  obtain ⟨its, r, ht, hz⟩ := I.tuple hx
  have hlen : its.toArray.size = xs.length := by rw [List.size_toArray]; exact r.length.symm
  refine ⟨"tuple", _, PyProof.Rows.slot_tuple_getitem.lookup, ht.typeIs, ?_⟩
  obtain ⟨os, hos, hcs, hds⟩ := id hs
  have hTs : s.TypeIs (.ref sl) "slice" := ⟨os, hos, hcs⟩
  unfold getItem
  try with_reducible refine wpAny_holding ?_
  first | refine wpAny_bind (wpAny_pure ?_) | skip
  refine wpAny_bind (wpAny_sequenceKey ht.typeIs (by decide) ?_)
  refine wpAny_bind (wpAny_callSpecial?_slot (name := Str.ofString "__getitem__") ht.typeIs PyProof.Rows.slot_tuple_getitem
    (wpAny_call_entry PyProof.Rows.slot_tuple_getitem ht.typeIs entry_tuple_getitem ?_ (args_tuple_getitem _ _)))
  show wpAny _ _ (Builtin.Tuple.tupleItemsOf (.ref a) >>= _) _ _ s
  refine wpAny_bind (tupleItemsOf_ ht ?_)
  refine wpAny_bind (wpAny_typeOf hTs ?_)
  rw [if_pos (by decide)]
  refine wpAny_bind (HT.sliceApplied_gen hs pl pu ?_)
  have fin : EP X pins σ Q (.ref a) s := ⟨.ref a, H, I, rfl, q⟩
  simp only [hlen, s0, s1]
  rw [if_pos (by simp)]
  unfold Builtin.Tuple.tupleIsExact
  refine wpAny_bind (wpAny_bind (wpAny_typeOf ht.typeIs (wpAny_pure ?_)))
  rw [if_pos (by decide)]
  exact wpAny_bind (wpAny_rule (wpAny_pure ⟨_, rfl, wpAny_pure fin⟩))

/-! ### isinstance of an exception that was caught -/
def cV : V → Value
  | .ty n => .type n
  | .ref a => .ref a
  | _ => .none
def isC : V → Bool
  | .ty _ => true
  | .ref _ => true
  | _ => false
theorem rel_cV {c : V} {u : Value} (r : RelV c u) (h : isC c = true) : u = cV c := by
  cases c with
  | ty n => exact r
  | ref a => exact r
  | _ => cases h
def rIsiX (K : PySem.W.Frag) : List V → Hp → VK → Prop := fun xs H Q => ∃ ea C c b, xs = [.ref ea, c] ∧ H ea = some (ExcO ea C) ∧ ExcC K C ∧ isC c = true ∧ PySem.W.kitOne K (.ref C) (cV c) = some b ∧ Q (.bl b) H
theorem isi_x : CallR X (.builtin "isinstance") (rIsiX X.K) := by
  intro pins s σ H xs us Q I r h
  obtain ⟨ea, C, c, b, rfl, e, EC, hc, hk, q⟩ := h
  obtain ⟨u, w', rfl, ru, rw'⟩ := vals2 r
  cases (show u = Value.ref ea from ru)
  rw [rel_cV rw' hc]
  have of : IsOf ea C s.heap := (I.hok ea _ e).1
  exact PySem.W.kia_one (kitx_exc EC) I.kIn of hk (fun z => nomatch z) fun tk => ⟨.bl b, H, I.tok tk, rfl, q⟩
/-- a def that lets no exception out where none is wished -/
theorem FnOk.calm {P : Program} {w : World} {K : PySem.W.Frag} {mg : Str → Option Value} {base : Heap} {k : Nat} {f : Addr} {fd : FuncData} {ps : List Str} {sp : Sp} (F : FnOk P w K mg base (CXw P w) k f fd ps sp) :
    FnOk P w K mg base CX0 k f fd ps (fun vs H Q _ => sp vs H Q fun _ _ _ => False) :=
  ⟨fun vs H Q E h => F.len vs H Q _ h, fun A outer s H args us vs Q E hr he hb hv h => codeAny_mono (F.run A outer s H args us vs Q _ hr he hb hv h) fun r s' q => by
    cases r with
    | ok fl =>
      cases fl with
      | ret u => exact q
      | next => exact q
      | brk => exact q
      | cont => exact q
    | error e => obtain ⟨ea, cls, H', _, _, z⟩ := q; exact z.elim⟩
/-- an own exception class without an __init__, by the written part -/
theorem own_of {K : PySem.W.Frag} {base : Heap} {mg : Str → Option Value} {x : Str} {C : Addr} {bmB : List Value} {newId : String} (kin : K.In base) (hb : mg x = some (.ref C)) (q : PySem.W.excIn K C bmB newId = true) : OwnCls x C bmB newId mg base := by
  refine ⟨hb, ?_⟩
  unfold PySem.W.excIn at q
  split at q
  · rename_i dd cd sl ho
    split at q
    · rename_i C' bm k0 k1 k2 k3 n k5 hm hs
      rw [Bool.and_eq_true, Bool.and_eq_true, Bool.and_eq_true, Bool.and_eq_true, Bool.and_eq_true] at q
      obtain ⟨⟨⟨⟨⟨q1, q2⟩, q3⟩, q4⟩, q5⟩, q6⟩ := q
      cases eq_of_beq q1
      cases eq_of_beq q2
      have q3' : cd.hasDel = false := by simpa using q3
      have q6' := eq_of_beq q6
      obtain ⟨nm, bs, mro, ns, qn, hd, sn, sub, ab, col, del⟩ := cd
      dsimp only at hm q3' q5 q6'
      subst hm q3'
      have hsl : sl = #[k0, k1, k2, k3, some (.builtin newId), k5] := by
        obtain ⟨l⟩ := sl
        simp only at hs
        rw [hs]
      subst hsl
      refine ⟨bm, ns, nm, qn, bs, hd, sn, sub, ab, col, dd, k0, k1, k2, k3, k5, base.nsMap ns, kin _ _ ho, ?_⟩
      exact ⟨.of_isNs (PySem.W.isNs_of_in kin q5), PySem.W.nsMap_none_of_in kin q5 q6', PySem.W.tail_of_in kin q4⟩
    · cases q
  · cases q
end
end L2
set_option Elab.async false
set_option linter.all false
set_option maxRecDepth 100000
set_option maxHeartbeats 4000000
namespace L2
open PySem PySem.Spec PyProof.Rows
/-! ### try: y = f(..) / except Y as n: suite -/
end L2
set_option Elab.async false
set_option linter.all false
set_option maxRecDepth 100000
set_option maxHeartbeats 4000000
namespace Tw
open PySem PySem.Spec L2
/-! ### things on the heap; N: where no list or dict of theirs lies -/
def OddAt (N : Addr → Prop) (H : Hp) (n : String) (v : V) : Prop :=
  (n = "bool" ∧ ∃ b, v = .bl b) ∨ (n = "NoneType" ∧ v = .non) ∨ (n = "list" ∧ ∃ a xs, v = .ref a ∧ H a = some (.lst xs) ∧ ¬ N a) ∨ (n = "dict" ∧ ∃ a kvs, v = .ref a ∧ H a = some (.dK kvs) ∧ ¬ N a)
mutual
def ThAt (N : Addr → Prop) (H : Hp) : TG → V → Prop
  | .int i, v => v = .int i
  | .str x, v => v = .str x
  | .tup l, v => ∃ a vs, v = .ref a ∧ H a = some (.tup vs) ∧ ThsAt N H l vs
  | .odd n, v => OddAt N H n v
def ThsAt (N : Addr → Prop) (H : Hp) : List TG → List V → Prop
  | [], vs => vs = []
  | t :: l, vs => ∃ v r, vs = v :: r ∧ ThAt N H t v ∧ ThsAt N H l r
end
/-- what stays for things -/
structure Keeps (N : Addr → Prop) (H H' : Hp) : Prop where
  tup : Tups H H'
  rest : ∀ b o, H b = some o → ¬ N b → H' b = some o
theorem Keeps.same {N : Addr → Prop} {H H' : Hp} (s : Same H H') : Keeps N H H' := ⟨Same.tups s, fun b o e _ => s b o e⟩
theorem Keeps.but {N : Addr → Prop} {H H' : Hp} {p : Addr} (s : SameX p H H') (t : Tups H H') (n : N p) : Keeps N H H' := ⟨t, fun b o e nb => s b o e fun z => nb (by rw [z]; exact n)⟩
theorem Keeps.trans {N : Addr → Prop} {H H1 H2 : Hp} (a : Keeps N H H1) (b : Keeps N H1 H2) : Keeps N H H2 := ⟨a.tup.trans b.tup, fun c o e n => b.rest c o (a.rest c o e n) n⟩
mutual
theorem ThAt.mono {N : Addr → Prop} {H H' : Hp} (m : Keeps N H H') : ∀ (t : TG) (v : V), ThAt N H t v → ThAt N H' t v
  | .int _, _, h => by rw [ThAt] at h ⊢; exact h
  | .str _, _, h => by rw [ThAt] at h ⊢; exact h
  | .tup l, _, h => by
    rw [ThAt] at h ⊢
    obtain ⟨a, vs, e, h1, h2⟩ := h
    exact ⟨a, vs, e, m.tup a vs h1, ThsAt.mono m l vs h2⟩
  | .odd n, _, h => by
    rw [ThAt] at h ⊢
    rcases h with h | h | ⟨e, a, xs, e1, e2, e3⟩ | ⟨e, a, xs, e1, e2, e3⟩
    · exact .inl h
    · exact .inr (.inl h)
    · exact .inr (.inr (.inl ⟨e, a, xs, e1, m.rest _ _ e2 e3, e3⟩))
    · exact .inr (.inr (.inr ⟨e, a, xs, e1, m.rest _ _ e2 e3, e3⟩))
theorem ThsAt.mono {N : Addr → Prop} {H H' : Hp} (m : Keeps N H H') : ∀ (l : List TG) (vs : List V), ThsAt N H l vs → ThsAt N H' l vs
  | [], _, h => by rw [ThsAt] at h ⊢; exact h
  | t :: l, _, h => by
    rw [ThsAt] at h ⊢
    obtain ⟨v, r, e, h1, h2⟩ := h
    exact ⟨v, r, e, ThAt.mono m t v h1, ThsAt.mono m l r h2⟩
end
theorem ThsAt.nil {N : Addr → Prop} {H : Hp} : ThsAt N H [] [] := by rw [ThsAt]
theorem ThsAt.cons {N : Addr → Prop} {H : Hp} {t : TG} {l : List TG} {v : V} {r : List V} (h : ThAt N H t v) (hr : ThsAt N H l r) : ThsAt N H (t :: l) (v :: r) := by
  rw [ThsAt]
  exact ⟨v, r, rfl, h, hr⟩
theorem ThAt.tup {N : Addr → Prop} {H : Hp} {a : Addr} {vs : List V} {l : List TG} (e : H a = some (.tup vs)) (h : ThsAt N H l vs) : ThAt N H (.tup l) (.ref a) := by
  rw [ThAt]
  exact ⟨a, vs, rfl, e, h⟩
theorem ThAt.int {N : Addr → Prop} {H : Hp} (i : Int) : ThAt N H (.int i) (.int i) := by rw [ThAt]
theorem ThAt.str {N : Addr → Prop} {H : Hp} (x : Str) : ThAt N H (.str x) (.str x) := by rw [ThAt]
theorem ThAt.bl {N : Addr → Prop} {H : Hp} (b : Bool) : ThAt N H (.odd "bool") (.bl b) := by rw [ThAt]; exact .inl ⟨rfl, b, rfl⟩
theorem ThAt.non {N : Addr → Prop} {H : Hp} : ThAt N H (.odd "NoneType") .non := by rw [ThAt]; exact .inr (.inl ⟨rfl, rfl⟩)
theorem ThAt.lst {N : Addr → Prop} {H : Hp} {a : Addr} {xs : List V} (e : H a = some (.lst xs)) (n : ¬ N a) : ThAt N H (.odd "list") (.ref a) := by rw [ThAt]; exact .inr (.inr (.inl ⟨rfl, a, xs, rfl, e, n⟩))
theorem ThAt.dict {N : Addr → Prop} {H : Hp} {a : Addr} {xs : List (Key × V)} (e : H a = some (.dK xs)) (n : ¬ N a) : ThAt N H (.odd "dict") (.ref a) := by rw [ThAt]; exact .inr (.inr (.inr ⟨rfl, a, xs, rfl, e, n⟩))
theorem ThsAt.append {N : Addr → Prop} {H : Hp} : ∀ {l m : List TG} {vs ws : List V}, ThsAt N H l vs → ThsAt N H m ws → ThsAt N H (l ++ m) (vs ++ ws)
  | [], m, vs, ws, h, g => by rw [ThsAt] at h; subst h; exact g
  | t :: l, m, vs, ws, h, g => by
    rw [ThsAt] at h
    obtain ⟨v, r, rfl, h1, h2⟩ := h
    exact .cons h1 (h2.append g)
theorem ThsAt.length {N : Addr → Prop} {H : Hp} : ∀ {l : List TG} {vs : List V}, ThsAt N H l vs → l.length = vs.length
  | [], vs, h => by rw [ThsAt] at h; subst h; rfl
  | t :: l, vs, h => by
    rw [ThsAt] at h
    obtain ⟨v, r, rfl, _, h2⟩ := h
    rw [List.length_cons, List.length_cons, h2.length]
theorem ThsAt.get {N : Addr → Prop} {H : Hp} : ∀ {l : List TG} {vs : List V} {i : Nat} {v : V}, ThsAt N H l vs → vs[i]? = some v → ∃ t, l[i]? = some t ∧ ThAt N H t v
  | [], vs, i, v, h, e => by rw [ThsAt] at h; subst h; simp at e
  | t :: l, vs, 0, v, h, e => by
    rw [ThsAt] at h
    obtain ⟨v', r, rfl, h1, _⟩ := h
    simp at e
    subst e
    exact ⟨t, rfl, h1⟩
  | t :: l, vs, i + 1, v, h, e => by
    rw [ThsAt] at h
    obtain ⟨v', r, rfl, _, h2⟩ := h
    obtain ⟨t', e1, e2⟩ := h2.get (i := i) (by simpa using e)
    exact ⟨t', by simpa using e1, e2⟩
theorem ThsAt.take {N : Addr → Prop} {H : Hp} : ∀ {l : List TG} {vs : List V} (n : Nat), ThsAt N H l vs → ThsAt N H (l.take n) (vs.take n)
  | l, vs, 0, _ => by simp only [List.take_zero]; exact .nil
  | [], vs, n + 1, h => by rw [ThsAt] at h; subst h; exact .nil
  | t :: l, vs, n + 1, h => by
    rw [ThsAt] at h
    obtain ⟨v', r, rfl, h1, h2⟩ := h
    exact .cons h1 (h2.take n)
theorem ThsAt.set {N : Addr → Prop} {H : Hp} : ∀ {l : List TG} {vs : List V} (i : Nat) {t : TG} {v : V}, ThsAt N H l vs → ThAt N H t v → ThsAt N H (l.set i t) (vs.set i v)
  | [], vs, i, t, v, h, _ => by rw [ThsAt] at h; subst h; exact .nil
  | u :: l, vs, 0, t, v, h, ht => by
    rw [ThsAt] at h
    obtain ⟨v', r, rfl, _, h2⟩ := h
    exact .cons ht h2
  | u :: l, vs, i + 1, t, v, h, ht => by
    rw [ThsAt] at h
    obtain ⟨v', r, rfl, h1, h2⟩ := h
    exact .cons h1 (h2.set i ht)
mutual
theorem th_key {N : Addr → Prop} {H : Hp} : ∀ (t : KT) (v : V), KeyAt H t v → ThAt N H t.emb v
  | .int i, v, h => by rw [KeyAt] at h; rw [KT.emb, ThAt]; exact h
  | .str x, v, h => by rw [KeyAt] at h; rw [KT.emb, ThAt]; exact h
  | .tup l, v, h => by
    rw [KeyAt] at h
    obtain ⟨a, vs, e, h1, h2⟩ := h
    rw [KT.emb, ThAt]
    exact ⟨a, vs, e, h1, ths_keys l vs h2⟩
theorem ths_keys {N : Addr → Prop} {H : Hp} : ∀ (l : List KT) (vs : List V), KeysAt H l vs → ThsAt N H (embL l) vs
  | [], vs, h => by rw [KeysAt] at h; rw [embL, ThsAt]; exact h
  | t :: l, vs, h => by
    rw [KeysAt] at h
    obtain ⟨v, r, e, h1, h2⟩ := h
    rw [embL, ThsAt]
    exact ⟨v, r, e, th_key t v h1, ths_keys l r h2⟩
end
theorem OddAt.ty {K : PySem.W.Frag} {N : Addr → Prop} {H : Hp} {n : String} {v : V} (h : OddAt N H n v) : TyOf K H v (.type n) := by
  rcases h with ⟨rfl, b, rfl⟩ | ⟨rfl, rfl⟩ | ⟨rfl, a, xs, rfl, e, _⟩ | ⟨rfl, a, xs, rfl, e, _⟩
  · exact .bl b
  · exact .non
  · exact .lst e
  · exact .dK e
/-- isinstance of odd things -/
theorem kit_odd {K : PySem.W.Frag} {N : Addr → Prop} {H : Hp} {n : String} {v : V} (h : OddAt N H n v) :
    ∃ b, PySem.W.kitOne K (.type n) (.type "bool") = some b ∧ (b = false → PySem.W.kitOne K (.type n) (.type "int") = some false ∧ PySem.W.kitOne K (.type n) (.type "str") = some false ∧ PySem.W.kitOne K (.type n) (.type "tuple") = some false) := by
  rcases h with ⟨rfl, _⟩ | ⟨rfl, _⟩ | ⟨rfl, _⟩ | ⟨rfl, _⟩
  · exact ⟨true, kit_bb, fun z => absurd z (by decide)⟩
  · exact ⟨false, by kernel_rfl, fun _ => ⟨by kernel_rfl, by kernel_rfl, by kernel_rfl⟩⟩
  · exact ⟨false, by kernel_rfl, fun _ => ⟨by kernel_rfl, by kernel_rfl, by kernel_rfl⟩⟩
  · exact ⟨false, by kernel_rfl, fun _ => ⟨by kernel_rfl, by kernel_rfl, by kernel_rfl⟩⟩
end Tw
set_option Elab.async false
set_option linter.all false
set_option maxRecDepth 100000
set_option maxHeartbeats 8000000
namespace L2
open PySem PySem.Spec PyProof.Rows
section
variable {P : Program} {w : World} {K : PySem.W.Frag} {mg : Str → Option Value} {base : Heap}
/-- a def that may raise -/
theorem Fun.okX {x qual : Str} {st : Stmt} {f : Addr} {fd : FuncData} {N ps : List Str} {k : Nat} {sp : Sp} (F : Fun K x qual st f fd) (S : FnScope N ps (defScope st)) (len : ∀ vs H Q E, sp vs H Q E → vs.length = ps.length)
    (hbody : ∀ (cdv : Value) (A : Around) (outer : List Env) (s : Shared) (H : Hp) (vs : List V) (Q : VK) (E : XK), Room k (A.deeper (envOfC qual (defScope st) s.heap.objs.size f cdv)) → sp vs H Q E →
      ∃ t, PSs (cxOf (CXw P w) P w K mg base N qual (defScope st) f cdv A outer s H E) (defBody st) t ∧ t { nx := fun _ H' => Q .non H', rt := Q } (start N vs) H) : FnOk P w K mg base (CXw P w) (k + 1) f fd ps sp := by
  obtain ⟨oc, od, kV, doc, pm, an, cdv, ct, osl, rfl, lk, hcd⟩ := F.ex
  exact fn_of lk hcd S len fun A outer s H vs Q E hr hsp => hbody cdv A outer s H vs Q E hr hsp
theorem fnx_of {N : List Str} {qual : Str} {scope : Scope} {f : Addr} {cdv : Value} {A : Around} {outer : List Env} {s : Shared} {H : Hp} {E : XK} : FnX (cxOf (CXw P w) P w K mg base N qual scope f cdv A outer s H E) E := ⟨rfl, rfl, rfl, rfl, fun _ _ h => h⟩
end
def starless : Expr → Bool
  | .Starred _ _ => false
  | _ => true
theorem star_plain {e : Expr} {es : List Expr} {env : Env} (h : starless e = true) : starEach (e :: es) env = (false, eval e env) :: starEach es env := by
  cases e <;> first | rfl | cases h
theorem pa_c {X : Cx} {e : Expr} {es : List Expr} {te : TE} {t : TA} (ha : PE X e te) (hr : PA X es t) (h : starless e = true := by rfl) : PA X (e :: es) (tCons te t) := pa_cons ha hr (star_plain h)
theorem pa3 {X : Cx} {e0 e1 e2 : Expr} {t0 t1 t2 : TE} (g0 : PE X e0 t0) (g1 : PE X e1 t1) (g2 : PE X e2 t2) (h : [e0, e1, e2].all starless = true := by rfl) : PA X [e0, e1, e2] (tCons t0 (tCons t1 (tCons t2 tNil))) :=
  (pa_cons g0 (pa_cons g1 (pa_cons g2 pa_nil (star_plain (List.all_eq_true.mp h e2 (by simp)))) (star_plain (List.all_eq_true.mp h e1 (by simp)))) (star_plain (List.all_eq_true.mp h e0 (by simp))))
theorem pa4 {X : Cx} {e0 e1 e2 e3 : Expr} {t0 t1 t2 t3 : TE} (g0 : PE X e0 t0) (g1 : PE X e1 t1) (g2 : PE X e2 t2) (g3 : PE X e3 t3) (h : [e0, e1, e2, e3].all starless = true := by rfl) : PA X [e0, e1, e2, e3] (tCons t0 (tCons t1 (tCons t2 (tCons t3 tNil)))) :=
  (pa_cons g0 (pa_cons g1 (pa_cons g2 (pa_cons g3 pa_nil (star_plain (List.all_eq_true.mp h e3 (by simp)))) (star_plain (List.all_eq_true.mp h e2 (by simp)))) (star_plain (List.all_eq_true.mp h e1 (by simp)))) (star_plain (List.all_eq_true.mp h e0 (by simp))))
theorem pa5 {X : Cx} {e0 e1 e2 e3 e4 : Expr} {t0 t1 t2 t3 t4 : TE} (g0 : PE X e0 t0) (g1 : PE X e1 t1) (g2 : PE X e2 t2) (g3 : PE X e3 t3) (g4 : PE X e4 t4) (h : [e0, e1, e2, e3, e4].all starless = true := by rfl) : PA X [e0, e1, e2, e3, e4] (tCons t0 (tCons t1 (tCons t2 (tCons t3 (tCons t4 tNil))))) :=
  (pa_cons g0 (pa_cons g1 (pa_cons g2 (pa_cons g3 (pa_cons g4 pa_nil (star_plain (List.all_eq_true.mp h e4 (by simp)))) (star_plain (List.all_eq_true.mp h e3 (by simp)))) (star_plain (List.all_eq_true.mp h e2 (by simp)))) (star_plain (List.all_eq_true.mp h e1 (by simp)))) (star_plain (List.all_eq_true.mp h e0 (by simp))))
theorem pa6 {X : Cx} {e0 e1 e2 e3 e4 e5 : Expr} {t0 t1 t2 t3 t4 t5 : TE} (g0 : PE X e0 t0) (g1 : PE X e1 t1) (g2 : PE X e2 t2) (g3 : PE X e3 t3) (g4 : PE X e4 t4) (g5 : PE X e5 t5) (h : [e0, e1, e2, e3, e4, e5].all starless = true := by rfl) : PA X [e0, e1, e2, e3, e4, e5] (tCons t0 (tCons t1 (tCons t2 (tCons t3 (tCons t4 (tCons t5 tNil)))))) :=
  (pa_cons g0 (pa_cons g1 (pa_cons g2 (pa_cons g3 (pa_cons g4 (pa_cons g5 pa_nil (star_plain (List.all_eq_true.mp h e5 (by simp)))) (star_plain (List.all_eq_true.mp h e4 (by simp)))) (star_plain (List.all_eq_true.mp h e3 (by simp)))) (star_plain (List.all_eq_true.mp h e2 (by simp)))) (star_plain (List.all_eq_true.mp h e1 (by simp)))) (star_plain (List.all_eq_true.mp h e0 (by simp))))
end L2
namespace Tw
open PySem PySem.Spec L2
structure DefX (P : Program) (w : World) (K : PySem.W.Frag) (mg : Str → Option Value) (base : Heap) (k : Nat) (x : Str) (ps : List Str) (sp : Sp) : Prop where
  ex : ∃ f fd, FnOk P w K mg base (CXw P w) k f fd ps sp ∧ Binds K fd ps [] ∧ PySem.W.keepIn K (.ref f) = true ∧ mg x = some (.ref f)
theorem DefX.calm {P : Program} {w : World} {K : PySem.W.Frag} {mg : Str → Option Value} {base : Heap} {k : Nat} {x : Str} {ps : List Str} {sp : Sp} (D : DefX P w K mg base k x ps sp) : DefOk P w K mg base k x ps (fun vs H Q _ => sp vs H Q fun _ _ _ => False) := by
  obtain ⟨f, fd, F, b, kp, m⟩ := D.ex
  exact ⟨f, fd, F.calm, b, kp, m⟩
end Tw
set_option Elab.async false
set_option linter.all false
set_option maxRecDepth 100000
set_option maxHeartbeats 4000000
namespace L2
open PySem PySem.Spec PyProof.Rows
/-! ### lists of pairs as tables -/
section
variable {κ : Type} [DecidableEq κ]
def valV (kvs : List (κ × V)) (k : κ) : Option V := (kvs.find? fun kv => decide (kv.1 = k)).map (·.2)
/-- in its place, or at the end -/
def putK (kvs : List (κ × V)) (k : κ) (v : V) : List (κ × V) :=
  if (kvs.any fun kv => decide (kv.1 = k)) = true then kvs.map (fun kv => if kv.1 = k then (kv.1, v) else kv) else kvs ++ [(k, v)]
def dropK (kvs : List (κ × V)) (k : κ) : List (κ × V) := kvs.filter fun kv => decide (kv.1 ≠ k)

theorem valV_pos {p : κ × V} {r : List (κ × V)} {k : κ} (e : p.1 = k) : valV (p :: r) k = some p.2 := by simp [valV, List.find?_cons, e]
theorem valV_neg {p : κ × V} {r : List (κ × V)} {k : κ} (e : ¬ p.1 = k) : valV (p :: r) k = valV r k := by simp [valV, List.find?_cons, e]
theorem valV_any (k : κ) : ∀ kvs : List (κ × V), (kvs.any fun kv => decide (kv.1 = k)) = (valV kvs k).isSome
  | [] => rfl
  | p :: r => by
    rw [List.any_cons]
    by_cases e : p.1 = k
    · simp only [valV_pos e, decide_eq_true e, Bool.true_or, Option.isSome_some]
    · rw [valV_neg e, decide_eq_false e, Bool.false_or]; exact valV_any k r
theorem valV_map (k j : κ) (y : V) : ∀ kvs : List (κ × V), valV (kvs.map fun kv => if kv.1 = k then (kv.1, y) else kv) j = (valV kvs j).map fun x => if j = k then y else x
  | [] => rfl
  | p :: r => by
    have ih := valV_map k j y r
    rw [List.map_cons]
    by_cases h : p.1 = k
    · rw [if_pos h]
      by_cases e : p.1 = j
      · rw [valV_pos (p := (p.1, y)) e, valV_pos e, Option.map_some, if_pos (e.symm.trans h)]
      · rw [valV_neg (p := (p.1, y)) e, valV_neg e, ih]
    · rw [if_neg h]
      by_cases e : p.1 = j
      · rw [valV_pos (p := p) e, valV_pos e, Option.map_some, if_neg (fun z => h (e.trans z))]
      · rw [valV_neg (p := p) e, valV_neg e, ih]
theorem valV_snoc (k j : κ) (y : V) : ∀ kvs : List (κ × V), valV kvs k = none → valV (kvs ++ [(k, y)]) j = if j = k then some y else valV kvs j
  | [], _ => by
    by_cases e : k = j
    · rw [if_pos e.symm]; exact valV_pos (p := (k, y)) e
    · rw [if_neg (fun z => e z.symm)]; exact valV_neg (p := (k, y)) e
  | p :: r, hn => by
    rw [List.cons_append]
    have hk : ¬ p.1 = k := fun z => by rw [valV_pos z] at hn; cases hn
    rw [valV_neg hk] at hn
    have ih := valV_snoc k j y r hn
    by_cases e : p.1 = j
    · rw [valV_pos e, valV_pos e, if_neg (fun z => hk (e.trans z))]
    · rw [valV_neg e, valV_neg e, ih]
theorem valV_put (kvs : List (κ × V)) (k j : κ) (y : V) : valV (putK kvs k y) j = if j = k then some y else valV kvs j := by
  unfold putK
  by_cases a : (kvs.any fun kv => decide (kv.1 = k)) = true
  · rw [if_pos a, valV_map]
    rw [valV_any] at a
    by_cases e : j = k
    · obtain ⟨x, hx⟩ := Option.isSome_iff_exists.mp a
      rw [if_pos e, e, hx, Option.map_some, if_pos rfl]
    · rw [if_neg e]
      cases valV kvs j with
      | none => rfl
      | some x => rw [Option.map_some, if_neg e]
  · rw [if_neg a]
    refine valV_snoc k j y kvs ?_
    rw [valV_any] at a
    cases q : valV kvs k with
    | none => rfl
    | some x => rw [q] at a; exact (a rfl).elim
theorem length_putK (kvs : List (κ × V)) (k : κ) (v : V) : (putK kvs k v).length ≤ kvs.length + 1 := by
  unfold putK
  split
  · rw [List.length_map]; omega
  · rw [List.length_append, List.length_cons, List.length_nil]; omega
theorem putK_new {kvs : List (κ × V)} {k : κ} (v : V) (h : valV kvs k = none) : putK kvs k v = kvs ++ [(k, v)] := by
  unfold putK
  rw [valV_any, h]
  exact if_neg (by decide)

theorem RelO.isSome_eq {o : Option V} {u : Option Value} (r : RelO o u) : o.isSome = u.isSome := by
  cases o with
  | none => cases u with
    | none => rfl
    | some _ => exact (show False from r).elim
  | some _ => cases u with
    | none => exact (show False from r).elim
    | some _ => rfl
theorem RelO.getD {o : Option V} {u : Option Value} {d : V} {d' : Value} (r : RelO o u) (rd : RelV d d') : RelV (o.getD d) (u.getD d') := by
  cases o with
  | none => cases u with
    | none => exact rd
    | some _ => exact (show False from r).elim
  | some _ => cases u with
    | none => exact (show False from r).elim
    | some _ => exact r

/-- raw tables of the same keys -/
theorem KV.val {kvs : List (κ × V)} {vs : List (κ × Value)} (r : KV kvs vs) (k : κ) : RelO (valV kvs k) (valueAt vs k) := by
  unfold KV at r
  induction r with
  | nil => exact True.intro
  | @cons p q ps qs h t ih =>
    obtain ⟨h1, h2⟩ := h
    by_cases e : p.1 = k
    · have e' : q.1 = k := h1.symm.trans e
      have b : valueAt (q :: qs) k = some q.2 := by simp [valueAt, List.find?_cons, e']
      rw [valV_pos e, b]; exact h2
    · have e' : ¬ q.1 = k := fun z => e (h1.trans z)
      have b : valueAt (q :: qs) k = valueAt qs k := by simp [valueAt, List.find?_cons, e']
      rw [valV_neg e, b]; exact ih
theorem KV.any {kvs : List (κ × V)} {vs : List (κ × Value)} (r : KV kvs vs) (k : κ) : (kvs.any fun kv => decide (kv.1 = k)) = vs.any fun kv => decide (kv.1 = k) := by
  unfold KV at r
  induction r with
  | nil => rfl
  | cons h t ih => rw [List.any_cons, List.any_cons, ih, h.1]
theorem KV.repl {kvs : List (κ × V)} {vs : List (κ × Value)} (r : KV kvs vs) (k : κ) {y : V} {u : Value} (ry : RelV y u) :
    KV (kvs.map fun kv => if kv.1 = k then (kv.1, y) else kv) (vs.map fun kv => if kv.1 = k then (kv.1, u) else kv) := by
  unfold KV at r ⊢
  induction r with
  | nil => exact .nil
  | @cons p q ps qs h t ih =>
    rw [List.map_cons, List.map_cons]
    refine .cons ?_ ih
    obtain ⟨h1, h2⟩ := h
    by_cases e : p.1 = k
    · rw [if_pos e, if_pos (h1.symm.trans e)]; exact ⟨h1, ry⟩
    · rw [if_neg e, if_neg (fun z => e (h1.trans z))]; exact ⟨h1, h2⟩
theorem KV.put {kvs : List (κ × V)} {vs : List (κ × Value)} (r : KV kvs vs) (k : κ) {y : V} {u : Value} (ry : RelV y u) : KV (putK kvs k y) (stored vs k u) := by
  unfold putK stored
  rw [r.any k]
  by_cases e : (vs.any fun kv => decide (kv.1 = k)) = true
  · rw [if_pos e, if_pos e]; exact r.repl k ry
  · rw [if_neg e, if_neg e]; exact Paired.snoc r ⟨rfl, ry⟩
theorem KV.drop {kvs : List (κ × V)} {vs : List (κ × Value)} (r : KV kvs vs) (k : κ) : KV (dropK kvs k) (without vs k) := by
  unfold KV at r ⊢
  unfold dropK without
  induction r with
  | nil => exact .nil
  | @cons p q ps qs h t ih =>
    obtain ⟨h1, h2⟩ := h
    rw [List.filter_cons, List.filter_cons]
    by_cases e : p.1 = k
    · have a : ¬ decide (p.1 ≠ k) = true := by simp [e]
      have b : ¬ decide (q.1 ≠ k) = true := by simp [h1.symm.trans e]
      rw [if_neg a, if_neg b]; exact ih
    · have e' : ¬ q.1 = k := fun z => e (h1.trans z)
      have a : decide (p.1 ≠ k) = true := by simp [e]
      have b : decide (q.1 ≠ k) = true := by simp [e']
      rw [if_pos a, if_pos b]; exact .cons ⟨h1, h2⟩ ih
theorem KV.keys {kvs : List (κ × V)} {vs : List (κ × Value)} (r : KV kvs vs) : kvs.map (·.1) = vs.map (·.1) := by
  unfold KV at r
  induction r with
  | nil => rfl
  | cons h t ih => rw [List.map_cons, List.map_cons, ih, h.1]
theorem KV.length {kvs : List (κ × V)} {vs : List (κ × Value)} (r : KV kvs vs) : kvs.length = vs.length := Paired.length r
end


/-! ### a tracked dict, its keys ints and texts or tuples of these -/
theorem kV_is {P : Program} {w : World} {k : Key} {u : Value} (r : RelV (kV k) u) : (mixKind P w).is k u = true := by
  cases k with
  | inl i => obtain ⟨t, e⟩ := (show ∃ t, u = Value.int i t from r); subst e; exact mixKind_int P w i t
  | inr x => obtain ⟨t, e⟩ := (show ∃ t, u = Value.str x t from r); subst e; exact mixKind_str P w x t
theorem items_are {P : Program} {w : World} : ∀ {ks : List Key} {us : List Value}, Vals (ks.map kV) us → ItemsAre (mixKind P w) ks us
  | [], _, r => by rw [List.map_nil] at r; cases r; exact .nil
  | k :: ks, _, r => by
    rw [List.map_cons] at r
    cases r with
    | cons h t => exact .cons (kV_is h) (items_are t)

/-- raw entries of a dict with tuple keys -/
abbrev KT (H : Hp) : List (List Key × V) → List (List Key × Addr × Value) → Prop := Paired fun p q => p.1 = q.1 ∧ H q.2.1 = some (.tup (p.1.map kV)) ∧ RelV p.2 q.2.2
theorem KT.val {H : Hp} {kvs : List (List Key × V)} {xs : List (List Key × Addr × Value)} (r : KT H kvs xs) (k : List Key) : RelO (valV kvs k) ((atKey xs k).map (·.2)) := by
  induction r with
  | nil => exact True.intro
  | @cons p q ps qs h t ih =>
    obtain ⟨h1, _, h2⟩ := h
    by_cases e : p.1 = k
    · have e' : q.1 = k := h1.symm.trans e
      have b : atKey (q :: qs) k = some q.2 := by simp [atKey, List.find?_cons, e']
      rw [valV_pos e, b]; exact h2
    · have e' : ¬ q.1 = k := fun z => e (h1.trans z)
      have b : atKey (q :: qs) k = atKey qs k := by simp [atKey, List.find?_cons, e']
      rw [valV_neg e, b]; exact ih
theorem KT.repl {H : Hp} {kvs : List (List Key × V)} {xs : List (List Key × Addr × Value)} (r : KT H kvs xs) (k : List Key) {y : V} {u : Value} (ry : RelV y u) :
    KT H (kvs.map fun kv => if kv.1 = k then (kv.1, y) else kv) (xs.map (putAt k u)) := by
  induction r with
  | nil => exact .nil
  | @cons p q ps qs h t ih =>
    rw [List.map_cons, List.map_cons]
    refine .cons ?_ ih
    obtain ⟨h1, h2, h3⟩ := h
    unfold putAt
    by_cases e : p.1 = k
    · rw [if_pos e, if_pos (h1.symm.trans e)]; exact ⟨h1, h2, ry⟩
    · rw [if_neg e, if_neg (fun z => e (h1.trans z))]; exact ⟨h1, h2, h3⟩
theorem KT.put {H : Hp} {kvs : List (List Key × V)} {xs : List (List Key × Addr × Value)} (r : KT H kvs xs) (k : List Key) {b : Addr} {y : V} {u : Value} (hb : H b = some (.tup (k.map kV))) (ry : RelV y u) :
    KT H (putK kvs k y) (storedH xs k b u) := by
  have e : (kvs.any fun kv => decide (kv.1 = k)) = (atKey xs k).isSome := by
    rw [valV_any, (r.val k).isSome_eq, Option.isSome_map]
  unfold putK storedH
  rw [e]
  by_cases q : (atKey xs k).isSome = true
  · rw [if_pos q, if_pos q]; exact r.repl k ry
  · rw [if_neg q, if_neg q]; exact Paired.snoc r ⟨rfl, hb, ry⟩
theorem KT.keeps {H H' : Hp} {kvs : List (List Key × V)} {xs : List (List Key × Addr × Value)} (r : KT H kvs xs) (ht : ∀ b ys, H b = some (.tup ys) → H' b = some (.tup ys)) : KT H' kvs xs :=
  Paired.mapP r fun _ _ z => ⟨z.1, ht _ _ z.2.1, z.2.2⟩

section
variable {P : Program} {w : World} {H : Hp} {h : Heap} {a : Addr}
theorem rd_of {u : HO} (ok : HOk P w H h) (e : Rd H a u) : ObjOk P w H h a u := e.ok ok
theorem dk_rd {kvs : List (Key × V)} (ok : HOk P w H h) (e : Rd H a (.dK kvs)) : kvs.length ≤ sizeLine ∧ (a == sysModules) = false ∧ ∃ vs, KV kvs vs ∧ h.DictOf (mixKind P w) a vs :=
  show ObjOk P w H h a (.dK kvs) from rd_of ok e
theorem dk_of {kvs : List (Key × V)} (ok : HOk P w H h) (e : H a = some (.dK kvs)) : kvs.length ≤ sizeLine ∧ (a == sysModules) = false ∧ ∃ vs, KV kvs vs ∧ h.DictOf (mixKind P w) a vs := dk_rd ok (.inl e)
/-- a tracked tuple of ints and texts is a key -/
theorem key_of {ks : List Key} (ok : HOk P w H h) (e : H a = some (.tup (ks.map kV))) : (tupleKind (mixKind P w)).is h ks a := by
  obtain ⟨_, its, r, o, h1, h2, n, h3⟩ := (show ObjOk P w H h a (.tup (ks.map kV)) from ok a _ e)
  exact ⟨o, its.toArray, n, h1, h2, h3, by simpa using items_are r⟩
theorem dt_rd {kvs : List (List Key × V)} (ok : HOk P w H h) (e : Rd H a (.dT kvs)) : kvs.length ≤ sizeLine ∧ (a == sysModules) = false ∧
    ∃ xs, KT H kvs xs ∧ h.DictOfH (tupleKind (mixKind P w)) a xs := by
  obtain ⟨z, y, xs, r, o, es, ep, h1, h2, h3, h4, h5⟩ := (show ObjOk P w H h a (.dT kvs) from rd_of ok e)
  refine ⟨z, y, xs, r, o, es, ep, h1, h2, h3, h4, fun x hx => ?_, h5⟩
  have all : ∀ {l : List (List Key × V)} {m : List (List Key × Addr × Value)}, KT H l m → ∀ x ∈ m, (tupleKind (mixKind P w)).is h x.1 x.2.1 := by
    intro l m q
    induction q with
    | nil => intro x hx; exact nomatch hx
    | @cons p q ps qs hq t ih =>
      intro x hx
      rcases List.mem_cons.mp hx with e | hx
      · subst e
        exact key_of ok (by rw [← hq.1]; exact hq.2.1)
      · exact ih x hx
  exact all r x hx
theorem dt_of {kvs : List (List Key × V)} (ok : HOk P w H h) (e : H a = some (.dT kvs)) : kvs.length ≤ sizeLine ∧ (a == sysModules) = false ∧
    ∃ xs, KT H kvs xs ∧ h.DictOfH (tupleKind (mixKind P w)) a xs := dt_rd ok (.inl e)
end

/-- what the dict at a holds at the key y -/
def DGet (H : Hp) (a : Addr) (y : V) (r : Option V) : Prop :=
  (∃ kvs k, Rd H a (.dK kvs) ∧ y = kV k ∧ r = valV kvs k) ∨ ∃ kvs k b, Rd H a (.dT kvs) ∧ y = .ref b ∧ H b = some (.tup (k.map kV)) ∧ r = valV kvs k
/-- the heap behind a[y] = v -/
def DPut (H : Hp) (a : Addr) (y v : V) (H' : Hp) : Prop :=
  (∃ kvs k, H a = some (.dK kvs) ∧ y = kV k ∧ kvs.length < sizeLine ∧ H' = upd H a (.dK (putK kvs k v))) ∨
  ∃ kvs k b, H a = some (.dT kvs) ∧ y = .ref b ∧ H b = some (.tup (k.map kV)) ∧ kvs.length < sizeLine ∧ H' = upd H a (.dT (putK kvs k v))
theorem DGet.k {H : Hp} {a : Addr} {kvs : List (Key × V)} {k : Key} (e : H a = some (.dK kvs)) : DGet H a (kV k) (valV kvs k) := .inl ⟨kvs, k, .inl e, rfl, rfl⟩
theorem DGet.t {H : Hp} {a b : Addr} {kvs : List (List Key × V)} {k : List Key} (e : H a = some (.dT kvs)) (eb : H b = some (.tup (k.map kV))) : DGet H a (.ref b) (valV kvs k) := .inr ⟨kvs, k, b, .inl e, rfl, eb, rfl⟩
theorem DPut.k {H : Hp} {a : Addr} {kvs : List (Key × V)} {k : Key} {v : V} (e : H a = some (.dK kvs)) (hl : kvs.length < sizeLine) : DPut H a (kV k) v (upd H a (.dK (putK kvs k v))) := .inl ⟨kvs, k, e, rfl, hl, rfl⟩
theorem DPut.t {H : Hp} {a b : Addr} {kvs : List (List Key × V)} {k : List Key} {v : V} (e : H a = some (.dT kvs)) (eb : H b = some (.tup (k.map kV))) (hl : kvs.length < sizeLine) :
    DPut H a (.ref b) v (upd H a (.dT (putK kvs k v))) := .inr ⟨kvs, k, b, e, rfl, eb, hl, rfl⟩


section
variable {X : Cx} {pins : List (Addr × Obj)} {σ : St} {H : Hp} {s : Shared} {a : Addr} {y v : V} {u r : Value} {o : Option V} {A : Around} {E : Value → Shared → Prop}


/-- d[y], there -/
theorem d_getItem {Q : Value → Shared → Prop} (hu : A.units + 1 < cLine) (I : Inv X pins σ H s) (g : DGet H a y (some v)) (ry : RelV y u) (h : ∀ w' s', Inv X pins σ H s' → RelV v w' → Q w' s') :
    wpAny (model X.prog X.w) A (getItem (.ref a) u) Q E s := by
  rcases g with ⟨kvs, k, e, ey, l⟩ | ⟨kvs, k, b, e, ey, eb, l⟩
  · subst ey
    obtain ⟨z, hd, vs, rel, dd⟩ := dk_rd I.hok e
    obtain ⟨w', hw, rw'⟩ := RelO.some_of (v := v) (o := valueAt vs k) (by rw [l]; exact rel.val k)
    exact wpAny_getItem_of (kV_is ry) dd.mapOf hw (h w' _ (I.tok _) rw')
  · subst ey
    cases (show u = Value.ref b from ry)
    obtain ⟨z, hd, xs, rel, dd⟩ := dt_rd I.hok e
    obtain ⟨w', hw, rw'⟩ := RelO.some_of (v := v) (o := (atKey xs k).map (·.2)) (by rw [l]; exact rel.val k)
    obtain ⟨p, hp, hp2⟩ := Option.map_eq_some_iff.mp hw
    refine wpAny_getItem_heap (tupleKind_room_in1 hu) (key_of I.hok eb) dd hp ?_
    rw [hp2]
    exact h w' _ (I.tok _) rw'
theorem d_notIn {Q : Value → Shared → Prop} (hu : A.units + 1 < cLine) (I : Inv X pins σ H s) (g : DGet H a y o) (ry : RelV y u) (h : ∀ s', Inv X pins σ H s' → Q (.bool (!o.isSome)) s') :
    wpAny (model X.prog X.w) A (compareOp .NotIn u (.ref a)) Q E s := by
  rcases g with ⟨kvs, k, e, ey, l⟩ | ⟨kvs, k, b, e, ey, eb, l⟩
  · subst ey
    obtain ⟨z, hd, vs, rel, dd⟩ := dk_rd I.hok e
    refine wpAny_notIn_of (kV_is ry) hd dd.mapOf ?_
    rw [← (rel.val k).isSome_eq, ← l]
    exact h _ (I.tok _)
  · subst ey
    cases (show u = Value.ref b from ry)
    obtain ⟨z, hd, xs, rel, dd⟩ := dt_rd I.hok e
    refine wpAny_notIn_heap (tupleKind_room_in1 hu) (key_of I.hok eb) hd dd ?_
    have q := (rel.val k).isSome_eq
    rw [Option.isSome_map] at q
    rw [← q, ← l]
    exact h _ (I.tok _)
/-- a dict's object is replaced -/
theorem d_write {h' : Heap} {t' : Nat} {ob : HO} (I : Inv X pins σ H s) (mu : Mut (H a)) (hs : Heap.SameBut a s.heap h') (he : ∃ q, h'.get? a = some q) (new : ObjOk X.prog X.w (upd H a ob) h' a ob) :
    Inv X pins σ (upd H a ob) { s with heap := h', toks := t' } :=
  I.write (x := a) (e := a) mu (.inl rfl) (fun b q hb z => (hs.2 b hb).trans z) he new
theorem dk_new {P : Program} {w : World} {H' : Hp} {h' : Heap} {kvs : List (Key × V)} {vs : List (Key × Value)} (z : kvs.length ≤ sizeLine) (hd : (a == sysModules) = false) (rel : KV kvs vs) (dd : h'.DictOf (mixKind P w) a vs) :
    ObjOk P w H' h' a (.dK kvs) := ⟨z, hd, vs, rel, dd⟩
/-- d[y] = v -/
theorem d_setItem {H' : Hp} {Q : Unit → Shared → Prop} (hu : A.units + 1 < cLine) (I : Inv X pins σ H s) (g : DPut H a y v H') (ry : RelV y u) (rv : RelV v r) (h : ∀ s', Inv X pins σ H' s' → Q () s') :
    wpAny (model X.prog X.w) A (setItem (.ref a) u r) Q E s := by
  rcases g with ⟨kvs, k, e, ey, l, eH⟩ | ⟨kvs, k, b, e, ey, eb, l, eH⟩
  · subst ey eH
    obtain ⟨z, hd, vs, rel, dd⟩ := dk_of I.hok e
    have hz : vs.length ≤ sizeLine := by rw [← rel.length]; exact z
    have hl : (putK kvs k v).length ≤ sizeLine := by have := length_putK kvs k v; omega
    refine wpAny_setItem_pairs (hsz := hz) (kV_is ry) dd fun h' dd' hs => h _ ?_
    have he : ∃ q, h'.get? a = some q := let ⟨q, _, _, hq, _⟩ := dd'; ⟨q, hq⟩
    exact d_write I (by rw [e]; exact True.intro) hs he (dk_new hl hd (rel.put k rv) dd')
  · subst ey eH
    cases (show u = Value.ref b from ry)
    obtain ⟨z, hd, xs, rel, dd⟩ := dt_of I.hok e
    have hz : xs.length ≤ sizeLine := by rw [← Paired.length rel]; exact z
    have hl : (putK kvs k v).length ≤ sizeLine := by have := length_putK kvs k v; omega
    refine wpAny_setItem_heap (hsz := hz) (tupleKind_room_in1 hu) (key_of I.hok eb) dd fun h' dd' hs => h _ ?_
    obtain ⟨q, es, ep, hq, h2, h3, h4, _, h5⟩ := dd'
    refine d_write I (by rw [e]; exact True.intro) hs ⟨q, hq⟩ ⟨hl, hd, _, (rel.put k eb rv).keeps fun c ys ec => ?_, q, es, ep, hq, h2, h3, h4, h5⟩
    rw [upd_ne (ne_of ec e (fun z => nomatch z))]
    exact ec
end

section
variable {X : Cx} {pins : List (Addr × Obj)} {σ : St} {H : Hp} {s : Shared} {a : Addr} {kvs : List (Key × V)} {k : Key} {u : Value} {A : Around} {E : Value → Shared → Prop}
/-- len(d) -/
theorem d_len {Q : Value → Shared → Prop} (I : Inv X pins σ H s) (e : Rd H a (.dK kvs)) (h : ∀ t s', Inv X pins σ H s' → Q (.int kvs.length t) s') : wpAny (model X.prog X.w) A (call (.builtin "len") [.ref a]) Q E s := by
  obtain ⟨z, hd, vs, rel, dd⟩ := dk_rd I.hok e
  refine call_len_dict hd dd (by rw [← rel.length]; rw [sizeLine_eq] at z; omega) ?_
  rw [← rel.length]
  exact h _ _ (I.tok _)
end


/-! ### readings and rules -/
/-- the element of a subscription, not a slice -/
def NoSl (i : Expr) : Prop := ∀ ov iv, subscripted i false ov iv = operate [ov, iv] (getItem ov iv)
theorem subD_of {prog : Program} {w : World} {A : Around} {E : Value → Shared → Prop} {s : Shared} {env : Env} {value slice : Expr} {pos : Pos} {T id : String} {Q : Value → Shared → Prop}
    (hl : typeLookup (.type T) "__getitem__" = pure (some (.builtin id))) (hs : NoSl slice)
    (h : wpAny (model prog w) A (eval value env) (fun o s₁ => wpAny (model prog w) A (eval slice env) (fun i s₂ => s₂.TypeIs o T ∧ wpAny (model prog w) A (getItem o i) Q E s₂) E s₁) E s) :
    wpAny (model prog w) A (eval (.Subscript value slice pos) env) Q E s := by
  refine Subscript_ (wpAny_mono h (fun o s₁ h₁ => wpAny_mono h₁ (fun i s₂ h₂ => ?_) fun _ _ x => x) fun _ _ x => x)
  obtain ⟨hT, h₂⟩ := h₂
  unfold subscriptTail
  refine wpAny_bind ?_
  rw [getitemInPython_of_ne hT.not_modules]
  refine wpAny_bind (wpAny_specialOf hT hl ?_)
  have fin : wpAny (model prog w) A (subscripted slice false o i) (fun r s₃ => wpAny (model prog w) A (letTemporaryGo value o r >>= fun _ => pure r) Q E s₃) E s₂ := by
    rw [hs o i]
    exact wpAny_operating (wpAny_mono h₂ (fun r s₃ h₃ => wpAny_bind (wpAny_letTemporaryGo (wpAny_pure h₃))) fun _ _ x => x)
  first
    | exact wpAny_pure (wpAny_bind fin)
    | exact wpAny_bind (wpAny_pure (wpAny_bind fin))
    | exact wpAny_bind fin

theorem dict_typeIs {X : Cx} {pins : List (Addr × Obj)} {σ : St} {H : Hp} {s : Shared} {a : Addr} {y : V} {o : Option V} (I : Inv X pins σ H s) (g : DGet H a y o) : s.TypeIs (.ref a) "dict" := by
  rcases g with ⟨kvs, k, e, _, _⟩ | ⟨kvs, k, b, e, _, _, _⟩
  · obtain ⟨_, _, vs, _, dd⟩ := dk_rd I.hok e
    exact dd.typeIs
  · obtain ⟨_, _, xs, _, dd⟩ := dt_rd I.hok e
    exact dd.typeIs
/-- d[y] -/
def tDGet (td ty : TE) : TE := fun σ H Q => td σ H fun x H1 => ty σ H1 fun y H2 => ∃ a v, x = .ref a ∧ DGet H2 a y (some v) ∧ Q v H2
def tDNotIn (ty td : TE) : TE := fun σ H Q => ty σ H fun y H1 => td σ H1 fun x H2 => ∃ a o, x = .ref a ∧ DGet H2 a y o ∧ Q (.bl (!o.isSome)) H2
/-- d[y] = v -/
def sDPut (td ty tv : TE) : TS := fun D σ H => tv σ H fun v H1 => td σ H1 fun x H2 => ty σ H2 fun y H3 => ∃ a H4, x = .ref a ∧ DPut H3 a y v H4 ∧ D.nx σ H4
section
variable {X : Cx} {o i e value : Expr} {pos pos' tpos : Pos} {td ty tv : TE}
theorem pe_dget (hu : X.A.units + 1 < cLine) (ho : PE X o td) (hi : PE X i ty) (hs : NoSl i) : PE X (.Subscript o i pos) (tDGet td ty) := by
  intro pins s σ H Q I h
  refine subD_of PySem.F.slot_dict_getitem.lookup hs (thn (ho pins s σ H _ I h) fun u s1 ⟨x, H1, I1, rx, q1⟩ => thn (hi pins s1 σ H1 _ I1 q1) fun iv s2 ⟨y, H2, I2, ry, a, v, ex, g, q2⟩ => ?_)
  subst ex
  obtain rfl : u = Value.ref a := rx
  exact ⟨dict_typeIs I2 g, d_getItem hu I2 g ry fun w' s3 I3 rw' => ⟨v, H2, I3, rw', q2⟩⟩
theorem pc_dnotin (hu : X.A.units + 1 < cLine) (hi : PE X i ty) (ho : PE X o td) : PC X .NotIn i o (tDNotIn ty td) := by
  intro pins s σ H Q I h
  refine thn (hi pins s σ H _ I h) fun iv s1 ⟨y, H1, I1, ry, q1⟩ => thn (ho pins s1 σ H1 _ I1 q1) fun u s2 ⟨x, H2, I2, rx, a, ov, ex, g, q2⟩ => ?_
  subst ex
  obtain rfl : u = Value.ref a := rx
  exact d_notIn hu I2 g ry fun s3 I3 => ⟨.bl (!ov.isSome), H2, I3, rfl, q2⟩
theorem ps_dput (hu : X.A.units + 1 < cLine) (ho : PE X o td) (hi : PE X i ty) (hv : PE X value tv) (hs : swapsWith value (some (.Subscript o i pos')) pos.line X.env = pure false) :
    PS X (.Assign [.Subscript o i pos'] value pos) (sDPut td ty tv) := by
  intro pins s σ H D I h
  refine wpAny_Assign_Subscript (thn (hv pins s σ H _ I h) fun r s1 ⟨v, H1, I1, rv, q1⟩ => thn (ho pins s1 σ H1 _ I1 q1) fun u s2 ⟨x, H2, I2, rx, q2⟩ => thn (hi pins s2 σ H2 _ I2 q2) fun iv s3 ⟨y, H3, I3, ry, a, H4, ex, g, q3⟩ => ?_) hs
  subst ex
  obtain rfl : u = Value.ref a := rx
  exact d_setItem hu I3 g ry rv fun s4 I4 => ⟨σ, H4, I4, q3⟩
end


/-! ### displays -/
section
variable {X : Cx} {pos : Pos}
end

/-! ### methods -/
/-- a method call o.m(e) of a built-in, with one argument: what must be seen of the text -/
structure M1 (X : Cx) (o : Expr) (m : Str) (apos : Pos) (e : Expr) (cpos : Pos) : Prop where
  base : attributeBase o m X.env (eval o X.env) = eval o X.env
  few : ((backTo cpos (starEach [e] X.env)).all (fun x => !x.1) && (backToKw cpos (keywordEach [] X.env)).all (fun x => x.1.isSome)
    && decide (([e] : List Expr).length + ([] : List Keyword).length + (if ([] : List Keyword).isEmpty then 0 else 1) < 30)) = true
  line : (apos.endLine == cpos.line) = true
  trees : backTo cpos (starEach [e] X.env) = [(false, eval e X.env)]
section
variable {X : Cx} {pins : List (Addr × Obj)} {σ : St} {H : Hp} {s : Shared} {a : Addr} {y d : V} {u r : Value} {o : Option V} {A : Around} {E : Value → Shared → Prop}
end

section
variable {X : Cx} {o e f : Expr} {apos cpos : Pos} {td ty tx : TE}
end

/-! ### dict(d): a copy -/
section
variable {X : Cx} {pins : List (Addr × Obj)} {σ : St} {H : Hp} {s : Shared} {a : Addr} {kvs : List (Key × V)} {A : Around} {E : Value → Shared → Prop}
end


section
variable {X : Cx} {pins : List (Addr × Obj)} {σ : St} {H : Hp} {s : Shared} {a : Addr} {y : V} {u : Value} {A : Around} {E : Value → Shared → Prop}
end
section
variable {X : Cx}
/-- len of a dict -/
theorem call_lenD : CallR X (.builtin "len") (fun xs H Q => ∃ a kvs, xs = [V.ref a] ∧ H a = some (.dK kvs) ∧ Q (.int kvs.length) H) := by
  intro pins s σ H xs us Q I r h
  obtain ⟨a, kvs, rfl, ha, q⟩ := h
  obtain ⟨u, rfl, ru⟩ := vals1 r
  cases ru
  exact d_len I (.inl ha) fun t s' I' => ⟨.int kvs.length, H, I', ⟨t, rfl⟩, q⟩
end
/-! ### a dict's pairs: keys that differ -/
section
variable {κ : Type} [DecidableEq κ]
theorem valV_in {kvs : List (κ × V)} {k : κ} {v : V} (h : valV kvs k = some v) : k ∈ kvs.map (·.1) := by
  have q : (kvs.any fun kv => decide (kv.1 = k)) = true := by
    rw [valV_any, h]
    all_goals rfl
  obtain ⟨p, hp, e⟩ := List.any_eq_true.mp q
  exact List.mem_map.mpr ⟨p, hp, of_decide_eq_true e⟩
end
end L2
set_option Elab.async false
set_option linter.all false
set_option maxRecDepth 100000
set_option maxHeartbeats 4000000
namespace L2
open PySem PySem.Spec PyProof.Rows

/-- the very object at a -/
abbrev ObjO (a : Addr) (o : Obj) : HO := .ext fun h => h.get? a = some o
theorem objO_ok {P : Program} {w : World} {H : Hp} {h : Heap} {a : Addr} {o : Obj} (e : h.get? a = some o) : ObjOk P w H h a (ObjO a o) := ⟨e, ⟨o, e⟩, fun _ _ e1 k => k o e1⟩
theorem HOk.obj {P : Program} {w : World} {H : Hp} {h : Heap} {a : Addr} {o : Obj} (x : HOk P w H h) (e : H a = some (ObjO a o)) : h.get? a = some o := (x a _ e).1
/-- what isn't tracked for a while -/
def unT (cs : List Addr) (H : Hp) : Hp := fun b => if b ∈ cs then none else H b
/-- and is again -/
def reT (cs : List Addr) (H H2 : Hp) : Hp := fun b => if b ∈ cs then H b else H2 b
theorem unT_in {cs : List Addr} {H : Hp} {b : Addr} (h : b ∈ cs) : unT cs H b = none := if_pos h
theorem unT_out {cs : List Addr} {H : Hp} {b : Addr} (h : b ∉ cs) : unT cs H b = H b := if_neg h
theorem reT_in {cs : List Addr} {H H2 : Hp} {b : Addr} (h : b ∈ cs) : reT cs H H2 b = H b := if_pos h
theorem reT_out {cs : List Addr} {H H2 : Hp} {b : Addr} (h : b ∉ cs) : reT cs H H2 b = H2 b := if_neg h
theorem unT_some {cs : List Addr} {H : Hp} {b : Addr} {o : HO} (e : unT cs H b = some o) : b ∉ cs ∧ H b = some o := by
  by_cases h : b ∈ cs
  · rw [unT_in h] at e; cases e
  · rw [unT_out h] at e; exact ⟨h, e⟩
theorem unT_none {cs : List Addr} {H : Hp} {b : Addr} (e : H b = none) : unT cs H b = none := by
  by_cases h : b ∈ cs
  · exact unT_in h
  · rw [unT_out h]; exact e
section
variable {P : Program} {w : World} {H H2 : Hp} {h h' : Heap} {cs fs ex : List Addr}
theorem HOk.unT (hok : HOk P w H h) (hc : ∀ c ∈ cs, ∃ o, H c = some (ObjO c o)) : HOk P w (L2.unT cs H) h := fun a o e => by
  obtain ⟨n, e⟩ := unT_some e
  refine (hok a o e).stay (fun _ _ _ q => q) (fun c q => ?_) fun c xs q => ?_
  · rw [unT_out fun z => ?_]; exact q
    obtain ⟨o', e'⟩ := hc c z
    rw [q] at e'; cases e'
  · rw [unT_out fun z => ?_]; exact q
    obtain ⟨o', e'⟩ := hc c z
    rw [q] at e'; cases e'
theorem HOk.reT (hok : HOk P w H2 h) (n2 : ∀ c ∈ cs, H2 c = none) (hc : ∀ c ∈ cs, ∃ o, H c = some (ObjO c o) ∧ h.get? c = some o) : HOk P w (L2.reT cs H H2) h := fun a o e => by
  by_cases ha : a ∈ cs
  · rw [reT_in ha] at e
    obtain ⟨o', e1, e2⟩ := hc a ha
    rw [e1] at e
    cases e
    exact objO_ok e2
  · rw [reT_out ha] at e
    refine (hok a o e).stay (fun _ _ _ q => q) (fun c q => ?_) fun c xs q => ?_
    · rw [reT_out fun z => ?_]; exact q
      rw [n2 c z] at q; cases q
    · rw [reT_out fun z => ?_]; exact q
      rw [n2 c z] at q; cases q
/-- the tracked ones go out of sight -/
theorem un_drop {H' : Hp} (u : Un fs ex H H' h h') (hok : HOk P w H h) (hok' : HOk P w H' h') (hc : ∀ c ∈ cs, ∃ o, H c = some (ObjO c o) ∧ H' c = some (ObjO c o)) : Un fs ex (unT cs H) (unT cs H') h h' := by
  have cell : ∀ b ∈ cs, ∀ o, h.get? b = some o → h'.get? b = some o := fun b hb o q => by
    obtain ⟨o', e1, e2⟩ := hc b hb
    have q1 := hok.obj e1
    rw [q] at q1; cases q1
    exact hok'.obj e2
  have out : ∀ {b o}, H b = some o → (∀ a ob, o ≠ ObjO a ob) → b ∉ cs := fun {b o} e n z => by
    obtain ⟨o', e1, _⟩ := hc b z
    rw [e] at e1; cases e1
    exact n _ _ rfl
  refine ⟨fun b o q n hb hx => ?_, fun b o q n hb hx => ?_, fun b o q n hx => ?_, u.there, fun b xs q => ?_, fun b o v q => ?_, fun b ps q => ?_⟩
  · by_cases z : b ∈ cs
    · exact cell b z o q
    · rw [unT_out z] at n; exact u.keep b o q n hb hx
  · by_cases z : b ∈ cs
    · exact ⟨o.slots, cell b z o q⟩
    · rw [unT_out z] at n; exact u.slot b o q n hb hx
  · by_cases z : b ∈ cs
    · exact unT_in z
    · rw [unT_out z] at n ⊢; exact u.free b o q n hx
  · obtain ⟨z, q⟩ := unT_some q
    rw [unT_out z]; exact u.tups b xs q
  · obtain ⟨z, q⟩ := unT_some q
    rw [unT_out z]; exact u.frzs b o v q
  · obtain ⟨z, q⟩ := unT_some q
    rw [unT_out z]; exact u.tbls b ps q
/-- and come back -/
theorem un_add (u : Un fs ex (unT cs H) H2 h h') (hc : ∀ c ∈ cs, ∃ o, H c = some (ObjO c o)) : Un fs ex H (reT cs H H2) h h' := by
  have out : ∀ {b}, H b = none → b ∉ cs := fun {b} n z => by
    obtain ⟨o, e⟩ := hc b z
    rw [n] at e; cases e
  refine ⟨fun b o q n hb hx => u.keep b o q (unT_none n) hb hx, fun b o q n hb hx => u.slot b o q (unT_none n) hb hx, fun b o q n hx => ?_, u.there, fun b xs q => ?_, fun b o v q => ?_, fun b ps q => ?_⟩
  · rw [reT_out (out n)]; exact u.free b o q (unT_none n) hx
  · have z : b ∉ cs := fun z => by
      obtain ⟨o', e⟩ := hc b z
      rw [q] at e; cases e
    rw [reT_out z]; exact u.tups b xs (by rw [unT_out z]; exact q)
  · have z : b ∉ cs := fun z => by
      obtain ⟨o', e⟩ := hc b z
      rw [q] at e; cases e
    rw [reT_out z]; exact u.frzs b o v (by rw [unT_out z]; exact q)
  · have z : b ∉ cs := fun z => by
      obtain ⟨o', e⟩ := hc b z
      rw [q] at e; cases e
    rw [reT_out z]; exact u.tbls b ps (by rw [unT_out z]; exact q)
end

/-- the cells of a closure, with the values of the names N -/
structure CellsAt (H : Hp) (cl : List (Str × Addr)) (N : List Str) (ws : List V) : Prop where
  len : ws.length = N.length
  val : ∀ (i : Nat) (x : Str) (v : V), N[i]? = some x → ws[i]? = some v → ∃ c o u, cl.lookup x = some c ∧ c ∈ cl.map (·.2) ∧ H c = some (ObjO c o) ∧ o.data = .cell (some u) ∧ RelV v u
  all : ∀ c ∈ cl.map (·.2), ∃ o v, H c = some (ObjO c o) ∧ o.data = .cell v
theorem CellsAt.mono {H H' : Hp} {cl : List (Str × Addr)} {N : List Str} {ws : List V} (C : CellsAt H cl N ws) (h : ∀ c ∈ cl.map (·.2), H' c = H c) : CellsAt H' cl N ws :=
  ⟨C.len, fun i x v h1 h2 => by
    obtain ⟨c, o, u, e1, e2, e3, r⟩ := C.val i x v h1 h2
    exact ⟨c, o, u, e1, e2, by rw [h c e2]; exact e3, r⟩, fun c hc => by
    obtain ⟨o, v, e, r⟩ := C.all c hc
    exact ⟨o, v, by rw [h c hc]; exact e, r⟩⟩
/-- a code object's name -/
def CodeIs (o : Obj) (q : Str) : Prop := ∃ vs t, o.data = .fields vs ∧ vs[1]? = some (.str q t)

/-- the context of a lambda's expression -/
def cxLam (P : Program) (w : World) (K : PySem.W.Frag) (mg : Str → Option Value) (base : Heap) (N : List Str) (qual : Str) (scope : Scope) (f : Addr) (cd : Value) (cl : List (Str × Addr)) (A : Around) (outer : List Env) (s : Shared) (H : Hp) (E : XK) : Cx where
  prog := P
  w := w
  K := K
  mg := mg
  base := base
  A := A.deeper (PySem.W.envX qual scope s.heap.objs.size f cd cl)
  N := N
  s₀ := s
  H₀ := H
  env := PySem.W.envX qual scope s.heap.objs.size f cd cl
  outer := outer
  stack := PySem.W.envX qual scope s.heap.objs.size f cd cl :: outer
  ex := []
  calm := true
  fn := fun _ => false
  pn := []
  xe := fun e s' => wpAny (model P w) (A.deeper (PySem.W.envX qual scope s.heap.objs.size f cd cl)) (leaving (PySem.W.envX qual scope s.heap.objs.size f cd cl) e) (fun _ s'' => CXw P w outer H s E e s'') (fun e' s'' => CXw P w outer H s E e' s'') s'

section
variable {P : Program} {w : World} {K : PySem.W.Frag} {mg : Str → Option Value} {base : Heap}
theorem fnx_lam {N : List Str} {qual : Str} {scope : Scope} {f : Addr} {cd : Value} {cl : List (Str × Addr)} {A : Around} {outer : List Env} {s : Shared} {H : Hp} {E : XK} : FnX (cxLam P w K mg base N qual scope f cd cl A outer s H E) E := ⟨rfl, rfl, rfl, rfl, fun _ _ h => h⟩

end
end L2
set_option Elab.async false
set_option linter.all false
set_option maxRecDepth 100000
set_option maxHeartbeats 4000000
namespace L2
open PySem PySem.Spec PyProof.Rows

/-- a code's table: each code that stands there is known, and has this name -/
def TabOk (H : Hp) (q : Str) (ps : Array Value) : Prop := TriplesOk ps.toList ∧ ∀ pos cv, PySem.codeAmong pos ps.toList = some cv → ∃ c' co, cv = .ref c' ∧ H c' = some (ObjO c' co) ∧ CodeIs co q
def TabAt (H : Hp) (P : Addr) (q : Str) : Prop := ∃ ps, H P = some (.tbl ps) ∧ TabOk H q ps
theorem triples_snoc {a b : Int} {t u : Tok} {c : Value} : ∀ (l : List Value), TriplesOk l → TriplesOk (l ++ [.int a t, .int b u, c])
  | [], _ => trivial
  | .int _ _ :: .int _ _ :: _ :: r, h => triples_snoc r h
theorem among_snoc {pos : Pos} {a b : Int} {t u : Tok} {c cv : Value} : ∀ (l : List Value), TriplesOk l → PySem.codeAmong pos (l ++ [.int a t, .int b u, c]) = some cv → PySem.codeAmong pos l = some cv ∨ cv = c
  | [], _, h => by
    unfold PySem.codeAmong at h
    simp only [List.nil_append] at h
    split at h
    · cases h; exact .inr rfl
    · simp [PySem.codeAmong] at h
  | .int i _ :: .int j _ :: d :: r, hT, h => by
    simp only [List.cons_append] at h
    unfold PySem.codeAmong at h ⊢
    split at h
    · rename_i q
      rw [if_pos q]; exact .inl h
    · rename_i q
      rw [if_neg q]; exact among_snoc r hT h

/-- a lambda as a value: H but the table, the function and its code beside -/
def tLam (P : Addr) (params : Arguments) (body : Expr) (scope : Scope) (qual : Str) (cl : List (Str × Addr)) : TE := fun _ H Q =>
  TabAt H P qual ∧ ∀ (H1 : Hp) (f c' : Addr) (co : Obj) (pm ctv : Value), CodeIs co qual → H1 f = some (ObjO f (PySem.W.kla_obj "<lambda>" qual params body scope cl pm c' ctv)) → H1 c' = some (ObjO c' co) →
    (∀ b o, b ≠ P → H b = some o → H1 b = some o) → TabAt H1 P qual → (∀ b, b = f ∨ b = c' ∨ b = P ∨ H1 b = H b) → Q (.ref f) H1

theorem pe_lam {X : Cx} {P c : Addr} {params : Arguments} {body : Expr} {scope : Scope} {cl : List (Str × Addr)} {pos : Pos} (hcode : X.env.code = .ref c) (C : PySem.W.CodeHd X.base c P) (hb : X.base.BuiltinsAt X.mg P)
    (hdef : defaultsOf params X.env = ([], [])) (hcl : closureFor scope X.env = pure cl) : PE X (.Lambda params body scope pos) (tLam P params body scope (X.env.qual ++ "<lambda>") cl) := by
  intro pins s σ H Q I h
  obtain ⟨⟨ps, hP, hT, hA⟩, h⟩ := h
  have gP : s.heap.get? P = some (PySem.W.tabObj ps) := I.hok P _ hP
  have nb : ∀ {b o}, X.base.get? b = some o → b ≠ P := fun {b o} e z => by
    have := (I.bs b o e).2
    rw [z, hP] at this; cases this
  have hgP : mainGlobals ≠ P := by
    obtain ⟨o, es, ep, e, _⟩ := I.mod.glob
    exact nb e
  have hg : s.heap.Ns mainGlobals X.mg := I.mod.glob.keeps I.bk
  have hb' : s.heap.BuiltinsAt X.mg P := by
    obtain ⟨bm, o, b1, b2, b3, b4, b5, r⟩ := hb
    exact ⟨bm, o, b1, b2, b3, b4, I.bk _ _ b5, r⟩
  refine PySem.W.kla_eval hdef ?_
  cases hf : PySem.codeAmong pos ps.toList with
  | none =>
    refine PySem.W.kla_makeFunction hcl I.ok.glob hg hcode (C.keeps I.bk) gP hT hf hgP hb' fun c' ctv h' tk hx hge hlt hrec htb => ?_
    obtain ⟨c₂, co, vs, t, e2, hoc, hd, hv⟩ := hrec
    cases e2
    have kp : ∀ b o, b ≠ P → s.heap.get? b = some o → (h'.push (PySem.W.kla_obj "<lambda>" (X.env.qual ++ "<lambda>") params body scope cl ((X.mg "__name__").getD .none) c' ctv)).get? b = some o := fun b o n e => Heap.get?_push_of_some _ (hx b o n e)
    have sz : s.heap.objs.size ≤ h'.objs.size := Nat.le_of_lt (Nat.lt_of_le_of_lt hge hlt)
    have nc : H c' = none := I.hok.fresh hge
    have nf : H h'.objs.size = none := I.hok.fresh sz
    have cP : c' ≠ P := fun z => by rw [z, hP] at nc; cases nc
    have fP : h'.objs.size ≠ P := fun z => by rw [z, hP] at nf; cases nf
    have fc : h'.objs.size ≠ c' := Nat.ne_of_gt hlt
    let ps' : Array Value := ps ++ #[rawInt pos.line, rawInt pos.col, .ref c']
    let fo : Obj := PySem.W.kla_obj "<lambda>" (X.env.qual ++ "<lambda>") params body scope cl ((X.mg "__name__").getD .none) c' ctv
    let H1 : Hp := upd (upd (upd H P (.tbl ps')) c' (ObjO c' co)) h'.objs.size (ObjO h'.objs.size fo)
    have e1 : H1 h'.objs.size = some (ObjO h'.objs.size fo) := upd_same
    have e2 : H1 c' = some (ObjO c' co) := by show upd _ _ _ _ = _; rw [upd_ne fc.symm]; exact upd_same
    have e3 : H1 P = some (.tbl ps') := by show upd _ _ _ _ = _; rw [upd_ne fP.symm, upd_ne cP.symm]; exact upd_same
    have e4 : ∀ b, b ≠ P → b ≠ c' → b ≠ h'.objs.size → H1 b = H b := fun b n1 n2 n3 => by show upd _ _ _ _ = _; rw [upd_ne n3, upd_ne n2, upd_ne n1]
    have e5 : ∀ b o, b ≠ P → H b = some o → H1 b = some o := fun b o n e => by
      rw [e4 b n (ne_of_none e nc) (ne_of_none e nf)]; exact e
    have gc : (h'.push fo).get? c' = some co := Heap.get?_push_of_some _ hoc
    have gf : (h'.push fo).get? h'.objs.size = some fo := Heap.get?_push_size _ rfl
    have gP' : (h'.push fo).get? P = some (PySem.W.tabObj ps') := Heap.get?_push_of_some _ htb
    have hok : HOk X.prog X.w H1 (h'.push fo) := fun b u e => by
      by_cases z1 : b = h'.objs.size
      · subst z1; rw [e1] at e; cases e; exact objO_ok gf
      by_cases z2 : b = c'
      · subst z2; rw [e2] at e; cases e; exact objO_ok gc
      by_cases z3 : b = P
      · subst z3; rw [e3] at e; cases e; exact gP'
      rw [e4 b z3 z2 z1] at e
      refine (I.hok b u e).stay (fun a ob ha q => kp a ob ?_ q) (fun a q => e5 a _ ?_ q) fun a xs q => e5 a _ ?_ q
      · rcases ha with rfl | ha
        · exact z3
        · intro z; rw [z, hP] at ha; cases ha
      · intro z; rw [z, hP] at q; cases q
      · intro z; rw [z, hP] at q; cases q
    have un : Un X.fs [] H H1 s.heap (h'.push fo) := by
      have neP : ∀ b, H b = none → b ≠ P := fun b n z => by rw [z, hP] at n; cases n
      refine ⟨fun b o q n _ _ => kp b o (neP b n) q, fun b o q n _ _ => ⟨o.slots, kp b o (neP b n) q⟩, fun b o q n _ => ?_, fun b o q _ => ?_, fun b xs q => e5 b _ ?_ q, fun b o u q => e5 b _ ?_ q, fun b qs q => ?_⟩
      · rw [e4 b (neP b n) (Nat.ne_of_lt (Nat.lt_of_lt_of_le (Heap.lt_size q) hge)) (Nat.ne_of_lt (Nat.lt_of_lt_of_le (Heap.lt_size q) sz))]; exact n
      · by_cases z : b = P
        · exact ⟨_, by rw [z]; exact gP'⟩
        · exact ⟨o, kp b o z q⟩
      · intro z; rw [z, hP] at q; cases q
      · intro z; rw [z, hP] at q; cases q
      · by_cases z : b = P
        · subst z
          rw [hP] at q; cases q
          exact ⟨_, e3⟩
        · exact ⟨#[], by rw [e5 b _ z q]; simp⟩
    refine ⟨.ref h'.objs.size, H1, I.un (t' := tk) un hok, rfl, h H1 h'.objs.size c' co _ ctv ⟨vs, t, hd, hv⟩ e1 e2 e5 ⟨ps', e3, ?_, fun pos2 cv ha => ?_⟩ fun b => ?_⟩
    · show TriplesOk (ps ++ #[rawInt pos.line, rawInt pos.col, .ref c']).toList
      rw [Array.toList_append]
      exact triples_snoc _ hT
    · have ha' : PySem.codeAmong pos2 (ps.toList ++ [rawInt pos.line, rawInt pos.col, .ref c']) = some cv := by
        have : ps'.toList = ps.toList ++ [rawInt pos.line, rawInt pos.col, .ref c'] := by show (ps ++ #[rawInt pos.line, rawInt pos.col, .ref c']).toList = _; rw [Array.toList_append]
        rw [← this]; exact ha
      rcases among_snoc _ hT ha' with z | z
      · obtain ⟨d, do', y1, y2, y3⟩ := hA pos2 cv z
        exact ⟨d, do', y1, e5 _ _ (fun z => by rw [z, hP] at y2; cases y2) y2, y3⟩
      · exact ⟨c', co, z, e2, vs, t, hd, hv⟩
    · by_cases z1 : b = h'.objs.size
      · exact .inl z1
      by_cases z2 : b = c'
      · exact .inr (.inl z2)
      by_cases z3 : b = P
      · exact .inr (.inr (.inl z3))
      exact .inr (.inr (.inr (e4 b z3 z2 z1)))
  | some cv =>
    obtain ⟨c', co, rfl, hc', hco⟩ := hA pos cv hf
    refine PySem.W.kla_makeFunctionHit hcl I.ok.glob hg hcode (C.keeps I.bk) gP hT hf hb' fun ctv h' tk hk hsz => ?_
    have nf : H h'.objs.size = none := I.hok.fresh hsz
    have e5 : ∀ b o, H b = some o → upd H h'.objs.size (ObjO h'.objs.size (PySem.W.kla_obj "<lambda>" (X.env.qual ++ "<lambda>") params body scope cl ((X.mg "__name__").getD .none) c' ctv)) b = some o := fun b o e => by rw [upd_ne (ne_of_none e nf)]; exact e
    refine ⟨.ref h'.objs.size, _, I.laid (t' := tk) (a := h'.objs.size) (o := ObjO h'.objs.size (PySem.W.kla_obj "<lambda>" (X.env.qual ++ "<lambda>") params body scope cl ((X.mg "__name__").getD .none) c' ctv)) (fun b o e => Heap.get?_push_of_some _ (hk b o e)) hsz (objO_ok (Heap.get?_push_size _ rfl)), rfl,
      h _ h'.objs.size c' co _ ctv hco upd_same (e5 _ _ hc') (fun b o _ e => e5 b o e) ⟨ps, e5 _ _ hP, hT, fun pos2 cv ha => ?_⟩ fun b => ?_⟩
    · obtain ⟨d, do', y1, y2, y3⟩ := hA pos2 cv ha
      exact ⟨d, do', y1, e5 _ _ y2, y3⟩
    · by_cases z : b = h'.objs.size
      · exact .inl z
      · exact .inr (.inr (.inr (upd_ne z)))

/-! ### f(e, ..), the callee given the cells of this frame to see -/
def tCallC (sp : Sp) (cl : List (Str × Addr)) (N : List Str) (NX : List Str) (t : TA) : TE := fun σ H Q => t σ H fun vs H1 => ∃ ws : List V, ws.length = N.length ∧
  (∀ (i : Nat) (x : Str) (v : V), N[i]? = some x → ws[i]? = some v → ∃ j : Nat, NX[j]? = some x ∧ σ[j]? = some (some v)) ∧
  ∀ Hc : Hp, unT (cl.map (·.2)) Hc = H1 → (∀ b, b ∉ cl.map (·.2) → Hc b = H1 b) → (∀ b o, H1 b = some o → Hc b = some o) → CellsAt Hc cl N ws → sp vs Hc (fun v H2 => (∀ c ∈ cl.map (·.2), H2 c = Hc c) ∧ Q v (unT (cl.map (·.2)) H2)) E0
theorem pe_callC {X : Cx} {k : Nat} {f : Addr} {fd : FuncData} {ps : List Str} {sp : Sp} {x : Str} {p pos : Pos} {e : Expr} {es : List Expr} {t : TA} {cl : List (Str × Addr)} {N : List Str}
    (F : FnOk X.prog X.w X.K X.mg X.base CX0 k f fd ps sp) (hr : Room k X.A) (hg : Gl X x) (hm : X.mg x = some (.ref f)) (hk : PySem.W.keepIn X.K (.ref f) = true) (hb : Binds X.K fd ps [])
    (ha : PA X (e :: es) t) (hcl : ∀ y c, cl.lookup y = some c → X.env.cells.lookup y = some c) (hmem : ∀ c ∈ cl.map (·.2), ∃ y, cl.lookup y = some c) (hN : ∀ y ∈ N, X.env.scope.names.lookup y = some .cell ∧ ∃ c, cl.lookup y = some c) (hfn : ∀ y, X.fn y = true)
    (hdb : (x == ("__debug__" : Str)) = false := by decide) (he : starEach (e :: es) X.env = (false, eval e X.env) :: starEach es X.env := by rfl) (hpl : (backTo pos (starEach es X.env)).any (·.1) = false := by rfl) :
    PE X (.Call (.Name x p) (e :: es) [] pos) (tCallC sp cl N X.N t) := by
  intro pins s σ H Q I h
  refine wpAny_Call_Name_kw (ld_glob I hg hm ?_ hdb)
  refine PySem.W.callWith_K (h₀ := X.base) I.ok.mod.kin hk (thn (ha pos pins s σ H _ I h) fun us s1 ⟨vs, H1, I1, r, q⟩ => ⟨I1.kIn, ?_⟩) he hpl
  obtain ⟨ws, hl, hw, q⟩ := q
  let cs := cl.map (·.2)
  let Hv : Hp := fun b => (s1.heap.get? b).map (ObjO b)
  have cell : ∀ c ∈ cs, ∃ y o v, cl.lookup y = some c ∧ X.env.cells.lookup y = some c ∧ s1.heap.get? c = some o ∧ o.data = .cell v ∧ Hv c = some (ObjO c o) ∧ H1 c = none := fun c hc => by
    obtain ⟨y, e⟩ := hmem c hc
    have e' := hcl y c e
    obtain ⟨v, o, g, d⟩ := I1.cell y c e'
    exact ⟨y, o, v, e, e', g, d, by show Option.map _ _ = _; rw [g]; rfl, I1.freeC y c e'⟩
  have hok : HOk X.prog X.w (reT cs Hv H1) s1.heap := I1.hok.reT (fun c hc => by
    obtain ⟨y, o, v, _, _, g, d, a, n⟩ := cell c hc
    exact n) fun c hc => by
    obtain ⟨y, o, v, _, _, g, d, a, n⟩ := cell c hc
    exact ⟨o, a, g⟩
  have hi : ∀ c ∈ cs, X.s₀.heap.objs.size ≤ c := fun c hc => by
    obtain ⟨y, o, v, _, e', _⟩ := cell c hc
    exact I1.ok.cab y c (hfn y) e'
  have e0 : Env0 X.prog X.w X.K X.mg X.base X.A X.stack s1 (reT cs Hv H1) := by
    have z := I1.env0
    refine ⟨z.frames, z.mod, fun b o e => ⟨(z.bs b o e).1, ?_⟩, z.bsz, z.funs, fun b hb => ?_, hok, z.bare⟩
    · rw [reT_out fun w => ?_]; exact (z.bs b o e).2
      exact absurd (Heap.lt_size e) (Nat.not_lt.mpr (Nat.le_trans I1.ok.bsz (hi b w)))
    · rw [reT_out fun w => ?_]; exact z.frf b hb
      rcases List.mem_cons.mp (I1.stkSub b hb) with y | y
      · obtain ⟨y', o, v, _, e', _⟩ := cell b w
        exact I1.cne y' b e' y
      · obtain ⟨_, o', g, _⟩ := I1.ok.funs.mem y
        exact absurd (Heap.lt_size g) (Nat.not_lt.mpr (hi b w))
  have eU : unT cs (reT cs Hv H1) = H1 := by
    funext b
    by_cases hb : b ∈ cs
    · rw [unT_in hb]
      obtain ⟨y, o, v, _, _, g, d, a, n⟩ := cell b hb
      exact n.symm
    · rw [unT_out hb, reT_out hb]
  have CA : CellsAt (reT cs Hv H1) cl N ws := ⟨hl, fun i y v h1 h2 => by
    obtain ⟨j, hj, hσ⟩ := hw i y v h1 h2
    obtain ⟨kc, c, ec⟩ := hN y (List.mem_of_getElem? h1)
    obtain ⟨m, _, hlk⟩ := I1.loc
    obtain ⟨u, ru, lk⟩ := hlk j y v hj hσ (.inr (.inl kc))
    have ec' := hcl y c ec
    have hcm : c ∈ cs := by
      obtain ⟨p, hp, e⟩ : ∃ p ∈ cl, p.2 = c := ⟨(y, c), PySem.mem_of_lookup ec, rfl⟩
      exact List.mem_map.mpr ⟨p, hp, e⟩
    rcases lk with ⟨kl, _⟩ | ⟨_, c2, e2, o, g, d⟩
    · have : X.env.scope.names.lookup y = some .local := kl
      rw [kc] at this; cases this
    · rw [ec'] at e2; cases e2
      exact ⟨c, o, u, ec, hcm, by rw [reT_in hcm]; show Option.map _ _ = _; rw [g]; rfl, d, ru⟩, fun c hc => by
    obtain ⟨y, o, v, _, _, g, d, a, n⟩ := cell c hc
    exact ⟨o, v, by rw [reT_in hc]; exact a, d⟩⟩
  have q2 := q (reT cs Hv H1) eU (fun b hb => reT_out hb) (fun b o e => by
    rw [reT_out fun w => ?_]; exact e
    obtain ⟨y, o', v, _, _, g, d, a, n⟩ := cell b w
    rw [n] at e; cases e) CA
  have r2 : Vals (vs ++ []) (us ++ []) := r.append .nil
  have hl2 : (us ++ []).length = ps.length := by rw [← r2.length, List.append_nil]; exact F.len _ _ _ _ q2
  refine wpAny_call (codeAny_mono (F.run X.A X.stack s1 (reT cs Hv H1) ⟨us, []⟩ (us ++ []) vs _ E0 hr e0 (hb s1 us I1.kIn hl2) (by rw [List.append_nil]; exact r) q2) fun rr s' hq => ?_)
  cases rr with
  | error ev => exact hq.elim
  | ok fl =>
    cases fl with
    | ret u =>
      obtain ⟨v, H2, os, bare, un, hok2, rv, same, q3⟩ := hq
      have hcs : ∀ c ∈ cs, ∃ o, reT cs Hv H1 c = some (ObjO c o) ∧ H2 c = some (ObjO c o) := fun c hc => by
        obtain ⟨y, o, v, _, _, g, d, a, n⟩ := cell c hc
        have z : reT cs Hv H1 c = some (ObjO c o) := by rw [reT_in hc]; exact a
        exact ⟨o, z, by rw [same c hc]; exact z⟩
      have un2 := un_drop un hok hok2 hcs
      rw [eU] at un2
      exact I1.after ⟨v, unT cs H2, os, bare, un2, hok2.unT (fun c hc => by
        obtain ⟨o, _, z⟩ := hcs c hc
        exact ⟨o, z⟩), rv, q3⟩
    | next => exact False.elim hq
    | brk => exact False.elim hq
    | cont => exact False.elim hq

/-! ### try: y = c() / except Y as n: suite, c a function in the slot q -/
def tTryL (K : PySem.W.Frag) (CB : Addr) (sp : Sp) (q : Nat) (f : Addr) (j i : Nat) (ts : TS) : TS := fun D σ H => σ[q]? = some (some (.ref f)) ∧ (∃ fd : FuncData, H f = some (ObjO f { cls := .type "function", data := .func fd })) ∧ sp [] H (fun v H2 => D.nx (σ.set j (some v)) H2) (eTry K CB i ts D σ)
theorem ps_tryLam {X : Cx} {k : Nat} {f CB : Addr} {fd : FuncData} {sp : Sp} {x y n : Str} {p pos1 pos2 py ph pos : Pos} {j i q : Nat} {n0 : Str} {p0 : Pos} {b₀ : Stmt} {suite : List Stmt} {ts : TS}
    (F : FnOk X.prog X.w X.K X.mg X.base (CXw X.prog X.w) k f fd [] sp) (hr : Room k X.A) (hb : ∀ s, BindsTo s fd ⟨[], []⟩ []) (hq : X.N[q]? = some x) (hv : Vis X.env.scope x)
    (hst : X.stack = X.env :: X.outer) (hfm : X.env.frame = some X.env.locals) (hex : X.ex = [])
    (hy : Gl X y) (hyC : X.mg y = some (.ref CB)) (hN : X.N.Nodup) (hi : X.N[i]? = some n) (hn : X.env.scope.names.lookup n = some .local)
    (ht : PySem.W.typeIn X.K (.ref CB) = some (.type "type")) (hB : PySem.W.mroIn X.K CB (.type "BaseException") = some true) (hs : ∀ ea E', PSs (X.held ea E') (b₀ :: suite) ts) (hj : X.N[j]? = some n0) (hn0 : X.env.scope.names.lookup n0 = some .local)
    (hdb : (x == ("__debug__" : Str)) = false := by decide) (hcd : (x == ("__classdict__" : Str)) = false := by decide) (hdy : (y == ("__debug__" : Str)) = false := by decide)
    (hsw : swapsWith (.Call (.Name x p) [] [] pos1) (some (.Name n0 p0)) pos2.line X.env = pure false := by rfl) :
    PS X (.Try [.Assign [.Name n0 p0] (.Call (.Name x p) [] [] pos1) pos2] [.ExceptHandler (some (.Name y py)) (some n) (b₀ :: suite) ph] [] [] pos) (tTryL X.K CB sp q f j i ts) := by
  intro pins s σ H D I h
  refine wpAny_Try_except ?_
  have hfr : X.A.frames = some (X.env :: X.outer) := by rw [I.ok.frames, hst]
  -- the landing
  have lands : ∀ (H1 : Hp) (s1 : Shared) (ev : Value) (s' : Shared), Inv X pins σ H1 s1 → CXw X.prog X.w X.stack H1 s1 (eTry X.K CB i ts D σ) ev s' →
      wpAny (model X.prog X.w) X.A (noteFrame ev X.env) (fun _ s₂ => wpAny (model X.prog X.w) X.A (setFlight ev none) (fun _ s₃ => wpAny (model X.prog X.w) X.A (handleBy ev X.env [.ExceptHandler (some (.Name y py)) (some n) (b₀ :: suite) ph]) (SP X pins D) X.xe s₃) X.xe s₂) X.xe s' := by
    intro H1 s1 ev s' I1 hx
    obtain ⟨ea, cls, H', rfl, W, C, rfl, mC, q⟩ := hx
    obtain ⟨a0, B, fl, inT, inB, inA⟩ := W.ex
    have fl' : Heap.FlyingW B (X.env :: X.outer) ea (.ref C) a0 s'.heap := by rw [← hst]; exact fl
    refine wpAny_looks_onW hfr hfm fl' fun h4 held4 sm4 => ?_
    refine wpAny_landsW held4 fun h5 fl5 sm5 => ?_
    have J5 : Inv X pins σ H' { s' with heap := h5 } := land I1 W inT inB inA fl5.1 (sm4.trans sm5)
    have of5 : IsOf ea C h5 := by
      obtain ⟨ob, e1, e2⟩ := fl5.there
      exact ⟨ob, e1, e2⟩
    refine wpAny_handleBy_cons (codeAny_handlers_test ?_) (by intro q; cases q)
    refine ld_glob (J5.held ea (fun _ _ => False)) hy hyC ?_ hdy
    refine exc_matches (s := { s' with heap := h5 }) J5.kIn of5 ht hB mC ?_
    refine codeAny_handlers_suite_as ?_
    refine lands_againW fl5 fun h6 fl6 sm6 => ?_
    have J6 : Inv X pins σ H' { s' with heap := h6 } := land I1 W inT inB inA fl6.1 ((sm4.trans sm5).trans sm6)
    have of6 : IsOf ea C h6 := by
      obtain ⟨ob, e1, e2⟩ := fl6.there
      exact ⟨ob, e1, e2⟩
    have n0 : X.s₀.heap.get? ea = none := by
      cases z : X.s₀.heap.get? ea with
      | none => rfl
      | some o =>
        obtain ⟨o', q'⟩ := I1.base.there ea o z (by rw [hex]; simp)
        rw [W.new] at q'
        cases q'
    have n1 : ea ≠ X.env.locals := fun z => by
      obtain ⟨m, ⟨o, _, _, ho, _⟩, _⟩ := I1.loc
      rw [← z, W.new] at ho
      cases ho
    have n2 : ∀ x c, X.env.cells.lookup x = some c → c ≠ ea := fun x c e z => by
      obtain ⟨v, o, ho, _⟩ := I1.cell x c e
      rw [z, W.new] at ho
      cases ho
    have n3 : ∀ p ∈ X.pn ++ pins, p.1 ≠ ea := fun p hp z => by
      have ho := (I1.pin p hp).1
      rw [z, W.new] at ho
      cases ho
    have K6 : Inv X pins σ (upd H' ea (ExcO ea C)) { s' with heap := h6 } := J6.track n0 n1 n2 n3 W.free (excO_ok of6)
    refine store_ok K6 hN hi (.inl hn) (v := .ref ea) rfl (fun s7 I7 => ?_) (.inr hn)
    refine wpAny_mono (hs ea _ pins s7 _ _ _ (I7.held ea _) (q ea W.free)) (fun fl s8 h8 => ?_) fun _ _ z => z
    cases fl with
    | next =>
      obtain ⟨σ8, H8, J8, q8⟩ := h8
      exact (J8.unheld I1.ok).goes hN hi hn fun s9 I9 => ⟨_, H8, I9, q8⟩
    | brk =>
      obtain ⟨σ8, H8, J8, q8⟩ := h8
      exact (J8.unheld I1.ok).goes hN hi hn fun s9 I9 => ⟨_, H8, I9, q8⟩
    | cont =>
      obtain ⟨σ8, H8, J8, q8⟩ := h8
      exact (J8.unheld I1.ok).goes hN hi hn fun s9 I9 => ⟨_, H8, I9, q8⟩
    | ret u =>
      obtain ⟨v8, σ8, H8, J8, r8, q8⟩ := h8
      exact (J8.unheld I1.ok).goes hN hi hn fun s9 I9 => ⟨v8, _, H8, I9, r8, q8⟩
  obtain ⟨hσ, ⟨fd', hf⟩, hsp⟩ := h
  refine wpAny_execs_cons (wpAny_Assign_Name ?_ hsw)
  have I' := I.wish (fun ev s' => wpAny (model X.prog X.w) X.A (noteFrame ev X.env) (fun _ s₂ => wpAny (model X.prog X.w) X.A (setFlight ev none) (fun _ s₃ => wpAny (model X.prog X.w) X.A (handleBy ev X.env [.ExceptHandler (some (.Name y py)) (some n) (b₀ :: suite) ph]) (SP X pins D) X.xe s₃) X.xe s₂) X.xe s')
  have pvv : ∀ E', PE (X.wish E') (.Name x p) (tVar q) := fun E' => pe_var (X := X.wish E') hq hv hdb hcd
  refine wpAny_Call_Name_kw (thn (pvv _ pins s σ H (fun v H1 => v = .ref f ∧ H1 = H) I' ⟨_, hσ, rfl, rfl⟩) fun u s1 ⟨v, H1, I1, r, ev, eH⟩ => ?_)
  subst ev
  subst eH
  cases r
  have gf := I1.hok.obj hf
  refine PySem.W.callWith_F0 ⟨_, _, _, _, gf⟩ ?_
  refine wpAny_call (codeAny_mono (F.run X.A X.stack s1 H1 ⟨[], []⟩ [] [] _ _ hr I1.unwish.env0 (hb s1) .nil hsp) fun rr s' hq => ?_)
  cases rr with
  | error ev => exact lands H1 s1 ev s' I1.unwish hq
  | ok fl =>
    cases fl with
    | ret u =>
      obtain ⟨v, H2, J, rv, q2⟩ := I1.unwish.after hq
      exact store_ok J hN hj (.inl hn0) rv (fun s2 I2 => wpAny_execs_nil (wpAny_execs_nil ⟨_, H2, I2, q2⟩)) (.inr hn0)
    | next => exact False.elim hq
    | brk => exact False.elim hq
    | cont => exact False.elim hq
end L2
set_option Elab.async false
set_option linter.all false
set_option maxRecDepth 100000
set_option maxHeartbeats 4000000
namespace L2
open PySem PySem.Spec PyProof.Rows

/-- the code of a def that makes lambdas, and its table -/
theorem tab_code {K : PySem.W.Frag} {x qual : Str} {st : Stmt} {f c P : Addr} {fd : FuncData} (F : Fun K x qual st f fd) (hf : PySem.W.nsIn K mainGlobals x = some (some (.ref f))) (ht : PySem.W.tabIn K x = some (c, P)) : fd.code = .ref c := by
  obtain ⟨oc, od, kV, doc, pm, an, cdv, ct, osl, rfl, lk, hcd⟩ := F.ex
  unfold PySem.W.tabIn at ht
  rw [hf] at ht
  simp only at ht
  rw [lk] at ht
  simp only at ht
  show cdv = .ref c
  cases cdv with
  | ref c2 =>
    simp only at ht
    split at ht
    · split at ht
      · cases ht; rfl
      · cases ht
    · cases ht
  | _ => cases ht
theorem Fun.okC {P : Program} {w : World} {K : PySem.W.Frag} {mg : Str → Option Value} {base : Heap} {x qual : Str} {st : Stmt} {f c T : Addr} {fd : FuncData} {N ps : List Str} {k : Nat} {sp : Sp} (F : Fun K x qual st f fd) (hf : PySem.W.nsIn K mainGlobals x = some (some (.ref f))) (ht : PySem.W.tabIn K x = some (c, T))
    (S : FnScope N ps (defScope st)) (len : ∀ vs H Q E, sp vs H Q E → vs.length = ps.length)
    (hbody : ∀ (A : Around) (outer : List Env) (s : Shared) (H : Hp) (vs : List V) (Q : VK) (E : XK), Room k (A.deeper (envOfC qual (defScope st) s.heap.objs.size f (.ref c))) → sp vs H Q E →
      ∃ t, PSs (cxOf CX0 P w K mg base N qual (defScope st) f (.ref c) A outer s H E) (defBody st) t ∧ t { nx := fun _ H' => Q .non H', rt := Q } (start N vs) H) : FnOk P w K mg base CX0 (k + 1) f fd ps sp := by
  have e := tab_code F hf ht
  obtain ⟨oc, od, kV, doc, pm, an, cdv, ct, osl, rfl, lk, hcd⟩ := F.ex
  have e' : cdv = .ref c := e
  subst e'
  exact fn_of lk hcd S len fun A outer s H vs Q E hr hsp => hbody A outer s H vs Q E hr hsp

theorem law_callT {P : Program} {w : World} {K : PySem.W.Frag} {mg mb : Str → Option Value} {k : Nat} {fa a c T : Addr} {fd : FuncData} {x : Str} {sp : Sp} {s₁ : Shared} {vs : List Value} {ns : List Int}
    (KX : K.In s₁.heap) (hns : s₁.heap.Ns mainGlobals mg) (hb : s₁.heap.Ns builtinsNs mb) (hbb : ∀ x : Str, x ≠ "__name__" → mb x = bootBuiltins x) (hlim : s₁.heap.NoLimit) (hg : s₁.gens = #[])
    (hbm : ∃ bm ob, mg "__builtins__" = some (.ref bm) ∧ bm ≠ builtinsNs ∧ s₁.heap.get? bm = some ob ∧ ob.cls = .type "module" ∧ ob.dict = some builtinsNs ∧ ob.data = .plain)
    (hC : PySem.W.CodeHd s₁.heap c T) (hT : s₁.heap.get? T = some (PySem.W.tabObj #[])) (noT : PySem.W.noTabs K = true)
    (ha : s₁.heap.get? a = some { cls := .type "list", data := .seq vs.toArray }) (hi : IntsAre vs ns) (hl : ns.length ≤ sizeLine) (hr : Room k callerA)
    (F : ∀ base : Heap, K.In base → base.Ns mainGlobals mg → PySem.W.CodeHd base c T → base.BuiltinsAt mg T → FnOk P w K mg base CX0 k fa fd [x] sp) (hbind : ∀ (s : Shared) (u : Value), BindsTo s fd ⟨[u], []⟩ [(x, u)])
    (hsp : ∀ H : Hp, H T = some (.tbl #[]) → SqL K H a (ns.map V.int) → sp [.ref a] H (fun v _ => v = .bl true) fun _ _ _ => False) :
    codeAny (model P w) callerA (.call (.ref fa) ⟨[.ref a], []⟩) (fun r s' => r = .ok (.ret (.bool true)) ∧ OldK s₁.heap s'.heap ∧ s'.os = s₁.os ∧ AllBare s'.gens) s₁ := by
  have rv := vals_ints hi
  have lenV := hi.length
  have aT : a ≠ T := fun z => by rw [z, hT] at ha; cases ha
  have core : ∀ H : Hp, H T = some (.tbl #[]) → SqL K H a (ns.map V.int) → HOk P w H s₁.heap → (∀ b, H b ≠ none → b = a ∨ b = T) → (H a ≠ none → K.lookup a = none ∧ ∃ o xs, H a = some (.frz o (.lst xs))) →
      codeAny (model P w) callerA (.call (.ref fa) ⟨[.ref a], []⟩) (fun r s' => r = .ok (.ret (.bool true)) ∧ OldK s₁.heap s'.heap ∧ s'.os = s₁.os ∧ AllBare s'.gens) s₁ := by
    intro H hO hS hok hA hK
    have base_of : ∀ {b : Addr} {o : Obj}, s₁.heap.get? b = some o → H b = none → (hidT s₁.heap H).get? b = some o := fun e n => hidT_get e n
    have noA : ∀ {b : Addr} {o : Obj}, s₁.heap.get? b = some o → (∀ its n, o.data ≠ .seq its n) → (∀ v, o ≠ PySem.W.tabObj v) → H b = none := fun {b o} e d1 d2 => by
      cases q : H b with
      | none => rfl
      | some u =>
        rcases hA b (by rw [q]; simp) with e' | e'
        · subst e'
          rw [ha] at e; cases e
          exact absurd rfl (d1 _ _)
        · subst e'
          rw [hT] at e; cases e
          exact absurd rfl (d2 _)
    have nsK : ∀ {b : Addr} {m : Str → Option Value}, s₁.heap.Ns b m → (hidT s₁.heap H).Ns b m := fun {b m} ⟨o, es, ep, e, d, r⟩ => ⟨o, es, ep, base_of e (noA e (fun _ _ z => by rw [d] at z; cases z) (fun _ z => by rw [z] at d; cases d)), d, r⟩
    have hKb : K.In (hidT s₁.heap H) := fun b o e => base_of (KX b o e) (by
      cases q : H b with
      | none => rfl
      | some u =>
        rcases hA b (by rw [q]; simp) with e' | e'
        · subst e'
          rw [(hK (by rw [q]; simp)).1] at e; cases e
        · subst e'
          have e2 := KX _ _ e
          rw [hT] at e2; cases e2
          have h2 := List.all_eq_true.mp noT _ (PySem.W.mem_of_lookupK e)
          exact absurd (show false = true from h2) Bool.false_ne_true)
    have hM : Mod K mg (hidT s₁.heap H) := ⟨hKb, nsK hns, ⟨mb, nsK hb, hbb⟩, let ⟨mc, h1, h2⟩ := hlim; ⟨mc, nsK h1, h2⟩⟩
    have hCb : PySem.W.CodeHd (hidT s₁.heap H) c T := by
      obtain ⟨o, vs, file, tf, flags, tg, inF, text, tt, e1, e2, e3, r⟩ := hC
      exact ⟨o, vs, file, tf, flags, tg, inF, text, tt, base_of e1 (noA e1 (fun _ _ z => by rw [e3] at z; cases z) (fun _ z => by rw [z] at e2; cases e2)), e2, e3, r⟩
    have hBb : (hidT s₁.heap H).BuiltinsAt mg T := by
      obtain ⟨bm, ob, b1, b2, b3, b4, b5, b6⟩ := hbm
      refine ⟨bm, ob, b1, b2, fun z => ?_, fun z => ?_, base_of b3 (noA b3 (fun _ _ z => by rw [b6] at z; cases z) (fun _ z => by rw [z] at b4; cases b4)), b4, b5, b6⟩
      · obtain ⟨o, es, ep, e, d, _⟩ := hns
        rw [z, e] at b3; cases b3; rw [d] at b6; cases b6
      · rw [z, hT] at b3; cases b3; cases b4
    have e0 : Env0 P w K mg (hidT s₁.heap H) callerA [] s₁ H := ⟨rfl, hM, fun b o e => of_hidT e, Nat.le_of_eq (hidT_size _ _), trivial, fun b hb => absurd (show b ∈ ([] : List Addr) from hb) (by simp), hok, .of_eq hg⟩
    refine codeAny_mono ((F _ hKb (nsK hns) hCb hBb).run callerA [] s₁ H ⟨[.ref a], []⟩ [.ref a] [.ref a] _ _ hr e0 (hbind s₁ (.ref a)) (.cons rfl .nil) (hsp H hO hS)) fun r s' h => ?_
    cases r with
    | error e => exact h.elim
    | ok fl =>
      cases fl with
      | next => exact False.elim h
      | brk => exact False.elim h
      | cont => exact False.elim h
      | ret u =>
        obtain ⟨v, H', os, bare, un, hok', r', q⟩ := h
        have q' : v = .bl true := q
        subst q'
        obtain rfl : u = Value.bool true := r'
        obtain ⟨more, hT'⟩ := un.tbls T #[] hO
        have gT' : s'.heap.get? T = some (PySem.W.tabObj (#[] ++ more)) := hok' T _ hT'
        have keep : ∀ b o, b ≠ T → s₁.heap.get? b = some o → s'.heap.get? b = some o := fun b o n e => by
          cases q : H b with
          | none => exact un.keep b o e q (by intro z; exact absurd (show b ∈ ([] : List Addr) from z) (by simp)) (by simp)
          | some u =>
            have e' : b = a := (hA b (by rw [q]; simp)).resolve_right n
            subst e'
            obtain ⟨_, ob, xs, z⟩ := hK (by rw [q]; simp)
            have z2 := un.frzs b ob _ z
            obtain ⟨e1, _⟩ := hok b _ z
            obtain ⟨e2, _⟩ := hok' b _ z2
            rw [e] at e1; cases e1
            exact e2
        refine ⟨rfl, ⟨fun b o e => ?_, fun b o e => ?_⟩, os, bare⟩
        · by_cases z : b = T
          · subst z
            rw [hT] at e; cases e
            exact .inr (.inl ⟨(hC.tab hT).isCodeTable, rfl, #[], more, rfl, gT'⟩)
          · exact .inl (keep b o z e)
        · by_cases z : b = T
          · subst z; exact ⟨_, gT'⟩
          · exact ⟨o, keep b o z e⟩
  cases hk : K.lookup a with
  | some o =>
    have e := KX a o hk
    rw [ha] at e
    cases e
    refine core (fun b => if b = T then some (.tbl #[]) else none) (if_pos rfl) (.inr ⟨_, vs.toArray, _, hk, rfl, rfl, rfl, by rw [List.size_toArray, lenV]; exact hl, by simpa using rv⟩) (fun b u z => ?_) (fun b z => ?_) fun z => absurd (if_neg aT) z
    · by_cases hb : b = T
      · have z' := (if_pos hb).symm.trans z
        cases z'
        subst hb
        exact hT
      · have z' := (if_neg hb).symm.trans z
        cases z'
    · by_cases hb : b = T
      · exact .inr hb
      · exact absurd (if_neg hb) z
  | none =>
    refine core (fun b => if b = T then some (.tbl #[]) else if b = a then some (.frz { cls := .type "list", data := .seq vs.toArray } (.lst (ns.map V.int))) else none) (if_pos rfl) (.inl (.inr ⟨{ cls := .type "list", data := .seq vs.toArray }, (if_neg aT).trans (if_pos rfl)⟩)) (fun b u z => ?_) (fun b z => ?_) fun _ => ⟨hk, _, _, (if_neg aT).trans (if_pos rfl)⟩
    · by_cases hb : b = T
      · have z' := (if_pos hb).symm.trans z
        cases z'
        subst hb
        exact hT
      · have z := (if_neg hb).symm.trans z
        by_cases hb : b = a
        · have z' := (if_pos hb).symm.trans z
          cases z'
          subst hb
          exact ⟨ha, by rw [List.length_map]; exact hl, vs, _, rv, ha⟩
        · have z' := (if_neg hb).symm.trans z
          cases z'
    · by_cases hb : b = T
      · exact .inr hb
      · by_cases hb2 : b = a
        · exact .inl hb2
        · exact absurd ((if_neg hb).trans (if_neg hb2)) z

theorem walk_ofT {l : PySem.W.OpenLaw} {n k : Nat} {q : Program} {loose : List Str} {XP : (Str → Option Value) → Heap → Prop} {YP : World → Heap → Prop} {d d' : DefRec} {K : Params → PySem.W.Frag} {sp : Addr → PySem.W.Frag → Sp} {x px : Str}
    (hn : l.most = some n) (hn2 : n ≤ sizeLine) (hdf : d.params.defaults = []) (hr : Room k callerA)
    (hY : ∀ (w : World) (h : Heap), YP w h → (K w.params).In h) (hrec : (recsOf q).find? (fun e => e.name == px) = some d') (htab : ∀ w : World, ∃ c T, PySem.W.tabIn (K w.params) px = some (c, T)) (hnt : ∀ w : World, PySem.W.noTabs (K w.params) = true)
    (F : ∀ (w : World) (mg : Str → Option Value) (fa : Addr) (h : Heap) (c T : Addr), (K w.params).In h → h.Ns mainGlobals mg → mg d.name = some (.ref fa) → PySem.W.tabIn (K w.params) px = some (c, T) →
      ∃ fd : FuncData, (∀ (s : Shared) (u : Value), BindsTo s fd ⟨[u], []⟩ [(x, u)]) ∧
        ∀ base : Heap, (K w.params).In base → base.Ns mainGlobals mg → PySem.W.CodeHd base c T → base.BuiltinsAt mg T → FnOk l.prog w (K w.params) mg base CX0 k fa fd [x] (sp T (K w.params)))
    (hsp : ∀ (w : World) (T : Addr) (H : Hp) (a : Addr) (ns : List Int), ns.length ≤ n → H T = some (.tbl #[]) → SqL (K w.params) H a (ns.map V.int) → sp T (K w.params) [.ref a] H (fun v _ => v = .bl true) fun _ _ _ => False) :
    PySem.W.WalkO q loose XP YP l.row.toRowW d [] (fun f vs => PySem.call f vs) := by
  refine Att.attach_call hn hdf fun w s₀ s₁ mg mb fa o pm cd doc a vs ns G Y ho hd hcd hmg hobj hints hlen hg => ?_
  have KX := hY w _ Y
  obtain ⟨c, T, ht⟩ := htab w
  obtain ⟨hC, hT⟩ := PySem.W.tab_of G.T KX hrec ht
  obtain ⟨fd, hb, hF⟩ := F w mg fa _ c T KX G.T.g hmg ht
  exact law_callT KX G.T.g G.T.b G.T.builtins G.T.nolimit hg G.T.bmain hC hT (hnt w) hobj hints (Nat.le_trans hlen hn2) hr hF hb (fun H hO hS => hsp w T H a ns hlen hO hS)
end L2
set_option Elab.async false
set_option linter.all false
set_option maxRecDepth 100000
set_option maxHeartbeats 4000000
namespace L2
open PySem PySem.Spec PyProof.Rows
section
variable {P : Program} {w : World} {K : PySem.W.Frag} {mg : Str → Option Value} {base : Heap}
/-- an exception, with the tracked ones back -/
theorem cxw_reN {outer : List Env} {cs : List Addr} {H : Hp} {s s' : Shared} {E : XK} {e : Value} (e0 : Env0 P w K mg base A outer s H) (hc : ∀ c ∈ cs, ∃ o, H c = some (ObjO c o))
    (h : CXw P w outer (unT cs H) s (fun c o H2 => (∀ c' ∈ cs, H2 c' = none) → E c o (reT cs H H2)) e s') : CXw P w outer H s E e s' := by
  obtain ⟨ea, cls, H', rfl, W, q⟩ := h
  obtain ⟨a0, B, fl, inT, inB, inA⟩ := W.ex
  have nfr : ∀ c ∈ cs, c ∉ frs outer := fun c hc' z => by
    obtain ⟨o, e⟩ := hc c hc'
    rw [e0.frf c z] at e; cases e
  have old : ∀ c ∈ cs, ∃ o, H c = some (ObjO c o) ∧ s.heap.get? c = some o ∧ s'.heap.get? c = some o := fun c hc' => by
    obtain ⟨o, e⟩ := hc c hc'
    have g := e0.hok.obj e
    exact ⟨o, e, g, W.un.keep c o g (unT_in hc') (nfr c hc') (by simp)⟩
  have n2 : ∀ c ∈ cs, H' c = none := fun c hc' => by
    obtain ⟨o, e1, g1, g2⟩ := old c hc'
    exact W.un.free c o g1 (unT_in hc') (by simp)
  refine ⟨ea, cls, reT cs H H', rfl, ⟨⟨a0, B, fl, fun b o q2 n => ?_, fun b o q2 n hb => inB b o q2 (unT_none n) hb, inA⟩, W.os, W.bare, un_add W.un hc, W.hok.reT (fun c hc' => ?_) (fun c hc' => ?_), W.new, ?_⟩, q n2⟩
  · by_cases z : b ∈ cs
    · obtain ⟨o', e1, g1, g2⟩ := old b z
      rw [q2] at g2; cases g2
      exact inB b o g1 (unT_in z) (nfr b z)
    · rw [reT_out z] at n
      exact inT b o q2 n
  · obtain ⟨o, e1, g1, g2⟩ := old c hc'
    exact W.un.free c o g1 (unT_in hc') (by simp)
  · obtain ⟨o, e1, g1, g2⟩ := old c hc'
    exact ⟨o, e1, g2⟩
  · rw [reT_out fun z => ?_]; exact W.free
    obtain ⟨o, e1, g1, g2⟩ := old ea z
    rw [W.new] at g1; cases g1

/-- what a lambda promises, by its body: ws the values of its free names -/
def spLamN (f c' : Addr) (fo co : Obj) (cl : List (Str × Addr)) (N : List Str) (spB : Sp) : Sp := fun vs H Q E =>
  vs = [] ∧ H f = some (ObjO f fo) ∧ H c' = some (ObjO c' co) ∧ ∃ ws : List V, CellsAt H cl N ws ∧
    spB ws (unT (cl.map (·.2)) H) (fun v H2 => (∀ c ∈ cl.map (·.2), H2 c = none) → Q v (reT (cl.map (·.2)) H H2)) (fun c o H2 => (∀ c ∈ cl.map (·.2), H2 c = none) → E c o (reT (cl.map (·.2)) H H2))

theorem lam_okN {k : Nat} {f c' : Addr} {co : Obj} {qual : Str} {params : Arguments} {body : Expr} {scope : Scope} {cl : List (Str × Addr)} {pm ctv : Value} {N : List Str} {spB : Sp}
    (hinj : ∀ x y c, cl.lookup x = some c → cl.lookup y = some c → x = y) (hhas : ∀ x, (scope.names.lookup x = some .cell ∨ scope.names.lookup x = some .free) → ∃ c, cl.lookup x = some c) (hin : ∀ x c, cl.lookup x = some c → c ∈ cl.map (·.2)) (hvis : ∀ x ∈ N, scope.names.lookup x = some .free)
    (hkind : scope.kind = .function) (hco : scope.isCoroutine = false) (hgen : scope.isGenerator = false) (hnc : ∀ x ∈ scope.names, x.2 ≠ .cell) (hcd : CodeIs co qual)
    (hbody : ∀ (A : Around) (outer : List Env) (s : Shared) (H : Hp) (ws : List V) (Q : VK) (E : XK), Room k (A.deeper (PySem.W.envX qual scope s.heap.objs.size f (.ref c') cl)) → spB ws H Q E →
      ∃ t, PE (cxLam P w K mg base N qual scope f (.ref c') cl A outer s H E) body t ∧ t (ws.map some) H Q) :
    FnOk P w K mg base (CXw P w) (k + 1) f (PySem.W.kla_fn "<lambda>" qual params body scope cl pm (.ref c') ctv) []
      (spLamN f c' (PySem.W.kla_obj "<lambda>" qual params body scope cl pm c' ctv) co cl N spB) := by
  refine ⟨fun vs H Q E h => by rw [h.1]; rfl, fun A outer s H args us vs Q E hr e0 hb r hsp => ?_⟩
  obtain ⟨rfl, hf, hc, ws, hcl, hB⟩ := hsp
  cases Vals.zero r
  have KX : K.In s.heap := e0.mod.kin.keeps fun b o e => (e0.bs b o e).1
  have lim : s.heap.NoLimit := e0.mod.nolimit.keeps fun b o e => (e0.bs b o e).1
  have hcs : ∀ c ∈ cl.map (·.2), ∃ o, H c = some (ObjO c o) := fun c hc => by
    obtain ⟨o, v, e, _⟩ := hcl.all c hc
    exact ⟨o, e⟩
  have hrec : s.heap.CodeRec (.ref c') qual := by
    obtain ⟨vs', t, d, v1⟩ := hcd
    exact ⟨c', co, vs', t, rfl, e0.hok.obj hc, d, v1⟩
  refine PySem.W.kla_callFunE hr.depth (e0.hok.obj hf) rfl hco hgen rfl hrec (hb _ _ _ _ ?_)
  refine wpAny_newFunctionEnv hnc (fun x hx => absurd hx (by simp)) (fun h₁ hns hsb => ⟨lim.fresh _ hsb, ?_⟩) hkind
  have hk₁ : ∀ b o, s.heap.get? b = some o → h₁.get? b = some o := fun b o e => hsb.extBut b o (Nat.ne_of_lt (Heap.lt_size e)) (Heap.get?_push_of_some _ e)
  obtain ⟨t, ht, hq⟩ := hbody A outer s (unT (cl.map (·.2)) H) ws _ _ (hr.deeper _) hB
  have noA : ∀ b : Addr, b ∉ (cxLam P w K mg base N qual scope f (.ref c') cl A outer s (unT (cl.map (·.2)) H) (fun c o H2 => (∀ c ∈ cl.map (·.2), H2 c = none) → E c o (reT (cl.map (·.2)) H H2))).ex := fun b z => absurd (show b ∈ ([] : List Addr) from z) (by simp)
  have I : Inv (cxLam P w K mg base N qual scope f (.ref c') cl A outer s (unT (cl.map (·.2)) H) (fun c o H2 => (∀ c ∈ cl.map (·.2), H2 c = none) → E c o (reT (cl.map (·.2)) H H2))) [] (ws.map some) (unT (cl.map (·.2)) H) { s with heap := h₁, toks := s.toks + 0 } := by
    refine ⟨⟨e0.mod, hkind, rfl, rfl, Nat.le_refl _, hinj, hhas, fun _ _ z => absurd z Bool.false_ne_true, fun _ => hr.hd, Around.frames_deeper e0.frames, .inr ⟨rfl, rfl⟩, fun b z => absurd z (noA b), fun b o e => ⟨(e0.bs b o e).1, unT_none (e0.bs b o e).2⟩, e0.bsz, fun b _ _ => noA b, fun b z => absurd z (noA b), e0.funs, fun b hb => unT_none (e0.frf b hb)⟩,
      rfl, e0.bare, Un.kept hk₁, ⟨_, hns, fun i x v h1 h2 h3 => ?_⟩, fun x c e => ?_, unT_none (e0.hok.fresh (Nat.le_refl _)), fun x c e => unT_in (hin x c e), fun p hp => absurd (show p ∈ ([] : List (Addr × Obj)) from hp) (by simp), (e0.hok.unT hcs).kept hk₁, ?_⟩
    · have h2' : ws[i]? = some v := by
        rw [List.getElem?_map] at h2
        cases e : ws[i]? with
        | none => rw [e] at h2; cases h2
        | some a => rw [e] at h2; cases h2; rfl
      obtain ⟨c, o, u, e1, e2, e3, e4, rv⟩ := hcl.val i x v h1 h2'
      exact ⟨u, rv, .inr ⟨.inr (hvis x (List.mem_of_getElem? h1)), c, e1, o, hk₁ _ _ (e0.hok.obj e3), e4⟩⟩
    · obtain ⟨o, v, e3, e4⟩ := hcl.all c (hin x c e)
      exact ⟨v, o, hk₁ _ _ (e0.hok.obj e3), e4⟩
    · show (ws.map some).length = N.length
      rw [List.length_map]; exact hcl.len
  refine PySem.W.kla_codeExpr (wpAny_mono (ht [] _ _ _ _ I hq) (fun u s' hs => ?_) fun e s' hs => ?_)
  · obtain ⟨v, H2, J, rv, q⟩ := hs
    have u2 : Un (frs outer) [] (unT (cl.map (·.2)) H) H2 s.heap s'.heap := J.base
    have nfr : ∀ c ∈ cl.map (·.2), c ∉ frs outer := fun c hc' z => by
      obtain ⟨o, e⟩ := hcs c hc'
      rw [e0.frf c z] at e; cases e
    have n2 : ∀ c ∈ cl.map (·.2), H2 c = none := fun c hc' => by
      obtain ⟨o, e⟩ := hcs c hc'
      exact u2.free c o (e0.hok.obj e) (unT_in hc') (by simp)
    exact ⟨v, _, J.os, J.bare, un_add u2 hcs, J.hok.reT n2 (fun c hc' => by
      obtain ⟨o, e⟩ := hcs c hc'
      exact ⟨o, e, u2.keep c o (e0.hok.obj e) (unT_in hc') (nfr c hc') (by simp)⟩), rv, q n2⟩
  · exact wpAny_mono hs (fun _ s'' z => cxw_reN e0 hcs z) fun e' s'' z => cxw_reN e0 hcs z
end
end L2
set_option Elab.async false
set_option linter.all false
set_option maxRecDepth 100000
set_option maxHeartbeats 4000000
namespace L2
open PySem PySem.Spec PyProof.Rows
section
variable {X : Cx}
/-- two lists of the same things -/
theorem op_neSame (hu : X.A.units < cLine) : OpR X (compareOp .NotEq) (fun x y H Q => ∃ (p b : Addr) (xs : List V), x = .ref p ∧ y = .ref b ∧ SqL X.K H p xs ∧ SqL X.K H b xs ∧ (∀ v ∈ xs, ∃ a, v = .ref a) ∧ Q (.bl false) H) := by
  intro pins s σ H x y v u Q I rx ry h
  obtain ⟨p, b, xs, rfl, rfl, h1, h2, hr, q⟩ := h
  cases rx
  cases ry
  obtain ⟨its, r1, p1, z1⟩ := I.list h1
  obtain ⟨its2, r2, p2, z2⟩ := I.list h2
  have e : ∀ {xs : List V} {a b : List Value}, (∀ v ∈ xs, ∃ a, v = .ref a) → Vals xs a → Vals xs b → a = b := by
    intro xs
    induction xs with
    | nil => intro a b _ x y; cases x; cases y; rfl
    | cons v r ih =>
      intro a b hr x y
      cases x with
      | cons xa xb =>
        cases y with
        | cons ya yb =>
          obtain ⟨c, rfl⟩ := hr _ List.mem_cons_self
          rw [show _ = Value.ref c from xa, show _ = Value.ref c from ya, ih (fun v hv => hr v (List.mem_cons_of_mem _ hv)) xb yb]
  have e12 := e hr r1 r2
  subst e12
  refine PySem.SeqAt.RcNeAt.lists (e := fun _ => true) p1.isList p2.isList rfl hu (fun j g1 g2 => PySem.SeqAt.EqAt.same _) X.prog X.w X.xe _ (fin_bl I q (by simp))
/-- two lists of the same ints -/
theorem op_eqInts (hu : X.A.units < cLine) : OpR X (compareOp .Eq) (fun x y H Q => ∃ (p b : Addr) (ns : List Int), x = .ref p ∧ y = .ref b ∧ SqL X.K H p (ns.map V.int) ∧ SqL X.K H b (ns.map V.int) ∧ Q (.bl true) H) := by
  intro pins s σ H x y v u Q I rx ry h
  obtain ⟨p, b, ns, rfl, rfl, h1, h2, q⟩ := h
  cases rx
  cases ry
  obtain ⟨its, r1, p1, z1⟩ := I.list h1
  obtain ⟨its2, r2, p2, z2⟩ := I.list h2
  have l1 := r1.length
  have l2 := r2.length
  refine PySem.SeqAt.eq_listAt (e := fun _ => true) p1.isList p2.isList (by simp; omega) hu (fun j g1 g2 => ?_) (fin_bl I q (by simp))
  have hj : j < ns.length := by simp at g1; simp at l1; omega
  have hv : (ns.map V.int)[j]? = some (.int ns[j]) := by simp [hj]
  obtain ⟨u1, e1, a1⟩ := r1.get hv
  obtain ⟨u2, e2, a2⟩ := r2.get hv
  obtain ⟨t1, rfl⟩ := a1
  obtain ⟨t2, rfl⟩ := a2
  have k1 : its.toArray[j] = Value.int ns[j] t1 := by
    have : its.toArray[j]? = some (Value.int ns[j] t1) := by simpa using e1
    rw [Array.getElem?_eq_getElem g1] at this
    exact Option.some.inj this
  have k2 : its2.toArray[j] = Value.int ns[j] t2 := by
    have : its2.toArray[j]? = some (Value.int ns[j] t2) := by simpa using e2
    rw [Array.getElem?_eq_getElem g2] at this
    exact Option.some.inj this
  rw [k1, k2]
  have := PySem.SeqAt.EqAt.int_int (A := X.A.in1) (s := s) ns[j] t1 ns[j] t2
  simpa using this
end
/-! ### behind a call that saw the cells -/
def ExtS (H H' : Hp) : Prop := (∀ b φ, H b = some (.ext φ) → H' b = some (.ext φ)) ∧ ∀ b ps, H b = some (.tbl ps) → H' b = some (.tbl ps)
theorem ExtS.same {H H' : Hp} (s : Same H H') : ExtS H H' := ⟨fun b _ e => s b _ e, fun b _ e => s b _ e⟩
theorem ExtS.trans {H H1 H2 : Hp} (a : ExtS H H1) (b : ExtS H1 H2) : ExtS H H2 := ⟨fun c φ e => b.1 c φ (a.1 c φ e), fun c ps e => b.2 c ps (a.2 c ps e)⟩
theorem TabAt.ext {H H' : Hp} {T : Addr} {q : Str} (h : TabAt H T q) (e : ExtS H H') : TabAt H' T q := by
  obtain ⟨ps, h1, h2, h3⟩ := h
  refine ⟨ps, e.2 _ _ h1, h2, fun pos cv hc => ?_⟩
  obtain ⟨c', co, y1, y2, y3⟩ := h3 pos cv hc
  exact ⟨c', co, y1, e.1 _ _ y2, y3⟩
section
variable {cs : List Addr} {HL Hc H' H3 : Hp}
theorem ask_back (n2 : ∀ c ∈ cs, H' c = none) (s3 : Same (reT cs Hc H') H3) {b : Addr} {o : HO} (e : H' b = some o) : unT cs H3 b = some o := by
  have nb : b ∉ cs := fun z => by rw [n2 b z] at e; cases e
  rw [unT_out nb]
  exact s3 _ _ (by rw [reT_out nb]; exact e)
theorem ask_cells (hc : ∀ c ∈ cs, ∃ o, Hc c = some (ObjO c o)) (s3 : Same (reT cs Hc H') H3) : ∀ c ∈ cs, H3 c = Hc c := fun c h => by
  obtain ⟨o, e⟩ := hc c h
  rw [e]
  exact s3 _ _ (by rw [reT_in h]; exact e)
theorem ask_tup (hc : ∀ c ∈ cs, ∃ o, Hc c = some (ObjO c o)) (s3 : Same (reT cs Hc H') H3) {t : Addr} {xs : List V} (e : H3 t = some (.tup xs)) : unT cs H3 t = some (.tup xs) := by
  rw [unT_out fun z => ?_]
  · exact e
  · rw [ask_cells hc s3 t z] at e
    obtain ⟨o, e'⟩ := hc t z
    rw [e'] at e; cases e
end
end L2
set_option Elab.async false
set_option linter.all false
set_option maxRecDepth 100000
set_option maxHeartbeats 4000000
namespace L2
open PySem PySem.Spec PyProof.Rows

/-! ### an exception out of a comprehension -/
theorem note_frame {e : Value} {env env' : Env} (h : env.frame = env'.frame) : noteFrame e env = noteFrame e env' := by
  unfold noteFrame PySem.frameOf
  rw [h]
section
variable {M : Model} {A : Around} {E : Value → Shared → Prop} {s : Shared}
theorem setFlight_any {base : Heap} {l : List Env} {e : Addr} {cls a0 fl : Value} {fr : Option Addr} {Q : Unit → Shared → Prop}
    (hkb : base.StaysIn s.heap) (hl : s.heap.FunFrames base l) (ht : s.heap.TracedAtW base e cls a0 fl)
    (h : ∀ h', base.StaysIn h' → h'.FunFrames base l → h'.TracedAtW base e cls a0 (fr.elim .none fun f => rawInt f) → (∀ b o, s.heap.get? b = some o → (∀ vs, o.data ≠ .fields vs) → h'.get? b = some o) → Q () { s with heap := h' }) :
    wpAny M A (setFlight (.ref e) fr) Q E s := by
  obtain ⟨oe, vs, T, oT, ts, he, hcls, hd, h1, hnT, hTe, hT, hdT, h3⟩ := ht
  have hsz3 : 3 < ts.size := (Array.getElem?_eq_some_iff.mp h3).1
  have other : ∀ b, b ≠ T → (s.heap.update T (Obj.mapFields (·.setIfInBounds 3 (fr.elim Value.none fun f => rawInt f)))).get? b = s.heap.get? b :=
    fun b hb => Heap.get?_update_other _ _ (Ne.symm hb)
  have noRecord : ∀ b o, s.heap.get? b = some o → (∀ vs, o.data ≠ .fields vs) → b ≠ T := fun b o hb hnf q => by
    rw [q, hT] at hb; injection hb with hb; subst hb; exact hnf ts hdT
  unfold setFlight
  refine wpAny_bind (wpAny_field he hd h1 ?_)
  rw [if_pos (show (Value.ref T != Value.none) = true from by simp)]
  refine wpAny_setField hT hdT hsz3 (h _ (fun b o hbo => (other b fun q => by rw [q, hnT] at hbo; cases hbo).trans (hkb b o hbo))
    (hl.of_keeps fun b o hb hnf => ⟨o, (other b (noRecord b o hb hnf)).trans hb, rfl⟩) ?_ fun b o hb hnf => (other b (noRecord b o hb hnf)).trans hb)
  exact ⟨oe, vs, T, _, _, (other e (Ne.symm hTe)).trans he, hcls, hd, h1, hnT, hTe, Heap.get?_update_self _ hT (Obj.isFreed_of_fields (Obj.data_mapFields hdT _)), Obj.data_mapFields hdT _, by simp [hsz3]⟩
/-- it leaves the frame, whatever frame it was said to fly in -/
theorem leaves_any {base : Heap} {env : Env} {outer : List Env} {L e : Addr} {cls a0 fl : Value} {Q : Unit → Shared → Prop}
    (hfr : A.frames = some (env :: outer)) (hf : env.frame = some L) (hkb : base.StaysIn s.heap) (hen : base.get? e = none) (hl : s.heap.FunFrames base (env :: outer)) (ht : s.heap.TracedAtW base e cls a0 fl)
    (hQ : ∀ h', Heap.FlyingW base outer e cls a0 h' → s.heap.UpToSlots h' → Q () { s with heap := h' }) : wpAny M A (leaving env (.ref e)) Q E s := by
  by_cases hL : fl = rawInt L
  · subst hL
    unfold leaving
    refine wpAny_bind (wpAny_noteFrame_againW hf ht ?_)
    refine wpAny_setFlight_noneW hkb hl ht fun h' k1 k2 k3 k4 => ?_
    obtain ⟨_, _, k2⟩ := k2
    exact hQ h' ⟨k1, hen, k2, k3⟩ fun b o hb hn => ⟨o.slots, k4 b o hb hn⟩
  · obtain ⟨oe, vs, T, oT, ts, he, ⟨hcls, h0⟩, hd, h1, hnT, hTe, hT, hdT, h3⟩ := ht
    subst hcls
    unfold leaving noteFrame
    simp only [hf]
    refine wpAny_bind (wpAny_bind (wpAny_field he hd h1 ?_))
    rw [if_pos (show (Value.ref T != Value.none) = true from by simp)]
    refine wpAny_bind (wpAny_field hT hdT h3 ?_)
    rw [if_neg (show ¬ ((fl == rawInt L) = true) from fun z => hL (eq_of_beq z))]
    refine wpAny_bind (wpAny_setField hT hdT (Array.getElem?_eq_some_iff.mp h3).1 ?_)
    have other : ∀ b, b ≠ T → (s.heap.update T (Obj.mapFields (·.setIfInBounds 3 Value.none))).get? b = s.heap.get? b := fun b hb => Heap.get?_update_other _ _ (Ne.symm hb)
    have noRecord : ∀ b o, s.heap.get? b = some o → (∀ vs, o.data ≠ .fields vs) → b ≠ T := fun b o hb hnf q => by
      rw [q, hT] at hb; injection hb with hb; subst hb; exact hnf ts hdT
    refine wpAny_newEntryW hfr (hl.of_keeps fun b o hb hnf => ⟨o, (other b (noRecord b o hb hnf)).trans hb, rfl⟩) hf ((other e (Ne.symm hTe)).trans he)
      (fun b o hbo => (other b fun q => by rw [q, hnT] at hbo; cases hbo).trans (hkb b o hbo)) hen hd (Array.getElem?_eq_some_iff.mp h1).1 h0
      fun h' ⟨x1, ⟨_, _, x2⟩, x3, x4⟩ => hQ h' ⟨x1, hen, x2, x3⟩ fun b o hb hnf => x4 b o ((other b (noRecord b o hb hnf)).trans hb) hnf
end

theorem funFrames_but {base h h' : Heap} : ∀ {l : List Env}, h.FunFrames base l → (∀ b ∈ frs l, h'.get? b = h.get? b) → h'.FunFrames base l
  | [], _, _ => trivial
  | env :: l, ⟨hk, ⟨L, o, hf, hn, ho, hd⟩, hr⟩, k => ⟨hk, ⟨L, o, hf, hn, (k L (List.mem_filterMap.mpr ⟨env, List.mem_cons_self, hf⟩)).trans ho, hd⟩, funFrames_but hr fun b hb => k b (by
      obtain ⟨e, he, hb⟩ := List.mem_filterMap.mp hb
      exact List.mem_filterMap.mpr ⟨e, List.mem_cons_of_mem _ he, hb⟩)⟩

section
variable {X : Cx} {pins : List (Addr × Obj)} {σ : St} {H : Hp} {s : Shared} {E E1 : XK}
/-- what a block of a comprehension raises leaves the def -/
theorem passes_comp {N : List Str} {scope : Scope} {cl : List (Str × Addr)} {fp : List Addr} {acc : Value} {Q : Value → Shared → Prop} {use : Option (Value → Sem Unit)} {C : Addr} (F : FnX X E) (hE : ∀ cls o H, E1 cls o H → E cls o H) (I : Inv X pins σ H s) (hf : ∀ b ∈ fp, FpOk X pins H b) (hC : s.heap.objs.size ≤ C) :
    Passes (CXw X.prog X.w) (cxComp X N scope cl C s H fp (notedBy (model X.prog X.w) X.A (compEnvC scope cl C X.env) (fun e s' => compPost (model X.prog X.w) X.A X.xe use Q acc C (.error e) s'))) E1 := by
  intro pc σc Hc sc e s' Ic h
  obtain ⟨ea, cls, H', rfl, W, q⟩ := h
  obtain ⟨a0, B, fl, inT, inB, inA⟩ := W.ex
  have hst : (cxComp X N scope cl C s H fp (notedBy (model X.prog X.w) X.A (compEnvC scope cl C X.env) (fun e s' => compPost (model X.prog X.w) X.A X.xe use Q acc C (.error e) s'))).stack = X.env :: X.outer := F.stack
  have fl : Heap.FlyingW B (X.env :: X.outer) ea cls a0 s'.heap := hst ▸ fl
  have hfr : X.A.frames = some (X.env :: X.outer) := by rw [I.ok.frames, F.stack]
  show wpAny (model X.prog X.w) X.A (noteFrame (.ref ea) (compEnvC scope cl C X.env)) _ _ s'
  rw [note_frame (env := compEnvC scope cl C X.env) (env' := X.env) rfl]
  refine wpAny_looks_onW hfr F.frame fl fun h4 held4 sm4 => ?_
  -- the names of the block
  obtain ⟨m, hn, _⟩ := Ic.loc
  have hn : sc.heap.Ns C m := hn
  have cfree : Hc C = none := Ic.free
  have nfr : C ∉ frs X.stack := fun z => by
    obtain ⟨_, o', g, _⟩ := I.stack.mem z
    exact absurd (Heap.lt_size g) (Nat.not_lt.mpr hC)
  have hn4 : h4.Ns C m := by
    obtain ⟨o, es, ep, ho, r⟩ := hn
    exact sm4.ns ⟨o, es, ep, W.un.keep C o ho cfree nfr (by simp), r⟩
  show compPost (model X.prog X.w) X.A X.xe use Q acc C (.error (.ref ea)) { s' with heap := h4 }
  suffices hh : ∃ m, h4.Ns C m ∧ ∀ h', Heap.SameBut C h4 h' → ∀ cenv : Env, cenv.locals = C → wpAny (model X.prog X.w) X.A (PySem.passOn "comprehension.variables-let-go" (.ref ea) cenv : Sem Value) (fun _ _ => False) X.xe { s' with heap := h' } by
    cases use with
    | none => exact hh
    | some u => exact hh
  refine ⟨m, hn4, fun h5 sb cenv _ => ?_⟩
  obtain ⟨k1, k2, k3, k4⟩ := held4
  let B' := PySem.W.hideAll B [C]
  have hB : ∀ b o, B'.get? b = some o → B.get? b = some o ∧ b ≠ C := fun b o e => by
    refine ⟨PySem.W.of_hideAll _ e, fun z => ?_⟩
    have : B'.get? C = none := PySem.W.hideAll_none _ (by simp)
    rw [z, this] at e; cases e
  have toB : ∀ b o, B.get? b = some o → b ≠ C → B'.get? b = some o := fun b o e n => PySem.W.hideAll_get _ e (by simpa using n)
  have st5 : B'.StaysIn h5 := fun b o e => by
    obtain ⟨e1, n⟩ := hB b o e
    exact (sb.2 b n).trans (k1 b o e1)
  have en5 : B'.get? ea = none := by
    cases z : B'.get? ea with
    | none => rfl
    | some o => rw [(hB _ _ z).1] at k2; cases k2
  have noB : ∀ b, B.get? b = none → B'.get? b = none := fun b z => by
    cases y : B'.get? b with
    | none => rfl
    | some o => rw [(hB _ _ y).1] at z; cases z
  have kp5 : ∀ b o, h4.get? b = some o → b ≠ C → h5.get? b = some o := fun b o e n => (sb.2 b n).trans e
  have stB : B'.StaysIn B := fun b o e => (hB b o e).1
  have nC : ∀ b ∈ frs (X.env :: X.outer), b ≠ C := fun b hb z => nfr (by rw [F.stack]; rw [← z]; exact hb)
  have fr5 : h5.FunFrames B' (X.env :: X.outer) := funFrames_but (PySem.W.funFrames_base stB k3) fun b hb => sb.2 b (nC b hb)
  have eaC : ea ≠ C := fun z => by
    obtain ⟨o, es, ep, ho, _⟩ := hn
    rw [← z, W.new] at ho; cases ho
  obtain ⟨oe, vs, T, oT, ts, he, hcls, hd, h1, hnT, hTe, hT, hdT, h3⟩ := k4
  have TC : T ≠ C := fun z => by
    obtain ⟨o, es, ep, ho, hdd, _⟩ := hn4
    rw [z, ho] at hT; cases hT
    rw [hdd] at hdT; cases hdT
  have tr5 : h5.TracedAtW B' ea cls a0 (rawInt X.env.locals) := ⟨oe, vs, T, oT, ts, kp5 _ _ he eaC, hcls, hd, h1, noB T hnT, hTe, kp5 _ _ hT TC, hdT, h3⟩
  -- it is thrown again
  unfold PySem.passOn
  refine wpAny_bind (wpAny_field (kp5 _ _ he eaC) hd h1 ?_)
  rw [if_neg (show ¬ ((Value.ref T == Value.none) = true) from by simp)]
  refine wpAny_bind (setFlight_any (s := { s' with heap := h5 }) st5 fr5 tr5 fun h6 k1 k2 k3 k4 => ?_)
  refine wpAny_throw (F.xe _ _ ?_)
  refine leaves_any hfr F.frame k1 en5 k2 k3 fun h7 fl7 sm7 => ?_
  -- from the entry of the def
  have base0 := I.base
  rw [F.ex] at base0
  have basec : Un (frs X.stack) fp H Hc s.heap sc.heap := Ic.base
  have nfp : ∀ {b o}, X.s₀.heap.get? b = some o → b ∉ fp := fun {b o} e z => by
    obtain ⟨_, _, _, z3, _⟩ := hf b z
    rw [F.ex] at z3
    rcases z3 with z3 | z3
    · simp at z3
    · exact absurd (Heap.lt_size e) (Nat.not_lt.mpr z3)
  have neC : ∀ {b o}, X.s₀.heap.get? b = some o → b ≠ C := fun {b o} e z => by
    exact absurd (Heap.lt_size e) (Nat.not_lt.mpr (by rw [z]; exact Nat.le_trans I.sz hC))
  have smA : ∀ b o, s'.heap.get? b = some o → (∀ vs, o.data ≠ .fields vs) → b ≠ C → ∃ sl, h7.get? b = some { o with slots := sl } := fun b o e hnf n => by
    obtain ⟨sl, e4⟩ := sm4 b o e hnf
    have e5 := kp5 b _ e4 n
    have e6 := k4 b _ e5 hnf
    obtain ⟨sl7, e7⟩ := sm7 b _ e6 hnf
    exact ⟨sl7, e7⟩
  have keepB : ∀ b o, X.s₀.heap.get? b = some o → X.H₀ b = none → b ∉ frs X.outer → B.get? b = some o ∧ H' b = none := fun b o e n hb => by
    have nb := notin_stack F I e hb
    have e1 := base0.keep b o e n hb (by simp)
    have n1 := base0.free b o e n (by simp)
    have e2 := basec.keep b o e1 n1 nb (nfp e)
    have n2 := basec.free b o e1 n1 (nfp e)
    exact ⟨inB b o e2 n2 nb, W.un.free b o e2 n2 (by simp)⟩
  have thereB : ∀ b o, X.s₀.heap.get? b = some o → b ∉ frs X.outer → ∃ o', B.get? b = some o' := fun b o e hb => by
    have nb := notin_stack F I e hb
    obtain ⟨o1, e1⟩ := base0.there b o e (by simp)
    obtain ⟨o2, e2⟩ := basec.there b o1 e1 (nfp e)
    exact inA b o2 e2 nb
  have toH : ∀ b o, B.get? b = some o → b ≠ C → h7.get? b = some o := fun b o e n => fl7.1 b o (toB b o e n)
  have slotF : ∀ b o, X.s₀.heap.get? b = some o → X.H₀ b = none → b ∈ frs X.outer → (∃ sl, h7.get? b = some { o with slots := sl }) ∧ H' b = none := fun b o e n hb => by
    obtain ⟨sl1, e1⟩ := base0.slot b o e n hb (by simp)
    have n1 := base0.free b o e n (by simp)
    have hbs : b ∈ frs X.stack := by rw [frs_stack F]; exact List.mem_cons_of_mem _ hb
    obtain ⟨sl2, e2⟩ := basec.slot b _ e1 n1 hbs (nfp e)
    have n2 := basec.free b _ e1 n1 (nfp e)
    obtain ⟨sl3, e3⟩ := W.un.slot b _ e2 n2 hbs (by simp)
    have n3 := W.un.free b _ e2 n2 (by simp)
    obtain ⟨_, o', g, d⟩ := I.stack.mem hbs
    have e1' : s.heap.get? b = some { o with slots := sl1 } := e1
    rw [g] at e1'
    cases e1'
    obtain ⟨sl, e7⟩ := smA b _ e3 (fun vs z => d vs z) (neC e)
    exact ⟨⟨sl, e7⟩, n3⟩
  have un7 : Un (frs X.outer) [] X.H₀ H' X.s₀.heap h7 := {
    keep := fun b o e n hb _ => toH b o (keepB b o e n hb).1 (neC e)
    slot := fun b o e n hb _ => (slotF b o e n hb).1
    free := fun b o e n _ => by
      by_cases hb : b ∈ frs X.outer
      · exact (slotF b o e n hb).2
      · exact (keepB b o e n hb).2
    there := fun b o e _ => by
      by_cases hb : b ∈ frs X.outer
      · obtain ⟨⟨sl, z⟩, _⟩ := slotF b o e (I.ok.frf b hb) hb
        exact ⟨_, z⟩
      · obtain ⟨o', z⟩ := thereB b o e hb
        exact ⟨o', toH b o' z (neC e)⟩
    tups := fun b xs e => W.un.tups b xs (basec.tups b xs (base0.tups b xs e))
    frzs := fun b o u e => W.un.frzs b o u (basec.frzs b o u (base0.frzs b o u e))
    tbls := fun b ps e => by
      obtain ⟨m1, e1⟩ := base0.tbls b ps e
      obtain ⟨m2, e2⟩ := basec.tbls b _ e1
      obtain ⟨m3, e3⟩ := W.un.tbls b _ e2
      exact ⟨m1 ++ m2 ++ m3, by rw [e3, Array.append_assoc, Array.append_assoc, Array.append_assoc]⟩ }
  have trC : ∀ b, H' b ≠ none → b ≠ C := fun b n z => by
    obtain ⟨o, es, ep, ho, _⟩ := hn
    exact n (by rw [z]; exact W.un.free C o ho cfree (by simp))
  have new0 : X.s₀.heap.get? ea = none := by
    cases z : X.s₀.heap.get? ea with
    | none => rfl
    | some o =>
      obtain ⟨o1, e1⟩ := base0.there ea o z (by simp)
      obtain ⟨o2, e2⟩ := basec.there ea o1 e1 (nfp z)
      rw [W.new] at e2; cases e2
  have inT7 : ∀ b o, h7.get? b = some o → H' b ≠ none → B'.get? b = some o := fun b o e n => by
    obtain ⟨o', q'⟩ := W.hok.there n
    have e1 := inT b o' q' n
    have e2 := toH b o' e1 (trC b n)
    rw [e] at e2; cases e2
    exact toB b o e1 (trC b n)
  exact ⟨ea, cls, H', rfl, ⟨⟨a0, B', fl7, inT7, fun b o e n hb => toB b o (keepB b o e n hb).1 (neC e), fun b o e hb => by
      obtain ⟨o', z⟩ := thereB b o e hb
      exact ⟨o', toB b o' z (neC e)⟩⟩, (W.os.trans Ic.os).trans I.os, W.bare, un7, W.hok.keptT (fun b o e n => toH b o (inT b o e n) (trC b n)), new0, W.free⟩, hE _ _ _ q⟩
theorem comp_blockX {elt iter : Expr} {x : Str} {px : Pos} {ifs : List Expr} {scope : Scope} {cl : List (Str × Addr)} {pos : Pos} {ix : List Nat} {ys : List Str} {tt : TT} {te : TE} {it : Addr} {fp : List Addr} {tn : Nat → Heap → Prop} {J : It} {Q : VK} {E : Value → Shared → Prop}
    {RR : Value → Addr → Result → Shared → Prop} {E1 : XK}
    (hp : ∀ D C : Addr, s.heap.objs.size ≤ C → Passes (CXw X.prog X.w) (cxComp X (x :: ys) scope cl C s H fp (notedBy (model X.prog X.w) X.A (compEnvC scope cl C X.env) (fun e s' => RR (.ref D) C (.error e) s'))) E1)
    (hc : X.calm = true) (ht : ∀ C s H fp E, PTs (cxComp X (x :: ys) scope cl C s H fp E) ifs tt) (he : ∀ C s H fp E, Passes (CXw X.prog X.w) (cxComp X (x :: ys) scope cl C s H fp E) E1 → PE (cxComp X (x :: ys) scope cl C s H fp E) elt te)
    (sub : SubCells X.env cl) (hkind : scope.kind = .function) (hnd : (x :: ys).Nodup) (hx : scope.names.lookup x = some .local) (hcell : ∀ y ∈ scope.names, y.2 ≠ .cell)
    (hhas : ∀ y, ((relabel scope X.env).names.lookup y = some .cell ∨ (relabel scope X.env).names.lookup y = some .free) → ∃ c, cl.lookup y = some c) (fo : FreeOk X scope ix ys)
    (I : Inv X pins σ H s) (T : Turn X.prog X.w X.K (.Name x px) J fp it tn) (st : tn 0 s.heap) (hf : ∀ b ∈ fp, FpOk X pins H b) (q : cEnd J σ ix tt te H Q)
    (hRR : ∀ D C s' H' m, s.heap.objs.size ≤ C → Inv X pins σ H' s' → FpOk X pins H' C → s'.heap.Ns C m → Q (.ref D) H' → RR (.ref D) C (.ok .next) s') :
    wpAny (model X.prog X.w) X.A (newList []) (fun acc s₃ => wpAny (model X.prog X.w) X.A (newFunctionEnv scope X.env.globals cl [] X.env.qual none .none (some X.env)) (fun cenv s₄ =>
      codeAny (model X.prog X.w) X.A (.compStart (.ListComp elt [⟨.Name x px, iter, ifs, 0⟩] scope pos) 0 (.ref it) acc { cenv with scope := relabel scope X.env }) (RR acc cenv.locals) s₄) E s₃) E s := by
  refine wpAny_newObj_type (wpAny_newFunctionEnv hcell (by intro y hy; simp at hy) (fun h₁ hns₁ hsb₁ => ?_) hkind)
  dsimp only at hns₁ hsb₁ ⊢
  generalize hH2 : s.heap.push { cls := .type "list", dict := none, data := .seq ([] : List Value).toArray } = H2 at hns₁ hsb₁ ⊢
  have hC : H2.objs.size = s.heap.objs.size + 1 := by rw [← hH2, Heap.size_push]
  have hDC : s.heap.objs.size ≠ H2.objs.size := by rw [hC]; exact Nat.ne_of_lt (Nat.lt_succ_self _)
  have hCle : s.heap.objs.size ≤ H2.objs.size := by rw [hC]; exact Nat.le_succ _
  have below : ∀ b, b < s.heap.objs.size → b ≠ H2.objs.size ∧ b ≠ s.heap.objs.size := fun b hb => ⟨by rw [hC]; exact Nat.ne_of_lt (Nat.lt_succ_of_lt hb), Nat.ne_of_lt hb⟩
  have old : ∀ b o, s.heap.get? b = some o → h₁.get? b = some o := fun b o e => hsb₁.extBut b o (below b (Heap.lt_size e)).1 (Heap.get?_push_of_some _ (hH2 ▸ Heap.get?_push_of_some _ e))
  have hacc : ∃ n, h₁.get? s.heap.objs.size = some { cls := .type "list", data := .seq ([] : List Value).toArray n } := ⟨_, hsb₁.extBut _ _ hDC (Heap.get?_push_of_some _ (hH2 ▸ Heap.get?_push_size _ rfl))⟩
  obtain ⟨nD, hacc⟩ := hacc
  have hf' : ∀ b ∈ fp, FpOk X pins H b ∧ b < s.heap.objs.size := fun b hb => ⟨hf b hb, by obtain ⟨o, e, _⟩ := T.obj 0 _ st b hb; exact Heap.lt_size e⟩
  have hDn : H s.heap.objs.size = none := I.hok.fresh (Nat.le_refl _)
  obtain ⟨W, ⟨m0, w0⟩, turn⟩ := q _ hDn
  generalize hE : notedBy (model X.prog X.w) X.A (compEnvC scope cl H2.objs.size X.env) (fun e s' => RR (.ref s.heap.objs.size) H2.objs.size (.error e) s') = EE
  have hEE : Passes (CXw X.prog X.w) (cxComp X (x :: ys) scope cl H2.objs.size s H fp EE) E1 := hE ▸ hp s.heap.objs.size H2.objs.size hCle
  have hlx : (relabel scope X.env).names.lookup x = some .local := lookup_relabel_local hx
  have I0 : Inv (cxComp X (x :: ys) scope cl H2.objs.size s H fp EE) [] (cSlots0 σ ix) (upd H s.heap.objs.size (.lst [])) { s with heap := h₁, toks := s.toks + ([] : List (Str × Value)).length } :=
    inv_comp I hf' sub hkind hhas fo (Nat.le_refl _) hCle hDC hns₁ old hacc
  have st1 : tn 0 h₁ := T.keep _ _ _ st fun b _ o e => old b o e
  have fr1 : ∀ b ∈ fp, upd H s.heap.objs.size (.lst []) b = none := fun b hb => by rw [upd_ne (below b (hf' b hb).2).2]; exact (hf b hb).1
  have stat : ∀ {H' : Hp}, (∀ b ∈ fp, H' b = none) → ∀ b ∈ fp, FpOk (cxComp X (x :: ys) scope cl H2.objs.size s H fp EE) [] H' b := fun hn b hb =>
    ⟨hn b hb, (I0.ok.exf b hb).1, I0.ok.exfs b hb, .inl hb, (I0.ok.exf b hb).2, fun p hp => absurd (show p ∈ ([] : List (Addr × Obj)) from hp) (by simp)⟩
  have loop : ∀ s₃ : Shared, s₃ = { s with heap := h₁, toks := s.toks + ([] : List (Str × Value)).length } →
      codeAny (model X.prog X.w) X.A (.compLoop (.ListComp elt [⟨.Name x px, iter, ifs, 0⟩] scope pos) 0 (.ref it) (.ref s.heap.objs.size) (compEnvC scope cl H2.objs.size X.env)) (RR (.ref s.heap.objs.size) H2.objs.size) s₃ := by
    rintro s₃ rfl
    refine compLoop_go (fun n s' => ∃ i σ' H', Inv (cxComp X (x :: ys) scope cl H2.objs.size s H fp EE) [] σ' H' s' ∧ (∃ o, σ' = o :: ix.map fun i => (σ[i]?).join) ∧ tn i s'.heap ∧ (∀ b ∈ fp, H' b = none) ∧ W i n H') ?_ m0 ⟨0, _, _, I0, ⟨none, rfl⟩, st1, fr1, w0⟩
    rintro n s3 ⟨i, σ3, H3, I3, ⟨o3, hσ3⟩, st3, fr3, w3⟩
    rw [hE]
    rcases turn i n H3 w3 with ⟨stop, qn⟩ | ⟨go, step⟩
    · refine thn (T.done (cxComp X (x :: ys) scope cl H2.objs.size s H fp EE) rfl rfl rfl hc i [] s3 σ3 H3 EE I3 (stat fr3) st3 stop) fun r s4 ⟨hr, I4⟩ => ?_
      subst hr
      obtain ⟨m4, hn4, _⟩ := I4.loc
      have Ix : Inv X pins σ H3 s4 := I.call' (s' := s4) (ch := fp) I4.os I4.base I4.hok I4.bare fun b hb => by
        obtain ⟨_, z1, _, z3, z4, z5⟩ := hf b hb
        exact ⟨z3, z1, z4, z5⟩
      exact hRR _ _ s4 H3 m4 hCle Ix (I.fpOk hCle I4.free) hn4 qn
    · refine thn (T.item (cxComp X (x :: ys) scope cl H2.objs.size s H fp EE) rfl rfl rfl hc i [] s3 σ3 H3 EE I3 (stat fr3) st3 go) fun r s4 ⟨u, hr, h4⟩ => ?_
      subst hr
      refine thn h4 fun _ s5 ⟨xv, H5, I5, r5, y5, st5, fr5⟩ => ?_
      have I5' := I5.pinned (stat fr5) (T.obj _ _ st5)
      have again : ∀ {σ7 : St} {H7 : Hp} {s7 : Shared} {m' : Nat}, Inv (cxComp X (x :: ys) scope cl H2.objs.size s H fp EE) ([] ++ pinsAt fp s5.heap) σ7 H7 s7 → (∃ o, σ7 = o :: ix.map fun i => (σ[i]?).join) → m' < n → W (i + 1) m' H7 →
          ∃ m, m < n ∧ ∃ i σ' H', Inv (cxComp X (x :: ys) scope cl H2.objs.size s H fp EE) [] σ' H' s7 ∧ (∃ o, σ' = o :: ix.map fun i => (σ[i]?).join) ∧ tn i s7.heap ∧ (∀ b ∈ fp, H' b = none) ∧ W i m H' := fun {σ7 H7 s7 m'} I7 e7 hm w7 => by
        refine ⟨m', hm, i + 1, σ7, H7, I7.unpinned, e7, T.keep _ _ _ st5 fun b hb o e => (I7.pin (b, o) (List.mem_append_right _ (List.mem_append_right _ (mem_pinsAt hb e)))).1, fun b hb => ?_, w7⟩
        obtain ⟨o, e, d⟩ := T.obj _ _ st5 b hb
        exact (I7.pin (b, o) (List.mem_append_right _ (List.mem_append_right _ (mem_pinsAt hb e)))).2.1
      have hg : PG (cxComp X (x :: ys) scope cl H2.objs.size s H fp EE) (.Name x px) (gName 0) := pg_name hnd rfl (.inl hlx) (.inr hlx)
      refine thn (hg _ s5 σ3 H5 xv u (fun σ6 H6 => σ6 = cSlots σ ix xv ∧ H6 = H5) I5' r5 ⟨by rw [hσ3]; rfl, rfl⟩) fun _ s6 ⟨σ6, H6, I6, e6, e6'⟩ => ?_
      subst e6 e6'
      refine thn (ht _ _ _ _ _ _ s6 _ _ _ I6 (step xv _ y5)) fun ok s7 ⟨H7, I7, q7⟩ => ?_
      cases ok with
      | false =>
        rw [if_neg Bool.false_ne_true] at q7 ⊢
        obtain ⟨m', hm, w7⟩ := q7
        exact again I7 ⟨_, rfl⟩ hm w7
      | true =>
        rw [if_pos rfl] at q7 ⊢
        refine thn (he _ _ _ _ _ hEE _ s7 _ _ _ I7 q7) fun y s8 ⟨yv, H8, I8, r8, ys8, m', e8, z8, hm, w8⟩ => ?_
        refine thn (mt_append _ s8 _ H8 (.ref s.heap.objs.size) [yv] (.ref s.heap.objs.size) [y] (fun _ H9 => W (i + 1) m' H9) I8 rfl (.cons r8 .nil) ⟨_, ys8, yv, rfl, rfl, e8, z8, w8⟩) fun _ s9 ⟨_, H9, I9, _, w9⟩ => ?_
        exact again I9 ⟨_, rfl⟩ hm w9
  exact codeAny_compStart_list (loop _ rfl) (T.self _ 0 _ _ _ st1 (loop _ rfl))
theorem pe_compX {elt iter : Expr} {x : Str} {px : Pos} {ifs : List Expr} {scope : Scope} {pos : Pos} {wi : TI} {tt : TT} {te : TE} (ix : List Nat) (ys : List Str) (F : FnX X E) (hE : ∀ cls o H, E1 cls o H → E cls o H)
    (hi : PI X (.Name x px) iter wi) (ht : ∀ C s H fp E, PTs (cxComp X (x :: ys) scope (closL X.env scope.names []) C s H fp E) ifs tt)
    (he : ∀ C s H fp E, Passes (CXw X.prog X.w) (cxComp X (x :: ys) scope (closL X.env scope.names []) C s H fp E) E1 → PE (cxComp X (x :: ys) scope (closL X.env scope.names []) C s H fp E) elt te)
    (fo : FreeOk X scope ix ys) (hk : kindsOk X.env scope.names = true := by rfl) (hb : blockOk scope x = true := by rfl) (hnd : (x :: ys).Nodup := by decide +kernel)
    (hs : ∀ x, foldedSetIterable iter X.env x = pure x := by intro _; rfl) :
    PE X (.ListComp elt [⟨.Name x px, iter, ifs, 0⟩] scope pos) (tComp wi ix tt te) := by
  intro pins s σ H Q I h
  have B := block_of hb
  have FI := kinds_free I.ok hk
  rw [eval_ListComp]
  refine wpAny_comprehension_free (use := none) rfl hs (closure_eq FI) B.kind B.names (thn (hi pins s σ H _ I h) fun v s1 h1 => thn h1 fun itv s2 h2 => ?_)
  obtain ⟨it, fp, tn, J, H2, e, I2, T, st2, f2, q2⟩ := h2
  subst e
  refine comp_blockX (RR := fun acc C => compPost (model X.prog X.w) X.A X.xe none (EP X pins σ Q) acc C) (E1 := E1) (fun D C hC => passes_comp F hE I2 f2 hC) F.calm ht he (sub_clos FI) B.kind hnd B.own B.cell (has_of B.cell) fo I2 T st2 f2 q2 ?_
  intro D C s' H' m hC Ix fC hn q
  refine ⟨m, hn, fun h' sb => ⟨.ref D, H', ?_, rfl, q⟩⟩
  obtain ⟨f0, f1, _, f3, f4, f5⟩ := fC
  exact Ix.turned (t' := s'.toks) (fun b o hb e => (sb.2 b hb).trans e) f0 f1 f3 f4 f5
end
end L2
set_option Elab.async false
set_option linter.all false
set_option maxRecDepth 100000
set_option maxHeartbeats 4000000
namespace L2
open PySem PySem.Spec PyProof.Rows
/-! ### xs.count(True), xs.index(True), xs of truths -/
def isTrueU : Value → Bool
  | .bool b => b
  | _ => false
section
variable {X : Cx}
theorem bools_val : ∀ {bs : List Bool} {us : List Value}, Vals (bs.map V.bl) us → us = bs.map Value.bool
  | [], _, .nil => rfl
  | b :: bs, _, .cons r t => by
    have e : _ = Value.bool b := r
    rw [e, bools_val t]; rfl
def rCount : V → List V → Hp → VK → Prop := fun x vs H Q => ∃ (l : Addr) (bs : List Bool), x = .ref l ∧ vs = [.bl true] ∧ H l = some (.lst (bs.map V.bl)) ∧ Q (.int (bs.countP id : Nat)) H
theorem mt_count : MtM X "list.count" rCount := by
  intro pins s σ H x vs v us Q I rx rv h
  obtain ⟨l, bs, rfl, rfl, hH, q⟩ := h
  cases rx
  obtain ⟨u, rfl, ru⟩ := rv.one
  cases (show u = Value.bool true from ru)
  obtain ⟨z, its, n, r, hl, e⟩ := I.lstM hH
  have ei := bools_val r
  subst ei
  refine call_meets F.slot_list_count ⟨_, e, rfl⟩ F.entry_list_count (F.args_list_count_2 _ _) (PySem.SeqAt.list_countAt l _ n none #[] (.bool true) isTrueU) ⟨e, fun y hy => ?_, ?_⟩
  · obtain ⟨b, hb, rfl⟩ := List.mem_map.mp (List.mem_toArray.mp hy)
    cases b with
    | true => exact eqAt_V (y := .bl true) (x := .bl true) rfl rfl rfl rfl
    | false => exact eqAt_V (y := .bl false) (x := .bl true) rfl rfl rfl rfl
  · refine ⟨.int (bs.countP id : Nat), H, I.tok _, ⟨s.toks, ?_⟩, q⟩
    have e2 : (bs.map Value.bool).toArray.toList.countP isTrueU = bs.countP id := by
      rw [List.toList_toArray, List.countP_map]
      rfl
    rw [e2]
def rIndex : V → List V → Hp → VK → Prop := fun x vs H Q => ∃ (l : Addr) (bs : List Bool) (j : Nat), x = .ref l ∧ vs = [.bl true] ∧ H l = some (.lst (bs.map V.bl)) ∧ bs[j]? = some true ∧ (∀ i, i < j → bs[i]? = some false) ∧ j < 1000 ∧ Q (.int (j : Nat)) H
theorem mt_index : MtM X "list.index" rIndex := by
  intro pins s σ H x vs v us Q I rx rv h
  obtain ⟨l, bs, j, rfl, rfl, hH, hj, hno, h1000, q⟩ := h
  cases rx
  obtain ⟨u, rfl, ru⟩ := rv.one
  cases (show u = Value.bool true from ru)
  obtain ⟨z, its, n, r, hl, e⟩ := I.lstM hH
  have ei := bools_val r
  subst ei
  have hj1 : j < bs.length := (List.getElem?_eq_some_iff.mp hj).1
  have hjs : j < (bs.map Value.bool).toArray.size := by simpa using hj1
  have at' : ∀ m (hm : m < (bs.map Value.bool).toArray.size) b, bs[m]? = some b → isTrueU (bs.map Value.bool).toArray[m] = b := fun m hm b hb => by
    have : (bs.map Value.bool).toArray[m]? = some (Value.bool b) := by simp [hb]
    rw [Array.getElem?_eq_getElem hm] at this
    rw [Option.some.inj this]; rfl
  refine call_meets F.slot_list_index ⟨_, e, rfl⟩ F.entry_list_index (F.args_list_index_2 _ _) (PySem.SeqAt.list_indexAt l _ n none #[] (.bool true) isTrueU j hjs (by omega) (at' j hjs true hj) (fun m hm hlt => at' m hm false (hno m hlt))) ⟨e, fun y hy => ?_, ?_⟩
  · obtain ⟨b, hb, rfl⟩ := List.mem_map.mp (List.mem_toArray.mp hy)
    cases b with
    | true => exact eqAt_V (y := .bl true) (x := .bl true) rfl rfl rfl rfl
    | false => exact eqAt_V (y := .bl false) (x := .bl true) rfl rfl rfl rfl
  · exact ⟨.int (j : Nat), H, I.tok _, ⟨_, rfl⟩, q⟩
theorem pe_count {K : PySem.W.Frag} {o : Expr} {to : TE} {apos cpos p : Pos} {j : Nat} (ho : PE X o to) (hbase : attributeBase o "count" X.env (eval o X.env) = eval o X.env := by rfl)
    (hfew : ((backTo cpos (starEach [.Constant (.bool true) j p] X.env)).all (fun x => !x.1) && (backToKw cpos (keywordEach [] X.env)).all (fun x => x.1.isSome)
      && decide (([.Constant (.bool true) j p] : List Expr).length + ([] : List Keyword).length + (if ([] : List Keyword).isEmpty then 0 else 1) < 30)) = true := by rfl)
    (hline : (apos.endLine == cpos.line) = true := by rfl) (hK : X.K = K := by rfl) :
    PE X (.Call (.Attribute o "count" apos) [.Constant (.bool true) j p] [] cpos) (tBM K "list" rCount to (tCons (tC (.bl true)) tNil)) := by
  subst hK
  exact pe_bm PySem.F.plainAttrs_list PySem.F.slot_list_count PySem.F.type_list_count mt_count ho (pa_cons pe_bl pa_nil) hbase hfew hline
theorem pe_index {K : PySem.W.Frag} {o : Expr} {to : TE} {apos cpos p : Pos} {j : Nat} (ho : PE X o to) (hbase : attributeBase o "index" X.env (eval o X.env) = eval o X.env := by rfl)
    (hfew : ((backTo cpos (starEach [.Constant (.bool true) j p] X.env)).all (fun x => !x.1) && (backToKw cpos (keywordEach [] X.env)).all (fun x => x.1.isSome)
      && decide (([.Constant (.bool true) j p] : List Expr).length + ([] : List Keyword).length + (if ([] : List Keyword).isEmpty then 0 else 1) < 30)) = true := by rfl)
    (hline : (apos.endLine == cpos.line) = true := by rfl) (hK : X.K = K := by rfl) :
    PE X (.Call (.Attribute o "index" apos) [.Constant (.bool true) j p] [] cpos) (tBM K "list" rIndex to (tCons (tC (.bl true)) tNil)) := by
  subst hK
  exact pe_bm PySem.F.plainAttrs_list PySem.F.slot_list_index PySem.F.type_list_index mt_index ho (pa_cons pe_bl pa_nil) hbase hfew hline
end
end L2
set_option Elab.async false
set_option linter.all false
set_option maxRecDepth 100000
set_option maxHeartbeats 4000000
namespace L2
open PySem PySem.Spec PyProof.Rows
section
variable {σ : St} {H : Hp} {ix : List Nat} {te : TE} {Q : VK} {K : PySem.W.Frag}
/-- a comprehension whose test and thing may lay new things -/
theorem comp_gen {J : It} {n : Nat} {tt : TT} (item : Nat → V → Prop) (keep : Nat → Bool) (Pv : Addr → Nat → List V → Hp → Prop) (hn : n < sizeLine)
    (hgo : ∀ D i ys H, i < n → Pv D i ys H → J.go i H) (hy : ∀ D i ys H x H', i < n → Pv D i ys H → J.yld i H x H' → H' = H ∧ item i x) (hstop : ∀ D ys H, Pv D n ys H → J.stop n H)
    (h0 : ∀ D, H D = none → Pv D 0 [] (upd H D (.lst [])))
    (test : ∀ D i ys H x, H D = some (.lst ys) → i < n → item i x → Pv D i ys H → ∀ R : Bool → Hp → Prop, (∀ H2, H2 D = some (.lst ys) → Pv D i ys H2 → R (keep i) H2) → tt (cSlots σ ix x) H R)
    (elt : ∀ D i ys H x, H D = some (.lst ys) → i < n → item i x → keep i = true → Pv D i ys H → ∀ R : VK, (∀ y H3, H3 D = some (.lst ys) → Pv D (i + 1) (ys ++ [y]) (upd H3 D (.lst (ys ++ [y]))) → R y H3) → te (cSlots σ ix x) H R)
    (no : ∀ D i ys H, H D = some (.lst ys) → i < n → keep i = false → Pv D i ys H → Pv D (i + 1) ys H)
    (fin : ∀ D ys H, H D = some (.lst ys) → Pv D n ys H → Q (.ref D) H) : cEnd J σ ix tt te H Q := by
  intro D hD
  refine ⟨fun i m H => m = n - i ∧ i ≤ n ∧ ∃ ys, H D = some (.lst ys) ∧ ys.length ≤ i ∧ Pv D i ys H, ⟨n, rfl, Nat.zero_le _, [], upd_same, Nat.le_refl _, h0 D hD⟩, ?_⟩
  rintro i m H ⟨rfl, hi, ys, e, hl, p⟩
  by_cases hlt : i < n
  · refine .inr ⟨hgo D i ys H hlt p, fun x H' y => ?_⟩
    obtain ⟨rfl, it⟩ := hy D i ys H x H' hlt p y
    refine test D i ys _ x e hlt it p _ fun H2 e2 p2 => ?_
    cases hk : keep i with
    | true =>
      rw [if_pos rfl]
      refine elt D i ys H2 x e2 hlt it hk p2 _ fun y H3 e3 p3 => ?_
      exact ⟨ys, n - (i + 1), e3, by omega, by omega, rfl, hlt, ys ++ [y], upd_same, by rw [List.length_append, List.length_singleton]; omega, p3⟩
    | false =>
      rw [if_neg Bool.false_ne_true]
      exact ⟨n - (i + 1), by omega, rfl, hlt, ys, e2, Nat.le_succ_of_le hl, no D i ys H2 e2 hlt hk p2⟩
  · have e' : i = n := by omega
    subst e'
    exact .inl ⟨hstop D ys H p, fin D ys H e p⟩
end
end L2
set_option Elab.async false
set_option linter.all false
set_option maxRecDepth 100000
set_option maxHeartbeats 4000000
namespace L2
open PySem PySem.Spec PyProof.Rows
/-! ### sorted(d), d a dict of ints -/
section
variable {prog : Program} {w : World} {A : Around} {E : Value → Shared → Prop} {s : Shared} {T : String} {r d : Addr} {n : Nat} {P : Nat → Value → Prop} {OK : Heap → Prop}
theorem iadd_src {R : Result → Shared → Prop} (K : PySem.W.KdlSrc prog w T r d n P OK) (hh : A.handled = none) (hok : OK s.heap) (S : Addr) (hSr : S ≠ r) (hSd : S ≠ d) (c₀ : Nat) (hS : s.heap.get? S = some { cls := .type "list", data := .seq #[] c₀ })
    (hR : ∀ h' tk acc' c', (∀ b o, b ≠ S → s.heap.get? b = some o → h'.get? b = some o) → h'.get? S = some { cls := .type "list", dict := none, data := .seq acc' c', slots := #[] } → ItemsOf P acc' n → R (.ok (.ret (.ref S))) { s with heap := h', toks := tk }) (hn : n ≤ sizeLine) :
    codeAny (model prog w) A (.builtin "list.__iadd__" ⟨[.ref S, .ref r], []⟩) R s := by
  refine codeAny_builtin PySem.F.entry_list_iadd ?_
  rw [Around.under_plainId PySem.F.plain_list_iadd _]
  exact PySem.W.kdl_extend (R := R) K hh hok S hSr hSd (.ref S) c₀ hS hR hn
theorem collect_src {Q : List Value → Shared → Prop} (K : PySem.W.KdlSrc prog w T r d n P OK) (hh : A.handled = none) (hok : OK s.heap) (hn : n ≤ sizeLine)
    (hQ : ∀ h' tk acc, (∀ b o, s.heap.get? b = some o → h'.get? b = some o) → s.heap.objs.size < h'.objs.size → ItemsOf P acc n → Q acc.toList { s with heap := h', toks := tk }) : wpAny (model prog w) A (collect (.ref r)) Q E s := by
  have hlt := K.there _ hok
  unfold collect
  refine wpAny_bind (wpAny_runValue (codeAny_builtin PySem.F.entry_proto_collect ?_))
  rw [Around.under_plainId PySem.F.plain_proto_collect _]
  show wpAny _ A.in1 (newList [] >>= fun l => again (.builtin "list.__iadd__" ⟨[l, .ref r], []⟩)) _ _ s
  refine wpAny_bind (wpAny_newObj_type ?_)
  have hS : (s.heap.push { cls := .type "list", data := .seq ([] : List Value).toArray }).get? s.heap.objs.size = some { cls := .type "list", data := .seq #[] 0 } := Heap.get?_push_size _ rfl
  refine wpAny_pure ⟨plainId_quiet PySem.F.plain_list_iadd _, iadd_src (s := { s with heap := s.heap.push { cls := .type "list", data := .seq ([] : List Value).toArray } }) K hh (K.keep _ _ hok fun b _ o e => Heap.get?_push_of_some _ e) s.heap.objs.size (Nat.ne_of_gt hlt.1) (Nat.ne_of_gt hlt.2) _ hS (fun h' tk acc' c' hk hS' hacc => ?_) hn⟩
  show wpAny _ A (load s.heap.objs.size >>= _) _ _ _
  refine wpAny_bind (wpAny_load hS' ?_)
  exact wpAny_pure (hQ h' tk acc' (fun b o e => hk b o (Nat.ne_of_lt (Heap.lt_size e)) (Heap.get?_push_of_some _ e)) (Heap.lt_size hS') hacc)
theorem sorted_src {Q : Value → Shared → Prop} {ns : List Int} (K : PySem.W.KdlSrc prog w T r d n P OK) (hh : A.handled = none) (hok : OK s.heap) (hn : n ≤ sizeLine) (hP : ∀ acc, ItemsOf P acc n → IntsAre acc.toList ns) (h64 : n < 64)
    (hs : ns.Pairwise (· ≤ ·)) (hQ : ∀ h' tk a out c, (∀ b o, s.heap.get? b = some o → h'.get? b = some o) → s.heap.objs.size ≤ a → IntsAre out ns → h'.get? a = some { cls := .type "list", data := .seq out.toArray c } → Q (.ref a) { s with heap := h', toks := tk }) :
    wpAny (model prog w) A (call (.builtin "sorted") [.ref r]) Q E s := by
  refine Calls.call_function_entry kind_sorted plain_sorted entry_sorted (args_sorted1 _) ?_
  unfold Builtin.«sorted»
  refine wpAny_bind (m := checkCount "sorted" 1 1 _) (wpAny_pure ?_)
  refine wpAny_bind (collect_src K hh hok hn fun h1 tk acc k1 hsz hacc => ?_)
  have hI := hP acc hacc
  have hl64 : acc.toList.length < 64 := by rw [Array.length_toList, hacc.1]; exact h64
  refine wpAny_bind (wpAny_newList ?_ (hsz := Nat.le_of_lt (small1000 (by omega))))
  have hoL : (h1.push (seqObj "list" acc.toList.toArray 0)).get? h1.objs.size = some (seqObj "list" acc.toList.toArray 0) := Heap.get?_push_size _ rfl
  refine wpAny_bind (wpAny_holding (wpAny_call_entry slot_list_sort ⟨_, hoL, rfl⟩ entry_list_sort (list_sort_tree hoL hI hl64 fun out ns' a1 a2 a3 => ⟨_, rfl, ?_⟩) (args_list_sort _)))
  refine wpAny_pure ⟨_, rfl, ?_⟩
  have e : ns' = ns := List.Perm.eq_of_pairwise (le := (· ≤ ·)) (fun a b _ _ h1 h2 => Int.le_antisymm h1 h2) a3 hs a2
  subst e
  obtain ⟨c, hc⟩ := sortedHeap_at (vs := acc.toList) (out := out) hoL
  refine hQ _ tk h1.objs.size out.toList c (fun b o e => ?_) (Nat.le_of_lt hsz) a1 (by rw [Array.toArray_toList]; exact hc)
  have e1 := k1 b o e
  rw [sortedHeap_old (Nat.ne_of_lt (Heap.lt_size e1)) (by rw [size_push']; exact Nat.lt_succ_of_lt (Heap.lt_size e1))]
  exact Heap.get?_push_of_some _ e1
end
section
variable {X : Cx}
theorem ints_keys : ∀ {kvs : List (Key × V)} {vs : List (Key × Value)} {ns : List Int}, KV kvs vs → kvs.map (·.1) = ns.map Sum.inl → ∀ acc : List Value, acc.length = vs.length → (∀ (i : Nat) (v : Value), acc[i]? = some v → ∃ (k : Key) (x : Value), vs[i]? = some (k, x) ∧ keyIs k v = true) → IntsAre acc ns := by
  intro kvs vs ns h e acc hl hv
  have ek := KV.keys h
  rw [e] at ek
  clear e h
  induction vs generalizing ns acc with
  | nil =>
    cases acc with
    | nil =>
      cases ns with
      | nil => exact .nil
      | cons _ _ => simp at ek
    | cons _ _ => simp at hl
  | cons q r ih =>
    cases acc with
    | nil => simp at hl
    | cons a acc =>
      cases ns with
      | nil => simp at ek
      | cons n ns =>
        simp only [List.map_cons, List.cons.injEq] at ek
        obtain ⟨k, x, e1, e2⟩ := hv 0 a rfl
        simp only [List.getElem?_cons_zero, Option.some.injEq] at e1
        subst e1
        have ek1 : Sum.inl n = k := ek.1
        subst ek1
        obtain ⟨i, t, z1, z2⟩ | ⟨i, t, z1, z2⟩ := keyIs_shape e2
        · cases z1
          subst z2
          exact .cons _ _ (ih acc (by simpa using hl) (fun i v hi => by simpa using hv (i + 1) v (by simpa using hi)) ek.2)
        · cases z1
theorem vals_of_ints : ∀ {vs : List Value} {ns : List Int}, IntsAre vs ns → Vals (ns.map V.int) vs := fun h => vals_ints h
theorem nn' {n : Nat} (h : n < 64) : n ≤ sizeLine := Nat.le_of_lt (small1000 (by omega))
theorem tb_sorted : bootBuiltins "sorted" = some (.builtin "sorted") := by decide +kernel
def rSortD : List V → Hp → VK → Prop := fun xs H Q => ∃ (a : Addr) (kvs : List (Key × V)) (ns : List Int), xs = [.ref a] ∧ H a = some (.dK kvs) ∧ kvs.map (·.1) = ns.map Sum.inl ∧ ns.Pairwise (· ≤ ·) ∧ ns.length < 64 ∧ ∀ p, H p = none → Q (.ref p) (upd H p (.lst (ns.map V.int)))
theorem call_sortD (hc : X.calm = true) : CallR X (.builtin "sorted") rSortD := by
  intro pins s σ H xs us Q I r h
  obtain ⟨a, kvs, ns, rfl, ha, hk, hs, h64, q⟩ := h
  obtain ⟨u, rfl, ru⟩ := vals1 r
  cases ru
  obtain ⟨z, lo, vs, kv, hD⟩ := dk_of I.hok ha
  have ln : ns.length = kvs.length := by have := congrArg List.length hk; simpa using this.symm
  have lv := KV.length kv
  obtain ⟨ep, hA⟩ := hD.dictAt
  refine sorted_src (ns := ns) (PySem.W.kdl_dict (knd := mixKind X.prog X.w) (kvs := vs) (ep := ep) lo) (I.ok.hd hc) hA (by omega) (fun acc hacc => ints_keys kv hk acc.toList (by rw [Array.length_toList]; exact hacc.1) fun i v e => ?_) (by omega) hs fun h' tk p out c k1 hp hI hg => ?_
  · exact hacc.2 i v (by rw [← Array.getElem?_toList]; exact e)
  · exact ⟨.ref p, _, I.laid (a := p) (o := .lst (ns.map V.int)) (t' := tk) k1 hp ⟨by rw [List.length_map]; exact nn' h64, out, c, vals_of_ints hI, hg⟩, rfl, q p (I.hok.fresh hp)⟩
end
end L2
set_option Elab.async false
set_option linter.all false
set_option maxRecDepth 100000
set_option maxHeartbeats 8000000
namespace Tw
open PySem PySem.Spec L2
def top (i : Nat) : Stmt := PySem.Challenge.pw_twigmap_k21_leaves_put.main.body.getD i (.Pass ⟨0, 0, 0, 0⟩)
abbrev sIsKey : Stmt := top 13
abbrev sChecked : Stmt := top 14
abbrev sFits : Stmt := top 15
abbrev sFew : Stmt := top 16
abbrev sSign : Stmt := top 17
abbrev sAhead : Stmt := top 18
abbrev sStanding : Stmt := top 19
abbrev sChRows : Stmt := top 24
abbrev sOwnRows : Stmt := top 25
abbrev sRise : Stmt := top 26
abbrev sLabRows : Stmt := top 27
abbrev sIsStem : Stmt := top 30
abbrev sWell : Stmt := top 32
abbrev sPull : Stmt := top 33
abbrev sGreat : Stmt := top 34
abbrev sText : Stmt := top 35
abbrev sKey : Stmt := top 36
abbrev sRank : Stmt := top 37
abbrev sLess : Stmt := top 38
abbrev sAlike : Stmt := top 39
abbrev sAsked : Stmt := top 40
abbrev sGoodRows : Stmt := top 41
abbrev sSpoilt : Stmt := top 42
abbrev sLIsKey : Stmt := top 43
abbrev sDue : Stmt := top 44
abbrev sIsPut : Stmt := top 45
abbrev sPut : Stmt := top 46
abbrev sLaw : Stmt := top 47

/-- what the module says of names -/
structure Txt (mg : Str → Option Value) : Prop where
  isi : mg "isinstance" = none
  bool : mg "bool" = none
  int : mg "int" = none
  str : mg "str" = none
  tuple : mg "tuple" = none
  list : mg "list" = none
  len : mg "len" = none
  all : mg "all" = none
  abs : mg "abs" = none
  max : mg "max" = none
  min : mg "min" = none
  range : mg "range" = none
  sorted : mg "sorted" = none
  ValueError : mg "ValueError" = none
  signs : ∃ t, mg "MOST_SIGNS" = some (.int 40 t)
  things : ∃ t, mg "MOST_THINGS" = some (.int 4 t)
  deep : ∃ t, mg "MOST_DEEP" = some (.int 3 t)
  rows : ∃ t, mg "MOST_ROWS" = some (.int 4 t)
  height : ∃ t, mg "HEIGHT" = some (.int 0 t)

section
variable {P : Program} {w : World} {K : PySem.W.Frag} {mg : Str → Option Value} {base : Heap} {f : Addr} {fd : FuncData}

/-! ### _law_pull -/
theorem scPull : FnScope ["_law_well_here", "_law_many", "_law_found", "_law_first", "_law_second"] ["_law_well_here", "_law_many"] (defScope sPull) := ⟨rfl, rfl, rfl, by decide +kernel, rfl, by decide +kernel, by decide +kernel⟩
theorem ok_pull (F : Fun K "_law_pull" "_law_pull" sPull f fd) : FnOk P w K mg base CX0 1 f fd ["_law_well_here", "_law_many"] spPull := by
  refine F.ok scPull (fun vs H Q E h => ?_) (fun cdv A outer s H vs Q E hr h => ?_)
  · obtain ⟨p, m, rfl, _⟩ := h
    rfl
  obtain ⟨p, m, rfl, W, ⟨hm, hlog⟩, k⟩ := h
  obtain ⟨a, b, c, d, hw, ha0, ha1, hc, hd⟩ := W.ex
  have nd := scPull.nd
  refine ⟨_, pss_cons (ps_if (pt_cmpR op_eq (pe_ix ix_list (pv 0) pe_int (fun _ _ => rfl)) pe_int (nomark _)) (pss_one (ps_ret pe_int)) pss_nil)
    (pss_cons (ps_asg (pe_op op_sub (pe_ix ix_list (pv 0) pe_int (fun _ _ => rfl)) pe_int) (pg_sub (pv 0) pe_int set_list))
    (pss_cons (ps_if (pt_cmpR op_gt (pe_ix ix_list (pv 0) pe_int (fun _ _ => rfl)) pe_int (nomark _))
      (pss_cons (ps_set (i := 2) nd rfl (Or.inl rfl) (pe_op op_mod (pe_ix ix_list (pv 0) pe_int (fun _ _ => rfl)) (pv 1)))
      (pss_cons (ps_asg (pe_op tw_fdiv (pe_ix ix_list (pv 0) pe_int (fun _ _ => rfl)) (pv 1)) (pg_sub (pv 0) pe_int set_list))
      (pss_one (ps_ret (pv 2))))) pss_nil)
    (pss_cons (ps_asg (pe_op op_add (pe_ix ix_list (pv 0) pe_int (fun _ _ => rfl)) pe_int) (pg_sub (pv 0) pe_int set_list))
    (pss_cons (ps_set (i := 3) nd rfl (Or.inl rfl) (pe_op op_mod (pe_op op_mul (pe_op op_add (pe_ix ix_list (pv 0) pe_int (fun _ _ => rfl)) pe_int) (pe_op op_add pe_int (pe_op op_mul pe_int (pe_ix ix_list (pv 0) pe_int (fun _ _ => rfl))))) pe_int))
    (pss_cons (ps_set (i := 4) nd rfl (Or.inl rfl) (pe_op op_mod (pe_op op_mul (pe_op op_add (pe_op op_fdiv (pv 3) pe_int) pe_int) (pe_op op_add (pe_op op_mod (pv 3) pe_int) pe_int)) pe_int))
    (pss_one (ps_ret (pe_op op_mod (pe_op op_fdiv (pv 4) pe_int) (pv 1))))))))), ?_⟩
  refine ⟨_, rfl, p, _, _, _, rfl, rfl, SqL.of hw, rfl, rfl, _, rfl, ?_⟩
  refine ite2 (fun _ => ?_) (fun c0 => ?_)
  · exact k 0 H (Int.le_refl 0) hm W (SameX.refl p H)
  have d0 : d ≠ 0 := fun e => c0 (decide_eq_true (by rw [e]))
  refine ⟨_, rfl, p, _, _, _, rfl, rfl, SqL.of hw, rfl, _, _, rfl, rfl, _, rfl, p, _, _, _, rfl, rfl, hw, rfl, ?_⟩
  refine ⟨_, rfl, p, _, _, _, rfl, rfl, SqL.of upd_same, rfl, _, _, rfl, rfl, _, rfl, ?_⟩
  refine ite2 (fun c1 => ?_) (fun c1 => ?_)
  · refine ⟨_, rfl, p, _, _, _, rfl, rfl, SqL.of upd_same, rfl, _, rfl, _, _, rfl, rfl, hm, ?_⟩
    refine ⟨_, rfl, p, _, _, _, rfl, rfl, SqL.of upd_same, rfl, _, rfl, _, _, rfl, rfl, ⟨hm, hlog⟩, _, rfl, p, _, _, _, rfl, rfl, upd_same, rfl, ?_⟩
    refine ⟨_, rfl, ?_⟩
    refine k (c % m) _ (Int.emod_nonneg _ (by omega)) (Int.emod_lt_of_pos _ hm) ⟨a, b, c / m, d - 1, upd_same, ha0, ha1, Int.ediv_nonneg hc (by omega), by omega⟩ (SameX.refl p H).upd.upd
  · refine ⟨_, rfl, p, _, _, _, rfl, rfl, SqL.of upd_same, rfl, _, _, rfl, rfl, _, rfl, p, _, _, _, rfl, rfl, upd_same, rfl, ?_⟩
    refine ⟨_, rfl, p, _, _, _, rfl, rfl, SqL.of upd_same, rfl, _, _, rfl, rfl, _, rfl, p, _, _, _, rfl, rfl, SqL.of upd_same, rfl, _, _, rfl, rfl, .inl ⟨by decide, by decide⟩, _, _, rfl, rfl, _, _, rfl, rfl, .inl ⟨by omega, by omega⟩, _, _, rfl, rfl, (by show (0 : Int) < 2147483629; decide), ?_⟩
    generalize hx : (a + 1) * (48271 + 7919 * (b + 1)) % 2147483629 = x
    have x0 : 0 ≤ x := by rw [← hx]; exact Int.emod_nonneg _ (by decide)
    have x1 : x < 2147483629 := by rw [← hx]; exact Int.emod_lt_of_pos _ (by decide)
    refine ⟨_, rfl, _, _, rfl, rfl, ⟨by decide, by decide⟩, _, _, rfl, rfl, _, rfl, _, _, rfl, rfl, (by show (0 : Int) < 1009; decide), _, _, rfl, rfl, _, _, rfl, rfl, .inl ⟨by omega, by omega⟩, _, _, rfl, rfl, (by show (0 : Int) < 1000000007; decide), ?_⟩
    refine ⟨_, rfl, _, _, rfl, rfl, ⟨by decide, by decide⟩, _, rfl, _, _, rfl, rfl, hm, ?_⟩
    exact k _ _ (Int.emod_nonneg _ (by omega)) (Int.emod_lt_of_pos _ hm) ⟨a, b + 1, c, d - 1, upd_same, ha0, ha1, hc, by omega⟩ (SameX.refl p H).upd.upd

/-! ### _law_great -/
theorem scGreat : FnScope ["_law_well_here", "_law_bound", "_law_found", "_law_j"] ["_law_well_here", "_law_bound"] (defScope sGreat) := ⟨rfl, rfl, rfl, by decide +kernel, rfl, by decide +kernel, by decide +kernel⟩
theorem ok_great (F : Fun K "_law_great" "_law_great" sGreat f fd) (T : Txt mg) (DP : DefOk P w K mg base 1 "_law_pull" ["_law_well_here", "_law_many"] spPull) : FnOk P w K mg base CX0 2 f fd ["_law_well_here", "_law_bound"] spPull := by
  refine F.ok scGreat (fun vs H Q E h => ?_) (fun cdv A outer s H vs Q E hr h => ?_)
  · obtain ⟨p, m, rfl, _⟩ := h
    rfl
  obtain ⟨p, m, rfl, W, hm, k⟩ := h
  obtain ⟨a, b, c, d, hw, _⟩ := W.ex
  have nd := scGreat.nd
  refine ⟨_, pss_cons (ps_if (pt_cmpR op_gt (pe_ix ix_list (pv 0) pe_int (fun _ _ => rfl)) pe_int (nomark _)) (pss_one (ps_ret (pe_def DP hr (pa_cons (pv 0) (pa_cons (pv 1) pa_nil))))) pss_nil)
    (pss_cons (ps_set (i := 2) nd rfl (Or.inl rfl) pe_int)
    (pss_cons (ps_for PassesOwn.never rfl (pi_range1 rfl T.range (pa_cons pe_int pa_nil)) (pg_name (i := 3) nd rfl (Or.inl rfl))
      (pss_one (ps_set (i := 2) nd rfl (Or.inl rfl) (pe_op op_add (pe_op op_mul (pv 2) pe_int) (pe_def DP hr (pa_cons (pv 0) (pa_cons pe_int pa_nil)))))))
    (pss_one (ps_ret (pe_op op_mod (pv 2) (pv 1)))))), ?_⟩
  refine ⟨_, rfl, p, _, _, _, rfl, rfl, SqL.of hw, rfl, _, _, rfl, rfl, _, rfl, ?_⟩
  refine ite2 (fun _ => ?_) (fun _ => ?_)
  · exact ⟨_, rfl, _, rfl, p, m, rfl, W, hm, k⟩
  refine ⟨8, rfl, by decide, by decide, for_range (n := 8) (fun i σ H2 => ∃ (z : Int) (j : Option V), σ = [some (.ref p), some (.int m), some (.int z), j] ∧ WellAt H2 p ∧ SameX p H H2) ⟨0, none, rfl, W, SameX.refl p H⟩ ?_ ?_⟩
  · rintro i σ H2 hi ⟨z, j, rfl, W2, s2⟩
    refine ⟨_, rfl, _, _, rfl, rfl, .inr ⟨by decide, by decide⟩, _, rfl, p, 62500000, rfl, W2, small_lit (by decide) (by decide), fun r H3 _ _ W3 s3 => ?_⟩
    exact ⟨_, _, rfl, rfl, _, _, rfl, W3, s2.trans s3⟩
  · rintro σ H2 ⟨z, j, rfl, W2, s2⟩
    refine ⟨_, rfl, _, rfl, _, _, rfl, rfl, hm.1, ?_⟩
    exact k _ _ (Int.emod_nonneg _ (by have := hm.1; omega)) (Int.emod_lt_of_pos _ hm.1) W2 s2
end
def signsS : Str := " \"\\~!#$&'()*+,-./0123456789:;<=>?@ABCDEFGHIJKLMNOPQRSTUVWXYZ[]^_`abcdefghijklmnopqrstuvwxyz{|}"
theorem signs_len : signsS.cps.toList.length = 94 := by decide +kernel
theorem signs_size : signsS.length = 94 := by decide +kernel
theorem signs_ok : signsS.cps.toList.all signOk = true := by decide +kernel
theorem sign_at {i : Int} (h0 : 0 ≤ i) (h1 : i < 94) : ∃ c, atI signsS.cps.toList i = some c ∧ signOk c = true := by
  obtain ⟨c, e, m⟩ := atI_in (xs := signsS.cps.toList) h0 (by rw [signs_len]; exact h1)
  exact ⟨c, e, List.all_eq_true.mp signs_ok c m⟩
/-- a text of at most i signs, all of them right -/
def TextN (x : Str) (i : Nat) : Prop := x.cps.size ≤ i ∧ x.cps.toList.all signOk = true
theorem TextN.ok {x : Str} {i : Nat} (h : TextN x i) (hi : i ≤ 40) : textOk x = true := by
  unfold textOk
  rw [Bool.and_eq_true]
  exact ⟨decide_eq_true (Nat.le_trans h.1 hi), h.2⟩
theorem TextN.more {x : Str} {i c : Nat} (h : TextN x i) (hc : signOk c = true) : TextN (x ++ (⟨#[c]⟩ : Str)) (i + 1) := by
  have e : (x ++ (⟨#[c]⟩ : Str)).cps = x.cps ++ #[c] := rfl
  refine ⟨?_, ?_⟩
  · rw [e, Array.size_append]; exact Nat.succ_le_succ h.1
  · rw [e, Array.toList_append, List.all_append, h.2]; simp [hc]

section
variable {P : Program} {w : World} {K : PySem.W.Frag} {mg : Str → Option Value} {base : Heap} {f : Addr} {fd : FuncData}
/-! ### _law_text -/
abbrev nText : List Str := ["_law_well_here", "_law_signs", "_law_text_here", "_law_plain", "_law_j", "_law_sign"]
theorem scText : FnScope nText ["_law_well_here"] (defScope sText) := ⟨rfl, rfl, rfl, by decide +kernel, rfl, by decide +kernel, by decide +kernel⟩
theorem ok_text (F : Fun K "_law_text" "_law_text" sText f fd) (T : Txt mg) (DP : DefOk P w K mg base 1 "_law_pull" ["_law_well_here", "_law_many"] spPull) : FnOk P w K mg base CX0 2 f fd ["_law_well_here"] spText := by
  refine F.ok scText (fun vs H Q E h => ?_) (fun cdv A outer s H vs Q E hr h => ?_)
  · obtain ⟨p, rfl, _⟩ := h
    rfl
  obtain ⟨p, rfl, W, k⟩ := h
  have nd := scText.nd
  refine ⟨_, pss_cons (ps_set (i := 1) nd rfl (Or.inl rfl) pe_str) (pss_cons (ps_set (i := 2) nd rfl (Or.inl rfl) pe_str)
    (pss_cons (ps_set (i := 3) nd rfl (Or.inl rfl) (pe_def DP hr (pa_cons (pv 0) (pa_cons pe_int pa_nil))))
    (pss_cons (ps_for PassesOwn.never rfl (pi_range1 rfl T.range (pa_cons (pe_def DP hr (pa_cons (pv 0) (pa_cons (pe_ix ix_list (pe_lst (pa_cons pe_int (pa_cons pe_int pa_nil))) (pe_def DP hr (pa_cons (pv 0) (pa_cons pe_int pa_nil))) (fun _ _ => rfl)) pa_nil))) pa_nil)) (pg_name (i := 4) nd rfl (Or.inl rfl))
      (pss_cons (ps_set (i := 5) nd rfl (Or.inl rfl) pe_str)
      (pss_cons (ps_if (pw_or (pt_cmpR op_gt (pv 3) pe_int (nomark _)) (pw_or1 (pt_cmpR op_eq (pe_def DP hr (pa_cons (pv 0) (pa_cons pe_int pa_nil))) pe_int (nomark _)))).pt
        (pss_one (ps_set (i := 5) nd rfl (Or.inl rfl) (pe_ix ix_str (pv 1) (pe_def DP hr (pa_cons (pv 0) (pa_cons (pe_ix ix_list (pe_lst (pa_cons pe_int (pa_cons pe_int pa_nil))) (pe_op op_fdiv (pv 3) pe_int) (fun _ _ => rfl)) pa_nil))) (fun _ _ => rfl)))) pss_nil)
      (pss_one (ps_set (i := 2) nd rfl (Or.inl rfl) (pe_op op_add_str (pv 2) (pv 5)))))))
    (pss_one (ps_ret (pv 2)))))), ?_⟩
  refine ⟨_, rfl, p, 3, rfl, W, small_lit (by decide) (by decide), fun pl H1 pl0 pl1 W1 s1 => ?_⟩
  refine ⟨_, rfl, (by show 2 ≤ sizeLine; decide), fun l hl => ?_⟩
  have W1' : WellAt (upd H1 l (.lst [.int 4, .int 41])) p := W1.same (same_new hl _)
  refine ⟨_, rfl, p, 2, rfl, W1', small_lit (by decide) (by decide), fun r H2 r0 r1 W2 s2 => ?_⟩
  have npl : l ≠ p := by
    obtain ⟨xs, e⟩ := W1.some
    exact (ne_of_none e hl).symm
  have hl2 : H2 l = some (.lst [.int 4, .int 41]) := s2 l _ upd_same npl
  obtain ⟨v, hv, hv'⟩ := at2 (x := V.int 4) (y := V.int 41) r0 r1
  have hb : ∃ z : Int, v = .int z ∧ 0 < z ∧ z ≤ 41 := by
    rcases hv' with e | e
    · exact ⟨4, e, by decide, by decide⟩
    · exact ⟨41, e, by decide, by decide⟩
  obtain ⟨z, rfl, z0, z1⟩ := hb
  refine ⟨l, _, _, _, rfl, rfl, SqL.of hl2, hv, p, z, rfl, W2, small_lit z0 (by omega), fun n H3 n0 n1 W3 s3 => ?_⟩
  have sA : SameX p H H3 := (s1.trans (SameX.of (same_new hl _))).trans (s2.trans s3)
  refine ⟨n, rfl, by omega, by omega, for_range (n := n.toNat) (fun i σ H4 => ∃ (x : Str) (j g : Option V), σ = [some (.ref p), some (.str signsS), some (.str x), some (.int pl), j, g] ∧ TextN x i ∧ WellAt H4 p ∧ SameX p H H4)
    ⟨"", none, none, rfl, ⟨by decide, by decide⟩, W3, sA⟩ ?_ ?_⟩
  · rintro i σ H4 hi ⟨x, j, g, rfl, hx, W4, s4⟩
    have fin : ∀ (c : Nat) (H5 : Hp), signOk c = true → WellAt H5 p → SameX p H H5 → ∃ (y : Str) (j g : Option V), [some (V.ref p), some (.str signsS), some (.str (x ++ (⟨#[c]⟩ : Str))), some (.int pl), some (.int (0 + (i : Int))), some (.str ⟨#[c]⟩)] = [some (.ref p), some (.str signsS), some (.str y), some (.int pl), j, g] ∧ TextN y (i + 1) ∧ WellAt H5 p ∧ SameX p H H5 :=
      fun c H5 hc W5 s5 => ⟨_, _, _, rfl, hx.more hc, W5, s5⟩
    have hlen : ∀ c : Nat, x.length + (⟨#[c]⟩ : Str).length ≤ sizeLine := fun c => by
      have h1 : x.length ≤ i := hx.1
      have h2 : (⟨#[c]⟩ : Str).length = 1 := rfl
      rw [h2]
      exact nn (by omega)
    have yes : ∀ H5, WellAt H5 p → SameX p H H5 → ∃ (v : Int), 0 < v ∧ v ≤ 94 ∧ atI [V.int 94, V.int 5] (pl / 2) = some (.int v) := fun H5 _ _ => by
      obtain ⟨v, e, h⟩ := at2 (x := V.int 94) (y := V.int 5) (i := pl / 2) (by omega) (by omega)
      rcases h with rfl | rfl
      · exact ⟨94, by decide, by decide, e⟩
      · exact ⟨5, by decide, by decide, e⟩
    refine ⟨_, rfl, _, _, rfl, rfl, _, rfl, ?_⟩
    refine ite2 (fun _ => ?_) (fun _ => ?_)
    · refine iteT ?_
      refine ⟨_, rfl, _, rfl, (by show 2 ≤ sizeLine; decide), fun l2 hl2 => ?_⟩
      obtain ⟨v, v0, v1, ev⟩ := yes H4 W4 s4
      refine ⟨_, rfl, _, _, rfl, rfl, ⟨by decide, by decide⟩, l2, _, _, _, rfl, rfl, SqL.of upd_same, ev, p, v, rfl, W4.same (same_new hl2 _), small_lit v0 (by omega), fun u H5 u0 u1 W5 s5 => ?_⟩
      obtain ⟨c, ec, hc⟩ := sign_at u0 (by omega)
      refine ⟨signsS, _, c, rfl, rfl, (by rw [signs_size]; exact nn (by decide)), ec, ?_⟩
      exact ⟨_, rfl, _, rfl, _, _, rfl, rfl, hlen c, fin c H5 hc W5 ((s4.trans (SameX.of (same_new hl2 _))).trans s5)⟩
    · refine ⟨_, rfl, p, 8, rfl, W4, small_lit (by decide) (by decide), fun y H6 _ _ W6 s6 => ⟨rfl, _, rfl, ?_⟩⟩
      refine ite2 (fun _ => ?_) (fun _ => ?_)
      · refine ⟨_, rfl, _, rfl, (by show 2 ≤ sizeLine; decide), fun l2 hl2 => ?_⟩
        obtain ⟨v, v0, v1, ev⟩ := yes H6 W6 (s4.trans s6)
        refine ⟨_, rfl, _, _, rfl, rfl, ⟨by decide, by decide⟩, l2, _, _, _, rfl, rfl, SqL.of upd_same, ev, p, v, rfl, W6.same (same_new hl2 _), small_lit v0 (by omega), fun u H5 u0 u1 W5 s5 => ?_⟩
        obtain ⟨c, ec, hc⟩ := sign_at u0 (by omega)
        refine ⟨signsS, _, c, rfl, rfl, (by rw [signs_size]; exact nn (by decide)), ec, ?_⟩
        exact ⟨_, rfl, _, rfl, _, _, rfl, rfl, hlen c, fin c H5 hc W5 (((s4.trans s6).trans (SameX.of (same_new hl2 _))).trans s5)⟩
      · exact ⟨_, rfl, _, rfl, _, _, rfl, rfl, hlen 97, fin 97 H6 (by decide) W6 (s4.trans s6)⟩
  · rintro σ H4 ⟨x, j, g, rfl, hx, W4, s4⟩
    exact ⟨_, rfl, k x H4 (hx.ok (by omega)) W4 s4⟩

/-! ### _law_key -/
theorem scKey : FnScope ["_law_well_here", "_law_room", "_law_way"] ["_law_well_here", "_law_room"] (defScope sKey) := ⟨rfl, rfl, rfl, by decide +kernel, rfl, by decide +kernel, by decide +kernel⟩
theorem key_none {k : Nat} : FnOk P w K mg base CX0 k f fd ["_law_well_here", "_law_room"] (spKey 0) := by
  have no : ∀ vs H Q E, ¬ spKey 0 vs H Q E := fun vs H Q E h => by
    obtain ⟨p, r, _, _, h1, _⟩ := h
    omega
  exact ⟨fun vs H Q E h => absurd h (no vs H Q E), fun A outer s H args us vs Q E _ _ _ _ h => absurd h (no vs H Q E)⟩
theorem ok_key {n : Nat} (F : Fun K "_law_key" "_law_key" sKey f fd) (T : Txt mg) (DP : DefOk P w K mg base 1 "_law_pull" ["_law_well_here", "_law_many"] spPull) (DG : DefOk P w K mg base 2 "_law_great" ["_law_well_here", "_law_bound"] spPull)
    (DT : DefOk P w K mg base 2 "_law_text" ["_law_well_here"] spText) (DK : DefOk P w K mg base (n + 2) "_law_key" ["_law_well_here", "_law_room"] (spKey n)) : FnOk P w K mg base CX0 (n + 3) f fd ["_law_well_here", "_law_room"] (spKey (n + 1)) := by
  refine F.ok scKey (fun vs H Q E h => ?_) (fun cdv A outer s H vs Q E hr h => ?_)
  · obtain ⟨p, r, rfl, _⟩ := h
    rfl
  obtain ⟨p, r, rfl, W, hn, k⟩ := h
  have nd := scKey.nd
  have hr1 := hr.mono (show 1 ≤ n + 2 by omega)
  have hr2 := hr.mono (show 2 ≤ n + 2 by omega)
  refine ⟨_, pss_cons (ps_set (i := 2) nd rfl (Or.inl rfl) (pe_def DP hr1 (pa_cons (pv 0) (pa_cons pe_int pa_nil))))
    (pss_cons (ps_if (pt_cmpR op_lt (pv 2) pe_int (nomark _)) (pss_one (ps_ret (pe_op op_sub (pe_def DP hr1 (pa_cons (pv 0) (pa_cons pe_int pa_nil))) pe_int))) pss_nil)
    (pss_cons (ps_if (pt_cmpR op_eq (pv 2) pe_int (nomark _)) (pss_one (ps_ret (pe_op op_add (pe_op op_sub (pe_def DG hr2 (pa_cons (pv 0) (pa_cons (pe_op op_sub (pe_op op_mul pe_int (pe_op op_pow pe_int pe_int)) pe_int) pa_nil))) (pe_op op_pow pe_int pe_int)) pe_int))) pss_nil)
    (pss_cons (ps_if (pw_or (pt_cmpR op_lt (pv 2) pe_int (nomark _)) (pw_or1 (pt_cmpR op_eq (pv 1) pe_int (nomark _)))).pt (pss_one (ps_ret (pe_def DT hr2 (pa_cons (pv 0) pa_nil)))) pss_nil)
    (pss_one (ps_ret (pe_callTy call_tuple_of rfl T.tuple tb_tuple (pa_cons (pe_comp [0, 1] ["_law_well_here", "_law_room"] rfl (pi_range1 rfl T.range (pa_cons (pe_def DP hr1 (pa_cons (pv 0) (pa_cons pe_int pa_nil))) pa_nil)) (fun _ _ _ _ _ => pts_nil)
      (fun _ _ _ _ _ => pe_def DK hr (pa_cons (pv 1) (pa_cons (pe_op op_sub (pv 2) pe_int) pa_nil))) ⟨rfl, .inl rfl, rfl, rfl, .inl rfl, rfl, trivial⟩) pa_nil))))))), ?_⟩
  refine ⟨_, rfl, p, 8, rfl, W, small_lit (by decide) (by decide), fun y H1 y0 y1 W1 s1 => ?_⟩
  refine ⟨_, rfl, _, _, rfl, rfl, _, rfl, ?_⟩
  refine ite2 (fun _ => ?_) (fun c1 => ?_)
  · refine ⟨_, rfl, p, 41, rfl, W1, small_lit (by decide) (by decide), fun u H2 u0 u1 W2 s2 => ⟨_, _, rfl, rfl, ?_⟩⟩
    refine k (.int (u - 20)) (.int (u - 20)) H2 (KeyAt.int _) ?_ W2 (s1.trans s2)
    rw [KT.fits]
    have e : (10 : Nat) ^ 60 > 1000 := by decide
    exact decide_eq_true (by omega)
  refine ⟨_, rfl, rfl, _, rfl, ?_⟩
  refine ite2 (fun _ => ?_) (fun c2 => ?_)
  · refine ⟨_, rfl, _, _, rfl, rfl, ⟨by decide, by decide, by decide⟩, _, _, rfl, rfl, .inl ⟨by decide, by decide⟩, _, _, rfl, rfl, p, _, rfl, W1, small_lit (by decide +kernel) (by decide +kernel), fun u H2 u0 u1 W2 s2 => ?_⟩
    refine ⟨_, _, rfl, rfl, ⟨by decide, by decide, by decide⟩, _, _, rfl, rfl, _, _, rfl, rfl, ?_⟩
    refine k _ (.int _) H2 (KeyAt.int _) ?_ W2 (s1.trans s2)
    have e : ((10 : Int) ^ (60 : Int).toNat) = ((10 ^ 60 : Nat) : Int) := by decide +kernel
    rw [e] at u1
    rw [KT.fits, e]
    generalize (10 ^ 60 : Nat) = N at *
    exact decide_eq_true (by omega)
  have txt : spText ([.ref p] ++ []) H1 Q E0 := ⟨p, rfl, W1, fun x H2 hx W2 s2 => k (.str x) (.str x) H2 (KeyAt.str x) (by rw [KT.fits]; exact hx) W2 (s1.trans s2)⟩
  refine ⟨_, rfl, _, _, rfl, rfl, _, rfl, ?_⟩
  refine ite2 (fun _ => ?_) (fun _ => ?_)
  · exact iteT ⟨_, rfl, txt⟩
  refine ⟨_, rfl, rfl, _, rfl, ?_⟩
  refine ite2 (fun _ => ?_) (fun c3 => ?_)
  · exact ⟨_, rfl, txt⟩
  have r0 : r ≠ 0 := fun e => c3 (decide_eq_true (by rw [e]; rfl))
  refine ⟨_, rfl, p, 5, rfl, W1, small_lit (by decide) (by decide), fun u H2 u0 u1 W2 s2 => ⟨u, rfl, by omega, by omega, ?_⟩⟩
  have sB : SameX p H H2 := s1.trans s2
  refine comp_map (n := u.toNat) (fun i x => x = .int (0 + (i : Int))) (fun D i ys H3 => WellAt H3 p ∧ SameX p H H3 ∧ D ≠ p ∧ H D = none ∧ ∃ ts, KeysAt H3 ts ys ∧ ts.length = i ∧ fitsL ts (r - 1) = true) (small1000 (by omega))
    (fun D i ys H3 hi _ => hi) (fun D i ys H3 x H4 hi _ hy => hy) (fun D ys H3 _ => Nat.le_refl _) (fun D hD => ?_) (fun D i ys H3 x eD hl hi hx hP R hR => ?_) (fun D ys H3 eD hP => ?_)
  · have nD : D ≠ p := by
      obtain ⟨xs, e⟩ := W2.some
      exact (ne_of_none e hD).symm
    have nH : H D = none := by
      cases e : H D with
      | none => rfl
      | some o => rw [sB D o e nD] at hD; cases hD
    exact ⟨W2.same (same_new hD _), sB.trans (SameX.of (same_new hD _)), nD, nH, [], .nil, rfl, by rw [fitsL]⟩
  · obtain ⟨W3, s3, nD, nH, ts, hk, hlen, hf⟩ := hP
    have er : (r : Int) - 1 = ((r - 1 : Nat) : Int) := by omega
    refine ⟨_, rfl, _, rfl, _, _, rfl, rfl, p, r - 1, congrArg (fun z => [V.ref p, V.int z]) er, W3, by omega, fun v t H4 hv ht W4 s4 => ?_⟩
    have eD4 := s4 D _ eD nD
    have sD : SameX D H4 (upd H4 D (.lst (ys ++ [v]))) := (SameX.refl D H4).upd
    have tD : Tups H4 (upd H4 D (.lst (ys ++ [v]))) := sD.tups eD4
    refine hR v H4 eD4 ⟨W4.stay sD nD.symm, fun b o e n => ?_, nD, nH, ts ++ [t], ((KeysAt.mono (s4.tupsW W3) _ _ hk).append (.cons hv .nil)).mono tD _ _, by simp [hlen], ?_⟩
    · rw [upd_ne (ne_of_none e nH)]
      exact (s3.trans s4) b o e n
    · rw [fitsL_all] at hf ⊢
      rw [List.all_append, hf]
      simp [ht]
  · obtain ⟨W3, s3, nD, nH, ts, hk, hlen, hf⟩ := hP
    refine ⟨D, ys, rfl, .inl ⟨SqL.of eD, fun l hl => ?_⟩⟩
    have sl := same_new hl (.tup ys)
    refine k (.ref l) (.tup ts) _ (.tup upd_same (hk.mono (Same.tups sl) _ _)) ?_ (W3.same sl) (s3.trans (SameX.of sl))
    rw [KT.fits, hf, Bool.and_true, Bool.and_eq_true]
    exact ⟨decide_eq_true (by omega), decide_eq_true (by omega)⟩
end
section
variable {P : Program} {w : World} {K : PySem.W.Frag} {mg : Str → Option Value} {base : Heap} {f : Addr} {fd : FuncData}
/-! ### _law_well -/
abbrev nWell : List Str := ["_law_script", "_law_k", "_law_left", "_law_cell", "_law_digits"]
theorem scWell : FnScope nWell ["_law_script", "_law_k"] (defScope sWell) := ⟨rfl, rfl, rfl, by decide +kernel, rfl, by decide +kernel, by decide +kernel⟩
theorem ok_well (F : Fun K "_law_well" "_law_well" sWell f fd) (T : Txt mg) : FnOk P w K mg base CX0 1 f fd ["_law_script", "_law_k"] (spWell K) := by
  refine F.ok scWell (fun vs H Q E h => ?_) (fun cdv A outer s H vs Q E hr h => ?_)
  · obtain ⟨a, ns, k, rfl, _⟩ := h
    rfl
  obtain ⟨a, ns, k, rfl, hS, hn, k0, k1, q⟩ := h
  have nd := scWell.nd
  refine ⟨_, pss_cons (ps_set (i := 2) nd rfl (Or.inl rfl) (pe_ix ix_list (pe_lst (pa_cons pe_int (pa_cons pe_int pa_nil))) (pe_callTy call_int1 rfl T.int tb_int (pa_cons (pe_cmpR op_eq (pv 1) pe_int (nomark _)) pa_nil)) (fun _ _ => rfl)))
    (pss_cons (ps_set (i := 3) nd rfl (Or.inl rfl) (pe_ix ix_list (pe_op op_cat (pe_callTy call_list_of rfl T.list tb_list (pa_cons (pv 0) pa_nil)) (pe_lst (pa_cons pe_int pa_nil))) (pe_op op_mod (pv 1) (pe_callB (call_max2 rfl) rfl T.max tb_max (pa_cons pe_int (pa_cons (pe_callB call_len_seq rfl T.len tb_len (pa_cons (pv 0) pa_nil)) pa_nil)))) (fun _ _ => rfl)))
    (pss_cons (ps_set (i := 4) nd rfl (Or.inl rfl) (pe_op op_mul (pe_callB call_abs rfl T.abs tb_abs (pa_cons (pv 3) pa_nil)) (pe_callTy call_int1 rfl T.int tb_int (pa_cons (pe_and (pe_cmpR op_ge (pe_callB call_abs rfl T.abs tb_abs (pa_cons (pv 3) pa_nil)) (pe_op op_pow pe_int pe_int) (nomark _)) (pe_one (pe_cmpR op_lt (pv 1) (pe_callB call_len_seq rfl T.len tb_len (pa_cons (pv 0) pa_nil)) (nomark _)))) pa_nil))))
    (pss_one (ps_ret (pe_lst (pa_cons (pe_op op_mod (pv 3) pe_int) (pa_cons (pe_op op_mul pe_int (pv 1)) (pa_cons (pv 4) (pa_cons (pv 2) pa_nil))))))))), ?_⟩
  refine ⟨(by show 2 ≤ sizeLine; decide), fun l1 hl1 => ?_⟩
  have g1 := same_new hl1 (.lst [V.int 240, V.int 2400])
  refine ⟨_, rfl, rfl, .inr ⟨_, rfl, ?_⟩⟩
  obtain ⟨lv, elv, hlv⟩ : ∃ z : Int, atI [V.int 240, V.int 2400] (if decide (V.int k = V.int 0) = true then 1 else 0) = some (.int z) ∧ 0 ≤ z := by
    split
    · exact ⟨2400, rfl, by decide⟩
    · exact ⟨240, rfl, by decide⟩
  refine ⟨l1, _, _, _, rfl, rfl, SqL.of upd_same, elv, ?_⟩
  refine ⟨_, rfl, a, _, rfl, .inl (g1.seq hS), fun l2 hl2 => ?_⟩
  have g2 := g1.trans (same_new hl2 (.lst (ns.map V.int)))
  refine ⟨(by show 1 ≤ sizeLine; decide), fun l3 hl3 => ?_⟩
  have g3 := g2.trans (same_new hl3 (.lst [V.int 0]))
  have n23 : l2 ≠ l3 := ne_of_none upd_same hl3
  refine ⟨l2, l3, _, _, rfl, rfl, (by rw [upd_ne n23]; exact upd_same), upd_same, (by rw [List.length_map]; exact nn (by show ns.length + 1 ≤ 1000; omega)), fun l4 hl4 => ?_⟩
  have g4 := g3.trans (same_new hl4 (.lst (ns.map V.int ++ [V.int 0])))
  refine ⟨_, rfl, _, rfl, a, _, rfl, .inl (g4.seq hS), _, _, rfl, ?_⟩
  have hlm : (ns.map V.int).length = ns.length := List.length_map _
  generalize hM : (if (((ns.map V.int).length : Nat) : Int) > 1 then (((ns.map V.int).length : Nat) : Int) else 1) = M
  have M1 : 1 ≤ M ∧ M ≤ (ns.length : Int) + 1 := by
    rw [hlm] at hM
    rw [← hM]
    split <;> omega
  refine ⟨_, _, rfl, rfl, by omega, ?_⟩
  have i0 : 0 ≤ k % M := Int.emod_nonneg _ (by omega)
  have i1 : k % M < M := Int.emod_lt_of_pos _ (by omega)
  obtain ⟨cv, ecv, mcv⟩ := atI_in (xs := ns.map V.int ++ [V.int 0]) i0 (by rw [List.length_append, List.length_map, List.length_singleton]; omega)
  obtain ⟨cell, rfl⟩ : ∃ z : Int, cv = .int z := by
    rcases List.mem_append.mp mcv with m | m
    · obtain ⟨z, _, e⟩ := List.mem_map.mp m
      exact ⟨z, e.symm⟩
    · exact ⟨0, List.mem_singleton.mp m⟩
  refine ⟨l4, _, _, _, rfl, rfl, SqL.of upd_same, ecv, ?_⟩
  -- digits
  have dig : ∀ b : Bool, 0 ≤ (if cell < 0 then -cell else cell) * (if b = true then 1 else 0) := fun b => by
    cases b
    · simp
    · simp; split <;> omega
  have cm : ∀ (x : Int) (b : Bool), CMul x (if b = true then 1 else 0) := fun x b => .inr (by cases b <;> exact ⟨by decide, by decide⟩)
  have done : ∀ (z : Int) (H5 : Hp), 0 ≤ z → Same H H5 → ∀ l5, H5 l5 = none → Q (.ref l5) (upd H5 l5 (.lst [.int (cell % 2147483647), .int (1000 * k), .int z, .int lv])) := fun z H5 z0 s5 l5 hl5 =>
    q l5 _ (s5.free hl5) (s5.trans (same_new hl5 _)) ⟨_, _, _, _, upd_same, Int.emod_nonneg _ (by decide), Int.emod_lt_of_pos _ (by decide), z0, hlv⟩
  refine ⟨_, rfl, _, rfl, _, rfl, _, rfl, _, _, rfl, rfl, ⟨by decide, by decide, by decide⟩, _, _, rfl, rfl, _, rfl, ?_⟩
  refine ite2 (fun _ => ?_) (fun _ => ?_)
  · refine ⟨_, rfl, _, rfl, a, _, rfl, .inl (g4.seq hS), _, _, rfl, rfl, .inr ⟨_, rfl, _, _, rfl, rfl, cm _ _, ?_⟩⟩
    refine ⟨_, rfl, _, _, rfl, rfl, (by show (0 : Int) < 2147483647; decide), _, rfl, _, _, rfl, rfl, .inl ⟨by decide, by decide⟩, _, rfl, _, rfl, (by show 4 ≤ sizeLine; decide), fun l5 hl5 => ?_⟩
    exact done _ _ (dig _) g4 l5 hl5
  · refine .inr ⟨_, rfl, _, _, rfl, rfl, cm _ false, ?_⟩
    refine ⟨_, rfl, _, _, rfl, rfl, (by show (0 : Int) < 2147483647; decide), _, rfl, _, _, rfl, rfl, .inl ⟨by decide, by decide⟩, _, rfl, _, rfl, (by show 4 ≤ sizeLine; decide), fun l5 hl5 => ?_⟩
    exact done _ _ (dig false) g4 l5 hl5

/-! ### has_few_figures, is_sign -/
theorem scFew : FnScope ["number"] ["number"] (defScope sFew) := ⟨rfl, rfl, rfl, by decide +kernel, rfl, by decide +kernel, by decide +kernel⟩
theorem ok_few (F : Fun K "has_few_figures" "has_few_figures" sFew f fd) (T : Txt mg) : FnOk P w K mg base CX0 1 f fd ["number"] spFew := by
  refine F.ok scFew (fun vs H Q E h => ?_) (fun cdv A outer s H vs Q E hr h => ?_)
  · obtain ⟨i, rfl, _⟩ := h
    rfl
  obtain ⟨i, rfl, q⟩ := h
  refine ⟨_, pss_one (ps_ret (pe_cmpR op_lt (pe_callB call_abs rfl T.abs tb_abs (pa_cons (pv 0) pa_nil)) (pe_op op_pow pe_int pe_int) (nomark _))), ?_⟩
  refine ⟨_, rfl, _, rfl, _, _, rfl, rfl, ⟨by decide, by decide, by decide⟩, _, _, rfl, rfl, ?_⟩
  have e := few_eq i
  rw [← e] at q
  exact q
theorem scSign : FnScope ["sign"] ["sign"] (defScope sSign) := ⟨rfl, rfl, rfl, by decide +kernel, rfl, by decide +kernel, by decide +kernel⟩
theorem ok_sign (F : Fun K "is_sign" "is_sign" sSign f fd) : FnOk P w K mg base CX0 1 f fd ["sign"] spSign := by
  refine F.ok scSign (fun vs H Q E h => ?_) (fun cdv A outer s H vs Q E hr h => ?_)
  · obtain ⟨c, rfl, _⟩ := h
    rfl
  obtain ⟨c, rfl, q⟩ := h
  refine ⟨_, pss_one (ps_ret (pe_chain tw_le_str tw_le_str pe_str (pv 0) pe_str)), ?_⟩
  have e1 : (Str.ofString " ").cps.toList = [32] := by decide +kernel
  have e2 : (Str.ofString "~").cps.toList = [126] := by decide +kernel
  have e := signs_le c
  refine ⟨_, rfl, _, _, rfl, rfl, _, rfl, ?_⟩
  refine ite2 (fun h1 => ?_) (fun h1 => ?_)
  · refine ⟨_, _, rfl, rfl, ?_⟩
    have h1' : (!decide ([c] < [32])) = true := by rw [← e1]; exact h1
    rw [h1', Bool.true_and] at e
    rw [← e, ← e2] at q
    exact q
  · have h1' : (!decide ([c] < [32])) = false := by rw [← e1]; exact Bool.eq_false_iff.mpr h1
    rw [h1', Bool.false_and] at e
    rw [← e] at q
    exact q

end
/-- a def as the top has laid it -/
structure Laid (K : PySem.W.Frag) (mg : Str → Option Value) (x : Str) (st : Stmt) (ps : List Str) : Prop where
  ex : ∃ f fd, Fun K x x st f fd ∧ Binds K fd ps [] ∧ mg x = some (.ref f)
theorem Laid.of {P : Program} {w : World} {K : PySem.W.Frag} {mg : Str → Option Value} {base : Heap} {x : Str} {st : Stmt} {ps : List Str} {k : Nat} {sp : Sp} (L : Laid K mg x st ps) (h : ∀ f fd, Fun K x x st f fd → FnOk P w K mg base CX0 k f fd ps sp) : DefOk P w K mg base k x ps sp := by
  obtain ⟨f, fd, F, b, m⟩ := L.ex
  exact ⟨f, fd, h f fd F, b, F.kp, m⟩
theorem laid_mk {K : PySem.W.Frag} {h : Heap} {mg : Str → Option Value} {x : Str} {st : Stmt} {ps : List Str} {f : Addr} {od an : Option Addr} {sl : Array (Option Value)} {oc kV dc pm cd ct : Value} (X : K.In h) (G : h.Ns mainGlobals mg)
    (a : PySem.W.nsIn K mainGlobals x = some (some (.ref f))) (l : K.lookup f = some ⟨oc, od, .func (PySem.W.fnOf x x (defArgs st) (defBody st) (defScope st) .none kV dc pm an cd ct), sl⟩) (c : PySem.W.codeIn K cd x = true) (k : PySem.W.keepIn K (.ref f) = true)
    (hb : ∀ (kV doc pm : Value) (an : Option Addr) (cdv ct : Value) (us : List Value), us.length = ps.length → bindArgs (PySem.W.fnOf x x (defArgs st) (defBody st) (defScope st) .none kV doc pm an cdv ct) ⟨us, []⟩ = pure (ps.zip us)) : Laid K mg x st ps :=
  ⟨f, _, fun_mk (st := st) l c k, (fun_mk (st := st) l c k).binds hb, PySem.W.mg_of X G a⟩
section
variable {P : Program} {w : World} {K : PySem.W.Frag} {mg : Str → Option Value} {base : Heap}
theorem all_key (T : Txt mg) (L : Laid K mg "_law_key" sKey ["_law_well_here", "_law_room"]) (DP : DefOk P w K mg base 1 "_law_pull" ["_law_well_here", "_law_many"] spPull) (DG : DefOk P w K mg base 2 "_law_great" ["_law_well_here", "_law_bound"] spPull)
    (DT : DefOk P w K mg base 2 "_law_text" ["_law_well_here"] spText) : ∀ n : Nat, DefOk P w K mg base (n + 2) "_law_key" ["_law_well_here", "_law_room"] (spKey n)
  | 0 => L.of fun _ _ _ => key_none
  | n + 1 => L.of fun _ _ F => ok_key F T DP DG DT (all_key T L DP DG DT n)
end
end Tw
set_option Elab.async false
set_option linter.all false
set_option maxRecDepth 100000
set_option maxHeartbeats 8000000
namespace Tw
open PySem PySem.Spec L2
abbrev bmV : List Value := [.type "ValueError", .type "Exception", .type "BaseException", .type "object"]
/-- an exception of this class: raised, caught by TwigError, and what isinstance tells of it -/
structure XOne (K : PySem.W.Frag) (CB C : Addr) : Prop where
  exk : PySem.W.excIn K C bmV "ValueError.__new__" = true
  exc : ExcC K C
  sub : PySem.W.mroIn K C (.ref CB) = some true
  val : PySem.W.kitOne K (.ref C) (.type "ValueError") = some true
/-- the classes of the text -/
structure Cl (K : PySem.W.Frag) (mg : Str → Option Value) (CB CK CL CS CT CH CD : Addr) : Prop where
  base : mg "TwigError" = some (.ref CB)
  key : mg "NoKey" = some (.ref CK)
  leaf : mg "NoLeaf" = some (.ref CL)
  stem : mg "NoStem" = some (.ref CS)
  twig : mg "NoTwig" = some (.ref CT)
  held : mg "NotHeld" = some (.ref CH)
  shar : mg "Shared" = some (.ref CD)
  ty : PySem.W.typeIn K (.ref CB) = some (.type "type")
  mB : PySem.W.mroIn K CB (.type "BaseException") = some true
  xk : XOne K CB CK
  xl : XOne K CB CL
  kk : PySem.W.kitOne K (.ref CK) (.ref CK) = some true
  kl : PySem.W.kitOne K (.ref CK) (.ref CL) = some false
  ks : PySem.W.kitOne K (.ref CK) (.ref CS) = some false
  kt : PySem.W.kitOne K (.ref CK) (.ref CT) = some false
  kh : PySem.W.kitOne K (.ref CK) (.ref CH) = some false
  kd : PySem.W.kitOne K (.ref CK) (.ref CD) = some false
  lk : PySem.W.kitOne K (.ref CL) (.ref CK) = some false
  ll : PySem.W.kitOne K (.ref CL) (.ref CL) = some true
  ls : PySem.W.kitOne K (.ref CL) (.ref CS) = some false
  lt : PySem.W.kitOne K (.ref CL) (.ref CT) = some false
  lh : PySem.W.kitOne K (.ref CL) (.ref CH) = some false
  ld : PySem.W.kitOne K (.ref CL) (.ref CD) = some false
/-! ### the promises -/
def spFitsG (n : Nat) : Sp := fun vs H Q _ => ∃ (v : V) (t : TG) (N : Addr → Prop) (r : Nat), vs = [v, .int (r : Int)] ∧ ThAt N H t v ∧ t.neat ∧ r < n ∧ ∀ H', Same H H' → Q (.bl (t.fits r)) H'
def spIsKeyG : Sp := fun vs H Q _ => ∃ (v : V) (t : TG) (N : Addr → Prop), vs = [v] ∧ ThAt N H t v ∧ t.neat ∧ ∀ H', Same H H' → Q (.bl (t.fits 3)) H'
def spChecked (CK : Addr) : Sp := fun vs H Q E => ∃ (v : V) (t : TG) (N : Addr → Prop), vs = [v] ∧ ThAt N H t v ∧ t.neat ∧ (t.fits 3 = true → ∀ H', Same H H' → Q v H') ∧ (t.fits 3 = false → ∀ H', Same H H' → E (.ref CK) none H')
section
variable {P : Program} {w : World} {K : PySem.W.Frag} {mg : Str → Option Value} {base : Heap} {f : Addr} {fd : FuncData}
theorem sp_none {sp : Sp} {k : Nat} {ps : List Str} (no : ∀ vs H Q E, ¬ sp vs H Q E) : FnOk P w K mg base CX0 k f fd ps sp :=
  ⟨fun vs H Q E h => absurd h (no vs H Q E), fun A outer s H args us vs Q E _ _ _ _ h => absurd h (no vs H Q E)⟩
/-! ### fits -/
theorem scFits : FnScope ["thing", "room"] ["thing", "room"] (defScope sFits) := ⟨rfl, rfl, rfl, by decide +kernel, rfl, by decide +kernel, by decide +kernel⟩
theorem ok_fits {n : Nat} (F : Fun K "fits" "fits" sFits f fd) (T : Txt mg) (DW : DefOk P w K mg base 1 "has_few_figures" ["number"] spFew) (DS : DefOk P w K mg base 1 "is_sign" ["sign"] spSign)
    (DF : DefOk P w K mg base (n + 1) "fits" ["thing", "room"] (spFitsG n)) : FnOk P w K mg base CX0 (n + 2) f fd ["thing", "room"] (spFitsG (n + 1)) := by
  refine F.ok scFits (fun vs H Q E h => ?_) (fun cdv A outer s H vs Q E hr h => ?_)
  · obtain ⟨v, t, N, r, rfl, _⟩ := h
    rfl
  obtain ⟨v, t, N, r, rfl, hv, hq, hn, k⟩ := h
  have hr1 := hr.mono (show 1 ≤ n + 1 by omega)
  obtain ⟨t1, m1⟩ := T.signs
  obtain ⟨t2, m2⟩ := T.things
  refine ⟨_, pss_cons (ps_if (pt_val (pe_callB tw_isinst rfl T.isi tb_isinstance (pa_cons (pv 0) (pa_cons (pe_bltn (v := .ty "bool") rfl T.bool tb_bool rfl) pa_nil)))) (pss_one (ps_ret pe_bl)) pss_nil)
    (pss_cons (ps_if (pt_val (pe_callB tw_isinst rfl T.isi tb_isinstance (pa_cons (pv 0) (pa_cons (pe_bltn (v := .ty "int") rfl T.int tb_int rfl) pa_nil)))) (pss_one (ps_ret (pe_def DW hr1 (pa_cons (pv 0) pa_nil)))) pss_nil)
    (pss_cons (ps_if (pt_val (pe_callB tw_isinst rfl T.isi tb_isinstance (pa_cons (pv 0) (pa_cons (pe_bltn (v := .ty "str") rfl T.str tb_str rfl) pa_nil))))
      (pss_one (ps_ret (pe_and (pe_cmpR op_le (pe_callB call_len_str rfl T.len tb_len (pa_cons (pv 0) pa_nil)) (pe_glob (v := .int 40) rfl m1 ⟨_, rfl⟩) (nomark _))
        (pe_one (pe_callB (tw_all rfl) rfl T.all tb_all (pa_cons (pe_comp [] [] rfl (pi_str (pv 0)) (fun _ _ _ _ _ => pts_nil) (fun _ _ _ _ _ => pe_def DS hr1 (pa_cons (pv 0) pa_nil)) trivial) pa_nil)))))) pss_nil)
    (pss_cons (ps_if (pt_val (pe_callB tw_isinst rfl T.isi tb_isinstance (pa_cons (pv 0) (pa_cons (pe_bltn (v := .ty "tuple") rfl T.tuple tb_tuple rfl) pa_nil))))
      (pss_one (ps_ret (pe_and (pe_cmpR op_gt (pv 1) pe_int (nomark _)) (pe_and (pe_cmpR op_le (pe_callB call_len_seq rfl T.len tb_len (pa_cons (pv 0) pa_nil)) (pe_glob (v := .int 4) rfl m2 ⟨_, rfl⟩) (nomark _))
        (pe_one (pe_callB (tw_all rfl) rfl T.all tb_all (pa_cons (pe_comp [1] ["room"] rfl (pi_tup (pv 0)) (fun _ _ _ _ _ => pts_nil) (fun _ _ _ _ _ => pe_def DF hr (pa_cons (pv 0) (pa_cons (pe_op op_sub (pv 1) pe_int) pa_nil))) ⟨rfl, .inl rfl, rfl, trivial⟩) pa_nil))))))) pss_nil)
    (pss_one (ps_ret pe_bl))))), ?_⟩
  cases t with
  | int i =>
    have ev : v = .int i := by rw [ThAt] at hv; exact hv
    subst ev
    refine ⟨_, rfl, _, _, _, _, rfl, .int i, kit_ib, _, rfl, iteF ?_⟩
    refine ⟨_, rfl, _, _, _, _, rfl, .int i, kit_ii, _, rfl, iteT ?_⟩
    have kk := k H (Same.refl H)
    rw [TG.fits] at kk
    exact ⟨_, rfl, i, rfl, kk⟩
  | str x =>
    have ev : v = .str x := by rw [ThAt] at hv; exact hv
    subst ev
    have hlen : x.length ≤ 1000 := by rw [TG.neat] at hq; exact hq
    refine ⟨_, rfl, _, _, _, _, rfl, .str x, kit_sb, _, rfl, iteF ?_⟩
    refine ⟨_, rfl, _, _, _, _, rfl, .str x, kit_si, _, rfl, iteF ?_⟩
    refine ⟨_, rfl, _, _, _, _, rfl, .str x, kit_ss, _, rfl, iteT ?_⟩
    refine ⟨_, rfl, x, rfl, nn hlen, _, _, rfl, rfl, _, rfl, ?_⟩
    refine ite2 (fun c => ?_) (fun c => ?_)
    · have c40 : x.length ≤ 40 := by have := of_decide_eq_true c; omega
      refine ⟨_, rfl, x, rfl, ?_⟩
      have hsz : x.cps.size ≤ 40 := c40
      refine comp_map (n := x.cps.size) (fun i z => ∃ c, x.cps[i]? = some c ∧ z = .str ⟨#[c]⟩) (fun D i ys H3 => Same H H3 ∧ H D = none ∧ ys = ((x.cps.toList.take i).map signOk).map V.bl) (small1000 (by omega))
        (fun D i ys H3 hi _ => hi) (fun D i ys H3 z H4 hi _ hy => hy) (fun D ys H3 _ => rfl) (fun D hD => ⟨same_new hD _, hD, rfl⟩) (fun D i ys H3 z eD hl hi hz hP R hR => ?_) (fun D ys H3 eD hP => ?_)
      · obtain ⟨c, hc, rfl⟩ := hz
        obtain ⟨s3, nD, rfl⟩ := hP
        refine ⟨_, rfl, c, rfl, ?_⟩
        refine hR _ H3 eD ⟨fun b o e => by rw [upd_ne (ne_of_none e nD)]; exact s3 b o e, nD, ?_⟩
        have hc' : x.cps.toList[i]? = some c := by simpa using hc
        rw [List.take_add_one, hc']
        simp
      · obtain ⟨s3, nD, rfl⟩ := hP
        refine ⟨D, _, rfl, SqL.of eD, ?_⟩
        have kk := k H3 s3
        have et : (x.cps.toList.take x.cps.size) = x.cps.toList := List.take_of_length_le (by simp)
        have ea : (x.cps.toList.map signOk).all id = (TG.str x).fits r := by
          rw [TG.fits, List.all_map]
          unfold textOk
          rw [decide_eq_true c40, Bool.true_and]
          rfl
        rw [et, ea]
        exact kk
    · have c40 : ¬ x.length ≤ 40 := fun z => c (decide_eq_true (by omega))
      have kk := k H (Same.refl H)
      rw [TG.fits] at kk
      unfold textOk at kk
      rw [decide_eq_false c40, Bool.false_and] at kk
      exact kk
  | tup l =>
    rw [ThAt] at hv
    obtain ⟨a, vs, rfl, ea, hvs⟩ := hv
    have hl := hvs.length
    rw [TG.neat] at hq
    obtain ⟨hq1, hq2⟩ := hq
    have ty : TyOf K H (.ref a) (.type "tuple") := .tup ea
    refine ⟨_, rfl, _, _, _, _, rfl, ty, kit_tb, _, rfl, iteF ?_⟩
    refine ⟨_, rfl, _, _, _, _, rfl, ty, kit_ti, _, rfl, iteF ?_⟩
    refine ⟨_, rfl, _, _, _, _, rfl, ty, kit_ts, _, rfl, iteF ?_⟩
    refine ⟨_, rfl, _, _, _, _, rfl, ty, kit_tt, _, rfl, iteT ?_⟩
    refine ⟨_, rfl, _, _, rfl, rfl, _, rfl, ?_⟩
    refine ite2 (fun c1 => ?_) (fun c1 => ?_)
    · have r0 : 0 < r := by
        have := of_decide_eq_true c1
        omega
      refine ⟨_, rfl, a, vs, rfl, .inr (SqT.of ea), _, _, rfl, rfl, _, rfl, ?_⟩
      refine ite2 (fun c2 => ?_) (fun c2 => ?_)
      · have l4 : l.length ≤ 4 := by
          have := of_decide_eq_true c2
          omega
        refine ⟨_, rfl, a, rfl, ⟨vs, SqT.of ea⟩, ?_⟩
        refine comp_map (n := vs.length) (fun i z => vs[i]? = some z) (fun D i ys H3 => Same H H3 ∧ H D = none ∧ ys = ((l.take i).map fun t => t.fits (r - 1)).map V.bl) (small1000 (by omega))
          (fun D i ys H3 hi hP => ⟨vs, vs[i], SqT.of (hP.1 _ _ ea), by simp [hi]⟩) (fun D i ys H3 z H4 hi hP hy => ⟨hy.1, hy.2 vs (SqT.of (hP.1 _ _ ea))⟩) (fun D ys H3 hP => ⟨vs, SqT.of (hP.1 _ _ ea), Nat.le_refl _⟩)
          (fun D hD => ⟨same_new hD _, hD, rfl⟩) (fun D i ys H3 z eD hl' hi hz hP R hR => ?_) (fun D ys H3 eD hP => ?_)
        · obtain ⟨s3, nD, rfl⟩ := hP
          obtain ⟨t, et, kt⟩ := hvs.get hz
          have er : (r : Int) - 1 = ((r - 1 : Nat) : Int) := by omega
          refine ⟨_, rfl, _, rfl, _, _, rfl, rfl, z, t, N, r - 1, congrArg (fun y => [z, V.int y]) er, kt.mono (Keeps.same s3) _ _, neatL_mem hq2 (List.mem_of_getElem? et), by omega, fun H4 s4 => ?_⟩
          refine hR _ H4 (s4 D _ eD) ⟨fun b o e => by rw [upd_ne (ne_of_none e nD)]; exact s4 b o (s3 b o e), nD, ?_⟩
          rw [List.take_add_one, et]
          simp
        · obtain ⟨s3, nD, rfl⟩ := hP
          refine ⟨D, _, rfl, SqL.of eD, ?_⟩
          have kk := k H3 s3
          rw [TG.fits, decide_eq_true r0, Bool.true_and, decide_eq_true l4, Bool.true_and, gfitsL_all] at kk
          have et : l.take vs.length = l := List.take_of_length_le (by omega)
          rw [et, List.all_map]
          exact kk
      · have l4 : ¬ l.length ≤ 4 := fun z => c2 (decide_eq_true (by omega))
        have kk := k H (Same.refl H)
        rw [TG.fits, decide_eq_false l4, Bool.false_and, Bool.and_false] at kk
        exact kk
    · have r0 : ¬ 0 < r := fun z => c1 (decide_eq_true (by omega))
      have kk := k H (Same.refl H)
      rw [TG.fits, decide_eq_false r0, Bool.false_and] at kk
      exact kk
  | odd n' =>
    rw [ThAt] at hv
    have ty : TyOf K H v (.type n') := hv.ty
    obtain ⟨b, kb, kr⟩ := kit_odd (K := K) hv
    have kk := k H (Same.refl H)
    rw [TG.fits] at kk
    cases b with
    | true => exact ⟨_, rfl, _, _, _, _, rfl, ty, kb, _, rfl, iteT kk⟩
    | false =>
      obtain ⟨k1, k2, k3⟩ := kr rfl
      refine ⟨_, rfl, _, _, _, _, rfl, ty, kb, _, rfl, iteF ?_⟩
      refine ⟨_, rfl, _, _, _, _, rfl, ty, k1, _, rfl, iteF ?_⟩
      refine ⟨_, rfl, _, _, _, _, rfl, ty, k2, _, rfl, iteF ?_⟩
      refine ⟨_, rfl, _, _, _, _, rfl, ty, k3, _, rfl, iteF ?_⟩
      exact kk
theorem all_fits (T : Txt mg) (L : Laid K mg "fits" sFits ["thing", "room"]) (DW : DefOk P w K mg base 1 "has_few_figures" ["number"] spFew) (DS : DefOk P w K mg base 1 "is_sign" ["sign"] spSign) : ∀ n : Nat, DefOk P w K mg base (n + 1) "fits" ["thing", "room"] (spFitsG n)
  | 0 => L.of fun _ _ _ => sp_none fun vs H Q E h => by obtain ⟨v, t, N, r, _, _, _, h1, _⟩ := h; omega
  | n + 1 => L.of fun _ _ F => ok_fits F T DW DS (all_fits T L DW DS n)
theorem scIsKey : FnScope ["thing"] ["thing"] (defScope sIsKey) := ⟨rfl, rfl, rfl, by decide +kernel, rfl, by decide +kernel, by decide +kernel⟩
theorem ok_iskey (F : Fun K "is_key" "is_key" sIsKey f fd) (T : Txt mg) (DF : DefOk P w K mg base 5 "fits" ["thing", "room"] (spFitsG 4)) : FnOk P w K mg base CX0 6 f fd ["thing"] spIsKeyG := by
  refine F.ok scIsKey (fun vs H Q E h => ?_) (fun cdv A outer s H vs Q E hr h => ?_)
  · obtain ⟨v, t, N, rfl, _⟩ := h
    rfl
  obtain ⟨v, t, N, rfl, hv, hq, k⟩ := h
  obtain ⟨t1, m1⟩ := T.deep
  refine ⟨_, pss_one (ps_ret (pe_def DF hr (pa_cons (pv 0) (pa_cons (pe_glob (v := .int 3) rfl m1 ⟨_, rfl⟩) pa_nil)))), ?_⟩
  exact ⟨_, rfl, v, t, N, 3, rfl, hv, hq, by decide, k⟩
/-! ### checked -/
theorem scChecked : FnScope ["thing"] ["thing"] (defScope sChecked) := ⟨rfl, rfl, rfl, by decide +kernel, rfl, by decide +kernel, by decide +kernel⟩
theorem ok_checked {CB CK CL CS CT CH CD : Addr} (F : Fun K "checked" "checked" sChecked f fd) (kin : K.In base) (L : Cl K mg CB CK CL CS CT CH CD) (DI : DefOk P w K mg base 6 "is_key" ["thing"] spIsKeyG) : FnOk P w K mg base (CXw P w) 7 f fd ["thing"] (spChecked CK) := by
  refine F.okX scChecked (fun vs H Q E h => ?_) (fun cdv A outer s H vs Q E hr h => ?_)
  · obtain ⟨v, t, N, rfl, _⟩ := h
    rfl
  obtain ⟨v, t, N, rfl, hv, hq, k1, k2⟩ := h
  refine ⟨_, pss_cons (ps_if (pt_not (pt_val (pe_def DI hr (pa_cons (pv 0) pa_nil)))) (pss_one (ps_raise0 fnx_of (own_of kin L.key L.xk.exk) rfl)) pss_nil) (pss_one (ps_ret (pv 0))), ?_⟩
  refine ⟨_, rfl, v, t, N, rfl, hv, hq, fun H' s' => ⟨_, rfl, ?_⟩⟩
  cases hf : t.fits 3 with
  | true => exact iteF ⟨_, rfl, k1 hf H' s'⟩
  | false => exact iteT (k2 hf H' s')
end
end Tw
set_option Elab.async false
set_option linter.all false
set_option maxRecDepth 100000
set_option maxHeartbeats 8000000
namespace Tw
open PySem PySem.Spec L2
/-! ### the promises -/
def spSt (n : Nat) : Sp := fun vs H Q _ => ∃ (v : V) (t : KT) (q : Nat), vs = [v] ∧ KeyAt H t v ∧ t.fits q = true ∧ t.depth < n ∧ ∀ (v' : V) (H' : Hp), KeyAt H' t.st v' → Same H H' → Q v' H'
def spAhead : Sp := fun vs H Q _ => ∃ (v u : V) (a b : KT), vs = [v, u] ∧ KeyAt H a v ∧ KeyAt H b u ∧ a.fits 3 = true ∧ b.fits 3 = true ∧ ∀ H', Same H H' → Q (.bl (a.lt b)) H'
section
variable {P : Program} {w : World} {K : PySem.W.Frag} {mg : Str → Option Value} {base : Heap} {f : Addr} {fd : FuncData}
/-! ### standing -/
theorem scStanding : FnScope ["key"] ["key"] (defScope sStanding) := ⟨rfl, rfl, rfl, by decide +kernel, rfl, by decide +kernel, by decide +kernel⟩
theorem st_none {k : Nat} : FnOk P w K mg base CX0 k f fd ["key"] (spSt 0) := by
  have no : ∀ vs H Q E, ¬ spSt 0 vs H Q E := fun vs H Q E h => by
    obtain ⟨v, t, q, _, _, _, h1, _⟩ := h
    omega
  exact ⟨fun vs H Q E h => absurd h (no vs H Q E), fun A outer s H args us vs Q E _ _ _ _ h => absurd h (no vs H Q E)⟩
theorem ok_standing {n : Nat} (F : Fun K "standing" "standing" sStanding f fd) (T : Txt mg) (DS : DefOk P w K mg base (n + 1) "standing" ["key"] (spSt n)) : FnOk P w K mg base CX0 (n + 2) f fd ["key"] (spSt (n + 1)) := by
  refine F.ok scStanding (fun vs H Q E h => ?_) (fun cdv A outer s H vs Q E hr h => ?_)
  · obtain ⟨v, t, q, rfl, _⟩ := h
    rfl
  obtain ⟨v, t, q, rfl, hv, hq, hn, k⟩ := h
  refine ⟨_, pss_cons (ps_if (pt_val (pe_callB tw_isinst rfl T.isi tb_isinstance (pa_cons (pv 0) (pa_cons (pe_bltn (v := .ty "int") rfl T.int tb_int rfl) pa_nil)))) (pss_one (ps_ret (pe_tup (pa_cons pe_int (pa_cons (pv 0) pa_nil))))) pss_nil)
    (pss_cons (ps_if (pt_val (pe_callB tw_isinst rfl T.isi tb_isinstance (pa_cons (pv 0) (pa_cons (pe_bltn (v := .ty "str") rfl T.str tb_str rfl) pa_nil)))) (pss_one (ps_ret (pe_tup (pa_cons pe_int (pa_cons (pv 0) pa_nil))))) pss_nil)
    (pss_one (ps_ret (pe_tup (pa_cons pe_int (pa_cons (pe_callTy call_tuple_of rfl T.tuple tb_tuple (pa_cons (pe_comp [] [] rfl (pi_tup (pv 0)) (fun _ _ _ _ _ => pts_nil) (fun _ _ _ _ _ => pe_def DS hr (pa_cons (pv 0) pa_nil)) trivial) pa_nil)) pa_nil)))))), ?_⟩
  cases t with
  | int i =>
    have ev : v = .int i := by rw [KeyAt] at hv; exact hv
    subst ev
    refine ⟨_, rfl, _, _, _, _, rfl, hv.ty, kit_ii, _, rfl, iteT ?_⟩
    refine ⟨_, rfl, (by show 2 ≤ sizeLine; decide), fun p hp => ?_⟩
    refine k _ _ ?_ (same_new hp _)
    rw [KT.st]
    exact .tup upd_same (.cons (.int 0) (.cons (.int i) .nil))
  | str x =>
    have ev : v = .str x := by rw [KeyAt] at hv; exact hv
    subst ev
    refine ⟨_, rfl, _, _, _, _, rfl, hv.ty, kit_si, _, rfl, iteF ?_⟩
    refine ⟨_, rfl, _, _, _, _, rfl, hv.ty, kit_ss, _, rfl, iteT ?_⟩
    refine ⟨_, rfl, (by show 2 ≤ sizeLine; decide), fun p hp => ?_⟩
    refine k _ _ ?_ (same_new hp _)
    rw [KT.st]
    exact .tup upd_same (.cons (.int 1) (.cons (.str x) .nil))
  | tup l =>
    have hv' := hv
    rw [KeyAt] at hv'
    obtain ⟨a, vs, rfl, ea, hvs⟩ := hv'
    have hl := hvs.length
    rw [KT.fits, Bool.and_eq_true, Bool.and_eq_true] at hq
    obtain ⟨hq0, hq1, hq2⟩ := hq
    have hl4 : l.length ≤ 4 := of_decide_eq_true hq1
    rw [KT.depth] at hn
    refine ⟨_, rfl, _, _, _, _, rfl, hv.ty, kit_ti, _, rfl, iteF ?_⟩
    refine ⟨_, rfl, _, _, _, _, rfl, hv.ty, kit_ts, _, rfl, iteF ?_⟩
    refine ⟨_, rfl, a, rfl, ⟨vs, SqT.of ea⟩, ?_⟩
    refine comp_map (n := vs.length) (fun i z => vs[i]? = some z) (fun D i ys H3 => Same H H3 ∧ H D = none ∧ KeysAt H3 ((l.take i).map KT.st) ys) (small1000 (by omega))
      (fun D i ys H3 hi hP => ⟨vs, vs[i], SqT.of (hP.1 _ _ ea), by simp [hi]⟩) (fun D i ys H3 z H4 hi hP hy => ⟨hy.1, hy.2 vs (SqT.of (hP.1 _ _ ea))⟩) (fun D ys H3 hP => ⟨vs, SqT.of (hP.1 _ _ ea), Nat.le_refl _⟩)
      (fun D hD => ⟨same_new hD _, hD, .nil⟩) (fun D i ys H3 z eD hl' hi hz hP R hR => ?_) (fun D ys H3 eD hP => ?_)
    · obtain ⟨s3, nD, hys⟩ := hP
      obtain ⟨t, et, kt⟩ := hvs.get hz
      have mt := List.mem_of_getElem? et
      have htq : t.fits (q - 1) = true := by
        rw [fitsL_all] at hq2
        exact List.all_eq_true.mp hq2 t mt
      have hdt := depth_in mt
      refine ⟨_, rfl, z, t, q - 1, rfl, kt.mono (Same.tups s3) _ _, htq, by omega, fun v' H4 k4 s4 => ?_⟩
      have eD4 := s4 D _ eD
      have tD : Tups H4 (upd H4 D (.lst (ys ++ [v']))) := (SameX.refl D H4).upd.tups eD4
      refine hR v' H4 eD4 ⟨fun b o e => by rw [upd_ne (ne_of_none e nD)]; exact s4 b o (s3 b o e), nD, ?_⟩
      rw [List.take_add_one, et, List.map_append]
      exact ((hys.mono (Same.tups s4) _ _).append (.cons k4 .nil)).mono tD _ _
    · obtain ⟨s3, nD, hys⟩ := hP
      have et : l.take vs.length = l := List.take_of_length_le (by omega)
      rw [et] at hys
      have hyl := hys.length
      rw [List.length_map] at hyl
      refine ⟨D, ys, rfl, .inl ⟨SqL.of eD, fun p1 hp1 => ?_⟩⟩
      have g1 := same_new hp1 (.tup ys)
      refine ⟨(by show 2 ≤ sizeLine; decide), fun p2 hp2 => ?_⟩
      have g2 := same_new hp2 (.tup [.int 2, .ref p1])
      refine k _ _ ?_ ((s3.trans g1).trans g2)
      rw [KT.st, stL_map]
      exact .tup upd_same (.cons (.int 2) (.cons (.tup (g2 _ _ upd_same) (hys.mono (Same.tups (g1.trans g2)) _ _)) .nil))
theorem all_standing (T : Txt mg) (L : Laid K mg "standing" sStanding ["key"]) : ∀ n : Nat, DefOk P w K mg base (n + 1) "standing" ["key"] (spSt n)
  | 0 => L.of fun _ _ _ => st_none
  | n + 1 => L.of fun _ _ F => ok_standing F T (all_standing T L n)
/-! ### ahead -/
theorem scAhead : FnScope ["one", "other"] ["one", "other"] (defScope sAhead) := ⟨rfl, rfl, rfl, by decide +kernel, rfl, by decide +kernel, by decide +kernel⟩
theorem ok_ahead (F : Fun K "ahead" "ahead" sAhead f fd) (DS : DefOk P w K mg base 6 "standing" ["key"] (spSt 5)) : FnOk P w K mg base CX0 7 f fd ["one", "other"] spAhead := by
  refine F.ok scAhead (fun vs H Q E h => ?_) (fun cdv A outer s H vs Q E hr h => ?_)
  · obtain ⟨v, u, a, b, rfl, _⟩ := h
    rfl
  obtain ⟨v, u, a, b, rfl, ha, hb, fa, fb, k⟩ := h
  refine ⟨_, pss_one (ps_ret (pe_cmpR (op_ltK hr) (pe_def DS hr (pa_cons (pv 0) pa_nil)) (pe_def DS hr (pa_cons (pv 1) pa_nil)) (nomark _))), ?_⟩
  have da := fits_depth a 3 fa
  have db := fits_depth b 3 fb
  have ds := depth_st a
  refine ⟨_, rfl, v, a, 3, rfl, ha, fa, by omega, fun v1 H1 k1 s1 => ?_⟩
  refine ⟨_, rfl, u, b, 3, rfl, hb.mono (Same.tups s1) _ _, fb, by omega, fun v2 H2 k2 s2 => ?_⟩
  refine ⟨a.st, b.st, k1.mono (Same.tups s2) _ _, k2, cmp_st a b, by omega, ?_⟩
  rw [plt_st]
  exact k H2 (s1.trans s2)
end
end Tw
set_option Elab.async false
set_option linter.all false
set_option maxRecDepth 100000
set_option maxHeartbeats 8000000
namespace Tw
open PySem PySem.Spec L2
mutual
def KT.wide : KT → Nat → Bool
  | .int _, _ => true
  | .str _, _ => true
  | .tup l, r => decide (0 < r) && (decide (l.length ≤ 100) && wideL l (r - 1))
def wideL : List KT → Nat → Bool
  | [], _ => true
  | t :: l, r => t.wide r && wideL l r
end
theorem wideL_all : ∀ (l : List KT) (r : Nat), wideL l r = l.all (·.wide r)
  | [], r => by rw [wideL]; rfl
  | t :: l, r => by rw [wideL, wideL_all l r]; rfl
mutual
theorem wide_of : ∀ (t : KT) (r : Nat), t.fits r = true → t.wide r = true
  | .int _, _, _ => by rw [KT.wide]
  | .str _, _, _ => by rw [KT.wide]
  | .tup l, r, h => by
    rw [KT.fits, Bool.and_eq_true, Bool.and_eq_true] at h
    rw [KT.wide, Bool.and_eq_true, Bool.and_eq_true]
    have := of_decide_eq_true h.2.1
    exact ⟨h.1, decide_eq_true (by omega), wideL_of l (r - 1) h.2.2⟩
theorem wideL_of : ∀ (l : List KT) (r : Nat), fitsL l r = true → wideL l r = true
  | [], _, _ => by rw [wideL]
  | t :: l, r, h => by
    rw [fitsL, Bool.and_eq_true] at h
    rw [wideL, Bool.and_eq_true]
    exact ⟨wide_of t r h.1, wideL_of l r h.2⟩
end
def spAlike (n : Nat) : Sp := fun vs H Q _ => ∃ (v u : V) (t : KT) (r : Nat), vs = [v, u] ∧ KeyAt H t v ∧ KeyAt H t u ∧ t.wide r = true ∧ r < n ∧ ∀ H', Same H H' → Q (.bl true) H'
section
variable {P : Program} {w : World} {K : PySem.W.Frag} {mg : Str → Option Value} {base : Heap} {f : Addr} {fd : FuncData}
theorem sp_noneS {sp : Sp} {k : Nat} {ps : List Str} (no : ∀ vs H Q E, ¬ sp vs H Q E) : FnOk P w K mg base CX0 k f fd ps sp :=
  ⟨fun vs H Q E h => absurd h (no vs H Q E), fun A outer s H args us vs Q E _ _ _ _ h => absurd h (no vs H Q E)⟩
theorem scAlike : FnScope ["_law_found", "_law_due_here"] ["_law_found", "_law_due_here"] (defScope sAlike) := ⟨rfl, rfl, rfl, by decide +kernel, rfl, by decide +kernel, by decide +kernel⟩
theorem ok_alike {n : Nat} (F : Fun K "_law_alike" "_law_alike" sAlike f fd) (T : Txt mg) (DA : DefOk P w K mg base (n + 1) "_law_alike" ["_law_found", "_law_due_here"] (spAlike n)) :
    FnOk P w K mg base CX0 (n + 2) f fd ["_law_found", "_law_due_here"] (spAlike (n + 1)) := by
  refine F.ok scAlike (fun vs H Q E h => ?_) (fun cdv A outer s H vs Q E hr h => ?_)
  · obtain ⟨v, u, t, r, rfl, _⟩ := h
    rfl
  obtain ⟨v, u, t, r, rfl, hv, hu, hf, hn, k⟩ := h
  refine ⟨_, pss_cons (ps_if (pt_val (pe_callB tw_isinst rfl T.isi tb_isinstance (pa_cons (pv 1) (pa_cons (pe_bltn (v := .ty "tuple") rfl T.tuple tb_tuple rfl) pa_nil))))
      (pss_cons (ps_if (PW.pt (pw_or (pt_not (pt_val (pe_callB tw_isinst rfl T.isi tb_isinstance (pa_cons (pv 0) (pa_cons (pe_bltn (v := .ty "tuple") rfl T.tuple tb_tuple rfl) pa_nil)))))
        (pw_or1 (pt_cmpR op_ne (pe_callB call_len_seq rfl T.len tb_len (pa_cons (pv 0) pa_nil)) (pe_callB call_len_seq rfl T.len tb_len (pa_cons (pv 1) pa_nil)) (nomark _))))) (pss_one (ps_ret pe_bl)) pss_nil)
      (pss_one (ps_ret (pe_callB (tw_all rfl) rfl T.all tb_all (pa_cons (pe_comp [0, 1] ["_law_found", "_law_due_here"] rfl (pi_range1 rfl T.range (pa_cons (pe_callB call_len_seq rfl T.len tb_len (pa_cons (pv 1) pa_nil)) pa_nil)) (fun _ _ _ _ _ => pts_nil)
        (fun _ _ _ _ _ => pe_def DA hr (pa_cons (pe_ix (r := rIx K) ix_seq (pv 1) (pv 0) (fun _ _ => rfl)) (pa_cons (pe_ix (r := rIx K) ix_seq (pv 2) (pv 0) (fun _ _ => rfl)) pa_nil))) ⟨rfl, .inl rfl, rfl, rfl, .inl rfl, rfl, trivial⟩) pa_nil))))) pss_nil)
    (pss_cons (ps_if (pt_val (pe_callB tw_isinst rfl T.isi tb_isinstance (pa_cons (pv 1) (pa_cons (pe_bltn (v := .ty "str") rfl T.str tb_str rfl) pa_nil))))
      (pss_one (ps_ret (pe_and (pe_callB tw_isinst rfl T.isi tb_isinstance (pa_cons (pv 0) (pa_cons (pe_bltn (v := .ty "str") rfl T.str tb_str rfl) pa_nil))) (pe_one (pe_cmpR op_eq (pv 0) (pv 1) (nomark _)))))) pss_nil)
    (pss_one (ps_ret (pe_and (pe_callB tw_isinst rfl T.isi tb_isinstance (pa_cons (pv 0) (pa_cons (pe_bltn (v := .ty "int") rfl T.int tb_int rfl) pa_nil)))
      (pe_and (pe_not (pe_callB tw_isinst rfl T.isi tb_isinstance (pa_cons (pv 0) (pa_cons (pe_bltn (v := .ty "bool") rfl T.bool tb_bool rfl) pa_nil)))) (pe_one (pe_cmpR op_eq (pv 0) (pv 1) (nomark _)))))))), ?_⟩
  cases t with
  | int i =>
    have ev : v = .int i := by rw [KeyAt] at hv; exact hv
    have eu : u = .int i := by rw [KeyAt] at hu; exact hu
    subst ev eu
    refine ⟨_, rfl, _, _, _, _, rfl, .int i, kit_it, _, rfl, iteF ?_⟩
    refine ⟨_, rfl, _, _, _, _, rfl, .int i, kit_is', _, rfl, iteF ?_⟩
    refine ⟨_, rfl, _, _, _, _, rfl, .int i, kit_ii, _, rfl, iteT ?_⟩
    refine ⟨_, rfl, _, _, _, _, rfl, .int i, kit_ib, _, rfl, _, rfl, iteT ?_⟩
    refine ⟨_, rfl, _, rfl, rfl, ?_⟩
    rw [decide_eq_true rfl]
    exact k H (Same.refl H)
  | str x =>
    have ev : v = .str x := by rw [KeyAt] at hv; exact hv
    have eu : u = .str x := by rw [KeyAt] at hu; exact hu
    subst ev eu
    refine ⟨_, rfl, _, _, _, _, rfl, .str x, kit_st, _, rfl, iteF ?_⟩
    refine ⟨_, rfl, _, _, _, _, rfl, .str x, kit_ss, _, rfl, iteT ?_⟩
    refine ⟨_, rfl, _, _, _, _, rfl, .str x, kit_ss, _, rfl, iteT ?_⟩
    refine ⟨_, rfl, _, rfl, rfl, ?_⟩
    rw [decide_eq_true rfl]
    exact k H (Same.refl H)
  | tup l =>
    rw [KeyAt] at hv hu
    obtain ⟨a, vs, rfl, ea, hvs⟩ := hv
    obtain ⟨b, us, rfl, eb, hus⟩ := hu
    have hl := hvs.length
    have hl2 := hus.length
    rw [KT.wide, Bool.and_eq_true, Bool.and_eq_true] at hf
    obtain ⟨f0, f1, f2⟩ := hf
    have r0 := of_decide_eq_true f0
    have l4 := of_decide_eq_true f1
    have ty : TyOf K H (.ref a) (.type "tuple") := .tup ea
    have ty2 : TyOf K H (.ref b) (.type "tuple") := .tup eb
    have luv : us.length = vs.length := by omega
    refine ⟨_, rfl, _, _, _, _, rfl, ty2, kit_tt, _, rfl, iteT ?_⟩
    refine ⟨_, rfl, _, _, _, _, rfl, ty, kit_tt, _, rfl, iteF ?_⟩
    refine ⟨_, rfl, a, vs, rfl, .inr (SqT.of ea), _, rfl, b, us, rfl, .inr (SqT.of eb), rfl, _, rfl, iteNS (by rw [luv]) ?_⟩
    refine ⟨_, rfl, b, us, rfl, .inr (SqT.of eb), _, rfl, by omega, by omega, ?_⟩
    rw [Int.toNat_natCast]
    refine comp_map (n := us.length) (fun i x => x = .int (0 + (i : Int))) (fun D i ys H3 => Same H H3 ∧ H D = none ∧ ys = (List.replicate i true).map V.bl) (small1000 (by omega))
      (fun D i ys H3 hi _ => hi) (fun D i ys H3 x H4 hi _ hy => hy) (fun D ys H3 _ => Nat.le_refl _) (fun D hD => ⟨same_new hD _, hD, rfl⟩) (fun D i ys H3 x eD hl' hi hx hP R hR => ?_) (fun D ys H3 eD hP => ?_)
    · subst hx
      obtain ⟨s3, nD, rfl⟩ := hP
      have hi' : i < vs.length := by omega
      have hiv : vs[i]? = some vs[i] := by simp [hi']
      have hiu : us[i]? = some us[i] := by simp [hi]
      obtain ⟨t, et, kt⟩ := hvs.get hiv
      obtain ⟨t', et', kt'⟩ := hus.get hiu
      have ett : t' = t := by rw [et] at et'; injection et' with et'; exact et'.symm
      subst ett
      have ft : t'.wide (r - 1) = true := by rw [wideL_all] at f2; exact List.all_eq_true.mp f2 t' (List.mem_of_getElem? et)
      have av : atI vs (0 + (i : Int)) = some vs[i] := by rw [Int.zero_add]; exact atI_nat hiv
      have au : atI us (0 + (i : Int)) = some us[i] := by rw [Int.zero_add]; exact atI_nat hiu
      refine ⟨_, rfl, _, rfl, .inr (.inl ⟨a, vs, _, _, rfl, rfl, SqT.of (s3 _ _ ea), av, _, rfl, _, rfl, .inr (.inl ⟨b, us, _, _, rfl, rfl, SqT.of (s3 _ _ eb), au, vs[i], us[i], t', r - 1, rfl, kt.mono (Same.tups s3) _ _, kt'.mono (Same.tups s3) _ _, ft, by omega, fun H4 s4 => ?_⟩)⟩)⟩
      refine hR _ H4 (s4 D _ eD) ⟨fun b o e => by rw [upd_ne (ne_of_none e nD)]; exact s4 b o (s3 b o e), nD, ?_⟩
      rw [List.replicate_succ']
      simp
    · obtain ⟨s3, nD, rfl⟩ := hP
      refine ⟨D, _, rfl, SqL.of eD, ?_⟩
      have e : (List.replicate us.length true).all id = true := by simp
      rw [e]
      exact k H3 s3
theorem all_alike (T : Txt mg) (L : Laid K mg "_law_alike" sAlike ["_law_found", "_law_due_here"]) : ∀ n : Nat, DefOk P w K mg base (n + 1) "_law_alike" ["_law_found", "_law_due_here"] (spAlike n)
  | 0 => L.of fun _ _ _ => sp_noneS fun vs H Q E h => by obtain ⟨v, u, t, r, _, _, _, _, h1, _⟩ := h; omega
  | n + 1 => L.of fun _ _ F => ok_alike F T (all_alike T L n)
end
end Tw
set_option Elab.async false
set_option linter.all false
set_option maxRecDepth 100000
set_option maxHeartbeats 8000000
namespace Tw
open PySem PySem.Spec L2
/-! ### the law's own order -/
mutual
def KT.rk : KT → KT
  | .int i => .tup [.int 0, .int i, .str "", .tup []]
  | .str x => .tup [.int 1, .int 0, .str x, .tup []]
  | .tup l => .tup [.int 2, .int 0, .str "", .tup (rkL l)]
def rkL : List KT → List KT
  | [] => []
  | t :: l => t.rk :: rkL l
end
theorem rkL_map : ∀ l : List KT, rkL l = l.map KT.rk
  | [] => by rw [rkL]; rfl
  | t :: l => by rw [rkL, rkL_map l]; rfl
mutual
theorem eqb_rk : ∀ a b : KT, a.rk.eqb b.rk = a.eqb b
  | .int i, .int j => by simp [KT.rk, KT.eqb, eqbL]
  | .str x, .str y => by simp [KT.rk, KT.eqb, eqbL]
  | .tup l, .tup m => by simp [KT.rk, KT.eqb, eqbL, eqbL_rk l m]
  | .int _, .str _ => by simp [KT.rk, KT.eqb, eqbL]
  | .int _, .tup _ => by simp [KT.rk, KT.eqb, eqbL]
  | .str _, .int _ => by simp [KT.rk, KT.eqb, eqbL]
  | .str _, .tup _ => by simp [KT.rk, KT.eqb, eqbL]
  | .tup _, .int _ => by simp [KT.rk, KT.eqb, eqbL]
  | .tup _, .str _ => by simp [KT.rk, KT.eqb, eqbL]
theorem eqbL_rk : ∀ l m : List KT, eqbL (rkL l) (rkL m) = eqbL l m
  | [], [] => by simp [rkL, eqbL]
  | a :: l, b :: m => by simp [rkL, eqbL, eqb_rk a b, eqbL_rk l m]
  | [], _ :: _ => by simp [rkL, eqbL]
  | _ :: _, [] => by simp [rkL, eqbL]
end
mutual
theorem cmp_rk : ∀ a b : KT, a.rk.cmp b.rk = true
  | .int i, .int j => by simp [KT.rk, KT.eqb, KT.cmp, cmpL, eqbL]
  | .str x, .str y => by simp [KT.rk, KT.eqb, KT.cmp, cmpL, eqbL]
  | .tup l, .tup m => by simp [KT.rk, KT.eqb, KT.cmp, cmpL, cmpL_rk l m]
  | .int _, .str _ => by simp [KT.rk, KT.eqb, KT.cmp, cmpL]
  | .int _, .tup _ => by simp [KT.rk, KT.eqb, KT.cmp, cmpL]
  | .str _, .int _ => by simp [KT.rk, KT.eqb, KT.cmp, cmpL]
  | .str _, .tup _ => by simp [KT.rk, KT.eqb, KT.cmp, cmpL]
  | .tup _, .int _ => by simp [KT.rk, KT.eqb, KT.cmp, cmpL]
  | .tup _, .str _ => by simp [KT.rk, KT.eqb, KT.cmp, cmpL]
theorem cmpL_rk : ∀ l m : List KT, cmpL (rkL l) (rkL m) = true
  | [], _ => by simp [rkL, cmpL]
  | _ :: _, [] => by simp [rkL, cmpL]
  | a :: l, b :: m => by
    rw [rkL, rkL, cmpL, cmpL_rk l m, cmp_rk a b]
    split <;> rfl
end
mutual
theorem plt_rk : ∀ a b : KT, a.rk.plt b.rk = a.lt b
  | .int i, .int j => by
    simp only [KT.rk, KT.eqb, KT.plt, pltL, eqbL, KT.lt, beq_self_eq_true, if_true]
    by_cases h : i = j
    · subst h; simp
    · simp [h]
  | .str x, .str y => by
    simp only [KT.rk, KT.eqb, KT.plt, pltL, eqbL, KT.lt, beq_self_eq_true, if_true]
    by_cases h : x = y
    · subst h; simp
    · simp [h]
  | .tup l, .tup m => by
    simp only [KT.rk, KT.eqb, KT.plt, pltL, KT.lt, beq_self_eq_true, if_true, eqbL_rk, pltL_rk l m]
    cases h : eqbL l m with
    | true => rw [if_pos rfl, ltL_eqb h]
    | false => rw [if_neg Bool.false_ne_true]
  | .int _, .str _ => by simp [KT.rk, KT.eqb, KT.plt, pltL, KT.lt]
  | .int _, .tup _ => by simp [KT.rk, KT.eqb, KT.plt, pltL, KT.lt]
  | .str _, .int _ => by simp [KT.rk, KT.eqb, KT.plt, pltL, KT.lt]
  | .str _, .tup _ => by simp [KT.rk, KT.eqb, KT.plt, pltL, KT.lt]
  | .tup _, .int _ => by simp [KT.rk, KT.eqb, KT.plt, pltL, KT.lt]
  | .tup _, .str _ => by simp [KT.rk, KT.eqb, KT.plt, pltL, KT.lt]
theorem pltL_rk : ∀ l m : List KT, pltL (rkL l) (rkL m) = ltL l m
  | [], [] => by simp [rkL, pltL, ltL]
  | [], _ :: _ => by simp [rkL, pltL, ltL]
  | _ :: _, [] => by simp [rkL, pltL, ltL]
  | a :: l, b :: m => by rw [rkL, rkL, pltL, ltL, eqb_rk a b, pltL_rk l m, plt_rk a b]
end
mutual
theorem depth_rk : ∀ t : KT, t.rk.depth ≤ 2 * t.depth + 2
  | .int i => by simp [KT.rk, KT.depth, depthL]
  | .str x => by simp [KT.rk, KT.depth, depthL]
  | .tup l => by
    have := depthL_rk l
    simp only [KT.rk, KT.depth, depthL]
    omega
theorem depthL_rk : ∀ l : List KT, depthL (rkL l) ≤ 2 * depthL l + 2
  | [] => by simp [rkL, depthL]
  | t :: l => by
    have a := depth_rk t
    have b := depthL_rk l
    rw [rkL, depthL, depthL]
    omega
end
section
variable {P : Program} {w : World} {K : PySem.W.Frag} {mg : Str → Option Value} {base : Heap} {f : Addr} {fd : FuncData}
/-! ### _law_rank -/
def spRank (n : Nat) : Sp := fun vs H Q _ => ∃ (v : V) (t : KT) (q : Nat), vs = [v] ∧ KeyAt H t v ∧ t.fits q = true ∧ t.depth < n ∧ ∀ (v' : V) (H' : Hp), KeyAt H' t.rk v' → Same H H' → Q v' H'
theorem scRank : FnScope ["_law_key_here"] ["_law_key_here"] (defScope sRank) := ⟨rfl, rfl, rfl, by decide +kernel, rfl, by decide +kernel, by decide +kernel⟩
theorem ok_rank {n : Nat} (F : Fun K "_law_rank" "_law_rank" sRank f fd) (T : Txt mg) (DS : DefOk P w K mg base (n + 1) "_law_rank" ["_law_key_here"] (spRank n)) : FnOk P w K mg base CX0 (n + 2) f fd ["_law_key_here"] (spRank (n + 1)) := by
  refine F.ok scRank (fun vs H Q E h => (by obtain ⟨_, _, _, rfl, _⟩ := h; rfl)) (fun cdv A outer s H vs Q E hr h => ?_)
  obtain ⟨v, t, q, rfl, hv, hq, hn, k⟩ := h
  refine ⟨_, pss_cons (ps_if (pt_val (pe_callB tw_isinst rfl T.isi tb_isinstance (pa_c (pv 0) (pa_c (pe_bltn (v := .ty "int") rfl T.int tb_int rfl) pa_nil)))) (pss_one (ps_ret (pe_tup (pa4 pe_int (pv 0) pe_str (pe_tup pa_nil))))) pss_nil)
    (pss_cons (ps_if (pt_val (pe_callB tw_isinst rfl T.isi tb_isinstance (pa_c (pv 0) (pa_c (pe_bltn (v := .ty "str") rfl T.str tb_str rfl) pa_nil)))) (pss_one (ps_ret (pe_tup (pa4 pe_int pe_int (pv 0) (pe_tup pa_nil))))) pss_nil)
    (pss_one (ps_ret (pe_tup (pa4 pe_int pe_int pe_str (pe_callTy call_tuple_of rfl T.tuple tb_tuple (pa_c (pe_comp [] [] rfl (pi_tup (pv 0)) (fun _ _ _ _ _ => pts_nil) (fun _ _ _ _ _ => pe_def DS hr (pa_c (pv 0) pa_nil)) trivial) pa_nil))))))), ?_⟩
  cases t with
  | int i =>
    have ev : v = .int i := by rw [KeyAt] at hv; exact hv
    subst ev
    refine ⟨_, rfl, _, _, _, _, rfl, hv.ty, kit_ii, _, rfl, iteT ?_⟩
    refine ⟨_, rfl, (by show 0 ≤ sizeLine; decide), fun p0 h0 => ⟨(by show 4 ≤ sizeLine; decide), fun p hp => ?_⟩⟩
    have g0 := same_new h0 (.tup [])
    have g1 := same_new hp (.tup [.int 0, .int i, .str "", .ref p0])
    refine k _ _ ?_ (g0.trans g1)
    rw [KT.rk]
    exact .tup upd_same (.cons (.int 0) (.cons (.int i) (.cons (.str _) (.cons (.tup (g1 _ _ upd_same) .nil) .nil))))
  | str x =>
    have ev : v = .str x := by rw [KeyAt] at hv; exact hv
    subst ev
    refine ⟨_, rfl, _, _, _, _, rfl, hv.ty, kit_si, _, rfl, iteF ?_⟩
    refine ⟨_, rfl, _, _, _, _, rfl, hv.ty, kit_ss, _, rfl, iteT ?_⟩
    refine ⟨_, rfl, (by show 0 ≤ sizeLine; decide), fun p0 h0 => ⟨(by show 4 ≤ sizeLine; decide), fun p hp => ?_⟩⟩
    have g0 := same_new h0 (.tup [])
    have g1 := same_new hp (.tup [.int 1, .int 0, .str x, .ref p0])
    refine k _ _ ?_ (g0.trans g1)
    rw [KT.rk]
    exact .tup upd_same (.cons (.int 1) (.cons (.int 0) (.cons (.str x) (.cons (.tup (g1 _ _ upd_same) .nil) .nil))))
  | tup l =>
    have hv' := hv
    rw [KeyAt] at hv'
    obtain ⟨a, vs, rfl, ea, hvs⟩ := hv'
    have hl := hvs.length
    rw [KT.fits, Bool.and_eq_true, Bool.and_eq_true] at hq
    obtain ⟨hq0, hq1, hq2⟩ := hq
    have hl4 : l.length ≤ 4 := of_decide_eq_true hq1
    rw [KT.depth] at hn
    refine ⟨_, rfl, _, _, _, _, rfl, hv.ty, kit_ti, _, rfl, iteF ?_⟩
    refine ⟨_, rfl, _, _, _, _, rfl, hv.ty, kit_ts, _, rfl, iteF ?_⟩
    refine ⟨_, rfl, a, rfl, ⟨vs, SqT.of ea⟩, ?_⟩
    refine comp_map (n := vs.length) (fun i z => vs[i]? = some z) (fun D i ys H3 => Same H H3 ∧ H D = none ∧ KeysAt H3 ((l.take i).map KT.rk) ys) (small1000 (by omega))
      (fun D i ys H3 hi hP => ⟨vs, vs[i], SqT.of (hP.1 _ _ ea), by simp [hi]⟩) (fun D i ys H3 z H4 hi hP hy => ⟨hy.1, hy.2 vs (SqT.of (hP.1 _ _ ea))⟩) (fun D ys H3 hP => ⟨vs, SqT.of (hP.1 _ _ ea), Nat.le_refl _⟩)
      (fun D hD => ⟨same_new hD _, hD, .nil⟩) (fun D i ys H3 z eD hl' hi hz hP R hR => ?_) (fun D ys H3 eD hP => ?_)
    · obtain ⟨s3, nD, hys⟩ := hP
      obtain ⟨t, et, kt⟩ := hvs.get hz
      have mt := List.mem_of_getElem? et
      have htq : t.fits (q - 1) = true := by
        rw [fitsL_all] at hq2
        exact List.all_eq_true.mp hq2 t mt
      have hdt := depth_in mt
      refine ⟨_, rfl, z, t, q - 1, rfl, kt.mono (Same.tups s3) _ _, htq, by omega, fun v' H4 k4 s4 => ?_⟩
      have eD4 := s4 D _ eD
      have tD : Tups H4 (upd H4 D (.lst (ys ++ [v']))) := (SameX.refl D H4).upd.tups eD4
      refine hR v' H4 eD4 ⟨fun b o e => by rw [upd_ne (ne_of_none e nD)]; exact s4 b o (s3 b o e), nD, ?_⟩
      rw [List.take_add_one, et, List.map_append]
      exact ((hys.mono (Same.tups s4) _ _).append (.cons k4 .nil)).mono tD _ _
    · obtain ⟨s3, nD, hys⟩ := hP
      have et : l.take vs.length = l := List.take_of_length_le (by omega)
      rw [et] at hys
      have hyl := hys.length
      rw [List.length_map] at hyl
      refine ⟨D, ys, rfl, .inl ⟨SqL.of eD, fun p1 hp1 => ?_⟩⟩
      have g1 := same_new hp1 (.tup ys)
      refine ⟨(by show 4 ≤ sizeLine; decide), fun p2 hp2 => ?_⟩
      have g2 := same_new hp2 (.tup [.int 2, .int 0, .str "", .ref p1])
      refine k _ _ ?_ ((s3.trans g1).trans g2)
      rw [KT.rk, rkL_map]
      exact .tup upd_same (.cons (.int 2) (.cons (.int 0) (.cons (.str _) (.cons (.tup (g2 _ _ upd_same) (hys.mono (Same.tups (g1.trans g2)) _ _)) .nil))))
theorem all_rank (T : Txt mg) (L : Laid K mg "_law_rank" sRank ["_law_key_here"]) : ∀ n : Nat, DefOk P w K mg base (n + 1) "_law_rank" ["_law_key_here"] (spRank n)
  | 0 => L.of fun _ _ _ => sp_noneS fun vs H Q E h => by obtain ⟨v, t, q, _, _, _, h1, _⟩ := h; omega
  | n + 1 => L.of fun _ _ F => ok_rank F T (all_rank T L n)
/-! ### _law_less -/
theorem scLess : FnScope ["_law_one", "_law_other"] ["_law_one", "_law_other"] (defScope sLess) := ⟨rfl, rfl, rfl, by decide +kernel, rfl, by decide +kernel, by decide +kernel⟩
theorem ok_less (F : Fun K "_law_less" "_law_less" sLess f fd) (DS : DefOk P w K mg base 6 "_law_rank" ["_law_key_here"] (spRank 5)) : FnOk P w K mg base CX0 7 f fd ["_law_one", "_law_other"] spAhead := by
  refine F.ok scLess (fun vs H Q E h => (by obtain ⟨_, _, _, _, rfl, _⟩ := h; rfl)) (fun cdv A outer s H vs Q E hr h => ?_)
  obtain ⟨v, u, a, b, rfl, ha, hb, fa, fb, k⟩ := h
  refine ⟨_, pss_one (ps_ret (pe_cmpR (op_ltK hr) (pe_def DS hr (pa_c (pv 0) pa_nil)) (pe_def DS hr (pa_c (pv 1) pa_nil)) (nomark _))), ?_⟩
  have da := fits_depth a 3 fa
  have db := fits_depth b 3 fb
  have ds := depth_rk a
  refine ⟨_, rfl, v, a, 3, rfl, ha, fa, by omega, fun v1 H1 k1 s1 => ?_⟩
  refine ⟨_, rfl, u, b, 3, rfl, hb.mono (Same.tups s1) _ _, fb, by omega, fun v2 H2 k2 s2 => ?_⟩
  refine ⟨a.rk, b.rk, k1.mono (Same.tups s2) _ _, k2, cmp_rk a b, by omega, ?_⟩
  rw [plt_rk]
  exact k H2 (s1.trans s2)
end
end Tw
set_option Elab.async false
set_option linter.all false
set_option maxRecDepth 100000
set_option maxHeartbeats 8000000
namespace Tw
open PySem PySem.Spec L2 PyProof.Rows
def RowsAt (H : Hp) (ks : List KT) (us : List V) : Prop := us.length = ks.length ∧ ∀ i u, us[i]? = some u → ∃ a vk vv, u = .ref a ∧ H a = some (.tup [vk, vv]) ∧ KeyAt H (ks.getD i (.int 0)) vk
theorem RowsAt.mono {H H' : Hp} {ks : List KT} {us : List V} (x : RowsAt H ks us) (m : Tups H H') : RowsAt H' ks us := ⟨x.1, fun i u e => by
  obtain ⟨a, vk, vv, e1, e2, e3⟩ := x.2 i u e
  exact ⟨a, vk, vv, e1, m _ _ e2, e3.mono m _ _⟩⟩
theorem RowsAt.nil {H : Hp} : RowsAt H [] [] := ⟨rfl, fun i u e => by simp at e⟩
theorem RowsAt.snoc {H : Hp} {ks : List KT} {us : List V} {a : Addr} {vk vv : V} {t : KT} (x : RowsAt H ks us) (e : H a = some (.tup [vk, vv])) (k : KeyAt H t vk) : RowsAt H (ks ++ [t]) (us ++ [.ref a]) := by
  refine ⟨by simp [x.1], fun i u hu => ?_⟩
  have hl := x.1
  rcases Nat.lt_or_ge i us.length with c | c
  · rw [List.getElem?_append_left c] at hu
    obtain ⟨b, wk, wv, e1, e2, e3⟩ := x.2 i u hu
    refine ⟨b, wk, wv, e1, e2, ?_⟩
    rw [List.getD_eq_getElem?_getD, List.getElem?_append_left (by omega), ← List.getD_eq_getElem?_getD]
    exact e3
  · rw [List.getElem?_append_right c] at hu
    have hi : i - us.length = 0 := by
      have := (List.getElem?_eq_some_iff.mp hu).1
      simp at this
      omega
    rw [hi] at hu
    cases hu
    refine ⟨a, vk, vv, rfl, e, ?_⟩
    have : i = ks.length := by omega
    rw [List.getD_eq_getElem?_getD, this, List.getElem?_append_right (Nat.le_refl _)]
    simp
    exact k
def labR (ks : List KT) : KT := .tup [.int 0, ks.getD 0 (.int 0), ks.getD (ks.length - 1) (.int 0), .int ks.length]
theorem last_at {us : List V} {u : V} (h : us[us.length - 1]? = some u) : atI us (-1) = some u := by
  have hne : us ≠ [] := fun z => by rw [z] at h; simp at h
  have e : us = us.dropLast ++ [u] := by
    have hg : us.getLast hne = u := by
      rw [List.getLast_eq_getElem]
      exact (List.getElem?_eq_some_iff.mp h).2
    rw [← hg, List.dropLast_concat_getLast]
  rw [e]
  exact atI_last _ _
section
variable {P : Program} {w : World} {K : PySem.W.Frag} {mg : Str → Option Value} {base : Heap} {f : Addr} {fd : FuncData}
/-! ### label_of_rows -/
def spLabRows : Sp := fun vs H Q _ => ∃ (l : Addr) (us : List V) (ks : List KT), vs = [.ref l] ∧ H l = some (.lst us) ∧ RowsAt H ks us ∧ 0 < us.length ∧ ∀ (H' : Hp) (v : V), Same H H' → KeyAt H' (labR ks) v → Q v H'
theorem scLabRows : FnScope ["rows"] ["rows"] (defScope sLabRows) := ⟨rfl, rfl, rfl, by decide +kernel, rfl, by decide +kernel, by decide +kernel⟩
theorem ok_labrows (F : Fun K "label_of_rows" "label_of_rows" sLabRows f fd) (T : Txt mg) : FnOk P w K mg base CX0 1 f fd ["rows"] spLabRows := by
  refine F.ok scLabRows (fun vs H Q E h => (by obtain ⟨_, _, _, rfl, _⟩ := h; rfl)) (fun cdv A outer s H vs Q E hr h => ?_)
  obtain ⟨l, us, ks, rfl, hl, hk, h0, k⟩ := h
  refine ⟨_, pss_one (ps_ret (pe_tup (pa4 pe_int (pe_ix (r := rIx K) ix_seq (pe_ix (r := rIx K) ix_seq (pv 0) pe_int (fun _ _ => rfl)) pe_int (fun _ _ => rfl))
    (pe_ix (r := rIx K) ix_seq (pe_ix (r := rIx K) ix_seq (pv 0) (pe_un un_neg pe_int) (fun _ _ => rfl)) pe_int (fun _ _ => rfl)) (pe_callB call_len_seq rfl T.len tb_len (pa_c (pv 0) pa_nil))))), ?_⟩
  have u0 : us[0]? = some us[0] := List.getElem?_eq_getElem h0
  have u1 : us[us.length - 1]? = some (us[us.length - 1]'(by omega)) := List.getElem?_eq_getElem (by omega)
  obtain ⟨a, ak, av, ea, ta, ka⟩ := hk.2 0 _ u0
  obtain ⟨b, bk, bv, eb, tb, kb⟩ := hk.2 _ _ u1
  rw [ea] at u0
  rw [eb] at u1
  refine ⟨_, rfl, .inl ⟨l, us, _, .ref a, rfl, rfl, SqL.of hl, atI_nat (j := 0) u0, .inr (.inl ⟨a, _, _, ak, rfl, rfl, SqT.of ta, rfl, ?_⟩)⟩⟩
  refine ⟨_, rfl, 1, rfl, .inl ⟨l, us, _, .ref b, rfl, rfl, SqL.of hl, last_at u1, .inr (.inl ⟨b, _, _, bk, rfl, rfl, SqT.of tb, rfl, ?_⟩)⟩⟩
  refine ⟨_, rfl, l, us, rfl, .inl (SqL.of hl), nn (Nat.le_of_ble_eq_true rfl), fun p hp => ?_⟩
  have g := same_new hp (.tup [.int 0, ak, bk, .int us.length])
  refine k _ _ g ?_
  unfold labR
  rw [← hk.1]
  exact .tup upd_same (.cons (.int _) (.cons (ka.mono (Same.tups g) _ _) (.cons (kb.mono (Same.tups g) _ _) (.cons (.int _) .nil))))
end
theorem pe_defX {X : Cx} {k : Nat} {x : Str} {ps : List Str} {sp : Sp} {E : XK} {e : Expr} {es : List Expr} {t : TA} {p pos : Pos} (D : DefX X.prog X.w X.K X.mg X.base k x ps sp) (hr : Room k X.A) (hx : Passes (CXw X.prog X.w) X E) (ha : PA X (e :: es) t) (hg : Gl X x := by rfl)
    (hdb : (x == ("__debug__" : Str)) = false := by decide) (he : starEach (e :: es) X.env = (false, eval e X.env) :: starEach es X.env := by rfl) (hpl : (backTo pos (starEach es X.env)).any (·.1) = false := by rfl) :
    PE X (.Call (.Name x p) (e :: es) [] pos) (tCall sp [] E t) := by
  obtain ⟨f, fd, F, b, kp, m⟩ := D.ex
  exact pe_call F hr hg m kp b .nil hx ha hdb he hpl
/-! ### things: keys, and such as are none -/
def BadAt (N : Addr → Prop) (H : Hp) (v : V) : Prop := (∃ b, v = .bl b) ∨ v = .non ∨ (∃ a xs, v = .ref a ∧ H a = some (.lst xs) ∧ ¬ N a) ∨ (∃ x : Str, v = .str x ∧ x.length = 41) ∨ (∃ i : Int, v = .int i ∧ 10 ^ 60 ≤ i) ∨ ∃ a, v = .ref a ∧ H a = some (.tup [.int 1, .int 2, .int 3, .int 4, .int 5])
def Thg (N : Addr → Prop) (H : Hp) (v : V) : Option KT → Prop
  | some t => KeyAt H t v ∧ t.fits 3 = true
  | none => BadAt N H v
theorem Thg.mono {N : Addr → Prop} {H H' : Hp} {v : V} {o : Option KT} (h : Thg N H v o) (m : Keeps N H H') : Thg N H' v o := by
  cases o with
  | some t => exact ⟨h.1.mono m.tup _ _, h.2⟩
  | none =>
    rcases h with h | h | ⟨a, xs, e, h, n⟩ | h | h | ⟨a, e, h⟩
    · exact .inl h
    · exact .inr (.inl h)
    · exact .inr (.inr (.inl ⟨a, xs, e, m.rest _ _ h n, n⟩))
    · exact .inr (.inr (.inr (.inl h)))
    · exact .inr (.inr (.inr (.inr (.inl h))))
    · exact .inr (.inr (.inr (.inr (.inr ⟨a, e, m.tup _ _ h⟩))))
theorem Thg.tg {N : Addr → Prop} {H : Hp} {v : V} {o : Option KT} (h : Thg N H v o) : ∃ g : TG, ThAt N H g v ∧ g.neat ∧ g.fits 3 = o.isSome := by
  cases o with
  | some t => exact ⟨t.emb, th_key t v h.1, emb_neat t 3 h.2, by rw [emb_fits]; exact h.2⟩
  | none =>
    rcases h with ⟨b, rfl⟩ | rfl | ⟨a, xs, rfl, h, n⟩ | ⟨x, rfl, h⟩ | ⟨i, rfl, h⟩ | ⟨a, rfl, h⟩
    · exact ⟨.odd "bool", .bl b, by rw [TG.neat]; trivial, by rw [TG.fits]; rfl⟩
    · exact ⟨.odd "NoneType", .non, by rw [TG.neat]; trivial, by rw [TG.fits]; rfl⟩
    · exact ⟨.odd "list", .lst h n, by rw [TG.neat]; trivial, by rw [TG.fits]; rfl⟩
    · refine ⟨.str x, .str x, by rw [TG.neat]; omega, ?_⟩
      rw [TG.fits, textOk, h]
      rfl
    · refine ⟨.int i, .int i, by rw [TG.neat]; trivial, ?_⟩
      rw [TG.fits]
      exact decide_eq_false (by omega)
    · refine ⟨.tup [.int 1, .int 2, .int 3, .int 4, .int 5], .tup h (.cons (.int 1) (.cons (.int 2) (.cons (.int 3) (.cons (.int 4) (.cons (.int 5) .nil))))), ?_, ?_⟩
      · rw [TG.neat]
        exact ⟨by decide, by simp [neatL, TG.neat]⟩
      · rw [TG.fits]
        rfl
abbrev OKP := Option KT × Option KT
def RowAt (N : Addr → Prop) (H : Hp) (r : OKP) (u : V) : Prop := ∃ a vk vv, u = .ref a ∧ H a = some (.tup [vk, vv]) ∧ Thg N H vk r.1 ∧ Thg N H vv r.2
theorem RowAt.mono {N : Addr → Prop} {H H' : Hp} {r : OKP} {u : V} (h : RowAt N H r u) (m : Keeps N H H') : RowAt N H' r u := by
  obtain ⟨a, vk, vv, e, h1, h2, h3⟩ := h
  exact ⟨a, vk, vv, e, m.tup _ _ h1, h2.mono m, h3.mono m⟩
/-- a row at H, its things at H0 -/
def RowT (N : Addr → Prop) (H0 H : Hp) (r : OKP) (u : V) : Prop := ∃ a vk vv, u = .ref a ∧ H a = some (.tup [vk, vv]) ∧ Thg N H0 vk r.1 ∧ Thg N H0 vv r.2
theorem RowT.mono {N : Addr → Prop} {H0 H H' : Hp} {r : OKP} {u : V} (h : RowT N H0 H r u) (m : Tups H H') : RowT N H0 H' r u := by
  obtain ⟨a, vk, vv, e, h1, h2⟩ := h
  exact ⟨a, vk, vv, e, m _ _ h1, h2⟩
theorem RowT.to {N : Addr → Prop} {H0 H : Hp} {r : OKP} {u : V} (h : RowT N H0 H r u) (m : Same H0 H) : RowAt N H r u := by
  obtain ⟨a, vk, vv, e, h1, h2, h3⟩ := h
  exact ⟨a, vk, vv, e, h1, h2.mono (Keeps.same m), h3.mono (Keeps.same m)⟩
abbrev RwAt (N : Addr → Prop) (H : Hp) : List OKP → List V → Prop := Paired (RowAt N H)
theorem RwAt.mono {N : Addr → Prop} {H H' : Hp} {rs : List OKP} {us : List V} (h : RwAt N H rs us) (m : Keeps N H H') : RwAt N H' rs us := Paired.mapP h fun _ _ z => z.mono m
section
variable {α β : Type} {F : α → β → Prop}
theorem Paired.app : ∀ {l l' : List α} {m m' : List β}, Paired F l m → Paired F l' m' → Paired F (l ++ l') (m ++ m')
  | _, _, _, _, .nil, s => s
  | _, _, _, _, .cons r t, s => .cons r (Paired.app t s)
theorem Paired.tk : ∀ {l : List α} {m : List β} (n : Nat), Paired F l m → Paired F (l.take n) (m.take n)
  | _, _, 0, _ => .nil
  | _, _, _ + 1, .nil => .nil
  | _, _, n + 1, .cons r t => .cons r (Paired.tk n t)
theorem Paired.dr : ∀ {l : List α} {m : List β} (n : Nat), Paired F l m → Paired F (l.drop n) (m.drop n)
  | _, _, 0, r => r
  | _, _, _ + 1, .nil => .nil
  | _, _, n + 1, .cons _ t => Paired.dr n t
theorem Paired.ix : ∀ {l : List α} {m : List β} {i : Nat} {u : β}, Paired F l m → m[i]? = some u → ∃ r, l[i]? = some r ∧ F r u
  | _, _, _, _, .nil, e => by simp at e
  | _, _, 0, _, .cons r _, e => by simp at e; subst e; exact ⟨_, rfl, r⟩
  | _, _, i + 1, u, .cons _ t, e => by
    obtain ⟨r, h1, h2⟩ := Paired.ix (i := i) (u := u) t (by simpa using e)
    exact ⟨r, by simpa using h1, h2⟩
end
def keysOf (rs : List OKP) : List KT := rs.map fun r => r.1.getD (.int 0)
def okR (rs : List OKP) : Bool := rs.all fun r => r.1.isSome && r.2.isSome
def riseL (ks : List KT) : Bool := ((List.range (ks.length - 1)).map fun j => (ks.getD j (.int 0)).lt (ks.getD (j + 1) (.int 0))).all id
/-- 0: a key is none, 1: no leaf, 2: told -/
def due (rs : List OKP) : Nat := if okR rs = true then (if 1 ≤ rs.length ∧ rs.length ≤ 4 ∧ riseL (keysOf rs) = true then 2 else 1) else 0
theorem keysOf_len (rs : List OKP) : (keysOf rs).length = rs.length := List.length_map ..
theorem row_keys {N : Addr → Prop} {H : Hp} {rs : List OKP} {us : List V} (h : RwAt N H rs us) (ok : okR rs = true) : RowsAt H (keysOf rs) us := by
  refine ⟨by rw [keysOf_len]; exact (Paired.length h).symm, fun i u e => ?_⟩
  obtain ⟨r, er, a, vk, vv, e1, e2, h1, h2⟩ := Paired.ix h e
  have o := List.all_eq_true.mp ok r (List.mem_of_getElem? er)
  rw [Bool.and_eq_true] at o
  obtain ⟨t, et⟩ := Option.isSome_iff_exists.mp o.1
  refine ⟨a, vk, vv, e1, e2, ?_⟩
  unfold keysOf
  rw [List.getD_eq_getElem?_getD, List.getElem?_map, er]
  show KeyAt H (r.1.getD (.int 0)) vk
  rw [et] at h1 ⊢
  exact h1.1
theorem row_fit {N : Addr → Prop} {H : Hp} {rs : List OKP} {us : List V} (h : RwAt N H rs us) (ok : okR rs = true) : ∀ t ∈ keysOf rs, t.fits 3 = true := by
  intro t ht
  obtain ⟨r, hr, rfl⟩ := List.mem_map.mp ht
  obtain ⟨i, hi⟩ := List.getElem?_of_mem hr
  have hl := Paired.length h
  have hi2 : i < us.length := by
    have := (List.getElem?_eq_some_iff.mp hi).1
    omega
  obtain ⟨r', er, a, vk, vv, e1, e2, h1, h2⟩ := Paired.ix h (List.getElem?_eq_getElem hi2)
  rw [hi] at er
  cases er
  have o := List.all_eq_true.mp ok r hr
  rw [Bool.and_eq_true] at o
  obtain ⟨t, et⟩ := Option.isSome_iff_exists.mp o.1
  rw [et] at h1 ⊢
  exact h1.2
section
variable {P : Program} {w : World} {K : PySem.W.Frag} {mg : Str → Option Value} {base : Heap} {f : Addr} {fd : FuncData}
/-! ### rise -/
def spRise : Sp := fun vs H Q _ => ∃ (l : Addr) (us : List V) (ks : List KT), vs = [.ref l] ∧ H l = some (.lst us) ∧ KeysAt H ks us ∧ (∀ t ∈ ks, t.fits 3 = true) ∧ us.length ≤ 100 ∧ ∀ H', Same H H' → Q (.bl (riseL ks)) H'
theorem scRise : FnScope ["keys"] ["keys"] (defScope sRise) := ⟨rfl, rfl, rfl, by decide +kernel, rfl, by decide +kernel, by decide +kernel⟩
theorem ok_rise (F : Fun K "rise" "rise" sRise f fd) (T : Txt mg) (DA : DefOk P w K mg base 7 "ahead" ["one", "other"] spAhead) : FnOk P w K mg base CX0 8 f fd ["keys"] spRise := by
  refine F.ok scRise (fun vs H Q E h => (by obtain ⟨_, _, _, rfl, _⟩ := h; rfl)) (fun cdv A outer s H vs Q E hr h => ?_)
  obtain ⟨l, us, ks, rfl, hl, hk, hf, h100, k⟩ := h
  have lk := hk.length
  refine ⟨_, pss_one (ps_ret (pe_callB (tw_all rfl) rfl T.all tb_all (pa_c (pe_comp [0] ["keys"] rfl (pi_range2 rfl T.range (pa_c pe_int (pa_c (pe_callB call_len_seq rfl T.len tb_len (pa_c (pv 0) pa_nil)) pa_nil))) (fun _ _ _ _ _ => pts_nil)
    (fun _ _ _ _ _ => pe_def DA hr (pa_c (pe_ix (r := rIx K) ix_seq (pv 1) (pe_op op_sub (pv 0) pe_int) (fun _ _ => rfl)) (pa_c (pe_ix (r := rIx K) ix_seq (pv 1) (pv 0) (fun _ _ => rfl)) pa_nil))) ⟨rfl, .inl rfl, rfl, trivial⟩) pa_nil))), ?_⟩
  refine ⟨_, rfl, l, us, rfl, .inl (SqL.of hl), 1, (us.length : Int), rfl, ⟨by omega, by omega, by omega, by omega⟩, ?_⟩
  refine comp_map (n := ((us.length : Int) - 1).toNat) (fun i x => x = .int (1 + (i : Int))) (fun D i ys H3 => Same H H3 ∧ H D = none ∧ ys = ((List.range i).map fun j => (ks.getD j (.int 0)).lt (ks.getD (j + 1) (.int 0))).map V.bl) (small1000 (by omega))
    (fun D i ys H3 hi _ => hi) (fun D i ys H3 x H4 hi _ hy => hy) (fun D ys H3 _ => Nat.le_refl _) (fun D hD => ⟨same_new hD _, hD, rfl⟩) (fun D i ys H3 x eD hl' hi hx hP R hR => ?_) (fun D ys H3 eD hP => ?_)
  · subst hx
    obtain ⟨s3, nD, rfl⟩ := hP
    have hi1 : i + 1 < us.length := by omega
    have ua : us[i]? = some (us[i]'(by omega)) := List.getElem?_eq_getElem (by omega)
    have ub : us[i + 1]? = some us[i + 1] := List.getElem?_eq_getElem hi1
    have e1 : (1 : Int) + (i : Int) = ((i + 1 : Nat) : Int) := by omega
    have e0 : (1 : Int) + (i : Int) - 1 = ((i : Nat) : Int) := by omega
    obtain ⟨a, ea, ka⟩ := hk.get ua
    obtain ⟨b, eb, kb⟩ := hk.get ub
    have hl3 := s3 _ _ hl
    refine ⟨_, rfl, _, rfl, _, _, rfl, rfl, .inl ⟨l, us, _, _, rfl, rfl, SqL.of hl3, (by rw [e0]; exact atI_nat ua), ?_⟩⟩
    refine ⟨_, rfl, _, rfl, .inl ⟨l, us, _, _, rfl, rfl, SqL.of hl3, (by rw [e1]; exact atI_nat ub), ?_⟩⟩
    refine ⟨_, _, a, b, rfl, ka.mono (Same.tups s3) _ _, kb.mono (Same.tups s3) _ _, hf a (List.mem_of_getElem? ea), hf b (List.mem_of_getElem? eb), fun H4 s4 => ?_⟩
    refine hR _ H4 (s4 D _ eD) ⟨fun b o e => by rw [upd_ne (ne_of_none e nD)]; exact s4 b o (s3 b o e), nD, ?_⟩
    rw [List.range_succ, List.map_append, List.map_append]
    congr 1
    show [V.bl (a.lt b)] = [V.bl ((ks.getD i (.int 0)).lt (ks.getD (i + 1) (.int 0)))]
    rw [List.getD_eq_getElem?_getD, List.getD_eq_getElem?_getD, ea, eb]
    rfl
  · obtain ⟨s3, nD, rfl⟩ := hP
    refine ⟨D, _, rfl, SqL.of eD, ?_⟩
    have e : ((us.length : Int) - 1).toNat = ks.length - 1 := by omega
    rw [e]
    exact k H3 s3
/-! ### checked_rows -/
def spChRows (CK CL : Addr) : Sp := fun vs H Q E => ∃ (l : Addr) (us : List V) (rs : List OKP) (N : Addr → Prop), vs = [.ref l] ∧ H l = some (.lst us) ∧ RwAt N H rs us ∧ us.length ≤ 100 ∧ ∀ H', Same H H' →
  (due rs = 0 → E (.ref CK) none H') ∧ (due rs = 1 → E (.ref CL) none H') ∧ ∀ (l' : Addr) (us' : List V), due rs = 2 → H l' = none → H' l' = some (.lst us') → RwAt N H' rs us' → Q (.ref l') H'
theorem scChRows : FnScope ["rows", "own"] ["rows"] (defScope sChRows) := ⟨rfl, rfl, rfl, by decide +kernel, rfl, by decide +kernel, by decide +kernel⟩
theorem due_bad {rs : List OKP} {r : OKP} {i : Nat} (e : rs[i]? = some r) (h : (r.1.isSome && r.2.isSome) = false) : due rs = 0 := by
  unfold due
  rw [if_neg fun z => ?_]
  have := List.all_eq_true.mp z r (List.mem_of_getElem? e)
  rw [h] at this
  cases this
def spOwnRows (CK : Addr) : Sp := fun vs H Q E => ∃ (l : Addr) (us : List V) (rs : List OKP) (N : Addr → Prop), vs = [.ref l] ∧ H l = some (.lst us) ∧ RwAt N H rs us ∧ us.length ≤ 100 ∧ ∀ H', Same H H' →
  (okR rs = false → E (.ref CK) none H') ∧ ∀ (l' : Addr) (us' : List V), okR rs = true → H l' = none → H' l' = some (.lst us') → RwAt N H' rs us' → Q (.ref l') H'
theorem okR_bad {rs : List OKP} {r : OKP} {i : Nat} (e : rs[i]? = some r) (h : (r.1.isSome && r.2.isSome) = false) : okR rs = false := by
  refine Bool.eq_false_iff.mpr fun z => ?_
  have := List.all_eq_true.mp z r (List.mem_of_getElem? e)
  rw [h] at this
  cases this
theorem due_no {rs : List OKP} (h : okR rs = false) : due rs = 0 := by
  unfold due
  rw [if_neg (by rw [h]; exact fun z => by cases z)]
theorem scOwnRows : FnScope ["rows"] ["rows"] (defScope sOwnRows) := ⟨rfl, rfl, rfl, by decide +kernel, rfl, by decide +kernel, by decide +kernel⟩
theorem ok_ownrows {CK : Addr} (F : Fun K "own_rows" "own_rows" sOwnRows f fd) (DC : DefX P w K mg base 7 "checked" ["thing"] (spChecked CK)) :
    FnOk P w K mg base (CXw P w) 8 f fd ["rows"] (spOwnRows CK) := by
  refine F.okX scOwnRows (fun vs H Q E h => (by obtain ⟨_, _, _, _, rfl, _⟩ := h; rfl)) (fun cdv A outer s H vs Q E hr h => ?_)
  obtain ⟨l, us, rs, N, rfl, hl, hk, h100, k⟩ := h
  have nd := scOwnRows.nd
  have lk := Paired.length hk
  refine ⟨_, pss_one (ps_ret (pe_compX (E1 := E) [] [] fnx_of (fun _ _ _ h => h) (pi_list (pv 0)) (fun _ _ _ _ _ => pts_nil)
      (fun _ _ _ _ _ hp => pe_tup (pa_c (pe_defX DC hr hp (pa_c (pe_ix (r := rIx K) ix_seq (pv 0) pe_int (fun _ _ => rfl)) pa_nil)) (pa_c (pe_defX DC hr hp (pa_c (pe_ix (r := rIx K) ix_seq (pv 0) pe_int (fun _ _ => rfl)) pa_nil)) pa_nil))) trivial)), ?_⟩
  refine ⟨_, rfl, l, rfl, ⟨us, SqL.of hl⟩, ?_⟩
  refine comp_map (n := us.length) (fun i z => us[i]? = some z) (fun D i ys H3 => Same H H3 ∧ H D = none ∧ Paired (RowT N H H3) (rs.take i) ys ∧ okR (rs.take i) = true) (small1000 (by omega))
    (fun D i ys H3 hi hP => ⟨us, us[i], SqL.of (hP.1 _ _ hl), by simp [hi]⟩) (fun D i ys H3 z H4 hi hP hy => ⟨hy.1, hy.2 us (SqL.of (hP.1 _ _ hl))⟩) (fun D ys H3 hP => ⟨us, SqL.of (hP.1 _ _ hl), Nat.le_refl _⟩)
    (fun D hD => ⟨same_new hD _, hD, .nil, rfl⟩) (fun D i ys H3 z eD hl' hi hz hP R hR => ?_) (fun D ys H3 eD hP => ?_)
  · obtain ⟨s3, nD, hys, hok⟩ := hP
    obtain ⟨r, er, a, vk, vv, e1, e2, h1, h2⟩ := Paired.ix hk hz
    subst e1
    have e3 := s3 _ _ e2
    obtain ⟨g1, tg1, ng1, fg1⟩ := (h1.mono (Keeps.same s3)).tg
    refine ⟨_, rfl, .inr (.inl ⟨a, _, _, vk, rfl, rfl, SqT.of e3, rfl, vk, g1, N, rfl, tg1, ng1, fun hf1 H4 s4 => ?_, fun hf1 H4 s4 => (k H4 (s3.trans s4)).1 (okR_bad er (by rw [← fg1, hf1]; rfl))⟩)⟩
    obtain ⟨g2, tg2, ng2, fg2⟩ := (h2.mono (Keeps.same (s3.trans s4))).tg
    refine ⟨_, rfl, .inr (.inl ⟨a, _, _, vv, rfl, rfl, SqT.of (s4 _ _ e3), rfl, vv, g2, N, rfl, tg2, ng2, fun hf2 H5 s5 => ?_, fun hf2 H5 s5 => (k H5 ((s3.trans s4).trans s5)).1 (okR_bad er (by rw [← fg2, hf2, Bool.and_false]))⟩)⟩
    refine ⟨nn (Nat.le_of_ble_eq_true rfl), fun q hq => ?_⟩
    have g := same_new hq (.tup [vk, vv])
    have s345 := (s4.trans s5).trans g
    have eD6 := s345 _ _ eD
    have tD : Same H (upd (upd H5 q (.tup [vk, vv])) D (.lst (ys ++ [.ref q]))) := fun b o e => by rw [upd_ne (ne_of_none e nD)]; exact s345 b o (s3 b o e)
    have tT : Tups H3 (upd (upd H5 q (.tup [vk, vv])) D (.lst (ys ++ [.ref q]))) := fun b xs e => by rw [upd_ne (ne_of (s345 _ _ e) eD6 (by intro z; cases z))]; exact s345 _ _ e
    refine hR _ _ eD6 ⟨tD, nD, ?_, ?_⟩
    · rw [List.take_add_one, er]
      refine Paired.app ?_ (.cons ⟨q, vk, vv, rfl, ?_, h1, h2⟩ .nil)
      · exact Paired.mapP hys fun _ _ z => z.mono tT
      · have qD : q ≠ D := fun z => by
          rw [z] at hq
          rw [(s4.trans s5) _ _ eD] at hq
          cases hq
        rw [upd_ne qD]; exact upd_same
    · rw [List.take_add_one, er]
      unfold okR at hok ⊢
      rw [List.all_append, hok]
      show (true && ((r.1.isSome && r.2.isSome) && true)) = true
      rw [← fg1, ← fg2, hf1, hf2]
      rfl
  · obtain ⟨s3, nD, hys, hok⟩ := hP
    rw [List.take_of_length_le (by omega)] at hys hok
    exact (k H3 s3).2 D ys hok nD eD (Paired.mapP hys fun _ _ z => z.to s3)
theorem ok_chrows {CB CK CL CS CT CH CD : Addr} (F : Fun K "checked_rows" "checked_rows" sChRows f fd) (kin : K.In base) (T : Txt mg) (L : Cl K mg CB CK CL CS CT CH CD) (DC : DefX P w K mg base 8 "own_rows" ["rows"] (spOwnRows CK)) (DR : DefOk P w K mg base 8 "rise" ["keys"] spRise) :
    FnOk P w K mg base (CXw P w) 9 f fd ["rows"] (spChRows CK CL) := by
  refine F.okX scChRows (fun vs H Q E h => (by obtain ⟨_, _, _, _, rfl, _⟩ := h; rfl)) (fun cdv A outer s H vs Q E hr h => ?_)
  obtain ⟨l, us, rs, N, rfl, hl, hk, h100, k⟩ := h
  have nd := scChRows.nd
  have hr7 := hr.mono (show 7 ≤ 8 by omega)
  have lk := Paired.length hk
  obtain ⟨t4, m4⟩ := T.rows
  refine ⟨_, pss_cons (ps_set (i := 1) nd rfl (Or.inl rfl) (pe_defX DC hr (passes_fn (E1 := E) fnx_of fun _ _ _ h => h) (pa_c (pv 0) pa_nil)))
    (pss_cons (ps_if (PW.pt (pw_or (pt_not (pt_chain op_le op_le pe_int (pe_callB call_len_seq rfl T.len tb_len (pa_c (pv 1) pa_nil)) (pe_glob (v := .int 4) rfl m4 ⟨_, rfl⟩)))
      (pw_or1 (pt_not (pt_val (pe_def DR hr (pa_c (pe_comp [] [] rfl (pi_list (pv 1)) (fun _ _ _ _ _ => pts_nil) (fun _ _ _ _ _ => pe_ix (r := rIx K) ix_seq (pv 0) pe_int (fun _ _ => rfl)) trivial) pa_nil))))))) (pss_one (ps_raise0 fnx_of (own_of kin L.leaf L.xl.exk) rfl)) pss_nil)
    (pss_one (ps_ret (pv 1)))), ?_⟩
  refine ⟨_, rfl, l, us, rs, N, rfl, hl, hk, h100, fun H3 s3 => ⟨fun e => (k H3 s3).1 (due_no e), fun D ys hok nD eD hrw => ?_⟩⟩
  · have ly := Paired.length hrw
    refine ⟨_, rfl, D, ys, rfl, .inl (SqL.of eD), _, _, rfl, rfl, _, rfl, ?_⟩
    have no : ¬ (1 ≤ rs.length ∧ rs.length ≤ 4 ∧ riseL (keysOf rs) = true) → due rs = 1 := fun z => by unfold due; rw [if_pos hok, if_neg z]
    rcases Nat.lt_or_ge ys.length 1 with h2 | h2
    · rw [decide_eq_false (show ¬ (1 : Int) ≤ (ys.length : Int) by omega)]
      refine iteF ⟨_, rfl, iteT (iteT ?_)⟩
      exact (k H3 s3).2.1 (no (by omega))
    rw [decide_eq_true (show (1 : Int) ≤ (ys.length : Int) by omega)]
    refine iteT ⟨_, _, rfl, rfl, _, rfl, ?_⟩
    rcases Nat.lt_or_ge 4 ys.length with h4 | h4
    · rw [decide_eq_false (show ¬ (ys.length : Int) ≤ 4 by omega)]
      refine iteT (iteT ?_)
      exact (k H3 s3).2.1 (no (by omega))
    rw [decide_eq_true (show (ys.length : Int) ≤ 4 by omega)]
    refine iteF ?_
    refine ⟨_, rfl, D, rfl, ⟨ys, SqL.of eD⟩, ?_⟩
    have hrk := row_keys hrw hok
    refine comp_map (n := ys.length) (fun i z => ys[i]? = some z) (fun D2 i zs H4 => Same H3 H4 ∧ H3 D2 = none ∧ KeysAt H3 ((keysOf rs).take i) zs) (small1000 (by omega))
      (fun D2 i zs H4 hi hP => ⟨ys, ys[i], SqL.of (hP.1 _ _ eD), by simp [hi]⟩) (fun D2 i zs H4 z H5 hi hP hy => ⟨hy.1, hy.2 ys (SqL.of (hP.1 _ _ eD))⟩) (fun D2 zs H4 hP => ⟨ys, SqL.of (hP.1 _ _ eD), Nat.le_refl _⟩)
      (fun D2 hD2 => ⟨same_new hD2 _, hD2, .nil⟩) (fun D2 i zs H4 z eD2 hl2 hi hz hP R hR => ?_) (fun D2 zs H4 eD2 hP => ?_)
    · obtain ⟨s4, nD2, hzs⟩ := hP
      obtain ⟨a, vk, vv, e1, e2, e3⟩ := hrk.2 i _ hz
      subst e1
      refine ⟨_, rfl, .inr (.inl ⟨a, _, _, vk, rfl, rfl, SqT.of (s4 _ _ e2), rfl, ?_⟩)⟩
      refine hR _ H4 eD2 ⟨fun b o e => by rw [upd_ne (ne_of_none e nD2)]; exact s4 b o e, nD2, ?_⟩
      have hi2 : i < (keysOf rs).length := by rw [keysOf_len]; omega
      rw [List.take_add_one, List.getElem?_eq_getElem hi2]
      refine hzs.append (.cons ?_ .nil)
      rw [List.getD_eq_getElem?_getD, List.getElem?_eq_getElem hi2] at e3
      exact e3
    · obtain ⟨s4, nD2, hzs⟩ := hP
      rw [List.take_of_length_le (by rw [keysOf_len]; omega)] at hzs
      have lz := hzs.length
      rw [keysOf_len] at lz
      refine ⟨D2, zs, keysOf rs, rfl, eD2, hzs.mono (Same.tups s4) _ _, row_fit hrw hok, by omega, fun H5 s5 => ⟨_, rfl, ?_⟩⟩
      have s345 := (s3.trans s4).trans s5
      cases hc : riseL (keysOf rs) with
      | false =>
        refine iteT ?_
        exact (k H5 s345).2.1 (no (by rw [hc]; simp))
      | true =>
        refine iteF ?_
        refine ⟨_, rfl, (k H5 s345).2.2 D ys ?_ nD ((s4.trans s5) _ _ eD) (hrw.mono (Keeps.same (s4.trans s5)))⟩
        unfold due
        rw [if_pos hok, if_pos ⟨by omega, by omega, hc⟩]
end
end Tw
set_option Elab.async false
set_option linter.all false
set_option maxRecDepth 100000
set_option maxHeartbeats 8000000
namespace Tw
open PySem PySem.Spec L2
/-! every text in it is long or of good signs -/
mutual
def TG.clean : TG → Prop
  | .int _ => True
  | .str x => 40 < x.length ∨ x.cps.toList.all signOk = true
  | .tup l => cleanL l
  | .odd _ => True
def cleanL : List TG → Prop
  | [] => True
  | t :: l => t.clean ∧ cleanL l
end
theorem cleanL_mem : ∀ {l : List TG} {t : TG}, cleanL l → t ∈ l → t.clean
  | [], _, _, h => by cases h
  | u :: l, t, h, hm => by
    rw [cleanL] at h
    rcases List.mem_cons.mp hm with e | e
    · rw [e]; exact h.1
    · exact cleanL_mem h.2 e
mutual
theorem emb_clean : ∀ (t : KT) (r : Nat), t.fits r = true → t.emb.clean
  | .int i, r, _ => by rw [KT.emb, TG.clean]; trivial
  | .str x, r, h => by
    rw [KT.fits] at h
    rw [KT.emb, TG.clean]
    exact .inr (text_of h).2
  | .tup l, r, h => by
    rw [KT.fits, Bool.and_eq_true, Bool.and_eq_true] at h
    rw [KT.emb, TG.clean]
    exact embL_clean l (r - 1) h.2.2
theorem embL_clean : ∀ (l : List KT) (r : Nat), fitsL l r = true → cleanL (embL l)
  | [], r, _ => by rw [embL, cleanL]; trivial
  | t :: l, r, h => by
    rw [fitsL, Bool.and_eq_true] at h
    rw [embL, cleanL]
    exact ⟨emb_clean t r h.1, embL_clean l r h.2⟩
end
theorem Thg.tgc {N : Addr → Prop} {H : Hp} {v : V} {o : Option KT} (h : Thg N H v o) : ∃ g : TG, ThAt N H g v ∧ g.neat ∧ g.clean ∧ g.fits 3 = o.isSome := by
  cases o with
  | some t => exact ⟨t.emb, th_key t v h.1, emb_neat t 3 h.2, emb_clean t 3 h.2, by rw [emb_fits]; exact h.2⟩
  | none =>
    rcases h with ⟨b, rfl⟩ | rfl | ⟨a, xs, rfl, h, n⟩ | ⟨x, rfl, h⟩ | ⟨i, rfl, h⟩ | ⟨a, rfl, h⟩
    · exact ⟨.odd "bool", .bl b, by rw [TG.neat]; trivial, by rw [TG.clean]; trivial, by rw [TG.fits]; rfl⟩
    · exact ⟨.odd "NoneType", .non, by rw [TG.neat]; trivial, by rw [TG.clean]; trivial, by rw [TG.fits]; rfl⟩
    · exact ⟨.odd "list", .lst h n, by rw [TG.neat]; trivial, by rw [TG.clean]; trivial, by rw [TG.fits]; rfl⟩
    · refine ⟨.str x, .str x, by rw [TG.neat]; omega, by rw [TG.clean]; exact .inl (by omega), ?_⟩
      rw [TG.fits, textOk, h]
      rfl
    · refine ⟨.int i, .int i, by rw [TG.neat]; trivial, by rw [TG.clean]; trivial, ?_⟩
      rw [TG.fits]
      exact decide_eq_false (by omega)
    · refine ⟨.tup [.int 1, .int 2, .int 3, .int 4, .int 5], .tup h (.cons (.int 1) (.cons (.int 2) (.cons (.int 3) (.cons (.int 4) (.cons (.int 5) .nil))))), ?_, ?_, ?_⟩
      · rw [TG.neat]
        exact ⟨by decide, by simp [neatL, TG.neat]⟩
      · simp [TG.clean, cleanL]
      · rw [TG.fits]
        rfl
def spLKey (n : Nat) : Sp := fun vs H Q _ => ∃ (v : V) (t : TG) (N : Addr → Prop) (r : Nat), vs = [v, .int (r : Int)] ∧ ThAt N H t v ∧ t.neat ∧ t.clean ∧ r < n ∧ ∀ H', Same H H' → Q (.bl (t.fits r)) H'
theorem not_false_in (bs : List Bool) : (!inV (.bl false) (bs.map V.bl)) = bs.all id := by
  induction bs with
  | nil => rfl
  | cons b l ih =>
    rw [List.all_cons, ← ih]
    unfold inV
    rw [List.map_cons, List.any_cons]
    cases b with
    | true =>
      have e : eqV (.bl true) (.bl false) = false := by decide +kernel
      rw [e]; rfl
    | false =>
      have e : eqV (.bl false) (.bl false) = true := by decide +kernel
      rw [e]; rfl
section
variable {P : Program} {w : World} {K : PySem.W.Frag} {mg : Str → Option Value} {base : Heap} {f : Addr} {fd : FuncData}
/-! ### _law_is_key -/
theorem scLKey : FnScope ["_law_thing", "_law_room"] ["_law_thing", "_law_room"] (defScope sLIsKey) := ⟨rfl, rfl, rfl, by decide +kernel, rfl, by decide +kernel, by decide +kernel⟩
theorem ok_lkey {n : Nat} (F : Fun K "_law_is_key" "_law_is_key" sLIsKey f fd) (T : Txt mg) (DF : DefOk P w K mg base (n + 1) "_law_is_key" ["_law_thing", "_law_room"] (spLKey n)) :
    FnOk P w K mg base CX0 (n + 2) f fd ["_law_thing", "_law_room"] (spLKey (n + 1)) := by
  refine F.ok scLKey (fun vs H Q E h => ?_) (fun cdv A outer s H vs Q E hr h => ?_)
  · obtain ⟨v, t, N, r, rfl, _⟩ := h
    rfl
  obtain ⟨v, t, N, r, rfl, hv, hq, hcl, hn, k⟩ := h
  refine ⟨_, pss_cons (ps_if (pt_val (pe_callB tw_isinst rfl T.isi tb_isinstance (pa_cons (pv 0) (pa_cons (pe_bltn (v := .ty "bool") rfl T.bool tb_bool rfl) pa_nil)))) (pss_one (ps_ret pe_bl)) pss_nil)
    (pss_cons (ps_if (pt_val (pe_callB tw_isinst rfl T.isi tb_isinstance (pa_cons (pv 0) (pa_cons (pe_bltn (v := .ty "int") rfl T.int tb_int rfl) pa_nil))))
      (pss_one (ps_ret (pe_chain op_lt op_lt (pe_un un_neg (pe_op op_pow pe_int pe_int)) (pv 0) (pe_op op_pow pe_int pe_int)))) pss_nil)
    (pss_cons (ps_if (pt_val (pe_callB tw_isinst rfl T.isi tb_isinstance (pa_cons (pv 0) (pa_cons (pe_bltn (v := .ty "str") rfl T.str tb_str rfl) pa_nil))))
      (pss_one (ps_ret (pe_cmpR op_le (pe_callB call_len_str rfl T.len tb_len (pa_cons (pv 0) pa_nil)) pe_int (nomark _)))) pss_nil)
    (pss_cons (ps_if (PW.pt (pw_or (pt_not (pt_val (pe_callB tw_isinst rfl T.isi tb_isinstance (pa_cons (pv 0) (pa_cons (pe_bltn (v := .ty "tuple") rfl T.tuple tb_tuple rfl) pa_nil)))))
      (pw_or (pt_cmpR op_eq (pv 1) pe_int (nomark _)) (pw_or1 (pt_cmpR op_gt (pe_callB call_len_seq rfl T.len tb_len (pa_cons (pv 0) pa_nil)) pe_int (nomark _)))))) (pss_one (ps_ret pe_bl)) pss_nil)
    (pss_one (ps_ret (pe_cmpR op_notIn_seq pe_bl (pe_comp [1] ["_law_room"] rfl (pi_tup (pv 0)) (fun _ _ _ _ _ => pts_nil) (fun _ _ _ _ _ => pe_def DF hr (pa_cons (pv 0) (pa_cons (pe_op op_sub (pv 1) pe_int) pa_nil))) ⟨rfl, .inl rfl, rfl, trivial⟩) rfl)))))), ?_⟩
  cases t with
  | int i =>
    have ev : v = .int i := by rw [ThAt] at hv; exact hv
    subst ev
    refine ⟨_, rfl, _, _, _, _, rfl, .int i, kit_ib, _, rfl, iteF ?_⟩
    refine ⟨_, rfl, _, _, _, _, rfl, .int i, kit_ii, _, rfl, iteT ?_⟩
    have kk := k H (Same.refl H)
    rw [TG.fits] at kk
    have e : ((10 : Int) ^ (60 : Int).toNat) = ((10 ^ 60 : Nat) : Int) := by decide +kernel
    refine ⟨_, _, rfl, rfl, ⟨by decide, by decide, by decide⟩, _, rfl, _, rfl, _, _, rfl, rfl, _, rfl, ?_⟩
    refine ite2 (fun c => ?_) (fun c => ?_)
    · refine ⟨_, _, rfl, rfl, ⟨by decide, by decide, by decide⟩, _, _, rfl, rfl, ?_⟩
      have c' := of_decide_eq_true c
      show Q (.bl (decide (i < 10 ^ (60 : Int).toNat))) H
      rw [e] at c' ⊢
      generalize (10 ^ 60 : Nat) = M at *
      have e2 : decide (i.natAbs < M) = decide (i < (M : Int)) := decide_eq_decide.mpr (by omega)
      rw [← e2]
      exact kk
    · rw [e] at c
      generalize (10 ^ 60 : Nat) = M at *
      have c' : ¬ (-(M : Int) < i) := fun z => c (decide_eq_true z)
      rw [decide_eq_false (by omega)] at kk
      exact kk
  | str x =>
    have ev : v = .str x := by rw [ThAt] at hv; exact hv
    subst ev
    have hlen : x.length ≤ 1000 := by rw [TG.neat] at hq; exact hq
    refine ⟨_, rfl, _, _, _, _, rfl, .str x, kit_sb, _, rfl, iteF ?_⟩
    refine ⟨_, rfl, _, _, _, _, rfl, .str x, kit_si, _, rfl, iteF ?_⟩
    refine ⟨_, rfl, _, _, _, _, rfl, .str x, kit_ss, _, rfl, iteT ?_⟩
    refine ⟨_, rfl, x, rfl, nn hlen, _, _, rfl, rfl, ?_⟩
    show Q (.bl (decide ((x.length : Int) ≤ 40))) H
    have kk := k H (Same.refl H)
    rw [TG.fits] at kk
    unfold textOk at kk
    rw [TG.clean] at hcl
    rcases Nat.lt_or_ge 40 x.length with z | z
    · rw [decide_eq_false (show ¬ x.length ≤ 40 by omega), Bool.false_and] at kk
      rw [decide_eq_false (show ¬ (x.length : Int) ≤ 40 by omega)]
      exact kk
    · rw [decide_eq_true (show x.length ≤ 40 from z), Bool.true_and, hcl.resolve_left (by omega)] at kk
      rw [decide_eq_true (show (x.length : Int) ≤ 40 by omega)]
      exact kk
  | tup l =>
    rw [ThAt] at hv
    obtain ⟨a, vs, rfl, ea, hvs⟩ := hv
    have hl := hvs.length
    rw [TG.neat] at hq
    obtain ⟨hq1, hq2⟩ := hq
    rw [TG.clean] at hcl
    have ty : TyOf K H (.ref a) (.type "tuple") := .tup ea
    have no : ¬ 0 < r ∨ ¬ l.length ≤ 4 → Q (.bl false) H := fun z => by
      have kk := k H (Same.refl H)
      rcases z with z | z
      · rw [TG.fits, decide_eq_false z, Bool.false_and] at kk
        exact kk
      · rw [TG.fits, decide_eq_false z, Bool.false_and, Bool.and_false] at kk
        exact kk
    refine ⟨_, rfl, _, _, _, _, rfl, ty, kit_tb, _, rfl, iteF ?_⟩
    refine ⟨_, rfl, _, _, _, _, rfl, ty, kit_ti, _, rfl, iteF ?_⟩
    refine ⟨_, rfl, _, _, _, _, rfl, ty, kit_ts, _, rfl, iteF ?_⟩
    refine ⟨_, rfl, _, _, _, _, rfl, ty, kit_tt, _, rfl, iteF ?_⟩
    refine ⟨_, rfl, rfl, _, rfl, ?_⟩
    refine ite2 (fun c1 => iteT ?_) (fun c1 => ?_)
    · have c1' := vint_inj (of_decide_eq_true c1)
      exact no (.inl (by omega))
    have r0 : 0 < r := by
      rcases Nat.eq_zero_or_pos r with z | z
      · subst z; exact absurd (decide_eq_true rfl) c1
      · exact z
    refine ⟨_, rfl, a, vs, rfl, .inr (SqT.of ea), _, _, rfl, rfl, _, rfl, ?_⟩
    refine ite2 (fun c2 => ?_) (fun c2 => ?_)
    · have c2' := of_decide_eq_true c2
      exact no (.inr (by omega))
    have l4 : l.length ≤ 4 := by
      rcases Nat.lt_or_ge 4 l.length with z | z
      · exact absurd (decide_eq_true (by omega)) c2
      · exact z
    refine ⟨_, rfl, a, rfl, ⟨vs, SqT.of ea⟩, ?_⟩
    refine comp_map (n := vs.length) (fun i z => vs[i]? = some z) (fun D i ys H3 => Same H H3 ∧ H D = none ∧ ys = ((l.take i).map fun t => t.fits (r - 1)).map V.bl) (small1000 (by omega))
      (fun D i ys H3 hi hP => ⟨vs, vs[i], SqT.of (hP.1 _ _ ea), by simp [hi]⟩) (fun D i ys H3 z H4 hi hP hy => ⟨hy.1, hy.2 vs (SqT.of (hP.1 _ _ ea))⟩) (fun D ys H3 hP => ⟨vs, SqT.of (hP.1 _ _ ea), Nat.le_refl _⟩)
      (fun D hD => ⟨same_new hD _, hD, rfl⟩) (fun D i ys H3 z eD hl' hi hz hP R hR => ?_) (fun D ys H3 eD hP => ?_)
    · obtain ⟨s3, nD, rfl⟩ := hP
      obtain ⟨t, et, kt⟩ := hvs.get hz
      have er : (r : Int) - 1 = ((r - 1 : Nat) : Int) := by omega
      refine ⟨_, rfl, _, rfl, _, _, rfl, rfl, z, t, N, r - 1, congrArg (fun y => [z, V.int y]) er, kt.mono (Keeps.same s3) _ _, neatL_mem hq2 (List.mem_of_getElem? et), cleanL_mem hcl (List.mem_of_getElem? et), by omega, fun H4 s4 => ?_⟩
      refine hR _ H4 (s4 D _ eD) ⟨fun b o e => by rw [upd_ne (ne_of_none e nD)]; exact s4 b o (s3 b o e), nD, ?_⟩
      rw [List.take_add_one, et]
      simp
    · obtain ⟨s3, nD, rfl⟩ := hP
      refine ⟨D, _, rfl, .inl (SqL.of eD), rfl, ?_, ?_⟩
      · rw [List.all_map, List.all_map]
        exact List.all_eq_true.mpr fun _ _ => rfl
      · have kk := k H3 s3
        rw [TG.fits, decide_eq_true r0, Bool.true_and, decide_eq_true l4, Bool.true_and, gfitsL_all] at kk
        have et : l.take vs.length = l := List.take_of_length_le (by omega)
        rw [et, if_pos rfl, not_false_in, List.all_map]
        exact kk
  | odd n' =>
    rw [ThAt] at hv
    have ty : TyOf K H v (.type n') := hv.ty
    obtain ⟨b, kb, kr⟩ := kit_odd (K := K) hv
    have kk := k H (Same.refl H)
    rw [TG.fits] at kk
    cases b with
    | true => exact ⟨_, rfl, _, _, _, _, rfl, ty, kb, _, rfl, iteT kk⟩
    | false =>
      obtain ⟨k1, k2, k3⟩ := kr rfl
      refine ⟨_, rfl, _, _, _, _, rfl, ty, kb, _, rfl, iteF ?_⟩
      refine ⟨_, rfl, _, _, _, _, rfl, ty, k1, _, rfl, iteF ?_⟩
      refine ⟨_, rfl, _, _, _, _, rfl, ty, k2, _, rfl, iteF ?_⟩
      exact ⟨_, rfl, _, _, _, _, rfl, ty, k3, _, rfl, iteT (iteT kk)⟩
theorem all_lkey (T : Txt mg) (L : Laid K mg "_law_is_key" sLIsKey ["_law_thing", "_law_room"]) : ∀ n : Nat, DefOk P w K mg base (n + 1) "_law_is_key" ["_law_thing", "_law_room"] (spLKey n)
  | 0 => L.of fun _ _ _ => sp_none fun vs H Q E h => by obtain ⟨v, t, N, r, _, _, _, _, h1, _⟩ := h; omega
  | n + 1 => L.of fun _ _ F => ok_lkey F T (all_lkey T L n)
end
end Tw
set_option Elab.async false
set_option linter.all false
set_option maxRecDepth 100000
set_option maxHeartbeats 8000000
namespace Tw
open PySem PySem.Spec L2 PyProof.Rows
theorem tb_ValueError : bootBuiltins "ValueError" = some (.type "ValueError") := by decide +kernel
section
variable {P : Program} {w : World} {K : PySem.W.Frag} {mg : Str → Option Value} {base : Heap} {f : Addr} {fd : FuncData}
/-! ### _law_asked -/
def spAsked (P : Program) (w : World) (K : PySem.W.Frag) (mg : Str → Option Value) (base : Heap) (CK CL : Addr) : Sp := fun vs H Q _ => ∃ (f : Addr) (fd fd' : FuncData) (spL : Sp), vs = [.ref f] ∧ FnOk P w K mg base (CXw P w) 12 f fd [] spL ∧ (∀ s, BindsTo s fd ⟨[], []⟩ []) ∧
  H f = some (ObjO f { cls := .type "function", data := .func fd' }) ∧
  ∀ (Q' : VK) (E' : XK), (∀ v H2, (∀ t : Addr, H2 t = none → Q (.ref t) (upd H2 t (.tup [.str "told", v]))) → Q' v H2) →
    (∀ cls o H2, ((cls = .ref CK ∧ ∀ H3 t, Same H2 H3 → H3 t = some (.tup [.str "key"]) → Q (.ref t) H3) ∨ (cls = .ref CL ∧ ∀ H3 t, Same H2 H3 → H3 t = some (.tup [.str "leaf"]) → Q (.ref t) H3)) → E' cls o H2) → spL [] H Q' E'
abbrev nAsked : List Str := ["_law_call", "_law_found", "e", "_law_flags", "_law_at"]
theorem scAsked : FnScope nAsked ["_law_call"] (defScope sAsked) := ⟨rfl, rfl, rfl, by decide +kernel, rfl, by decide +kernel, by decide +kernel⟩
theorem ok_asked {CB CK CL CS CT CH CD : Addr} (F : Fun K "_law_asked" "_law_asked" sAsked f fd) (T : Txt mg) (L : Cl K mg CB CK CL CS CT CH CD) : FnOk P w K mg base CX0 13 f fd ["_law_call"] (spAsked P w K mg base CK CL) := by
  refine F.ok scAsked (fun vs H Q E h => (by obtain ⟨_, _, _, _, rfl, _⟩ := h; rfl)) (fun cdv A outer s H vs Q E hr h => ?_)
  obtain ⟨g, gd, gd', spL, rfl, FL, bL, hg, hsp⟩ := h
  have nd := scAsked.nd
  refine ⟨_, pss_cons (ps_set (i := 1) nd rfl (Or.inl rfl) pe_non)
    (pss_cons (ps_tryLam (i := 2) (j := 1) (q := 0) FL hr bL rfl (Or.inl rfl) rfl rfl rfl rfl L.base nd rfl rfl L.ty L.mB
      (fun ea E' => pss_cons (ps_set (i := 3) nd rfl (Or.inl rfl) (pe_lst (pa4 (pe_callB (r := rIsiX K) isi_x rfl T.isi tb_isinstance (pa_c (pv 2) (pa_c (pe_glob (v := .ref CK) rfl L.key rfl) pa_nil))) (pe_callB (r := rIsiX K) isi_x rfl T.isi tb_isinstance (pa_c (pv 2) (pa_c (pe_glob (v := .ref CL) rfl L.leaf rfl) pa_nil)))
          (pe_callB (r := rIsiX K) isi_x rfl T.isi tb_isinstance (pa_c (pv 2) (pa_c (pe_glob (v := .ref CS) rfl L.stem rfl) pa_nil))) (pe_callB (r := rIsiX K) isi_x rfl T.isi tb_isinstance (pa_c (pv 2) (pa_c (pe_glob (v := .ref CT) rfl L.twig rfl) pa_nil))))))
        (pss_cons (ps_set (i := 3) nd rfl (Or.inl rfl) (pe_op op_cat (pv 3) (pe_lst (pa_c (pe_callB (r := rIsiX K) isi_x rfl T.isi tb_isinstance (pa_c (pv 2) (pa_c (pe_glob (v := .ref CH) rfl L.held rfl) pa_nil))) (pa_c (pe_callB (r := rIsiX K) isi_x rfl T.isi tb_isinstance (pa_c (pv 2) (pa_c (pe_glob (v := .ref CD) rfl L.shar rfl) pa_nil))) pa_nil)))))
        (pss_cons (ps_if (PW.pt (pw_or (pt_cmpR op_ne (pe_count (K := K) (pv 3)) pe_int (nomark _))
          (pw_or1 (pt_not (pt_val (pe_callB (r := rIsiX K) isi_x rfl T.isi tb_isinstance (pa_c (pv 2) (pa_c (pe_bltn (v := .ty "ValueError") rfl T.ValueError tb_ValueError rfl) pa_nil)))))))) pss_never pss_nil)
        (pss_cons (ps_set (i := 4) nd rfl (Or.inl rfl) (pe_index (K := K) (pv 3)))
        (pss_cons (ps_if (pt_cmpR op_lt (pv 4) pe_int (nomark _)) (pss_one (ps_ret (pe_tup (pa_c (pe_ix (r := rIx K) ix_seq (pe_lst (pa3 pe_str pe_str pe_str)) (pv 4) (fun _ _ => rfl)) pa_nil)))) pss_nil)
        (pss_one ps_never)))))) rfl rfl)
    (pss_one (ps_ret (pe_tup (pa_c pe_str (pa_c (pv 1) pa_nil)))))), ?_⟩
  refine ⟨rfl, ⟨gd', hg⟩, ?_⟩
  refine hsp _ _ (fun v H2 k2 => ?_) fun cls o H2 k2 => ?_
  · exact ⟨_, rfl, nn (Nat.le_of_ble_eq_true rfl), fun t ht => k2 t ht⟩
  · rcases k2 with ⟨rfl, k3⟩ | ⟨rfl, k3⟩
    · refine ⟨CK, rfl, L.xk.sub, fun ea hea => ?_⟩
      have g1 := same_new hea (ExcO ea CK)
      refine ⟨_, rfl, ea, CK, _, _, rfl, upd_same, L.xk.exc, rfl, L.kk, _, rfl, ea, CK, _, _, rfl, upd_same, L.xk.exc, rfl, L.kl, _, rfl, ea, CK, _, _, rfl, upd_same, L.xk.exc, rfl, L.ks, _, rfl, ea, CK, _, _, rfl, upd_same, L.xk.exc, rfl, L.kt, nn (Nat.le_of_ble_eq_true rfl), fun l1 hl1 => ?_⟩
      have g2 := same_new hl1 (.lst [.bl true, .bl false, .bl false, .bl false])
      have e2 := g2 _ _ (upd_same (H := H2) (a := ea) (o := ExcO ea CK))
      refine ⟨_, rfl, _, rfl, ea, CK, _, _, rfl, e2, L.xk.exc, rfl, L.kh, _, rfl, ea, CK, _, _, rfl, e2, L.xk.exc, rfl, L.kd, nn (Nat.le_of_ble_eq_true rfl), fun l2 hl2 => ?_⟩
      have g3 := same_new hl2 (.lst [.bl false, .bl false])
      refine ⟨l1, l2, _, _, rfl, rfl, g3 _ _ upd_same, upd_same, nn (Nat.le_of_ble_eq_true rfl), fun p hp => ?_⟩
      have g4 := same_new hp (.lst ([V.bl true, .bl false, .bl false, .bl false] ++ [.bl false, .bl false]))
      have e4 := g4 _ _ (g3 _ _ e2)
      have sm := ((g1.trans g2).trans g3).trans g4
      generalize hH4 : upd (upd (upd (upd H2 ea (ExcO ea CK)) l1 (.lst [.bl true, .bl false, .bl false, .bl false])) l2 (.lst [.bl false, .bl false])) p (.lst ([V.bl true, .bl false, .bl false, .bl false] ++ [.bl false, .bl false])) = H4 at e4 sm ⊢
      have ep : H4 p = some (.lst (([true, false, false, false, false, false] : List Bool).map V.bl)) := by rw [← hH4]; exact upd_same
      refine ⟨_, rfl, .inl ⟨rfl, _, SqL.of ep⟩, p, _, rfl, rfl, ep, rfl, _, rfl, iteNS rfl ?_⟩
      refine ⟨_, rfl, ea, CK, _, _, rfl, e4, L.xk.exc, rfl, L.xk.val, _, rfl, iteF ?_⟩
      refine ⟨_, rfl, .inl ⟨rfl, _, SqL.of ep⟩, p, _, 0, rfl, rfl, ep, rfl, fun i hi => absurd hi (by omega), by decide, ?_⟩
      refine ⟨_, rfl, _, _, rfl, rfl, _, rfl, iteT ?_⟩
      refine ⟨nn (Nat.le_of_ble_eq_true rfl), fun l3 hl3 => ⟨_, rfl, .inl ⟨l3, _, _, .str "key", rfl, rfl, SqL.of upd_same, rfl, nn (Nat.le_of_ble_eq_true rfl), fun t ht => ?_⟩⟩⟩
      exact k3 _ t ((sm.trans (same_new hl3 _)).trans (same_new ht _)) upd_same
    · refine ⟨CL, rfl, L.xl.sub, fun ea hea => ?_⟩
      have g1 := same_new hea (ExcO ea CL)
      refine ⟨_, rfl, ea, CL, _, _, rfl, upd_same, L.xl.exc, rfl, L.lk, _, rfl, ea, CL, _, _, rfl, upd_same, L.xl.exc, rfl, L.ll, _, rfl, ea, CL, _, _, rfl, upd_same, L.xl.exc, rfl, L.ls, _, rfl, ea, CL, _, _, rfl, upd_same, L.xl.exc, rfl, L.lt, nn (Nat.le_of_ble_eq_true rfl), fun l1 hl1 => ?_⟩
      have g2 := same_new hl1 (.lst [.bl false, .bl true, .bl false, .bl false])
      have e2 := g2 _ _ (upd_same (H := H2) (a := ea) (o := ExcO ea CL))
      refine ⟨_, rfl, _, rfl, ea, CL, _, _, rfl, e2, L.xl.exc, rfl, L.lh, _, rfl, ea, CL, _, _, rfl, e2, L.xl.exc, rfl, L.ld, nn (Nat.le_of_ble_eq_true rfl), fun l2 hl2 => ?_⟩
      have g3 := same_new hl2 (.lst [.bl false, .bl false])
      refine ⟨l1, l2, _, _, rfl, rfl, g3 _ _ upd_same, upd_same, nn (Nat.le_of_ble_eq_true rfl), fun p hp => ?_⟩
      have g4 := same_new hp (.lst ([V.bl false, .bl true, .bl false, .bl false] ++ [.bl false, .bl false]))
      have e4 := g4 _ _ (g3 _ _ e2)
      have sm := ((g1.trans g2).trans g3).trans g4
      generalize hH4 : upd (upd (upd (upd H2 ea (ExcO ea CL)) l1 (.lst [.bl false, .bl true, .bl false, .bl false])) l2 (.lst [.bl false, .bl false])) p (.lst ([V.bl false, .bl true, .bl false, .bl false] ++ [.bl false, .bl false])) = H4 at e4 sm ⊢
      have ep : H4 p = some (.lst (([false, true, false, false, false, false] : List Bool).map V.bl)) := by rw [← hH4]; exact upd_same
      refine ⟨_, rfl, .inl ⟨rfl, _, SqL.of ep⟩, p, _, rfl, rfl, ep, rfl, _, rfl, iteNS rfl ?_⟩
      refine ⟨_, rfl, ea, CL, _, _, rfl, e4, L.xl.exc, rfl, L.xl.val, _, rfl, iteF ?_⟩
      refine ⟨_, rfl, .inl ⟨rfl, _, SqL.of ep⟩, p, _, 1, rfl, rfl, ep, rfl, fun i hi => by (have : i = 0 := by omega); subst this; rfl, by decide, ?_⟩
      refine ⟨_, rfl, _, _, rfl, rfl, _, rfl, iteT ?_⟩
      refine ⟨nn (Nat.le_of_ble_eq_true rfl), fun l3 hl3 => ⟨_, rfl, .inl ⟨l3, _, _, .str "leaf", rfl, rfl, SqL.of upd_same, rfl, nn (Nat.le_of_ble_eq_true rfl), fun t ht => ?_⟩⟩⟩
      exact k3 _ t ((sm.trans (same_new hl3 _)).trans (same_new ht _)) upd_same
end
end Tw
set_option Elab.async false
set_option linter.all false
set_option maxRecDepth 100000
set_option maxHeartbeats 8000000
namespace Tw
open PySem PySem.Spec L2 PyProof.Rows
def nmD : Nat → Str
  | 0 => "key"
  | 1 => "leaf"
  | _ => "told"
section
variable {P : Program} {w : World} {K : PySem.W.Frag} {mg : Str → Option Value} {base : Heap} {f : Addr} {fd : FuncData}
/-! ### _law_due -/
def spDue : Sp := fun vs H Q _ => ∃ (l : Addr) (us : List V) (rs : List OKP) (N : Addr → Prop), vs = [.ref l] ∧ H l = some (.lst us) ∧ RwAt N H rs us ∧ us.length ≤ 100 ∧ ∀ H' t, Same H H' → H' t = some (.tup [.str (nmD (due rs))]) → Q (.ref t) H'
abbrev nDue : List Str := ["_law_rows", "_law_one", "_law_value", "_law_j"]
theorem scDue : FnScope nDue ["_law_rows"] (defScope sDue) := ⟨rfl, rfl, rfl, by decide +kernel, rfl, by decide +kernel, by decide +kernel⟩
theorem okR_snoc {rs : List OKP} {i : Nat} {r : OKP} (e : rs[i]? = some r) (h : okR (rs.take i) = true) (h2 : (r.1.isSome && r.2.isSome) = true) : okR (rs.take (i + 1)) = true := by
  rw [List.take_add_one, e]
  unfold okR at h ⊢
  rw [List.all_append, h]
  show (true && ((r.1.isSome && r.2.isSome) && true)) = true
  rw [h2]; rfl
theorem ok_due (F : Fun K "_law_due" "_law_due" sDue f fd) (T : Txt mg) (DK : DefOk P w K mg base 5 "_law_is_key" ["_law_thing", "_law_room"] (spLKey 4)) (DL : DefOk P w K mg base 7 "_law_less" ["_law_one", "_law_other"] spAhead) : FnOk P w K mg base CX0 8 f fd ["_law_rows"] spDue := by
  refine F.ok scDue (fun vs H Q E h => (by obtain ⟨_, _, _, _, rfl, _⟩ := h; rfl)) (fun cdv A outer s H vs Q E hr h => ?_)
  obtain ⟨l, us, rs, N, rfl, hl, hk, h100, k⟩ := h
  have nd := scDue.nd
  have hr5 := hr.mono (show 5 ≤ 7 by omega)
  have lk := Paired.length hk
  refine ⟨_, pss_cons (ps_for PassesOwn.never rfl (pi_list (pv 0)) (pg_tup rfl (pgs_cons (pg_name (i := 1) nd rfl (Or.inl rfl)) (pgs_cons (pg_name (i := 2) nd rfl (Or.inl rfl)) pgs_nil)))
      (pss_one (ps_if (PW.pt (pw_or (pt_not (pt_val (pe_def DK hr5 (pa_c (pv 1) (pa_c pe_int pa_nil))))) (pw_or1 (pt_not (pt_val (pe_def DK hr5 (pa_c (pv 2) (pa_c pe_int pa_nil)))))))) (pss_one (ps_ret (pe_tup (pa_c pe_str pa_nil)))) pss_nil)))
    (pss_cons (ps_if (pt_not (pt_chain op_le op_le pe_int (pe_callB call_len_seq rfl T.len tb_len (pa_c (pv 0) pa_nil)) pe_int)) (pss_one (ps_ret (pe_tup (pa_c pe_str pa_nil)))) pss_nil)
    (pss_cons (ps_for PassesOwn.never rfl (pi_range2 rfl T.range (pa_c pe_int (pa_c (pe_callB call_len_seq rfl T.len tb_len (pa_c (pv 0) pa_nil)) pa_nil))) (pg_name (i := 3) nd rfl (Or.inl rfl))
      (pss_one (ps_if (pt_not (pt_val (pe_def DL hr (pa_c (pe_ix (r := rIx K) ix_seq (pe_ix (r := rIx K) ix_seq (pv 0) (pe_op op_sub (pv 3) pe_int) (fun _ _ => rfl)) pe_int (fun _ _ => rfl)) (pa_c (pe_ix (r := rIx K) ix_seq (pe_ix (r := rIx K) ix_seq (pv 0) (pv 3) (fun _ _ => rfl)) pe_int (fun _ _ => rfl)) pa_nil))))) (pss_one (ps_ret (pe_tup (pa_c pe_str pa_nil)))) pss_nil)))
    (pss_one (ps_ret (pe_tup (pa_c pe_str pa_nil)))))), ?_⟩
  have told : ∀ (H' : Hp) (d : Nat), Same H H' → due rs = d → ∀ t, H' t = none → Q (.ref t) (upd H' t (.tup [.str (nmD d)])) := fun H' d s' e t ht => k _ t (s'.trans (same_new ht _)) (by rw [e]; exact upd_same)
  refine ⟨_, rfl, l, rfl, ⟨us, SqL.of hl⟩, for_list (K := K) (a := l) (xs := us) (fun i σ H2 => ∃ x1 x2 : Option V, σ = [some (.ref l), x1, x2, none] ∧ Same H H2 ∧ okR (rs.take i) = true) ⟨_, _, rfl, Same.refl H, rfl⟩ (fun i σ H2 _ hP => by obtain ⟨_, _, _, s2, _⟩ := hP; exact SqL.of (s2 _ _ hl)) ?_ ?_⟩
  · rintro i u σ H2 hu ⟨x1, x2, rfl, s2, hok⟩
    obtain ⟨r, er, a, vk, vv, e1, e2, h1, h2⟩ := Paired.ix hk hu
    subst e1
    obtain ⟨g1, tg1, ng1, cg1, fg1⟩ := (h1.mono (Keeps.same s2)).tgc
    refine ⟨a, _, rfl, SqT.of (s2 _ _ e2), rfl, _, _, rfl, _, _, rfl, rfl, ?_⟩
    refine ⟨_, rfl, vk, g1, N, 3, rfl, tg1, ng1, cg1, by decide, fun H3 s3 => ⟨_, rfl, ?_⟩⟩
    cases hf1 : g1.fits 3 with
    | false => exact iteT (iteT ⟨nn (Nat.le_of_ble_eq_true rfl), told H3 0 (s2.trans s3) (due_bad er (by rw [← fg1, hf1]; rfl))⟩)
    | true =>
      refine iteF ?_
      obtain ⟨g2, tg2, ng2, cg2, fg2⟩ := (h2.mono (Keeps.same (s2.trans s3))).tgc
      refine ⟨_, rfl, vv, g2, N, 3, rfl, tg2, ng2, cg2, by decide, fun H4 s4 => ⟨_, rfl, ?_⟩⟩
      cases hf2 : g2.fits 3 with
      | false => exact iteT ⟨nn (Nat.le_of_ble_eq_true rfl), told H4 0 ((s2.trans s3).trans s4) (due_bad er (by rw [← fg2, hf2, Bool.and_false]))⟩
      | true => exact iteF ⟨_, _, rfl, (s2.trans s3).trans s4, okR_snoc er hok (by rw [← fg1, ← fg2, hf1, hf2]; rfl)⟩
  rintro σ H2 ⟨x1, x2, rfl, s2, hok⟩
  rw [List.take_of_length_le (by omega)] at hok
  have hl2 := s2 _ _ hl
  have no : ¬ (1 ≤ rs.length ∧ rs.length ≤ 4 ∧ riseL (keysOf rs) = true) → due rs = 1 := fun z => by unfold due; rw [if_pos hok, if_neg z]
  refine ⟨_, rfl, l, us, rfl, .inl (SqL.of hl2), _, _, rfl, rfl, _, rfl, ?_⟩
  rcases Nat.lt_or_ge us.length 1 with h2 | h2
  · rw [decide_eq_false (show ¬ (1 : Int) ≤ (us.length : Int) by omega)]
    exact iteF ⟨_, rfl, iteT ⟨nn (Nat.le_of_ble_eq_true rfl), told H2 1 s2 (no (by omega))⟩⟩
  rw [decide_eq_true (show (1 : Int) ≤ (us.length : Int) by omega)]
  refine iteT ⟨_, _, rfl, rfl, _, rfl, ?_⟩
  rcases Nat.lt_or_ge 4 us.length with h4 | h4
  · rw [decide_eq_false (show ¬ (us.length : Int) ≤ 4 by omega)]
    exact iteT ⟨nn (Nat.le_of_ble_eq_true rfl), told H2 1 s2 (no (by omega))⟩
  rw [decide_eq_true (show (us.length : Int) ≤ 4 by omega)]
  refine iteF ?_
  have hrk := row_keys hk hok
  have hrf := row_fit hk hok
  refine ⟨_, rfl, l, us, rfl, .inl (SqL.of hl2), 1, (us.length : Int), rfl, ⟨by omega, by omega, by omega, by omega⟩, ?_⟩
  have lt_at : ∀ j, j < us.length → ((keysOf rs).getD j (.int 0)).fits 3 = true := fun j hj => by
    have hj2 : j < (keysOf rs).length := by rw [keysOf_len]; omega
    rw [List.getD_eq_getElem?_getD, List.getElem?_eq_getElem hj2]
    exact hrf _ (List.getElem_mem hj2)
  refine for_range (lo := 1) (n := ((us.length : Int) - 1).toNat) (fun i σ H3 => ∃ x : Option V, σ = [some (.ref l), x1, x2, x] ∧ Same H H3 ∧ ∀ j, j < i → ((keysOf rs).getD j (.int 0)).lt ((keysOf rs).getD (j + 1) (.int 0)) = true) ⟨_, rfl, s2, fun j hj => absurd hj (by omega)⟩ ?_ ?_
  · rintro i σ H3 hi ⟨x, rfl, s3, hlt⟩
    have hi1 : i + 1 < us.length := by omega
    have ua : us[i]? = some (us[i]'(by omega)) := List.getElem?_eq_getElem (by omega)
    have ub : us[i + 1]? = some us[i + 1] := List.getElem?_eq_getElem hi1
    have e1 : (1 : Int) + (i : Int) = ((i + 1 : Nat) : Int) := by omega
    have e0 : (1 : Int) + (i : Int) - 1 = ((i : Nat) : Int) := by omega
    obtain ⟨a, ak, av, ea, ta, ka⟩ := hrk.2 i _ ua
    obtain ⟨b, bk, bv, eb, tb, kb⟩ := hrk.2 (i + 1) _ ub
    rw [ea] at ua
    rw [eb] at ub
    have hl3 := s3 _ _ hl
    refine ⟨_, rfl, _, rfl, _, _, rfl, rfl, .inl ⟨l, us, _, _, rfl, rfl, SqL.of hl3, (by rw [e0]; exact atI_nat ua), .inr (.inl ⟨a, _, _, ak, rfl, rfl, SqT.of (s3 _ _ ta), rfl, ?_⟩)⟩⟩
    refine ⟨_, rfl, _, rfl, .inl ⟨l, us, _, _, rfl, rfl, SqL.of hl3, (by rw [e1]; exact atI_nat ub), .inr (.inl ⟨b, _, _, bk, rfl, rfl, SqT.of (s3 _ _ tb), rfl, ?_⟩)⟩⟩
    refine ⟨ak, bk, _, _, rfl, ka.mono (Same.tups s3) _ _, kb.mono (Same.tups s3) _ _, lt_at i (by omega), lt_at (i + 1) hi1, fun H4 s4 => ⟨_, rfl, ?_⟩⟩
    cases hc : ((keysOf rs).getD i (.int 0)).lt ((keysOf rs).getD (i + 1) (.int 0)) with
    | true =>
      refine iteF ⟨_, rfl, s3.trans s4, fun j hj => ?_⟩
      rcases Nat.lt_or_ge j i with c1 | c1
      · exact hlt j c1
      · have : j = i := by omega
        rw [this]; exact hc
    | false =>
      refine iteT ⟨nn (Nat.le_of_ble_eq_true rfl), told H4 1 (s3.trans s4) (no fun z => ?_)⟩
      have := List.all_eq_true.mp z.2.2 _ (List.mem_map.mpr ⟨i, List.mem_range.mpr (by rw [keysOf_len]; omega), rfl⟩)
      rw [hc] at this
      cases this
  rintro σ H3 ⟨x, rfl, s3, hlt⟩
  have hrise : riseL (keysOf rs) = true := by
    refine List.all_eq_true.mpr fun b hb => ?_
    obtain ⟨j, hj, rfl⟩ := List.mem_map.mp hb
    have hj' := List.mem_range.mp hj
    rw [keysOf_len] at hj'
    exact hlt j (by omega)
  refine ⟨nn (Nat.le_of_ble_eq_true rfl), told H3 2 s3 ?_⟩
  unfold due
  rw [if_pos hok, if_pos ⟨by omega, by omega, hrise⟩]
/-! ### _law_good_rows -/
def spGoodRows : Sp := fun vs H Q _ => ∃ p : Addr, vs = [.ref p] ∧ WellAt H p ∧ ∀ (L : Addr) (us : List V) (rs : List OKP) (H' : Hp), WellAt H' p → SameX p H H' → H L = none → H' L = some (.lst us) → (∀ N, RwAt N H' rs us) → us.length ≤ 7 → Q (.ref L) H'
abbrev nGoodRows : List Str := ["_law_well_here", "_law_rows", "_law_j", "_law_one", "_law_at"]
theorem scGoodRows : FnScope nGoodRows ["_law_well_here"] (defScope sGoodRows) := ⟨rfl, rfl, rfl, by decide +kernel, rfl, by decide +kernel, by decide +kernel⟩
/-- rows of keys -/
def KRowT (H : Hp) (u : V) : Prop := ∃ a vk vv t1 t2, u = .ref a ∧ H a = some (.tup [vk, vv]) ∧ KeyAt H t1 vk ∧ KeyAt H t2 vv ∧ t1.fits 3 = true ∧ t2.fits 3 = true
theorem KRowT.mono {H H' : Hp} {u : V} (h : KRowT H u) (m : Tups H H') : KRowT H' u := by
  obtain ⟨a, vk, vv, t1, t2, e, h1, k1, k2, f⟩ := h
  exact ⟨a, vk, vv, t1, t2, e, m _ _ h1, k1.mono m _ _, k2.mono m _ _, f⟩
theorem krows {H : Hp} : ∀ {us : List V}, (∀ u ∈ us, KRowT H u) → ∃ rs : List OKP, (∀ N, RwAt N H rs us) ∧ okR rs = true
  | [], _ => ⟨[], fun _ => .nil, rfl⟩
  | u :: us, h => by
    obtain ⟨rs, hr, ho⟩ := krows (us := us) fun v hv => h v (List.mem_cons_of_mem _ hv)
    obtain ⟨a, vk, vv, t1, t2, e, h1, k1, k2, f1, f2⟩ := h u List.mem_cons_self
    exact ⟨(some t1, some t2) :: rs, fun N => .cons ⟨a, vk, vv, e, h1, ⟨k1, f1⟩, ⟨k2, f2⟩⟩ (hr N), by unfold okR at ho ⊢; rw [List.all_cons, ho]; rfl⟩
theorem ok_goodrows (F : Fun K "_law_good_rows" "_law_good_rows" sGoodRows f fd) (T : Txt mg) (DP : DefOk P w K mg base 1 "_law_pull" ["_law_well_here", "_law_many"] spPull) (DK : DefOk P w K mg base 6 "_law_key" ["_law_well_here", "_law_room"] (spKey 4)) (DL : DefOk P w K mg base 7 "_law_less" ["_law_one", "_law_other"] spAhead) :
    FnOk P w K mg base CX0 8 f fd ["_law_well_here"] spGoodRows := by
  refine F.ok scGoodRows (fun vs H Q E h => (by obtain ⟨_, rfl, _⟩ := h; rfl)) (fun cdv A outer s H vs Q E hr h => ?_)
  obtain ⟨p, rfl, W, k⟩ := h
  have nd := scGoodRows.nd
  have hr1 := hr.mono (show 1 ≤ 7 by omega)
  have hr6 := hr.mono (show 6 ≤ 7 by omega)
  refine ⟨_, pss_cons (ps_set (i := 1) nd rfl (Or.inl rfl) (pe_lst pa_nil))
    (pss_cons (ps_for PassesOwn.never rfl (pi_range1 rfl T.range (pa_c (pe_ix (r := rIx K) ix_seq (pe_lst (pa_c (pe_def DP hr1 (pa_c (pv 0) (pa_c pe_int pa_nil))) (pa_c (pe_op op_add pe_int (pe_def DP hr1 (pa_c (pv 0) (pa_c pe_int pa_nil)))) pa_nil))) (pe_def DP hr1 (pa_c (pv 0) (pa_c pe_int pa_nil))) (fun _ _ => rfl)) pa_nil)) (pg_name (i := 2) nd rfl (Or.inl rfl))
      (pss_cons (ps_set (i := 3) nd rfl (Or.inr rfl) (pe_def DK hr6 (pa_c (pv 0) (pa_c pe_int pa_nil))))
      (pss_cons (ps_set (i := 4) nd rfl (Or.inl rfl) (pe_callB call_len_seq rfl T.len tb_len (pa_c (pe_comp [3] ["_law_one"] rfl (pi_list (pv 1)) (fun _ _ _ _ _ => pts_one (pt_val (pe_def DL hr (pa_c (pe_ix (r := rIx K) ix_seq (pv 0) pe_int (fun _ _ => rfl)) (pa_c (pv 1) pa_nil))))) (fun _ _ _ _ _ => pv 0) ⟨rfl, .inl rfl, rfl, trivial⟩) pa_nil)))
      (pss_one (ps_if (PW.pt (pw_or (pt_cmpR op_eq (pv 4) (pe_callB call_len_seq rfl T.len tb_len (pa_c (pv 1) pa_nil)) (nomark _)) (pw_or1 (pt_val (pe_def DL hr (pa_c (pv 3) (pa_c (pe_ix (r := rIx K) ix_seq (pe_ix (r := rIx K) ix_seq (pv 1) (pv 4) (fun _ _ => rfl)) pe_int (fun _ _ => rfl)) pa_nil)))))))
        (pss_one (ps_expr (pe_bm PySem.F.plainAttrs_list PySem.F.slot_list_insert PySem.F.type_list_insert mt_insert (pv 1) (pa_c (pv 4) (pa_c (pe_tup (pa_c (pv 3) (pa_c (pe_def DK hr6 (pa_c (pv 0) (pa_c pe_int pa_nil))) pa_nil))) pa_nil))))) pss_nil)))))
    (pss_one (ps_ret (pv 1)))), ?_⟩
  refine ⟨nn (Nat.le_of_ble_eq_true rfl), fun L hL => ?_⟩
  have g0 := same_new hL (.lst [])
  have W0 := W.same g0
  have Lp : L ≠ p := fun z => by
    obtain ⟨xs, e⟩ := W.some
    rw [z, e] at hL; cases hL
  refine ⟨_, rfl, p, 7, rfl, W0, small_lit (by decide) (by decide), fun r1 H1 a1 b1 W1 s1 => ?_⟩
  refine ⟨_, rfl, p, 4, rfl, W1, small_lit (by decide) (by decide), fun r2 H2 a2 b2 W2 s2 => ⟨_, _, rfl, rfl, nn (Nat.le_of_ble_eq_true rfl), fun l hl => ?_⟩⟩
  have g2 := same_new hl (.lst [.int r1, .int (1 + r2)])
  have lp : l ≠ p := fun z => by
    obtain ⟨xs, e⟩ := W2.some
    rw [z, e] at hl; cases hl
  refine ⟨_, rfl, p, 2, rfl, W2.same g2, small_lit (by decide) (by decide), fun r3 H3 a3 b3 W3 s3 => ?_⟩
  obtain ⟨v, av, ev⟩ := at2 (x := .int r1) (y := .int (1 + r2)) a3 b3
  have el3 := s3 _ _ (upd_same (H := H2) (a := l) (o := .lst [.int r1, .int (1 + r2)])) lp
  obtain ⟨m, rfl, m0, m7⟩ : ∃ m : Int, v = .int m ∧ 0 ≤ m ∧ m ≤ 7 := by
    rcases ev with rfl | rfl
    · exact ⟨r1, rfl, a1, by omega⟩
    · exact ⟨1 + r2, rfl, by omega, by omega⟩
  refine .inl ⟨l, _, _, .int m, rfl, rfl, SqL.of el3, av, _, rfl, by omega, by omega, ?_⟩
  have s03 : SameX p (upd H L (.lst [])) H3 := ((s1.trans s2).trans (SameX.of g2)).trans s3
  have eL3 := s03 L _ upd_same Lp
  have sH3 : SameX p H H3 := (SameX.of g0).trans s03
  refine for_range (lo := 0) (n := m.toNat) (fun i σ H' => ∃ (x2 x3 x4 : Option V) (us : List V), σ = [some (.ref p), some (.ref L), x2, x3, x4] ∧ WellAt H' p ∧ SameX p H H' ∧ H' L = some (.lst us) ∧ us.length ≤ i ∧ ∀ u ∈ us, KRowT H' u)
    ⟨_, _, _, [], rfl, W3, sH3, eL3, Nat.le_refl _, fun u hu => absurd hu (by simp)⟩ ?_ ?_
  · rintro i σ H4 hi ⟨x2, x3, x4, us, rfl, W4, s4, eL4, hlen, hks⟩
    refine ⟨_, rfl, p, 3, rfl, W4, by decide, fun v t H5 kv fv W5 s5 => ?_⟩
    have fv3 : t.fits 3 = true := fv
    have eL5 := s5 L _ eL4 Lp
    have ks5 : ∀ u ∈ us, KRowT H5 u := fun u hu => (hks u hu).mono (s5.tupsW W4)
    obtain ⟨rs, hrs, hok⟩ := krows ks5
    have hrk := row_keys (hrs fun _ => False) hok
    have hrf := row_fit (hrs fun _ => False) hok
    have lrs : rs.length = us.length := Paired.length (hrs fun _ => False)
    have fit_at : ∀ j, j < us.length → ((keysOf rs).getD j (.int 0)).fits 3 = true := fun j hj => by
      have hj2 : j < (keysOf rs).length := by rw [keysOf_len]; omega
      rw [List.getD_eq_getElem?_getD, List.getElem?_eq_getElem hj2]
      exact hrf _ (List.getElem_mem hj2)
    refine ⟨_, rfl, L, rfl, ⟨us, SqL.of eL5⟩, ?_⟩
    refine comp_gen (n := us.length) (fun i z => us[i]? = some z) (fun i => ((keysOf rs).getD i (.int 0)).lt t) (fun D i ys H6 => Same H5 H6 ∧ H5 D = none ∧ ys.length ≤ i) (small1000 (by omega))
      (fun D i ys H6 hi hP => ⟨us, us[i], SqL.of (hP.1 _ _ eL5), by simp [hi]⟩) (fun D i ys H6 z H7 hi hP hy => ⟨hy.1, hy.2 us (SqL.of (hP.1 _ _ eL5))⟩) (fun D ys H6 hP => ⟨us, SqL.of (hP.1 _ _ eL5), Nat.le_refl _⟩)
      (fun D hD => ⟨same_new hD _, hD, Nat.le_refl _⟩) (fun D i ys H6 z eD hi hz hP R hR => ?_) (fun D i ys H6 z eD hi hz hk hP R hR => ?_) (fun D i ys H6 eD hi hk hP => ⟨hP.1, hP.2.1, Nat.le_succ_of_le hP.2.2⟩) (fun D ys H6 eD hP => ?_)
    · obtain ⟨a, vk, vv, e1, e2, e3⟩ := hrk.2 i _ hz
      subst e1
      refine ⟨_, rfl, .inr (.inl ⟨a, _, _, vk, rfl, rfl, SqT.of (hP.1 _ _ e2), rfl, _, rfl, vk, v, _, t, rfl, e3.mono (Same.tups hP.1) _ _, kv.mono (Same.tups hP.1) _ _, fit_at i hi, fv3, fun H7 s7 => ⟨_, rfl, hR H7 (s7 _ _ eD) ⟨hP.1.trans s7, hP.2⟩⟩⟩)⟩
    · exact ⟨_, rfl, hR _ H6 eD ⟨fun b o e => by rw [upd_ne (ne_of_none e hP.2.1)]; exact hP.1 b o e, hP.2.1, by rw [List.length_append, List.length_singleton]; have := hP.2.2; omega⟩⟩
    · obtain ⟨s6, nD, hy⟩ := hP
      refine ⟨D, ys, rfl, .inl (SqL.of eD), ?_⟩
      have eL6 := s6 _ _ eL5
      have ins : ∀ H7, Same H6 H7 → ∀ R : Hp → Prop, (∀ H8 us', WellAt H8 p → SameX p H H8 → H8 L = some (.lst us') → us'.length ≤ i + 1 → (∀ u ∈ us', KRowT H8 u) → R H8) →
          ∀ (v2 : V) (t2 : KT) (H8 : Hp), KeyAt H8 t2 v2 → t2.fits 3 = true → WellAt H8 p → SameX p H7 H8 → ∀ q, H8 q = none → R (upd (upd H8 q (.tup [v, v2])) L (.lst (us.take ys.length ++ .ref q :: us.drop ys.length))) := by
        intro H7 s7 R hR v2 t2 H8 kv2 fv2 W8 s8 q hq
        have s67 : Same H5 H7 := s6.trans s7
        have eL7 := s67 _ _ eL5
        have W7 : WellAt H7 p := W5.same s67
        have g8 := same_new hq (.tup [v, v2])
        have eL8 := g8 _ _ (s8 L _ eL7 Lp)
        have W9 : WellAt (upd (upd H8 q (.tup [v, v2])) L (.lst (us.take ys.length ++ .ref q :: us.drop ys.length))) p := (W8.same g8).stay (SameX.refl L _).upd (Ne.symm Lp)
        have tL : Tups (upd H8 q (.tup [v, v2])) (upd (upd H8 q (.tup [v, v2])) L (.lst (us.take ys.length ++ .ref q :: us.drop ys.length))) := (SameX.refl L _).upd.tups eL8
        have t58 : Tups H5 (upd H8 q (.tup [v, v2])) := ((Same.tups s67).trans (s8.tupsW W7)).trans (Same.tups g8)
        refine hR _ _ W9 (fun b o e n => ?_) upd_same (by rw [List.length_append, List.length_cons, List.length_take, List.length_drop]; omega) fun u hu => ?_
        · have bL : b ≠ L := fun z => by rw [z, hL] at e; cases e
          rw [upd_ne bL]
          exact g8 _ _ (s8 b o (s67 b o (s5 b o (s4 b o e n) n)) n)
        · have : u ∈ us ∨ u = .ref q := by
            rcases List.mem_append.mp hu with z | z
            · exact .inl (List.mem_of_mem_take z)
            · rcases List.mem_cons.mp z with z | z
              · exact .inr z
              · exact .inl (List.mem_of_mem_drop z)
          rcases this with z | z
          · exact (ks5 u z).mono (t58.trans tL)
          · subst z
            refine ⟨q, v, v2, t, t2, rfl, tL _ _ upd_same, kv.mono (t58.trans tL) _ _, kv2.mono ((Same.tups g8).trans tL) _ _, fv3, fv2⟩
      have skip : ∀ H7, Same H6 H7 → WellAt H7 p ∧ SameX p H H7 ∧ H7 L = some (.lst us) ∧ us.length ≤ i + 1 ∧ ∀ u ∈ us, KRowT H7 u := fun H7 s7 => by
        have s67 : Same H5 H7 := s6.trans s7
        exact ⟨W5.same s67, fun b o e n => s67 b o (s5 b o (s4 b o e n) n), s67 _ _ eL5, by omega, fun u hu => (ks5 u hu).mono (Same.tups s67)⟩
      refine ⟨_, rfl, _, rfl, L, us, rfl, .inl (SqL.of eL6), rfl, _, rfl, ite2 (fun c => iteT ?_) (fun c => ?_)⟩
      · refine ⟨_, rfl, .inl ⟨rfl, _, SqL.of eL6⟩, _, rfl, _, rfl, _, rfl, p, 3, rfl, (W5.same s6), by decide, fun v2 t2 H8 kv2 fv2 W8 s8 => ⟨nn (Nat.le_of_ble_eq_true rfl), fun q hq => ?_⟩⟩
        have eL8 := (same_new hq (.tup [v, v2])) _ _ (s8 L _ eL6 Lp)
        exact ⟨L, us, ys.length, .ref q, rfl, rfl, eL8, by omega, small1000 (by omega), ins H6 (Same.refl _) (fun H9 => ∃ (x2 x3 x4 : Option V) (us : List V), _ = [some (.ref p), some (.ref L), x2, x3, x4] ∧ WellAt H9 p ∧ SameX p H H9 ∧ H9 L = some (.lst us) ∧ us.length ≤ i + 1 ∧ ∀ u ∈ us, KRowT H9 u) (fun H9 us' b1 b2 b3 b4 b5 => ⟨_, _, _, us', rfl, b1, b2, b3, b4, b5⟩) v2 t2 H8 kv2 fv2 W8 s8 q hq⟩
      · have hlt : ys.length < us.length := by
          rcases Nat.lt_or_ge ys.length us.length with z | z
          · exact z
          · exact absurd (decide_eq_true (by rw [show ys.length = us.length by omega])) c
        have hu : us[ys.length]? = some us[ys.length] := List.getElem?_eq_getElem hlt
        obtain ⟨a, vk, vv, e1, e2, e3⟩ := hrk.2 _ _ hu
        rw [e1] at hu
        refine ⟨_, rfl, _, rfl, _, rfl, .inl ⟨L, us, _, _, rfl, rfl, SqL.of eL6, atI_nat hu, .inr (.inl ⟨a, _, _, vk, rfl, rfl, SqT.of (s6 _ _ e2), rfl, v, vk, t, _, rfl, kv.mono (Same.tups s6) _ _, e3.mono (Same.tups s6) _ _, fv3, fit_at _ hlt, fun H7 s7 => ⟨_, rfl, ite2 (fun c2 => ?_) (fun c2 => ?_)⟩⟩)⟩⟩
        · have eL7 := s7 _ _ eL6
          refine ⟨_, rfl, .inl ⟨rfl, _, SqL.of eL7⟩, _, rfl, _, rfl, _, rfl, p, 3, rfl, (W5.same (s6.trans s7)), by decide, fun v2 t2 H8 kv2 fv2 W8 s8 => ⟨nn (Nat.le_of_ble_eq_true rfl), fun q hq => ?_⟩⟩
          have eL8 := (same_new hq (.tup [v, v2])) _ _ (s8 L _ eL7 Lp)
          exact ⟨L, us, ys.length, .ref q, rfl, rfl, eL8, by omega, small1000 (by omega), ins H7 s7 (fun H9 => ∃ (x2 x3 x4 : Option V) (us : List V), _ = [some (.ref p), some (.ref L), x2, x3, x4] ∧ WellAt H9 p ∧ SameX p H H9 ∧ H9 L = some (.lst us) ∧ us.length ≤ i + 1 ∧ ∀ u ∈ us, KRowT H9 u) (fun H9 us' b1 b2 b3 b4 b5 => ⟨_, _, _, us', rfl, b1, b2, b3, b4, b5⟩) v2 t2 H8 kv2 fv2 W8 s8 q hq⟩
        · obtain ⟨b1, b2, b3, b4, b5⟩ := skip H7 s7
          exact ⟨_, _, _, us, rfl, b1, b2, b3, b4, b5⟩
  · rintro σ H4 ⟨x2, x3, x4, us, rfl, W4, s4, eL4, hlen, hks⟩
    obtain ⟨rs, hrs, hok⟩ := krows hks
    exact ⟨_, rfl, k L us rs H4 W4 s4 hL eL4 hrs (by omega)⟩
end
end Tw
set_option Elab.async false
set_option linter.all false
set_option maxRecDepth 100000
set_option maxHeartbeats 8000000
namespace Tw
open PySem PySem.Spec L2 PyProof.Rows
def RwE (N : Addr → Prop) (H : Hp) (us : List V) : Prop := ∃ rs, RwAt N H rs us
section
variable {N : Addr → Prop} {H H' : Hp} {us ws : List V} {q : Addr}
theorem RwE.mono (h : RwE N H us) (m : Keeps N H H') : RwE N H' us := by
  obtain ⟨rs, h⟩ := h
  exact ⟨rs, RwAt.mono h m⟩
theorem RwE.new (h : RwE N H us) (n : H q = none) (o : HO) : RwE N (upd H q o) us := h.mono (Keeps.same (same_new n o))
theorem RwE.cut (h : RwE N H us) (lo hi : Option Int) : RwE N H (cutV us lo hi) := by
  obtain ⟨rs, h⟩ := h
  exact ⟨_, Paired.tk _ (Paired.dr _ h)⟩
theorem RwE.app (h : RwE N H us) (h' : RwE N H ws) : RwE N H (us ++ ws) := by
  obtain ⟨rs, h⟩ := h
  obtain ⟨rs', h'⟩ := h'
  exact ⟨_, Paired.app h h'⟩
theorem RwE.one {vk vv : V} {o1 o2 : Option KT} (e : H q = some (.tup [vk, vv])) (h1 : Thg N H vk o1) (h2 : Thg N H vv o2) : RwE N H [.ref q] := ⟨[(o1, o2)], .cons ⟨q, vk, vv, rfl, e, h1, h2⟩ .nil⟩
theorem RwE.at (h : RwE N H us) {i : Nat} {u : V} (e : us[i]? = some u) : ∃ a vk vv o1 o2, u = .ref a ∧ H a = some (.tup [vk, vv]) ∧ Thg N H vk o1 ∧ Thg N H vv o2 := by
  obtain ⟨rs, h⟩ := h
  obtain ⟨r, er, a, vk, vv, e1, e2, h1, h2⟩ := Paired.ix h e
  exact ⟨a, vk, vv, r.1, r.2, e1, e2, h1, h2⟩
theorem Thg.new {v : V} {o : Option KT} (h : Thg N H v o) (n : H q = none) (ob : HO) : Thg N (upd H q ob) v o := h.mono (Keeps.same (same_new n ob))
end
theorem rep_len : (repS "a" 41).length = 41 := by decide +kernel
section
variable {P : Program} {w : World} {K : PySem.W.Frag} {mg : Str → Option Value} {base : Heap} {f : Addr} {fd : FuncData}
/-! ### _law_spoilt -/
def spSpoilt : Sp := fun vs H Q _ => ∃ (p L : Addr) (us : List V), vs = [.ref p, .ref L] ∧ WellAt H p ∧ L ≠ p ∧ H L = some (.lst us) ∧ (∀ N, RwE N H us) ∧ us.length ≤ 7 ∧
  ∀ (L' : Addr) (us' : List V) (H' : Hp), WellAt H' p → SameX p H H' → H' L' = some (.lst us') → L' ≠ p → (L' = L ∨ H L' = none) → RwE (fun b => H b ≠ none) H' us' → us'.length ≤ 20 → Q (.ref L') H'
abbrev nSpoilt : List Str := ["_law_well_here", "_law_rows", "_law_way", "_law_at", "_law_bad"]
theorem scSpoilt : FnScope nSpoilt ["_law_well_here", "_law_rows"] (defScope sSpoilt) := ⟨rfl, rfl, rfl, by decide +kernel, rfl, by decide +kernel, by decide +kernel⟩
theorem ok_spoilt (F : Fun K "_law_spoilt" "_law_spoilt" sSpoilt f fd) (T : Txt mg) (DP : DefOk P w K mg base 1 "_law_pull" ["_law_well_here", "_law_many"] spPull) : FnOk P w K mg base CX0 2 f fd ["_law_well_here", "_law_rows"] spSpoilt := by
  refine F.ok scSpoilt (fun vs H Q E h => (by obtain ⟨_, _, _, rfl, _⟩ := h; rfl)) (fun cdv A outer s H vs Q E hr h => ?_)
  obtain ⟨p, L, us, rfl, W, Lp, hL, hrw, h7, k⟩ := h
  have nd := scSpoilt.nd
  refine ⟨_, pss_cons (ps_set (i := 2) nd rfl (Or.inl rfl) (pe_def DP hr (pa_c (pv 0) (pa_c pe_int pa_nil))))
    (pss_cons (ps_if (PW.pt (pw_or (pt_cmpR (tw_eq_nil hr.units0) (pv 1) (pe_lst pa_nil) (nomark _)) (pw_or1 (pt_cmpR op_lt (pv 2) pe_int (nomark _))))) (pss_one (ps_ret (pv 1))) pss_nil)
    (pss_cons (ps_set (i := 3) nd rfl (Or.inl rfl) (pe_def DP hr (pa_c (pv 0) (pa_c (pe_callB call_len_seq rfl T.len tb_len (pa_c (pv 1) pa_nil)) pa_nil))))
    (pss_cons (ps_set (i := 4) nd rfl (Or.inl rfl) (pe_ix (r := rIx K) ix_seq (pe_lst (pa6 pe_bl pe_non (pe_lst pa_nil) (pe_op op_mul_str pe_str pe_int) (pe_op op_pow pe_int pe_int) (pe_tup (pa5 pe_int pe_int pe_int pe_int pe_int)))) (pe_def DP hr (pa_c (pv 0) (pa_c pe_int pa_nil))) (fun _ _ => rfl)))
    (pss_cons (ps_if (pt_cmpR op_eq (pv 2) pe_int (nomark _)) (pss_one (ps_ret (pe_op op_cat (pe_op op_cat (pe_slice sl_list (pv 1) po_none (po_some (pv 3))) (pe_lst (pa_c (pe_tup (pa_c (pe_ix (r := rIx K) ix_seq (pe_ix (r := rIx K) ix_seq (pv 1) (pv 3) (fun _ _ => rfl)) pe_int (fun _ _ => rfl)) (pa_c (pv 4) pa_nil))) pa_nil))) (pe_slice sl_list (pv 1) (po_some (pe_op op_add (pv 3) pe_int)) po_none)))) pss_nil)
    (pss_cons (ps_if (pt_cmpR op_eq (pv 2) pe_int (nomark _)) (pss_one (ps_ret (pe_op op_cat (pe_op op_cat (pe_slice sl_list (pv 1) po_none (po_some (pv 3))) (pe_lst (pa_c (pe_tup (pa_c (pv 4) (pa_c (pe_ix (r := rIx K) ix_seq (pe_ix (r := rIx K) ix_seq (pv 1) (pv 3) (fun _ _ => rfl)) pe_int (fun _ _ => rfl)) pa_nil))) pa_nil))) (pe_slice sl_list (pv 1) (po_some (pe_op op_add (pv 3) pe_int)) po_none)))) pss_nil)
    (pss_cons (ps_if (pt_cmpR op_eq (pv 2) pe_int (nomark _)) (pss_one (ps_ret (pe_op op_cat (pv 1) (pe_lst (pa_c (pe_tup (pa_c (pe_ix (r := rIx K) ix_seq (pe_ix (r := rIx K) ix_seq (pv 1) (pv 3) (fun _ _ => rfl)) pe_int (fun _ _ => rfl)) (pa_c pe_int pa_nil))) pa_nil))))) pss_nil)
    (pss_cons (ps_if (pt_cmpR op_eq (pv 2) pe_int (nomark _)) (pss_one (ps_ret (pe_op op_cat (pe_op op_cat (pv 1) (pe_lst (pa_c (pe_tup (pa_c pe_str (pa_c (pv 4) pa_nil))) pa_nil))) (pe_slice sl_list (pv 1) (po_some (pv 3)) po_none)))) pss_nil)
    (pss_one (ps_ret (pe_op op_cat (pe_slice sl_list (pv 1) (po_some (pv 3)) po_none) (pe_slice sl_list (pv 1) po_none (po_some (pv 3))))))))))))), ?_⟩
  have nP : H p ≠ none := by
    obtain ⟨xs, e⟩ := W.some
    rw [e]; exact fun z => nomatch z
  -- what stays, from the beginning on
  have keepN : ∀ H', SameX p H H' → Keeps (fun b => H b ≠ none) H H' := fun H' s' => ⟨s'.tupsW W, fun b o e n => absurd e (fun z => n (by rw [z]; exact fun y => nomatch y))⟩
  have fin : ∀ H' L' us', SameX p H H' → WellAt H' p → H' L' = some (.lst us') → L' ≠ p → (L' = L ∨ H L' = none) → RwE (fun b => H b ≠ none) H' us' → us'.length ≤ 20 → Q (.ref L') H' := fun H' L' us' s' W' e n z r l => k L' us' H' W' s' e n z r l
  have nq : ∀ {H' : Hp} {q : Addr}, SameX p H H' → WellAt H' p → H' q = none → H q = none := fun {H' q} s' W' hq => by
    cases z : H q with
    | none => rfl
    | some o =>
      have qp : q ≠ p := fun y => by
        obtain ⟨xs, e⟩ := W'.some
        rw [y, e] at hq; cases hq
      rw [s' q o z qp] at hq; cases hq
  have npq : ∀ {H' : Hp} {q : Addr}, WellAt H' p → H' q = none → q ≠ p := fun {H' q} W' hq z => by
    obtain ⟨xs, e⟩ := W'.some
    rw [z, e] at hq; cases hq
  refine ⟨_, rfl, p, 10, rfl, W, small_lit (by decide) (by decide), fun way H1 w0 w1 W1 s1 => ?_⟩
  refine ⟨_, rfl, nn (Nat.le_of_ble_eq_true rfl), fun e0 he0 => ?_⟩
  have g1 := same_new he0 (.lst [])
  have s1' : SameX p H (upd H1 e0 (.lst [])) := s1.trans (SameX.of g1)
  have W1' := W1.same g1
  generalize hH2 : upd H1 e0 (.lst []) = H2 at g1 s1' W1' ⊢
  have ee : H2 e0 = some (.lst []) := by rw [← hH2]; exact upd_same
  have eL2 : H2 L = some (.lst us) := s1' L _ hL Lp
  refine ⟨L, e0, us, rfl, rfl, SqL.of eL2, SqL.of ee, _, rfl, ?_⟩
  cases hie : us.isEmpty with
  | true =>
    have hus : us = [] := List.isEmpty_iff.mp hie
    exact iteT (iteT ⟨_, rfl, fin H2 L us s1' W1' eL2 Lp (.inl rfl) ((hrw _).mono (keepN _ s1')) (by omega)⟩)
  | false =>
  have hpos : 0 < us.length := by
    cases us with
    | nil => cases hie
    | cons _ _ => simp
  refine iteF ⟨_, rfl, _, _, rfl, rfl, _, rfl, ite2 (fun c => ?_) (fun c => ?_)⟩
  · exact ⟨_, rfl, fin H2 L us s1' W1' eL2 Lp (.inl rfl) ((hrw _).mono (keepN _ s1')) (by omega)⟩
  refine ⟨_, rfl, _, rfl, L, us, rfl, .inl (SqL.of eL2), p, us.length, rfl, W1', small_lit (by omega) (by omega), fun at' H3 a0 a1 W3 s3 => ?_⟩
  refine ⟨nn (Nat.le_of_ble_eq_true rfl), fun e1 he1 => ?_⟩
  have g3 := same_new he1 (.lst [])
  refine ⟨_, _, rfl, rfl, by decide +kernel, by decide, by decide, _, _, rfl, rfl, ⟨by decide, by decide, by decide⟩, nn (Nat.le_of_ble_eq_true rfl), fun t5 ht5 => ?_⟩
  have g4 := same_new ht5 (.tup [.int 1, .int 2, .int 3, .int 4, .int 5])
  refine ⟨nn (Nat.le_of_ble_eq_true rfl), fun l6 hl6 => ?_⟩
  have g5 := same_new hl6 (.lst [.bl true, .non, .ref e1, .str (repS "a" 41), .int ((10 : Int) ^ (60 : Int).toNat), .ref t5])
  have g35 := (g3.trans g4).trans g5
  have e1N : ¬ (H e1 ≠ none) := fun z => by
    cases y : H e1 with
    | none => exact z y
    | some o =>
      have := s3 e1 o (s1' e1 o y (npq W3 he1)) (npq W3 he1)
      rw [he1] at this; cases this
  have W6 := W3.same g35
  have s6 : SameX p H _ := (s1'.trans s3).trans (SameX.of g35)
  generalize hH6 : upd (upd (upd H3 e1 (.lst [])) t5 (.tup [.int 1, .int 2, .int 3, .int 4, .int 5])) l6 (.lst [.bl true, .non, .ref e1, .str (repS "a" 41), .int ((10 : Int) ^ (60 : Int).toNat), .ref t5]) = H6 at W6 s6 ⊢
  have el6 : H6 l6 = some (.lst [.bl true, .non, .ref e1, .str (repS "a" 41), .int ((10 : Int) ^ (60 : Int).toNat), .ref t5]) := by rw [← hH6]; exact upd_same
  have ee1 : H6 e1 = some (.lst []) := by rw [← hH6]; exact (g4.trans g5) _ _ upd_same
  have et5 : H6 t5 = some (.tup [.int 1, .int 2, .int 3, .int 4, .int 5]) := by rw [← hH6]; exact g5 _ _ upd_same
  have l6p : l6 ≠ p := npq ((W3.same g3).same g4) hl6
  have e1p : e1 ≠ p := npq W3 he1
  refine ⟨_, rfl, p, 6, rfl, W6, small_lit (by decide) (by decide), fun j H7 j0 j1 W7 s7 => ?_⟩
  obtain ⟨bad, ab, mb⟩ := atI_in (xs := [V.bl true, .non, .ref e1, .str (repS "a" 41), .int ((10 : Int) ^ (60 : Int).toNat), .ref t5]) j0 j1
  have el7 := s7 _ _ el6 l6p
  have hbad : Thg (fun b => H b ≠ none) H7 bad none := by
    have hten : (10 : Int) ^ 60 ≤ (10 : Int) ^ (60 : Int).toNat := by decide +kernel
    generalize (10 : Int) ^ (60 : Int).toNat = M at mb hten
    simp only [List.mem_cons, List.not_mem_nil, or_false] at mb
    rcases mb with rfl | rfl | rfl | rfl | rfl | rfl
    · exact .inl ⟨true, rfl⟩
    · exact .inr (.inl rfl)
    · exact .inr (.inr (.inl ⟨e1, [], rfl, s7 _ _ ee1 e1p, e1N⟩))
    · exact .inr (.inr (.inr (.inl ⟨_, rfl, rep_len⟩)))
    · exact .inr (.inr (.inr (.inr (.inl ⟨_, rfl, hten⟩))))
    · exact .inr (.inr (.inr (.inr (.inr ⟨t5, rfl, (s7.tupsW W6) _ _ et5⟩))))
  refine .inl ⟨l6, _, _, bad, rfl, rfl, SqL.of el7, ab, ?_⟩
  clear ab mb el7 el6 ee1 et5 hH6 g35 g3 g4 g5
  have s07 : SameX p H H7 := s6.trans s7
  have eL7 : H7 L = some (.lst us) := s07 L _ hL Lp
  have rw7 : RwE (fun b => H b ≠ none) H7 us := (hrw _).mono (keepN _ s07)
  have ea : at' = ((at'.toNat : Nat) : Int) := by omega
  have hau : us[at'.toNat]? = some (us[at'.toNat]'(by omega)) := List.getElem?_eq_getElem (by omega)
  obtain ⟨a, vk, vv, o1, o2, eu, ta, h1, h2⟩ := rw7.at hau
  rw [eu] at hau
  have av : ∀ {xs : List V}, xs = us → atI xs at' = some (.ref a) := fun {xs} e => by rw [e, ea]; exact atI_nat hau
  refine ⟨_, rfl, rfl, _, rfl, ite2 (fun c5 => ?_) (fun c5 => ?_)⟩
  · refine ⟨_, rfl, _, rfl, _, rfl, L, us, rfl, SqL.of eL7, fun q1 hq1 => ?_⟩
    have g1 := same_new hq1 (.lst (cutV us none (some at')))
    refine ⟨_, rfl, _, rfl, .inl ⟨L, us, _, _, rfl, rfl, SqL.of (g1 _ _ eL7), av rfl, .inr (.inl ⟨a, _, _, vk, rfl, rfl, SqT.of (g1 _ _ ta), rfl, _, rfl, nn (Nat.le_of_ble_eq_true rfl), fun q2 hq2 => ⟨nn (Nat.le_of_ble_eq_true rfl), fun q3 hq3 => ?_⟩⟩)⟩⟩
    have g2 := same_new hq2 (.tup [vk, bad])
    have g3 := same_new hq3 (.lst [.ref q2])
    refine ⟨q1, q3, _, _, rfl, rfl, (g2.trans g3) _ _ upd_same, upd_same, nn (by have := cutV_length us none (some at'); simp; omega), fun q4 hq4 => ?_⟩
    have g4 := same_new hq4 (.lst (cutV us none (some at') ++ [.ref q2]))
    have g14 := ((g1.trans g2).trans g3).trans g4
    refine ⟨_, rfl, _, rfl, _, _, rfl, rfl, _, rfl, L, us, rfl, SqL.of (g14 _ _ eL7), fun q5 hq5 => ?_⟩
    have g5 := same_new hq5 (.lst (cutV us (some (at' + 1)) none))
    refine ⟨q4, q5, _, _, rfl, rfl, g5 _ _ upd_same, upd_same, nn (by have := cutV_length us none (some at'); have := cutV_length us (some (at' + 1)) none; simp; omega), fun q6 hq6 => ?_⟩
    have g6 := same_new hq6 (.lst (cutV us none (some at') ++ [.ref q2] ++ cutV us (some (at' + 1)) none))
    have gA := (g14.trans g5).trans g6
    have gB := ((g3.trans g4).trans g5).trans g6
    have gC := gB _ _ (upd_same (H := upd H7 q1 (.lst (cutV us none (some at')))) (a := q2) (o := .tup [vk, bad]))
    refine fin _ q6 _ (s07.trans (SameX.of gA)) (W7.same gA) upd_same (npq (W7.same (g14.trans g5)) hq6) (.inr (nq (s07.trans (SameX.of (g14.trans g5))) (W7.same (g14.trans g5)) hq6)) ?_ (by have := cutV_length us none (some at'); have := cutV_length us (some (at' + 1)) none; simp; omega)
    exact (((rw7.mono (Keeps.same gA)).cut _ _).app (RwE.one gC (h1.mono (Keeps.same gA)) (hbad.mono (Keeps.same gA)))).app ((rw7.mono (Keeps.same gA)).cut _ _)
  refine ⟨_, rfl, rfl, _, rfl, ite2 (fun c5 => ?_) (fun c5 => ?_)⟩
  · refine ⟨_, rfl, _, rfl, _, rfl, L, us, rfl, SqL.of eL7, fun q1 hq1 => ?_⟩
    have g1 := same_new hq1 (.lst (cutV us none (some at')))
    refine ⟨_, rfl, _, rfl, _, rfl, .inl ⟨L, us, _, _, rfl, rfl, SqL.of (g1 _ _ eL7), av rfl, .inr (.inl ⟨a, _, _, vv, rfl, rfl, SqT.of (g1 _ _ ta), rfl, nn (Nat.le_of_ble_eq_true rfl), fun q2 hq2 => ⟨nn (Nat.le_of_ble_eq_true rfl), fun q3 hq3 => ?_⟩⟩)⟩⟩
    have g2 := same_new hq2 (.tup [bad, vv])
    have g3 := same_new hq3 (.lst [.ref q2])
    refine ⟨q1, q3, _, _, rfl, rfl, (g2.trans g3) _ _ upd_same, upd_same, nn (by have := cutV_length us none (some at'); simp; omega), fun q4 hq4 => ?_⟩
    have g4 := same_new hq4 (.lst (cutV us none (some at') ++ [.ref q2]))
    have g14 := ((g1.trans g2).trans g3).trans g4
    refine ⟨_, rfl, _, rfl, _, _, rfl, rfl, _, rfl, L, us, rfl, SqL.of (g14 _ _ eL7), fun q5 hq5 => ?_⟩
    have g5 := same_new hq5 (.lst (cutV us (some (at' + 1)) none))
    refine ⟨q4, q5, _, _, rfl, rfl, g5 _ _ upd_same, upd_same, nn (by have := cutV_length us none (some at'); have := cutV_length us (some (at' + 1)) none; simp; omega), fun q6 hq6 => ?_⟩
    have g6 := same_new hq6 (.lst (cutV us none (some at') ++ [.ref q2] ++ cutV us (some (at' + 1)) none))
    have gA := (g14.trans g5).trans g6
    have gB := ((g3.trans g4).trans g5).trans g6
    have gC := gB _ _ (upd_same (H := upd H7 q1 (.lst (cutV us none (some at')))) (a := q2) (o := .tup [bad, vv]))
    refine fin _ q6 _ (s07.trans (SameX.of gA)) (W7.same gA) upd_same (npq (W7.same (g14.trans g5)) hq6) (.inr (nq (s07.trans (SameX.of (g14.trans g5))) (W7.same (g14.trans g5)) hq6)) ?_ (by have := cutV_length us none (some at'); have := cutV_length us (some (at' + 1)) none; simp; omega)
    exact (((rw7.mono (Keeps.same gA)).cut _ _).app (RwE.one gC (hbad.mono (Keeps.same gA)) (h2.mono (Keeps.same gA)))).app ((rw7.mono (Keeps.same gA)).cut _ _)
  refine ⟨_, rfl, rfl, _, rfl, ite2 (fun c5 => ?_) (fun c5 => ?_)⟩
  · refine ⟨_, rfl, _, rfl, _, rfl, .inl ⟨L, us, _, _, rfl, rfl, SqL.of eL7, av rfl, .inr (.inl ⟨a, _, _, vk, rfl, rfl, SqT.of ta, rfl, nn (Nat.le_of_ble_eq_true rfl), fun q2 hq2 => ⟨nn (Nat.le_of_ble_eq_true rfl), fun q3 hq3 => ?_⟩⟩)⟩⟩
    have g2 := same_new hq2 (.tup [vk, .int 5])
    have g3 := same_new hq3 (.lst [.ref q2])
    have g23 := g2.trans g3
    refine ⟨L, q3, _, _, rfl, rfl, g23 _ _ eL7, upd_same, nn (by simp; omega), fun q4 hq4 => ?_⟩
    have g4 := same_new hq4 (.lst (us ++ [.ref q2]))
    have gA := g23.trans g4
    have gC := (g3.trans g4) _ _ (upd_same (H := H7) (a := q2) (o := .tup [vk, .int 5]))
    refine fin _ q4 _ (s07.trans (SameX.of gA)) (W7.same gA) upd_same (npq (W7.same g23) hq4) (.inr (nq (s07.trans (SameX.of g23)) (W7.same g23) hq4)) ?_ (by simp; omega)
    exact (rw7.mono (Keeps.same gA)).app (RwE.one gC (h1.mono (Keeps.same gA)) (o2 := some (.int 5)) ⟨.int 5, by rw [KT.fits]; decide +kernel⟩)
  refine ⟨_, rfl, rfl, _, rfl, ite2 (fun c5 => ?_) (fun c5 => ?_)⟩
  · refine ⟨_, rfl, _, rfl, nn (Nat.le_of_ble_eq_true rfl), fun q2 hq2 => ⟨nn (Nat.le_of_ble_eq_true rfl), fun q3 hq3 => ?_⟩⟩
    have g2 := same_new hq2 (.tup [.str "", bad])
    have g3 := same_new hq3 (.lst [.ref q2])
    have g23 := g2.trans g3
    refine ⟨L, q3, _, _, rfl, rfl, g23 _ _ eL7, upd_same, nn (by simp; omega), fun q4 hq4 => ?_⟩
    have g4 := same_new hq4 (.lst (us ++ [.ref q2]))
    have g24 := g23.trans g4
    refine ⟨_, rfl, _, rfl, _, rfl, L, us, rfl, SqL.of (g24 _ _ eL7), fun q5 hq5 => ?_⟩
    have g5 := same_new hq5 (.lst (cutV us (some at') none))
    refine ⟨q4, q5, _, _, rfl, rfl, g5 _ _ upd_same, upd_same, nn (by have := cutV_length us (some at') none; simp; omega), fun q6 hq6 => ?_⟩
    have g6 := same_new hq6 (.lst (us ++ [.ref q2] ++ cutV us (some at') none))
    have gA := (g24.trans g5).trans g6
    have gC := (((g3.trans g4).trans g5).trans g6) _ _ (upd_same (H := H7) (a := q2) (o := .tup [.str "", bad]))
    refine fin _ q6 _ (s07.trans (SameX.of gA)) (W7.same gA) upd_same (npq (W7.same (g24.trans g5)) hq6) (.inr (nq (s07.trans (SameX.of (g24.trans g5))) (W7.same (g24.trans g5)) hq6)) ?_ (by have := cutV_length us (some at') none; simp; omega)
    exact ((rw7.mono (Keeps.same gA)).app (RwE.one gC (o1 := some (.str "")) ⟨.str _, by rw [KT.fits]; decide +kernel⟩ (hbad.mono (Keeps.same gA)))).app ((rw7.mono (Keeps.same gA)).cut _ _)
  refine ⟨_, rfl, _, rfl, _, rfl, L, us, rfl, SqL.of eL7, fun q1 hq1 => ?_⟩
  have g1 := same_new hq1 (.lst (cutV us (some at') none))
  refine ⟨_, rfl, _, rfl, _, rfl, L, us, rfl, SqL.of (g1 _ _ eL7), fun q2 hq2 => ?_⟩
  have g2 := same_new hq2 (.lst (cutV us none (some at')))
  refine ⟨q1, q2, _, _, rfl, rfl, g2 _ _ upd_same, upd_same, nn (by have := cutV_length us none (some at'); have := cutV_length us (some at') none; omega), fun q3 hq3 => ?_⟩
  have g3 := same_new hq3 (.lst (cutV us (some at') none ++ cutV us none (some at')))
  have gA := (g1.trans g2).trans g3
  refine fin _ q3 _ (s07.trans (SameX.of gA)) (W7.same gA) upd_same (npq (W7.same (g1.trans g2)) hq3) (.inr (nq (s07.trans (SameX.of (g1.trans g2))) (W7.same (g1.trans g2)) hq3)) ?_ (by have := cutV_length us none (some at'); have := cutV_length us (some at') none; rw [List.length_append]; omega)
  exact ((rw7.mono (Keeps.same gA)).cut _ _).app ((rw7.mono (Keeps.same gA)).cut _ _)
end
end Tw
set_option Elab.async false
set_option linter.all false
set_option maxRecDepth 100000
set_option maxHeartbeats 8000000
namespace L2
open PySem PySem.Spec PyProof.Rows
/-- a try whose body raises nothing -/
theorem ps_tryCalm {X : Cx} {body : List Stmt} {h₀ : ExceptHandler} {hs : List ExceptHandler} {pos : Pos} {t : TS} (hb : ∀ E', PSs (X.wish E') body t) : PS X (.Try body (h₀ :: hs) [] [] pos) t := by
  intro pins s σ H D I h
  have key : ∀ E', wpAny (model X.prog X.w) X.A (execs body X.env) (fun f s₁ => match f with | .next => wpAny (model X.prog X.w) X.A (execs [] X.env) (SP X pins D) X.xe s₁ | f => SP X pins D f s₁) E' s := fun E' => by
    refine wpAny_mono (hb E' pins s σ H D (I.wish E') h) (fun fl s1 q => ?_) fun _ _ z => z
    cases fl with
    | next =>
      obtain ⟨σ', H', J, q⟩ := q
      exact wpAny_execs_nil ⟨σ', H', J.unwish, q⟩
    | brk =>
      obtain ⟨σ', H', J, q⟩ := q
      exact ⟨σ', H', J.unwish, q⟩
    | cont =>
      obtain ⟨σ', H', J, q⟩ := q
      exact ⟨σ', H', J.unwish, q⟩
    | ret u =>
      obtain ⟨v, σ', H', J, r, q⟩ := q
      exact ⟨v, σ', H', J.unwish, r, q⟩
  exact wpAny_Try_except (key _)
end L2
namespace Tw
open PySem PySem.Spec L2 PyProof.Rows
/-- a method, by what it promises -/
structure MethOk (P : Program) (w : World) (K : PySem.W.Frag) (mg : Str → Option Value) (base : Heap) (CX : CXT) (k : Nat) (C : Addr) (m : Str) (ps : List Str) (sp : Sp) : Prop where
  ex : ∃ f fd, Meth K C m f ∧ FnOk P w K mg base CX k f fd ps sp ∧ Binds K fd ps []
theorem pe_mthX {X : Cx} {CX : CXT} {k : Nat} {C : Addr} {m : Str} {ps : List Str} {sp : Sp} {E : XK} {o e : Expr} {es : List Expr} {ta : TE} {t : TA} {pos apos : Pos} {pl : Sem Bool} (he : PE X o ta) (c : Cls X.K C) (D : MethOk X.prog X.w X.K X.mg X.base CX k C m ps sp) (hr : Room k X.A) (hx : Passes CX X E) (ha : PA X (e :: es) t)
    (hst : starEach (e :: es) X.env = (false, eval e X.env) :: starEach es X.env := by rfl) (hpl : (backTo pos (starEach es X.env)).any (·.1) = false := by rfl)
    (ht : eval (.Call (.Attribute o m apos) (e :: es) [] pos) X.env = (do
      let ov ← eval o X.env
      standAt apos.atName
      let (f, first) ← holding [ov] (getMethod ov m pl)
      callWith pos f first (backTo pos (starEach (e :: es) X.env)) (backToKw pos (keywordEach [] X.env))) := by rfl) :
    PE X (.Call (.Attribute o m apos) (e :: es) [] pos) (tMeth C m sp [] E ta t) := by
  obtain ⟨f, fd, M, F, b⟩ := D.ex
  exact pe_meth he c M F hr b .nil hx ha hst hpl ht
theorem pe_mth0 {X : Cx} {CX : CXT} {k : Nat} {C : Addr} {m : Str} {ps : List Str} {sp : Sp} {E : XK} {o : Expr} {ta : TE} {pos apos : Pos} {pl : Sem Bool} (he : PE X o ta) (c : Cls X.K C) (D : MethOk X.prog X.w X.K X.mg X.base CX k C m ps sp) (hr : Room k X.A) (hx : Passes CX X E)
    (ht : eval (.Call (.Attribute o m apos) [] [] pos) X.env = (do
      let ov ← eval o X.env
      standAt apos.atName
      let (f, first) ← holding [ov] (getMethod ov m pl)
      callWith pos f first (backTo pos (starEach [] X.env)) (backToKw pos (keywordEach [] X.env))) := by rfl) :
    PE X (.Call (.Attribute o m apos) [] [] pos) (tMeth C m sp [] E ta tNil) := by
  obtain ⟨f, fd, M, F, b⟩ := D.ex
  exact pe_meth0 he c M F hr b .nil hx ht
abbrev iTwig : Stmt := inClass (top 23) 0
abbrev iShelf : Stmt := inClass (top 29) 0
abbrev mPutLeaf : Stmt := inClass (top 29) 1
abbrev mPutTwig : Stmt := inClass (top 29) 3
abbrev mHolders : Stmt := inClass (top 29) 7
abbrev mOutside : Stmt := inClass (top 29) 8
abbrev mAlone : Stmt := inClass (top 29) 9
abbrev mLook : Stmt := inClass (top 29) 12
abbrev mLabel : Stmt := inClass (top 29) 13
abbrev mNumbers : Stmt := inClass (top 29) 16
abbrev mMany : Stmt := inClass (top 29) 17
abbrev mTwigOf : Stmt := inClass (top 29) 18
abbrev mRoad : Stmt := inClass (top 29) 23
/-- what the written part says of the two classes -/
structure ShF (K : PySem.W.Frag) (mg : Str → Option Value) (CSh CTw : Addr) : Prop where
  shelf : mg "Shelf" = some (.ref CSh)
  twig : mg "Twig" = some (.ref CTw)
  cS : Cls K CSh
  cT : Cls K CTw
  nk : NoAttr K CSh "kept"
  nf : NoAttr K CSh "following"
  nl : NoAttr K CSh "looks"
  nth : NoAttr K CTw "things"
  ntg : NoAttr K CTw "tag"
  nab : NoAttr K CTw "above"
  nho : NoAttr K CTw "holds"
abbrev shFs (d lk : Addr) (n : Nat) : List (Str × V) := [("kept", .ref d), ("following", .int n), ("looks", .ref lk)]
abbrev twFs (th tg : V) (ab : Addr) : List (Str × V) := [("things", th), ("tag", tg), ("above", .ref ab), ("holds", .int 1)]
structure ShAt (CSh : Addr) (H : Hp) (S d lk : Addr) (n : Nat) (kvs : List (Key × V)) (ls : List V) : Prop where
  self : ∃ dx, H S = some (.ins CSh dx (shFs d lk n))
  kept : H d = some (.dK kvs)
  looks : H lk = some (.lst ls)
structure TwAt (CTw : Addr) (H : Hp) (x : Addr) (th tg : V) (ab : Addr) : Prop where
  self : ∃ dx, H x = some (.ins CTw dx (twFs th tg ab))
  above : H ab = some (.lst [])
theorem ShAt.same {CSh : Addr} {H H' : Hp} {S d lk : Addr} {n : Nat} {kvs : List (Key × V)} {ls : List V} (h : ShAt CSh H S d lk n kvs ls) (s : Same H H') : ShAt CSh H' S d lk n kvs ls := by
  obtain ⟨⟨dx, e⟩, h2, h3⟩ := h
  exact ⟨⟨dx, s _ _ e⟩, s _ _ h2, s _ _ h3⟩
theorem TwAt.same {CTw : Addr} {H H' : Hp} {x : Addr} {th tg : V} {ab : Addr} (h : TwAt CTw H x th tg ab) (s : Same H H') : TwAt CTw H' x th tg ab := by
  obtain ⟨⟨dx, e⟩, h2⟩ := h
  exact ⟨⟨dx, s _ _ e⟩, s _ _ h2⟩
section
variable {P : Program} {w : World} {K : PySem.W.Frag} {mg : Str → Option Value} {base : Heap} {f : Addr} {fd : FuncData} {CSh CTw : Addr}
/-! ### Twig.__init__ -/
def spTwI (CTw : Addr) : Sp := fun vs H Q _ => ∃ (x dx : Addr) (th tg : V), vs = [.ref x, th, tg] ∧ H x = some (.ins CTw dx []) ∧ ∀ (H' : Hp) (ab : Addr), (∀ b o, b ≠ x → H b = some o → H' b = some o) → H ab = none → TwAt CTw H' x th tg ab → Q .non H'
theorem scTwI : FnScope ["self", "things", "tag"] ["self", "things", "tag"] (defScope iTwig) := ⟨rfl, rfl, rfl, by decide +kernel, rfl, by decide +kernel, by decide +kernel⟩
theorem ok_twi (F : Fun K "__init__" "Twig.__init__" iTwig f fd) (L : ShF K mg CSh CTw) : FnOk P w K mg base CX0 1 f fd ["self", "things", "tag"] (spTwI CTw) := by
  refine F.ok scTwI (fun vs H Q E h => (by obtain ⟨_, _, _, _, rfl, _⟩ := h; rfl)) (fun cdv A outer s H vs Q E hr h => ?_)
  obtain ⟨x, dx, th, tg, rfl, hx, k⟩ := h
  refine ⟨_, pss_cons (ps_fld (pv 0) (pv 1) rfl) (pss_cons (ps_fld (pv 0) (pv 2) rfl) (pss_cons (ps_fld (pv 0) (pe_lst pa_nil) rfl) (pss_one (ps_fld (pv 0) pe_int rfl)))), ?_⟩
  refine ⟨_, rfl, _, rfl, x, CTw, dx, _, rfl, hx, L.cT, L.nth, Nat.le_of_ble_eq_true rfl, ?_⟩
  refine ⟨_, rfl, _, rfl, x, CTw, dx, _, rfl, upd_same, L.cT, L.ntg, Nat.le_of_ble_eq_true rfl, ?_⟩
  refine ⟨nn (Nat.le_of_ble_eq_true rfl), fun ab hab => ?_⟩
  rw [upd_upd] at hab ⊢
  have xab : x ≠ ab := fun z => by rw [← z, upd_same] at hab; cases hab
  have nab : H ab = none := by rw [upd_ne (Ne.symm xab)] at hab; exact hab
  refine ⟨_, rfl, x, CTw, dx, _, rfl, (by rw [upd_ne xab]; exact upd_same), L.cT, L.nab, Nat.le_of_ble_eq_true rfl, ?_⟩
  refine ⟨_, rfl, x, CTw, dx, _, rfl, upd_same, L.cT, L.nho, Nat.le_of_ble_eq_true rfl, ?_⟩
  refine k _ ab (fun b o n e => ?_) nab ⟨⟨dx, upd_same⟩, ?_⟩
  · rw [upd_upd, upd_ne n, upd_ne (ne_of_none e nab), upd_ne n]; exact e
  · rw [upd_upd, upd_ne (Ne.symm xab)]; exact upd_same
/-! ### Shelf.__init__ -/
def spShI (CSh : Addr) : Sp := fun vs H Q _ => ∃ (x dx : Addr), vs = [.ref x] ∧ H x = some (.ins CSh dx []) ∧ ∀ (H' : Hp) (d lk : Addr), (∀ b o, b ≠ x → H b = some o → H' b = some o) → H d = none → H lk = none → d ≠ lk → ShAt CSh H' x d lk 0 [] [] → Q .non H'
theorem scShI : FnScope ["self"] ["self"] (defScope iShelf) := ⟨rfl, rfl, rfl, by decide +kernel, rfl, by decide +kernel, by decide +kernel⟩
theorem ok_shi (F : Fun K "__init__" "Shelf.__init__" iShelf f fd) (L : ShF K mg CSh CTw) : FnOk P w K mg base CX0 1 f fd ["self"] (spShI CSh) := by
  refine F.ok scShI (fun vs H Q E h => (by obtain ⟨_, _, rfl, _⟩ := h; rfl)) (fun cdv A outer s H vs Q E hr h => ?_)
  obtain ⟨x, dx, rfl, hx, k⟩ := h
  refine ⟨_, pss_cons (ps_fld (pv 0) pe_dnewK rfl) (pss_cons (ps_fld (pv 0) pe_int rfl) (pss_one (ps_fld (pv 0) (pe_lst pa_nil) rfl))), ?_⟩
  intro d hd
  have xd : x ≠ d := ne_of_none hx hd
  refine ⟨_, rfl, x, CSh, dx, _, rfl, (by rw [upd_ne xd]; exact hx), L.cS, L.nk, Nat.le_of_ble_eq_true rfl, ?_⟩
  refine ⟨_, rfl, x, CSh, dx, _, rfl, upd_same, L.cS, L.nf, Nat.le_of_ble_eq_true rfl, ?_⟩
  refine ⟨nn (Nat.le_of_ble_eq_true rfl), fun lk hlk => ?_⟩
  rw [upd_upd] at hlk ⊢
  have xl : x ≠ lk := fun z => by rw [← z, upd_same] at hlk; cases hlk
  have hlk1 : upd H d (.dK []) lk = none := by rw [upd_ne (Ne.symm xl)] at hlk; exact hlk
  have dl : d ≠ lk := fun z => by rw [← z, upd_same] at hlk1; cases hlk1
  have nlk : H lk = none := by rw [upd_ne (Ne.symm dl)] at hlk1; exact hlk1
  refine ⟨_, rfl, x, CSh, dx, _, rfl, (by rw [upd_ne xl]; exact upd_same), L.cS, L.nl, Nat.le_of_ble_eq_true rfl, ?_⟩
  refine k _ d lk (fun b o n e => ?_) hd nlk dl ⟨⟨dx, upd_same⟩, ?_, ?_⟩
  · rw [upd_ne n, upd_ne (ne_of_none e nlk), upd_ne n, upd_ne (ne_of_none e hd)]; exact e
  · rw [upd_ne (Ne.symm xd), upd_ne dl, upd_ne (Ne.symm xd)]; exact upd_same
  · rw [upd_ne (Ne.symm xl)]; exact upd_same
/-! ### twig_of -/
def spTwigOf (CSh : Addr) : Sp := fun vs H Q _ => ∃ (S d lk : Addr) (n : Nat) (kvs : List (Key × V)) (ls : List V) (i : Int) (tw : V), vs = [.ref S, .int i] ∧ ShAt CSh H S d lk n kvs ls ∧ valV kvs (.inl i) = some tw ∧ Q tw H
theorem scTwigOf : FnScope ["self", "number"] ["self", "number"] (defScope mTwigOf) := ⟨rfl, rfl, rfl, by decide +kernel, rfl, by decide +kernel, by decide +kernel⟩
theorem ok_twigof (F : Fun K "twig_of" "Shelf.twig_of" mTwigOf f fd) (L : ShF K mg CSh CTw) : FnOk P w K mg base CX0 1 f fd ["self", "number"] (spTwigOf CSh) := by
  refine F.ok scTwigOf (fun vs H Q E h => (by obtain ⟨_, _, _, _, _, _, _, _, rfl, _⟩ := h; rfl)) (fun cdv A outer s H vs Q E hr h => ?_)
  obtain ⟨S, d, lk, n, kvs, ls, i, tw, rfl, ⟨⟨dx, hS⟩, hd, hl⟩, hv, k⟩ := h
  have hu := hu_of hr
  refine ⟨_, pss_cons (ps_if (pt_cmp (pc_dnotin hu (pv 1) (pe_fld (pv 0) rfl))) pss_never pss_nil) (pss_one (ps_ret (pe_dget hu (pe_fld (pv 0) rfl) (pv 1) (fun _ _ => rfl)))), ?_⟩
  have hg : DGet H d (.int i) (some tw) := hv ▸ DGet.k (k := Sum.inl i) hd
  refine ⟨_, rfl, _, rfl, S, CSh, dx, _, .ref d, rfl, hS, L.cS, L.nk, rfl, d, some tw, rfl, hg, _, rfl, iteF ?_⟩
  exact ⟨_, rfl, S, CSh, dx, _, .ref d, rfl, hS, L.cS, L.nk, rfl, _, rfl, d, tw, rfl, hg, k⟩
end
end Tw
set_option Elab.async false
set_option linter.all false
set_option maxRecDepth 100000
set_option maxHeartbeats 8000000
namespace Tw
open PySem PySem.Spec L2 PyProof.Rows
structure MkOk (P : Program) (w : World) (K : PySem.W.Frag) (mg : Str → Option Value) (base : Heap) (k : Nat) (C : Addr) (ps : List Str) (sp : Sp) : Prop where
  ex : ∃ f fd, Mk K C f ∧ FnOk P w K mg base CX0 k f fd ps sp ∧ Binds K fd ps []
/-- a twig of the shelf -/
structure RdAt (CSh CTw : Addr) (H : Hp) (S d lk : Addr) (n : Nat) (kvs : List (Key × V)) (ls : List V) (i : Int) (x : Addr) (th tg : V) (ab : Addr) : Prop where
  sh : ShAt CSh H S d lk n kvs ls
  val : valV kvs (.inl i) = some (.ref x)
  tw : TwAt CTw H x th tg ab
theorem RdAt.same {CSh CTw : Addr} {H H' : Hp} {S d lk : Addr} {n : Nat} {kvs : List (Key × V)} {ls : List V} {i : Int} {x : Addr} {th tg : V} {ab : Addr} (h : RdAt CSh CTw H S d lk n kvs ls i x th tg ab) (s : Same H H') : RdAt CSh CTw H' S d lk n kvs ls i x th tg ab := ⟨h.sh.same s, h.val, h.tw.same s⟩
section
variable {P : Program} {w : World} {K : PySem.W.Frag} {mg : Str → Option Value} {base : Heap} {f : Addr} {fd : FuncData} {CSh CTw : Addr}
def spRd (CSh CTw : Addr) (res : V → V) : Sp := fun vs H Q _ => ∃ (S d lk : Addr) (n : Nat) (kvs : List (Key × V)) (ls : List V) (i : Int) (x : Addr) (th tg : V) (ab : Addr), vs = [.ref S, .int i] ∧ RdAt CSh CTw H S d lk n kvs ls i x th tg ab ∧ ∀ H', Same H H' → Q (res tg) H'
theorem scOutside : FnScope ["self", "number"] ["self", "number"] (defScope mOutside) := ⟨rfl, rfl, rfl, by decide +kernel, rfl, by decide +kernel, by decide +kernel⟩
theorem ok_outside (F : Fun K "outside" "Shelf.outside" mOutside f fd) (L : ShF K mg CSh CTw) (DT : MethOk P w K mg base CX0 1 CSh "twig_of" ["self", "number"] (spTwigOf CSh)) : FnOk P w K mg base CX0 2 f fd ["self", "number"] (spRd CSh CTw fun _ => .int 1) := by
  refine F.ok scOutside (fun vs H Q E h => (by obtain ⟨_, _, _, _, _, _, _, _, _, _, _, rfl, _⟩ := h; rfl)) (fun cdv A outer s H vs Q E hr h => ?_)
  obtain ⟨S, d, lk, n, kvs, ls, i, x, th, tg, ab, rfl, R, k⟩ := h
  refine ⟨_, pss_one (ps_ret (pe_fld (pe_mthX (E := E0) (pv 0) L.cS DT hr pass0 (pa_c (pv 1) pa_nil)) rfl)), ?_⟩
  obtain ⟨dx, hS⟩ := R.sh.self
  obtain ⟨dt, hx⟩ := R.tw.self
  exact ⟨_, rfl, S, dx, _, rfl, hS, rfl, _, rfl, S, d, lk, n, kvs, ls, i, .ref x, rfl, R.sh, R.val, x, CTw, dt, _, .int 1, rfl, hx, L.cT, L.nho, rfl, k H (Same.refl H)⟩
theorem scLabel : FnScope ["self", "number"] ["self", "number"] (defScope mLabel) := ⟨rfl, rfl, rfl, by decide +kernel, rfl, by decide +kernel, by decide +kernel⟩
theorem ok_label (F : Fun K "label" "Shelf.label" mLabel f fd) (L : ShF K mg CSh CTw) (DT : MethOk P w K mg base CX0 1 CSh "twig_of" ["self", "number"] (spTwigOf CSh)) : FnOk P w K mg base CX0 2 f fd ["self", "number"] (spRd CSh CTw fun tg => tg) := by
  refine F.ok scLabel (fun vs H Q E h => (by obtain ⟨_, _, _, _, _, _, _, _, _, _, _, rfl, _⟩ := h; rfl)) (fun cdv A outer s H vs Q E hr h => ?_)
  obtain ⟨S, d, lk, n, kvs, ls, i, x, th, tg, ab, rfl, R, k⟩ := h
  refine ⟨_, pss_one (ps_ret (pe_fld (pe_mthX (E := E0) (pv 0) L.cS DT hr pass0 (pa_c (pv 1) pa_nil)) rfl)), ?_⟩
  obtain ⟨dx, hS⟩ := R.sh.self
  obtain ⟨dt, hx⟩ := R.tw.self
  exact ⟨_, rfl, S, dx, _, rfl, hS, rfl, _, rfl, S, d, lk, n, kvs, ls, i, .ref x, rfl, R.sh, R.val, x, CTw, dt, _, tg, rfl, hx, L.cT, L.ntg, rfl, k H (Same.refl H)⟩
theorem scHolders : FnScope ["self", "number", "twig"] ["self", "number"] (defScope mHolders) := ⟨rfl, rfl, rfl, by decide +kernel, rfl, by decide +kernel, by decide +kernel⟩
theorem ok_holders (F : Fun K "holders" "Shelf.holders" mHolders f fd) (T : Txt mg) (L : ShF K mg CSh CTw) (DT : MethOk P w K mg base CX0 1 CSh "twig_of" ["self", "number"] (spTwigOf CSh)) : FnOk P w K mg base CX0 2 f fd ["self", "number"] (spRd CSh CTw fun _ => .int 1) := by
  refine F.ok scHolders (fun vs H Q E h => (by obtain ⟨_, _, _, _, _, _, _, _, _, _, _, rfl, _⟩ := h; rfl)) (fun cdv A outer s H vs Q E hr h => ?_)
  obtain ⟨S, d, lk, n, kvs, ls, i, x, th, tg, ab, rfl, R, k⟩ := h
  have nd := scHolders.nd
  refine ⟨_, pss_cons (ps_set (i := 2) nd rfl (Or.inl rfl) (pe_mthX (E := E0) (pv 0) L.cS DT hr pass0 (pa_c (pv 1) pa_nil))) (pss_one (ps_ret (pe_op op_add (pe_callB call_len_seq rfl T.len tb_len (pa_c (pe_fld (pv 2) rfl) pa_nil)) (pe_fld (pv 2) rfl)))), ?_⟩
  obtain ⟨dx, hS⟩ := R.sh.self
  obtain ⟨dt, hx⟩ := R.tw.self
  refine ⟨_, rfl, S, dx, _, rfl, hS, rfl, _, rfl, S, d, lk, n, kvs, ls, i, .ref x, rfl, R.sh, R.val, ?_⟩
  exact ⟨_, rfl, x, CTw, dt, _, .ref ab, rfl, hx, L.cT, L.nab, rfl, ab, [], rfl, .inl (SqL.of R.tw.above), _, rfl, x, CTw, dt, _, .int 1, rfl, hx, L.cT, L.nho, rfl, _, _, rfl, rfl, k H (Same.refl H)⟩
/-! ### road_up, alone -/
def spRoad (CSh CTw : Addr) : Sp := fun vs H Q _ => ∃ (S d lk : Addr) (n : Nat) (kvs : List (Key × V)) (ls : List V) (i : Int) (x : Addr) (th tg : V) (ab : Addr), vs = [.ref S, .int i] ∧ RdAt CSh CTw H S d lk n kvs ls i x th tg ab ∧ ∀ v H', Same H H' → Q v H'
theorem scRoad : FnScope ["self", "number", "road", "above"] ["self", "number"] (defScope mRoad) := ⟨rfl, rfl, rfl, by decide +kernel, rfl, by decide +kernel, by decide +kernel⟩
theorem ok_road (F : Fun K "road_up" "Shelf.road_up" mRoad f fd) (L : ShF K mg CSh CTw) (DT : MethOk P w K mg base CX0 1 CSh "twig_of" ["self", "number"] (spTwigOf CSh)) (DH : MethOk P w K mg base CX0 2 CSh "holders" ["self", "number"] (spRd CSh CTw fun _ => .int 1)) : FnOk P w K mg base CX0 3 f fd ["self", "number"] (spRoad CSh CTw) := by
  refine F.ok scRoad (fun vs H Q E h => (by obtain ⟨_, _, _, _, _, _, _, _, _, _, _, rfl, _⟩ := h; rfl)) (fun cdv A outer s H vs Q E hr h => ?_)
  obtain ⟨S, d, lk, n, kvs, ls, i, x, th, tg, ab, rfl, R, k⟩ := h
  have nd := scRoad.nd
  have hr1 := hr.mono (show 1 ≤ 2 by omega)
  refine ⟨_, pss_cons (ps_set (i := 2) nd rfl (Or.inl rfl) (pe_lst (pa_c (pv 1) pa_nil))) (pss_one (ps_while PassesOwn.never (pt_val pe_bl)
    (pss_cons (ps_if (pt_cmpR op_gt (pe_mthX (E := E0) (pv 0) L.cS DH hr pass0 (pa_c (pe_ix (r := rIx K) ix_seq (pv 2) (pe_un un_neg pe_int) (fun _ _ => rfl)) pa_nil)) pe_int (nomark _)) pss_never pss_nil)
    (pss_cons (ps_set (i := 3) nd rfl (Or.inl rfl) (pe_fld (pe_mthX (E := E0) (pv 0) L.cS DT hr1 pass0 (pa_c (pe_ix (r := rIx K) ix_seq (pv 2) (pe_un un_neg pe_int) (fun _ _ => rfl)) pa_nil)) rfl))
    (pss_cons (ps_if (pt_cmpR (tw_eq_nil hr.units0) (pv 3) (pe_lst pa_nil) (nomark _)) (pss_one (ps_ret (pv 2))) pss_nil)
    (pss_one ps_never)))))), ?_⟩
  refine ⟨_, rfl, nn (Nat.le_of_ble_eq_true rfl), fun r hr0 => ?_⟩
  have g1 := same_new hr0 (.lst [.int i])
  have R1 := R.same g1
  have er : upd H r (.lst [.int i]) r = some (.lst [.int i]) := upd_same
  generalize upd H r (.lst [.int i]) = H1 at g1 R1 er ⊢
  obtain ⟨dx, hS⟩ := R1.sh.self
  obtain ⟨dt, hx⟩ := R1.tw.self
  refine ⟨fun m σ H' => m = 0 ∧ σ = [some (.ref S), some (.int i), some (.ref r), none] ∧ H' = H1, ⟨0, rfl, rfl, rfl⟩, ?_⟩
  rintro m σ H' ⟨rfl, rfl, rfl⟩
  refine ⟨_, rfl, iteT ⟨fun _ _ => False, fun _ _ z => z.elim, ?_⟩⟩
  refine ⟨_, rfl, S, dx, _, rfl, hS, rfl, _, rfl, 1, rfl, .inl ⟨r, _, _, .int i, rfl, rfl, SqL.of er, rfl, S, d, lk, n, kvs, ls, i, x, th, tg, ab, rfl, R1, fun H2 s2 => ?_⟩⟩
  refine ⟨_, _, rfl, rfl, _, rfl, iteF ?_⟩
  have R2 := R1.same s2
  obtain ⟨dx2, hS2⟩ := R2.sh.self
  obtain ⟨dt2, hx2⟩ := R2.tw.self
  refine ⟨_, rfl, S, dx2, _, rfl, hS2, rfl, _, rfl, 1, rfl, .inl ⟨r, _, _, .int i, rfl, rfl, SqL.of (s2 _ _ er), rfl, S, d, lk, n, kvs, ls, i, .ref x, rfl, R2.sh, R2.val, x, CTw, dt2, _, .ref ab, rfl, hx2, L.cT, L.nab, rfl, ?_⟩⟩
  refine ⟨_, rfl, nn (Nat.le_of_ble_eq_true rfl), fun e0 he0 => ?_⟩
  have g3 := same_new he0 (.lst [])
  exact ⟨ab, e0, [], rfl, rfl, SqL.of (g3 _ _ R2.tw.above), SqL.of upd_same, _, rfl, iteT ⟨_, rfl, k _ _ ((g1.trans s2).trans g3)⟩⟩
theorem scAlone : FnScope ["self", "number"] ["self", "number"] (defScope mAlone) := ⟨rfl, rfl, rfl, by decide +kernel, rfl, by decide +kernel, by decide +kernel⟩
theorem ok_alone (F : Fun K "alone" "Shelf.alone" mAlone f fd) (L : ShF K mg CSh CTw) (DR : MethOk P w K mg base CX0 3 CSh "road_up" ["self", "number"] (spRoad CSh CTw)) : FnOk P w K mg base CX0 4 f fd ["self", "number"] (spRd CSh CTw fun _ => .bl true) := by
  refine F.ok scAlone (fun vs H Q E h => (by obtain ⟨_, _, _, _, _, _, _, _, _, _, _, rfl, _⟩ := h; rfl)) (fun cdv A outer s H vs Q E hr h => ?_)
  obtain ⟨S, d, lk, n, kvs, ls, i, x, th, tg, ab, rfl, R, k⟩ := h
  refine ⟨_, pss_cons (ps_tryCalm fun E' => pss_one (ps_expr (pe_mthX (E := E0) (pv 0) L.cS DR hr pass0 (pa_c (pv 1) pa_nil)))) (pss_one (ps_ret pe_bl)), ?_⟩
  obtain ⟨dx, hS⟩ := R.sh.self
  exact ⟨_, rfl, S, dx, _, rfl, hS, rfl, _, rfl, S, d, lk, n, kvs, ls, i, x, th, tg, ab, rfl, R, fun v H' s' => k H' s'⟩
/-! ### is_stem, look -/
def spStem (CTw : Addr) : Sp := fun vs H Q _ => ∃ (x : Addr) (th : V) (tg ab : Addr) (xs : List V), vs = [.ref x] ∧ TwAt CTw H x th (.ref tg) ab ∧ H tg = some (.tup (.int 0 :: xs)) ∧ Q (.bl false) H
theorem scStem : FnScope ["twig"] ["twig"] (defScope sIsStem) := ⟨rfl, rfl, rfl, by decide +kernel, rfl, by decide +kernel, by decide +kernel⟩
theorem ok_stem (F : Fun K "is_stem" "is_stem" sIsStem f fd) (T : Txt mg) (L : ShF K mg CSh CTw) : FnOk P w K mg base CX0 1 f fd ["twig"] (spStem CTw) := by
  refine F.ok scStem (fun vs H Q E h => (by obtain ⟨_, _, _, _, _, rfl, _⟩ := h; rfl)) (fun cdv A outer s H vs Q E hr h => ?_)
  obtain ⟨x, th, tg, ab, xs, rfl, W, ht, k⟩ := h
  obtain ⟨t0, m0⟩ := T.height
  obtain ⟨dt, hx⟩ := W.self
  refine ⟨_, pss_one (ps_ret (pe_cmpR op_gt (pe_ix (r := rIx K) ix_seq (pe_fld (pv 0) rfl) (pe_glob (v := .int 0) rfl m0 ⟨_, rfl⟩) (fun _ _ => rfl)) pe_int (nomark _))), ?_⟩
  exact ⟨_, rfl, x, CTw, dt, _, .ref tg, rfl, hx, L.cT, L.ntg, rfl, .inr (.inl ⟨tg, _, _, .int 0, rfl, rfl, SqT.of ht, atI_nat (j := 0) rfl, _, _, rfl, rfl, k⟩)⟩
def spLook (CSh CTw : Addr) : Sp := fun vs H Q _ => ∃ (S d lk : Addr) (n : Nat) (kvs : List (Key × V)) (ls : List V) (i : Int) (x tl tg ab : Addr) (us xs : List V), vs = [.ref S, .int i] ∧ RdAt CSh CTw H S d lk n kvs ls i x (.ref tl) (.ref tg) ab ∧ H tl = some (.lst us) ∧ H tg = some (.tup (.int 0 :: xs)) ∧ lk ≠ tl ∧ lk ≠ ab ∧ ls.length ≤ 900 ∧
  ∀ (H' : Hp) (l' t : Addr), (∀ b o, b ≠ lk → H b = some o → H' b = some o) → H' lk = some (.lst (ls ++ [.int i])) → H l' = none → H' l' = some (.lst us) → H' t = some (.tup [.str "leaf", .ref l']) → Q (.ref t) H'
theorem scLook : FnScope ["self", "number", "twig"] ["self", "number"] (defScope mLook) := ⟨rfl, rfl, rfl, by decide +kernel, rfl, by decide +kernel, by decide +kernel⟩
theorem ok_look (F : Fun K "look" "Shelf.look" mLook f fd) (T : Txt mg) (L : ShF K mg CSh CTw) (DT : MethOk P w K mg base CX0 1 CSh "twig_of" ["self", "number"] (spTwigOf CSh)) (DS : DefOk P w K mg base 1 "is_stem" ["twig"] (spStem CTw)) : FnOk P w K mg base CX0 2 f fd ["self", "number"] (spLook CSh CTw) := by
  refine F.ok scLook (fun vs H Q E h => (by obtain ⟨_, _, _, _, _, _, _, _, _, _, _, _, _, rfl, _⟩ := h; rfl)) (fun cdv A outer s H vs Q E hr h => ?_)
  obtain ⟨S, d, lk, n, kvs, ls, i, x, tl, tg, ab, us, xs, rfl, R, htl, htg, ltl, lab, l900, k⟩ := h
  have nd := scLook.nd
  refine ⟨_, pss_cons (ps_set (i := 2) nd rfl (Or.inl rfl) (pe_mthX (E := E0) (pv 0) L.cS DT hr pass0 (pa_c (pv 1) pa_nil)))
    (pss_cons (ps_expr (pe_bm PySem.F.plainAttrs_list PySem.F.slot_list_append PySem.F.type_list_append mt_append (pe_fld (pv 0) rfl) (pa_c (pv 1) pa_nil)))
    (pss_cons (ps_if (pt_val (pe_def DS hr (pa_c (pv 2) pa_nil))) pss_never pss_nil)
    (pss_one (ps_ret (pe_tup (pa_c pe_str (pa_c (pe_callTy call_list_of rfl T.list tb_list (pa_c (pe_fld (pv 2) rfl) pa_nil)) pa_nil))))))), ?_⟩
  obtain ⟨dx, hS⟩ := R.sh.self
  obtain ⟨dt, hx⟩ := R.tw.self
  refine ⟨_, rfl, S, dx, _, rfl, hS, rfl, _, rfl, S, d, lk, n, kvs, ls, i, .ref x, rfl, R.sh, R.val, ?_⟩
  have hlk := R.sh.looks
  refine ⟨_, rfl, S, CSh, dx, _, .ref lk, rfl, hS, L.cS, L.nl, rfl, .inl ⟨rfl, _, SqL.of hlk⟩, _, rfl, lk, ls, .int i, rfl, rfl, hlk, small1000 (by omega), ?_⟩
  have ke : ∀ b o, b ≠ lk → H b = some o → upd H lk (.lst (ls ++ [.int i])) b = some o := fun b o n e => by rw [upd_ne n]; exact e
  have xlk : x ≠ lk := ne_of hx hlk (by intro z; cases z)
  have tglk : tg ≠ lk := ne_of htg hlk (by intro z; cases z)
  have hx1 := ke _ _ xlk hx
  have htg1 := ke _ _ tglk htg
  have hab1 := ke _ _ (Ne.symm lab) R.tw.above
  have htl1 := ke _ _ (Ne.symm ltl) htl
  have hlk1 : upd H lk (.lst (ls ++ [.int i])) lk = some (.lst (ls ++ [.int i])) := upd_same
  refine ⟨_, rfl, x, .ref tl, tg, ab, xs, rfl, ⟨⟨dt, hx1⟩, hab1⟩, htg1, _, rfl, iteF ?_⟩
  refine ⟨_, rfl, x, CTw, dt, _, .ref tl, rfl, hx1, L.cT, L.nth, rfl, tl, us, rfl, .inl (SqL.of htl1), fun l' hl' => ⟨nn (Nat.le_of_ble_eq_true rfl), fun t ht => ?_⟩⟩
  have g1 := same_new hl' (.lst us)
  have g2 := same_new ht (.tup [.str "leaf", .ref l'])
  have g := g1.trans g2
  have nl' : H l' = none := by
    cases z : H l' with
    | none => rfl
    | some o =>
      have : l' ≠ lk := fun y => by rw [y, upd_same] at hl'; cases hl'
      rw [upd_ne this, z] at hl'; cases hl'
  exact k _ l' t (fun b o n e => g _ _ (ke b o n e)) (g _ _ hlk1) nl' (g2 _ _ upd_same) upd_same
/-! ### numbers, many -/
def spMany (CSh : Addr) : Sp := fun vs H Q _ => ∃ (S d lk : Addr) (n : Nat) (kvs : List (Key × V)) (ls : List V), vs = [.ref S] ∧ ShAt CSh H S d lk n kvs ls ∧ Q (.int kvs.length) H
theorem scMany : FnScope ["self"] ["self"] (defScope mMany) := ⟨rfl, rfl, rfl, by decide +kernel, rfl, by decide +kernel, by decide +kernel⟩
theorem ok_many (F : Fun K "many" "Shelf.many" mMany f fd) (T : Txt mg) (L : ShF K mg CSh CTw) : FnOk P w K mg base CX0 1 f fd ["self"] (spMany CSh) := by
  refine F.ok scMany (fun vs H Q E h => (by obtain ⟨_, _, _, _, _, _, rfl, _⟩ := h; rfl)) (fun cdv A outer s H vs Q E hr h => ?_)
  obtain ⟨S, d, lk, n, kvs, ls, rfl, R, k⟩ := h
  obtain ⟨dx, hS⟩ := R.self
  refine ⟨_, pss_one (ps_ret (pe_callB call_lenD rfl T.len tb_len (pa_c (pe_fld (pv 0) rfl) pa_nil))), ?_⟩
  exact ⟨_, rfl, S, CSh, dx, _, .ref d, rfl, hS, L.cS, L.nk, rfl, d, kvs, rfl, R.kept, k⟩
def spNumbers (CSh : Addr) : Sp := fun vs H Q _ => ∃ (S d lk : Addr) (n : Nat) (kvs : List (Key × V)) (ls : List V) (ns : List Int), vs = [.ref S] ∧ ShAt CSh H S d lk n kvs ls ∧ kvs.map (·.1) = ns.map Sum.inl ∧ ns.Pairwise (· ≤ ·) ∧ ns.length < 64 ∧ ∀ p, H p = none → Q (.ref p) (upd H p (.lst (ns.map V.int)))
theorem scNumbers : FnScope ["self"] ["self"] (defScope mNumbers) := ⟨rfl, rfl, rfl, by decide +kernel, rfl, by decide +kernel, by decide +kernel⟩
theorem ok_numbers (F : Fun K "numbers" "Shelf.numbers" mNumbers f fd) (T : Txt mg) (L : ShF K mg CSh CTw) : FnOk P w K mg base CX0 1 f fd ["self"] (spNumbers CSh) := by
  refine F.ok scNumbers (fun vs H Q E h => (by obtain ⟨_, _, _, _, _, _, _, rfl, _⟩ := h; rfl)) (fun cdv A outer s H vs Q E hr h => ?_)
  obtain ⟨S, d, lk, n, kvs, ls, ns, rfl, R, e1, e2, e3, k⟩ := h
  obtain ⟨dx, hS⟩ := R.self
  refine ⟨_, pss_one (ps_ret (pe_callB (call_sortD rfl) rfl T.sorted tb_sorted (pa_c (pe_fld (pv 0) rfl) pa_nil))), ?_⟩
  exact ⟨_, rfl, S, CSh, dx, _, .ref d, rfl, hS, L.cS, L.nk, rfl, d, kvs, ns, rfl, R.kept, e1, e2, e3, k⟩
end
end Tw
set_option Elab.async false
set_option linter.all false
set_option maxRecDepth 100000
set_option maxHeartbeats 8000000
namespace Tw
open PySem PySem.Spec L2 PyProof.Rows
theorem pe_mk {X : Cx} {k : Nat} {C : Addr} {x : Str} {ps : List Str} {sp : Sp} {e : Expr} {es : List Expr} {t : TA} {p pos : Pos} (D : MkOk X.prog X.w X.K X.mg X.base k C ps sp) (hr : Room (k + 1) X.A) (hg : Gl X x) (hm : X.mg x = some (.ref C)) (ha : PA X (e :: es) t)
    (hdb : (x == ("__debug__" : Str)) = false := by decide) (he : starEach (e :: es) X.env = (false, eval e X.env) :: starEach es X.env := by rfl) (hpl : (backTo pos (starEach es X.env)).any (·.1) = false := by rfl) :
    PE X (.Call (.Name x p) (e :: es) [] pos) (tMake C sp [] E0 t) := by
  obtain ⟨f, fd, M, F, b⟩ := D.ex
  exact pe_make M F hr hg hm b .nil pass0 ha hdb he hpl
theorem pe_mk0 {X : Cx} {k : Nat} {C : Addr} {x : Str} {ps : List Str} {sp : Sp} {p pos : Pos} (D : MkOk X.prog X.w X.K X.mg X.base k C ps sp) (hr : Room (k + 1) X.A) (hg : Gl X x) (hm : X.mg x = some (.ref C)) (hdb : (x == ("__debug__" : Str)) = false := by decide) : PE X (.Call (.Name x p) [] [] pos) (tMake C sp [] E0 tNil) := by
  obtain ⟨f, fd, M, F, b⟩ := D.ex
  exact pe_make0 M F hr hg hm b .nil pass0 hdb
section
variable {P : Program} {w : World} {K : PySem.W.Frag} {mg : Str → Option Value} {base : Heap} {f : Addr} {fd : FuncData} {CSh CTw : Addr}
/-! ### put_twig -/
def spPutTwig (CSh CTw : Addr) : Sp := fun vs H Q _ => ∃ (S d lk : Addr) (n : Nat) (kvs : List (Key × V)) (ls : List V) (th tg : V), vs = [.ref S, th, tg] ∧ ShAt CSh H S d lk n kvs ls ∧ kvs.length ≤ 100 ∧
  ∀ (H' : Hp) (x ab : Addr), H x = none → H ab = none → (∀ b o, b ≠ S → b ≠ d → H b = some o → H' b = some o) → ShAt CSh H' S d lk (n + 1) (putK kvs (.inl (n : Int)) (.ref x)) ls → TwAt CTw H' x th tg ab → Q (.int (n : Int)) H'
theorem scPutTwig : FnScope ["self", "things", "label", "number"] ["self", "things", "label"] (defScope mPutTwig) := ⟨rfl, rfl, rfl, by decide +kernel, rfl, by decide +kernel, by decide +kernel⟩
theorem ok_puttwig (F : Fun K "put_twig" "Shelf.put_twig" mPutTwig f fd) (L : ShF K mg CSh CTw) (DM : MkOk P w K mg base 1 CTw ["self", "things", "tag"] (spTwI CTw)) : FnOk P w K mg base CX0 3 f fd ["self", "things", "label"] (spPutTwig CSh CTw) := by
  refine F.ok scPutTwig (fun vs H Q E h => (by obtain ⟨_, _, _, _, _, _, _, _, rfl, _⟩ := h; rfl)) (fun cdv A outer s H vs Q E hr h => ?_)
  obtain ⟨S, d, lk, n, kvs, ls, th, tg, rfl, R, l100, k⟩ := h
  have nd := scPutTwig.nd
  have hu := hu_of hr
  refine ⟨_, pss_cons (ps_set (i := 3) nd rfl (Or.inl rfl) (pe_fld (pv 0) rfl)) (pss_cons (ps_fld (pv 0) (pe_op op_add (pv 3) pe_int) rfl)
    (pss_cons (ps_dput hu (pe_fld (pv 0) rfl) (pv 3) (pe_mk DM hr rfl L.twig (pa_c (pv 1) (pa_c (pv 2) pa_nil))) rfl) (pss_one (ps_ret (pv 3))))), ?_⟩
  obtain ⟨⟨dx, hS⟩, hd, hl⟩ := R
  have Sd : S ≠ d := ne_of hS hd (by intro z; cases z)
  have Sl : S ≠ lk := ne_of hS hl (by intro z; cases z)
  have dl : d ≠ lk := ne_of hd hl (by intro z; cases z)
  refine ⟨_, rfl, S, CSh, dx, _, .int n, rfl, hS, L.cS, L.nf, rfl, ?_⟩
  refine ⟨_, rfl, _, _, rfl, rfl, _, rfl, S, CSh, dx, _, rfl, hS, L.cS, L.nf, Nat.le_of_ble_eq_true rfl, ?_⟩
  have hS1 : upd H S (.ins CSh dx (putF "following" (.int ((n : Int) + 1)) (shFs d lk n))) S = some (.ins CSh dx (shFs d lk (n + 1))) := upd_same
  have hd1 : upd H S (.ins CSh dx (putF "following" (.int ((n : Int) + 1)) (shFs d lk n))) d = some (.dK kvs) := by rw [upd_ne (Ne.symm Sd)]; exact hd
  have hl1 : upd H S (.ins CSh dx (putF "following" (.int ((n : Int) + 1)) (shFs d lk n))) lk = some (.lst ls) := by rw [upd_ne (Ne.symm Sl)]; exact hl
  have ke1 : ∀ b o, b ≠ S → H b = some o → upd H S (.ins CSh dx (putF "following" (.int ((n : Int) + 1)) (shFs d lk n))) b = some o := fun b o n e => by rw [upd_ne n]; exact e
  have no1 : ∀ b, upd H S (.ins CSh dx (putF "following" (.int ((n : Int) + 1)) (shFs d lk n))) b = none → H b = none := fun b e => by
    by_cases z : b = S
    · rw [z, upd_same] at e; cases e
    · rw [upd_ne z] at e; exact e
  generalize upd H S (.ins CSh dx (putF "following" (.int ((n : Int) + 1)) (shFs d lk n))) = H1 at hS1 hd1 hl1 ke1 no1 ⊢
  refine ⟨_, rfl, _, rfl, fun x dt nx ndt ne => ?_⟩
  have g1 := same_new ndt (.own x)
  have nx2 : upd H1 dt (.own x) x = none := by rw [upd_ne (Ne.symm ne)]; exact nx
  have g2 := same_new nx2 (.ins CTw dt [])
  have g := g1.trans g2
  refine ⟨x, dt, th, tg, rfl, upd_same, fun H2 ab ke2 nab W => ⟨rfl, ?_⟩⟩
  have fr : ∀ b o, H1 b = some o → H2 b = some o := fun b o e => ke2 b o (ne_of_none e nx) (g b o e)
  have hS2 := fr _ _ hS1
  have hd2 := fr _ _ hd1
  have hl2 := fr _ _ hl1
  have hab1 : H1 ab = none := g.free nab
  obtain ⟨dx2, hx2⟩ := W.self
  have xd : x ≠ d := ne_of hx2 hd2 (by intro z; cases z)
  have abd : ab ≠ d := ne_of W.above hd2 (by intro z; cases z)
  refine ⟨_, rfl, S, CSh, dx, _, .ref d, rfl, hS2, L.cS, L.nk, rfl, _, rfl, d, _, rfl, DPut.k (k := Sum.inl (n : Int)) hd2 (small1000 (by omega)), ?_⟩
  refine ⟨_, rfl, k _ x ab (no1 _ nx) (no1 _ hab1) (fun b o n1 n2 e => ?_) ⟨⟨dx, ?_⟩, upd_same, ?_⟩ ⟨⟨dx2, ?_⟩, ?_⟩⟩
  · rw [upd_ne n2]; exact fr b o (ke1 b o n1 e)
  · rw [upd_ne Sd]; exact hS2
  · rw [upd_ne (Ne.symm dl)]; exact hl2
  · rw [upd_ne xd]; exact hx2
  · rw [upd_ne abd]; exact W.above
/-! ### put_leaf -/
def spPutLeaf (CSh CTw CK CL : Addr) : Sp := fun vs H Q E => ∃ (S d lk : Addr) (n : Nat) (kvs : List (Key × V)) (ls : List V) (l : Addr) (us : List V) (rs : List OKP) (N : Addr → Prop), vs = [.ref S, .ref l] ∧ ShAt CSh H S d lk n kvs ls ∧ kvs.length ≤ 100 ∧ H l = some (.lst us) ∧ RwAt N H rs us ∧ us.length ≤ 100 ∧ N S ∧ N d ∧
  (due rs = 0 → ∀ H', Same H H' → E (.ref CK) none H') ∧ (due rs = 1 → ∀ H', Same H H' → E (.ref CL) none H') ∧
  ∀ (H' : Hp) (x ab l' tg : Addr) (us' xs : List V), due rs = 2 → H x = none → H ab = none → H l' = none → (∀ b o, b ≠ S → b ≠ d → H b = some o → H' b = some o) → ShAt CSh H' S d lk (n + 1) (putK kvs (.inl (n : Int)) (.ref x)) ls →
    TwAt CTw H' x (.ref l') (.ref tg) ab → H' l' = some (.lst us') → RwAt N H' rs us' → H' tg = some (.tup (.int 0 :: xs)) → KeyAt H' (labR (keysOf rs)) (.ref tg) → Q (.int (n : Int)) H'
theorem scPutLeaf : FnScope ["self", "rows", "own"] ["self", "rows"] (defScope mPutLeaf) := ⟨rfl, rfl, rfl, by decide +kernel, rfl, by decide +kernel, by decide +kernel⟩
theorem due2_ok {rs : List OKP} (h : due rs = 2) : okR rs = true ∧ 1 ≤ rs.length ∧ rs.length ≤ 4 := by
  unfold due at h
  split at h
  · rename_i h1
    split at h
    · rename_i h2
      exact ⟨h1, h2.1, h2.2.1⟩
    · cases h
  · cases h
theorem due_cases (rs : List OKP) : due rs = 0 ∨ due rs = 1 ∨ due rs = 2 := by
  unfold due
  split
  · split
    · exact .inr (.inr rfl)
    · exact .inr (.inl rfl)
  · exact .inl rfl
theorem ok_putleaf {CB CK CL CS CT CH CD : Addr} (F : Fun K "put_leaf" "Shelf.put_leaf" mPutLeaf f fd) (T : Txt mg) (L : ShF K mg CSh CTw) (DC : DefX P w K mg base 9 "checked_rows" ["rows"] (spChRows CK CL)) (DL : DefOk P w K mg base 1 "label_of_rows" ["rows"] spLabRows) (DT : MethOk P w K mg base CX0 3 CSh "put_twig" ["self", "things", "label"] (spPutTwig CSh CTw)) :
    FnOk P w K mg base (CXw P w) 10 f fd ["self", "rows"] (spPutLeaf CSh CTw CK CL) := by
  refine F.okX scPutLeaf (fun vs H Q E h => (by obtain ⟨_, _, _, _, _, _, _, _, _, _, rfl, _⟩ := h; rfl)) (fun cdv A outer s H vs Q E hr h => ?_)
  obtain ⟨S, d, lk, n, kvs, ls, l, us, rs, N, rfl, R, l100, hl, hrw, u100, NS, Nd, k0, k1, k2⟩ := h
  have nd := scPutLeaf.nd
  have hr1 := hr.mono (show 1 ≤ 9 by omega)
  have hr3 := hr.mono (show 3 ≤ 9 by omega)
  refine ⟨_, pss_cons (ps_set (i := 2) nd rfl (Or.inl rfl) (pe_defX DC hr (passes_fn (E1 := E) fnx_of fun _ _ _ h => h) (pa_c (pv 1) pa_nil)))
    (pss_one (ps_ret (pe_mthX (E := E0) (pv 0) L.cS DT hr3 pass0 (pa_c (pv 2) (pa_c (pe_def DL hr1 (pa_c (pv 2) pa_nil)) pa_nil))))), ?_⟩
  refine ⟨_, rfl, l, us, rs, N, rfl, hl, hrw, u100, fun H1 s1 => ⟨fun e => k0 e H1 s1, fun e => k1 e H1 s1, fun l' us' e nl' hl' hrw' => ?_⟩⟩
  obtain ⟨hok, h1, h4⟩ := due2_ok e
  have R1 := R.same s1
  obtain ⟨dx, hS⟩ := R1.self
  have lu := Paired.length hrw'
  refine ⟨_, rfl, S, dx, _, rfl, hS, rfl, _, rfl, _, rfl, l', us', keysOf rs, rfl, hl', row_keys hrw' hok, by omega, fun H2 v s2 kv => ?_⟩
  have kv' := kv
  unfold labR at kv'
  rw [KeyAt] at kv'
  obtain ⟨tg, vs, rfl, htg, hvs⟩ := kv'
  obtain ⟨xs, rfl⟩ : ∃ xs, vs = .int 0 :: xs := by
    cases vs with
    | nil => simp [KeysAt] at hvs
    | cons v0 xs =>
      rw [KeysAt] at hvs
      obtain ⟨v1, r1, z, h, _⟩ := hvs
      rw [KeyAt] at h
      exact ⟨xs, by cases z; rw [h]⟩
  have s12 := s1.trans s2
  refine ⟨S, d, lk, n, kvs, ls, .ref l', .ref tg, rfl, R.same s12, l100, fun H3 x ab nx nab fr R3 W3 => ?_⟩
  have l'S : l' ≠ S := ne_of hl' hS (by intro z; cases z)
  have l'd : l' ≠ d := ne_of hl' R1.kept (by intro z; cases z)
  obtain ⟨dx2, hS2⟩ := (R1.same s2).self
  have tgS : tg ≠ S := ne_of htg hS2 (by intro z; cases z)
  have tgd : tg ≠ d := ne_of htg (R1.same s2).kept (by intro z; cases z)
  have tup3 : Tups H2 H3 := fun b ys e => fr b _ (ne_of e hS2 (by intro z; cases z)) (ne_of e (R1.same s2).kept (by intro z; cases z)) e
  have kp : Keeps N H2 H3 := ⟨tup3, fun b o e n => fr b o (fun z => n (by rw [z]; exact NS)) (fun z => n (by rw [z]; exact Nd)) e⟩
  exact k2 H3 x ab l' tg us' xs e (s12.free nx) (s12.free nab) nl' (fun b o n1 n2 e => fr b o n1 n2 (s12 b o e)) R3 W3 (fr _ _ l'S l'd (s2 _ _ hl')) ((hrw'.mono (Keeps.same s2)).mono kp) (fr _ _ tgS tgd htg) (kv.mono tup3 _ _)
end
end Tw
set_option Elab.async false
set_option linter.all false
set_option maxRecDepth 100000
set_option maxHeartbeats 8000000
namespace Tw
open PySem PySem.Spec L2 PyProof.Rows
theorem kit_ll {K : PySem.W.Frag} : PySem.W.kitOne K (.type "list") (.type "list") = some true := by kernel_rfl
theorem maxF_lt {i : Int} : ∀ (l : List Int) (b : Int), b < i → (∀ x ∈ l, x < i) → maxF b l < i
  | [], b, hb, _ => by unfold maxF; exact hb
  | x :: l, b, hb, h => by
    unfold maxF
    refine maxF_lt l _ ?_ fun y hy => h y (List.mem_cons_of_mem _ hy)
    have := h x List.mem_cons_self
    show (if x > b then x else b) < i
    split <;> assumption
theorem maxD_lt {i : Int} {l : List Int} (hb : -1 < i) (h : ∀ x ∈ l, x < i) : maxD (-1) l < i := by
  cases l with
  | nil => exact hb
  | cons x l => exact maxF_lt l x (h x List.mem_cons_self) fun y hy => h y (List.mem_cons_of_mem _ hy)
def rowKT (r : OKP) : KT := .tup [r.1.getD (.int 0), r.2.getD (.int 0)]
theorem row_all {N : Addr → Prop} {H : Hp} : ∀ {rs : List OKP} {us : List V}, RwAt N H rs us → okR rs = true → KeysAt H (rs.map rowKT) us
  | _, _, .nil, _ => .nil
  | r :: rs, _, .cons h t, ok => by
    unfold okR at ok
    rw [List.all_cons, Bool.and_eq_true, Bool.and_eq_true] at ok
    obtain ⟨⟨o1, o2⟩, ok⟩ := ok
    obtain ⟨a, vk, vv, rfl, e, h1, h2⟩ := h
    obtain ⟨t1, e1⟩ := Option.isSome_iff_exists.mp o1
    obtain ⟨t2, e2⟩ := Option.isSome_iff_exists.mp o2
    refine .cons ?_ (row_all t ok)
    unfold rowKT
    rw [e1, e2]
    rw [e1] at h1
    rw [e2] at h2
    exact .tup e (.cons h1.1 (.cons h2.1 .nil))
theorem wide_keys {N : Addr → Prop} {H : Hp} : ∀ {rs : List OKP} {us : List V}, RwAt N H rs us → okR rs = true → (rs.map rowKT).all (·.wide 4) = true
  | _, _, .nil, _ => rfl
  | r :: rs, _, .cons h t, ok => by
    unfold okR at ok
    rw [List.all_cons, Bool.and_eq_true, Bool.and_eq_true] at ok
    obtain ⟨⟨o1, o2⟩, ok⟩ := ok
    obtain ⟨a, vk, vv, rfl, e, h1, h2⟩ := h
    obtain ⟨t1, e1⟩ := Option.isSome_iff_exists.mp o1
    obtain ⟨t2, e2⟩ := Option.isSome_iff_exists.mp o2
    rw [List.map_cons, List.all_cons, wide_keys t ok, Bool.and_true]
    unfold rowKT
    rw [e1, e2]
    rw [e1] at h1
    rw [e2] at h2
    have w1 := wide_of t1 3 h1.2
    have w2 := wide_of t2 3 h2.2
    simp [KT.wide, wideL, w1, w2]
theorem wide_rows {N : Addr → Prop} {H : Hp} {rs : List OKP} {us : List V} (h : RwAt N H rs us) (ok : okR rs = true) (l : rs.length ≤ 100) : (KT.tup (rs.map rowKT)).wide 5 = true := by
  rw [KT.wide, wideL_all, wide_keys h ok, List.length_map, decide_eq_true l]
  rfl
theorem wide_lab {N : Addr → Prop} {H : Hp} {rs : List OKP} {us : List V} (h : RwAt N H rs us) (ok : okR rs = true) (h1 : 1 ≤ rs.length) : (labR (keysOf rs)).wide 5 = true := by
  have hf := row_fit h ok
  have at' : ∀ j, j < rs.length → ((keysOf rs).getD j (.int 0)).wide 4 = true := fun j hj => by
    have hj2 : j < (keysOf rs).length := by rw [keysOf_len]; exact hj
    have f3 : ((keysOf rs).getD j (.int 0)).fits 3 = true := by
      rw [List.getD_eq_getElem?_getD, List.getElem?_eq_getElem hj2]
      exact hf _ (List.getElem_mem hj2)
    refine wide_of _ 4 (fits_more _ 3 4 f3 (Nat.le_succ_of_le (fits_depth _ 3 f3)))
  unfold labR
  rw [KT.wide, wideL_all]
  simp only [List.all_cons, List.all_nil, KT.wide, at' 0 (by omega), at' ((keysOf rs).length - 1) (by rw [keysOf_len]; omega)]
  rfl
section
variable {P : Program} {w : World} {K : PySem.W.Frag} {mg : Str → Option Value} {base : Heap} {f : Addr} {fd : FuncData} {CSh CTw : Addr}
/-! ### _law_is_put -/
structure PutAt (CSh CTw : Addr) (N : Addr → Prop) (H : Hp) (S d lk : Addr) (n : Nat) (kvs : List (Key × V)) (ls : List V) (i : Int) (x l' tg ab : Addr) (us' xs : List V) (rs : List OKP) : Prop where
  rd : RdAt CSh CTw H S d lk n kvs ls i x (.ref l') (.ref tg) ab
  own : H l' = some (.lst us')
  rows : RwAt N H rs us'
  tag : H tg = some (.tup (.int 0 :: xs))
  lab : KeyAt H (labR (keysOf rs)) (.ref tg)
  lkl : lk ≠ l'
  lka : lk ≠ ab
theorem PutAt.same {N : Addr → Prop} {H H' : Hp} {S d lk : Addr} {n : Nat} {kvs : List (Key × V)} {ls : List V} {i : Int} {x l' tg ab : Addr} {us' xs : List V} {rs : List OKP} (h : PutAt CSh CTw N H S d lk n kvs ls i x l' tg ab us' xs rs) (s : Same H H') : PutAt CSh CTw N H' S d lk n kvs ls i x l' tg ab us' xs rs :=
  ⟨h.rd.same s, s _ _ h.own, h.rows.mono (Keeps.same s), s _ _ h.tag, h.lab.mono (Same.tups s) _ _, h.lkl, h.lka⟩
/-- behind a look -/
theorem PutAt.look {N : Addr → Prop} {H H' : Hp} {S d lk : Addr} {n : Nat} {kvs : List (Key × V)} {ls ls' : List V} {i : Int} {x l' tg ab : Addr} {us' xs : List V} {rs : List OKP} (h : PutAt CSh CTw N H S d lk n kvs ls i x l' tg ab us' xs rs) (Nl : N lk) (s : ∀ b o, b ≠ lk → H b = some o → H' b = some o) (e : H' lk = some (.lst ls')) : PutAt CSh CTw N H' S d lk n kvs ls' i x l' tg ab us' xs rs := by
  have hlk := h.rd.sh.looks
  have tu : Tups H H' := fun b ys z => s b _ (ne_of z hlk (by intro y; cases y)) z
  obtain ⟨dx, hS⟩ := h.rd.sh.self
  obtain ⟨dt, hx⟩ := h.rd.tw.self
  exact ⟨⟨⟨⟨dx, s _ _ (ne_of hS hlk (by intro z; cases z)) hS⟩, s _ _ (ne_of h.rd.sh.kept hlk (by intro z; cases z)) h.rd.sh.kept, e⟩, h.rd.val, ⟨⟨dt, s _ _ (ne_of hx hlk (by intro z; cases z)) hx⟩, s _ _ (Ne.symm h.lka) h.rd.tw.above⟩⟩,
    s _ _ (Ne.symm h.lkl) h.own, h.rows.mono ⟨tu, fun b o z nb => s b o (fun y => nb (by rw [y]; exact Nl)) z⟩, tu _ _ h.tag, h.lab.mono tu _ _, h.lkl, h.lka⟩
def spIsPut (CSh CTw : Addr) : Sp := fun vs H Q _ => ∃ (S d lk l told : Addr) (n : Nat) (kvs : List (Key × V)) (ls : List V) (i : Int) (x l' tg ab : Addr) (us us' xs : List V) (rs : List OKP) (ns : List Int) (N : Addr → Prop), vs = [.ref S, .int i, .ref l, .ref told] ∧
  PutAt CSh CTw N H S d lk n kvs ls i x l' tg ab us' xs rs ∧ N lk ∧ H l = some (.lst us) ∧ RwAt N H rs us ∧ lk ≠ l ∧ due rs = 2 ∧ H told = some (.lst (ns.map V.int)) ∧ -1 < i ∧ (∀ y ∈ ns, y < i) ∧ ls.length ≤ 800 ∧
  ∀ (H' : Hp) (ls' : List V), (∀ b o, b ≠ lk → H b = some o → H' b = some o) → H' lk = some (.lst ls') → ls'.length ≤ ls.length + 2 → Q (.bl true) H'
abbrev nIsPut : List Str := ["_law_shelf", "_law_number", "_law_rows", "_law_told", "_law_due_here", "_law_kind", "_law_found"]
theorem scIsPut : FnScope nIsPut ["_law_shelf", "_law_number", "_law_rows", "_law_told"] (defScope sIsPut) := ⟨rfl, rfl, rfl, by decide +kernel, rfl, by decide +kernel, by decide +kernel⟩
theorem ok_isput (F : Fun K "_law_is_put" "_law_is_put" sIsPut f fd) (T : Txt mg) (L : ShF K mg CSh CTw) (DO : MethOk P w K mg base CX0 2 CSh "outside" ["self", "number"] (spRd CSh CTw fun _ => .int 1)) (DH : MethOk P w K mg base CX0 2 CSh "holders" ["self", "number"] (spRd CSh CTw fun _ => .int 1))
    (DA : MethOk P w K mg base CX0 4 CSh "alone" ["self", "number"] (spRd CSh CTw fun _ => .bl true)) (DL : MethOk P w K mg base CX0 2 CSh "label" ["self", "number"] (spRd CSh CTw fun tg => tg)) (DK : MethOk P w K mg base CX0 2 CSh "look" ["self", "number"] (spLook CSh CTw))
    (DLab : DefOk P w K mg base 1 "label_of_rows" ["rows"] spLabRows) (DAl : DefOk P w K mg base 7 "_law_alike" ["_law_found", "_law_due_here"] (spAlike 6)) :
    FnOk P w K mg base CX0 8 f fd ["_law_shelf", "_law_number", "_law_rows", "_law_told"] (spIsPut CSh CTw) := by
  refine F.ok scIsPut (fun vs H Q E h => (by obtain ⟨_, _, _, _, _, _, _, _, _, _, _, _, _, _, _, _, _, _, _, rfl, _⟩ := h; rfl)) (fun cdv A outer s H vs Q E hr h => ?_)
  obtain ⟨S, d, lk, l, told, n, kvs, ls, i, x, l', tg, ab, us, us', xs, rs, ns, N, rfl, R, Nl, hl, hrw, lkl, hdue, htold, hi, hns, l800, k⟩ := h
  have nd := scIsPut.nd
  have hr1 := hr.mono (show 1 ≤ 7 by omega)
  have hr2 := hr.mono (show 2 ≤ 7 by omega)
  have hr4 := hr.mono (show 4 ≤ 7 by omega)
  refine ⟨_, pss_cons (ps_if (PW.pt (pw_or (pt_not (pt_val (pe_callB tw_isinst rfl T.isi tb_isinstance (pa_c (pv 1) (pa_c (pe_bltn (v := .ty "int") rfl T.int tb_int rfl) pa_nil)))))
        (pw_or (pt_val (pe_callB tw_isinst rfl T.isi tb_isinstance (pa_c (pv 1) (pa_c (pe_bltn (v := .ty "bool") rfl T.bool tb_bool rfl) pa_nil))))
        (pw_or1 (pt_cmpR op_le (pv 1) (pe_maxD rfl rfl T.max (pa_c (pv 3) pa_nil) (pk_cons (pe_un un_neg pe_int) pk_nil)) (nomark _)))))) pss_never pss_nil)
    (pss_cons (ps_if (PW.pt (pw_or (pt_cmpR op_ne (pe_mthX (E := E0) (pv 0) L.cS DO hr2 pass0 (pa_c (pv 1) pa_nil)) pe_int (nomark _))
        (pw_or (pt_cmpR op_ne (pe_mthX (E := E0) (pv 0) L.cS DH hr2 pass0 (pa_c (pv 1) pa_nil)) pe_int (nomark _))
        (pw_or1 (pt_cmpR tw_isnot_bl (pe_mthX (E := E0) (pv 0) L.cS DA hr4 pass0 (pa_c (pv 1) pa_nil)) pe_bl (nomark _)))))) pss_never pss_nil)
    (pss_cons (ps_set (i := 4) nd rfl (Or.inl rfl) (pe_tup (pa4 pe_int (pe_ix (r := rIx K) ix_seq (pe_ix (r := rIx K) ix_seq (pv 2) pe_int (fun _ _ => rfl)) pe_int (fun _ _ => rfl)) (pe_ix (r := rIx K) ix_seq (pe_ix (r := rIx K) ix_seq (pv 2) (pe_un un_neg pe_int) (fun _ _ => rfl)) pe_int (fun _ _ => rfl)) (pe_callB call_len_seq rfl T.len tb_len (pa_c (pv 2) pa_nil)))))
    (pss_cons (ps_if (PW.pt (pw_or (pt_not (pt_val (pe_def DAl hr (pa_c (pe_mthX (E := E0) (pv 0) L.cS DL hr2 pass0 (pa_c (pv 1) pa_nil)) (pa_c (pv 4) pa_nil)))))
        (pw_or1 (pt_not (pt_val (pe_def DAl hr (pa_c (pe_def DLab hr1 (pa_c (pe_callTy call_list_of rfl T.list tb_list (pa_c (pv 2) pa_nil)) pa_nil)) (pa_c (pv 4) pa_nil)))))))) pss_never pss_nil)
    (pss_cons (ps_asg (pe_mthX (E := E0) (pv 0) L.cS DK hr2 pass0 (pa_c (pv 1) pa_nil)) (pg_tup rfl (pgs_cons (pg_name (i := 5) nd rfl (Or.inl rfl)) (pgs_cons (pg_name (i := 6) nd rfl (Or.inl rfl)) pgs_nil))))
    (pss_cons (ps_if (PW.pt (pw_or (pt_cmpR op_ne (pv 5) pe_str (nomark _)) (pw_or (pt_not (pt_val (pe_callB tw_isinst rfl T.isi tb_isinstance (pa_c (pv 6) (pa_c (pe_bltn (v := .ty "list") rfl T.list tb_list rfl) pa_nil)))))
        (pw_or1 (pt_not (pt_val (pe_def DAl hr (pa_c (pe_callTy call_tuple_of rfl T.tuple tb_tuple (pa_c (pv 6) pa_nil)) (pa_c (pe_callTy call_tuple_of rfl T.tuple tb_tuple (pa_c (pv 2) pa_nil)) pa_nil))))))))) pss_never pss_nil)
    (pss_cons (ps_expr (pe_bm0 PySem.F.plainAttrs_list PySem.F.slot_list_clear PySem.F.type_list_clear mt_clear (pv 6)))
    (pss_one (ps_ret (pe_def DAl hr (pa_c (pe_callTy call_tuple_of rfl T.tuple tb_tuple (pa_c (pe_ix (r := rIx K) ix_seq (pe_mthX (E := E0) (pv 0) L.cS DK hr2 pass0 (pa_c (pv 1) pa_nil)) pe_int (fun _ _ => rfl)) pa_nil)) (pa_c (pe_callTy call_tuple_of rfl T.tuple tb_tuple (pa_c (pv 2) pa_nil)) pa_nil))))))))))), ?_⟩
  obtain ⟨hok, h1, h4⟩ := due2_ok hdue
  have lu := Paired.length hrw
  refine ⟨_, rfl, _, _, _, _, rfl, .int i, kit_ii, _, rfl, iteF ?_⟩
  refine ⟨_, rfl, _, _, _, _, rfl, .int i, kit_ib, _, rfl, iteF ?_⟩
  refine ⟨_, rfl, _, rfl, 1, rfl, told, ns, -1, rfl, rfl, SqL.of htold, _, _, rfl, rfl, _, rfl, ite2 (fun c => absurd (of_decide_eq_true c) (by have := maxD_lt hi hns; omega)) (fun _ => ?_)⟩
  refine ⟨_, rfl, S, _, _, rfl, (R.rd.sh.self.choose_spec), rfl, _, rfl, S, d, lk, n, kvs, ls, i, x, .ref l', .ref tg, ab, rfl, R.rd, fun H1 s1 => ⟨rfl, _, rfl, iteNS rfl ?_⟩⟩
  have R1 := R.same s1
  refine ⟨_, rfl, S, _, _, rfl, (R1.rd.sh.self.choose_spec), rfl, _, rfl, S, d, lk, n, kvs, ls, i, x, .ref l', .ref tg, ab, rfl, R1.rd, fun H2 s2 => ⟨rfl, _, rfl, iteNS rfl ?_⟩⟩
  have R2 := R1.same s2
  refine ⟨_, rfl, S, _, _, rfl, (R2.rd.sh.self.choose_spec), rfl, _, rfl, S, d, lk, n, kvs, ls, i, x, .ref l', .ref tg, ab, rfl, R2.rd, fun H3 s3 => ⟨true, true, rfl, rfl, false, rfl, iteF ?_⟩⟩
  have R3 := R2.same s3
  have s03 := (s1.trans s2).trans s3
  have hl3 := s03 _ _ hl
  have hrw3 := hrw.mono (Keeps.same s03)
  have hrk := row_keys hrw3 hok
  have u0 : us[0]? = some (us[0]'(by omega)) := List.getElem?_eq_getElem (by omega)
  have u1 : us[us.length - 1]? = some (us[us.length - 1]'(by omega)) := List.getElem?_eq_getElem (by omega)
  obtain ⟨a, ak, av, ea, ta, ka⟩ := hrk.2 0 _ u0
  obtain ⟨b, bk, bv, eb, tb, kb⟩ := hrk.2 _ _ u1
  rw [ea] at u0
  rw [eb] at u1
  refine ⟨_, rfl, .inl ⟨l, us, _, .ref a, rfl, rfl, SqL.of hl3, atI_nat (j := 0) u0, .inr (.inl ⟨a, _, _, ak, rfl, rfl, SqT.of ta, rfl, ?_⟩)⟩⟩
  refine ⟨_, rfl, 1, rfl, .inl ⟨l, us, _, .ref b, rfl, rfl, SqL.of hl3, last_at u1, .inr (.inl ⟨b, _, _, bk, rfl, rfl, SqT.of tb, rfl, ?_⟩)⟩⟩
  refine ⟨_, rfl, l, us, rfl, .inl (SqL.of hl3), nn (Nat.le_of_ble_eq_true rfl), fun p hp => ?_⟩
  have g4 := same_new hp (.tup [.int 0, ak, bk, .int us.length])
  have kp : KeyAt (upd H3 p (.tup [.int 0, ak, bk, .int us.length])) (labR (keysOf rs)) (.ref p) := by
    unfold labR
    rw [← hrk.1]
    exact .tup upd_same (.cons (.int _) (.cons (ka.mono (Same.tups g4) _ _) (.cons (kb.mono (Same.tups g4) _ _) (.cons (.int _) .nil))))
  have R4 := R3.same g4
  have s04 := s03.trans g4
  generalize upd H3 p (.tup [.int 0, ak, bk, .int us.length]) = H4 at g4 kp R4 s04 ⊢
  have wl := wide_lab hrw hok h1
  refine ⟨_, rfl, S, _, _, rfl, (R4.rd.sh.self.choose_spec), rfl, _, rfl, S, d, lk, n, kvs, ls, i, x, .ref l', .ref tg, ab, rfl, R4.rd, fun H5 s5 => ⟨_, rfl, .ref tg, .ref p, labR (keysOf rs), 5, rfl, (R4.same s5).lab, kp.mono (Same.tups s5) _ _, wl, by decide, fun H6 s6 => ⟨_, rfl, iteF ?_⟩⟩⟩
  have s06 := (s04.trans s5).trans s6
  have R6 := (R4.same s5).same s6
  have kp6 := kp.mono (Same.tups (s5.trans s6)) _ _
  refine ⟨_, rfl, l, us, rfl, .inl (SqL.of (s06 _ _ hl)), fun l2 hl2 => ?_⟩
  have g7 := same_new hl2 (.lst us)
  refine ⟨l2, us, keysOf rs, rfl, upd_same, (row_keys (hrw.mono (Keeps.same s06)) hok).mono (Same.tups g7), by omega, fun H7 v s7 kv => ⟨_, rfl, v, .ref p, labR (keysOf rs), 5, rfl, kv, kp6.mono (Same.tups (g7.trans s7)) _ _, wl, by decide, fun H8 s8 => ⟨_, rfl, iteF ?_⟩⟩⟩
  have s08 := ((s06.trans g7).trans s7).trans s8
  have R8 := ((R6.same g7).same s7).same s8
  have wr := wide_rows hrw hok (by omega)
  have hl8 := s08 _ _ hl
  refine ⟨_, rfl, S, _, _, rfl, R8.rd.sh.self.choose_spec, rfl, _, rfl, S, d, lk, n, kvs, ls, i, x, l', tg, ab, us', xs, rfl, R8.rd, R8.own, R8.tag, R8.lkl, R8.lka, by omega, fun H9 f1 t1 fr9 lk9 nf1 hf1 ht1 => ?_⟩
  refine ⟨t1, _, rfl, SqT.of ht1, rfl, _, _, rfl, _, _, rfl, rfl, ?_⟩
  have R9 := R8.look Nl fr9 lk9
  have hl9 := fr9 _ _ (Ne.symm lkl) hl8
  have tu89 : Tups H8 H9 := fun b ys z => fr9 b _ (ne_of z R8.rd.sh.looks (by intro y; cases y)) z
  have kN89 : Keeps N H8 H9 := ⟨tu89, fun b o z nb => fr9 b o (fun y => nb (by rw [y]; exact Nl)) z⟩
  have hrw9 := (hrw.mono (Keeps.same s08)).mono kN89
  refine ⟨_, rfl, rfl, _, rfl, iteNS rfl ?_⟩
  refine ⟨_, rfl, _, _, _, _, rfl, .lst hf1, kit_ll, _, rfl, iteF ?_⟩
  refine ⟨_, rfl, f1, us', rfl, .inl ⟨SqL.of hf1, fun tp1 htp1 => ?_⟩⟩
  have ga := same_new htp1 (.tup us')
  refine ⟨_, rfl, l, us, rfl, .inl ⟨SqL.of (ga _ _ hl9), fun tp2 htp2 => ?_⟩⟩
  have gb := same_new htp2 (.tup us)
  have gab := ga.trans gb
  refine ⟨.ref tp1, .ref tp2, .tup (rs.map rowKT), 5, rfl, .tup (gb _ _ upd_same) (row_all (R9.rows.mono (Keeps.same gab)) hok), .tup upd_same (row_all (hrw9.mono (Keeps.same gab)) hok), wr, by decide, fun H10 s10 => ⟨_, rfl, iteF ?_⟩⟩
  have s910 := gab.trans s10
  have hf10 := s910 _ _ hf1
  refine ⟨_, rfl, .inl ⟨rfl, _, SqL.of hf10⟩, f1, us', rfl, rfl, hf10, ?_⟩
  have fr11 : ∀ b o, b ≠ lk → H8 b = some o → upd H10 f1 (.lst []) b = some o := fun b o n e => by
    rw [upd_ne (ne_of_none e nf1)]; exact s910 _ _ (fr9 b o n e)
  have lk11 : upd H10 f1 (.lst []) lk = some (.lst (ls ++ [.int i])) := by
    rw [upd_ne (ne_of_none R8.rd.sh.looks nf1)]; exact s910 _ _ lk9
  generalize upd H10 f1 (.lst []) = H11 at fr11 lk11 ⊢
  have R11 := R8.look Nl fr11 lk11
  have hl11 := fr11 _ _ (Ne.symm lkl) hl8
  have tu11 : Tups H8 H11 := fun b ys z => fr11 b _ (ne_of z R8.rd.sh.looks (by intro y; cases y)) z
  have hrw11 := (hrw.mono (Keeps.same s08)).mono (N := N) ⟨tu11, fun b o z nb => fr11 b o (fun y => nb (by rw [y]; exact Nl)) z⟩
  refine ⟨_, rfl, S, _, _, rfl, R11.rd.sh.self.choose_spec, rfl, _, rfl, S, d, lk, n, kvs, _, i, x, l', tg, ab, us', xs, rfl, R11.rd, R11.own, R11.tag, R11.lkl, R11.lka, by rw [List.length_append, List.length_singleton]; omega, fun H12 f2 t2 fr12 lk12 nf2 hf2 ht2 => ?_⟩
  have R12 := R11.look Nl fr12 lk12
  have hl12 := fr12 _ _ (Ne.symm lkl) hl11
  have tu12 : Tups H11 H12 := fun b ys z => fr12 b _ (ne_of z R11.rd.sh.looks (by intro y; cases y)) z
  have hrw12 := hrw11.mono (N := N) ⟨tu12, fun b o z nb => fr12 b o (fun y => nb (by rw [y]; exact Nl)) z⟩
  refine .inr (.inl ⟨t2, _, _, .ref f2, rfl, rfl, SqT.of ht2, rfl, f2, us', rfl, .inl ⟨SqL.of hf2, fun tp3 htp3 => ?_⟩⟩)
  have gc := same_new htp3 (.tup us')
  refine ⟨_, rfl, l, us, rfl, .inl ⟨SqL.of (gc _ _ hl12), fun tp4 htp4 => ?_⟩⟩
  have gd := same_new htp4 (.tup us)
  have gcd := gc.trans gd
  refine ⟨.ref tp3, .ref tp4, .tup (rs.map rowKT), 5, rfl, .tup (gd _ _ upd_same) (row_all (R12.rows.mono (Keeps.same gcd)) hok), .tup upd_same (row_all (hrw12.mono (Keeps.same gcd)) hok), wr, by decide, fun H13 s13 => ?_⟩
  refine k H13 _ (fun b o n e => s13 _ _ (gcd _ _ (fr12 b o n (fr11 b o n (s08 b o e))))) (s13 _ _ (gcd _ _ lk12)) (by simp)
end
end Tw
set_option Elab.async false
set_option linter.all false
set_option maxRecDepth 100000
set_option maxHeartbeats 8000000
namespace Tw
open PySem PySem.Spec L2 PyProof.Rows
abbrev qL : Str := ("_law_put" ++ ".<locals>.") ++ "<lambda>"
abbrev cl1 (n : Nat) : List (Str × Addr) := [((("_law_handed" : String) : Str), n + 2)]
abbrev cl2 (n : Nat) : List (Str × Addr) := [((("_law_shelf" : String) : Str), n + 1), ((("_law_handed" : String) : Str), n + 2)]
/-- the lambdas of _law_put -/
def lamOf (j : Nat) : Arguments × Expr × Scope := match (defBody sPut)[j]? with
  | some (.Assign _ (.Call _ [.Lambda ps b sc _] _ _) _) => (ps, b, sc)
  | _ => (⟨[], [], none, [], [], none, []⟩, .Name "" ⟨0, 0, 0, 0⟩, (defScope sPut))
section
variable {P : Program} {w : World} {K : PySem.W.Frag} {mg : Str → Option Value} {base : Heap} {CSh CTw : Addr}
theorem lam1_ok {CB CK CL CS CT CH CD : Addr} {f c' : Addr} {co : Obj} {pm ctv : Value} {n : Nat} (hcd : CodeIs co qL) (DC : DefX P w K mg base 9 "checked_rows" ["rows"] (spChRows CK CL)) :
    FnOk P w K mg base (CXw P w) 12 f (PySem.W.kla_fn "<lambda>" qL (lamOf 2).1 (lamOf 2).2.1 (lamOf 2).2.2 (cl1 n) pm (.ref c') ctv) []
      (spLamN f c' (PySem.W.kla_obj "<lambda>" qL (lamOf 2).1 (lamOf 2).2.1 (lamOf 2).2.2 (cl1 n) pm c' ctv) co (cl1 n) ["_law_handed"] (spChRows CK CL)) := by
  refine lam_okN (k := 11) (fun x y c h1 h2 => ?_) (fun x h => ?_) (fun x c h => ?_) (by decide +kernel) rfl rfl rfl (by decide +kernel) hcd fun A outer s H ws Q E hr h => ?_
  · have e1 := PySem.mem_of_lookup h1
    have e2 := PySem.mem_of_lookup h2
    simp at e1 e2
    rw [e1.1, e2.1]
  · have hx : ∀ p ∈ (lamOf 2).2.2.names, (p.2 = .cell ∨ p.2 = .free) → p.1 = (("_law_handed" : String) : Str) := by decide +kernel
    have : x = (("_law_handed" : String) : Str) := by
      rcases h with h | h
      · exact hx _ (PySem.mem_of_lookup h) (.inl rfl)
      · exact hx _ (PySem.mem_of_lookup h) (.inr rfl)
    exact ⟨n + 2, by rw [this]; rfl⟩
  · have e1 := PySem.mem_of_lookup h
    exact List.mem_map.mpr ⟨_, e1, rfl⟩
  · obtain ⟨l, us, rs, N, rfl, h⟩ := h
    exact ⟨_, pe_defX DC (hr.mono (by omega)) (passes_fn (E1 := E) fnx_lam fun _ _ _ h => h) (pa_c (pv 0) pa_nil), _, rfl, l, us, rs, N, rfl, h⟩
theorem lam2_ok {CB CK CL CS CT CH CD : Addr} {f c' : Addr} {co : Obj} {pm ctv : Value} {n : Nat} (hcd : CodeIs co qL) (L : ShF K mg CSh CTw) (DM : MethOk P w K mg base (CXw P w) 10 CSh "put_leaf" ["self", "rows"] (spPutLeaf CSh CTw CK CL)) :
    FnOk P w K mg base (CXw P w) 12 f (PySem.W.kla_fn "<lambda>" qL (lamOf 4).1 (lamOf 4).2.1 (lamOf 4).2.2 (cl2 n) pm (.ref c') ctv) []
      (spLamN f c' (PySem.W.kla_obj "<lambda>" qL (lamOf 4).1 (lamOf 4).2.1 (lamOf 4).2.2 (cl2 n) pm c' ctv) co (cl2 n) ["_law_shelf", "_law_handed"] (spPutLeaf CSh CTw CK CL)) := by
  have ne : (("_law_shelf" : String) : Str) ≠ (("_law_handed" : String) : Str) := by decide
  refine lam_okN (k := 11) (fun x y c h1 h2 => ?_) (fun x h => ?_) (fun x c h => ?_) (by decide +kernel) rfl rfl rfl (by decide +kernel) hcd fun A outer s H ws Q E hr h => ?_
  · have e1 := PySem.mem_of_lookup h1
    have e2 := PySem.mem_of_lookup h2
    simp only [List.mem_cons, List.not_mem_nil, or_false, Prod.mk.injEq] at e1 e2
    rcases e1 with ⟨e1, f1⟩ | ⟨e1, f1⟩ <;> rcases e2 with ⟨e2, f2⟩ | ⟨e2, f2⟩
    · rw [e1, e2]
    · exact absurd (f1.symm.trans f2) (Nat.ne_of_lt (Nat.lt_succ_self (n + 1)))
    · exact absurd (f2.symm.trans f1) (Nat.ne_of_lt (Nat.lt_succ_self (n + 1)))
    · rw [e1, e2]
  · have hx : ∀ p ∈ (lamOf 4).2.2.names, (p.2 = .cell ∨ p.2 = .free) → p.1 = (("_law_handed" : String) : Str) ∨ p.1 = (("_law_shelf" : String) : Str) := by decide +kernel
    have : x = (("_law_handed" : String) : Str) ∨ x = (("_law_shelf" : String) : Str) := by
      rcases h with h | h
      · exact hx _ (PySem.mem_of_lookup h) (.inl rfl)
      · exact hx _ (PySem.mem_of_lookup h) (.inr rfl)
    rcases this with z | z
    · exact ⟨n + 2, by rw [z]; rfl⟩
    · exact ⟨n + 1, by rw [z]; rfl⟩
  · have e1 := PySem.mem_of_lookup h
    exact List.mem_map.mpr ⟨_, e1, rfl⟩
  · obtain ⟨S, d, lk, m, kvs, ls, l, us, rs, N, rfl, R, h⟩ := h
    obtain ⟨dx, hS⟩ := R.self
    exact ⟨_, pe_mthX (E := E) (pv 0) L.cS DM (hr.mono (by omega)) (passes_fn (E1 := E) fnx_lam fun _ _ _ h => h) (pa_c (pv 1) pa_nil), _, rfl, S, dx, _, rfl, hS, rfl, _, rfl, S, d, lk, m, kvs, ls, l, us, rs, N, rfl, R, h⟩
/-! ### what the asked ones tell -/
theorem ask1 {CB CK CL CS CT CH CD : Addr} {n : Nat} {σ : L2.St} {H2 : Hp} {Q : VK} {T hd : Addr} {us : List V} {rs : List OKP} {N : Addr → Prop} {NX : List Str} {j0 : Nat} (DC : DefX P w K mg base 9 "checked_rows" ["rows"] (spChRows CK CL))
    (tab : TabAt H2 T qL) (hj : NX[j0]? = some (("_law_handed" : String) : Str)) (hσ : σ[j0]? = some (some (.ref hd))) (hhd : H2 hd = some (.lst us)) (hrw : RwAt N H2 rs us) (NT : N T) (u100 : us.length ≤ 100)
    (k : ∀ (H3 : Hp) (t : Addr) (rest : List V), (∀ b o, b ≠ T → H2 b = some o → H3 b = some o) → TabAt H3 T qL → H3 t = some (.tup (.str (nmD (due rs)) :: rest)) →
      (due rs = 2 → ∃ fl us1, rest = [.ref fl] ∧ H2 fl = none ∧ H3 fl = some (.lst us1) ∧ RwAt N H3 rs us1) → (due rs ≠ 2 → rest = []) → Q (.ref t) H3) :
    tCallC (spAsked P w K mg base CK CL) (cl1 n) ["_law_handed"] NX (tCons (tLam T (lamOf 2).1 (lamOf 2).2.1 (lamOf 2).2.2 qL (cl1 n)) tNil) σ H2 Q := by
  refine ⟨tab, fun HL f c' co pm ctv hco hf hc' fr tabL oth => ?_⟩
  refine ⟨[.ref hd], rfl, fun i x v h1 h2 => ?_, fun Hc eU hout hin CA => ?_⟩
  · have i0 : i = 0 := by
      have := (List.getElem?_eq_some_iff.mp h2).1
      simp at this; exact this
    subst i0
    cases h1
    cases h2
    exact ⟨j0, hj, hσ⟩
  have hcs : ∀ c ∈ (cl1 n).map (·.2), ∃ o, Hc c = some (ObjO c o) := fun c hc => by
    obtain ⟨o, v, e, _⟩ := CA.all c hc
    exact ⟨o, e⟩
  obtain ⟨ps, hT, _⟩ := id tab
  have hdT : hd ≠ T := ne_of hhd hT (by intro z; cases z)
  have hhdL := fr _ _ hdT hhd
  have tuL : Tups H2 HL := fun b ys e => fr b _ (ne_of e hT (by intro z; cases z)) e
  have hrwL : RwAt N HL rs us := hrw.mono ⟨tuL, fun b o e nb => fr b o (fun z => nb (by rw [z]; exact NT)) e⟩
  refine ⟨f, _, _, _, rfl, lam1_ok (CB := CB) (CS := CS) (CT := CT) (CH := CH) (CD := CD) (n := n) (f := f) (c' := c') (co := co) (pm := pm) (ctv := ctv) hco DC, fun s => .of_eq rfl, hin _ _ hf, fun Q' E' hQ hE => ?_⟩
  refine ⟨rfl, hin _ _ hf, hin _ _ hc', [.ref hd], CA, ?_⟩
  rw [eU]
  have done : ∀ (H' H3 : Hp) (t : Addr) (rest : List V), Same HL H' → (∀ c ∈ (cl1 n).map (·.2), H' c = none) → Same (reT ((cl1 n).map (·.2)) Hc H') H3 → H3 t = some (.tup (.str (nmD (due rs)) :: rest)) →
      (due rs = 2 → ∃ fl us1, rest = [.ref fl] ∧ H2 fl = none ∧ H' fl = some (.lst us1) ∧ RwAt N H' rs us1) → (due rs ≠ 2 → rest = []) → (∀ c ∈ (cl1 n).map (·.2), H3 c = Hc c) ∧ Q (.ref t) (unT ((cl1 n).map (·.2)) H3) := by
    intro H' H3 t rest s' nc s3 ht c2 cn
    have bk : Same H' (unT ((cl1 n).map (·.2)) H3) := fun b o e => ask_back nc s3 e
    refine ⟨ask_cells hcs s3, k _ t rest (fun b o nb e => bk _ _ (s' _ _ (fr b o nb e))) (tabL.ext (ExtS.same (s'.trans bk))) (ask_tup hcs s3 ht) (fun e => ?_) cn⟩
    obtain ⟨fl, us1, e1, e2, e3, e4⟩ := c2 e
    exact ⟨fl, us1, e1, e2, bk _ _ e3, e4.mono (Keeps.same bk)⟩
  refine ⟨hd, us, rs, N, rfl, hhdL, hrwL, u100, fun H' s' => ⟨fun e nc => hE _ _ _ (.inl ⟨rfl, fun H3 t s3 ht => ?_⟩), fun e nc => hE _ _ _ (.inr ⟨rfl, fun H3 t s3 ht => ?_⟩), fun l' us' e nl' hl' hrw' nc => hQ _ _ fun t ht => ?_⟩⟩
  · exact done H' H3 t [] s' nc s3 (by rw [e]; exact ht) (fun z => by rw [e] at z; cases z) fun _ => rfl
  · exact done H' H3 t [] s' nc s3 (by rw [e]; exact ht) (fun z => by rw [e] at z; cases z) fun _ => rfl
  · refine done H' _ t [.ref l'] s' nc (same_new ht _) (by rw [e]; exact upd_same) (fun _ => ⟨l', us', rfl, ?_, hl', hrw'⟩) (fun z => absurd e z)
    cases z : H2 l' with
    | none => rfl
    | some o =>
      by_cases y : l' = T
      · obtain ⟨ps2, hT2, _⟩ := id tabL
        rw [y, hT2] at nl'; cases nl'
      · rw [fr _ _ y z] at nl'; cases nl'
theorem ask2 {CB CK CL CS CT CH CD : Addr} {n : Nat} {σ : L2.St} {H2 : Hp} {Q : VK} {T hd S d lk : Addr} {m : Nat} {kvs : List (Key × V)} {ls : List V} {us : List V} {rs : List OKP} {N : Addr → Prop} {NX : List Str} {j0 j1 : Nat} (L : ShF K mg CSh CTw) (DM : MethOk P w K mg base (CXw P w) 10 CSh "put_leaf" ["self", "rows"] (spPutLeaf CSh CTw CK CL))
    (tab : TabAt H2 T qL) (hj : NX[j0]? = some (("_law_handed" : String) : Str)) (hσ : σ[j0]? = some (some (.ref hd))) (hj1 : NX[j1]? = some (("_law_shelf" : String) : Str)) (hσ1 : σ[j1]? = some (some (.ref S))) (hhd : H2 hd = some (.lst us)) (hrw : RwAt N H2 rs us) (NT : N T) (NS : N S) (Nd : N d) (u100 : us.length ≤ 100)
    (R : ShAt CSh H2 S d lk m kvs ls) (l100 : kvs.length ≤ 100)
    (k : due rs ≠ 2 → ∀ (H3 : Hp) (t : Addr), (∀ b o, b ≠ T → H2 b = some o → H3 b = some o) → TabAt H3 T qL → H3 t = some (.tup [.str (nmD (due rs))]) → Q (.ref t) H3)
    (k2 : due rs = 2 → ∀ (H3 : Hp) (t x ab l' tg : Addr) (us' xs : List V), H2 x = none → H2 ab = none → H2 l' = none → (∀ b o, b ≠ S → b ≠ d → b ≠ T → H2 b = some o → H3 b = some o) → TabAt H3 T qL → ShAt CSh H3 S d lk (m + 1) (putK kvs (.inl (m : Int)) (.ref x)) ls →
      TwAt CTw H3 x (.ref l') (.ref tg) ab → H3 l' = some (.lst us') → RwAt N H3 rs us' → H3 tg = some (.tup (.int 0 :: xs)) → KeyAt H3 (labR (keysOf rs)) (.ref tg) → H3 t = some (.tup [.str "told", .int (m : Int)]) → Q (.ref t) H3) :
    tCallC (spAsked P w K mg base CK CL) (cl2 n) ["_law_shelf", "_law_handed"] NX (tCons (tLam T (lamOf 4).1 (lamOf 4).2.1 (lamOf 4).2.2 qL (cl2 n)) tNil) σ H2 Q := by
  refine ⟨tab, fun HL f c' co pm ctv hco hf hc' fr tabL oth => ?_⟩
  refine ⟨[.ref S, .ref hd], rfl, fun i x v h1 h2 => ?_, fun Hc eU hout hin CA => ?_⟩
  · have i2 := (List.getElem?_eq_some_iff.mp h2).1
    match i, i2, h1, h2 with
    | 0, _, h1, h2 => cases h1; cases h2; exact ⟨j1, hj1, hσ1⟩
    | 1, _, h1, h2 => cases h1; cases h2; exact ⟨j0, hj, hσ⟩
    | i + 2, i2, _, _ => exact absurd (show i + 2 < 2 from i2) (by omega)
  have hcs : ∀ c ∈ (cl2 n).map (·.2), ∃ o, Hc c = some (ObjO c o) := fun c hc => by
    obtain ⟨o, v, e, _⟩ := CA.all c hc
    exact ⟨o, e⟩
  obtain ⟨ps, hT, _⟩ := id tab
  obtain ⟨psL, hTL, _⟩ := id tabL
  have hdT : hd ≠ T := ne_of hhd hT (by intro z; cases z)
  have hhdL := fr _ _ hdT hhd
  have tuL : Tups H2 HL := fun b ys e => fr b _ (ne_of e hT (by intro z; cases z)) e
  have hrwL : RwAt N HL rs us := hrw.mono ⟨tuL, fun b o e nb => fr b o (fun z => nb (by rw [z]; exact NT)) e⟩
  obtain ⟨⟨dx, hS⟩, hdk, hlk⟩ := R
  have RL : ShAt CSh HL S d lk m kvs ls := ⟨⟨dx, fr _ _ (ne_of hS hT (by intro z; cases z)) hS⟩, fr _ _ (ne_of hdk hT (by intro z; cases z)) hdk, fr _ _ (ne_of hlk hT (by intro z; cases z)) hlk⟩
  have free2 : ∀ b, HL b = none → H2 b = none := fun b e => by
    cases z : H2 b with
    | none => rfl
    | some o =>
      by_cases y : b = T
      · rw [y, hTL] at e; cases e
      · rw [fr _ _ y z] at e; cases e
  refine ⟨f, _, _, _, rfl, lam2_ok (CB := CB) (CS := CS) (CT := CT) (CH := CH) (CD := CD) (n := n) (f := f) (c' := c') (co := co) (pm := pm) (ctv := ctv) hco L DM, fun s => .of_eq rfl, hin _ _ hf, fun Q' E' hQ hE => ?_⟩
  refine ⟨rfl, hin _ _ hf, hin _ _ hc', [.ref S, .ref hd], CA, ?_⟩
  rw [eU]
  have done : ∀ (H' H3 : Hp) (t : Addr), due rs ≠ 2 → Same HL H' → (∀ c ∈ (cl2 n).map (·.2), H' c = none) → Same (reT ((cl2 n).map (·.2)) Hc H') H3 → H3 t = some (.tup [.str (nmD (due rs))]) →
      (∀ c ∈ (cl2 n).map (·.2), H3 c = Hc c) ∧ Q (.ref t) (unT ((cl2 n).map (·.2)) H3) := by
    intro H' H3 t ne s' nc s3 ht
    have bk : Same H' (unT ((cl2 n).map (·.2)) H3) := fun b o e => ask_back nc s3 e
    exact ⟨ask_cells hcs s3, k ne _ t (fun b o nb e => bk _ _ (s' _ _ (fr b o nb e))) (tabL.ext (ExtS.same (s'.trans bk))) (ask_tup hcs s3 ht)⟩
  refine ⟨S, d, lk, m, kvs, ls, hd, us, rs, N, rfl, RL, l100, hhdL, hrwL, u100, NS, Nd, fun e H' s' nc => hE _ _ _ (.inl ⟨rfl, fun H3 t s3 ht => ?_⟩), fun e H' s' nc => hE _ _ _ (.inr ⟨rfl, fun H3 t s3 ht => ?_⟩), fun H' x ab l' tg us' xs e nx nab nl' fr' R' W' hl' hrw' htg hlab nc => hQ _ _ fun t ht => ?_⟩
  · exact done H' H3 t (by rw [e]; decide) s' nc s3 (by rw [e]; exact ht)
  · exact done H' H3 t (by rw [e]; decide) s' nc s3 (by rw [e]; exact ht)
  · have g := same_new ht (.tup [.str "told", .int (m : Int)])
    have bk : Same H' (unT ((cl2 n).map (·.2)) (upd (reT ((cl2 n).map (·.2)) Hc H') t (.tup [.str "told", .int (m : Int)]))) := fun b o z => ask_back nc g z
    obtain ⟨dxL, hSL⟩ := RL.self
    have ex : ExtS HL H' := ⟨fun b φ z => fr' b _ (ne_of z hSL (by intro y; cases y)) (ne_of z RL.kept (by intro y; cases y)) z, fun b φ z => fr' b _ (ne_of z hSL (by intro y; cases y)) (ne_of z RL.kept (by intro y; cases y)) z⟩
    refine ⟨ask_cells hcs g, k2 e _ t x ab l' tg us' xs (free2 _ nx) (free2 _ nab) (free2 _ nl') (fun b o n1 n2 n3 z => bk _ _ (fr' b o n1 n2 (fr b o n3 z))) (tabL.ext (ex.trans (ExtS.same bk))) (R'.same bk) (W'.same bk) (bk _ _ hl') (hrw'.mono (Keeps.same bk)) (bk _ _ htg) (hlab.mono (Same.tups bk) _ _) (ask_tup hcs g upd_same)⟩
end
end Tw
set_option Elab.async false
set_option linter.all false
set_option maxRecDepth 100000
set_option maxHeartbeats 8000000
namespace Tw
open PySem PySem.Spec L2 PyProof.Rows
def KNum (n : Nat) : List Int := (List.range n).map fun (i : Nat) => ((i : Nat) : Int)
theorem KNum_succ (n : Nat) : KNum (n + 1) = KNum n ++ [(n : Int)] := by
  unfold KNum
  rw [List.range_succ, List.map_append]
  rfl
theorem KNum_len (n : Nat) : (KNum n).length = n := by simp [KNum]
theorem KNum_lt {n : Nat} : ∀ y ∈ KNum n, y < (n : Int) := fun y hy => by
  obtain ⟨i, hi, rfl⟩ := List.mem_map.mp hy
  have := List.mem_range.mp hi
  omega
theorem KNum_sorted : ∀ n : Nat, (KNum n).Pairwise (· ≤ ·)
  | 0 => by simp [KNum]
  | n + 1 => by
    rw [KNum_succ, List.pairwise_append]
    refine ⟨KNum_sorted n, by simp, fun a ha b hb => ?_⟩
    have := KNum_lt a ha
    have e : b = (n : Int) := by simpa using hb
    omega
theorem keys_none {kvs : List (Key × V)} {n : Nat} (h : kvs.map (·.1) = (KNum n).map Sum.inl) : valV kvs (.inl (n : Int)) = none := by
  cases e : valV kvs (.inl (n : Int)) with
  | none => rfl
  | some v =>
    have m := valV_in e
    rw [h] at m
    obtain ⟨y, hy, z⟩ := List.mem_map.mp m
    have := KNum_lt y hy
    cases z
    omega
theorem keys_put {kvs : List (Key × V)} {n : Nat} {v : V} (h : kvs.map (·.1) = (KNum n).map Sum.inl) : (putK kvs (.inl (n : Int)) v).map (·.1) = (KNum (n + 1)).map Sum.inl := by
  rw [putK_new v (keys_none h), List.map_append, h, KNum_succ, List.map_append]
  rfl
theorem cutTo1 {xs : List V} {i : Int} (h : 0 ≤ i) : cutV xs none (some i) = xs.take i.toNat := by
  unfold cutV
  have e : HT.sIx xs.length xs.length (some i) = min i.toNat xs.length := by
    have e' : i = ((i.toNat : Nat) : Int) := by omega
    rw [e', HT.sIx_nat, Int.toNat_natCast]
  rw [HT.sIx_none, e, List.drop_zero, Nat.sub_zero, List.take_eq_take_iff]
  omega
theorem sIx1 (n : Nat) (h : 1 ≤ n) : HT.sIx n n (some 1) = 1 := by
  have := HT.sIx_nat n n 1
  rw [show ((1 : Nat) : Int) = 1 from rfl] at this
  rw [this]
  omega
/-- the first thing of a told tuple -/
theorem slice1 {K : PySem.W.Frag} {H : Hp} {tt : Addr} {nm : Str} {rest : List V} {Q : VK} (h : H tt = some (.tup (.str nm :: rest))) (hr : rest.length ≤ 1) (k : ∀ v H', Same H H' → KeyAt H' (.tup [.str nm]) v → Q v H') : rSlT K (.ref tt) none (some 1) H Q ∨ rSlTW K (.ref tt) none (some 1) H Q := by
  cases rest with
  | nil =>
    refine .inr ⟨tt, _, rfl, SqT.of h, by rw [HT.sIx_none], ?_, k _ H (Same.refl H) (.tup h (.cons (.str _) .nil))⟩
    exact sIx1 1 (by omega)
  | cons y r =>
    cases r with
    | cons _ _ => simp at hr
    | nil =>
      refine .inl ⟨tt, _, rfl, SqT.of h, fun z => ?_, fun p hp => ?_⟩
      · have := z.2
        rw [show ([V.str nm, y] : List V).length = 2 from rfl, sIx1 2 (by omega)] at this
        cases this
      · rw [cutTo1 (by omega)]
        exact k _ _ (same_new hp _) (.tup upd_same (.cons (.str _) .nil))
theorem RwAt.any {N N' : Addr → Prop} {H : Hp} : ∀ {rs : List OKP} {us : List V}, RwAt N H rs us → okR rs = true → RwAt N' H rs us
  | _, _, .nil, _ => .nil
  | r :: rs, _, .cons h t, ok => by
    unfold okR at ok
    rw [List.all_cons, Bool.and_eq_true, Bool.and_eq_true] at ok
    obtain ⟨⟨o1, o2⟩, ok⟩ := ok
    obtain ⟨a, vk, vv, rfl, e, h1, h2⟩ := h
    obtain ⟨t1, e1⟩ := Option.isSome_iff_exists.mp o1
    obtain ⟨t2, e2⟩ := Option.isSome_iff_exists.mp o2
    rw [e1] at h1
    rw [e2] at h2
    exact .cons ⟨a, vk, vv, rfl, e, by rw [e1]; exact h1, by rw [e2]; exact h2⟩ (RwAt.any t ok)
theorem rows_refs {N : Addr → Prop} {H : Hp} {rs : List OKP} {us : List V} (h : RwAt N H rs us) : ∀ v ∈ us, ∃ a, v = .ref a := fun v hv => by
  obtain ⟨i, hi⟩ := List.getElem?_of_mem hv
  obtain ⟨r, _, a, _, _, e, _⟩ := Paired.ix h hi
  exact ⟨a, e⟩
theorem nmD_inj {a b : Nat} (h : nmD a = nmD b) (ha : a ≤ 2) (hb : b ≤ 2) : a = b := by
  match a, b, ha, hb with
  | 0, 0, _, _ => rfl
  | 1, 1, _, _ => rfl
  | 2, 2, _, _ => rfl
  | 0, 1, _, _ => exact absurd h (by decide)
  | 0, 2, _, _ => exact absurd h (by decide)
  | 1, 0, _, _ => exact absurd h (by decide)
  | 1, 2, _, _ => exact absurd h (by decide)
  | 2, 0, _, _ => exact absurd h (by decide)
  | 2, 1, _, _ => exact absurd h (by decide)
  | a + 3, _, ha, _ => omega
  | _, b + 3, _, hb => omega
section
variable {P : Program} {w : World} {K : PySem.W.Frag} {mg : Str → Option Value} {base : Heap} {f : Addr} {fd : FuncData} {CSh CTw : Addr}
/-! ### _law_put -/
def spPut (CSh : Addr) (T : Addr) : Sp := fun vs H Q _ => ∃ (S d lk told l : Addr) (n : Nat) (kvs : List (Key × V)) (ls us : List V) (rs : List OKP) (N : Addr → Prop), vs = [.ref S, .ref l, .ref told] ∧ ShAt CSh H S d lk n kvs ls ∧ kvs.map (·.1) = (KNum n).map Sum.inl ∧ n ≤ 40 ∧ ls.length ≤ 500 ∧
  H l = some (.lst us) ∧ RwAt N H rs us ∧ us.length ≤ 20 ∧ N S ∧ N d ∧ N T ∧ H told = some (.lst ((KNum n).map V.int)) ∧ l ≠ lk ∧ l ≠ told ∧ told ≠ lk ∧ TabAt H T qL ∧
  ∀ (H' : Hp) (n' : Nat) (kvs' : List (Key × V)) (ls' : List V), (∀ b o, b ≠ S → b ≠ d → b ≠ lk → b ≠ told → b ≠ T → H b = some o → H' b = some o) → ShAt CSh H' S d lk n' kvs' ls' → kvs'.map (·.1) = (KNum n').map Sum.inl → n' ≤ n + 1 → ls'.length ≤ ls.length + 2 → H' told = some (.lst ((KNum n').map V.int)) → TabAt H' T qL → Q (.bl true) H'
abbrev nPut : List Str := ["_law_shelf", "_law_rows", "_law_told", "_law_due_here", "_law_handed", "_law_found", "_law_number"]
theorem scPut : FnScope nPut ["_law_shelf", "_law_rows", "_law_told"] (defScope sPut) := ⟨rfl, rfl, rfl, by decide +kernel, rfl, by decide +kernel, by decide +kernel⟩
theorem cells1 {n : Nat} {y : Str} {c : Addr} (h : (cl1 n).lookup y = some c) : (cellsFrom (n + 1) (defScope sPut).names []).lookup y = some c := by
  have e := PySem.mem_of_lookup h
  simp only [List.mem_cons, List.not_mem_nil, or_false, Prod.mk.injEq] at e
  rw [e.1, e.2]
  rfl
theorem cells2 {n : Nat} {y : Str} {c : Addr} (h : (cl2 n).lookup y = some c) : (cellsFrom (n + 1) (defScope sPut).names []).lookup y = some c := by
  have e := PySem.mem_of_lookup h
  simp only [List.mem_cons, List.not_mem_nil, or_false, Prod.mk.injEq] at e
  rcases e with ⟨e1, e2⟩ | ⟨e1, e2⟩
  · rw [e1, e2]; rfl
  · rw [e1, e2]; rfl
theorem mem1 {n : Nat} : ∀ c ∈ (cl1 n).map (·.2), ∃ y, (cl1 n).lookup y = some c := fun c hc => by
  have e : c = n + 2 := by simpa using hc
  exact ⟨(("_law_handed" : String) : Str), by rw [e]; rfl⟩
theorem mem2 {n : Nat} : ∀ c ∈ (cl2 n).map (·.2), ∃ y, (cl2 n).lookup y = some c := fun c hc => by
  have e : c = n + 1 ∨ c = n + 2 := by simpa using hc
  rcases e with e | e
  · exact ⟨(("_law_shelf" : String) : Str), by rw [e]; rfl⟩
  · exact ⟨(("_law_handed" : String) : Str), by rw [e]; rfl⟩
theorem look_h : (defScope sPut).names.lookup (("_law_handed" : String) : Str) = some .cell := by decide +kernel
theorem look_s : (defScope sPut).names.lookup (("_law_shelf" : String) : Str) = some .cell := by decide +kernel
theorem nm1 {n : Nat} : ∀ y ∈ [(("_law_handed" : String) : Str)], (defScope sPut).names.lookup y = some .cell ∧ ∃ c, (cl1 n).lookup y = some c := fun y hy => by
  have e : y = (("_law_handed" : String) : Str) := by simpa using hy
  rw [e]
  exact ⟨look_h, _, rfl⟩
theorem nm2 {n : Nat} : ∀ y ∈ [(("_law_shelf" : String) : Str), (("_law_handed" : String) : Str)], (defScope sPut).names.lookup y = some .cell ∧ ∃ c, (cl2 n).lookup y = some c := fun y hy => by
  have e : y = (("_law_shelf" : String) : Str) ∨ y = (("_law_handed" : String) : Str) := by simpa using hy
  rcases e with e | e
  · rw [e]; exact ⟨look_s, _, rfl⟩
  · rw [e]; exact ⟨look_h, _, rfl⟩
theorem ok_put {CB CK CL CS CT CH CD c T : Addr} (F : Fun K "_law_put" "_law_put" sPut f fd) (hf : PySem.W.nsIn K mainGlobals "_law_put" = some (some (.ref f))) (htab : PySem.W.tabIn K "_law_put" = some (c, T)) (C : PySem.W.CodeHd base c T) (hbt : base.BuiltinsAt mg T)
    (X : Txt mg) (L : ShF K mg CSh CTw) (DD : DefOk P w K mg base 8 "_law_due" ["_law_rows"] spDue) (DQ : DefOk P w K mg base 13 "_law_asked" ["_law_call"] (spAsked P w K mg base CK CL)) (DC : DefX P w K mg base 9 "checked_rows" ["rows"] (spChRows CK CL)) (DM : MethOk P w K mg base (CXw P w) 10 CSh "put_leaf" ["self", "rows"] (spPutLeaf CSh CTw CK CL))
    (DN : MethOk P w K mg base CX0 1 CSh "numbers" ["self"] (spNumbers CSh)) (DY : MethOk P w K mg base CX0 1 CSh "many" ["self"] (spMany CSh)) (DAl : DefOk P w K mg base 7 "_law_alike" ["_law_found", "_law_due_here"] (spAlike 6)) (DI : DefOk P w K mg base 8 "_law_is_put" ["_law_shelf", "_law_number", "_law_rows", "_law_told"] (spIsPut CSh CTw)) :
    FnOk P w K mg base CX0 14 f fd ["_law_shelf", "_law_rows", "_law_told"] (spPut CSh T) := by
  refine F.okC hf htab scPut (fun vs H Q E h => (by obtain ⟨_, _, _, _, _, _, _, _, _, _, _, rfl, _⟩ := h; rfl)) (fun A outer s H vs Q E hr h => ?_)
  obtain ⟨S, d, lk, told, l, n, kvs, ls, us, rs, N, rfl, R, hkeys, n40, l500, hl, hrw, u20, NS, Nd, NT, htold, llk, ltold, tlk, tab, k⟩ := h
  have nd := scPut.nd
  have hr1 := hr.mono (show 1 ≤ 13 by omega)
  have hr7 := hr.mono (show 7 ≤ 13 by omega)
  have hr8 := hr.mono (show 8 ≤ 13 by omega)
  obtain ⟨fA, fdA, FA, bA, kA, mA⟩ := DQ.ex
  refine ⟨_, pss_cons (ps_set (i := 3) nd rfl (Or.inl rfl) (pe_def DD hr8 (pa_c (pv 1) pa_nil)))
    (pss_cons (ps_set (i := 4) nd rfl (Or.inr rfl) (pe_callTy call_list_of rfl X.list tb_list (pa_c (pv 1) pa_nil)))
    (pss_cons (ps_set (i := 5) nd rfl (Or.inl rfl) (pe_callC (cl := cl1 s.heap.objs.size) (N := ["_law_handed"]) FA hr rfl mA kA bA (pa_c (pe_lam (P := T) (cl := cl1 s.heap.objs.size) rfl C hbt rfl rfl) pa_nil) (fun y c h => cells1 h) mem1 nm1 fun _ => rfl))
    (pss_cons (ps_if (PW.pt (pw_or (pt_cmpR (op_neSame hr.units0) (pv 4) (pv 1) (nomark _)) (pw_or1 (pt_cmpR (op_neK hr) (pe_slice (SlR.or sl_tup sl_tupW) (pv 5) po_none (po_some pe_int)) (pv 3) (nomark _))))) pss_never pss_nil)
    (pss_cons (ps_set (i := 6) nd rfl (Or.inl rfl) (pe_callC (cl := cl2 s.heap.objs.size) (N := ["_law_shelf", "_law_handed"]) FA hr rfl mA kA bA (pa_c (pe_lam (P := T) (cl := cl2 s.heap.objs.size) rfl C hbt rfl rfl) pa_nil) (fun y c h => cells2 h) mem2 nm2 fun _ => rfl))
    (pss_cons (ps_if (PW.pt (pw_or (pt_cmpR (op_neSame hr.units0) (pv 4) (pv 1) (nomark _)) (pw_or1 (pt_cmpR (op_neK hr) (pe_slice (SlR.or sl_tup sl_tupW) (pv 6) po_none (po_some pe_int)) (pv 3) (nomark _))))) pss_never pss_nil)
    (pss_cons (ps_if (pt_cmpR (op_neK hr) (pv 3) (pe_tup (pa_c pe_str pa_nil)) (nomark _)) (pss_one (ps_ret (pe_cmpR (op_eqInts hr.units0) (pe_mth0 (E := E0) (pv 0) L.cS DN hr1 pass0) (pv 2) (nomark _)))) pss_nil)
    (pss_cons (ps_if (PW.pt (pw_or (pt_not (pt_val (pe_callB tw_isinst rfl X.isi tb_isinstance (pa_c (pe_ix (r := rIx K) ix_seq (pv 5) pe_int (fun _ _ => rfl)) (pa_c (pe_bltn (v := .ty "list") rfl X.list tb_list rfl) pa_nil)))))
      (pw_or1 (pt_not (pt_val (pe_def DAl hr7 (pa_c (pe_callTy call_tuple_of rfl X.tuple tb_tuple (pa_c (pe_ix (r := rIx K) ix_seq (pv 5) pe_int (fun _ _ => rfl)) pa_nil)) (pa_c (pe_callTy call_tuple_of rfl X.tuple tb_tuple (pa_c (pv 1) pa_nil)) pa_nil)))))))) pss_never pss_nil)
    (pss_cons (ps_expr (pe_bm0 PySem.F.plainAttrs_list PySem.F.slot_list_clear PySem.F.type_list_clear mt_clear (pe_ix (r := rIx K) ix_seq (pv 5) pe_int (fun _ _ => rfl))))
    (pss_cons (ps_expr (pe_bm PySem.F.plainAttrs_list PySem.F.slot_list_append PySem.F.type_list_append mt_append (pv 4) (pa_c (pe_tup (pa_c pe_int (pa_c pe_int pa_nil))) pa_nil)))
    (pss_cons (ps_if (pt_not (pt_val (pe_def DI hr8 (pa_c (pv 0) (pa_c (pe_ix (r := rIx K) ix_seq (pv 6) pe_int (fun _ _ => rfl)) (pa_c (pv 1) (pa_c (pv 2) pa_nil))))))) pss_never pss_nil)
    (pss_cons (ps_expr (pe_bm PySem.F.plainAttrs_list PySem.F.slot_list_append PySem.F.type_list_append mt_append (pv 2) (pa_c (pe_ix (r := rIx K) ix_seq (pv 6) pe_int (fun _ _ => rfl)) pa_nil)))
    (pss_one (ps_ret (pe_and (pe_cmpR (op_eqInts hr.units0) (pe_mth0 (E := E0) (pv 0) L.cS DN hr1 pass0) (pv 2) (nomark _)) (pe_one (pe_cmpR op_eq (pe_mth0 (E := E0) (pv 0) L.cS DY hr1 pass0) (pe_callB call_len_seq rfl X.len tb_len (pa_c (pv 2) pa_nil)) (nomark _))))))))))))))))), ?_⟩
  have refs := rows_refs hrw
  refine ⟨_, rfl, l, us, rs, N, rfl, hl, hrw, by omega, fun H1 tD s1 hD => ?_⟩
  refine ⟨_, rfl, l, us, rfl, .inl (SqL.of (s1 _ _ hl)), fun hd hhd => ?_⟩
  have g2 := same_new hhd (.lst us)
  have s02 := s1.trans g2
  have hD2 := g2 _ _ hD
  have ehd : upd H1 hd (.lst us) hd = some (.lst us) := upd_same
  have nhd : H hd = none := s1.free hhd
  generalize upd H1 hd (.lst us) = H2 at g2 s02 hD2 ehd ⊢
  have tab2 := tab.ext (ExtS.same s02)
  have hrw2 := hrw.mono (Keeps.same s02)
  refine ask1 (CB := CB) (CS := CS) (CT := CT) (CH := CH) (CD := CD) (j0 := 4) (hd := hd) (us := us) (rs := rs) (N := N) DC tab2 rfl rfl ehd hrw2 NT (by omega) fun H3 t1 rest fr3 tab3 ht1 c2 cn => ?_
  obtain ⟨ps2, hT2, _⟩ := id tab2
  obtain ⟨ps0, hT0, _⟩ := id tab
  obtain ⟨⟨dx, hS⟩, hdk, hlk⟩ := id R
  have ne2 : ∀ {b o}, H2 b = some o → (∀ ps, o ≠ .tbl ps) → b ≠ T := fun {b o} e z => ne_of e hT2 (z _)
  have ehd3 := fr3 _ _ (ne2 ehd (by intro _ z; cases z)) ehd
  have hl2 := s02 _ _ hl
  have hl3 := fr3 _ _ (ne2 hl2 (by intro _ z; cases z)) hl2
  have hD3 := fr3 _ _ (ne2 hD2 (by intro _ z; cases z)) hD2
  have hrest : rest.length ≤ 1 := by
    by_cases e : due rs = 2
    · obtain ⟨fl, us1, e1, _⟩ := c2 e
      rw [e1]; simp
    · rw [cn e]; simp
  refine ⟨_, rfl, _, rfl, hd, l, us, rfl, rfl, SqL.of ehd3, SqL.of hl3, refs, _, rfl, iteF ?_⟩
  refine ⟨_, rfl, 1, rfl, slice1 ht1 hrest fun vH4 H4 s4 kvH4 => ⟨_, rfl, .tup [.str (nmD (due rs))], .tup [.str (nmD (due rs))], kvH4, .tup (s4 _ _ hD3) (.cons (.str _) .nil), Nat.le_of_ble_eq_true rfl, _, rfl, ite2 (fun c => absurd c (by rw [eqb_self]; simp)) (fun _ => ?_)⟩⟩
  have fr4 : ∀ b o, b ≠ T → H2 b = some o → H4 b = some o := fun b o nb e => s4 _ _ (fr3 b o nb e)
  have tu4 : Tups H2 H4 := fun b ys e => fr4 b _ (ne2 e (by intro _ z; cases z)) e
  have hrw4 : RwAt N H4 rs us := hrw2.mono ⟨tu4, fun b o e nb => fr4 b o (fun z => nb (by rw [z]; exact NT)) e⟩
  have tab4 := tab3.ext (ExtS.same s4)
  have R2 := R.same s02
  obtain ⟨⟨dx2, hS2⟩, hdk2, hlk2⟩ := id R2
  have R4 : ShAt CSh H4 S d lk n kvs ls := ⟨⟨dx2, fr4 _ _ (ne2 hS2 (by intro _ z; cases z)) hS2⟩, fr4 _ _ (ne2 hdk2 (by intro _ z; cases z)) hdk2, fr4 _ _ (ne2 hlk2 (by intro _ z; cases z)) hlk2⟩
  have kl : kvs.length ≤ 100 := by
    have := congrArg List.length hkeys
    rw [List.length_map, List.length_map, KNum_len] at this
    omega
  have ehd4 := s4 _ _ ehd3
  have hl4 := s4 _ _ hl3
  have hD4 := s4 _ _ hD3
  have ht14 := s4 _ _ ht1
  obtain ⟨ps4, hT4, _⟩ := id tab4
  refine ask2 (CB := CB) (CS := CS) (CT := CT) (CH := CH) (CD := CD) (j0 := 4) (j1 := 0) (hd := hd) (us := us) (rs := rs) (N := N) L DM tab4 rfl rfl rfl rfl ehd4 hrw4 NT NS Nd (by omega) R4 kl (fun hne H5 t2 fr5 tab5 ht2 => ?_) (fun hdue H5 t2 x ab l' tg us' xs nx nab nl' fr5 tab5 R5 W5 hl5' hrw5' htg5 hlab5 ht2 => ?_)
  · -- refused
    have ne4 : ∀ {b o}, H4 b = some o → (∀ ps, o ≠ .tbl ps) → b ≠ T := fun {b o} e z => ne_of e hT4 (z _)
    have ehd5 := fr5 _ _ (ne4 ehd4 (by intro _ z; cases z)) ehd4
    have hl5 := fr5 _ _ (ne4 hl4 (by intro _ z; cases z)) hl4
    have hD5 := fr5 _ _ (ne4 hD4 (by intro _ z; cases z)) hD4
    obtain ⟨⟨dx4, hS4⟩, hdk4, hlk4⟩ := id R4
    have R5 : ShAt CSh H5 S d lk n kvs ls := ⟨⟨dx4, fr5 _ _ (ne4 hS4 (by intro _ z; cases z)) hS4⟩, fr5 _ _ (ne4 hdk4 (by intro _ z; cases z)) hdk4, fr5 _ _ (ne4 hlk4 (by intro _ z; cases z)) hlk4⟩
    have fr05 : ∀ b o, b ≠ T → H b = some o → H5 b = some o := fun b o nb e => fr5 b o nb (fr4 b o nb (s02 b o e))
    refine ⟨_, rfl, _, rfl, hd, l, us, rfl, rfl, SqL.of ehd5, SqL.of hl5, refs, _, rfl, iteF ?_⟩
    refine ⟨_, rfl, 1, rfl, slice1 ht2 (by simp) fun vH6 H6 s6 kvH6 => ⟨_, rfl, .tup [.str (nmD (due rs))], .tup [.str (nmD (due rs))], kvH6, .tup (s6 _ _ hD5) (.cons (.str _) .nil), Nat.le_of_ble_eq_true rfl, _, rfl, ite2 (fun c => absurd c (by rw [eqb_self]; simp)) (fun _ => ?_)⟩⟩
    refine ⟨_, rfl, nn (Nat.le_of_ble_eq_true rfl), fun q hq => ?_⟩
    have g7 := same_new hq (.tup [.str "told"])
    refine ⟨.tup [.str (nmD (due rs))], .tup [.str "told"], .tup ((s6.trans g7) _ _ hD5) (.cons (.str _) .nil), .tup upd_same (.cons (.str _) .nil), Nat.le_of_ble_eq_true rfl, _, rfl, ite2 (fun _ => ?_) (fun c => ?_)⟩
    · have s57 := s6.trans g7
      have R7 := R5.same s57
      refine ⟨_, rfl, S, _, _, rfl, R7.self.choose_spec, rfl, S, d, lk, n, kvs, ls, KNum n, rfl, R7, hkeys, KNum_sorted n, by rw [KNum_len]; omega, fun p hp => ?_⟩
      have g8 := same_new hp (.lst ((KNum n).map V.int))
      have s58 := s57.trans g8
      have ht8 : _ = _ := s58 _ _ (fr05 _ _ (ne_of htold hT0 (by intro z; cases z)) htold)
      refine ⟨_, rfl, p, told, KNum n, rfl, rfl, SqL.of upd_same, SqL.of ht8, k _ n kvs ls (fun b o _ _ _ _ nT e => s58 _ _ (fr05 b o nT e)) (R5.same s58) hkeys (by omega) (by omega) ht8 (tab5.ext (ExtS.same s58))⟩
    · have e : (KT.tup [.str (nmD (due rs))]).eqb (.tup [.str "told"]) = true := by
        cases z : (KT.tup [.str (nmD (due rs))]).eqb (.tup [.str "told"]) with
        | true => rfl
        | false => rw [z] at c; simp at c
      have e2 := eqb_eq _ _ e
      have e3 : nmD (due rs) = nmD 2 := by
        have : KT.str (nmD (due rs)) = KT.str "told" := by injection e2 with e2; injection e2
        injection this
      have d3 : due rs ≤ 2 := by rcases due_cases rs with z | z | z <;> omega
      exact absurd (nmD_inj e3 d3 (by omega)) hne
  · -- put
    obtain ⟨hok, h1, h4⟩ := due2_ok hdue
    obtain ⟨fl, us1, rfl, nfl, hfl3, hrw3⟩ := c2 hdue
    have lu := Paired.length hrw
    obtain ⟨⟨dx4, hS4⟩, hdk4, hlk4⟩ := id R4
    have hfl4 := s4 _ _ hfl3
    have nef : ∀ {b o}, H4 b = some o → (∀ C dx fs, o ≠ .ins C dx fs) → (∀ kv, o ≠ .dK kv) → (∀ ps, o ≠ .tbl ps) → H5 b = some o := fun {b o} e z1 z2 z3 => fr5 b o (ne_of e hS4 (z1 _ _ _)) (ne_of e hdk4 (z2 _)) (ne_of e hT4 (z3 _)) e
    have ehd5 := nef ehd4 (by intro _ _ _ z; cases z) (by intro _ z; cases z) (by intro _ z; cases z)
    have hl5 := nef hl4 (by intro _ _ _ z; cases z) (by intro _ z; cases z) (by intro _ z; cases z)
    have hD5 := nef hD4 (by intro _ _ _ z; cases z) (by intro _ z; cases z) (by intro _ z; cases z)
    have ht15 := nef ht14 (by intro _ _ _ z; cases z) (by intro _ z; cases z) (by intro _ z; cases z)
    have hfl5 := nef hfl4 (by intro _ _ _ z; cases z) (by intro _ z; cases z) (by intro _ z; cases z)
    have htold2 := s02 _ _ htold
    have htold4 := fr4 _ _ (ne2 htold2 (by intro _ z; cases z)) htold2
    have htold5 := nef htold4 (by intro _ _ _ z; cases z) (by intro _ z; cases z) (by intro _ z; cases z)
    have ht2' : H5 t2 = some (.tup (.str (nmD (due rs)) :: [.int (n : Int)])) := by rw [hdue]; exact ht2
    -- all rows are of keys: nothing of them changes
    have any5 : ∀ {ws : List V} {Hx : Hp}, RwAt N Hx rs ws → RwAt (fun _ => True) Hx rs ws := fun h => RwAt.any h hok
    have kpT : ∀ {Ha Hb : Hp}, Tups Ha Hb → Keeps (fun _ : Addr => True) Ha Hb := fun m => ⟨m, fun _ _ _ nb => absurd trivial nb⟩
    have tu45 : Tups H4 H5 := fun b ys e => nef e (by intro _ _ _ z; cases z) (by intro _ z; cases z) (by intro _ z; cases z)
    have rU5 : RwAt (fun _ => True) H5 rs us := (any5 hrw4).mono (kpT tu45)
    have rF5 : RwAt (fun _ => True) H5 rs us1 := ((any5 hrw3).mono (kpT (Same.tups s4))).mono (kpT tu45)
    have rO5 : RwAt (fun _ => True) H5 rs us' := any5 hrw5'
    have wr := wide_rows rU5 hok (by omega)
    -- who is who
    have flT : fl ≠ T := ne_of hfl4 hT4 (by intro z; cases z)
    have lkfl : lk ≠ fl := ne_of_none hlk2 nfl
    have lkhd : lk ≠ hd := ne_of_none (s1 _ _ hlk) hhd
    have lfl : l ≠ fl := ne_of_none hl2 nfl
    have lhd : l ≠ hd := ne_of_none (s1 _ _ hl) hhd
    have tofl : told ≠ fl := ne_of_none htold2 nfl
    have tohd : told ≠ hd := ne_of_none (s1 _ _ htold) hhd
    have l'fl : fl ≠ l' := ne_of_none hfl4 nl'
    have l'hd : hd ≠ l' := ne_of_none ehd4 nl'
    have abfl : fl ≠ ab := ne_of_none hfl4 nab
    have abhd : hd ≠ ab := ne_of_none ehd4 nab
    have lkl' : lk ≠ l' := ne_of_none hlk4 nl'
    have lkab : lk ≠ ab := ne_of_none hlk4 nab
    have hdfl : hd ≠ fl := ne_of_none ehd nfl
    have tol' : told ≠ l' := ne_of_none htold4 nl'
    have toab : told ≠ ab := ne_of_none htold4 nab
    refine ⟨_, rfl, _, rfl, hd, l, us, rfl, rfl, SqL.of ehd5, SqL.of hl5, refs, _, rfl, iteF ?_⟩
    refine ⟨_, rfl, 1, rfl, slice1 ht2' (by simp) fun vH6 H6 s6 kvH6 => ⟨_, rfl, .tup [.str (nmD (due rs))], .tup [.str (nmD (due rs))], kvH6, .tup (s6 _ _ hD5) (.cons (.str _) .nil), Nat.le_of_ble_eq_true rfl, _, rfl, ite2 (fun c => absurd c (by rw [eqb_self]; simp)) (fun _ => ?_)⟩⟩
    refine ⟨_, rfl, nn (Nat.le_of_ble_eq_true rfl), fun q hq => ?_⟩
    have g7 := same_new hq (.tup [.str "told"])
    refine ⟨.tup [.str (nmD (due rs))], .tup [.str "told"], .tup ((s6.trans g7) _ _ hD5) (.cons (.str _) .nil), .tup upd_same (.cons (.str _) .nil), Nat.le_of_ble_eq_true rfl, _, rfl, ite2 (fun c => absurd c (by rw [hdue]; exact fun z => by rw [show nmD 2 = (("told" : String) : Str) from rfl, eqb_self] at z; cases z)) (fun _ => ?_)⟩
    have s57 := s6.trans g7
    generalize upd H6 q (.tup [.str "told"]) = H7 at g7 s57 ⊢
    refine ⟨_, rfl, .inr (.inl ⟨t1, _, _, .ref fl, rfl, rfl, SqT.of (s57 _ _ ht15), rfl, _, _, _, _, rfl, .lst (s57 _ _ hfl5), kit_ll, _, rfl, iteF ?_⟩)⟩
    refine ⟨_, rfl, .inr (.inl ⟨t1, _, _, .ref fl, rfl, rfl, SqT.of (s57 _ _ ht15), rfl, fl, us1, rfl, .inl ⟨SqL.of (s57 _ _ hfl5), fun tp1 htp1 => ?_⟩⟩)⟩
    have ga := same_new htp1 (.tup us1)
    refine ⟨_, rfl, l, us, rfl, .inl ⟨SqL.of (ga _ _ (s57 _ _ hl5)), fun tp2 htp2 => ?_⟩⟩
    have gb := same_new htp2 (.tup us)
    have s5b := (s57.trans ga).trans gb
    refine ⟨.ref tp1, .ref tp2, .tup (rs.map rowKT), 5, rfl, .tup (gb _ _ upd_same) (row_all (rF5.mono (Keeps.same s5b)) hok), .tup upd_same (row_all (rU5.mono (Keeps.same s5b)) hok), wr, by decide, fun H10 s10 => ⟨_, rfl, iteF ?_⟩⟩
    have s510 := s5b.trans s10
    have hfl10 := s510 _ _ hfl5
    refine ⟨_, rfl, .inr (.inl ⟨t1, _, _, .ref fl, rfl, rfl, SqT.of (s510 _ _ ht15), rfl, .inl ⟨rfl, _, SqL.of hfl10⟩, fl, us1, rfl, rfl, hfl10, ?_⟩)⟩
    have ehd11 : upd H10 fl (.lst []) hd = some (.lst us) := by rw [upd_ne hdfl]; exact s510 _ _ ehd5
    refine ⟨_, rfl, .inl ⟨rfl, _, SqL.of ehd11⟩, nn (Nat.le_of_ble_eq_true rfl), fun q2 hq2 => ?_⟩
    have g11 := same_new hq2 (.tup [.int 0, .int 0])
    refine ⟨hd, us, .ref q2, rfl, rfl, g11 _ _ ehd11, small1000 (by omega), ?_⟩
    have fr12 : ∀ b o, b ≠ fl → b ≠ hd → H5 b = some o → upd (upd (upd H10 fl (.lst [])) q2 (.tup [.int 0, .int 0])) hd (.lst (us ++ [.ref q2])) b = some o := fun b o n1 n2 e => by
      rw [upd_ne n2]
      exact g11 _ _ (by rw [upd_ne n1]; exact s510 _ _ e)
    generalize upd (upd (upd H10 fl (.lst [])) q2 (.tup [.int 0, .int 0])) hd (.lst (us ++ [.ref q2])) = H12 at fr12 ⊢
    have nl12 : ∀ {b o}, H5 b = some o → (∀ ys, o ≠ .lst ys) → H12 b = some o := fun {b o} e z => fr12 b o (ne_of e hfl5 (z _)) (ne_of e ehd5 (z _)) e
    have tu12 : Tups H5 H12 := fun b ys e => nl12 e (by intro _ z; cases z)
    obtain ⟨⟨dx5, hS5⟩, hdk5, hlk5⟩ := id R5
    obtain ⟨⟨dt5, hx5⟩, hab5⟩ := id W5
    have hlk12 := fr12 _ _ lkfl lkhd hlk5
    have ht212 := nl12 ht2' (by intro _ z; cases z)
    have pu : PutAt CSh CTw (fun _ => True) H12 S d lk (n + 1) (putK kvs (.inl (n : Int)) (.ref x)) ls (n : Int) x l' tg ab us' xs rs :=
      ⟨⟨⟨⟨dx5, nl12 hS5 (by intro _ z; cases z)⟩, nl12 hdk5 (by intro _ z; cases z), hlk12⟩, (by rw [valV_put, if_pos rfl]), ⟨⟨dt5, nl12 hx5 (by intro _ z; cases z)⟩, fr12 _ _ (Ne.symm abfl) (Ne.symm abhd) hab5⟩⟩,
        fr12 _ _ (Ne.symm l'fl) (Ne.symm l'hd) hl5', rO5.mono (kpT tu12), tu12 _ _ htg5, hlab5.mono tu12 _ _, lkl', lkab⟩
    have hl12 := fr12 _ _ lfl lhd hl5
    have htold12 := fr12 _ _ tofl tohd htold5
    refine ⟨_, rfl, _, rfl, .inr (.inl ⟨t2, _, _, .int (n : Int), rfl, rfl, SqT.of ht212, rfl, _, rfl, _, rfl, S, d, lk, l, told, n + 1, _, ls, (n : Int), x, l', tg, ab, us, us', xs, rs, KNum n, fun _ => True, rfl, pu, trivial, hl12, rU5.mono (kpT tu12), Ne.symm llk, hdue, htold12, by omega, KNum_lt, by omega, fun H13 ls' fr13 lk13 len13 => ⟨_, rfl, iteF ?_⟩⟩)⟩
    have htold13 := fr13 _ _ tlk htold12
    have ht213 := fr13 _ _ (ne_of ht212 hlk12 (by intro z; cases z)) ht212
    refine ⟨_, rfl, .inl ⟨rfl, _, SqL.of htold13⟩, _, rfl, .inr (.inl ⟨t2, _, _, .int (n : Int), rfl, rfl, SqT.of ht213, rfl, told, _, .int (n : Int), rfl, rfl, htold13, small1000 (by rw [List.length_map, KNum_len]; omega), ?_⟩)⟩
    have eT : (KNum n).map V.int ++ [V.int (n : Int)] = (KNum (n + 1)).map V.int := by rw [KNum_succ, List.map_append]; rfl
    rw [eT]
    have R13 : ShAt CSh H13 S d lk (n + 1) (putK kvs (.inl (n : Int)) (.ref x)) ls' := ⟨⟨dx5, fr13 _ _ (ne_of (nl12 hS5 (by intro _ z; cases z)) hlk12 (by intro z; cases z)) (nl12 hS5 (by intro _ z; cases z))⟩, fr13 _ _ (ne_of (nl12 hdk5 (by intro _ z; cases z)) hlk12 (by intro z; cases z)) (nl12 hdk5 (by intro _ z; cases z)), lk13⟩
    have R14 : ShAt CSh (upd H13 told (.lst ((KNum (n + 1)).map V.int))) S d lk (n + 1) (putK kvs (.inl (n : Int)) (.ref x)) ls' := by
      obtain ⟨⟨dy, y1⟩, y2, y3⟩ := R13
      exact ⟨⟨dy, by rw [upd_ne (ne_of y1 htold13 (by intro z; cases z))]; exact y1⟩, by rw [upd_ne (ne_of y2 htold13 (by intro z; cases z))]; exact y2, by rw [upd_ne (Ne.symm tlk)]; exact y3⟩
    have fr14 : ∀ b o, b ≠ S → b ≠ d → b ≠ lk → b ≠ told → b ≠ T → H b = some o → upd H13 told (.lst ((KNum (n + 1)).map V.int)) b = some o := fun b o n1 n2 n3 n4 n5 e => by
      have e2 := s02 _ _ e
      rw [upd_ne n4]
      exact fr13 b o n3 (fr12 b o (ne_of_none e2 nfl) (ne_of_none (s1 _ _ e) hhd) (fr5 b o n1 n2 n5 (fr4 b o n5 e2)))
    have ex14 : ExtS H5 (upd H13 told (.lst ((KNum (n + 1)).map V.int))) := ⟨fun b φ e => by
      have e12 := nl12 e (by intro _ z; cases z)
      rw [upd_ne (ne_of e12 htold12 (by intro z; cases z))]
      exact fr13 b _ (ne_of e12 hlk12 (by intro z; cases z)) e12, fun b φ e => by
      have e12 := nl12 e (by intro _ z; cases z)
      rw [upd_ne (ne_of e12 htold12 (by intro z; cases z))]
      exact fr13 b _ (ne_of e12 hlk12 (by intro z; cases z)) e12⟩
    have htold14 : upd H13 told (.lst ((KNum (n + 1)).map V.int)) told = some (.lst ((KNum (n + 1)).map V.int)) := upd_same
    generalize upd H13 told (.lst ((KNum (n + 1)).map V.int)) = H14 at R14 fr14 ex14 htold14 ⊢
    have hkeys' := keys_put (v := .ref x) hkeys
    refine ⟨_, rfl, S, _, _, rfl, R14.self.choose_spec, rfl, S, d, lk, n + 1, _, ls', KNum (n + 1), rfl, R14, hkeys', KNum_sorted _, by rw [KNum_len]; omega, fun p hp => ?_⟩
    have g15 := same_new hp (.lst ((KNum (n + 1)).map V.int))
    refine ⟨_, rfl, p, told, KNum (n + 1), rfl, rfl, SqL.of upd_same, SqL.of (g15 _ _ htold14), _, rfl, iteT ?_⟩
    have R15 := R14.same g15
    refine ⟨_, rfl, S, _, _, rfl, R15.self.choose_spec, rfl, S, d, lk, n + 1, _, ls', rfl, R15, _, rfl, told, _, rfl, .inl (SqL.of (g15 _ _ htold14)), rfl, ?_⟩
    have kl' : (putK kvs (.inl (n : Int)) (.ref x)).length = ((KNum (n + 1)).map V.int).length := by
      have := congrArg List.length hkeys'
      rw [List.length_map, List.length_map] at this
      rw [List.length_map]; exact this
    rw [kl', decide_eq_true rfl]
    exact k _ (n + 1) _ ls' (fun b o n1 n2 n3 n4 n5 e => g15 _ _ (fr14 b o n1 n2 n3 n4 n5 e)) R15 hkeys' (by omega) len13 (g15 _ _ htold14) (tab5.ext (ex14.trans (ExtS.same g15)))
end
end Tw
set_option Elab.async false
set_option linter.all false
set_option maxRecDepth 100000
set_option maxHeartbeats 8000000
namespace Tw
open PySem PySem.Spec L2 PyProof.Rows
def spLawT (T : Addr) (K : PySem.W.Frag) : Sp := fun vs H Q _ => ∃ (a : Addr) (ns : List Int), vs = [.ref a] ∧ SqL K H a (ns.map V.int) ∧ ns.length ≤ 63 ∧ H T = some (.tbl #[]) ∧ ∀ H', Q (.bl true) H'
theorem sq_mono {K : PySem.W.Frag} {H H' : Hp} {a : Addr} {xs : List V} (m : ∀ b o, H b = some o → (∀ ps, o ≠ .tbl ps) → H' b = some o) (h : SqL K H a xs) : SqL K H' a xs := by
  rcases h with (h | ⟨o, h⟩) | h
  · exact .inl (.inl (m _ _ h (by intro _ z; cases z)))
  · exact .inl (.inr ⟨o, m _ _ h (by intro _ z; cases z)⟩)
  · exact .inr h
/-- a shelf and the list of its numbers, behind at most i puts -/
def SA (CSh : Addr) (H : Hp) (S d lk told : Addr) (i : Nat) : Prop := ∃ (n : Nat) (kvs : List (Key × V)) (ls : List V), n ≤ i ∧ ls.length ≤ 2 * i ∧ ShAt CSh H S d lk n kvs ls ∧ kvs.map (·.1) = (KNum n).map Sum.inl ∧ H told = some (.lst ((KNum n).map V.int))
theorem SA.same {CSh : Addr} {H H' : Hp} {S d lk told : Addr} {i : Nat} (h : SA CSh H S d lk told i) (s : Same H H') : SA CSh H' S d lk told i := by
  obtain ⟨n, kvs, ls, h1, h2, h3, h4, h5⟩ := h
  exact ⟨n, kvs, ls, h1, h2, h3.same s, h4, s _ _ h5⟩
theorem SA.more {CSh : Addr} {H : Hp} {S d lk told : Addr} {i j : Nat} (h : SA CSh H S d lk told i) (l : i ≤ j) : SA CSh H S d lk told j := by
  obtain ⟨n, kvs, ls, h1, h2, h3⟩ := h
  exact ⟨n, kvs, ls, by omega, by omega, h3⟩
theorem SA.keep {CSh : Addr} {H H' : Hp} {S d lk told S' d' lk' told' T : Addr} {i j : Nat} {q : Str} (h : SA CSh H S d lk told i) (h' : SA CSh H S' d' lk' told' j) (tab : TabAt H T q) (n1 : S ≠ S') (n2 : d ≠ d') (n3 : lk ≠ lk') (n4 : lk ≠ told') (n5 : told ≠ lk') (n6 : told ≠ told')
    (fr : ∀ b o, b ≠ S' → b ≠ d' → b ≠ lk' → b ≠ told' → b ≠ T → H b = some o → H' b = some o) : SA CSh H' S d lk told i := by
  obtain ⟨n, kvs, ls, h1, h2, ⟨⟨dx, e1⟩, e2, e3⟩, h4, e4⟩ := h
  obtain ⟨m, kvs', ls', _, _, ⟨⟨dx', f1⟩, f2, f3⟩, _, f4⟩ := h'
  obtain ⟨ps, f5, _⟩ := tab
  refine ⟨n, kvs, ls, h1, h2, ⟨⟨dx, fr _ _ n1 ?_ ?_ ?_ ?_ e1⟩, fr _ _ ?_ n2 ?_ ?_ ?_ e2, fr _ _ ?_ ?_ n3 n4 ?_ e3⟩, h4, fr _ _ ?_ ?_ n5 n6 ?_ e4⟩
  · exact ne_of e1 f2 (by intro z; cases z)
  · exact ne_of e1 f3 (by intro z; cases z)
  · exact ne_of e1 f4 (by intro z; cases z)
  · exact ne_of e1 f5 (by intro z; cases z)
  · exact ne_of e2 f1 (by intro z; cases z)
  · exact ne_of e2 f3 (by intro z; cases z)
  · exact ne_of e2 f4 (by intro z; cases z)
  · exact ne_of e2 f5 (by intro z; cases z)
  · exact ne_of e3 f1 (by intro z; cases z)
  · exact ne_of e3 f2 (by intro z; cases z)
  · exact ne_of e3 f5 (by intro z; cases z)
  · exact ne_of e4 f1 (by intro z; cases z)
  · exact ne_of e4 f2 (by intro z; cases z)
  · exact ne_of e4 f5 (by intro z; cases z)
section
variable {P : Program} {w : World} {K : PySem.W.Frag} {mg : Str → Option Value} {base : Heap} {f : Addr} {fd : FuncData} {CSh CTw : Addr}
abbrev nLaw : List Str := ["_law_script", "_law_shelf", "_law_beside", "_law_told", "_law_other", "_law_k", "_law_well_here", "_law_rows"]
theorem scLaw : FnScope nLaw ["_law_script"] (defScope sLaw) := ⟨rfl, rfl, rfl, by decide +kernel, rfl, by decide +kernel, by decide +kernel⟩
theorem ok_law {T : Addr} (F : Fun K "law" "law" sLaw f fd) (X : Txt mg) (L : ShF K mg CSh CTw) (DSh : MkOk P w K mg base 1 CSh ["self"] (spShI CSh)) (DW : DefOk P w K mg base 1 "_law_well" ["_law_script", "_law_k"] (spWell K)) (DG : DefOk P w K mg base 8 "_law_good_rows" ["_law_well_here"] spGoodRows)
    (DS : DefOk P w K mg base 2 "_law_spoilt" ["_law_well_here", "_law_rows"] spSpoilt) (DP : DefOk P w K mg base 14 "_law_put" ["_law_shelf", "_law_rows", "_law_told"] (spPut CSh T)) (DN : MethOk P w K mg base CX0 1 CSh "numbers" ["self"] (spNumbers CSh)) :
    FnOk P w K mg base CX0 30 f fd ["_law_script"] (spLawT T K) := by
  refine F.ok scLaw (fun vs H Q E h => (by obtain ⟨_, _, rfl, _⟩ := h; rfl)) (fun cdv A outer s H vs Q E hr h => ?_)
  obtain ⟨a, ns, rfl, hSq, hn, hT, k⟩ := h
  have nd := scLaw.nd
  have hr1 := hr.mono (show 1 ≤ 29 by decide)
  have hr2 := hr.mono (show 2 ≤ 29 by decide)
  have hr8 := hr.mono (show 8 ≤ 29 by decide)
  have hr14 := hr.mono (show 14 ≤ 29 by decide)
  refine ⟨_, pss_cons (ps_set (i := 1) nd rfl (Or.inl rfl) (pe_mk0 DSh hr2 rfl L.shelf))
    (pss_cons (ps_set (i := 2) nd rfl (Or.inl rfl) (pe_mk0 DSh hr2 rfl L.shelf))
    (pss_cons (ps_set (i := 3) nd rfl (Or.inl rfl) (pe_lst pa_nil))
    (pss_cons (ps_set (i := 4) nd rfl (Or.inl rfl) (pe_lst pa_nil))
    (pss_cons (ps_for PassesOwn.never rfl (pi_range2 rfl X.range (pa_c pe_int (pa_c (pe_callB (call_max2 rfl) rfl X.max tb_max (pa_c pe_int (pa_c (pe_callB (call_min2 rfl) rfl X.min tb_min (pa_c (pe_callB call_len_seq rfl X.len tb_len (pa_c (pv 0) pa_nil)) (pa_c pe_int pa_nil))) pa_nil))) pa_nil))) (pg_name (i := 5) nd rfl (Or.inl rfl))
      (pss_cons (ps_set (i := 6) nd rfl (Or.inl rfl) (pe_def DW hr1 (pa_c (pv 0) (pa_c (pv 5) pa_nil))))
      (pss_cons (ps_set (i := 7) nd rfl (Or.inl rfl) (pe_def DS hr2 (pa_c (pv 6) (pa_c (pe_def DG hr8 (pa_c (pv 6) pa_nil)) pa_nil))))
      (pss_cons (ps_if (pt_not (pt_val (pe_def DP hr14 (pa3 (pv 1) (pv 7) (pv 3))))) pss_never pss_nil)
      (pss_one (ps_if (PW.pt (pw_and (pt_cmpR op_eq (pe_op op_mod (pv 5) pe_int) pe_int (nomark _)) (pw_and1 (pt_not (pt_val (pe_def DP hr14 (pa3 (pv 2) (pv 7) (pv 4)))))))) pss_never pss_nil))))))
    (pss_one (ps_ret (pe_and (pe_cmpR (op_eqInts hr.units0) (pe_mth0 (E := E0) (pv 1) L.cS DN hr1 pass0) (pv 3) (nomark _)) (pe_one (pe_cmpR (op_eqInts hr.units0) (pe_mth0 (E := E0) (pv 2) L.cS DN hr1 pass0) (pv 4) (nomark _)))))))))), ?_⟩
  have tab0 : TabAt H T qL := ⟨#[], hT, trivial, fun pos cv h => by simp [PySem.codeAmong] at h⟩
  obtain ⟨M, eM, M3, M61⟩ : ∃ M : Int, (if (if (31 : Int) < ((ns.map V.int).length : Int) then (31 : Int) else ((ns.map V.int).length : Int)) > 11 then (if (31 : Int) < ((ns.map V.int).length : Int) then (31 : Int) else ((ns.map V.int).length : Int)) else 11) = M ∧ 11 ≤ M ∧ M ≤ 31 := by
    refine ⟨_, rfl, ?_, ?_⟩
    · (repeat' split) <;> omega
    · (repeat' split) <;> omega
  -- the two shelves
  intro S1 e1 nS1 ne1 z1
  have i1 : ∀ b o, H b = some o → upd (upd H e1 (.own S1)) S1 (.ins CSh e1 []) b = some o := fun b o e => by
    rw [upd_ne (ne_of_none e nS1), upd_ne (ne_of_none e ne1)]; exact e
  have f1 : ∀ b, upd (upd H e1 (.own S1)) S1 (.ins CSh e1 []) b = none → H b = none := fun b e => by
    cases z : H b with
    | none => rfl
    | some o => rw [i1 b o z] at e; cases e
  refine ⟨S1, e1, rfl, upd_same, fun H1 d1 lk1 fr1 nd1 nlk1 dl1 R1 => ⟨rfl, ?_⟩⟩
  have s01 : Same H H1 := fun b o e => fr1 b o (ne_of_none e nS1) (i1 b o e)
  intro S2 e2 nS2 ne2 z2
  have i2 : ∀ b o, H1 b = some o → upd (upd H1 e2 (.own S2)) S2 (.ins CSh e2 []) b = some o := fun b o e => by
    rw [upd_ne (ne_of_none e nS2), upd_ne (ne_of_none e ne2)]; exact e
  have f2 : ∀ b, upd (upd H1 e2 (.own S2)) S2 (.ins CSh e2 []) b = none → H1 b = none := fun b e => by
    cases z : H1 b with
    | none => rfl
    | some o => rw [i2 b o z] at e; cases e
  refine ⟨S2, e2, rfl, upd_same, fun H2 d2 lk2 fr2 nd2 nlk2 dl2 R2 => ⟨rfl, ?_⟩⟩
  have s12 : Same H1 H2 := fun b o e => fr2 b o (ne_of_none e nS2) (i2 b o e)
  refine ⟨nn (Nat.le_of_ble_eq_true rfl), fun t1 nt1 => ?_⟩
  have g3 := same_new nt1 (.lst [])
  refine ⟨nn (Nat.le_of_ble_eq_true rfl), fun t2 nt2 => ?_⟩
  have g4 := same_new nt2 (.lst [])
  have s24 := g3.trans g4
  have et1 : upd (upd H2 t1 (.lst [])) t2 (.lst []) t1 = some (.lst []) := g4 _ _ upd_same
  have et2 : upd (upd H2 t1 (.lst [])) t2 (.lst []) t2 = some (.lst []) := upd_same
  have nt2' : H2 t2 = none := g3.free nt2
  have t12 : t1 ≠ t2 := fun z => by rw [← z, upd_same] at nt2; cases nt2
  have s04 : Same H (upd (upd H2 t1 (.lst [])) t2 (.lst [])) := (s01.trans s12).trans s24
  have R14 := R1.same (s12.trans s24)
  have R24 := R2.same s24
  obtain ⟨⟨x1, hS1⟩, hd1, hlk1⟩ := id R1
  obtain ⟨⟨x2, hS2⟩, hd2, hlk2⟩ := id R2
  have nS12 : S1 ≠ S2 := ne_of_none hS1 nS2
  have nd12 : d1 ≠ d2 := ne_of_none hd1 (f2 _ nd2)
  have nl12 : lk1 ≠ lk2 := ne_of_none hlk1 (f2 _ nlk2)
  have lk1t1 : lk1 ≠ t1 := ne_of_none (s12 _ _ hlk1) nt1
  have lk1t2 : lk1 ≠ t2 := ne_of_none (s12 _ _ hlk1) nt2'
  have lk2t1 : lk2 ≠ t1 := ne_of_none hlk2 nt1
  have lk2t2 : lk2 ≠ t2 := ne_of_none hlk2 nt2'
  generalize upd (upd H2 t1 (.lst [])) t2 (.lst []) = H4 at g4 s24 et1 et2 s04 R14 R24 ⊢
  have A1 : SA CSh H4 S1 d1 lk1 t1 0 := ⟨0, [], [], Nat.le_refl _, Nat.le_refl _, R14, rfl, et1⟩
  have A2 : SA CSh H4 S2 d2 lk2 t2 0 := ⟨0, [], [], Nat.le_refl _, Nat.le_refl _, R24, rfl, et2⟩
  have tab4 := tab0.ext (ExtS.same s04)
  have hSq4 := s04.seq hSq
  -- what stood at the beginning, and isn't the table, stays
  have new : ∀ b, H b ≠ none → b ≠ S1 ∧ b ≠ d1 ∧ b ≠ lk1 ∧ b ≠ t1 ∧ b ≠ S2 ∧ b ≠ d2 ∧ b ≠ lk2 ∧ b ≠ t2 := fun b hb => by
    cases z : H b with
    | none => exact absurd z hb
    | some o =>
      have z1 := s01 _ _ z
      have z2 := s12 _ _ z1
      exact ⟨ne_of_none z nS1, ne_of_none z (f1 _ nd1), ne_of_none z (f1 _ nlk1), ne_of_none z2 nt1, ne_of_none z1 nS2, ne_of_none z1 (f2 _ nd2), ne_of_none z1 (f2 _ nlk2), ne_of_none z2 nt2'⟩
  refine ⟨_, rfl, a, ns.map V.int, rfl, .inl hSq4, _, _, rfl, _, _, rfl, 1, M, congrArg (fun z => [V.int 1, V.int z]) eM, ⟨by omega, by omega, by omega, by omega⟩, ?_⟩
  clear eM
  refine for_range (lo := 1) (n := (M - 1).toNat) (fun i σ H3 => ∃ (x5 x6 x7 : Option V), σ = [some (.ref a), some (.ref S1), some (.ref S2), some (.ref t1), some (.ref t2), x5, x6, x7] ∧ SA CSh H3 S1 d1 lk1 t1 i ∧ SA CSh H3 S2 d2 lk2 t2 i ∧ TabAt H3 T qL ∧ ∀ b o, H b = some o → (∀ ps, o ≠ .tbl ps) → H3 b = some o)
    ⟨_, _, _, rfl, A1, A2, tab4, fun b o e _ => s04 _ _ e⟩ ?_ ?_
  · rintro i σ H5 hi ⟨x5, x6, x7, rfl, A1, A2, tab5, old5⟩
    refine ⟨_, rfl, _, rfl, a, ns, _, rfl, sq_mono old5 hSq, hn, by omega, by omega, fun p H6 np s6 W6 => ?_⟩
    refine ⟨_, rfl, _, rfl, p, rfl, W6, fun Lr us rs H7 W7 s7 nL eL hrs l7 => ?_⟩
    have Lp : Lr ≠ p := fun z => by
      obtain ⟨ys, e⟩ := W6.some
      rw [z, e] at nL; cases nL
    refine ⟨p, Lr, us, rfl, W7, Lp, eL, fun N => ⟨rs, hrs N⟩, l7, fun L' us' H8 W8 s8 eL' L'p zL r8 l20 => ?_⟩
    obtain ⟨rs', hrs'⟩ := r8
    have s57 : Same H5 H7 := fun b o e => s7 b o (s6 b o e) (ne_of_none e np)
    have s58 : Same H5 H8 := fun b o e => s8 b o (s57 b o e) (ne_of_none e np)
    have freshL : H5 L' = none := by
      rcases zL with z | z
      · rw [z]; exact s6.free nL
      · exact s57.free z
    have A18 := A1.same s58
    have A28 := A2.same s58
    have tab8 := tab5.ext (ExtS.same s58)
    have N7 : ∀ {b o}, H5 b = some o → H7 b ≠ none := fun {b o} e => by rw [s57 _ _ e]; exact fun z => nomatch z
    obtain ⟨n1, kv1, ls1, b1, c1, ⟨⟨y1, q1⟩, q2, q3⟩, q4, q5⟩ := id A1
    obtain ⟨n2, kv2, ls2, b2, c2, ⟨⟨y2, p1⟩, p2, p3⟩, p4, p5⟩ := id A2
    obtain ⟨ps5, hT5, _⟩ := id tab5
    have L1 : L' ≠ lk1 := fun z => by rw [z, q3] at freshL; cases freshL
    have L2' : L' ≠ t1 := fun z => by rw [z, q5] at freshL; cases freshL
    have L3 : L' ≠ lk2 := fun z => by rw [z, p3] at freshL; cases freshL
    have L4 : L' ≠ t2 := fun z => by rw [z, p5] at freshL; cases freshL
    have L5 : L' ≠ S1 := fun z => by rw [z, q1] at freshL; cases freshL
    have L6 : L' ≠ d1 := fun z => by rw [z, q2] at freshL; cases freshL
    have L7 : L' ≠ T := fun z => by rw [z, hT5] at freshL; cases freshL
    refine ⟨_, rfl, _, rfl, _, rfl, S1, d1, lk1, t1, L', n1, kv1, ls1, us', rs', fun b => H7 b ≠ none, rfl, ⟨⟨y1, s58 _ _ q1⟩, s58 _ _ q2, s58 _ _ q3⟩, q4, by omega, by omega, eL', hrs', l20, N7 q1, N7 q2, N7 hT5, s58 _ _ q5, L1, L2', Ne.symm lk1t1, tab8, fun H9 n' kv' ls' fr9 R9 k9 n9 l9 told9 tab9 => ⟨_, rfl, iteF ?_⟩⟩
    have A19 : SA CSh H9 S1 d1 lk1 t1 (i + 1) := ⟨n', kv', ls', by omega, by omega, R9, k9, told9⟩
    have A29 : SA CSh H9 S2 d2 lk2 t2 i := A28.keep A18 tab8 (Ne.symm nS12) (Ne.symm nd12) (Ne.symm nl12) lk2t1 (Ne.symm lk1t2) (Ne.symm t12) fr9
    have old9 : ∀ b o, H b = some o → (∀ ps, o ≠ .tbl ps) → H9 b = some o := fun b o e z => by
      obtain ⟨m1, m2, m3, m4, _⟩ := new b (by rw [e]; exact fun y => nomatch y)
      exact fr9 b o m1 m2 m3 m4 (ne_of (old5 b o e z) hT5 (z _)) (s58 _ _ (old5 b o e z))
    refine ⟨_, rfl, _, _, rfl, rfl, (by show (0 : Int) < 3; decide), rfl, _, rfl, ite2 (fun c => ?_) (fun c => ?_)⟩
    · have eL9 := fr9 _ _ L5 L6 L1 L2' L7 eL'
      have tu9 : Tups H8 H9 := fun b ys e => by
        obtain ⟨n3, kv3, ls3, _, _, ⟨⟨y3, r1⟩, r2, r3⟩, _, r5⟩ := id A18
        obtain ⟨ps8, hT8, _⟩ := id tab8
        exact fr9 b _ (ne_of e r1 (by intro z; cases z)) (ne_of e r2 (by intro z; cases z)) (ne_of e r3 (by intro z; cases z)) (ne_of e r5 (by intro z; cases z)) (ne_of e hT8 (by intro z; cases z)) e
      have kp9 : Keeps (fun b => H7 b ≠ none) H8 H9 := ⟨tu9, fun b o e nb => fr9 b o (fun z => nb (by rw [z]; exact N7 q1)) (fun z => nb (by rw [z]; exact N7 q2)) (fun z => nb (by rw [z]; exact N7 q3)) (fun z => nb (by rw [z]; exact N7 q5)) (fun z => nb (by rw [z]; exact N7 hT5)) e⟩
      obtain ⟨n4, kv4, ls4, b4, c4, R4, k4, to4⟩ := id A29
      refine ⟨_, rfl, _, rfl, _, rfl, S2, d2, lk2, t2, L', n4, kv4, ls4, us', rs', fun b => H7 b ≠ none, rfl, R4, k4, by omega, by omega, eL9, hrs'.mono kp9, l20, N7 p1, N7 p2, N7 hT5, to4, L3, L4, Ne.symm lk2t2, tab9, fun H10 n'' kv'' ls'' fr10 R10 k10 n10 l10 told10 tab10 => ⟨_, rfl, iteF ?_⟩⟩
      refine ⟨_, _, _, rfl, A19.keep A29 tab9 nS12 nd12 nl12 lk1t2 (Ne.symm lk2t1) t12 fr10, ⟨n'', kv'', ls'', by omega, by omega, R10, k10, told10⟩, tab10, fun b o e z => ?_⟩
      obtain ⟨_, _, _, _, m1, m2, m3, m4⟩ := new b (by rw [e]; exact fun y => nomatch y)
      obtain ⟨ps9, hT9, _⟩ := id tab9
      exact fr10 b o m1 m2 m3 m4 (ne_of (old9 b o e z) hT9 (z _)) (old9 b o e z)
    · exact ⟨_, _, _, rfl, A19, A29.more (Nat.le_succ _), tab9, old9⟩
  rintro σ H5 ⟨x5, x6, x7, rfl, A1, A2, tab5, old5⟩
  obtain ⟨n1, kv1, ls1, b1, c1, R1, q4, q5⟩ := id A1
  refine ⟨_, rfl, S1, _, _, rfl, R1.self.choose_spec, rfl, S1, d1, lk1, n1, kv1, ls1, KNum n1, rfl, R1, q4, KNum_sorted _, by rw [KNum_len]; omega, fun p hp => ?_⟩
  have g6 := same_new hp (.lst ((KNum n1).map V.int))
  refine ⟨_, rfl, p, t1, KNum n1, rfl, rfl, SqL.of upd_same, SqL.of (g6 _ _ q5), _, rfl, iteT ?_⟩
  obtain ⟨n2, kv2, ls2, b2, c2, R2, p4, p5⟩ := A2.same g6
  refine ⟨_, rfl, S2, _, _, rfl, R2.self.choose_spec, rfl, S2, d2, lk2, n2, kv2, ls2, KNum n2, rfl, R2, p4, KNum_sorted _, by rw [KNum_len]; omega, fun p' hp' => ?_⟩
  have g7 := same_new hp' (.lst ((KNum n2).map V.int))
  exact ⟨_, rfl, p', t2, KNum n2, rfl, rfl, SqL.of upd_same, SqL.of (g7 _ _ p5), k _⟩
end
end Tw
set_option Elab.async false
set_option linter.all false
set_option maxRecDepth 100000
set_option maxHeartbeats 8000000
namespace Tw
open PySem PySem.Spec L2 PyProof.Rows
theorem tab_mk {K : PySem.W.Frag} {x : Str} {f c P : Addr} {oc : Value} {od : Option Addr} {fd : FuncData} {sl : Array (Option Value)} {oc2 : Value} {od2 : Option Addr} {vs : Array Value} {sl2 : Array (Option Value)} (a : PySem.W.nsIn K mainGlobals x = some (some (.ref f))) (l : K.lookup f = some ⟨oc, od, .func fd, sl⟩) (e : fd.code = .ref c) (l2 : K.lookup c = some ⟨oc2, od2, .fields vs, sl2⟩) (v : vs[11]? = some (.ref P)) : PySem.W.tabIn K x = some (c, P) := by
  unfold PySem.W.tabIn
  rw [a]
  simp only
  rw [l]
  simp only
  rw [e]
  simp only
  rw [l2]
  simp only
  rw [v]
theorem all_mk {l : PySem.W.OpenLaw} {w : World} {K : PySem.W.Frag} {h : Heap} {mg : Str → Option Value} {fa cb0 tb0 f1 f2 f3 f4 f5 f6 f7 f8 f9 f10 f11 f12 f13 f14 f15 f16 f17 f18 f19 f20 f21 f22 f23 f24 f25 f26 f27 f28 CB CK CL CS CT CH CD CSh CTw jS jT m1 m2 m3 m4 m5 m6 m7 m8 m9 m10 m11 : Addr} (X : K.In h) (G : h.Ns mainGlobals mg) (hfa : mg "law" = some (.ref fa)) (hta : PySem.W.tabIn K "_law_put" = some (cb0, tb0))
    {od1 an1 od2 an2 od3 an3 od4 an4 od5 an5 od6 an6 od7 an7 od8 an8 od9 an9 od10 an10 od11 an11 od12 an12 od13 an13 od14 an14 od15 an15 od16 an16 od17 an17 od18 an18 od19 an19 od20 an20 od21 an21 od22 an22 od23 an23 od24 an24 od25 an25 od26 an26 od27 an27 od28 an28 : Option Addr} {sl1 sl2 sl3 sl4 sl5 sl6 sl7 sl8 sl9 sl10 sl11 sl12 sl13 sl14 sl15 sl16 sl17 sl18 sl19 sl20 sl21 sl22 sl23 sl24 sl25 sl26 sl27 sl28 : Array (Option Value)} {oc1 kV1 dc1 pm1 cd1 ct1 oc2 kV2 dc2 pm2 cd2 ct2 oc3 kV3 dc3 pm3 cd3 ct3 oc4 kV4 dc4 pm4 cd4 ct4 oc5 kV5 dc5 pm5 cd5 ct5 oc6 kV6 dc6 pm6 cd6 ct6 oc7 kV7 dc7 pm7 cd7 ct7 oc8 kV8 dc8 pm8 cd8 ct8 oc9 kV9 dc9 pm9 cd9 ct9 oc10 kV10 dc10 pm10 cd10 ct10 oc11 kV11 dc11 pm11 cd11 ct11 oc12 kV12 dc12 pm12 cd12 ct12 oc13 kV13 dc13 pm13 cd13 ct13 oc14 kV14 dc14 pm14 cd14 ct14 oc15 kV15 dc15 pm15 cd15 ct15 oc16 kV16 dc16 pm16 cd16 ct16 oc17 kV17 dc17 pm17 cd17 ct17 oc18 kV18 dc18 pm18 cd18 ct18 oc19 kV19 dc19 pm19 cd19 ct19 oc20 kV20 dc20 pm20 cd20 ct20 oc21 kV21 dc21 pm21 cd21 ct21 oc22 kV22 dc22 pm22 cd22 ct22 oc23 kV23 dc23 pm23 cd23 ct23 oc24 kV24 dc24 pm24 cd24 ct24 oc25 kV25 dc25 pm25 cd25 ct25 oc26 kV26 dc26 pm26 cd26 ct26 oc27 kV27 dc27 pm27 cd27 ct27 oc28 kV28 dc28 pm28 cd28 ct28 : Value} {t1 t2 t3 t4 t5 : Tok}
    (a1 : PySem.W.nsIn K mainGlobals "is_key" = some (some (.ref f1))) (l1 : K.lookup f1 = some ⟨oc1, od1, .func (PySem.W.fnOf "is_key" "is_key" (defArgs sIsKey) (defBody sIsKey) (defScope sIsKey) .none kV1 dc1 pm1 an1 cd1 ct1), sl1⟩) (c1 : PySem.W.codeIn K cd1 "is_key" = true) (k1 : PySem.W.keepIn K (.ref f1) = true)
    (a2 : PySem.W.nsIn K mainGlobals "checked" = some (some (.ref f2))) (l2 : K.lookup f2 = some ⟨oc2, od2, .func (PySem.W.fnOf "checked" "checked" (defArgs sChecked) (defBody sChecked) (defScope sChecked) .none kV2 dc2 pm2 an2 cd2 ct2), sl2⟩) (c2 : PySem.W.codeIn K cd2 "checked" = true) (k2 : PySem.W.keepIn K (.ref f2) = true)
    (a3 : PySem.W.nsIn K mainGlobals "fits" = some (some (.ref f3))) (l3 : K.lookup f3 = some ⟨oc3, od3, .func (PySem.W.fnOf "fits" "fits" (defArgs sFits) (defBody sFits) (defScope sFits) .none kV3 dc3 pm3 an3 cd3 ct3), sl3⟩) (c3 : PySem.W.codeIn K cd3 "fits" = true) (k3 : PySem.W.keepIn K (.ref f3) = true)
    (a4 : PySem.W.nsIn K mainGlobals "has_few_figures" = some (some (.ref f4))) (l4 : K.lookup f4 = some ⟨oc4, od4, .func (PySem.W.fnOf "has_few_figures" "has_few_figures" (defArgs sFew) (defBody sFew) (defScope sFew) .none kV4 dc4 pm4 an4 cd4 ct4), sl4⟩) (c4 : PySem.W.codeIn K cd4 "has_few_figures" = true) (k4 : PySem.W.keepIn K (.ref f4) = true)
    (a5 : PySem.W.nsIn K mainGlobals "is_sign" = some (some (.ref f5))) (l5 : K.lookup f5 = some ⟨oc5, od5, .func (PySem.W.fnOf "is_sign" "is_sign" (defArgs sSign) (defBody sSign) (defScope sSign) .none kV5 dc5 pm5 an5 cd5 ct5), sl5⟩) (c5 : PySem.W.codeIn K cd5 "is_sign" = true) (k5 : PySem.W.keepIn K (.ref f5) = true)
    (a6 : PySem.W.nsIn K mainGlobals "ahead" = some (some (.ref f6))) (l6 : K.lookup f6 = some ⟨oc6, od6, .func (PySem.W.fnOf "ahead" "ahead" (defArgs sAhead) (defBody sAhead) (defScope sAhead) .none kV6 dc6 pm6 an6 cd6 ct6), sl6⟩) (c6 : PySem.W.codeIn K cd6 "ahead" = true) (k6 : PySem.W.keepIn K (.ref f6) = true)
    (a7 : PySem.W.nsIn K mainGlobals "standing" = some (some (.ref f7))) (l7 : K.lookup f7 = some ⟨oc7, od7, .func (PySem.W.fnOf "standing" "standing" (defArgs sStanding) (defBody sStanding) (defScope sStanding) .none kV7 dc7 pm7 an7 cd7 ct7), sl7⟩) (c7 : PySem.W.codeIn K cd7 "standing" = true) (k7 : PySem.W.keepIn K (.ref f7) = true)
    (a8 : PySem.W.nsIn K mainGlobals "checked_rows" = some (some (.ref f8))) (l8 : K.lookup f8 = some ⟨oc8, od8, .func (PySem.W.fnOf "checked_rows" "checked_rows" (defArgs sChRows) (defBody sChRows) (defScope sChRows) .none kV8 dc8 pm8 an8 cd8 ct8), sl8⟩) (c8 : PySem.W.codeIn K cd8 "checked_rows" = true) (k8 : PySem.W.keepIn K (.ref f8) = true)
    (a9 : PySem.W.nsIn K mainGlobals "own_rows" = some (some (.ref f9))) (l9 : K.lookup f9 = some ⟨oc9, od9, .func (PySem.W.fnOf "own_rows" "own_rows" (defArgs sOwnRows) (defBody sOwnRows) (defScope sOwnRows) .none kV9 dc9 pm9 an9 cd9 ct9), sl9⟩) (c9 : PySem.W.codeIn K cd9 "own_rows" = true) (k9 : PySem.W.keepIn K (.ref f9) = true)
    (a10 : PySem.W.nsIn K mainGlobals "rise" = some (some (.ref f10))) (l10 : K.lookup f10 = some ⟨oc10, od10, .func (PySem.W.fnOf "rise" "rise" (defArgs sRise) (defBody sRise) (defScope sRise) .none kV10 dc10 pm10 an10 cd10 ct10), sl10⟩) (c10 : PySem.W.codeIn K cd10 "rise" = true) (k10 : PySem.W.keepIn K (.ref f10) = true)
    (a11 : PySem.W.nsIn K mainGlobals "label_of_rows" = some (some (.ref f11))) (l11 : K.lookup f11 = some ⟨oc11, od11, .func (PySem.W.fnOf "label_of_rows" "label_of_rows" (defArgs sLabRows) (defBody sLabRows) (defScope sLabRows) .none kV11 dc11 pm11 an11 cd11 ct11), sl11⟩) (c11 : PySem.W.codeIn K cd11 "label_of_rows" = true) (k11 : PySem.W.keepIn K (.ref f11) = true)
    (a12 : PySem.W.nsIn K mainGlobals "is_stem" = some (some (.ref f12))) (l12 : K.lookup f12 = some ⟨oc12, od12, .func (PySem.W.fnOf "is_stem" "is_stem" (defArgs sIsStem) (defBody sIsStem) (defScope sIsStem) .none kV12 dc12 pm12 an12 cd12 ct12), sl12⟩) (c12 : PySem.W.codeIn K cd12 "is_stem" = true) (k12 : PySem.W.keepIn K (.ref f12) = true)
    (a13 : PySem.W.nsIn K mainGlobals "_law_well" = some (some (.ref f13))) (l13 : K.lookup f13 = some ⟨oc13, od13, .func (PySem.W.fnOf "_law_well" "_law_well" (defArgs sWell) (defBody sWell) (defScope sWell) .none kV13 dc13 pm13 an13 cd13 ct13), sl13⟩) (c13 : PySem.W.codeIn K cd13 "_law_well" = true) (k13 : PySem.W.keepIn K (.ref f13) = true)
    (a14 : PySem.W.nsIn K mainGlobals "_law_pull" = some (some (.ref f14))) (l14 : K.lookup f14 = some ⟨oc14, od14, .func (PySem.W.fnOf "_law_pull" "_law_pull" (defArgs sPull) (defBody sPull) (defScope sPull) .none kV14 dc14 pm14 an14 cd14 ct14), sl14⟩) (c14 : PySem.W.codeIn K cd14 "_law_pull" = true) (k14 : PySem.W.keepIn K (.ref f14) = true)
    (a15 : PySem.W.nsIn K mainGlobals "_law_great" = some (some (.ref f15))) (l15 : K.lookup f15 = some ⟨oc15, od15, .func (PySem.W.fnOf "_law_great" "_law_great" (defArgs sGreat) (defBody sGreat) (defScope sGreat) .none kV15 dc15 pm15 an15 cd15 ct15), sl15⟩) (c15 : PySem.W.codeIn K cd15 "_law_great" = true) (k15 : PySem.W.keepIn K (.ref f15) = true)
    (a16 : PySem.W.nsIn K mainGlobals "_law_text" = some (some (.ref f16))) (l16 : K.lookup f16 = some ⟨oc16, od16, .func (PySem.W.fnOf "_law_text" "_law_text" (defArgs sText) (defBody sText) (defScope sText) .none kV16 dc16 pm16 an16 cd16 ct16), sl16⟩) (c16 : PySem.W.codeIn K cd16 "_law_text" = true) (k16 : PySem.W.keepIn K (.ref f16) = true)
    (a17 : PySem.W.nsIn K mainGlobals "_law_key" = some (some (.ref f17))) (l17 : K.lookup f17 = some ⟨oc17, od17, .func (PySem.W.fnOf "_law_key" "_law_key" (defArgs sKey) (defBody sKey) (defScope sKey) .none kV17 dc17 pm17 an17 cd17 ct17), sl17⟩) (c17 : PySem.W.codeIn K cd17 "_law_key" = true) (k17 : PySem.W.keepIn K (.ref f17) = true)
    (a18 : PySem.W.nsIn K mainGlobals "_law_rank" = some (some (.ref f18))) (l18 : K.lookup f18 = some ⟨oc18, od18, .func (PySem.W.fnOf "_law_rank" "_law_rank" (defArgs sRank) (defBody sRank) (defScope sRank) .none kV18 dc18 pm18 an18 cd18 ct18), sl18⟩) (c18 : PySem.W.codeIn K cd18 "_law_rank" = true) (k18 : PySem.W.keepIn K (.ref f18) = true)
    (a19 : PySem.W.nsIn K mainGlobals "_law_less" = some (some (.ref f19))) (l19 : K.lookup f19 = some ⟨oc19, od19, .func (PySem.W.fnOf "_law_less" "_law_less" (defArgs sLess) (defBody sLess) (defScope sLess) .none kV19 dc19 pm19 an19 cd19 ct19), sl19⟩) (c19 : PySem.W.codeIn K cd19 "_law_less" = true) (k19 : PySem.W.keepIn K (.ref f19) = true)
    (a20 : PySem.W.nsIn K mainGlobals "_law_alike" = some (some (.ref f20))) (l20 : K.lookup f20 = some ⟨oc20, od20, .func (PySem.W.fnOf "_law_alike" "_law_alike" (defArgs sAlike) (defBody sAlike) (defScope sAlike) .none kV20 dc20 pm20 an20 cd20 ct20), sl20⟩) (c20 : PySem.W.codeIn K cd20 "_law_alike" = true) (k20 : PySem.W.keepIn K (.ref f20) = true)
    (a21 : PySem.W.nsIn K mainGlobals "_law_asked" = some (some (.ref f21))) (l21 : K.lookup f21 = some ⟨oc21, od21, .func (PySem.W.fnOf "_law_asked" "_law_asked" (defArgs sAsked) (defBody sAsked) (defScope sAsked) .none kV21 dc21 pm21 an21 cd21 ct21), sl21⟩) (c21 : PySem.W.codeIn K cd21 "_law_asked" = true) (k21 : PySem.W.keepIn K (.ref f21) = true)
    (a22 : PySem.W.nsIn K mainGlobals "_law_good_rows" = some (some (.ref f22))) (l22 : K.lookup f22 = some ⟨oc22, od22, .func (PySem.W.fnOf "_law_good_rows" "_law_good_rows" (defArgs sGoodRows) (defBody sGoodRows) (defScope sGoodRows) .none kV22 dc22 pm22 an22 cd22 ct22), sl22⟩) (c22 : PySem.W.codeIn K cd22 "_law_good_rows" = true) (k22 : PySem.W.keepIn K (.ref f22) = true)
    (a23 : PySem.W.nsIn K mainGlobals "_law_spoilt" = some (some (.ref f23))) (l23 : K.lookup f23 = some ⟨oc23, od23, .func (PySem.W.fnOf "_law_spoilt" "_law_spoilt" (defArgs sSpoilt) (defBody sSpoilt) (defScope sSpoilt) .none kV23 dc23 pm23 an23 cd23 ct23), sl23⟩) (c23 : PySem.W.codeIn K cd23 "_law_spoilt" = true) (k23 : PySem.W.keepIn K (.ref f23) = true)
    (a24 : PySem.W.nsIn K mainGlobals "_law_is_key" = some (some (.ref f24))) (l24 : K.lookup f24 = some ⟨oc24, od24, .func (PySem.W.fnOf "_law_is_key" "_law_is_key" (defArgs sLIsKey) (defBody sLIsKey) (defScope sLIsKey) .none kV24 dc24 pm24 an24 cd24 ct24), sl24⟩) (c24 : PySem.W.codeIn K cd24 "_law_is_key" = true) (k24 : PySem.W.keepIn K (.ref f24) = true)
    (a25 : PySem.W.nsIn K mainGlobals "_law_due" = some (some (.ref f25))) (l25 : K.lookup f25 = some ⟨oc25, od25, .func (PySem.W.fnOf "_law_due" "_law_due" (defArgs sDue) (defBody sDue) (defScope sDue) .none kV25 dc25 pm25 an25 cd25 ct25), sl25⟩) (c25 : PySem.W.codeIn K cd25 "_law_due" = true) (k25 : PySem.W.keepIn K (.ref f25) = true)
    (a26 : PySem.W.nsIn K mainGlobals "_law_is_put" = some (some (.ref f26))) (l26 : K.lookup f26 = some ⟨oc26, od26, .func (PySem.W.fnOf "_law_is_put" "_law_is_put" (defArgs sIsPut) (defBody sIsPut) (defScope sIsPut) .none kV26 dc26 pm26 an26 cd26 ct26), sl26⟩) (c26 : PySem.W.codeIn K cd26 "_law_is_put" = true) (k26 : PySem.W.keepIn K (.ref f26) = true)
    (a27 : PySem.W.nsIn K mainGlobals "_law_put" = some (some (.ref f27))) (l27 : K.lookup f27 = some ⟨oc27, od27, .func (PySem.W.fnOf "_law_put" "_law_put" (defArgs sPut) (defBody sPut) (defScope sPut) .none kV27 dc27 pm27 an27 cd27 ct27), sl27⟩) (c27 : PySem.W.codeIn K cd27 "_law_put" = true) (k27 : PySem.W.keepIn K (.ref f27) = true)
    (a28 : PySem.W.nsIn K mainGlobals "law" = some (some (.ref f28))) (l28 : K.lookup f28 = some ⟨oc28, od28, .func (PySem.W.fnOf "law" "law" (defArgs sLaw) (defBody sLaw) (defScope sLaw) .none kV28 dc28 pm28 an28 cd28 ct28), sl28⟩) (c28 : PySem.W.codeIn K cd28 "law" = true) (k28 : PySem.W.keepIn K (.ref f28) = true)
    (z1 : PySem.W.nsIn K mainGlobals "isinstance" = some none) (z2 : PySem.W.nsIn K mainGlobals "bool" = some none) (z3 : PySem.W.nsIn K mainGlobals "int" = some none) (z4 : PySem.W.nsIn K mainGlobals "str" = some none) (z5 : PySem.W.nsIn K mainGlobals "tuple" = some none) (z6 : PySem.W.nsIn K mainGlobals "list" = some none) (z7 : PySem.W.nsIn K mainGlobals "len" = some none) (z8 : PySem.W.nsIn K mainGlobals "all" = some none) (z9 : PySem.W.nsIn K mainGlobals "abs" = some none) (z10 : PySem.W.nsIn K mainGlobals "max" = some none) (z11 : PySem.W.nsIn K mainGlobals "min" = some none) (z12 : PySem.W.nsIn K mainGlobals "range" = some none) (z13 : PySem.W.nsIn K mainGlobals "sorted" = some none) (z14 : PySem.W.nsIn K mainGlobals "ValueError" = some none)
    (m1_ : PySem.W.nsIn K mainGlobals "MOST_SIGNS" = some (some (.int 40 t1))) (m2_ : PySem.W.nsIn K mainGlobals "MOST_THINGS" = some (some (.int 4 t2))) (m3_ : PySem.W.nsIn K mainGlobals "MOST_DEEP" = some (some (.int 3 t3))) (m4_ : PySem.W.nsIn K mainGlobals "MOST_ROWS" = some (some (.int 4 t4))) (m5_ : PySem.W.nsIn K mainGlobals "HEIGHT" = some (some (.int 0 t5)))
    {ocjS kVjS dcjS pmjS cdjS ctjS : Value} {odjS anjS : Option Addr} {sljS : Array (Option Value)} (iljS : K.lookup jS = some ⟨ocjS, odjS, .func (PySem.W.fnOf "__init__" "Shelf.__init__" (defArgs iShelf) (defBody iShelf) (defScope iShelf) .none kVjS dcjS pmjS anjS cdjS ctjS), sljS⟩) (icjS : PySem.W.codeIn K cdjS "Shelf.__init__" = true) (ikjS : PySem.W.keepIn K (.ref jS) = true)
    {ocjT kVjT dcjT pmjT cdjT ctjT : Value} {odjT anjT : Option Addr} {sljT : Array (Option Value)} (iljT : K.lookup jT = some ⟨ocjT, odjT, .func (PySem.W.fnOf "__init__" "Twig.__init__" (defArgs iTwig) (defBody iTwig) (defScope iTwig) .none kVjT dcjT pmjT anjT cdjT ctjT), sljT⟩) (icjT : PySem.W.codeIn K cdjT "Twig.__init__" = true) (ikjT : PySem.W.keepIn K (.ref jT) = true)
    {ocm1 kVm1 dcm1 pmm1 cdm1 ctm1 : Value} {odm1 anm1 : Option Addr} {slm1 : Array (Option Value)} (ilm1 : K.lookup m1 = some ⟨ocm1, odm1, .func (PySem.W.fnOf "put_leaf" "Shelf.put_leaf" (defArgs mPutLeaf) (defBody mPutLeaf) (defScope mPutLeaf) .none kVm1 dcm1 pmm1 anm1 cdm1 ctm1), slm1⟩) (icm1 : PySem.W.codeIn K cdm1 "Shelf.put_leaf" = true) (ikm1 : PySem.W.keepIn K (.ref m1) = true)
    {ocm2 kVm2 dcm2 pmm2 cdm2 ctm2 : Value} {odm2 anm2 : Option Addr} {slm2 : Array (Option Value)} (ilm2 : K.lookup m2 = some ⟨ocm2, odm2, .func (PySem.W.fnOf "put_twig" "Shelf.put_twig" (defArgs mPutTwig) (defBody mPutTwig) (defScope mPutTwig) .none kVm2 dcm2 pmm2 anm2 cdm2 ctm2), slm2⟩) (icm2 : PySem.W.codeIn K cdm2 "Shelf.put_twig" = true) (ikm2 : PySem.W.keepIn K (.ref m2) = true)
    {ocm3 kVm3 dcm3 pmm3 cdm3 ctm3 : Value} {odm3 anm3 : Option Addr} {slm3 : Array (Option Value)} (ilm3 : K.lookup m3 = some ⟨ocm3, odm3, .func (PySem.W.fnOf "holders" "Shelf.holders" (defArgs mHolders) (defBody mHolders) (defScope mHolders) .none kVm3 dcm3 pmm3 anm3 cdm3 ctm3), slm3⟩) (icm3 : PySem.W.codeIn K cdm3 "Shelf.holders" = true) (ikm3 : PySem.W.keepIn K (.ref m3) = true)
    {ocm4 kVm4 dcm4 pmm4 cdm4 ctm4 : Value} {odm4 anm4 : Option Addr} {slm4 : Array (Option Value)} (ilm4 : K.lookup m4 = some ⟨ocm4, odm4, .func (PySem.W.fnOf "outside" "Shelf.outside" (defArgs mOutside) (defBody mOutside) (defScope mOutside) .none kVm4 dcm4 pmm4 anm4 cdm4 ctm4), slm4⟩) (icm4 : PySem.W.codeIn K cdm4 "Shelf.outside" = true) (ikm4 : PySem.W.keepIn K (.ref m4) = true)
    {ocm5 kVm5 dcm5 pmm5 cdm5 ctm5 : Value} {odm5 anm5 : Option Addr} {slm5 : Array (Option Value)} (ilm5 : K.lookup m5 = some ⟨ocm5, odm5, .func (PySem.W.fnOf "alone" "Shelf.alone" (defArgs mAlone) (defBody mAlone) (defScope mAlone) .none kVm5 dcm5 pmm5 anm5 cdm5 ctm5), slm5⟩) (icm5 : PySem.W.codeIn K cdm5 "Shelf.alone" = true) (ikm5 : PySem.W.keepIn K (.ref m5) = true)
    {ocm6 kVm6 dcm6 pmm6 cdm6 ctm6 : Value} {odm6 anm6 : Option Addr} {slm6 : Array (Option Value)} (ilm6 : K.lookup m6 = some ⟨ocm6, odm6, .func (PySem.W.fnOf "look" "Shelf.look" (defArgs mLook) (defBody mLook) (defScope mLook) .none kVm6 dcm6 pmm6 anm6 cdm6 ctm6), slm6⟩) (icm6 : PySem.W.codeIn K cdm6 "Shelf.look" = true) (ikm6 : PySem.W.keepIn K (.ref m6) = true)
    {ocm7 kVm7 dcm7 pmm7 cdm7 ctm7 : Value} {odm7 anm7 : Option Addr} {slm7 : Array (Option Value)} (ilm7 : K.lookup m7 = some ⟨ocm7, odm7, .func (PySem.W.fnOf "label" "Shelf.label" (defArgs mLabel) (defBody mLabel) (defScope mLabel) .none kVm7 dcm7 pmm7 anm7 cdm7 ctm7), slm7⟩) (icm7 : PySem.W.codeIn K cdm7 "Shelf.label" = true) (ikm7 : PySem.W.keepIn K (.ref m7) = true)
    {ocm8 kVm8 dcm8 pmm8 cdm8 ctm8 : Value} {odm8 anm8 : Option Addr} {slm8 : Array (Option Value)} (ilm8 : K.lookup m8 = some ⟨ocm8, odm8, .func (PySem.W.fnOf "numbers" "Shelf.numbers" (defArgs mNumbers) (defBody mNumbers) (defScope mNumbers) .none kVm8 dcm8 pmm8 anm8 cdm8 ctm8), slm8⟩) (icm8 : PySem.W.codeIn K cdm8 "Shelf.numbers" = true) (ikm8 : PySem.W.keepIn K (.ref m8) = true)
    {ocm9 kVm9 dcm9 pmm9 cdm9 ctm9 : Value} {odm9 anm9 : Option Addr} {slm9 : Array (Option Value)} (ilm9 : K.lookup m9 = some ⟨ocm9, odm9, .func (PySem.W.fnOf "many" "Shelf.many" (defArgs mMany) (defBody mMany) (defScope mMany) .none kVm9 dcm9 pmm9 anm9 cdm9 ctm9), slm9⟩) (icm9 : PySem.W.codeIn K cdm9 "Shelf.many" = true) (ikm9 : PySem.W.keepIn K (.ref m9) = true)
    {ocm10 kVm10 dcm10 pmm10 cdm10 ctm10 : Value} {odm10 anm10 : Option Addr} {slm10 : Array (Option Value)} (ilm10 : K.lookup m10 = some ⟨ocm10, odm10, .func (PySem.W.fnOf "twig_of" "Shelf.twig_of" (defArgs mTwigOf) (defBody mTwigOf) (defScope mTwigOf) .none kVm10 dcm10 pmm10 anm10 cdm10 ctm10), slm10⟩) (icm10 : PySem.W.codeIn K cdm10 "Shelf.twig_of" = true) (ikm10 : PySem.W.keepIn K (.ref m10) = true)
    {ocm11 kVm11 dcm11 pmm11 cdm11 ctm11 : Value} {odm11 anm11 : Option Addr} {slm11 : Array (Option Value)} (ilm11 : K.lookup m11 = some ⟨ocm11, odm11, .func (PySem.W.fnOf "road_up" "Shelf.road_up" (defArgs mRoad) (defBody mRoad) (defScope mRoad) .none kVm11 dcm11 pmm11 anm11 cdm11 ctm11), slm11⟩) (icm11 : PySem.W.codeIn K cdm11 "Shelf.road_up" = true) (ikm11 : PySem.W.keepIn K (.ref m11) = true)
    (xCB : PySem.W.nsIn K mainGlobals "TwigError" = some (some (.ref CB))) (xCK : PySem.W.nsIn K mainGlobals "NoKey" = some (some (.ref CK))) (xCL : PySem.W.nsIn K mainGlobals "NoLeaf" = some (some (.ref CL))) (xCS : PySem.W.nsIn K mainGlobals "NoStem" = some (some (.ref CS))) (xCT : PySem.W.nsIn K mainGlobals "NoTwig" = some (some (.ref CT))) (xCH : PySem.W.nsIn K mainGlobals "NotHeld" = some (some (.ref CH))) (xCD : PySem.W.nsIn K mainGlobals "Shared" = some (some (.ref CD))) (xCSh : PySem.W.nsIn K mainGlobals "Shelf" = some (some (.ref CSh))) (xCTw : PySem.W.nsIn K mainGlobals "Twig" = some (some (.ref CTw))) (vjS : PySem.W.findIn K (.ref CSh) "__init__" = some (some (.ref jS))) (vjT : PySem.W.findIn K (.ref CTw) "__init__" = some (some (.ref jT))) (vm1 : PySem.W.findIn K (.ref CSh) "put_leaf" = some (some (.ref m1))) (vm2 : PySem.W.findIn K (.ref CSh) "put_twig" = some (some (.ref m2))) (vm3 : PySem.W.findIn K (.ref CSh) "holders" = some (some (.ref m3))) (vm4 : PySem.W.findIn K (.ref CSh) "outside" = some (some (.ref m4))) (vm5 : PySem.W.findIn K (.ref CSh) "alone" = some (some (.ref m5))) (vm6 : PySem.W.findIn K (.ref CSh) "look" = some (some (.ref m6))) (vm7 : PySem.W.findIn K (.ref CSh) "label" = some (some (.ref m7))) (vm8 : PySem.W.findIn K (.ref CSh) "numbers" = some (some (.ref m8))) (vm9 : PySem.W.findIn K (.ref CSh) "many" = some (some (.ref m9))) (vm10 : PySem.W.findIn K (.ref CSh) "twig_of" = some (some (.ref m10))) (vm11 : PySem.W.findIn K (.ref CSh) "road_up" = some (some (.ref m11))) (fnjS : PySem.W.isFn K (.ref jS) = true) (fnjT : PySem.W.isFn K (.ref jT) = true) (fnm1 : PySem.W.isFn K (.ref m1) = true) (fnm2 : PySem.W.isFn K (.ref m2) = true) (fnm3 : PySem.W.isFn K (.ref m3) = true) (fnm4 : PySem.W.isFn K (.ref m4) = true) (fnm5 : PySem.W.isFn K (.ref m5) = true) (fnm6 : PySem.W.isFn K (.ref m6) = true) (fnm7 : PySem.W.isFn K (.ref m7) = true) (fnm8 : PySem.W.isFn K (.ref m8) = true) (fnm9 : PySem.W.isFn K (.ref m9) = true) (fnm10 : PySem.W.isFn K (.ref m10) = true) (fnm11 : PySem.W.isFn K (.ref m11) = true) (mkCSh : PySem.W.makesIn K CSh = true) (kpCSh : PySem.W.keepIn K (.ref CSh) = true) (pgCSh : PySem.W.plainGet K CSh Str.empty = true) (hdCSh : PySem.W.hasDictIn K CSh = true) (poCSh : PySem.W.plainOver K CSh = true) (saCSh : PySem.W.findIn K (.ref CSh) "__setattr__" = some (some (.builtin "object.__setattr__"))) (mkCTw : PySem.W.makesIn K CTw = true) (kpCTw : PySem.W.keepIn K (.ref CTw) = true) (pgCTw : PySem.W.plainGet K CTw Str.empty = true) (hdCTw : PySem.W.hasDictIn K CTw = true) (poCTw : PySem.W.plainOver K CTw = true) (saCTw : PySem.W.findIn K (.ref CTw) "__setattr__" = some (some (.builtin "object.__setattr__"))) (na_kept : PySem.W.findIn K (.ref CSh) "kept" = some none) (na_following : PySem.W.findIn K (.ref CSh) "following" = some none) (na_looks : PySem.W.findIn K (.ref CSh) "looks" = some none) (na_things : PySem.W.findIn K (.ref CTw) "things" = some none) (na_tag : PySem.W.findIn K (.ref CTw) "tag" = some none) (na_above : PySem.W.findIn K (.ref CTw) "above" = some none) (na_holds : PySem.W.findIn K (.ref CTw) "holds" = some none) (tyB : PySem.W.typeIn K (.ref CB) = some (.type "type")) (mB : PySem.W.mroIn K CB (.type "BaseException") = some true) (exCK : PySem.W.excIn K CK bmV "ValueError.__new__" = true) (e2CK : PySem.W.findIn K (.ref CK) "__getattribute__" = some (some (.builtin "BaseException.__getattribute__"))) (e3CK : PySem.W.findIn K (.ref CK) "__getattr__" = some none) (e4CK : PySem.W.mroIn K CK (.type "BaseException") = some true) (e5CK : PySem.W.mroIn K CK (.type "object") = some true) (e6CK : PySem.W.findIn K (.ref CK) "__class__" = some (some (.builtin "object.__class__"))) (sbCK : PySem.W.mroIn K CK (.ref CB) = some true) (vaCK : PySem.W.kitOne K (.ref CK) (.type "ValueError") = some true) (kCKCK : PySem.W.kitOne K (.ref CK) (.ref CK) = some true) (kCKCL : PySem.W.kitOne K (.ref CK) (.ref CL) = some false) (kCKCS : PySem.W.kitOne K (.ref CK) (.ref CS) = some false) (kCKCT : PySem.W.kitOne K (.ref CK) (.ref CT) = some false) (kCKCH : PySem.W.kitOne K (.ref CK) (.ref CH) = some false) (kCKCD : PySem.W.kitOne K (.ref CK) (.ref CD) = some false) (exCL : PySem.W.excIn K CL bmV "ValueError.__new__" = true) (e2CL : PySem.W.findIn K (.ref CL) "__getattribute__" = some (some (.builtin "BaseException.__getattribute__"))) (e3CL : PySem.W.findIn K (.ref CL) "__getattr__" = some none) (e4CL : PySem.W.mroIn K CL (.type "BaseException") = some true) (e5CL : PySem.W.mroIn K CL (.type "object") = some true) (e6CL : PySem.W.findIn K (.ref CL) "__class__" = some (some (.builtin "object.__class__"))) (sbCL : PySem.W.mroIn K CL (.ref CB) = some true) (vaCL : PySem.W.kitOne K (.ref CL) (.type "ValueError") = some true) (kCLCK : PySem.W.kitOne K (.ref CL) (.ref CK) = some false) (kCLCL : PySem.W.kitOne K (.ref CL) (.ref CL) = some true) (kCLCS : PySem.W.kitOne K (.ref CL) (.ref CS) = some false) (kCLCT : PySem.W.kitOne K (.ref CL) (.ref CT) = some false) (kCLCH : PySem.W.kitOne K (.ref CL) (.ref CH) = some false) (kCLCD : PySem.W.kitOne K (.ref CL) (.ref CD) = some false) (e7 : PySem.W.specialIn K (.builtin "object.__class__") "__get__" = some (some (.builtin "getset_descriptor.__get__"))) (e8 : PySem.W.takesIn K (.builtin "object.__class__") = some true) :
    ∃ fd : FuncData, (∀ (s : Shared) (v : Value), BindsTo s fd ⟨[v], []⟩ [("_law_script", v)]) ∧ ∀ base : Heap, K.In base → base.Ns mainGlobals mg → PySem.W.CodeHd base cb0 tb0 → base.BuiltinsAt mg tb0 → FnOk l.prog w K mg base CX0 30 fa fd ["_law_script"] (spLawT tb0 K) := by
  have e := hfa.symm.trans (PySem.W.mg_of X G a28)
  cases e
  have T : Txt mg := ⟨PySem.W.mg_none_of X G z1, PySem.W.mg_none_of X G z2, PySem.W.mg_none_of X G z3, PySem.W.mg_none_of X G z4, PySem.W.mg_none_of X G z5, PySem.W.mg_none_of X G z6, PySem.W.mg_none_of X G z7, PySem.W.mg_none_of X G z8, PySem.W.mg_none_of X G z9, PySem.W.mg_none_of X G z10, PySem.W.mg_none_of X G z11, PySem.W.mg_none_of X G z12, PySem.W.mg_none_of X G z13, PySem.W.mg_none_of X G z14, ⟨_, PySem.W.mg_of X G m1_⟩, ⟨_, PySem.W.mg_of X G m2_⟩, ⟨_, PySem.W.mg_of X G m3_⟩, ⟨_, PySem.W.mg_of X G m4_⟩, ⟨_, PySem.W.mg_of X G m5_⟩⟩
  have L1 : Laid K mg "is_key" sIsKey ["thing"] := laid_mk X G a1 l1 c1 k1 fun _ _ _ _ _ _ us hl => match us, hl with | [_], _ => rfl
  have L2 : Laid K mg "checked" sChecked ["thing"] := laid_mk X G a2 l2 c2 k2 fun _ _ _ _ _ _ us hl => match us, hl with | [_], _ => rfl
  have L3 : Laid K mg "fits" sFits ["thing", "room"] := laid_mk X G a3 l3 c3 k3 fun _ _ _ _ _ _ us hl => match us, hl with | [_, _], _ => rfl
  have L4 : Laid K mg "has_few_figures" sFew ["number"] := laid_mk X G a4 l4 c4 k4 fun _ _ _ _ _ _ us hl => match us, hl with | [_], _ => rfl
  have L5 : Laid K mg "is_sign" sSign ["sign"] := laid_mk X G a5 l5 c5 k5 fun _ _ _ _ _ _ us hl => match us, hl with | [_], _ => rfl
  have L6 : Laid K mg "ahead" sAhead ["one", "other"] := laid_mk X G a6 l6 c6 k6 fun _ _ _ _ _ _ us hl => match us, hl with | [_, _], _ => rfl
  have L7 : Laid K mg "standing" sStanding ["key"] := laid_mk X G a7 l7 c7 k7 fun _ _ _ _ _ _ us hl => match us, hl with | [_], _ => rfl
  have L8 : Laid K mg "checked_rows" sChRows ["rows"] := laid_mk X G a8 l8 c8 k8 fun _ _ _ _ _ _ us hl => match us, hl with | [_], _ => rfl
  have L9 : Laid K mg "own_rows" sOwnRows ["rows"] := laid_mk X G a9 l9 c9 k9 fun _ _ _ _ _ _ us hl => match us, hl with | [_], _ => rfl
  have L10 : Laid K mg "rise" sRise ["keys"] := laid_mk X G a10 l10 c10 k10 fun _ _ _ _ _ _ us hl => match us, hl with | [_], _ => rfl
  have L11 : Laid K mg "label_of_rows" sLabRows ["rows"] := laid_mk X G a11 l11 c11 k11 fun _ _ _ _ _ _ us hl => match us, hl with | [_], _ => rfl
  have L12 : Laid K mg "is_stem" sIsStem ["twig"] := laid_mk X G a12 l12 c12 k12 fun _ _ _ _ _ _ us hl => match us, hl with | [_], _ => rfl
  have L13 : Laid K mg "_law_well" sWell ["_law_script", "_law_k"] := laid_mk X G a13 l13 c13 k13 fun _ _ _ _ _ _ us hl => match us, hl with | [_, _], _ => rfl
  have L14 : Laid K mg "_law_pull" sPull ["_law_well_here", "_law_many"] := laid_mk X G a14 l14 c14 k14 fun _ _ _ _ _ _ us hl => match us, hl with | [_, _], _ => rfl
  have L15 : Laid K mg "_law_great" sGreat ["_law_well_here", "_law_bound"] := laid_mk X G a15 l15 c15 k15 fun _ _ _ _ _ _ us hl => match us, hl with | [_, _], _ => rfl
  have L16 : Laid K mg "_law_text" sText ["_law_well_here"] := laid_mk X G a16 l16 c16 k16 fun _ _ _ _ _ _ us hl => match us, hl with | [_], _ => rfl
  have L17 : Laid K mg "_law_key" sKey ["_law_well_here", "_law_room"] := laid_mk X G a17 l17 c17 k17 fun _ _ _ _ _ _ us hl => match us, hl with | [_, _], _ => rfl
  have L18 : Laid K mg "_law_rank" sRank ["_law_key_here"] := laid_mk X G a18 l18 c18 k18 fun _ _ _ _ _ _ us hl => match us, hl with | [_], _ => rfl
  have L19 : Laid K mg "_law_less" sLess ["_law_one", "_law_other"] := laid_mk X G a19 l19 c19 k19 fun _ _ _ _ _ _ us hl => match us, hl with | [_, _], _ => rfl
  have L20 : Laid K mg "_law_alike" sAlike ["_law_found", "_law_due_here"] := laid_mk X G a20 l20 c20 k20 fun _ _ _ _ _ _ us hl => match us, hl with | [_, _], _ => rfl
  have L21 : Laid K mg "_law_asked" sAsked ["_law_call"] := laid_mk X G a21 l21 c21 k21 fun _ _ _ _ _ _ us hl => match us, hl with | [_], _ => rfl
  have L22 : Laid K mg "_law_good_rows" sGoodRows ["_law_well_here"] := laid_mk X G a22 l22 c22 k22 fun _ _ _ _ _ _ us hl => match us, hl with | [_], _ => rfl
  have L23 : Laid K mg "_law_spoilt" sSpoilt ["_law_well_here", "_law_rows"] := laid_mk X G a23 l23 c23 k23 fun _ _ _ _ _ _ us hl => match us, hl with | [_, _], _ => rfl
  have L24 : Laid K mg "_law_is_key" sLIsKey ["_law_thing", "_law_room"] := laid_mk X G a24 l24 c24 k24 fun _ _ _ _ _ _ us hl => match us, hl with | [_, _], _ => rfl
  have L25 : Laid K mg "_law_due" sDue ["_law_rows"] := laid_mk X G a25 l25 c25 k25 fun _ _ _ _ _ _ us hl => match us, hl with | [_], _ => rfl
  have L26 : Laid K mg "_law_is_put" sIsPut ["_law_shelf", "_law_number", "_law_rows", "_law_told"] := laid_mk X G a26 l26 c26 k26 fun _ _ _ _ _ _ us hl => match us, hl with | [_, _, _, _], _ => rfl
  have L27 : Laid K mg "_law_put" sPut ["_law_shelf", "_law_rows", "_law_told"] := laid_mk X G a27 l27 c27 k27 fun _ _ _ _ _ _ us hl => match us, hl with | [_, _, _], _ => rfl
  refine ⟨PySem.W.fnOf "law" "law" (defArgs sLaw) (defBody sLaw) (defScope sLaw) .none kV28 dc28 pm28 an28 cd28 ct28, fun s v => .of_eq rfl, fun base kb _ hC hB => ?_⟩
  have CLx : Cl K mg CB CK CL CS CT CH CD := ⟨PySem.W.mg_of X G xCB, PySem.W.mg_of X G xCK, PySem.W.mg_of X G xCL, PySem.W.mg_of X G xCS, PySem.W.mg_of X G xCT, PySem.W.mg_of X G xCH, PySem.W.mg_of X G xCD, tyB, mB, ⟨exCK, ⟨e2CK, e3CK, e4CK, e5CK, e6CK, e7, e8⟩, sbCK, vaCK⟩, ⟨exCL, ⟨e2CL, e3CL, e4CL, e5CL, e6CL, e7, e8⟩, sbCL, vaCL⟩, kCKCK, kCKCL, kCKCS, kCKCT, kCKCH, kCKCD, kCLCK, kCLCL, kCLCS, kCLCT, kCLCH, kCLCD⟩
  have SHx : ShF K mg CSh CTw := ⟨PySem.W.mg_of X G xCSh, PySem.W.mg_of X G xCTw, ⟨pgCSh, hdCSh, poCSh, saCSh⟩, ⟨pgCTw, hdCTw, poCTw, saCTw⟩, na_kept, na_following, na_looks, na_things, na_tag, na_above, na_holds⟩
  have DMS : MkOk l.prog w K mg base 1 CSh ["self"] (spShI CSh) := ⟨⟨jS, _, ⟨mkCSh, vjS, fnjS, kpCSh⟩, ok_shi (fun_mk (st := iShelf) iljS icjS ikjS) SHx, (fun_mk (st := iShelf) iljS icjS ikjS).binds fun _ _ _ _ _ _ us hl => match us, hl with | [_], _ => rfl⟩⟩
  have DMT : MkOk l.prog w K mg base 1 CTw ["self", "things", "tag"] (spTwI CTw) := ⟨⟨jT, _, ⟨mkCTw, vjT, fnjT, kpCTw⟩, ok_twi (fun_mk (st := iTwig) iljT icjT ikjT) SHx, (fun_mk (st := iTwig) iljT icjT ikjT).binds fun _ _ _ _ _ _ us hl => match us, hl with | [_, _, _], _ => rfl⟩⟩
  have MTo : MethOk l.prog w K mg base CX0 1 CSh "twig_of" ["self", "number"] (spTwigOf CSh) := ⟨⟨m10, _, ⟨vm10, fnm10, ikm10⟩, ok_twigof (fun_mk (st := mTwigOf) ilm10 icm10 ikm10) SHx, (fun_mk (st := mTwigOf) ilm10 icm10 ikm10).binds fun _ _ _ _ _ _ us hl => match us, hl with | [_, _], _ => rfl⟩⟩
  have MOu : MethOk l.prog w K mg base CX0 2 CSh "outside" ["self", "number"] (spRd CSh CTw fun _ => .int 1) := ⟨⟨m4, _, ⟨vm4, fnm4, ikm4⟩, ok_outside (fun_mk (st := mOutside) ilm4 icm4 ikm4) SHx MTo, (fun_mk (st := mOutside) ilm4 icm4 ikm4).binds fun _ _ _ _ _ _ us hl => match us, hl with | [_, _], _ => rfl⟩⟩
  have MLa : MethOk l.prog w K mg base CX0 2 CSh "label" ["self", "number"] (spRd CSh CTw fun tg => tg) := ⟨⟨m7, _, ⟨vm7, fnm7, ikm7⟩, ok_label (fun_mk (st := mLabel) ilm7 icm7 ikm7) SHx MTo, (fun_mk (st := mLabel) ilm7 icm7 ikm7).binds fun _ _ _ _ _ _ us hl => match us, hl with | [_, _], _ => rfl⟩⟩
  have MHo : MethOk l.prog w K mg base CX0 2 CSh "holders" ["self", "number"] (spRd CSh CTw fun _ => .int 1) := ⟨⟨m3, _, ⟨vm3, fnm3, ikm3⟩, ok_holders (fun_mk (st := mHolders) ilm3 icm3 ikm3) T SHx MTo, (fun_mk (st := mHolders) ilm3 icm3 ikm3).binds fun _ _ _ _ _ _ us hl => match us, hl with | [_, _], _ => rfl⟩⟩
  have MRo : MethOk l.prog w K mg base CX0 3 CSh "road_up" ["self", "number"] (spRoad CSh CTw) := ⟨⟨m11, _, ⟨vm11, fnm11, ikm11⟩, ok_road (fun_mk (st := mRoad) ilm11 icm11 ikm11) SHx MTo MHo, (fun_mk (st := mRoad) ilm11 icm11 ikm11).binds fun _ _ _ _ _ _ us hl => match us, hl with | [_, _], _ => rfl⟩⟩
  have MAl : MethOk l.prog w K mg base CX0 4 CSh "alone" ["self", "number"] (spRd CSh CTw fun _ => .bl true) := ⟨⟨m5, _, ⟨vm5, fnm5, ikm5⟩, ok_alone (fun_mk (st := mAlone) ilm5 icm5 ikm5) SHx MRo, (fun_mk (st := mAlone) ilm5 icm5 ikm5).binds fun _ _ _ _ _ _ us hl => match us, hl with | [_, _], _ => rfl⟩⟩
  have DIs : DefOk l.prog w K mg base 1 "is_stem" ["twig"] (spStem CTw) := L12.of fun _ _ F => ok_stem F T SHx
  have MLo : MethOk l.prog w K mg base CX0 2 CSh "look" ["self", "number"] (spLook CSh CTw) := ⟨⟨m6, _, ⟨vm6, fnm6, ikm6⟩, ok_look (fun_mk (st := mLook) ilm6 icm6 ikm6) T SHx MTo DIs, (fun_mk (st := mLook) ilm6 icm6 ikm6).binds fun _ _ _ _ _ _ us hl => match us, hl with | [_, _], _ => rfl⟩⟩
  have MMa : MethOk l.prog w K mg base CX0 1 CSh "many" ["self"] (spMany CSh) := ⟨⟨m9, _, ⟨vm9, fnm9, ikm9⟩, ok_many (fun_mk (st := mMany) ilm9 icm9 ikm9) T SHx, (fun_mk (st := mMany) ilm9 icm9 ikm9).binds fun _ _ _ _ _ _ us hl => match us, hl with | [_], _ => rfl⟩⟩
  have MNu : MethOk l.prog w K mg base CX0 1 CSh "numbers" ["self"] (spNumbers CSh) := ⟨⟨m8, _, ⟨vm8, fnm8, ikm8⟩, ok_numbers (fun_mk (st := mNumbers) ilm8 icm8 ikm8) T SHx, (fun_mk (st := mNumbers) ilm8 icm8 ikm8).binds fun _ _ _ _ _ _ us hl => match us, hl with | [_], _ => rfl⟩⟩
  have MPt : MethOk l.prog w K mg base CX0 3 CSh "put_twig" ["self", "things", "label"] (spPutTwig CSh CTw) := ⟨⟨m2, _, ⟨vm2, fnm2, ikm2⟩, ok_puttwig (fun_mk (st := mPutTwig) ilm2 icm2 ikm2) SHx DMT, (fun_mk (st := mPutTwig) ilm2 icm2 ikm2).binds fun _ _ _ _ _ _ us hl => match us, hl with | [_, _, _], _ => rfl⟩⟩
  have DP : DefOk l.prog w K mg base 1 "_law_pull" ["_law_well_here", "_law_many"] (spPull) := L14.of fun _ _ F => ok_pull F
  have DG : DefOk l.prog w K mg base 2 "_law_great" ["_law_well_here", "_law_bound"] (spPull) := L15.of fun _ _ F => ok_great F T DP
  have DT : DefOk l.prog w K mg base 2 "_law_text" ["_law_well_here"] (spText) := L16.of fun _ _ F => ok_text F T DP
  have DW : DefOk l.prog w K mg base 1 "_law_well" ["_law_script", "_law_k"] (spWell K) := L13.of fun _ _ F => ok_well F T
  have DN : DefOk l.prog w K mg base 1 "has_few_figures" ["number"] (spFew) := L4.of fun _ _ F => ok_few F T
  have DSg : DefOk l.prog w K mg base 1 "is_sign" ["sign"] (spSign) := L5.of fun _ _ F => ok_sign F
  have DIk : DefOk l.prog w K mg base 6 "is_key" ["thing"] (spIsKeyG) := L1.of fun _ _ F => ok_iskey F T (all_fits T L3 DN DSg 4)
  have DC : DefX l.prog w K mg base 7 "checked" ["thing"] (spChecked CK) := by obtain ⟨f, fd, F, b, m⟩ := (L2).ex; exact ⟨f, fd, ok_checked F kb CLx DIk, b, F.kp, m⟩
  have DSt : DefOk l.prog w K mg base 6 "standing" ["key"] (spSt 5) := all_standing T L7 5
  have DAh : DefOk l.prog w K mg base 7 "ahead" ["one", "other"] (spAhead) := L6.of fun _ _ F => ok_ahead F DSt
  have DRi : DefOk l.prog w K mg base 8 "rise" ["keys"] (spRise) := L10.of fun _ _ F => ok_rise F T DAh
  have DOw : DefX l.prog w K mg base 8 "own_rows" ["rows"] (spOwnRows CK) := by obtain ⟨f, fd, F, b, m⟩ := (L9).ex; exact ⟨f, fd, ok_ownrows F DC, b, F.kp, m⟩
  have DCr : DefX l.prog w K mg base 9 "checked_rows" ["rows"] (spChRows CK CL) := by obtain ⟨f, fd, F, b, m⟩ := (L8).ex; exact ⟨f, fd, ok_chrows F kb T CLx DOw DRi, b, F.kp, m⟩
  have DLR : DefOk l.prog w K mg base 1 "label_of_rows" ["rows"] (spLabRows) := L11.of fun _ _ F => ok_labrows F T
  have MPl : MethOk l.prog w K mg base (CXw l.prog w) 10 CSh "put_leaf" ["self", "rows"] (spPutLeaf CSh CTw CK CL) := ⟨⟨m1, _, ⟨vm1, fnm1, ikm1⟩, ok_putleaf (CB := CB) (CS := CS) (CT := CT) (CH := CH) (CD := CD) (fun_mk (st := mPutLeaf) ilm1 icm1 ikm1) T SHx DCr DLR MPt, (fun_mk (st := mPutLeaf) ilm1 icm1 ikm1).binds fun _ _ _ _ _ _ us hl => match us, hl with | [_, _], _ => rfl⟩⟩
  have DLe : DefOk l.prog w K mg base 7 "_law_less" ["_law_one", "_law_other"] (spAhead) := L19.of fun _ _ F => ok_less F (all_rank T L18 5)
  have DAl : DefOk l.prog w K mg base 7 "_law_alike" ["_law_found", "_law_due_here"] (spAlike 6) := all_alike T L20 6
  have DLk : DefOk l.prog w K mg base 5 "_law_is_key" ["_law_thing", "_law_room"] (spLKey 4) := all_lkey T L24 4
  have DDu : DefOk l.prog w K mg base 8 "_law_due" ["_law_rows"] (spDue) := L25.of fun _ _ F => ok_due F T DLk DLe
  have DGo : DefOk l.prog w K mg base 8 "_law_good_rows" ["_law_well_here"] (spGoodRows) := L22.of fun _ _ F => ok_goodrows F T DP (all_key T L17 DP DG DT 4) DLe
  have DSp : DefOk l.prog w K mg base 2 "_law_spoilt" ["_law_well_here", "_law_rows"] (spSpoilt) := L23.of fun _ _ F => ok_spoilt F T DP
  have DQ : DefOk l.prog w K mg base 13 "_law_asked" ["_law_call"] (spAsked l.prog w K mg base CK CL) := L21.of fun _ _ F => ok_asked F T CLx
  have DIp : DefOk l.prog w K mg base 8 "_law_is_put" ["_law_shelf", "_law_number", "_law_rows", "_law_told"] (spIsPut CSh CTw) := L26.of fun _ _ F => ok_isput F T SHx MOu MHo MAl MLa MLo DLR DAl
  have DPu : DefOk l.prog w K mg base 14 "_law_put" ["_law_shelf", "_law_rows", "_law_told"] (spPut CSh tb0) := ⟨f27, _, ok_put (CB := CB) (CS := CS) (CT := CT) (CH := CH) (CD := CD) (fun_mk (st := sPut) l27 c27 k27) a27 hta hC hB T SHx DDu DQ DCr MPl MNu MMa DAl DIp, (fun_mk (st := sPut) l27 c27 k27).binds fun _ _ _ _ _ _ us hl => match us, hl with | [_, _, _], _ => rfl, k27, PySem.W.mg_of X G a27⟩
  exact ok_law (fun_mk (st := sLaw) l28 c28 k28) T SHx DMS DW DGo DSp DPu MNu
theorem tab_some {o : Option (Addr × Addr)} {x : Addr × Addr} (h : o = some x) : o.isSome = true := by rw [h]; rfl
theorem walk {l : PySem.W.OpenLaw} {q : Program} {loose : List Str} {XP : (Str → Option Value) → Heap → Prop} {YP : World → Heap → Prop} {d : DefRec} {K : Params → PySem.W.Frag} (hn : l.most = some 63) (hdf : d.params.defaults = [])
    (hY : ∀ (w : World) (h : Heap), YP w h → (K w.params).In h) (hrec : ((recsOf q).find? (fun e => e.name == (("_law_put" : String) : Str))).isSome = true) (htab : ∀ w : World, (PySem.W.tabIn (K w.params) "_law_put").isSome = true) (hnt : ∀ w : World, PySem.W.noTabs (K w.params) = true)
    (F : ∀ (w : World) (mg : Str → Option Value) (fa : Addr) (h : Heap) (c T : Addr), (K w.params).In h → h.Ns mainGlobals mg → mg d.name = some (.ref fa) → PySem.W.tabIn (K w.params) "_law_put" = some (c, T) →
      ∃ fd : FuncData, (∀ (s : Shared) (u : Value), BindsTo s fd ⟨[u], []⟩ [("_law_script", u)]) ∧ ∀ base : Heap, (K w.params).In base → base.Ns mainGlobals mg → PySem.W.CodeHd base c T → base.BuiltinsAt mg T → FnOk l.prog w (K w.params) mg base CX0 30 fa fd ["_law_script"] (spLawT T (K w.params))) :
    PySem.W.WalkO q loose XP YP l.row.toRowW d [] (fun f vs => PySem.call f vs) :=
  L2.walk_ofT (n := 63) (k := 30) (x := "_law_script") (px := "_law_put") (sp := fun T K => spLawT T K) hn (by decide) hdf ⟨rfl, by decide, by decide⟩ hY (Option.some_get hrec).symm (fun w => ⟨_, _, ((Option.some_get (htab w)).symm.trans (by rfl))⟩) hnt F (fun _ _ _ a ns hl hT hS => ⟨a, ns, rfl, hS, hl, hT, fun _ => rfl⟩)
end Tw
set_option Elab.async false
set_option linter.all false
set_option maxRecDepth 100000
set_option maxHeartbeats 8000000
open PySem PySem.W PyProof.Rows
-- these names are taken, so that the head lays no twins of its trees (80 MB else)
def PySem.W.Fast.tw1005047475884277824 : Nat := 0
def PySem.W.Fast.tw10066381189734586606 : Nat := 0
def PySem.W.Fast.tw10089352780692016770 : Nat := 0
def PySem.W.Fast.tw10109841462867528216 : Nat := 0
def PySem.W.Fast.tw10163482079506182737 : Nat := 0
def PySem.W.Fast.tw10194861173039856384 : Nat := 0
def PySem.W.Fast.tw10195319447210925206 : Nat := 0
def PySem.W.Fast.tw10212071629724287125 : Nat := 0
def PySem.W.Fast.tw10215084122544271395 : Nat := 0
def PySem.W.Fast.tw10229410903178683060 : Nat := 0
def PySem.W.Fast.tw10356300918156116672 : Nat := 0
def PySem.W.Fast.tw10398770426877441615 : Nat := 0
def PySem.W.Fast.tw10403993427288629553 : Nat := 0
def PySem.W.Fast.tw10416232326278770760 : Nat := 0
def PySem.W.Fast.tw1044171565233636533 : Nat := 0
def PySem.W.Fast.tw10472127151973050767 : Nat := 0
def PySem.W.Fast.tw10491231721478042967 : Nat := 0
def PySem.W.Fast.tw10497495400828255873 : Nat := 0
def PySem.W.Fast.tw10539320765358934661 : Nat := 0
def PySem.W.Fast.tw10553120861929144809 : Nat := 0
def PySem.W.Fast.tw10581342401830411292 : Nat := 0
def PySem.W.Fast.tw10587063471310709954 : Nat := 0
def PySem.W.Fast.tw10599392552138735573 : Nat := 0
def PySem.W.Fast.tw10600694189558471525 : Nat := 0
def PySem.W.Fast.tw10601330117538108344 : Nat := 0
def PySem.W.Fast.tw10631383151183319087 : Nat := 0
def PySem.W.Fast.tw10662306419796776487 : Nat := 0
def PySem.W.Fast.tw10678841851674006283 : Nat := 0
def PySem.W.Fast.tw10682355163668378269 : Nat := 0
def PySem.W.Fast.tw10683029946639994239 : Nat := 0
def PySem.W.Fast.tw10690046217411586396 : Nat := 0
def PySem.W.Fast.tw1069259679162308398 : Nat := 0
def PySem.W.Fast.tw10700799676276668233 : Nat := 0
def PySem.W.Fast.tw10702278277834669885 : Nat := 0
def PySem.W.Fast.tw10744126505513573292 : Nat := 0
def PySem.W.Fast.tw10748142581587639069 : Nat := 0
def PySem.W.Fast.tw1077346718039560962 : Nat := 0
def PySem.W.Fast.tw10779364543770928553 : Nat := 0
def PySem.W.Fast.tw10810277796907531619 : Nat := 0
def PySem.W.Fast.tw1083716660690890673 : Nat := 0
def PySem.W.Fast.tw10907368460155706894 : Nat := 0
def PySem.W.Fast.tw10924526566940355051 : Nat := 0
def PySem.W.Fast.tw10943002951897942744 : Nat := 0
def PySem.W.Fast.tw10981188326423344418 : Nat := 0
def PySem.W.Fast.tw10993172020271498316 : Nat := 0
def PySem.W.Fast.tw10994438295689851229 : Nat := 0
def PySem.W.Fast.tw11002799227835428286 : Nat := 0
def PySem.W.Fast.tw1103833325411286038 : Nat := 0
def PySem.W.Fast.tw11044260711910395444 : Nat := 0
def PySem.W.Fast.tw11049614789286601230 : Nat := 0
def PySem.W.Fast.tw11121022841073380470 : Nat := 0
def PySem.W.Fast.tw11154970655806293589 : Nat := 0
def PySem.W.Fast.tw1116782542739589634 : Nat := 0
def PySem.W.Fast.tw11208326664374385125 : Nat := 0
def PySem.W.Fast.tw11210664419803437380 : Nat := 0
def PySem.W.Fast.tw11255580548198482777 : Nat := 0
def PySem.W.Fast.tw11282392606187908304 : Nat := 0
def PySem.W.Fast.tw11312127883453206759 : Nat := 0
def PySem.W.Fast.tw1133075120200042754 : Nat := 0
def PySem.W.Fast.tw11342407388201310716 : Nat := 0
def PySem.W.Fast.tw11368062603793168950 : Nat := 0
def PySem.W.Fast.tw11369561432336473096 : Nat := 0
def PySem.W.Fast.tw11377353477070224068 : Nat := 0
def PySem.W.Fast.tw1144323262565411436 : Nat := 0
def PySem.W.Fast.tw11466439219858622873 : Nat := 0
def PySem.W.Fast.tw11469519178976999332 : Nat := 0
def PySem.W.Fast.tw11473706810264007418 : Nat := 0
def PySem.W.Fast.tw11493908337768550770 : Nat := 0
def PySem.W.Fast.tw11515048759370076739 : Nat := 0
def PySem.W.Fast.tw11535580186338923353 : Nat := 0
def PySem.W.Fast.tw1156640522987587487 : Nat := 0
def PySem.W.Fast.tw11576674028405803948 : Nat := 0
def PySem.W.Fast.tw1159245289810551634 : Nat := 0
def PySem.W.Fast.tw11641544619757730906 : Nat := 0
def PySem.W.Fast.tw11650528886189895209 : Nat := 0
def PySem.W.Fast.tw1165475719533211287 : Nat := 0
def PySem.W.Fast.tw11682374184445463952 : Nat := 0
def PySem.W.Fast.tw11710452332078678082 : Nat := 0
def PySem.W.Fast.tw11721365184805140005 : Nat := 0
def PySem.W.Fast.tw11778197683587094155 : Nat := 0
def PySem.W.Fast.tw11806948922848406221 : Nat := 0
def PySem.W.Fast.tw11832905486431362506 : Nat := 0
def PySem.W.Fast.tw1183307347889380546 : Nat := 0
def PySem.W.Fast.tw11874804769083527155 : Nat := 0
def PySem.W.Fast.tw11892673456400037604 : Nat := 0
def PySem.W.Fast.tw11893950687984960349 : Nat := 0
def PySem.W.Fast.tw11895386364343606601 : Nat := 0
def PySem.W.Fast.tw11899135202553249537 : Nat := 0
def PySem.W.Fast.tw11945850689379887895 : Nat := 0
def PySem.W.Fast.tw11972535948529467778 : Nat := 0
def PySem.W.Fast.tw11982485434558055785 : Nat := 0
def PySem.W.Fast.tw12009043802103764886 : Nat := 0
def PySem.W.Fast.tw1203945286406377926 : Nat := 0
def PySem.W.Fast.tw12076352394352572211 : Nat := 0
def PySem.W.Fast.tw12104948885937797927 : Nat := 0
def PySem.W.Fast.tw1211028799271381327 : Nat := 0
def PySem.W.Fast.tw12113760560274912583 : Nat := 0
def PySem.W.Fast.tw12114792405245624238 : Nat := 0
def PySem.W.Fast.tw12132293289605114734 : Nat := 0
def PySem.W.Fast.tw12133267899114985215 : Nat := 0
def PySem.W.Fast.tw1213752891008503733 : Nat := 0
def PySem.W.Fast.tw12170134192613623096 : Nat := 0
def PySem.W.Fast.tw12198532122290489690 : Nat := 0
def PySem.W.Fast.tw1220560181990800800 : Nat := 0
def PySem.W.Fast.tw12210830271017953257 : Nat := 0
def PySem.W.Fast.tw12274525050341002471 : Nat := 0
def PySem.W.Fast.tw12282940436933486254 : Nat := 0
def PySem.W.Fast.tw12424878071125792892 : Nat := 0
def PySem.W.Fast.tw12428712698880031953 : Nat := 0
def PySem.W.Fast.tw1244194030929900439 : Nat := 0
def PySem.W.Fast.tw12481957764377032337 : Nat := 0
def PySem.W.Fast.tw12488861945630731111 : Nat := 0
def PySem.W.Fast.tw12512677112664121603 : Nat := 0
def PySem.W.Fast.tw12533022302045126682 : Nat := 0
def PySem.W.Fast.tw12614482707692652751 : Nat := 0
def PySem.W.Fast.tw1264299503038765879 : Nat := 0
def PySem.W.Fast.tw12645038872312004978 : Nat := 0
def PySem.W.Fast.tw12660939583652809641 : Nat := 0
def PySem.W.Fast.tw12680166812313567430 : Nat := 0
def PySem.W.Fast.tw1268756723484448098 : Nat := 0
def PySem.W.Fast.tw12690392618996529387 : Nat := 0
def PySem.W.Fast.tw12707939373327370498 : Nat := 0
def PySem.W.Fast.tw12747377900940102618 : Nat := 0
def PySem.W.Fast.tw12764331347075270532 : Nat := 0
def PySem.W.Fast.tw12771533407585015264 : Nat := 0
def PySem.W.Fast.tw12784961663984360335 : Nat := 0
def PySem.W.Fast.tw12889322602326468148 : Nat := 0
def PySem.W.Fast.tw12903403260045128802 : Nat := 0
def PySem.W.Fast.tw12926538008566041455 : Nat := 0
def PySem.W.Fast.tw12931974777769824990 : Nat := 0
def PySem.W.Fast.tw12933711946983032275 : Nat := 0
def PySem.W.Fast.tw12982594030179368713 : Nat := 0
def PySem.W.Fast.tw12985780932250779518 : Nat := 0
def PySem.W.Fast.tw12988978423902648439 : Nat := 0
def PySem.W.Fast.tw12989812210901496379 : Nat := 0
def PySem.W.Fast.tw13003224138877891340 : Nat := 0
def PySem.W.Fast.tw13059819134678292434 : Nat := 0
def PySem.W.Fast.tw13075230648187585529 : Nat := 0
def PySem.W.Fast.tw1310209099575454766 : Nat := 0
def PySem.W.Fast.tw13111642323508947947 : Nat := 0
def PySem.W.Fast.tw13140156170156846008 : Nat := 0
def PySem.W.Fast.tw1317284864313683435 : Nat := 0
def PySem.W.Fast.tw13206974765280854136 : Nat := 0
def PySem.W.Fast.tw13220549292872609025 : Nat := 0
def PySem.W.Fast.tw13258793123188680615 : Nat := 0
def PySem.W.Fast.tw13278869054471439837 : Nat := 0
def PySem.W.Fast.tw1327919255737700493 : Nat := 0
def PySem.W.Fast.tw13281725553278871256 : Nat := 0
def PySem.W.Fast.tw13311796308567027613 : Nat := 0
def PySem.W.Fast.tw13363257813662877754 : Nat := 0
def PySem.W.Fast.tw13388768497382862020 : Nat := 0
def PySem.W.Fast.tw13394190097322808254 : Nat := 0
def PySem.W.Fast.tw13405341253014167570 : Nat := 0
def PySem.W.Fast.tw13456802318095573595 : Nat := 0
def PySem.W.Fast.tw13504133123366359525 : Nat := 0
def PySem.W.Fast.tw13504683514959386800 : Nat := 0
def PySem.W.Fast.tw1352933866295892397 : Nat := 0
def PySem.W.Fast.tw13562612580935922390 : Nat := 0
def PySem.W.Fast.tw13580987715859484283 : Nat := 0
def PySem.W.Fast.tw13586084446396002917 : Nat := 0
def PySem.W.Fast.tw13619961701184165266 : Nat := 0
def PySem.W.Fast.tw13647089940958589332 : Nat := 0
def PySem.W.Fast.tw13734769149451598845 : Nat := 0
def PySem.W.Fast.tw13790426162127463363 : Nat := 0
def PySem.W.Fast.tw13885493882842483919 : Nat := 0
def PySem.W.Fast.tw13887146645500155291 : Nat := 0
def PySem.W.Fast.tw1388845036373197227 : Nat := 0
def PySem.W.Fast.tw13958465743939643406 : Nat := 0
def PySem.W.Fast.tw13962980509473200262 : Nat := 0
def PySem.W.Fast.tw14016313520157910599 : Nat := 0
def PySem.W.Fast.tw14045404200744704079 : Nat := 0
def PySem.W.Fast.tw14047791440367551890 : Nat := 0
def PySem.W.Fast.tw14062738462787388071 : Nat := 0
def PySem.W.Fast.tw14112680601088990207 : Nat := 0
def PySem.W.Fast.tw14117688694874649825 : Nat := 0
def PySem.W.Fast.tw14121574481017226808 : Nat := 0
def PySem.W.Fast.tw14123822489017912787 : Nat := 0
def PySem.W.Fast.tw14138961540917225773 : Nat := 0
def PySem.W.Fast.tw14147975908728697110 : Nat := 0
def PySem.W.Fast.tw14163383870722004748 : Nat := 0
def PySem.W.Fast.tw14233429078949614904 : Nat := 0
def PySem.W.Fast.tw14234869651450237716 : Nat := 0
def PySem.W.Fast.tw14271136063221394688 : Nat := 0
def PySem.W.Fast.tw14278651094466613394 : Nat := 0
def PySem.W.Fast.tw14339919053019831847 : Nat := 0
def PySem.W.Fast.tw14350467068105909428 : Nat := 0
def PySem.W.Fast.tw14351415640227489495 : Nat := 0
def PySem.W.Fast.tw14395657863064746832 : Nat := 0
def PySem.W.Fast.tw14400611792742932810 : Nat := 0
def PySem.W.Fast.tw14419853506507743791 : Nat := 0
def PySem.W.Fast.tw14440636785381196182 : Nat := 0
def PySem.W.Fast.tw14453229491265615266 : Nat := 0
def PySem.W.Fast.tw14462972784190911893 : Nat := 0
def PySem.W.Fast.tw14466673622870509647 : Nat := 0
def PySem.W.Fast.tw14473663272715397339 : Nat := 0
def PySem.W.Fast.tw14482698914121645155 : Nat := 0
def PySem.W.Fast.tw14497664504782938103 : Nat := 0
def PySem.W.Fast.tw14498958522204094415 : Nat := 0
def PySem.W.Fast.tw14513380540084072642 : Nat := 0
def PySem.W.Fast.tw14565458581321659691 : Nat := 0
def PySem.W.Fast.tw14598743115045447674 : Nat := 0
def PySem.W.Fast.tw14688960669566198355 : Nat := 0
def PySem.W.Fast.tw1470072814641983193 : Nat := 0
def PySem.W.Fast.tw14713638896195286058 : Nat := 0
def PySem.W.Fast.tw1477352009054130407 : Nat := 0
def PySem.W.Fast.tw1478491912149530289 : Nat := 0
def PySem.W.Fast.tw14802249199485501529 : Nat := 0
def PySem.W.Fast.tw14815823815537340765 : Nat := 0
def PySem.W.Fast.tw14843450668066312334 : Nat := 0
def PySem.W.Fast.tw14852443148568032608 : Nat := 0
def PySem.W.Fast.tw14857008913341116059 : Nat := 0
def PySem.W.Fast.tw14858686724145129717 : Nat := 0
def PySem.W.Fast.tw14873158351724068473 : Nat := 0
def PySem.W.Fast.tw14893941379241491977 : Nat := 0
def PySem.W.Fast.tw14928606153717485276 : Nat := 0
def PySem.W.Fast.tw14946212345402444194 : Nat := 0
def PySem.W.Fast.tw1497216614514722168 : Nat := 0
def PySem.W.Fast.tw14974310558219501992 : Nat := 0
def PySem.W.Fast.tw14984753654590560976 : Nat := 0
def PySem.W.Fast.tw14986845689209527363 : Nat := 0
def PySem.W.Fast.tw15055623707474270791 : Nat := 0
def PySem.W.Fast.tw15079055495378140485 : Nat := 0
def PySem.W.Fast.tw15081948900375220000 : Nat := 0
def PySem.W.Fast.tw15086323980100368741 : Nat := 0
def PySem.W.Fast.tw15096991906063120768 : Nat := 0
def PySem.W.Fast.tw15134630498822163958 : Nat := 0
def PySem.W.Fast.tw15136555921187928568 : Nat := 0
def PySem.W.Fast.tw15173454278728592540 : Nat := 0
def PySem.W.Fast.tw15230985789117203660 : Nat := 0
def PySem.W.Fast.tw15235811390899067036 : Nat := 0
def PySem.W.Fast.tw15243636345729707324 : Nat := 0
def PySem.W.Fast.tw15261029916999722114 : Nat := 0
def PySem.W.Fast.tw15280786072699797429 : Nat := 0
def PySem.W.Fast.tw15313509718025080487 : Nat := 0
def PySem.W.Fast.tw15327002833940957633 : Nat := 0
def PySem.W.Fast.tw15398682411966490456 : Nat := 0
def PySem.W.Fast.tw15529977763300816092 : Nat := 0
def PySem.W.Fast.tw15548002068514566828 : Nat := 0
def PySem.W.Fast.tw15548832942889097921 : Nat := 0
def PySem.W.Fast.tw15567022197922949183 : Nat := 0
def PySem.W.Fast.tw15617867615870662422 : Nat := 0
def PySem.W.Fast.tw15642958057464580136 : Nat := 0
def PySem.W.Fast.tw15647281872073725885 : Nat := 0
def PySem.W.Fast.tw15678427430254447283 : Nat := 0
def PySem.W.Fast.tw15727508978173048154 : Nat := 0
def PySem.W.Fast.tw15753977089116926650 : Nat := 0
def PySem.W.Fast.tw15755740282602335755 : Nat := 0
def PySem.W.Fast.tw1575679508648783730 : Nat := 0
def PySem.W.Fast.tw15776952367887715194 : Nat := 0
def PySem.W.Fast.tw15787244991053597963 : Nat := 0
def PySem.W.Fast.tw15825157163809675704 : Nat := 0
def PySem.W.Fast.tw15841443151079816322 : Nat := 0
def PySem.W.Fast.tw15865383618101516926 : Nat := 0
def PySem.W.Fast.tw15886431694247037879 : Nat := 0
def PySem.W.Fast.tw1589954006580031347 : Nat := 0
def PySem.W.Fast.tw15904641887019506548 : Nat := 0
def PySem.W.Fast.tw15907207735936186338 : Nat := 0
def PySem.W.Fast.tw15936940722037250852 : Nat := 0
def PySem.W.Fast.tw15937035187713321686 : Nat := 0
def PySem.W.Fast.tw16008117297113197025 : Nat := 0
def PySem.W.Fast.tw16031611252211301385 : Nat := 0
def PySem.W.Fast.tw16053600113428825994 : Nat := 0
def PySem.W.Fast.tw16086242122736143272 : Nat := 0
def PySem.W.Fast.tw16120082728391441669 : Nat := 0
def PySem.W.Fast.tw16142254790799405139 : Nat := 0
def PySem.W.Fast.tw16155586684807188443 : Nat := 0
def PySem.W.Fast.tw16163866432535405202 : Nat := 0
def PySem.W.Fast.tw16188813498454070765 : Nat := 0
def PySem.W.Fast.tw16219379872923154022 : Nat := 0
def PySem.W.Fast.tw16246909005328905857 : Nat := 0
def PySem.W.Fast.tw16251089698684676621 : Nat := 0
def PySem.W.Fast.tw16294992261209344135 : Nat := 0
def PySem.W.Fast.tw16397477112450434628 : Nat := 0
def PySem.W.Fast.tw16439780571238300638 : Nat := 0
def PySem.W.Fast.tw164454367460508111 : Nat := 0
def PySem.W.Fast.tw16450151276461057979 : Nat := 0
def PySem.W.Fast.tw16453245933833271682 : Nat := 0
def PySem.W.Fast.tw16506519314211547713 : Nat := 0
def PySem.W.Fast.tw16511852315967914401 : Nat := 0
def PySem.W.Fast.tw16591785303518191771 : Nat := 0
def PySem.W.Fast.tw16603846068460601388 : Nat := 0
def PySem.W.Fast.tw16695191945954739924 : Nat := 0
def PySem.W.Fast.tw16698210300535950909 : Nat := 0
def PySem.W.Fast.tw16724834752539969999 : Nat := 0
def PySem.W.Fast.tw16776427821388326596 : Nat := 0
def PySem.W.Fast.tw16816544898504882480 : Nat := 0
def PySem.W.Fast.tw16824432577185658061 : Nat := 0
def PySem.W.Fast.tw16851842723334878135 : Nat := 0
def PySem.W.Fast.tw16883779126860089977 : Nat := 0
def PySem.W.Fast.tw16898859190051434600 : Nat := 0
def PySem.W.Fast.tw16916579532094406390 : Nat := 0
def PySem.W.Fast.tw16971927379323796076 : Nat := 0
def PySem.W.Fast.tw16998648408664293781 : Nat := 0
def PySem.W.Fast.tw17033224671934371404 : Nat := 0
def PySem.W.Fast.tw17133181457824421044 : Nat := 0
def PySem.W.Fast.tw1715423797120263447 : Nat := 0
def PySem.W.Fast.tw17189988206043277907 : Nat := 0
def PySem.W.Fast.tw17200339696669508355 : Nat := 0
def PySem.W.Fast.tw17214601194685765840 : Nat := 0
def PySem.W.Fast.tw17268666159562206343 : Nat := 0
def PySem.W.Fast.tw1729963953066750690 : Nat := 0
def PySem.W.Fast.tw17332287479150132747 : Nat := 0
def PySem.W.Fast.tw17384958037554047581 : Nat := 0
def PySem.W.Fast.tw17426827967255648853 : Nat := 0
def PySem.W.Fast.tw17479787279091134851 : Nat := 0
def PySem.W.Fast.tw17511642262767717461 : Nat := 0
def PySem.W.Fast.tw17519102494605913246 : Nat := 0
def PySem.W.Fast.tw17533310219965009972 : Nat := 0
def PySem.W.Fast.tw17576967748789553640 : Nat := 0
def PySem.W.Fast.tw17639530739731954594 : Nat := 0
def PySem.W.Fast.tw17718541176498426938 : Nat := 0
def PySem.W.Fast.tw17719560224175056551 : Nat := 0
def PySem.W.Fast.tw17766008793074148340 : Nat := 0
def PySem.W.Fast.tw17784232702044869416 : Nat := 0
def PySem.W.Fast.tw17798547989272955305 : Nat := 0
def PySem.W.Fast.tw17850241303670272363 : Nat := 0
def PySem.W.Fast.tw17854906768970797603 : Nat := 0
def PySem.W.Fast.tw17873922331759475056 : Nat := 0
def PySem.W.Fast.tw17912351914297502278 : Nat := 0
def PySem.W.Fast.tw17922410989715039836 : Nat := 0
def PySem.W.Fast.tw17924076966089349582 : Nat := 0
def PySem.W.Fast.tw1798754842032067015 : Nat := 0
def PySem.W.Fast.tw18026160676513624440 : Nat := 0
def PySem.W.Fast.tw18030486266285006986 : Nat := 0
def PySem.W.Fast.tw18045423888018305154 : Nat := 0
def PySem.W.Fast.tw18100680276622570416 : Nat := 0
def PySem.W.Fast.tw18101953150705832354 : Nat := 0
def PySem.W.Fast.tw18115594978598189468 : Nat := 0
def PySem.W.Fast.tw18130194344263702558 : Nat := 0
def PySem.W.Fast.tw18177548493264252779 : Nat := 0
def PySem.W.Fast.tw18221767894742226910 : Nat := 0
def PySem.W.Fast.tw18222412204667475531 : Nat := 0
def PySem.W.Fast.tw18241890112206350342 : Nat := 0
def PySem.W.Fast.tw18242028669552944797 : Nat := 0
def PySem.W.Fast.tw18252030130002962174 : Nat := 0
def PySem.W.Fast.tw18268643550606530803 : Nat := 0
def PySem.W.Fast.tw18295027849232103013 : Nat := 0
def PySem.W.Fast.tw18300227615714233694 : Nat := 0
def PySem.W.Fast.tw18302094975287013980 : Nat := 0
def PySem.W.Fast.tw18304267282541027935 : Nat := 0
def PySem.W.Fast.tw18306863967255432937 : Nat := 0
def PySem.W.Fast.tw18381082752631119766 : Nat := 0
def PySem.W.Fast.tw18416136903710714018 : Nat := 0
def PySem.W.Fast.tw18442168528318957065 : Nat := 0
def PySem.W.Fast.tw18446705166050217655 : Nat := 0
def PySem.W.Fast.tw1871626538353249773 : Nat := 0
def PySem.W.Fast.tw1882215650640031798 : Nat := 0
def PySem.W.Fast.tw1929096401429454264 : Nat := 0
def PySem.W.Fast.tw1936396560993270476 : Nat := 0
def PySem.W.Fast.tw2006220601503177853 : Nat := 0
def PySem.W.Fast.tw2013128738918007104 : Nat := 0
def PySem.W.Fast.tw208495663460643831 : Nat := 0
def PySem.W.Fast.tw2095408185373263763 : Nat := 0
def PySem.W.Fast.tw2139478708401772412 : Nat := 0
def PySem.W.Fast.tw216923465790630634 : Nat := 0
def PySem.W.Fast.tw2192699642983146682 : Nat := 0
def PySem.W.Fast.tw2198087248777109770 : Nat := 0
def PySem.W.Fast.tw2290444237078534857 : Nat := 0
def PySem.W.Fast.tw2367954871797034583 : Nat := 0
def PySem.W.Fast.tw2453727131489295926 : Nat := 0
def PySem.W.Fast.tw2455710979541769874 : Nat := 0
def PySem.W.Fast.tw2499320672811455295 : Nat := 0
def PySem.W.Fast.tw2557518734553318121 : Nat := 0
def PySem.W.Fast.tw2560998120207014906 : Nat := 0
def PySem.W.Fast.tw2572002110800774171 : Nat := 0
def PySem.W.Fast.tw2586465609953869437 : Nat := 0
def PySem.W.Fast.tw2610371324763785754 : Nat := 0
def PySem.W.Fast.tw2612131458322117630 : Nat := 0
def PySem.W.Fast.tw2635318678140203695 : Nat := 0
def PySem.W.Fast.tw2668047747574154937 : Nat := 0
def PySem.W.Fast.tw269039143325235363 : Nat := 0
def PySem.W.Fast.tw2759535380128800511 : Nat := 0
def PySem.W.Fast.tw281868150877912273 : Nat := 0
def PySem.W.Fast.tw2822490073606068827 : Nat := 0
def PySem.W.Fast.tw2838506547151388801 : Nat := 0
def PySem.W.Fast.tw2853605550480780602 : Nat := 0
def PySem.W.Fast.tw2857449486088666695 : Nat := 0
def PySem.W.Fast.tw2857456541182514609 : Nat := 0
def PySem.W.Fast.tw2865351061584103843 : Nat := 0
def PySem.W.Fast.tw289919008022960810 : Nat := 0
def PySem.W.Fast.tw2921520464119786858 : Nat := 0
def PySem.W.Fast.tw2929719186865943708 : Nat := 0
def PySem.W.Fast.tw2949572827374142746 : Nat := 0
def PySem.W.Fast.tw2982040309806953357 : Nat := 0
def PySem.W.Fast.tw2985819434313789749 : Nat := 0
def PySem.W.Fast.tw2995183406719372043 : Nat := 0
def PySem.W.Fast.tw3012459758311735263 : Nat := 0
def PySem.W.Fast.tw3027158713987398103 : Nat := 0
def PySem.W.Fast.tw3032290521387527518 : Nat := 0
def PySem.W.Fast.tw3063300471297402067 : Nat := 0
def PySem.W.Fast.tw3095810504412249942 : Nat := 0
def PySem.W.Fast.tw309917844443752209 : Nat := 0
def PySem.W.Fast.tw320050961579989253 : Nat := 0
def PySem.W.Fast.tw3242376108307675130 : Nat := 0
def PySem.W.Fast.tw3246604198995212850 : Nat := 0
def PySem.W.Fast.tw3293491044994199381 : Nat := 0
def PySem.W.Fast.tw3298186618092953767 : Nat := 0
def PySem.W.Fast.tw3305257357971637679 : Nat := 0
def PySem.W.Fast.tw33135188852414995 : Nat := 0
def PySem.W.Fast.tw334022571061105378 : Nat := 0
def PySem.W.Fast.tw3346829633033923066 : Nat := 0
def PySem.W.Fast.tw3352717838872395515 : Nat := 0
def PySem.W.Fast.tw3363574209222130328 : Nat := 0
def PySem.W.Fast.tw3411374403162383561 : Nat := 0
def PySem.W.Fast.tw3454161110986732082 : Nat := 0
def PySem.W.Fast.tw3466535207595963936 : Nat := 0
def PySem.W.Fast.tw3483200727815165281 : Nat := 0
def PySem.W.Fast.tw348565206081894848 : Nat := 0
def PySem.W.Fast.tw3497111171508071335 : Nat := 0
def PySem.W.Fast.tw3518122672541433829 : Nat := 0
def PySem.W.Fast.tw3522402095294133312 : Nat := 0
def PySem.W.Fast.tw3526550751948338218 : Nat := 0
def PySem.W.Fast.tw3562509440579072851 : Nat := 0
def PySem.W.Fast.tw3578580761545555114 : Nat := 0
def PySem.W.Fast.tw3638887497674559521 : Nat := 0
def PySem.W.Fast.tw3656802175229905479 : Nat := 0
def PySem.W.Fast.tw3711985644907152046 : Nat := 0
def PySem.W.Fast.tw3821082263168927954 : Nat := 0
def PySem.W.Fast.tw3827452025217120997 : Nat := 0
def PySem.W.Fast.tw3829380719060804766 : Nat := 0
def PySem.W.Fast.tw3837827485917026896 : Nat := 0
def PySem.W.Fast.tw3868221806020250240 : Nat := 0
def PySem.W.Fast.tw39009520967734833 : Nat := 0
def PySem.W.Fast.tw3902061752527889308 : Nat := 0
def PySem.W.Fast.tw3907142975262935979 : Nat := 0
def PySem.W.Fast.tw3907692930424469816 : Nat := 0
def PySem.W.Fast.tw3913983687501577933 : Nat := 0
def PySem.W.Fast.tw3959473336130386837 : Nat := 0
def PySem.W.Fast.tw3976567389717542088 : Nat := 0
def PySem.W.Fast.tw3985099962669352562 : Nat := 0
def PySem.W.Fast.tw3986511181442745695 : Nat := 0
def PySem.W.Fast.tw4020523961093411484 : Nat := 0
def PySem.W.Fast.tw4035491882608954754 : Nat := 0
def PySem.W.Fast.tw4043651078991844330 : Nat := 0
def PySem.W.Fast.tw4082319849425967156 : Nat := 0
def PySem.W.Fast.tw4093582864121490710 : Nat := 0
def PySem.W.Fast.tw4111458861400524694 : Nat := 0
def PySem.W.Fast.tw4153807238921441056 : Nat := 0
def PySem.W.Fast.tw4285707657073906689 : Nat := 0
def PySem.W.Fast.tw4286313077121147323 : Nat := 0
def PySem.W.Fast.tw4296004015314681809 : Nat := 0
def PySem.W.Fast.tw4297659586227014813 : Nat := 0
def PySem.W.Fast.tw4304825040508311134 : Nat := 0
def PySem.W.Fast.tw4309321476481305478 : Nat := 0
def PySem.W.Fast.tw4354313955587147153 : Nat := 0
def PySem.W.Fast.tw4356319431252766954 : Nat := 0
def PySem.W.Fast.tw435688836627084872 : Nat := 0
def PySem.W.Fast.tw4370446821641046602 : Nat := 0
def PySem.W.Fast.tw4374091951387707799 : Nat := 0
def PySem.W.Fast.tw4393258323373762526 : Nat := 0
def PySem.W.Fast.tw4393407764719494466 : Nat := 0
def PySem.W.Fast.tw4429935930135589 : Nat := 0
def PySem.W.Fast.tw4449741540841823111 : Nat := 0
def PySem.W.Fast.tw4472322953745295318 : Nat := 0
def PySem.W.Fast.tw4478377583379045146 : Nat := 0
def PySem.W.Fast.tw4482900036270609265 : Nat := 0
def PySem.W.Fast.tw4494090939927454326 : Nat := 0
def PySem.W.Fast.tw4555597110228572015 : Nat := 0
def PySem.W.Fast.tw4564035514879765583 : Nat := 0
def PySem.W.Fast.tw4597008172172881010 : Nat := 0
def PySem.W.Fast.tw4609197062219087244 : Nat := 0
def PySem.W.Fast.tw4622962043724818422 : Nat := 0
def PySem.W.Fast.tw462562418123955581 : Nat := 0
def PySem.W.Fast.tw4694198203755252864 : Nat := 0
def PySem.W.Fast.tw4715358454453016951 : Nat := 0
def PySem.W.Fast.tw4770505668282383257 : Nat := 0
def PySem.W.Fast.tw4771045987398997406 : Nat := 0
def PySem.W.Fast.tw4810990025924982199 : Nat := 0
def PySem.W.Fast.tw4831690468538639007 : Nat := 0
def PySem.W.Fast.tw4891627536232580100 : Nat := 0
def PySem.W.Fast.tw4897457477488457180 : Nat := 0
def PySem.W.Fast.tw4944690870522197839 : Nat := 0
def PySem.W.Fast.tw4945460648642109770 : Nat := 0
def PySem.W.Fast.tw4949852611946125950 : Nat := 0
def PySem.W.Fast.tw4962873134509325285 : Nat := 0
def PySem.W.Fast.tw4969473403232158040 : Nat := 0
def PySem.W.Fast.tw4983139640352187977 : Nat := 0
def PySem.W.Fast.tw4989189567291768724 : Nat := 0
def PySem.W.Fast.tw5023979727269707013 : Nat := 0
def PySem.W.Fast.tw5029198323902384412 : Nat := 0
def PySem.W.Fast.tw5068141158845919756 : Nat := 0
def PySem.W.Fast.tw5089404373032043744 : Nat := 0
def PySem.W.Fast.tw5107274318169705361 : Nat := 0
def PySem.W.Fast.tw5115404598423427515 : Nat := 0
def PySem.W.Fast.tw5141029630944404572 : Nat := 0
def PySem.W.Fast.tw5145696844077609441 : Nat := 0
def PySem.W.Fast.tw5197066150209583340 : Nat := 0
def PySem.W.Fast.tw5212759040801078017 : Nat := 0
def PySem.W.Fast.tw5223599124635880236 : Nat := 0
def PySem.W.Fast.tw5317530835876009751 : Nat := 0
def PySem.W.Fast.tw5343740212691456540 : Nat := 0
def PySem.W.Fast.tw5426711564829819211 : Nat := 0
def PySem.W.Fast.tw5432846341932956107 : Nat := 0
def PySem.W.Fast.tw5475926636616156720 : Nat := 0
def PySem.W.Fast.tw5503120076271694607 : Nat := 0
def PySem.W.Fast.tw5559110110459291912 : Nat := 0
def PySem.W.Fast.tw5615515555282549514 : Nat := 0
def PySem.W.Fast.tw5635537671091528863 : Nat := 0
def PySem.W.Fast.tw569170146891633058 : Nat := 0
def PySem.W.Fast.tw5695773230856984365 : Nat := 0
def PySem.W.Fast.tw5709714960761760852 : Nat := 0
def PySem.W.Fast.tw5719981515804530478 : Nat := 0
def PySem.W.Fast.tw5798950017761965406 : Nat := 0
def PySem.W.Fast.tw5807356460894545147 : Nat := 0
def PySem.W.Fast.tw5808827151018793498 : Nat := 0
def PySem.W.Fast.tw5824460189590350341 : Nat := 0
def PySem.W.Fast.tw5852779682125644934 : Nat := 0
def PySem.W.Fast.tw5900146133284778069 : Nat := 0
def PySem.W.Fast.tw5959699651025852554 : Nat := 0
def PySem.W.Fast.tw5977233673172469805 : Nat := 0
def PySem.W.Fast.tw6035399489442885254 : Nat := 0
def PySem.W.Fast.tw6057241298291251688 : Nat := 0
def PySem.W.Fast.tw6063135574556162581 : Nat := 0
def PySem.W.Fast.tw606549275039113370 : Nat := 0
def PySem.W.Fast.tw6091732328935865513 : Nat := 0
def PySem.W.Fast.tw6122471201264588491 : Nat := 0
def PySem.W.Fast.tw6129565122299357451 : Nat := 0
def PySem.W.Fast.tw6137079932425932373 : Nat := 0
def PySem.W.Fast.tw6143542556381346924 : Nat := 0
def PySem.W.Fast.tw6216176438703965702 : Nat := 0
def PySem.W.Fast.tw6224572401986331489 : Nat := 0
def PySem.W.Fast.tw6259942389954011542 : Nat := 0
def PySem.W.Fast.tw6269195217754299294 : Nat := 0
def PySem.W.Fast.tw6282306172800001637 : Nat := 0
def PySem.W.Fast.tw6290372914697622727 : Nat := 0
def PySem.W.Fast.tw6296877283605418178 : Nat := 0
def PySem.W.Fast.tw6320082487167105368 : Nat := 0
def PySem.W.Fast.tw633287971766536309 : Nat := 0
def PySem.W.Fast.tw6351008926584817182 : Nat := 0
def PySem.W.Fast.tw6358156202320248362 : Nat := 0
def PySem.W.Fast.tw6415375468318818197 : Nat := 0
def PySem.W.Fast.tw6458134073227093565 : Nat := 0
def PySem.W.Fast.tw6461095098730726195 : Nat := 0
def PySem.W.Fast.tw649251558889282145 : Nat := 0
def PySem.W.Fast.tw6499565294953079300 : Nat := 0
def PySem.W.Fast.tw6501995854838445728 : Nat := 0
def PySem.W.Fast.tw6527181853532873244 : Nat := 0
def PySem.W.Fast.tw655095866879691818 : Nat := 0
def PySem.W.Fast.tw6715890717431024705 : Nat := 0
def PySem.W.Fast.tw6721060565166212445 : Nat := 0
def PySem.W.Fast.tw6738050460981382513 : Nat := 0
def PySem.W.Fast.tw6811531024250559746 : Nat := 0
def PySem.W.Fast.tw68329175546661120 : Nat := 0
def PySem.W.Fast.tw6875718596524760680 : Nat := 0
def PySem.W.Fast.tw6908861765902862613 : Nat := 0
def PySem.W.Fast.tw6915264368175516198 : Nat := 0
def PySem.W.Fast.tw7004015887950876453 : Nat := 0
def PySem.W.Fast.tw7011453559336358752 : Nat := 0
def PySem.W.Fast.tw7061350013007185091 : Nat := 0
def PySem.W.Fast.tw7088506966415190825 : Nat := 0
def PySem.W.Fast.tw7089322085860524154 : Nat := 0
def PySem.W.Fast.tw7089722358364665939 : Nat := 0
def PySem.W.Fast.tw7094529832679485617 : Nat := 0
def PySem.W.Fast.tw7211508980590457172 : Nat := 0
def PySem.W.Fast.tw7235255724376056951 : Nat := 0
def PySem.W.Fast.tw7283007085786809813 : Nat := 0
def PySem.W.Fast.tw7297110928148542103 : Nat := 0
def PySem.W.Fast.tw7322944836710821378 : Nat := 0
def PySem.W.Fast.tw7363702958660918906 : Nat := 0
def PySem.W.Fast.tw7369893183669630711 : Nat := 0
def PySem.W.Fast.tw7387742178155822933 : Nat := 0
def PySem.W.Fast.tw7438926074133257105 : Nat := 0
def PySem.W.Fast.tw7448930040559088656 : Nat := 0
def PySem.W.Fast.tw7460695747729978363 : Nat := 0
def PySem.W.Fast.tw7560174973903406824 : Nat := 0
def PySem.W.Fast.tw7641085499441034905 : Nat := 0
def PySem.W.Fast.tw7691714096109811857 : Nat := 0
def PySem.W.Fast.tw7694168716586594824 : Nat := 0
def PySem.W.Fast.tw7720023786841480850 : Nat := 0
def PySem.W.Fast.tw7737260469964037332 : Nat := 0
def PySem.W.Fast.tw7948944630091689147 : Nat := 0
def PySem.W.Fast.tw8027591095084706059 : Nat := 0
def PySem.W.Fast.tw8040260412369216046 : Nat := 0
def PySem.W.Fast.tw8161308463968018580 : Nat := 0
def PySem.W.Fast.tw820299705576660144 : Nat := 0
def PySem.W.Fast.tw8203073265528840369 : Nat := 0
def PySem.W.Fast.tw8218796579978815089 : Nat := 0
def PySem.W.Fast.tw8261293156330614040 : Nat := 0
def PySem.W.Fast.tw831904927758391939 : Nat := 0
def PySem.W.Fast.tw8324298190915141400 : Nat := 0
def PySem.W.Fast.tw8394796211349193963 : Nat := 0
def PySem.W.Fast.tw8454025826442871495 : Nat := 0
def PySem.W.Fast.tw8517710379077010752 : Nat := 0
def PySem.W.Fast.tw8537678011799634607 : Nat := 0
def PySem.W.Fast.tw8545070010573175562 : Nat := 0
def PySem.W.Fast.tw8564545406441616763 : Nat := 0
def PySem.W.Fast.tw8569804903135715761 : Nat := 0
def PySem.W.Fast.tw8579798674349268121 : Nat := 0
def PySem.W.Fast.tw8606329206927357239 : Nat := 0
def PySem.W.Fast.tw8606669448986856193 : Nat := 0
def PySem.W.Fast.tw8612551495326687183 : Nat := 0
def PySem.W.Fast.tw8633407972641948285 : Nat := 0
def PySem.W.Fast.tw8657360100296168731 : Nat := 0
def PySem.W.Fast.tw8662051715797202088 : Nat := 0
def PySem.W.Fast.tw8675817363052273091 : Nat := 0
def PySem.W.Fast.tw867869841807097084 : Nat := 0
def PySem.W.Fast.tw8792517764577001532 : Nat := 0
def PySem.W.Fast.tw8818128480393817369 : Nat := 0
def PySem.W.Fast.tw8819017773404766283 : Nat := 0
def PySem.W.Fast.tw8862656149364839063 : Nat := 0
def PySem.W.Fast.tw8882826122585599396 : Nat := 0
def PySem.W.Fast.tw8896985897202606474 : Nat := 0
def PySem.W.Fast.tw8945666655160121686 : Nat := 0
def PySem.W.Fast.tw89529845370785783 : Nat := 0
def PySem.W.Fast.tw9040566942780208453 : Nat := 0
def PySem.W.Fast.tw9040899083333454647 : Nat := 0
def PySem.W.Fast.tw9050949993264742478 : Nat := 0
def PySem.W.Fast.tw9081859646746225582 : Nat := 0
def PySem.W.Fast.tw9123758034389030897 : Nat := 0
def PySem.W.Fast.tw9181419830043468694 : Nat := 0
def PySem.W.Fast.tw9186386308398503818 : Nat := 0
def PySem.W.Fast.tw9192005012989361441 : Nat := 0
def PySem.W.Fast.tw9242331268929466679 : Nat := 0
def PySem.W.Fast.tw9244066218409412128 : Nat := 0
def PySem.W.Fast.tw9299775208450858660 : Nat := 0
def PySem.W.Fast.tw9319335111397204583 : Nat := 0
def PySem.W.Fast.tw9339825364540660386 : Nat := 0
def PySem.W.Fast.tw9361759787262592279 : Nat := 0
def PySem.W.Fast.tw9362047076454107951 : Nat := 0
def PySem.W.Fast.tw9362187254791907913 : Nat := 0
def PySem.W.Fast.tw9364369958759096457 : Nat := 0
def PySem.W.Fast.tw9407056754349647984 : Nat := 0
def PySem.W.Fast.tw9413644075530482849 : Nat := 0
def PySem.W.Fast.tw9421298700787224189 : Nat := 0
def PySem.W.Fast.tw9446000482266673583 : Nat := 0
def PySem.W.Fast.tw9446308267843379621 : Nat := 0
def PySem.W.Fast.tw9474065352174291732 : Nat := 0
def PySem.W.Fast.tw9477361231689920482 : Nat := 0
def PySem.W.Fast.tw9564935951154656492 : Nat := 0
def PySem.W.Fast.tw9584785768407130885 : Nat := 0
def PySem.W.Fast.tw9589407939534720515 : Nat := 0
def PySem.W.Fast.tw9618302266395346268 : Nat := 0
def PySem.W.Fast.tw9651377740666918621 : Nat := 0
def PySem.W.Fast.tw9677288562275184631 : Nat := 0
def PySem.W.Fast.tw970322895702929408 : Nat := 0
def PySem.W.Fast.tw9789493171698200126 : Nat := 0
def PySem.W.Fast.tw9925800541711094557 : Nat := 0
def PySem.W.Fast.tw9948312982922332133 : Nat := 0
def PySem.W.Fast.tw9967883430311850570 : Nat := 0
def PySem.W.Fast.tw9984717694927174353 : Nat := 0
def PySem.W.Fast.tw9988590801427296244 : Nat := 0
set_option maxRecDepth 100000 in
set_option maxHeartbeats 0 in
theorem PySem.Challenge.cw_twigmap_k21_leaves_put_holds : PySem.Challenge.rw_twigmap_k21_leaves_put.Holds := by
  w_on; o_law; k_head; (case hw => w_witness2)
  k_fill
  refine Tw.walk (l := PySem.Challenge.rw_twigmap_k21_leaves_put) rfl rfl (fun w h Y => PySem.W.km_in_of Y) ?qRec ?qTab ?qNot ?qFun
  case qRec => first | kernel_rfl | exact rfl
  case qTab =>
    intro w
    first | kernel_rfl | exact Tw.tab_some (Tw.tab_mk (by k_is) (by k_is) rfl (by k_is) rfl)
  case qNot => intro w; kernel_rfl
  case qFun =>
    intro w mg fa h cb tb KX G hmg hta
    refine' Tw.all_mk KX G hmg hta ?a1 ?l1 ?c1 ?k1 ?a2 ?l2 ?c2 ?k2 ?a3 ?l3 ?c3 ?k3 ?a4 ?l4 ?c4 ?k4 ?a5 ?l5 ?c5 ?k5 ?a6 ?l6 ?c6 ?k6 ?a7 ?l7 ?c7 ?k7 ?a8 ?l8 ?c8 ?k8 ?a9 ?l9 ?c9 ?k9 ?a10 ?l10 ?c10 ?k10 ?a11 ?l11 ?c11 ?k11 ?a12 ?l12 ?c12 ?k12 ?a13 ?l13 ?c13 ?k13 ?a14 ?l14 ?c14 ?k14 ?a15 ?l15 ?c15 ?k15 ?a16 ?l16 ?c16 ?k16 ?a17 ?l17 ?c17 ?k17 ?a18 ?l18 ?c18 ?k18 ?a19 ?l19 ?c19 ?k19 ?a20 ?l20 ?c20 ?k20 ?a21 ?l21 ?c21 ?k21 ?a22 ?l22 ?c22 ?k22 ?a23 ?l23 ?c23 ?k23 ?a24 ?l24 ?c24 ?k24 ?a25 ?l25 ?c25 ?k25 ?a26 ?l26 ?c26 ?k26 ?a27 ?l27 ?c27 ?k27 ?a28 ?l28 ?c28 ?k28 ?z1 ?z2 ?z3 ?z4 ?z5 ?z6 ?z7 ?z8 ?z9 ?z10 ?z11 ?z12 ?z13 ?z14 ?m1_ ?m2_ ?m3_ ?m4_ ?m5_ ?iljS ?icjS ?ikjS ?iljT ?icjT ?ikjT ?ilm1 ?icm1 ?ikm1 ?ilm2 ?icm2 ?ikm2 ?ilm3 ?icm3 ?ikm3 ?ilm4 ?icm4 ?ikm4 ?ilm5 ?icm5 ?ikm5 ?ilm6 ?icm6 ?ikm6 ?ilm7 ?icm7 ?ikm7 ?ilm8 ?icm8 ?ikm8 ?ilm9 ?icm9 ?ikm9 ?ilm10 ?icm10 ?ikm10 ?ilm11 ?icm11 ?ikm11 ?xCB ?xCK ?xCL ?xCS ?xCT ?xCH ?xCD ?xCSh ?xCTw ?vjS ?vjT ?vm1 ?vm2 ?vm3 ?vm4 ?vm5 ?vm6 ?vm7 ?vm8 ?vm9 ?vm10 ?vm11 ?fnjS ?fnjT ?fnm1 ?fnm2 ?fnm3 ?fnm4 ?fnm5 ?fnm6 ?fnm7 ?fnm8 ?fnm9 ?fnm10 ?fnm11 ?mkCSh ?kpCSh ?pgCSh ?hdCSh ?poCSh ?saCSh ?mkCTw ?kpCTw ?pgCTw ?hdCTw ?poCTw ?saCTw ?na_kept ?na_following ?na_looks ?na_things ?na_tag ?na_above ?na_holds ?tyB ?mB ?exCK ?e2CK ?e3CK ?e4CK ?e5CK ?e6CK ?sbCK ?vaCK ?kCKCK ?kCKCL ?kCKCS ?kCKCT ?kCKCH ?kCKCD ?exCL ?e2CL ?e3CL ?e4CL ?e5CL ?e6CL ?sbCL ?vaCL ?kCLCK ?kCLCL ?kCLCS ?kCLCT ?kCLCH ?kCLCD ?e7 ?e8
    (case xCB => k_is)
    (case xCK => k_is)
    (case xCL => k_is)
    (case xCS => k_is)
    (case xCT => k_is)
    (case xCH => k_is)
    (case xCD => k_is)
    (case xCSh => k_is)
    (case xCTw => k_is)
    (case vjS => k_is)
    (case vjT => k_is)
    (case vm1 => k_is)
    (case vm2 => k_is)
    (case vm3 => k_is)
    (case vm4 => k_is)
    (case vm5 => k_is)
    (case vm6 => k_is)
    (case vm7 => k_is)
    (case vm8 => k_is)
    (case vm9 => k_is)
    (case vm10 => k_is)
    (case vm11 => k_is)
    (case a1 => k_is)
    (case l1 => k_is)
    (case c1 => k_is)
    (case k1 => k_is)
    (case a2 => k_is)
    (case l2 => k_is)
    (case c2 => k_is)
    (case k2 => k_is)
    (case a3 => k_is)
    (case l3 => k_is)
    (case c3 => k_is)
    (case k3 => k_is)
    (case a4 => k_is)
    (case l4 => k_is)
    (case c4 => k_is)
    (case k4 => k_is)
    (case a5 => k_is)
    (case l5 => k_is)
    (case c5 => k_is)
    (case k5 => k_is)
    (case a6 => k_is)
    (case l6 => k_is)
    (case c6 => k_is)
    (case k6 => k_is)
    (case a7 => k_is)
    (case l7 => k_is)
    (case c7 => k_is)
    (case k7 => k_is)
    (case a8 => k_is)
    (case l8 => k_is)
    (case c8 => k_is)
    (case k8 => k_is)
    (case a9 => k_is)
    (case l9 => k_is)
    (case c9 => k_is)
    (case k9 => k_is)
    (case a10 => k_is)
    (case l10 => k_is)
    (case c10 => k_is)
    (case k10 => k_is)
    (case a11 => k_is)
    (case l11 => k_is)
    (case c11 => k_is)
    (case k11 => k_is)
    (case a12 => k_is)
    (case l12 => k_is)
    (case c12 => k_is)
    (case k12 => k_is)
    (case a13 => k_is)
    (case l13 => k_is)
    (case c13 => k_is)
    (case k13 => k_is)
    (case a14 => k_is)
    (case l14 => k_is)
    (case c14 => k_is)
    (case k14 => k_is)
    (case a15 => k_is)
    (case l15 => k_is)
    (case c15 => k_is)
    (case k15 => k_is)
    (case a16 => k_is)
    (case l16 => k_is)
    (case c16 => k_is)
    (case k16 => k_is)
    (case a17 => k_is)
    (case l17 => k_is)
    (case c17 => k_is)
    (case k17 => k_is)
    (case a18 => k_is)
    (case l18 => k_is)
    (case c18 => k_is)
    (case k18 => k_is)
    (case a19 => k_is)
    (case l19 => k_is)
    (case c19 => k_is)
    (case k19 => k_is)
    (case a20 => k_is)
    (case l20 => k_is)
    (case c20 => k_is)
    (case k20 => k_is)
    (case a21 => k_is)
    (case l21 => k_is)
    (case c21 => k_is)
    (case k21 => k_is)
    (case a22 => k_is)
    (case l22 => k_is)
    (case c22 => k_is)
    (case k22 => k_is)
    (case a23 => k_is)
    (case l23 => k_is)
    (case c23 => k_is)
    (case k23 => k_is)
    (case a24 => k_is)
    (case l24 => k_is)
    (case c24 => k_is)
    (case k24 => k_is)
    (case a25 => k_is)
    (case l25 => k_is)
    (case c25 => k_is)
    (case k25 => k_is)
    (case a26 => k_is)
    (case l26 => k_is)
    (case c26 => k_is)
    (case k26 => k_is)
    (case a27 => k_is)
    (case l27 => k_is)
    (case c27 => k_is)
    (case k27 => k_is)
    (case a28 => k_is)
    (case l28 => k_is)
    (case c28 => k_is)
    (case k28 => k_is)
    (case z1 => k_is)
    (case z2 => k_is)
    (case z3 => k_is)
    (case z4 => k_is)
    (case z5 => k_is)
    (case z6 => k_is)
    (case z7 => k_is)
    (case z8 => k_is)
    (case z9 => k_is)
    (case z10 => k_is)
    (case z11 => k_is)
    (case z12 => k_is)
    (case z13 => k_is)
    (case z14 => k_is)
    (case m1_ => k_is)
    (case m2_ => k_is)
    (case m3_ => k_is)
    (case m4_ => k_is)
    (case m5_ => k_is)
    (case iljS => k_is)
    (case icjS => k_is)
    (case ikjS => k_is)
    (case iljT => k_is)
    (case icjT => k_is)
    (case ikjT => k_is)
    (case ilm1 => k_is)
    (case icm1 => k_is)
    (case ikm1 => k_is)
    (case ilm2 => k_is)
    (case icm2 => k_is)
    (case ikm2 => k_is)
    (case ilm3 => k_is)
    (case icm3 => k_is)
    (case ikm3 => k_is)
    (case ilm4 => k_is)
    (case icm4 => k_is)
    (case ikm4 => k_is)
    (case ilm5 => k_is)
    (case icm5 => k_is)
    (case ikm5 => k_is)
    (case ilm6 => k_is)
    (case icm6 => k_is)
    (case ikm6 => k_is)
    (case ilm7 => k_is)
    (case icm7 => k_is)
    (case ikm7 => k_is)
    (case ilm8 => k_is)
    (case icm8 => k_is)
    (case ikm8 => k_is)
    (case ilm9 => k_is)
    (case icm9 => k_is)
    (case ikm9 => k_is)
    (case ilm10 => k_is)
    (case icm10 => k_is)
    (case ikm10 => k_is)
    (case ilm11 => k_is)
    (case icm11 => k_is)
    (case ikm11 => k_is)
    (case fnjS => k_is)
    (case fnjT => k_is)
    (case fnm1 => k_is)
    (case fnm2 => k_is)
    (case fnm3 => k_is)
    (case fnm4 => k_is)
    (case fnm5 => k_is)
    (case fnm6 => k_is)
    (case fnm7 => k_is)
    (case fnm8 => k_is)
    (case fnm9 => k_is)
    (case fnm10 => k_is)
    (case fnm11 => k_is)
    (case mkCSh => k_is)
    (case kpCSh => k_is)
    (case pgCSh => k_is)
    (case hdCSh => k_is)
    (case poCSh => k_is)
    (case saCSh => k_is)
    (case mkCTw => k_is)
    (case kpCTw => k_is)
    (case pgCTw => k_is)
    (case hdCTw => k_is)
    (case poCTw => k_is)
    (case saCTw => k_is)
    (case na_kept => k_is)
    (case na_following => k_is)
    (case na_looks => k_is)
    (case na_things => k_is)
    (case na_tag => k_is)
    (case na_above => k_is)
    (case na_holds => k_is)
    (case tyB => k_is)
    (case mB => k_is)
    (case exCK => k_exc)
    (case e2CK => k_is)
    (case e3CK => k_is)
    (case e4CK => k_is)
    (case e5CK => k_is)
    (case e6CK => k_is)
    (case sbCK => k_is)
    (case vaCK => kit_is)
    (case kCKCK => kit_is)
    (case kCKCL => kit_is)
    (case kCKCS => kit_is)
    (case kCKCT => kit_is)
    (case kCKCH => kit_is)
    (case kCKCD => kit_is)
    (case exCL => k_exc)
    (case e2CL => k_is)
    (case e3CL => k_is)
    (case e4CL => k_is)
    (case e5CL => k_is)
    (case e6CL => k_is)
    (case sbCL => k_is)
    (case vaCL => kit_is)
    (case kCLCK => kit_is)
    (case kCLCL => kit_is)
    (case kCLCS => kit_is)
    (case kCLCT => kit_is)
    (case kCLCH => kit_is)
    (case kCLCD => kit_is)
    (case e7 => k_is)
    (case e8 => k_is)
