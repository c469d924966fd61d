import PyProof.Rows.All
import Wide.All
import OpenK.AllK
import Wide.FinOn
import Lean
import PyProof.EqAt
import PyProof.EqKinds
import PyProof.TupleCall
import PyProof.NsDelKeeps
import PyProof.ExcBaseAll.ValueError
import KE.KIsAll
import PyProof.ExcArgsOwn
import PyProof.ExcAttrAll.ValueError
import PyProof.NeKinds
import KE.KDictList
import PyProof.Rows.SortWalk
import KE.KEqDict
import KE.KLam
import PyProof.SetScanFacts
import PyProof.SetKind
import PyProof.DictKinds
import PyProof.DictStraight
import PyProof.DictIter
import PyProof.WalksS
import PyProof.FactsAll.set
import PyProof.FactsAll.dict_keyiterator
import PyProof.MakeMany
import PyProof.CollectWalk
import PyProof.ListNew
import PyProof.SetNew
import PyProof.ListRange
import PyProof.Rows.SetFrom
import PySem.Challenge.RW_twigmap_k82_bases
set_option Elab.async false
set_option linter.all false
set_option maxRecDepth 100000
/-! THE HAND LAYER, for ints, bools, texts, own classes, LISTS and tuples (index, slices, in, append, pop ..), calls, loops. Paste it whole ahead of your own text; what your proof does not reach may be deleted. -/
namespace L2
open PySem PySem.Spec PyProof.Rows

/-- a key: an int or a str -/
abbrev Key := Sum Int Str
def keyIs : Key → Value → Bool
  | .inl k, v => Value.isInt k v
  | .inr x, v => Value.isStrOf x v
def keyH (w : World) : Key → Int
  | .inl k => hashInt k
  | .inr x => hashStr w x
theorem keyIs_shape : ∀ {k : Key} {v : Value}, keyIs k v = true → (∃ i t, k = Sum.inl i ∧ v = Value.int i t) ∨ (∃ x t, k = Sum.inr x ∧ v = Value.str x t)
  | .inl i, v, h => by
    obtain ⟨t, e⟩ := Value.isInt_shape (k := i) (v := v) h
    exact .inl ⟨i, t, rfl, e⟩
  | .inr x, v, h => by
    obtain ⟨t, e⟩ := Value.isStrOf_shape (x := x) (v := v) h
    exact .inr ⟨x, t, rfl, e⟩
theorem keyIs_int (i : Int) (t : Tok) : keyIs (.inl i) (.int i t) = true := by simp [keyIs, Value.isInt]
theorem keyIs_str (x : Str) (t : Tok) : keyIs (.inr x) (.str x t) = true := by simp [keyIs, Value.isStrOf]
theorem key_ll (a b : Int) : decide ((Sum.inl a : Key) = Sum.inl b) = (a == b) := by
  by_cases e : a = b
  · subst e; simp
  · have h : ¬ (Sum.inl a : Key) = Sum.inl b := fun q => e (Sum.inl.inj q)
    rw [decide_eq_false h]
    exact (beq_eq_false_iff_ne.mpr e).symm
theorem key_rr (a b : Str) : decide ((Sum.inr a : Key) = Sum.inr b) = decide (a = b) := by
  by_cases e : a = b
  · subst e; simp
  · have h : ¬ (Sum.inr a : Key) = Sum.inr b := fun q => e (Sum.inr.inj q)
    rw [decide_eq_false h, decide_eq_false e]
theorem key_lr (a : Int) (b : Str) : decide ((Sum.inl a : Key) = Sum.inr b) = false := decide_eq_false (fun q => nomatch q)
theorem key_rl (a : Str) (b : Int) : decide ((Sum.inr a : Key) = Sum.inl b) = false := decide_eq_false (fun q => nomatch q)

def mixKind (prog : Program) (w : World) : PySem.KeyKind prog w Key where
  is := keyIs
  hash := keyH w
  inj := fun v a b ha hb => by
    rcases keyIs_shape ha with ⟨i, t, rfl, rfl⟩ | ⟨x, t, rfl, rfl⟩
    · rcases keyIs_shape hb with ⟨j, u, rfl, e⟩ | ⟨y, u, rfl, e⟩
      · injection e with e1 _; rw [e1]
      · exact nomatch e
    · rcases keyIs_shape hb with ⟨j, u, rfl, e⟩ | ⟨y, u, rfl, e⟩
      · exact nomatch e
      · injection e with e1 _; rw [e1]
  byValue := fun k v h => by
    rcases keyIs_shape h with ⟨i, t, rfl, rfl⟩ | ⟨x, t, rfl, rfl⟩ <;> rfl
  pyHash := fun hv h => by
    rcases keyIs_shape hv with ⟨i, t, rfl, rfl⟩ | ⟨x, t, rfl, rfl⟩
    · exact wpAny_pyHash_int h
    · exact wpAny_pyHash_str h
  eqBool := fun hu hv h => by
    rcases keyIs_shape hu with ⟨i, t, rfl, rfl⟩ | ⟨x, t, rfl, rfl⟩
    · rcases keyIs_shape hv with ⟨j, u, rfl, rfl⟩ | ⟨y, u, rfl, rfl⟩
      · rw [key_ll] at h; exact wpAny_eqBool_int h
      · rw [key_lr] at h; exact SeqAt.EqAt.int_str i t y u _ _ _ _ h
    · rcases keyIs_shape hv with ⟨j, u, rfl, rfl⟩ | ⟨y, u, rfl, rfl⟩
      · rw [key_rl] at h; exact SeqAt.EqAt.str_int x t j u _ _ _ _ h
      · rw [key_rr] at h; exact wpAny_eqBool_str h
  «strs» := fun k x t v h => by
    rcases keyIs_shape h with ⟨i, u, rfl, e⟩ | ⟨y, u, rfl, e⟩
    · exact nomatch e
    · injection e with e1 _
      subst e1
      cases v <;> rfl

theorem mixKind_int (prog : Program) (w : World) (i : Int) (t : Tok) : (mixKind prog w).is (.inl i) (.int i t) = true := keyIs_int i t
theorem mixKind_str (prog : Program) (w : World) (x : Str) (t : Tok) : (mixKind prog w).is (.inr x) (.str x t) = true := keyIs_str x t
end L2

namespace L2
open PySem PySem.Spec PyProof.Rows

/-- a value, without the heap -/
inductive V where
  | non | bl (b : Bool) | int (i : Int) | str (x : Str) | byt (b : Array UInt8) | flt (b : UInt64) | ref (a : Addr) | ty (n : String)
  deriving DecidableEq

def RelV : V → Value → Prop
  | .non, u => u = Value.none
  | .bl b, u => u = Value.bool b
  | .int i, u => ∃ t, u = Value.int i t
  | .str x, u => ∃ t, u = Value.str x t
  | .byt b, u => ∃ t, u = Value.bytes b t
  | .flt b, u => ∃ t, u = Value.float b t
  | .ref a, u => u = Value.ref a
  | .ty n, u => u = Value.type n

abbrev Vals : List V → List Value → Prop := Paired RelV
theorem Vals.length {xs : List V} {us : List Value} (r : Vals xs us) : xs.length = us.length := Paired.length r
theorem Vals.get : ∀ {xs : List V} {us : List Value} {i : Nat} {x : V}, Vals xs us → xs[i]? = some x → ∃ u, us[i]? = some u ∧ RelV x u
  | _, _, _, _, .nil, e => by simp at e
  | _, _, 0, _, .cons r _, e => by simp at e; subst e; exact ⟨_, rfl, r⟩
  | _, _, i + 1, x, .cons _ t, e => by
    obtain ⟨u, h1, h2⟩ := Vals.get (i := i) (x := x) t (by simpa using e)
    exact ⟨u, by simpa using h1, h2⟩
theorem Vals.set {x : V} {u : Value} (r : RelV x u) : ∀ {xs : List V} {us : List Value} (i : Nat), Vals xs us → Vals (xs.set i x) (us.set i u)
  | _, _, _, .nil => .nil
  | _, _, 0, .cons _ t => .cons r t
  | _, _, i + 1, .cons q t => .cons q (Vals.set r i t)
theorem Vals.append : ∀ {xs ys : List V} {us ws : List Value}, Vals xs us → Vals ys ws → Vals (xs ++ ys) (us ++ ws)
  | _, _, _, _, .nil, s => s
  | _, _, _, _, .cons r t, s => .cons r (Vals.append t s)
theorem Vals.take : ∀ {xs : List V} {us : List Value} (n : Nat), Vals xs us → Vals (xs.take n) (us.take n)
  | _, _, 0, _ => .nil
  | _, _, _ + 1, .nil => .nil
  | _, _, n + 1, .cons r t => .cons r (Vals.take n t)
theorem Vals.drop : ∀ {xs : List V} {us : List Value} (n : Nat), Vals xs us → Vals (xs.drop n) (us.drop n)
  | _, _, 0, r => r
  | _, _, _ + 1, .nil => .nil
  | _, _, n + 1, .cons _ t => Vals.drop n t
def RelO : Option V → Option Value → Prop
  | some v, some u => RelV v u
  | none, none => True
  | _, _ => False
def KV {κ : Type} : List (κ × V) → List (κ × Value) → Prop := Paired fun (p : κ × V) (q : κ × Value) => p.1 = q.1 ∧ RelV p.2 q.2

/-- a key of a dict (00_mix): an int or a text -/
def kV : Key → V
  | .inl i => .int i
  | .inr x => .str x

/-- what stands at a tracked address -/
inductive HO where
  /-- a list -/
  | lst (xs : List V)
  /-- a tuple (never changes) -/
  | tup (xs : List V)
  /-- a dict whose keys are ints and texts; one whose keys are tuples of ints and texts (the empty one is both) -/
  | dK (kvs : List (Key × V)) | dT (kvs : List (List Key × V))
  /-- a set of ints: its members, its size -/
  | set (S : Int → Bool) (n : Nat)
  /-- an instance of the class at C, its dict at dx, its attributes -/
  | ins (C dx : Addr) (fs : List (Str × V))
  /-- the dict of the instance at x -/
  | own (x : Addr)
  /-- the dict of an exception -/
  | xd (fs : List (Str × V))
  /-- a bound method, f of x -/
  | met (f x : Addr)
  /-- a range object lo, lo + 1, .. below hi -/
  | rng (lo hi : Int)
  /-- a thing that is known to the object (the script; a dict while a loop walks it): read, never written while it is so -/
  | frz (o : Obj) (u : HO)
  /-- a code object's table -/
  | tbl (ps : Array Value)
  /-- any other thing, by what is true of its one object (a def of one's own: SetO a S n := HO.ext fun h => ..) -/
  | ext (φ : Heap → Prop)

abbrev Hp := Addr → Option HO
def upd (H : Hp) (a : Addr) (o : HO) : Hp := fun b => if b = a then some o else H b
theorem upd_same {H : Hp} {a : Addr} {o : HO} : upd H a o a = some o := by unfold upd; rw [if_pos rfl]
theorem upd_ne {H : Hp} {a b : Addr} {o : HO} (h : b ≠ a) : upd H a o b = H b := by unfold upd; rw [if_neg h]
theorem upd_upd {H : Hp} {a : Addr} {o u : HO} : upd (upd H a o) a u = upd H a u := by
  funext b; unfold upd; split <;> rfl
/-- two objects of different content stand apart -/
theorem ne_of {H : Hp} {a b : Addr} {o u : HO} (h : H a = some o) (h' : H b = some u) (d : o ≠ u) : a ≠ b := by
  intro e; subst e; rw [h] at h'; exact d (Option.some.inj h')
theorem ne_of_none {H : Hp} {a b : Addr} {o : HO} (h : H a = some o) (h' : H b = none) : a ≠ b := by
  intro e; subst e; rw [h] at h'; cases h'

section
variable (P : Program) (w : World)
def ObjOk (H : Hp) (h : Heap) (a : Addr) : HO → Prop
  | .lst xs => xs.length ≤ sizeLine ∧ ∃ (its : List Value) (n : Nat), Vals xs its ∧ h.get? a = some { cls := .type "list", data := .seq its.toArray n }
  | .tup xs => xs.length ≤ sizeLine ∧ ∃ its : List Value, Vals xs its ∧ IsTup h a its.toArray
  | .dK kvs => kvs.length ≤ sizeLine ∧ (a == sysModules) = false ∧ ∃ vs, KV kvs vs ∧ h.DictOf (mixKind P w) a vs
  | .dT kvs => kvs.length ≤ sizeLine ∧ (a == sysModules) = false ∧ ∃ xs : List (List Key × Addr × Value),
      Paired (fun (p : List Key × V) (q : List Key × Addr × Value) => p.1 = q.1 ∧ H q.2.1 = some (.tup (p.1.map kV)) ∧ RelV p.2 q.2.2) kvs xs ∧
      ∃ o es ep, h.get? a = some o ∧ o.ExactDict ∧ o.data = .dict es ep ∧ es.toList = xs.map (entryOfKey (tupleKind (mixKind P w))) ∧ (xs.map (·.1)).Nodup
  | .set S n => h.SetOf (intKind P w) a S n
  | .ins C dx fs => H dx = some (.own a) ∧ fs.length ≤ 1000 ∧ dx ≠ a ∧ h.get? a = some (PySem.W.instObj C dx) ∧
      ∃ mA, h.Ns1 dx mA ∧ (∀ f, RelO (fs.lookup f) (mA f)) ∧ PySem.Within mA (fs.map (·.1))
  | .own _ => ∃ o, h.get? a = some o
  | .xd fs => ∃ mA, h.Ns1 a mA ∧ ∀ f, RelO (fs.lookup f) (mA f)
  | .rng lo hi => ∃ t u v, h.get? a = some { cls := .type "range", data := .fields #[.int lo t, .int hi u, .int 1 v] }
  | .frz o u => h.get? a = some o ∧ ObjOk H h a u
  | .tbl ps => h.get? a = some { cls := .none, data := .fields ps }
  | .met f x => h.get? a = some (PySem.W.methodObj (.ref f) (.ref x))
  | .ext φ => φ h ∧ (∃ o, h.get? a = some o) ∧ ∀ h1 h2 : Heap, φ h1 → (∀ o, h1.get? a = some o → h2.get? a = some o) → φ h2
/-- the abstract heap is held -/
def HOk (H : Hp) (h : Heap) : Prop := ∀ a o, H a = some o → ObjOk P w H h a o
end

section
variable {P : Program} {w : World} {H H' : Hp} {h h' : Heap} {a : Addr} {o : HO}
theorem ObjOk.lt (x : ObjOk P w H h a o) : a < h.objs.size := by
  cases o with
  | lst xs => obtain ⟨_, _, _, _, e⟩ := x; exact Heap.lt_size e
  | tup xs => obtain ⟨_, _, _, p⟩ := x; exact p.lt
  | dK kvs => obtain ⟨_, _, _, _, o, _, _, e, _⟩ := x; exact Heap.lt_size e
  | dT kvs => obtain ⟨_, _, _, _, o, _, _, e, _⟩ := x; exact Heap.lt_size e
  | set S n => obtain ⟨o, _, _, _, e, _⟩ := x; exact Heap.lt_size e
  | ins C dx fs => obtain ⟨_, _, _, e, _⟩ := x; exact Heap.lt_size e
  | own y => obtain ⟨_, e⟩ := x; exact Heap.lt_size e
  | xd fs => obtain ⟨_, ⟨_, _, _, e, _⟩, _⟩ := x; exact Heap.lt_size e
  | rng lo hi => obtain ⟨_, _, _, e⟩ := x; exact Heap.lt_size e
  | frz ob u => obtain ⟨e, _⟩ := x; exact Heap.lt_size e
  | tbl ps => exact Heap.lt_size (show h.get? a = some _ from x)
  | met f y => exact Heap.lt_size (show h.get? a = some _ from x)
  | ext φ => obtain ⟨_, ⟨_, e⟩, _⟩ := x; exact Heap.lt_size e
theorem Paired.mapP {α β : Type} {F G : α → β → Prop} : ∀ {l₁ : List α} {l₂ : List β}, Paired F l₁ l₂ → (∀ a b, F a b → G a b) → Paired G l₁ l₂
  | _, _, .nil, _ => .nil
  | _, _, .cons r t, f => .cons (f _ _ r) (Paired.mapP t f)
/-- what an object's description leans on: its own object, its own dict, the tuples -/
theorem ObjOk.stay (x : ObjOk P w H h a o) (k : ∀ b u, (b = a ∨ H b = some (.own a)) → h.get? b = some u → h'.get? b = some u)
    (ho : ∀ b, H b = some (.own a) → H' b = some (.own a)) (ht : ∀ b xs, H b = some (.tup xs) → H' b = some (.tup xs)) : ObjOk P w H' h' a o := by
  induction o with
  | lst xs => obtain ⟨z, its, n, r, e⟩ := x; exact ⟨z, its, n, r, k _ _ (.inl rfl) e⟩
  | tup xs => obtain ⟨z, its, r, ob, e, c⟩ := x; exact ⟨z, its, r, ob, k _ _ (.inl rfl) e, c⟩
  | dK kvs => obtain ⟨z, y, vs, r, ob, es, ep, e, c⟩ := x; exact ⟨z, y, vs, r, ob, es, ep, k _ _ (.inl rfl) e, c⟩
  | dT kvs =>
    obtain ⟨z, y, xs, r, ob, es, ep, e, c⟩ := x
    exact ⟨z, y, xs, Paired.mapP r fun p q z => ⟨z.1, ht _ _ z.2.1, z.2.2⟩, ob, es, ep, k _ _ (.inl rfl) e, c⟩
  | set S n => obtain ⟨ob, es, ep, t, e, c⟩ := x; exact ⟨ob, es, ep, t, k _ _ (.inl rfl) e, c⟩
  | ins C dx fs =>
    obtain ⟨d, z, ne, e, mA, ⟨od, es, ep, e2, c⟩, r⟩ := x
    exact ⟨ho _ d, z, ne, k _ _ (.inl rfl) e, mA, ⟨od, es, ep, k _ _ (.inr d) e2, c⟩, r⟩
  | own y => obtain ⟨ob, e⟩ := x; exact ⟨ob, k _ _ (.inl rfl) e⟩
  | xd fs => obtain ⟨mA, ⟨od, es, ep, e, c⟩, r⟩ := x; exact ⟨mA, ⟨od, es, ep, k _ _ (.inl rfl) e, c⟩, r⟩
  | rng lo hi => obtain ⟨t, u, v, e⟩ := x; exact ⟨t, u, v, k _ _ (.inl rfl) e⟩
  | frz ob u ih => obtain ⟨e, q⟩ := x; exact ⟨k _ _ (.inl rfl) e, ih q⟩
  | tbl ps =>
    have e : h.get? a = some { cls := .none, data := .fields ps } := x
    show h'.get? a = some { cls := .none, data := .fields ps }
    exact k a _ (.inl rfl) e
  | met f y =>
    have e : h.get? a = some (PySem.W.methodObj (.ref f) (.ref y)) := x
    show h'.get? a = some (PySem.W.methodObj (.ref f) (.ref y))
    exact k a _ (.inl rfl) e
  | ext φ => obtain ⟨p, ⟨o, e⟩, st⟩ := x; exact ⟨st _ _ p fun o q => k _ _ (.inl rfl) q, ⟨o, k _ _ (.inl rfl) e⟩, st⟩
theorem HOk.lt (x : HOk P w H h) (e : H a = some o) : a < h.objs.size := (x a o e).lt
theorem HOk.fresh (x : HOk P w H h) (e : h.objs.size ≤ a) : H a = none := by
  cases q : H a with
  | none => rfl
  | some u => exact absurd (Nat.lt_of_lt_of_le (x.lt q) e) (Nat.lt_irrefl _)
/-- every object of the heap is kept -/
theorem HOk.kept (x : HOk P w H h) (k : ∀ b u, h.get? b = some u → h'.get? b = some u) : HOk P w H h' := fun a o e =>
  (x a o e).stay (fun b u _ q => k b u q) (fun _ q => q) fun _ _ q => q
/-- a new object is laid and tracked -/
theorem HOk.laid (x : HOk P w H h) (k : ∀ b u, h.get? b = some u → h'.get? b = some u) (hp : h.objs.size ≤ a) (new : ObjOk P w (upd H a o) h' a o) : HOk P w (upd H a o) h' := fun b u e => by
  have hn := x.fresh hp
  by_cases hb : b = a
  · subst hb; rw [upd_same] at e; cases e; exact new
  · rw [upd_ne hb] at e
    exact (x b u e).stay (fun c v _ q => k c v q) (fun c q => by rw [upd_ne (ne_of_none q hn)]; exact q) fun c xs q => by rw [upd_ne (ne_of_none q hn)]; exact q
end

/-- what may be read as u: it is u, or a known u -/
def Rd (H : Hp) (a : Addr) (u : HO) : Prop := H a = some u ∨ ∃ o, H a = some (.frz o u)
theorem Rd.ok {P : Program} {w : World} {H : Hp} {h : Heap} {a : Addr} {u : HO} (r : Rd H a u) (x : HOk P w H h) : ObjOk P w H h a u := by
  rcases r with r | ⟨o, r⟩
  · exact x a u r
  · obtain ⟨_, q⟩ := x a _ r
    exact q
/-- what may be written -/
def Mut : Option HO → Prop
  | some (.lst _) => True
  | some (.dK _) => True
  | some (.dT _) => True
  | some (.set _ _) => True
  | some (.ins _ _ _) => True
  | some (.ext _) => True
  | _ => False
section
variable {P : Program} {w : World} {H : Hp} {h h' : Heap} {x e : Addr} {o' : HO}
/-- the object at e is changed: x itself, or the dict of the instance x -/
theorem HOk.write (ok : HOk P w H h) (mu : Mut (H x)) (he : e = x ∨ H e = some (.own x)) (k : ∀ b u, b ≠ e → h.get? b = some u → h'.get? b = some u) (heo : ∃ u, h'.get? e = some u)
    (new : ObjOk P w (upd H x o') h' x o') : HOk P w (upd H x o') h' := fun b u q => by
  have nown : ∀ c y, H c = some (.own y) → c ≠ x := fun c y r z => by subst z; rw [r] at mu; exact mu
  have ntup : ∀ c xs, H c = some (.tup xs) → c ≠ x := fun c xs r z => by subst z; rw [r] at mu; exact mu
  by_cases hb : b = x
  · subst hb; rw [upd_same] at q; cases q; exact new
  · rw [upd_ne hb] at q
    by_cases hbe : b = e
    · have q' : H b = some (.own x) := by
        rcases he with z | z
        · exact absurd (hbe.trans z) hb
        · rw [hbe]; exact z
      rw [q] at q'; cases q'
      obtain ⟨v, hv⟩ := heo
      exact ⟨v, by rw [hbe]; exact hv⟩
    · refine (ok b u q).stay (fun c v hc r => k c v ?_ r) (fun c r => by rw [upd_ne (nown c b r)]; exact r) fun c xs r => by rw [upd_ne (ntup c xs r)]; exact r
      rcases hc with rfl | hc
      · exact hbe
      · rintro rfl
        rcases he with z | z
        · exact nown c b hc z
        · rw [hc] at z; cases z; exact hb rfl
end

/-! ### kept unless tracked; of the frames at fs (the callers') the slots may change (an exception that passes writes there); of the records at ex (iterators) nothing is said -/
structure Un (fs ex : List Addr) (H H' : Hp) (h h' : Heap) : Prop where
  keep : ∀ b o, h.get? b = some o → H b = none → b ∉ fs → b ∉ ex → h'.get? b = some o
  slot : ∀ b o, h.get? b = some o → H b = none → b ∈ fs → b ∉ ex → ∃ sl, h'.get? b = some { o with slots := sl }
  free : ∀ b o, h.get? b = some o → H b = none → b ∉ ex → H' b = none
  there : ∀ b o, h.get? b = some o → b ∉ ex → ∃ o', h'.get? b = some o'
  tups : ∀ b xs, H b = some (.tup xs) → H' b = some (.tup xs)
  frzs : ∀ b o u, H b = some (.frz o u) → H' b = some (.frz o u)
  tbls : ∀ b ps, H b = some (.tbl ps) → ∃ more, H' b = some (.tbl (ps ++ more))
section
variable {fs fs' ex ex' : List Addr} {H H1 H2 : Hp} {h h1 h2 h' : Heap} {a x e : Addr} {o : HO}
theorem Un.any (u : Un fs ex H H1 h h1) {b : Addr} {ob : Obj} (q : h.get? b = some ob) (n : H b = none) (hx : b ∉ ex) : ∃ sl, h1.get? b = some { ob with slots := sl } := by
  by_cases hb : b ∈ fs
  · exact u.slot b ob q n hb hx
  · exact ⟨ob.slots, u.keep b ob q n hb hx⟩
theorem Un.kept (k : ∀ b u, h.get? b = some u → h'.get? b = some u) : Un fs ex H H h h' :=
  ⟨fun b ob q _ _ _ => k b ob q, fun b ob q _ _ _ => ⟨ob.slots, k b ob q⟩, fun _ _ _ n _ => n, fun b ob q _ => ⟨ob, k b ob q⟩, fun _ _ q => q, fun _ _ _ q => q, fun _ ps q => ⟨#[], by rw [q]; simp⟩⟩
theorem Un.refl : Un fs ex H H h h := Un.kept fun _ _ q => q
theorem Un.laid (k : ∀ b u, h.get? b = some u → h'.get? b = some u) (hp : h.objs.size ≤ a) (hn : H a = none) : Un fs ex H (upd H a o) h h' where
  keep := fun b u q _ _ _ => k b u q
  slot := fun b u q _ _ _ => ⟨u.slots, k b u q⟩
  free := fun b u q n _ => by rw [upd_ne (Nat.ne_of_lt (Nat.lt_of_lt_of_le (Heap.lt_size q) hp))]; exact n
  there := fun b u q _ => ⟨u, k b u q⟩
  tups := fun b xs q => by rw [upd_ne (ne_of_none q hn)]; exact q
  frzs := fun b u xs q => by rw [upd_ne (ne_of_none q hn)]; exact q
  tbls := fun b ps q => ⟨#[], by rw [upd_ne (ne_of_none q hn), q]; simp⟩
theorem Un.write (mu : Mut (H x)) (he : e = x ∨ H e = some (.own x)) (k : ∀ b u, b ≠ e → h.get? b = some u → h'.get? b = some u) (heo : ∃ u, h'.get? e = some u) : Un fs ex H (upd H x o) h h' := by
  have hx : ∀ b, H b = none → b ≠ x := fun b n z => by subst z; rw [n] at mu; exact mu
  have hb : ∀ b, H b = none → b ≠ e := fun b n z => by
    subst z
    rcases he with r | r
    · exact hx b n r
    · rw [n] at r; cases r
  have hm : ∀ b u, H b = some u → ¬ Mut (some u) → b ≠ x := fun b u q nm z => by subst z; rw [q] at mu; exact nm mu
  refine ⟨fun b u q n _ _ => k b u (hb b n) q, fun b u q n _ _ => ⟨u.slots, k b u (hb b n) q⟩, fun b u q n _ => by rw [upd_ne (hx b n)]; exact n, fun b u q _ => ?_,
    fun b xs q => by rw [upd_ne (hm b _ q fun z => z)]; exact q, fun b u xs q => by rw [upd_ne (hm b _ q fun z => z)]; exact q, fun b ps q => ⟨#[], by rw [upd_ne (hm b _ q fun z => z), q]; simp⟩⟩
  by_cases hbe : b = e
  · subst hbe; exact heo
  · exact ⟨u, k b u hbe q⟩
end

/-! ### the heap without what is tracked -/
def trk (h : Heap) (H : Hp) : List Addr := (List.range h.objs.size).filter fun a => (H a).isSome
def hidT (h : Heap) (H : Hp) : Heap := PySem.W.hideAll h (trk h H)
theorem hidT_size (h : Heap) (H : Hp) : (hidT h H).objs.size = h.objs.size := PySem.W.hideAll_size _ _
theorem hidT_get {h : Heap} {H : Hp} {b : Addr} {o : Obj} (e : h.get? b = some o) (n : H b = none) : (hidT h H).get? b = some o :=
  PySem.W.hideAll_get _ e fun hm => by
    have q : (H b).isSome = true := (List.mem_filter.mp hm).2
    rw [n] at q; simp at q
theorem of_hidT {h : Heap} {H : Hp} {b : Addr} {o : Obj} (e : (hidT h H).get? b = some o) : h.get? b = some o ∧ H b = none := by
  have e' : h.get? b = some o := PySem.W.of_hideAll (trk h H) e
  refine ⟨e', ?_⟩
  cases q : H b with
  | none => rfl
  | some x =>
    have hm : b ∈ trk h H := List.mem_filter.mpr ⟨List.mem_range.mpr (Heap.lt_size e'), by simp [q]⟩
    have z : (hidT h H).get? b = none := PySem.W.hideAll_none (trk h H) hm
    rw [z] at e; cases e

/-! ### OpenK's ledger, filled with every new object but one -/
def allNews (g h : Heap) (L : Addr) : List (Addr × Obj) := (List.range h.objs.size).filterMap fun a => if a = L ∨ (g.get? a).isSome = true then none else (h.get? a).map fun o => (a, o)
def rest (g h : Heap) (L d : Addr) : List (Addr × Obj) := (allNews g h L).filter fun p => decide (p.1 ≠ d)
end L2

namespace L2
open PySem PySem.Spec PyProof.Rows

/-- the module's facts, over the base: the heap at the law's entry without what is tracked there -/
structure Mod (K : PySem.W.Frag) (mg : Str → Option Value) (base : Heap) : Prop where
  kin : K.In base
  glob : base.Ns mainGlobals mg
  blt : ∃ mb, base.Ns builtinsNs mb ∧ ∀ x : Str, x ≠ "__name__" → mb x = bootBuiltins x
  nolimit : base.NoLimit

/-- the context: a def's body (or a comprehension's block) running. base: fixed through the whole law; s₀, H₀: the entry; outer: the frames whose slots others may change (a def's callers); stack: all frames that run;
   ex: iterators that were made ahead of the entry and are walked here (a comprehension's); fn: the names whose cells were made at the entry (a def: all; a comprehension's block: its own); calm: not within an except suite; pn: pins that every state bears; xe: what is wanted of an exception that leaves the code -/
structure Cx where
  prog : Program
  w : World
  K : PySem.W.Frag
  mg : Str → Option Value
  base : Heap
  A : Around
  N : List Str
  s₀ : Shared
  H₀ : Hp
  env : Env
  outer : List Env
  stack : List Env
  ex : List Addr
  fn : Str → Bool
  calm : Bool
  pn : List (Addr × Obj)
  xe : Value → Shared → Prop
/-- the callers' frames -/
def frs (l : List Env) : List Addr := l.filterMap (·.frame)
abbrev Cx.fs (X : Cx) : List Addr := frs X.outer

def Vis (sc : Scope) (x : Str) : Prop := sc.names.lookup x = some .local ∨ sc.names.lookup x = some .cell ∨ sc.names.lookup x = some .free
def Loc (sc : Scope) (x : Str) : Prop := sc.names.lookup x = some .local ∨ sc.names.lookup x = some .cell
def Look (env : Env) (h : Heap) (m : Str → Option Value) (x : Str) (u : Value) : Prop :=
  (env.kindOf x = some .local ∧ m x = some u) ∨ ((env.kindOf x = some .cell ∨ env.kindOf x = some .free) ∧ ∃ c, env.cells.lookup x = some c ∧ h.IsCell c (some u))

structure Cx.Ok (X : Cx) : Prop where
  mod : Mod X.K X.mg X.base
  kind : X.env.scope.kind = .function
  glob : X.env.globals = mainGlobals
  blt : X.env.builtins = builtinsNs
  above : X.s₀.heap.objs.size ≤ X.env.locals
  inj : ∀ x y c, X.env.cells.lookup x = some c → X.env.cells.lookup y = some c → x = y
  has : ∀ x, (X.env.kindOf x = some .cell ∨ X.env.kindOf x = some .free) → ∃ c, X.env.cells.lookup x = some c
  cab : ∀ x c, X.fn x = true → X.env.cells.lookup x = some c → X.s₀.heap.objs.size ≤ c
  hd : X.calm = true → X.A.handled = none
  frames : X.A.frames = some X.stack
  stk : X.stack = X.outer ∨ (X.stack = X.env :: X.outer ∧ X.env.frame = some X.env.locals)
  exf : ∀ b ∈ X.ex, b ≠ X.env.locals ∧ ∀ x c, X.env.cells.lookup x = some c → c ≠ b
  bs : ∀ b o, X.base.get? b = some o → X.s₀.heap.get? b = some o ∧ X.H₀ b = none
  bsz : X.base.objs.size ≤ X.s₀.heap.objs.size
  noex : ∀ b o, X.base.get? b = some o → b ∉ X.ex
  exfs : ∀ b ∈ X.ex, b ∉ X.fs
  funs : X.s₀.heap.FunFrames X.base X.outer
  frf : ∀ b ∈ X.fs, X.H₀ b = none

structure Inv (X : Cx) (pins : List (Addr × Obj)) (σ : List (Option V)) (H : Hp) (s : Shared) : Prop where
  ok : X.Ok
  os : s.os = X.s₀.os
  bare : AllBare s.gens
  base : Un X.fs X.ex X.H₀ H X.s₀.heap s.heap
  loc : ∃ m, s.heap.Ns X.env.locals m ∧ ∀ (i : Nat) (x : Str) (v : V), X.N[i]? = some x → σ[i]? = some (some v) → Vis X.env.scope x → ∃ u, RelV v u ∧ Look X.env s.heap m x u
  cell : ∀ x c, X.env.cells.lookup x = some c → ∃ v, s.heap.IsCell c v
  free : H X.env.locals = none
  freeC : ∀ x c, X.env.cells.lookup x = some c → H c = none
  pin : ∀ p ∈ X.pn ++ pins, s.heap.get? p.1 = some p.2 ∧ H p.1 = none ∧ p.1 ≠ X.env.locals ∧ p.1 ∉ X.fs ∧ ∀ v, p.2.data ≠ .cell v
  hok : HOk X.prog X.w H s.heap
  len : σ.length = X.N.length

section
variable {X : Cx} {pins : List (Addr × Obj)} {σ : List (Option V)} {H H' : Hp} {s : Shared} {h' : Heap}

theorem Cx.Ok.nofr (ok : X.Ok) {b : Addr} {o : Obj} (e : X.base.get? b = some o) : b ∉ X.fs := fun hb => by
  have := (ok.funs.mem hb).1
  rw [e] at this; cases this
theorem Inv.bs (I : Inv X pins σ H s) : ∀ b o, X.base.get? b = some o → s.heap.get? b = some o ∧ H b = none := fun b o e =>
  ⟨I.base.keep b o (I.ok.bs b o e).1 (I.ok.bs b o e).2 (I.ok.nofr e) (I.ok.noex b o e), I.base.free b o (I.ok.bs b o e).1 (I.ok.bs b o e).2 (I.ok.noex b o e)⟩
theorem Inv.bk (I : Inv X pins σ H s) : ∀ b o, X.base.get? b = some o → s.heap.get? b = some o := fun b o e => (I.bs b o e).1
theorem Inv.mod (I : Inv X pins σ H s) : Mod X.K X.mg X.base := I.ok.mod
theorem Inv.kIn (I : Inv X pins σ H s) : X.K.In s.heap := I.ok.mod.kin.keeps I.bk
theorem Inv.lt (I : Inv X pins σ H s) : X.env.locals < s.heap.objs.size := let ⟨_, hn, _⟩ := I.loc; hn.lt
theorem Inv.sz (I : Inv X pins σ H s) : X.s₀.heap.objs.size ≤ s.heap.objs.size := Nat.le_trans I.ok.above (Nat.le_of_lt I.lt)
theorem Inv.nofs (I : Inv X pins σ H s) {a : Addr} (h : s.heap.objs.size ≤ a) : a ∉ X.fs := fun hb => by
  obtain ⟨_, o, ho, _⟩ := I.ok.funs.mem hb
  exact absurd (Nat.lt_of_lt_of_le (Heap.lt_size ho) (Nat.le_trans I.sz h)) (Nat.lt_irrefl _)
theorem Inv.cne (I : Inv X pins σ H s) : ∀ x c, X.env.cells.lookup x = some c → c ≠ X.env.locals := fun x c e z => by
  obtain ⟨v, o, ho, hd⟩ := I.cell x c e
  obtain ⟨m, ⟨o', es, ep, ho', hd', _⟩, _⟩ := I.loc
  rw [z, ho'] at ho; cases ho; rw [hd'] at hd; cases hd
theorem Inv.funs (I : Inv X pins σ H s) : s.heap.FunFrames X.base X.outer := by
  have all : ∀ (l : List Env), (∀ b ∈ frs l, b ∈ X.fs) → X.s₀.heap.FunFrames X.base l → s.heap.FunFrames X.base l := by
    intro l
    induction l with
    | nil => intro _ _; trivial
    | cons env r ih =>
      intro hs hl
      obtain ⟨hk, ⟨L, o, hf, hn, ho, hd⟩, hr⟩ := hl
      have hL : L ∈ X.fs := hs L (by unfold frs; rw [List.filterMap_cons, hf]; exact List.mem_cons_self)
      obtain ⟨sl, e⟩ := I.base.slot L o ho (I.ok.frf L hL) hL fun z => I.ok.exfs L z hL
      exact ⟨hk, ⟨L, _, hf, hn, e, hd⟩, ih (fun b hb => hs b (by unfold frs; rw [List.filterMap_cons, hf]; exact List.mem_cons_of_mem _ hb)) hr⟩
  exact all X.outer (fun _ hb => hb) I.ok.funs

/-- the frames that run, for a call -/
theorem Inv.stack (I : Inv X pins σ H s) : s.heap.FunFrames X.base X.stack := by
  rcases I.ok.stk with e | ⟨e, hf⟩
  · rw [e]; exact I.funs
  · rw [e]
    obtain ⟨m, hn, _⟩ := I.loc
    refine .cons (by rw [I.ok.kind]; decide) hf hn ?_ I.funs
    exact Heap.get?_none_of_le (Nat.le_trans I.ok.bsz I.ok.above)
theorem Inv.stkSub (I : Inv X pins σ H s) : ∀ b ∈ frs X.stack, b ∈ X.env.locals :: X.fs := fun b hb => by
  rcases I.ok.stk with e | ⟨e, hf⟩
  · rw [e] at hb; exact List.mem_cons_of_mem _ hb
  · rw [e] at hb
    unfold frs at hb
    rw [List.filterMap_cons, hf] at hb
    exact hb
theorem Inv.stkFree (I : Inv X pins σ H s) : ∀ b ∈ frs X.stack, H b = none := fun b hb => by
  rcases List.mem_cons.mp (I.stkSub b hb) with e | hb
  · rw [e]; exact I.free
  · obtain ⟨_, o, ho, _⟩ := I.ok.funs.mem hb
    exact I.base.free b o ho (I.ok.frf b hb) fun z => I.ok.exfs b z hb

/-- THE STEP: the untracked objects but the frame and the records at ch are kept (the callers' frames up to slots), the frame's map is kept, the new abstract heap is held -/
theorem Inv.step {g' : Array GenState} {t' : Nat} {d' : Drawn} {ch : List Addr} (I : Inv X pins σ H s)
    (hch : ∀ b ∈ ch, (b ∈ X.ex ∨ X.s₀.heap.objs.size ≤ b) ∧ b ≠ X.env.locals ∧ (∀ x c, X.env.cells.lookup x = some c → c ≠ b) ∧ ∀ p ∈ X.pn ++ pins, p.1 ≠ b)
    (keep : ∀ b o, b ≠ X.env.locals → b ∉ X.fs → b ∉ ch → s.heap.get? b = some o → H b = none → h'.get? b = some o)
    (slot : ∀ b o, b ≠ X.env.locals → b ∈ X.fs → b ∉ ch → s.heap.get? b = some o → H b = none → ∃ sl, h'.get? b = some { o with slots := sl }) (free : ∀ b o, b ∉ ch → s.heap.get? b = some o → H b = none → H' b = none)
    (there : ∀ b o, b ∉ ch → s.heap.get? b = some o → ∃ o', h'.get? b = some o')
    (tups : ∀ b xs, H b = some (.tup xs) → H' b = some (.tup xs)) (frzs : ∀ b o u, H b = some (.frz o u) → H' b = some (.frz o u)) (tbls : ∀ b ps, H b = some (.tbl ps) → ∃ more, H' b = some (.tbl (ps ++ more)))
    (ns : ∀ m, s.heap.Ns X.env.locals m → h'.Ns X.env.locals m) (hok : HOk X.prog X.w H' h') (hg : AllBare g') :
    Inv X pins σ H' { s with heap := h', gens := g', drawn := d', toks := t' } := by
  have neL : ∀ b o, X.s₀.heap.get? b = some o → b ≠ X.env.locals := fun b o e => Nat.ne_of_lt (Nat.lt_of_lt_of_le (Heap.lt_size e) I.ok.above)
  have neC : ∀ b o, X.s₀.heap.get? b = some o → b ∉ X.ex → b ∉ ch := fun b o e hx hb => by
    rcases (hch b hb).1 with z | z
    · exact hx z
    · exact absurd (Nat.lt_of_lt_of_le (Heap.lt_size e) z) (Nat.lt_irrefl _)
  have cellK : ∀ x c, X.env.cells.lookup x = some c → ∀ v, s.heap.IsCell c v → h'.IsCell c v := fun x c e v ⟨o, ho, hd⟩ => by
    have nch : c ∉ ch := fun z => (hch c z).2.2.1 x c e rfl
    by_cases hc : c ∈ X.fs
    · obtain ⟨sl, q⟩ := slot c o (I.cne x c e) hc nch ho (I.freeC x c e)
      exact ⟨_, q, hd⟩
    · exact ⟨o, keep c o (I.cne x c e) hc nch ho (I.freeC x c e), hd⟩
  refine ⟨I.ok, I.os, hg, ⟨fun b o e n hb hx => ?_, fun b o e n hb hx => ?_, fun b o e n hx => ?_, fun b o e hx => ?_, fun b xs e => tups b xs (I.base.tups b xs e), fun b o xs e => frzs b o xs (I.base.frzs b o xs e), fun b ps e => ?_⟩, ?_, fun x c e => ?_, ?_, fun x c e => ?_, fun p hp => ?_, hok, I.len⟩
  · exact keep b o (neL b o e) hb (neC b o e hx) (I.base.keep b o e n hb hx) (I.base.free b o e n hx)
  · obtain ⟨sl, e1⟩ := I.base.slot b o e n hb hx
    obtain ⟨sl', e2⟩ := slot b _ (neL b o e) hb (neC b o e hx) e1 (I.base.free b o e n hx)
    exact ⟨sl', e2⟩
  · obtain ⟨o', e1⟩ := I.base.there b o e hx
    exact free b o' (neC b o e hx) e1 (I.base.free b o e n hx)
  · obtain ⟨o', e1⟩ := I.base.there b o e hx
    exact there b o' (neC b o e hx) e1
  · obtain ⟨m1, e1⟩ := I.base.tbls b ps e
    obtain ⟨m2, e2⟩ := tbls b _ e1
    exact ⟨m1 ++ m2, by rw [e2, Array.append_assoc]⟩
  · obtain ⟨m, hn, hl⟩ := I.loc
    refine ⟨m, ns m hn, fun i x v e1 e2 e3 => ?_⟩
    obtain ⟨u, r, l⟩ := hl i x v e1 e2 e3
    refine ⟨u, r, ?_⟩
    rcases l with l | ⟨k, c, e, z⟩
    · exact .inl l
    · exact .inr ⟨k, c, e, cellK x c e _ z⟩
  · obtain ⟨v, z⟩ := I.cell x c e
    exact ⟨v, cellK x c e v z⟩
  · obtain ⟨m, ⟨o, _, _, ho, _⟩, _⟩ := I.loc
    exact free _ o (fun z => (hch _ z).2.1 rfl) ho I.free
  · obtain ⟨v, o, ho, hd⟩ := I.cell x c e
    exact free c o (fun z => (hch c z).2.2.1 x c e rfl) ho (I.freeC x c e)
  · obtain ⟨e, n, ne, nf, d⟩ := I.pin p hp
    have nch : p.1 ∉ ch := fun z => (hch p.1 z).2.2.2 p hp rfl
    exact ⟨keep p.1 p.2 ne nf nch e n, free p.1 p.2 nch e n, ne, nf, d⟩
/-- .. where the frame's own object is kept too -/
theorem Inv.un {t' : Nat} (I : Inv X pins σ H s) (u : Un X.fs [] H H' s.heap h') (hok : HOk X.prog X.w H' h') : Inv X pins σ H' { s with heap := h', toks := t' } := by
  obtain ⟨m, ⟨o, es, ep, ho, r⟩, _⟩ := id I.loc
  obtain ⟨sl, hL⟩ := u.any ho I.free (by simp)
  exact I.step (g' := s.gens) (d' := s.drawn) (ch := []) (fun _ z => nomatch z) (fun b o _ hb _ e n => u.keep b o e n hb (by simp)) (fun b o _ hb _ e n => u.slot b o e n hb (by simp)) (fun b o _ e n => u.free b o e n (by simp)) (fun b o _ e => u.there b o e (by simp)) u.tups u.frzs u.tbls (fun m' hm => by
    obtain ⟨o', es', ep', ho', r'⟩ := hm
    rw [ho] at ho'; cases ho'
    exact ⟨_, es', ep', hL, r'⟩) hok I.bare
/-- behind a call (or a comprehension's block): the slots of this frame may have changed too, the records at ch may have turned -/
theorem Inv.call {g' : Array GenState} {t' : Nat} {d' : Drawn} {ch : List Addr} (I : Inv X pins σ H s) (u : Un (frs X.stack) ch H H' s.heap h') (hok : HOk X.prog X.w H' h') (hg : AllBare g')
    (hch : ∀ b ∈ ch, (b ∈ X.ex ∨ X.s₀.heap.objs.size ≤ b) ∧ b ≠ X.env.locals ∧ (∀ x c, X.env.cells.lookup x = some c → c ≠ b) ∧ ∀ p ∈ X.pn ++ pins, p.1 ≠ b) :
    Inv X pins σ H' { s with heap := h', gens := g', drawn := d', toks := t' } := by
  obtain ⟨m, ⟨o, es, ep, ho, r⟩, _⟩ := id I.loc
  obtain ⟨sl, hL⟩ := u.any ho I.free fun z => (hch _ z).2.1 rfl
  exact I.step (ch := ch) hch (fun b o hL hb hc e n => u.keep b o e n (fun z => (List.mem_cons.mp (I.stkSub b z)).elim hL hb) hc) (fun b o _ _ hc e n => u.any e n hc) (fun b o hc e n => u.free b o e n hc) (fun b o hc e => u.there b o e hc) u.tups u.frzs u.tbls (fun m' hm => by
    obtain ⟨o', es', ep', ho', r'⟩ := hm
    rw [ho] at ho'; cases ho'
    exact ⟨_, es', ep', hL, r'⟩) hok hg
/-- an untracked record of ours (an iterator) has turned -/
theorem Inv.turned {t' : Nat} {it : Addr} (I : Inv X pins σ H s) (k : ∀ b o, b ≠ it → s.heap.get? b = some o → h'.get? b = some o) (hn : H it = none) (hL : it ≠ X.env.locals)
    (h1 : it ∈ X.ex ∨ X.s₀.heap.objs.size ≤ it) (h2 : ∀ x c, X.env.cells.lookup x = some c → c ≠ it) (h3 : ∀ p ∈ X.pn ++ pins, p.1 ≠ it) : Inv X pins σ H { s with heap := h', toks := t' } := by
  have nit : ∀ b u, H b = some u → b ≠ it := fun b u e z => by rw [z, hn] at e; cases e
  refine I.step (g' := s.gens) (d' := s.drawn) (ch := [it]) (fun b hb => ?_) (fun b o _ _ hc e _ => k b o (fun z => hc (by simp [z])) e) (fun b o _ _ hc e _ => ⟨o.slots, k b o (fun z => hc (by simp [z])) e⟩) (fun _ _ _ _ n => n)
    (fun b o hc e => ⟨o, k b o (fun z => hc (by simp [z])) e⟩) (fun _ _ e => e) (fun _ _ _ e => e) (fun b ps e => ⟨#[], by rw [e]; simp⟩) (fun m hm => ?_) (fun b u e => ?_) I.bare
  · have e : b = it := by simpa using hb
    subst e
    exact ⟨h1, hL, h2, h3⟩
  · obtain ⟨o, es, ep, ho, r⟩ := hm
    exact ⟨o, es, ep, k _ o (Ne.symm hL) ho, r⟩
  · refine (I.hok b u e).stay (fun c v hc q => k c v ?_ q) (fun _ q => q) fun _ _ q => q
    rcases hc with z | z
    · rw [z]; exact nit b u e
    · exact nit c _ z
theorem Inv.tok (I : Inv X pins σ H s) (t : Nat) : Inv X pins σ H { s with toks := t } := I.un (h' := s.heap) (t' := t) Un.refl I.hok
/-- all objects kept -/
theorem Inv.kept {t' : Nat} (I : Inv X pins σ H s) (k : ∀ b u, s.heap.get? b = some u → h'.get? b = some u) : Inv X pins σ H { s with heap := h', toks := t' } := I.un (Un.kept k) (I.hok.kept k)
/-- a new object laid and tracked -/
theorem Inv.laid {a : Addr} {o : HO} {t' : Nat} (I : Inv X pins σ H s) (k : ∀ b u, s.heap.get? b = some u → h'.get? b = some u) (hp : s.heap.objs.size ≤ a) (new : ObjOk X.prog X.w (upd H a o) h' a o) :
    Inv X pins σ (upd H a o) { s with heap := h', toks := t' } := I.un (Un.laid k hp (I.hok.fresh hp)) (I.hok.laid k hp new)
/-- an object written -/
theorem Inv.write {x e : Addr} {o : HO} {t' : Nat} (I : Inv X pins σ H s) (mu : Mut (H x)) (he : e = x ∨ H e = some (.own x)) (k : ∀ b u, b ≠ e → s.heap.get? b = some u → h'.get? b = some u) (heo : ∃ u, h'.get? e = some u)
    (new : ObjOk X.prog X.w (upd H x o) h' x o) : Inv X pins σ (upd H x o) { s with heap := h', toks := t' } := I.un (Un.write mu he k heo) (I.hok.write mu he k heo new)
theorem Inv.pins_of {pins' : List (Addr × Obj)} (I : Inv X pins σ H s) (h : ∀ p ∈ pins', s.heap.get? p.1 = some p.2 ∧ H p.1 = none ∧ p.1 ≠ X.env.locals ∧ p.1 ∉ X.fs ∧ ∀ v, p.2.data ≠ .cell v) : Inv X pins' σ H s :=
  ⟨I.ok, I.os, I.bare, I.base, I.loc, I.cell, I.free, I.freeC, fun p hp => (List.mem_append.mp hp).elim (fun z => I.pin p (List.mem_append_left _ z)) (h p), I.hok, I.len⟩

theorem nodup_ix {N : List Str} (hN : N.Nodup) {i j : Nat} {x : Str} (a : N[i]? = some x) (b : N[j]? = some x) : i = j := by
  obtain ⟨h1, e1⟩ := List.getElem?_eq_some_iff.mp a
  obtain ⟨h2, e2⟩ := List.getElem?_eq_some_iff.mp b
  exact (List.getElem_inj hN).mp (e1.trans e2.symm)

/-- a name is stored; what changed -/
theorem store_ok2 {M : Model} {A : Around} {E : Value → Shared → Prop} {i : Nat} {x : Str} {v : V} {u : Value} {Q : Unit → Shared → Prop} (I : Inv X pins σ H s) (hN : X.N.Nodup) (hi : X.N[i]? = some x) (hx : Loc X.env.scope x) (r : RelV v u)
    (h : ∀ s', Inv X pins (σ.set i (some v)) H s' → (∃ a, Heap.SameBut a s.heap s'.heap ∧ (a = X.env.locals ∨ X.env.cells.lookup x = some a)) → Q () s') (hf : X.fn x = true ∨ X.env.scope.names.lookup x = some .local := by first | exact .inl rfl | exact .inr rfl | assumption) : wpAny M A (storeName X.env x u) Q E s := by
  obtain ⟨m, hn, hl⟩ := id I.loc
  have hcls : (X.env.scope.kind == .class || (X.env.scope.kind == .module && X.env.locals != X.env.globals)) = false := by rw [I.ok.kind]; rfl
  have hiσ : i < σ.length := by rw [I.len]; exact (List.getElem?_eq_some_iff.mp hi).1
  have cne := I.cne
  have tracked : ∀ {a : Addr} {h' : Heap}, (∃ o, s.heap.get? a = some o ∧ H a = none) → Heap.SameBut a s.heap h' → HOk X.prog X.w H h' := fun {a h'} ha hs b ob e => by
    obtain ⟨_, _, hfree⟩ := ha
    refine (I.hok b ob e).stay (fun c w' hc q => (hs.2 c ?_).trans q) (fun _ q => q) fun _ _ q => q
    rintro rfl
    rcases hc with rfl | hc
    · rw [hfree] at e; cases e
    · rw [hfree] at hc; cases hc
  rcases hx with hk | hk
  · refine wpAny_storeName_local hk hn (fun h' hn' hs => ?_) hcls
    obtain ⟨oL, _, _, hoL, _⟩ := id hn
    refine h _ ⟨I.ok, I.os, I.bare, ⟨fun b o e n hb hx => ?_, fun b o e n hb hx => ?_, I.base.free, fun b o e hx => ?_, I.base.tups, I.base.frzs, I.base.tbls⟩, ⟨_, hn', fun j y v' e1 e2 e3 => ?_⟩, fun y c e => ?_, I.free, I.freeC, fun p hp => ?_, tracked ⟨oL, hoL, I.free⟩ hs, by simpa using I.len⟩ ⟨_, hs, .inl rfl⟩
    · exact (hs.2 b (Nat.ne_of_lt (Nat.lt_of_lt_of_le (Heap.lt_size e) I.ok.above))).trans (I.base.keep b o e n hb hx)
    · obtain ⟨sl, e1⟩ := I.base.slot b o e n hb hx
      exact ⟨sl, (hs.2 b (Nat.ne_of_lt (Nat.lt_of_lt_of_le (Heap.lt_size e) I.ok.above))).trans e1⟩
    · obtain ⟨o', e1⟩ := I.base.there b o e hx
      exact ⟨o', (hs.2 b (Nat.ne_of_lt (Nat.lt_of_lt_of_le (Heap.lt_size e) I.ok.above))).trans e1⟩
    · by_cases hj : j = i
      · subst hj
        rw [hi] at e1; cases e1
        rw [List.getElem?_set_self hiσ] at e2
        cases e2
        exact ⟨u, r, .inl ⟨hk, by simp⟩⟩
      · rw [List.getElem?_set_ne (Ne.symm hj)] at e2
        obtain ⟨u', r', q⟩ := hl j y v' e1 e2 e3
        refine ⟨u', r', ?_⟩
        rcases q with ⟨k, e⟩ | ⟨k, c, e, z⟩
        · refine .inl ⟨k, ?_⟩
          have : y ≠ x := fun e => hj (nodup_ix hN e1 (e ▸ hi))
          simp [this, e]
        · exact .inr ⟨k, c, e, z.sameBut hs (cne y c e)⟩
    · obtain ⟨w', z⟩ := I.cell y c e
      exact ⟨w', z.sameBut hs (cne y c e)⟩
    · obtain ⟨e, n, ne, nf, d⟩ := I.pin p hp
      exact ⟨(hs.2 p.1 ne).trans e, n, ne, nf, d⟩
  · have hfn : X.fn x = true := by
      rcases hf with z | z
      · exact z
      · rw [z] at hk; cases hk
    obtain ⟨c, hc⟩ := I.ok.has x (.inl hk)
    obtain ⟨w', z⟩ := I.cell x c hc
    refine wpAny_storeName_cell I.ok.kind hk hc z (fun h' hc' hs => ?_)
    obtain ⟨oc, hoc, hocd⟩ := id z
    refine h { s with heap := h' } ⟨I.ok, I.os, I.bare, ⟨fun b o e n hb hx => ?_, fun b o e n hb hx => ?_, I.base.free, fun b o e hx => ?_, I.base.tups, I.base.frzs, I.base.tbls⟩, ⟨m, hn.sameBut hs (Ne.symm (cne x c hc)), fun j y v' e1 e2 e3 => ?_⟩, fun y c' e => ?_, I.free, I.freeC, fun p hp => ?_, tracked ⟨oc, hoc, I.freeC x c hc⟩ hs, by simpa using I.len⟩ ⟨c, hs, .inr hc⟩
    · exact (hs.2 b (Nat.ne_of_lt (Nat.lt_of_lt_of_le (Heap.lt_size e) (I.ok.cab x c hfn hc)))).trans (I.base.keep b o e n hb hx)
    · obtain ⟨sl, e1⟩ := I.base.slot b o e n hb hx
      exact ⟨sl, (hs.2 b (Nat.ne_of_lt (Nat.lt_of_lt_of_le (Heap.lt_size e) (I.ok.cab x c hfn hc)))).trans e1⟩
    · obtain ⟨o', e1⟩ := I.base.there b o e hx
      exact ⟨o', (hs.2 b (Nat.ne_of_lt (Nat.lt_of_lt_of_le (Heap.lt_size e) (I.ok.cab x c hfn hc)))).trans e1⟩
    · by_cases hj : j = i
      · subst hj
        rw [hi] at e1; cases e1
        rw [List.getElem?_set_self hiσ] at e2
        cases e2
        exact ⟨u, r, .inr ⟨.inl hk, c, hc, hc'⟩⟩
      · rw [List.getElem?_set_ne (Ne.symm hj)] at e2
        obtain ⟨u', r', q⟩ := hl j y v' e1 e2 e3
        refine ⟨u', r', ?_⟩
        rcases q with q | ⟨k, c', e, z'⟩
        · exact .inl q
        · refine .inr ⟨k, c', e, z'.sameBut hs ?_⟩
          rintro rfl
          exact hj (nodup_ix hN e1 (I.ok.inj _ _ _ e hc ▸ hi))
    · by_cases hcc : c' = c
      · subst hcc; exact ⟨_, hc'⟩
      · obtain ⟨w2, z2⟩ := I.cell y c' e
        exact ⟨w2, z2.sameBut hs hcc⟩
    · obtain ⟨e, n, ne, nf, d⟩ := I.pin p hp
      refine ⟨(hs.2 p.1 ?_).trans e, n, ne, nf, d⟩
      intro q
      rw [q, hoc] at e
      have q' : oc = p.2 := Option.some.inj e
      exact d w' (by rw [← q']; exact hocd)
theorem store_ok {M : Model} {A : Around} {E : Value → Shared → Prop} {i : Nat} {x : Str} {v : V} {u : Value} {Q : Unit → Shared → Prop} (I : Inv X pins σ H s) (hN : X.N.Nodup) (hi : X.N[i]? = some x) (hx : Loc X.env.scope x) (r : RelV v u)
    (h : ∀ s', Inv X pins (σ.set i (some v)) H s' → Q () s') (hf : X.fn x = true ∨ X.env.scope.names.lookup x = some .local := by first | exact .inl rfl | exact .inr rfl | assumption) : wpAny M A (storeName X.env x u) Q E s :=
  store_ok2 I hN hi hx r (fun s' I' _ => h s' I') hf
/-- behind a call or a block, the state as it is -/
theorem Inv.call' {s' : Shared} {ch : List Addr} (I : Inv X pins σ H s) (ho : s'.os = s.os) (u : Un (frs X.stack) ch H H' s.heap s'.heap) (hok : HOk X.prog X.w H' s'.heap) (hg : AllBare s'.gens)
    (hch : ∀ b ∈ ch, (b ∈ X.ex ∨ X.s₀.heap.objs.size ≤ b) ∧ b ≠ X.env.locals ∧ (∀ x c, X.env.cells.lookup x = some c → c ≠ b) ∧ ∀ p ∈ X.pn ++ pins, p.1 ≠ b) : Inv X pins σ H' s' := by
  obtain ⟨h', g', d', t', o'⟩ := s'
  have e : o' = s.os := ho
  subst e
  exact I.call (g' := g') (t' := t') (d' := d') u hok hg hch
end

/-! ### the judgements -/
/-- an exception: its class, its own dict's address (where it has one), the abstract heap behind it -/
abbrev XK := Value → Option Addr → Hp → Prop
abbrev St := List (Option V)
abbrev VK := V → Hp → Prop
/-- an expression's reading; a test's; an argument list's -/
abbrev TE := St → Hp → VK → Prop
abbrev TT := St → Hp → (Bool → Hp → Prop) → Prop
abbrev TA := St → Hp → (List V → Hp → Prop) → Prop
/-- what is wanted behind a statement -/
structure Ends where
  nx : St → Hp → Prop
  rt : VK
  bk : St → Hp → Prop := fun _ _ => False
  ct : St → Hp → Prop := fun _ _ => False
abbrev TS := Ends → St → Hp → Prop

def EP (X : Cx) (pins : List (Addr × Obj)) (σ : St) (Q : VK) (u : Value) (s' : Shared) : Prop := ∃ v H', Inv X pins σ H' s' ∧ RelV v u ∧ Q v H'
def TP (X : Cx) (pins : List (Addr × Obj)) (σ : St) (Q : Bool → Hp → Prop) (b : Bool) (s' : Shared) : Prop := ∃ H', Inv X pins σ H' s' ∧ Q b H'
def AP (X : Cx) (pins : List (Addr × Obj)) (σ : St) (Q : List V → Hp → Prop) (us : List Value) (s' : Shared) : Prop := ∃ vs H', Inv X pins σ H' s' ∧ Vals vs us ∧ Q vs H'
def SP (X : Cx) (pins : List (Addr × Obj)) (D : Ends) (f : Flow) (s' : Shared) : Prop :=
  match f with
  | .next => ∃ σ' H', Inv X pins σ' H' s' ∧ D.nx σ' H'
  | .brk => ∃ σ' H', Inv X pins σ' H' s' ∧ D.bk σ' H'
  | .cont => ∃ σ' H', Inv X pins σ' H' s' ∧ D.ct σ' H'
  | .ret u => ∃ v σ' H', Inv X pins σ' H' s' ∧ RelV v u ∧ D.rt v H'

def PE (X : Cx) (e : Expr) (t : TE) : Prop :=
  ∀ (pins : List (Addr × Obj)) (s : Shared) (σ : St) (H : Hp) (Q : VK), Inv X pins σ H s → t σ H Q → wpAny (model X.prog X.w) X.A (eval e X.env) (EP X pins σ Q) X.xe s
def PT (X : Cx) (e : Expr) (t : TT) : Prop :=
  ∀ (pins : List (Addr × Obj)) (s : Shared) (σ : St) (H : Hp) (Q : Bool → Hp → Prop), Inv X pins σ H s → t σ H Q → wpAny (model X.prog X.w) X.A (isTrue e X.env (eval e X.env)) (TP X pins σ Q) X.xe s
/-- a test whatever its 'whole' is (and, or) -/
def PW (X : Cx) (e : Expr) (t : TT) : Prop :=
  ∀ (whole : Sem Value) (pins : List (Addr × Obj)) (s : Shared) (σ : St) (H : Hp) (Q : Bool → Hp → Prop), Inv X pins σ H s → t σ H Q → wpAny (model X.prog X.w) X.A (isTrue e X.env whole) (TP X pins σ Q) X.xe s
theorem PW.pt {X : Cx} {e : Expr} {t : TT} (h : PW X e t) : PT X e t := h _
/-- an argument list (no star), from the left -/
def PA (X : Cx) (es : List Expr) (t : TA) : Prop :=
  ∀ (pos : Pos) (pins : List (Addr × Obj)) (s : Shared) (σ : St) (H : Hp) (Q : List V → Hp → Prop), Inv X pins σ H s → t σ H Q → wpAny (model X.prog X.w) X.A (spliced (backTo pos (starEach es X.env))) (AP X pins σ Q) X.xe s
def PS (X : Cx) (st : Stmt) (t : TS) : Prop :=
  ∀ (pins : List (Addr × Obj)) (s : Shared) (σ : St) (H : Hp) (D : Ends), Inv X pins σ H s → t D σ H → wpAny (model X.prog X.w) X.A (exec st X.env) (SP X pins D) X.xe s
def PSs (X : Cx) (st : List Stmt) (t : TS) : Prop :=
  ∀ (pins : List (Addr × Obj)) (s : Shared) (σ : St) (H : Hp) (D : Ends), Inv X pins σ H s → t D σ H → wpAny (model X.prog X.w) X.A (execs st X.env) (SP X pins D) X.xe s
/-- weaken the end -/
theorem thn {α : Type} {t : Sem α} {Q Q' : α → Shared → Prop} {M : Model} {A : Around} {E : Value → Shared → Prop} {s : Shared} (h : wpAny M A t Q E s) (hQ : ∀ a s, Q a s → Q' a s) : wpAny M A t Q' E s := wpAny_mono h hQ fun _ _ x => x
end L2

namespace L2
open PySem PySem.Spec PyProof.Rows
section
variable {X : Cx}

/-- two expressions in a row -/
theorem bin {a b : Expr} {ta tb : TE} (ha : PE X a ta) (hb : PE X b tb) {pins : List (Addr × Obj)} {s : Shared} {σ : St} {H : Hp} {R : V → V → Hp → Prop} (I : Inv X pins σ H s) (h : ta σ H fun x H1 => tb σ H1 fun y H2 => R x y H2)
    {α : Type} {Q : α → Shared → Prop} {f : Value → Value → Sem α}
    (hf : ∀ v u s2 x y H2, Inv X pins σ H2 s2 → RelV x v → RelV y u → R x y H2 → wpAny (model X.prog X.w) X.A (f v u) Q X.xe s2) :
    wpAny (model X.prog X.w) X.A (eval a X.env) (fun v s₁ => wpAny (model X.prog X.w) X.A (eval b X.env) (fun u s₂ => wpAny (model X.prog X.w) X.A (f v u) Q X.xe s₂) X.xe s₁) X.xe s := by
  refine thn (ha pins s σ H _ I h) fun v s1 ⟨x, H1, I1, r1, q1⟩ => ?_
  refine thn (hb pins s1 σ H1 _ I1 q1) fun u s2 ⟨y, H2, I2, r2, q2⟩ => ?_
  exact hf v u s2 x y H2 I2 r1 r2 q2

/-! ### names and constants -/
def tVar (i : Nat) : TE := fun σ H Q => ∃ v, σ[i]? = some (some v) ∧ Q v H
def tC (v : V) : TE := fun _ H Q => Q v H
theorem pe_var {i : Nat} {x : Str} {pos : Pos} (hN : X.N[i]? = some x) (hv : Vis X.env.scope x) (hd : (x == ("__debug__" : Str)) = false := by decide) (hcd : (x == ("__classdict__" : Str)) = false := by decide) : PE X (.Name x pos) (tVar i) := by
  intro pins s σ H Q I h
  obtain ⟨v, e, h⟩ := h
  obtain ⟨m, hn, hl⟩ := I.loc
  obtain ⟨u, r, l⟩ := hl i x v hN e hv
  have fin : EP X pins σ Q u s := ⟨v, H, I, r, h⟩
  rcases l with ⟨hk, hm⟩ | ⟨hk, c, hc, hcell⟩
  · exact wpAny_Name (wpAny_loadName_local I.ok.kind hk hn hm fin) hd
  · rcases hk with hk | hk
    · exact wpAny_Name (wpAny_loadName_cell I.ok.kind hk hc hcell fin) hd
    · exact wpAny_Name (wpAny_loadName_free I.ok.kind hk hc hcell fin hcd) hd
theorem pe_int {i j pos} : PE X (.Constant (.int i) j pos) (tC (.int i)) := fun _ _ _ H _ I h => wpAny_Constant_int ⟨.int i, H, I.tok _, ⟨_, rfl⟩, h⟩
theorem pe_bl {b j pos} : PE X (.Constant (.bool b) j pos) (tC (.bl b)) := fun _ _ _ H _ I h => Constant_bool ⟨.bl b, H, I, rfl, h⟩
/-- a global name of the def -/
def Gl (X : Cx) (x : Str) : Prop := X.env.kindOf x = some .globalImplicit
theorem ld_glob {E : Value → Shared → Prop} {pins : List (Addr × Obj)} {s : Shared} {σ : St} {H : Hp} {x : Str} {u : Value} {pos : Pos} {Q : Value → Shared → Prop} (I : Inv X pins σ H s) (hg : Gl X x) (hm : X.mg x = some u) (h : Q u s)
    (hd : (x == ("__debug__" : Str)) = false := by decide) : wpAny (model X.prog X.w) X.A (eval (.Name x pos) X.env) Q E s :=
  Calls.Name_function_global I.ok.kind hg (Calls.loadGlobal_global (by rw [I.ok.glob]; exact I.mod.glob.keeps I.bk) hm h) hd
theorem ld_blt {E : Value → Shared → Prop} {pins : List (Addr × Obj)} {s : Shared} {σ : St} {H : Hp} {x : Str} {u : Value} {pos : Pos} {Q : Value → Shared → Prop} (I : Inv X pins σ H s) (hg : Gl X x) (hm : X.mg x = none) (hv : bootBuiltins x = some u) (h : Q u s)
    (hn : x ≠ "__name__" := by decide) (hd : (x == ("__debug__" : Str)) = false := by decide) : wpAny (model X.prog X.w) X.A (eval (.Name x pos) X.env) Q E s := by
  obtain ⟨mb, h1, h2⟩ := I.mod.blt
  exact Calls.Name_function_global I.ok.kind hg (Calls.loadGlobal_builtin (by rw [I.ok.glob]; exact I.mod.glob.keeps I.bk) hm (by rw [I.ok.blt]; exact h1.keeps I.bk) ((h2 x hn).trans hv) h) hd
theorem pe_bltn {x : Str} {v : V} {u : Value} {pos : Pos} (hg : Gl X x) (hm : X.mg x = none) (hv : bootBuiltins x = some u) (r : RelV v u) (hn : x ≠ "__name__" := by decide) (hd : (x == ("__debug__" : Str)) = false := by decide) : PE X (.Name x pos) (tC v) :=
  fun _ _ _ H _ I h => ld_blt I hg hm hv ⟨v, H, I, r, h⟩ hn hd

/-! ### arithmetic -/
variable {a b : Expr} {ta tb : TE} {pos : Pos}
/-! ### comparisons -/
def PC (X : Cx) (op : CmpOp) (a b : Expr) (t : TE) : Prop :=
  ∀ (pins : List (Addr × Obj)) (s : Shared) (σ : St) (H : Hp) (Q : VK), Inv X pins σ H s → t σ H Q →
    wpAny (model X.prog X.w) X.A (eval a X.env) (fun v s₁ => wpAny (model X.prog X.w) X.A (eval b X.env) (fun u s₂ => wpAny (model X.prog X.w) X.A (compareOp op v u) (EP X pins σ Q) X.xe s₂) X.xe s₁) X.xe s
theorem nobehind (b : Expr) {op : CmpOp} (h : op ≠ .In) (h2 : op ≠ .NotIn) : behindInMarks op b = false := by
  have e1 : (op == CmpOp.In) = false := by cases op <;> first | rfl | exact absurd rfl h
  have e2 : (op == CmpOp.NotIn) = false := by cases op <;> first | rfl | exact absurd rfl h2
  cases b <;> simp [behindInMarks, e1, e2]
/-- a comparison as a value, as a test -/
def tB (t : TE) : TT := fun σ H Q => t σ H fun x H1 => ∃ c, x = .bl c ∧ Q c H1
theorem pt_cmp {op : CmpOp} {t : TE} (h : PC X op a b t) (h1 : behindInMarks op b = false := by first | exact nobehind _ (by decide) (by decide) | rfl) : PT X (.Compare a [op] [b] pos) (tB t) := by
  intro pins s σ H Q I hw
  refine wpAny_isTrue_Compare1 (thn (h pins s σ H _ I hw) fun v s1 h1 => thn h1 fun u s2 h2 => thn h2 fun c s3 ⟨x, H1, I1, r1, q1⟩ => ?_) h1
  obtain ⟨d, rfl, q⟩ := q1
  cases r1
  exact wpAny_truthy_bool ⟨H1, I1, q⟩
/-- an expression whose value is a bool, as a test -/
theorem pt_val {e : Expr} {t : TE} (h : PE X e t) (he : ∀ whole, isTrue e X.env whole = (do let v ← whole; standAt e.pos; holding [v] (truthy v)) := by intro _; rfl) : PT X e (tB t) := by
  intro pins s σ H Q I hw
  refine isTrue_plain (thn (h pins s σ H _ I hw) fun v s1 ⟨x, H1, I1, r1, q1⟩ => ?_) (he _)
  obtain ⟨d, rfl, q⟩ := q1
  cases r1
  exact wpAny_truthy_bool ⟨H1, I1, q⟩

/-! ### and, or, not -/
variable {tA tB' : TT} {rest : List Expr}
def tAnd (t u : TT) : TT := fun σ H Q => t σ H fun c H1 => if c = true then u σ H1 Q else Q false H1
def tOr (t u : TT) : TT := fun σ H Q => t σ H fun c H1 => if c = true then Q true H1 else u σ H1 Q
def tNot (t : TT) : TT := fun σ H Q => t σ H fun c H1 => Q (!c) H1
theorem pw_and1 (ha : PT X a tA) : PW X (.BoolOp .And [a] pos) tA := by
  intro wh pins s σ H Q I h
  refine isTrue_and (thn (ha pins s σ H Q I h) fun c s1 e => ?_)
  cases c with
  | true => exact isTrue_and_nil e
  | false => exact e
theorem pw_or1 (ha : PT X a tA) : PW X (.BoolOp .Or [a] pos) tA := by
  intro wh pins s σ H Q I h
  refine isTrue_or (thn (ha pins s σ H Q I h) fun c s1 e => ?_)
  cases c with
  | false => exact isTrue_or_nil e
  | true => exact e
theorem pw_and (ha : PT X a tA) (hb : PW X (.BoolOp .And (b :: rest) pos) tB') : PW X (.BoolOp .And (a :: b :: rest) pos) (tAnd tA tB') := by
  intro wh pins s σ H Q I h
  refine isTrue_and (thn (ha pins s σ H _ I h) fun c s1 ⟨H1, I1, q1⟩ => ?_)
  cases c with
  | true => exact hb wh pins s1 σ H1 Q I1 q1
  | false => exact ⟨H1, I1, q1⟩
theorem pw_or (ha : PT X a tA) (hb : PW X (.BoolOp .Or (b :: rest) pos) tB') : PW X (.BoolOp .Or (a :: b :: rest) pos) (tOr tA tB') := by
  intro wh pins s σ H Q I h
  refine isTrue_or (thn (ha pins s σ H _ I h) fun c s1 ⟨H1, I1, q1⟩ => ?_)
  cases c with
  | true => exact ⟨H1, I1, q1⟩
  | false => exact hb wh pins s1 σ H1 Q I1 q1
theorem pt_not (ha : PT X a tA) : PT X (.UnaryOp .Not a pos) (tNot tA) := by
  intro pins s σ H Q I h
  exact isTrue_not (ha pins s σ H (fun c H1 => Q (!c) H1) I h)
/-- .. as values (bools) -/
def tAndV (ta tb : TE) : TE := fun σ H Q => ta σ H fun x H1 => ∃ c, x = .bl c ∧ if c = true then tb σ H1 Q else Q (.bl false) H1
def tNotV (ta : TE) : TE := fun σ H Q => ta σ H fun x H1 => ∃ c, x = .bl c ∧ Q (.bl (!c)) H1
theorem pe_one {op} {t : TE} (h : PE X a t) : PE X (.BoolOp op [a] pos) t := fun pins s σ H Q I hw => BoolOp_one (h pins s σ H Q I hw)
theorem pe_and (ha : PE X a ta) (hb : PE X (.BoolOp .And (b :: rest) pos) tb) : PE X (.BoolOp .And (a :: b :: rest) pos) (tAndV ta tb) := by
  intro pins s σ H Q I h
  refine BoolOp_and (thn (ha pins s σ H _ I h) fun v s1 ⟨x, H1, I1, r1, q1⟩ => ?_)
  obtain ⟨c, rfl, q1⟩ := q1
  cases r1
  refine wpAny_truthy_bool ?_
  cases c with
  | true => exact hb pins s1 σ H1 Q I1 q1
  | false => exact ⟨.bl false, H1, I1, rfl, q1⟩
theorem pe_not (ha : PE X a ta) : PE X (.UnaryOp .Not a pos) (tNotV ta) := by
  intro pins s σ H Q I h
  refine UnaryOp_ (thn (ha pins s σ H _ I h) fun v s1 ⟨x, H1, I1, r1, q1⟩ => ?_)
  obtain ⟨c, rfl, q1⟩ := q1
  cases r1
  exact not_of (wpAny_truthy_bool ⟨.bl (!c), H1, I1, rfl, q1⟩)
end
end L2

namespace L2
open PySem PySem.Spec PyProof.Rows

/-! ### a list, a tuple that is read: tracked, frozen, or an object of the module -/
def SqL (K : PySem.W.Frag) (H : Hp) (a : Addr) (xs : List V) : Prop :=
  Rd H a (.lst xs) ∨
    ∃ (o : Obj) (its : Array Value) (n : Nat), K.lookup a = some o ∧ o.cls = .type "list" ∧ o.dict = none ∧ o.data = .seq its n ∧ its.size ≤ sizeLine ∧ Vals xs its.toList
def SqT (K : PySem.W.Frag) (H : Hp) (a : Addr) (xs : List V) : Prop :=
  Rd H a (.tup xs) ∨
    ∃ (o : Obj) (its : Array Value) (n : Nat), K.lookup a = some o ∧ o.cls = .type "tuple" ∧ o.data = .seq its n ∧ its.size ≤ sizeLine ∧ Vals xs its.toList
def absV : Value → Option V
  | .none => some .non
  | .bool b => some (.bl b)
  | .int i _ => some (.int i)
  | .str x _ => some (.str x)
  | .bytes b _ => some (.byt b)
  | .float b _ => some (.flt b)
  | .ref a => some (.ref a)
  | .type n => some (.ty n)
  | _ => none
theorem RelV.abs {x : V} {u : Value} (r : RelV x u) : absV u = some x := by
  cases x with
  | non => cases r; rfl
  | bl _ => cases r; rfl
  | int _ => obtain ⟨t, rfl⟩ := r; rfl
  | str _ => obtain ⟨t, rfl⟩ := r; rfl
  | byt _ => obtain ⟨t, rfl⟩ := r; rfl
  | flt _ => obtain ⟨t, rfl⟩ := r; rfl
  | ref _ => cases r; rfl
  | ty _ => cases r; rfl
theorem RelV.inj {x y : V} {u : Value} (r : RelV x u) (q : RelV y u) : x = y := Option.some.inj (r.abs.symm.trans q.abs)
theorem Vals.inj : ∀ {xs ys : List V} {us : List Value}, Vals xs us → Vals ys us → xs = ys
  | _, _, _, .nil, .nil => rfl
  | _, _, _, .cons r t, .cons r' t' => by rw [r.inj r', Vals.inj t t']
section
variable {X : Cx} {pins : List (Addr × Obj)} {σ : St} {H : Hp} {s : Shared} {a : Addr} {xs ys : List V}
theorem SqL.of {K : PySem.W.Frag} (h : H a = some (.lst xs)) : SqL K H a xs := .inl (.inl h)
theorem SqT.of {K : PySem.W.Frag} (h : H a = some (.tup xs)) : SqT K H a xs := .inl (.inl h)
theorem Inv.list (I : Inv X pins σ H s) (h : SqL X.K H a xs) : ∃ its : List Value, Vals xs its ∧ PlainL s.heap a its.toArray ∧ xs.length ≤ sizeLine := by
  rcases h with h | ⟨o, its, n, hk, hc, hd, hs, hz, r⟩
  · obtain ⟨z, its, n, r, e⟩ := h.ok I.hok
    exact ⟨its, r, ⟨_, n, e, rfl, rfl, rfl⟩, z⟩
  · refine ⟨its.toList, r, ⟨o, n, I.kIn a o hk, hc, hd, by simpa using hs⟩, ?_⟩
    have e := r.length
    simp only [Array.length_toList] at e
    omega
theorem Inv.tuple (I : Inv X pins σ H s) (h : SqT X.K H a xs) : ∃ its : List Value, Vals xs its ∧ IsTup s.heap a its.toArray ∧ xs.length ≤ sizeLine := by
  rcases h with h | ⟨o, its, n, hk, hc, hs, hz, r⟩
  · obtain ⟨z, its, r, p⟩ := h.ok I.hok
    exact ⟨its, r, p, z⟩
  · refine ⟨its.toList, r, ⟨o, I.kIn a o hk, hc, n, by simpa using hs⟩, ?_⟩
    have e := r.length
    simp only [Array.length_toList] at e
    omega
theorem Inv.list_inj (I : Inv X pins σ H s) (h : SqL X.K H a xs) (h' : SqL X.K H a ys) : xs = ys := by
  obtain ⟨its, r, ⟨o, n, e, _, _, d⟩, _⟩ := I.list h
  obtain ⟨its', r', ⟨o', n', e', _, _, d'⟩, _⟩ := I.list h'
  rw [e] at e'; cases e'
  rw [d] at d'
  injection d' with d1 _
  have : its = its' := by simpa using congrArg Array.toList d1
  subst this
  exact r.inj r'
end

/-! ### another wish about exceptions -/
abbrev Cx.wish (X : Cx) (E : Value → Shared → Prop) : Cx := { X with xe := E }
/-- no exception leaves -/
abbrev Cx.nox (X : Cx) : Cx := X.wish fun _ _ => False
theorem Cx.Ok.wish {X : Cx} (ok : X.Ok) (E : Value → Shared → Prop) : (X.wish E).Ok :=
  ⟨ok.mod, ok.kind, ok.glob, ok.blt, ok.above, ok.inj, ok.has, ok.cab, ok.hd, ok.frames, ok.stk, ok.exf, ok.bs, ok.bsz, ok.noex, ok.exfs, ok.funs, ok.frf⟩
theorem Cx.Ok.unwish {X : Cx} {E : Value → Shared → Prop} (ok : (X.wish E).Ok) : X.Ok :=
  ⟨ok.mod, ok.kind, ok.glob, ok.blt, ok.above, ok.inj, ok.has, ok.cab, ok.hd, ok.frames, ok.stk, ok.exf, ok.bs, ok.bsz, ok.noex, ok.exfs, ok.funs, ok.frf⟩
section
variable {X : Cx} {pins : List (Addr × Obj)} {σ : St} {H : Hp} {s : Shared} {E : Value → Shared → Prop}
theorem Inv.wish (I : Inv X pins σ H s) (E : Value → Shared → Prop) : Inv (X.wish E) pins σ H s := ⟨I.ok.wish E, I.os, I.bare, I.base, I.loc, I.cell, I.free, I.freeC, I.pin, I.hok, I.len⟩
theorem Inv.unwish (I : Inv (X.wish E) pins σ H s) : Inv X pins σ H s := ⟨I.ok.unwish, I.os, I.bare, I.base, I.loc, I.cell, I.free, I.freeC, I.pin, I.hok, I.len⟩
theorem SP.unwish {D : Ends} {f : Flow} {s' : Shared} (h : SP (X.wish E) pins D f s') : SP X pins D f s' := by
  cases f with
  | next => obtain ⟨σ', H', I, q⟩ := h; exact ⟨σ', H', I.unwish, q⟩
  | brk => obtain ⟨σ', H', I, q⟩ := h; exact ⟨σ', H', I.unwish, q⟩
  | cont => obtain ⟨σ', H', I, q⟩ := h; exact ⟨σ', H', I.unwish, q⟩
  | ret u => obtain ⟨v, σ', H', I, r, q⟩ := h; exact ⟨v, σ', H', I.unwish, r, q⟩
theorem PSs.nox {st : List Stmt} {t : TS} (h : PSs X.nox st t) : PSs X st t := fun pins s σ H D I hw =>
  wpAny_mono (h pins s σ H D (I.wish _) hw) (fun _ _ q => q.unwish) fun _ _ z => False.elim z
end

/-! ### blocks and small statements -/
section
variable {X : Cx} {st : Stmt} {rest : List Stmt} {t u : TS} {e : Expr} {te : TE} {pos : Pos}
def tNext : TS := fun D σ H => D.nx σ H
def tSeq (t u : TS) : TS := fun D σ H => t { D with nx := u D } σ H
theorem pss_nil : PSs X [] tNext := fun _ _ σ H _ I h => wpAny_execs_nil ⟨σ, H, I, h⟩
theorem pss_cons (h1 : PS X st t) (h2 : PSs X rest u) : PSs X (st :: rest) (tSeq t u) := by
  intro pins s σ H D I h
  refine wpAny_execs_cons (thn (h1 pins s σ H { D with nx := u D } I h) fun f s1 q => ?_)
  cases f with
  | next =>
    obtain ⟨σ', H', I', q⟩ := q
    exact h2 pins s1 σ' H' D I' q
  | ret v => exact q
  | brk => exact q
  | cont => exact q
theorem pss_one (h1 : PS X st t) : PSs X [st] t := by
  intro pins s σ H D I h
  refine wpAny_execs_cons (thn (h1 pins s σ H D I h) fun f s1 q => ?_)
  cases f with
  | next => exact wpAny_execs_nil q
  | ret v => exact q
  | brk => exact q
  | cont => exact q
/-- in a def's body nothing is shown -/
theorem Inv.quiet {pins : List (Addr × Obj)} {σ : St} {H : Hp} {s : Shared} (I : Inv X pins σ H s) : interactive X.env = false := by simp [interactive, I.ok.kind]
/-- an expression whose value is dropped -/
def tDrop (te : TE) : TS := fun D σ H => te σ H fun _ H1 => D.nx σ H1
theorem ps_expr (he : PE X e te) (hs : swapsWith e none pos.line X.env = pure false := by rfl) : PS X (.Expr e pos) (tDrop te) := by
  intro pins s σ H D I h
  exact wpAny_Expr_any (thn (he pins s σ H _ I h) fun v s1 ⟨x, H1, I1, r1, q1⟩ => ⟨σ, H1, I1, q1⟩) I.quiet hs
def tRet (te : TE) : TS := fun D σ H => te σ H D.rt
theorem ps_ret (he : PE X e te) : PS X (.Return (some e) pos) (tRet te) := by
  intro pins s σ H D I h
  exact wpAny_Return_some (thn (he pins s σ H _ I h) fun v s1 ⟨x, H1, I1, r1, q1⟩ => ⟨x, σ, H1, I1, r1, q1⟩)
def tIfS (c : TT) (t u : TS) : TS := fun D σ H => c σ H fun b H1 => if b = true then t D σ H1 else u D σ H1
theorem ps_if {c : Expr} {a b : List Stmt} {tc : TT} (hc : PT X c tc) (ha : PSs X a t) (hb : PSs X b u) : PS X (.If c a b pos) (tIfS tc t u) := by
  intro pins s σ H D I h
  refine wpAny_If (thn (hc pins s σ H _ I h) fun d s1 ⟨H1, I1, q1⟩ => ?_)
  cases d with
  | true => exact ha pins s1 σ H1 D I1 q1
  | false => exact hb pins s1 σ H1 D I1 q1
end

/-! ### targets -/
abbrev TG := V → St → Hp → (St → Hp → Prop) → Prop
abbrev TGs := List V → St → Hp → (St → Hp → Prop) → Prop
def PG (X : Cx) (target : Expr) (t : TG) : Prop :=
  ∀ (pins : List (Addr × Obj)) (s : Shared) (σ : St) (H : Hp) (v : V) (u : Value) (Q : St → Hp → Prop), Inv X pins σ H s → RelV v u → t v σ H Q →
    wpAny (model X.prog X.w) X.A (assign target X.env u) (fun _ s' => ∃ σ' H', Inv X pins σ' H' s' ∧ Q σ' H') X.xe s
/-- several targets, one after another -/
def PGs (X : Cx) (ts : List Expr) (t : TGs) : Prop :=
  ∀ (pins : List (Addr × Obj)) (s : Shared) (σ : St) (H : Hp) (vs : List V) (us : List Value) (Q : St → Hp → Prop), Inv X pins σ H s → Vals vs us → t vs σ H Q →
    wpAny (model X.prog X.w) X.A (assignInOrder ((assignEach ts X.env).map (·.2)) us) (fun _ s' => ∃ σ' H', Inv X pins σ' H' s' ∧ Q σ' H') X.xe s
/-- o[i] = v, by values -/
abbrev TSet := V → V → V → Hp → (Hp → Prop) → Prop
def PSet (X : Cx) (t : TSet) : Prop :=
  ∀ (pins : List (Addr × Obj)) (s : Shared) (σ : St) (H : Hp) (o i v : V) (ov iv u : Value) (Q : Hp → Prop), Inv X pins σ H s → RelV o ov → RelV i iv → RelV v u → t o i v H Q →
    wpAny (model X.prog X.w) X.A (setItem ov iv u) (fun _ s' => ∃ H', Inv X pins σ H' s' ∧ Q H') X.xe s
section
variable {X : Cx} {pos : Pos}
def gName (i : Nat) : TG := fun v σ H Q => Q (σ.set i (some v)) H
theorem pg_name {i : Nat} {x : Str} (hN : X.N.Nodup) (hi : X.N[i]? = some x) (hx : Loc X.env.scope x) (hf : X.fn x = true ∨ X.env.scope.names.lookup x = some .local := by first | exact .inl rfl | exact .inr rfl | assumption) : PG X (.Name x pos) (gName i) := by
  intro pins s σ H v u Q I r h
  exact wpAny_assign_Name (store_ok I hN hi hx r (fun s' I' => ⟨_, H, I', h⟩) hf)
def gNil : TGs := fun vs σ H Q => vs = [] ∧ Q σ H
def gCons (t : TG) (u : TGs) : TGs := fun vs σ H Q => ∃ v r, vs = v :: r ∧ t v σ H fun σ' H' => u r σ' H' Q
theorem pgs_nil : PGs X [] gNil := by
  intro pins s σ H vs us Q I r h
  obtain ⟨e, h⟩ := h
  subst e
  cases r
  exact assignInOrder_nil ⟨σ, H, I, h⟩
theorem pgs_cons {e : Expr} {es : List Expr} {t : TG} {u : TGs} (h1 : PG X e t) (h2 : PGs X es u)
    (hs : (assignEach (e :: es) X.env).map (·.2) = assign e X.env :: (assignEach es X.env).map (·.2) := by rfl) : PGs X (e :: es) (gCons t u) := by
  intro pins s σ H vs us Q I r h
  obtain ⟨v, vr, e1, h⟩ := h
  subst e1
  cases r with
  | cons r rr =>
    rw [hs]
    refine assignInOrder_cons (thn (h1 pins s σ H _ _ _ I r h) fun _ s1 ⟨σ1, H1, I1, q1⟩ => ?_)
    exact h2 pins s1 σ1 H1 _ _ Q I1 rr q1
/-- (a, b, ..) = a tuple of that length -/
def gTup (K : PySem.W.Frag) (n : Nat) (t : TGs) : TG := fun v σ H Q => ∃ a xs, v = .ref a ∧ SqT K H a xs ∧ xs.length = n ∧ t xs σ H Q
theorem pg_tup {es : List Expr} {k : Nat} {t : TGs} {n : Nat} (hc : X.calm = true) (h : PGs X es t)
    (hn : (assignEach es X.env).length = n := by rfl) (hst : (assignEach es X.env).findIdx? (·.1) = none := by rfl) : PG X (.Tuple es k pos) (gTup X.K n t) := by
  intro pins s σ H v u Q I r hw
  obtain ⟨a, xs, e1, hq, hl, hw⟩ := hw
  subst e1
  cases r
  obtain ⟨its, rv, ht, hz⟩ := I.tuple hq
  refine assign_Tuple_tuple (I.ok.hd hc) ht (by simp [hn, ← hl, rv.length]) hst fun h' hx => ?_
  have I1 : Inv X pins σ H { s with heap := h' } := I.kept (t' := s.toks) fun b o e => hx b o (Nat.ne_of_lt (Heap.lt_size e)) e
  exact h pins _ σ H xs _ Q I1 (by simpa using rv) hw
/-- o[i] = .. -/
def gSub (to ti : TE) (t : TSet) : TG := fun v σ H Q => to σ H fun o H1 => ti σ H1 fun i H2 => t o i v H2 fun H3 => Q σ H3
theorem pg_sub {o i : Expr} {to ti : TE} {t : TSet} (ho : PE X o to) (hi : PE X i ti) (hs : PSet X t)
    (ha : ∀ v, assign (.Subscript o i pos) X.env v = (do
      let ov ← holding [v] (eval o X.env)
      let iv ← holding [v, ov] (eval i X.env)
      standAt pos
      holding [v, ov, iv] (setItem ov iv v)
      release [v, ov, iv] []) := by intro _; rfl) : PG X (.Subscript o i pos) (gSub to ti t) := by
  intro pins s σ H v u Q I r h
  rw [ha]
  refine wpAny_bind (wpAny_holding (thn (ho pins s σ H _ I h) fun ov s1 ⟨x, H1, I1, r1, q1⟩ => ?_))
  refine wpAny_bind (wpAny_holding (thn (hi pins s1 σ H1 _ I1 q1) fun iv s2 ⟨y, H2, I2, r2, q2⟩ => ?_))
  refine wpAny_bind (wpAny_standAt (wpAny_bind (wpAny_holding (thn (hs pins s2 σ H2 x y v ov iv u _ I2 r1 r2 r q2) fun _ s3 ⟨H3, I3, q3⟩ => ?_))))
  exact wpAny_release ⟨σ, H3, I3, q3⟩
/-- target = value -/
def tAsg (te : TE) (g : TG) : TS := fun D σ H => te σ H fun x H1 => g x σ H1 D.nx
theorem ps_asg {tg e : Expr} {te : TE} {g : TG} (he : PE X e te) (hg : PG X tg g) (hs : swapsWithSole [tg] e pos.line X.env = pure false := by rfl) (hw : swappedStores [tg] e X.env = pure none := by rfl)
    (h1 : (assignEach [tg] X.env).map (·.2) = [assign tg X.env] := by rfl) : PS X (.Assign [tg] e pos) (tAsg te g) := by
  intro pins s σ H D I h
  refine wpAny_Assign_stores (thn (he pins s σ H _ I h) fun v s1 ⟨x, H1, I1, r1, q1⟩ => ?_) hs hw
  rw [h1]
  exact thn (hg pins s1 σ H1 x v _ I1 r1 q1) fun _ s2 q => q
/-- name = value -/
theorem ps_set {i : Nat} {x : Str} {e : Expr} {te : TE} {pos' : Pos} (hN : X.N.Nodup) (hi : X.N[i]? = some x) (hx : Loc X.env.scope x) (he : PE X e te) (hs : swapsWith e (some (.Name x pos')) pos.line X.env = pure false := by rfl) (hf : X.fn x = true ∨ X.env.scope.names.lookup x = some .local := by first | exact .inl rfl | exact .inr rfl | assumption) :
    PS X (.Assign [.Name x pos'] e pos) (tAsg te (gName i)) := by
  intro pins s σ H D I h
  refine wpAny_Assign_Name (thn (he pins s σ H _ I h) fun v s1 ⟨y, H1, I1, r1, q1⟩ => ?_) hs
  exact store_ok I1 hN hi hx r1 (fun s2 I2 => ⟨_, H1, I2, q1⟩) hf
end

/-! ### while -/
section
variable {X : Cx} {pos : Pos}
/-- the invariant W with its measure -/
def tWhile (c : TT) (tb : TS) : TS := fun D σ H => ∃ W : Nat → St → Hp → Prop, (∃ m, W m σ H) ∧ ∀ m σ H, W m σ H →
  c σ H fun b H1 => if b = true then ∃ N : St → Hp → Prop, (∀ σ' H', N σ' H' → ∃ m', m' < m ∧ W m' σ' H') ∧ tb { D with nx := N, ct := N, bk := D.nx } σ H1 else D.nx σ H1
theorem ps_while {c : Expr} {body : List Stmt} {tc : TT} {tb : TS} (hp : PassesOwn (model X.prog X.w) X.A X.env X.xe) (hc : PT X c tc) (hb : PSs X body tb) : PS X (.While c body [] pos) (tWhile tc tb) := by
  intro pins s σ H D I h
  obtain ⟨W, ⟨m0, w0⟩, turn⟩ := h
  refine wpAny_While (codeAny_whileLoop (fun n s' => ∃ σ' H', Inv X pins σ' H' s' ∧ W n σ' H') ?_ m0 ⟨σ, H, I, w0⟩)
  rintro n s1 ⟨σ1, H1, I1, w1⟩
  refine wpAny_passesOwn hp (thn (hc pins s1 σ1 H1 _ I1 (turn n σ1 H1 w1)) fun b s2 ⟨H2, I2, q2⟩ => ?_)
  cases b with
  | true =>
    obtain ⟨N, hN, q2⟩ := q2
    rw [if_pos rfl]
    refine wpAny_passesOwn hp (thn (hb pins s2 σ1 H2 _ I2 q2) fun f s3 q3 => ?_)
    cases f with
    | next =>
      obtain ⟨σ3, H3, I3, n3⟩ := q3
      obtain ⟨m', hm, w3⟩ := hN σ3 H3 n3
      exact ⟨m', hm, σ3, H3, I3, w3⟩
    | cont =>
      obtain ⟨σ3, H3, I3, n3⟩ := q3
      obtain ⟨m', hm, w3⟩ := hN σ3 H3 n3
      exact ⟨m', hm, σ3, H3, I3, w3⟩
    | brk => exact q3
    | ret v => exact q3
  | false =>
    rw [if_neg Bool.false_ne_true]
    exact wpAny_execs_nil ⟨σ1, H2, I2, q2⟩
end

/-! ### what a loop or a comprehension walks -/
/-- at turn i: it yields x (the heap may grow), or it stops -/
structure It where
  go : Nat → Hp → Prop
  yld : Nat → Hp → V → Hp → Prop
  stop : Nat → Hp → Prop
/-- the iterator's own objects may turn: they are not the frame's, not pinned, younger than the entry (or a comprehension's own) -/
def FpOk (X : Cx) (pins : List (Addr × Obj)) (H : Hp) (b : Addr) : Prop :=
  H b = none ∧ b ≠ X.env.locals ∧ b ∉ X.fs ∧ (b ∈ X.ex ∨ X.s₀.heap.objs.size ≤ b) ∧ (∀ x c, X.env.cells.lookup x = some c → c ≠ b) ∧ ∀ p ∈ X.pn ++ pins, p.1 ≠ b
theorem Inv.fpOk {X : Cx} {pins : List (Addr × Obj)} {σ : St} {H H' : Hp} {s : Shared} {b : Addr} (I : Inv X pins σ H s) (hb : s.heap.objs.size ≤ b) (hn : H' b = none) : FpOk X pins H' b := by
  refine ⟨hn, Nat.ne_of_gt (Nat.lt_of_lt_of_le I.lt hb), I.nofs hb, .inr (Nat.le_trans I.sz hb), fun x c e z => ?_, fun p hp z => ?_⟩
  · obtain ⟨v, q⟩ := I.cell x c e
    exact absurd (Nat.lt_of_lt_of_le q.lt (by rw [z]; exact hb)) (Nat.lt_irrefl _)
  · exact absurd (Nat.lt_of_lt_of_le (Heap.lt_size (I.pin p hp).1) (by rw [z]; exact hb)) (Nat.lt_irrefl _)
structure Turn (P : Program) (w : World) (K : PySem.W.Frag) (tg : Expr) (J : It) (fp : List Addr) (it : Addr) (tn : Nat → Heap → Prop) : Prop where
  mem : it ∈ fp
  obj : ∀ i h, tn i h → ∀ b ∈ fp, ∃ o, h.get? b = some o ∧ ∀ v, o.data ≠ .cell v
  keep : ∀ i h h', tn i h → (∀ b ∈ fp, ∀ o, h.get? b = some o → h'.get? b = some o) → tn i h'
  item : ∀ (X : Cx), X.prog = P → X.w = w → X.K = K → X.calm = true → ∀ (i : Nat) (pins : List (Addr × Obj)) (s : Shared) (σ : St) (H : Hp) (E : Value → Shared → Prop), Inv X pins σ H s → (∀ b ∈ fp, FpOk X pins H b) → tn i s.heap → J.go i H →
    wpAny (model P w) X.A (pyNext (.ref it)) (fun r s1 => ∃ u, r = some u ∧
      wpAny (model P w) X.A (letOwnedTupleGo tg (.ref it) u) (fun _ s2 => ∃ x H', Inv X pins σ H' s2 ∧ RelV x u ∧ J.yld i H x H' ∧ tn (i + 1) s2.heap ∧ ∀ b ∈ fp, H' b = none) E s1) E s
  done : ∀ (X : Cx), X.prog = P → X.w = w → X.K = K → X.calm = true → ∀ (i : Nat) (pins : List (Addr × Obj)) (s : Shared) (σ : St) (H : Hp) (E : Value → Shared → Prop), Inv X pins σ H s → (∀ b ∈ fp, FpOk X pins H b) → tn i s.heap → J.stop i H →
    wpAny (model P w) X.A (pyNext (.ref it)) (fun r s1 => r = none ∧ Inv X pins σ H s1) E s
  self : ∀ (A : Around) (i : Nat) (s : Shared) (Q : Value → Shared → Prop) (E : Value → Shared → Prop), tn i s.heap → Q (.ref it) s → wpAny (model P w) A (pyIter (.ref it)) Q E s
abbrev TI := St → Hp → (It → Hp → Prop) → Prop
/-- an iterator has come -/
def PIE (X : Cx) (pins : List (Addr × Obj)) (σ : St) (tg : Expr) (R : It → Hp → Prop) (itv : Value) (s2 : Shared) : Prop :=
  ∃ (it : Addr) (fp : List Addr) (tn : Nat → Heap → Prop) (J : It) (H' : Hp), itv = .ref it ∧ Inv X pins σ H' s2 ∧ Turn X.prog X.w X.K tg J fp it tn ∧ tn 0 s2.heap ∧ (∀ b ∈ fp, FpOk X pins H' b) ∧ R J H'
def PI (X : Cx) (tg iter : Expr) (wi : TI) : Prop :=
  ∀ (pins : List (Addr × Obj)) (s : Shared) (σ : St) (H : Hp) (R : It → Hp → Prop), Inv X pins σ H s → wi σ H R →
    wpAny (model X.prog X.w) X.A (eval iter X.env) (fun v s1 => wpAny (model X.prog X.w) X.A (pyIter v) (PIE X pins σ tg R) X.xe s1) X.xe s

/-- the step ahead of the store is nothing for an iterator that keeps no tuple -/
theorem go_of {M : Model} {A : Around} {E : Value → Shared → Prop} {s : Shared} {tg : Expr} {it : Addr} {u : Value} {o : Obj} {n : String} {vs : Array Value} {Q : Unit → Shared → Prop} (ho : s.heap.get? it = some o) (hc : o.cls = .type n) (hd : o.data = .fields vs)
    (hn : ["enumerate", "zip", "dict_itemiterator", "dict_reverseitemiterator", "odict_iterator", "itertools.zip_longest", "itertools.pairwise"].contains n = false) (hQ : Q () s) : wpAny M A (letOwnedTupleGo tg (.ref it) u) Q E s := by
  unfold letOwnedTupleGo
  cases tg <;> first
    | exact wpAny_pure hQ
    | (cases u <;> first
        | exact wpAny_pure hQ
        | (refine wpAny_bind (wpAny_load ho ?_)
           rw [hc, hd]
           show wpAny M A (if (["enumerate", "zip", "dict_itemiterator", "dict_reverseitemiterator", "odict_iterator", "itertools.zip_longest", "itertools.pairwise"].contains n && vs[0]? == some (rawInt _)) = true then _ else _) Q E s
           rw [if_neg (by intro h; rw [hn, Bool.false_and] at h; cases h)]
           exact wpAny_pure hQ))

/-- the list at a, as it stands at each turn (a loop may append to it) -/
def Itl (K : PySem.W.Frag) (a : Addr) : It :=
  ⟨fun i H => ∃ xs x, SqL K H a xs ∧ xs[i]? = some x, fun i H x H' => H' = H ∧ ∀ xs, SqL K H a xs → xs[i]? = some x, fun i H => ∃ xs, SqL K H a xs ∧ xs.length ≤ i⟩
/-- lo, lo + 1, .. (n of them) -/
def Itr (lo : Int) (n : Nat) : It := ⟨fun i _ => i < n, fun i H x H' => H' = H ∧ x = .int (lo + i), fun i _ => n ≤ i⟩
theorem turn_list {P : Program} {w : World} {K : PySem.W.Frag} {tg : Expr} (a it : Addr) : Turn P w K tg (Itl K a) [it] it (fun i h => h.IsListIter it a i) where
  mem := by simp
  obj := fun i h st b hb => by
    have e : b = it := by simpa using hb
    subst e
    obtain ⟨o, e, c, d⟩ := st
    exact ⟨o, e, fun v z => by rw [d] at z; cases z⟩
  keep := fun i h h' st k => st.at fun o e => k it (by simp) o e
  item := by
    intro X hP hw hK hc i pins s σ H E I hf st hg
    subst hP hw hK
    obtain ⟨xs, x, hq, hx⟩ := hg
    obtain ⟨its, rv, p, hz⟩ := I.list hq
    obtain ⟨u, hu, ru⟩ := rv.get hx
    obtain ⟨f0, f1, f2, f3, f4, f5⟩ := hf it (by simp)
    refine wpAny_pyNext_list_item st p.isList (x := u) (by simpa using hu) fun h' st' sb => ?_
    have I1 : Inv X pins σ H { s with heap := h' } := I.turned (t' := s.toks) (fun b o hb e => (sb.2 b hb).trans e) f0 f1 f3 f4 f5
    obtain ⟨o, e, c, d⟩ := id st'
    exact ⟨u, rfl, go_of (s := { s with heap := h' }) e c d (by decide) ⟨x, H, I1, ru, ⟨rfl, fun ys hy => by rw [I.list_inj hy hq]; exact hx⟩, st', fun b hb => (hf b hb).1⟩⟩
  done := by
    intro X hP hw hK hc i pins s σ H E I hf st hg
    subst hP hw hK
    obtain ⟨xs, hq, hx⟩ := hg
    obtain ⟨its, rv, p, hz⟩ := I.list hq
    obtain ⟨f0, f1, f2, f3, f4, f5⟩ := hf it (by simp)
    have hl := rv.length
    exact wpAny_pyNext_list_end (I.ok.hd hc) st p.isList (by simp; omega) fun h' eb => ⟨rfl, I.turned (t' := s.toks) (fun b o hb e => eb b o hb e) f0 f1 f3 f4 f5⟩
  self := fun _ _ _ _ _ st h => wpAny_pyIter_listiter st h
theorem turn_range {P : Program} {w : World} {K : PySem.W.Frag} {tg : Expr} (it : Addr) (lo : Int) (n : Nat) : Turn P w K tg (Itr lo n) [it] it (fun i h => IsRangeIter h it (lo + (i : Nat) * 1) ((n : Int) - (i : Nat)) 1) where
  mem := by simp
  obj := fun i h st b hb => by
    have e : b = it := by simpa using hb
    subst e
    exact ⟨_, st, fun v z => by
      have z' : Data.fields _ = Data.cell v := z
      cases z'⟩
  keep := fun i h h' st k => k it (by simp) _ st
  item := by
    intro X hP hw hK hc i pins s σ H E I hf st hg
    subst hP hw hK
    obtain ⟨f0, f1, f2, f3, f4, f5⟩ := hf it (by simp)
    have W := Walks.range (prog := X.prog) (w := X.w) (I.ok.hd hc) it lo 1 n
    refine W.item i s _ _ hg st fun v h' tk hv st' kk => ?_
    obtain ⟨t, rfl⟩ := hv
    have I1 : Inv X pins σ H { s with heap := h', toks := tk } := I.turned (fun b o hb e => kk b o (by simpa using hb) e) f0 f1 f3 f4 f5
    refine ⟨_, rfl, go_of (s := { s with heap := h', toks := tk }) (n := "range_iterator") st' rfl rfl (by decide) ⟨.int (lo + i), H, I1, ⟨t, ?_⟩, ⟨rfl, rfl⟩, st', fun b hb => (hf b hb).1⟩⟩
    rw [Int.mul_one]
  done := by
    intro X hP hw hK hc i pins s σ H E I hf st hg
    subst hP hw hK
    obtain ⟨f0, f1, f2, f3, f4, f5⟩ := hf it (by simp)
    exact wpAny_pyNext_range_end (I.ok.hd hc) st (by have : n ≤ i := hg; omega) fun h' eb => ⟨rfl, I.turned (t' := s.toks) (fun b o hb e => eb b o hb e) f0 f1 f3 f4 f5⟩
  self := fun _ _ _ _ _ st h => wpAny_pyIter_rangeiter st h
end L2

namespace L2
open PySem PySem.Spec PyProof.Rows
section
variable {X : Cx} {tg : Expr}
def iList (K : PySem.W.Frag) (tl : TE) : TI := fun σ H R => tl σ H fun x H1 => ∃ a, x = .ref a ∧ (∃ xs, SqL K H1 a xs) ∧ R (Itl K a) H1
theorem pi_list {l : Expr} {tl : TE} (hl : PE X l tl) : PI X tg l (iList X.K tl) := by
  intro pins s σ H R I h
  refine thn (hl pins s σ H _ I h) fun v s1 ⟨x, H1, I1, r1, q1⟩ => ?_
  obtain ⟨a, e, ⟨xs, hq⟩, q⟩ := q1
  subst e
  cases r1
  obtain ⟨its, rv, p, hz⟩ := I1.list hq
  refine wpAny_pyIter_list p.isList ?_
  refine ⟨s1.heap.objs.size, [s1.heap.objs.size], _, _, H1, rfl, I1.kept (t' := s1.toks) fun b o e => Heap.get?_push_of_some _ e, turn_list a _, ⟨_, Heap.get?_push_size _ rfl, rfl, rfl⟩, fun b hb => ?_, q⟩
  have e : b = s1.heap.objs.size := by simpa using hb
  subst e
  exact I1.fpOk (Nat.le_refl _) (I1.hok.fresh (Nat.le_refl _))
/-- a range object just made, walked -/
theorem range_it {pins : List (Addr × Obj)} {σ : St} {H : Hp} {s : Shared} {R : It → Hp → Prop} {E : Value → Shared → Prop} {lo hi : Int} {t u v : Tok} {tk : Nat} (I : Inv X pins σ H s) (h1 : -(2 ^ 62) ≤ lo) (h2 : lo < 2 ^ 62) (h3 : -(2 ^ 62) ≤ hi) (h4 : hi < 2 ^ 62)
    (q : R (Itr lo (hi - lo).toNat) H) : wpAny (model X.prog X.w) X.A (pyIter (.ref s.heap.objs.size)) (PIE X pins σ tg R) E { s with heap := s.heap.push { cls := .type "range", data := .fields #[.int lo t, .int hi u, .int 1 v] }, toks := tk } := by
  refine wpAny_pyIter_range (IsRange.new ..) (small_one h1 h2 h3 h4) ?_
  have I1 : Inv X pins σ H { s with heap := s.heap.push { cls := .type "range", data := .fields #[.int lo t, .int hi u, .int 1 v] }, toks := tk } := I.kept fun b o e => Heap.get?_push_of_some _ e
  refine ⟨(s.heap.push { cls := .type "range", data := .fields #[.int lo t, .int hi u, .int 1 v] }).objs.size, [(s.heap.push { cls := .type "range", data := .fields #[.int lo t, .int hi u, .int 1 v] }).objs.size], _, _, H, rfl,
    I1.kept (t' := tk) fun b o e => Heap.get?_push_of_some _ e, turn_range _ lo (hi - lo).toNat, ?_, fun b hb => ?_, q⟩
  · have e1 : lo + ((0 : Nat) : Int) * 1 = lo := by simp
    have e2 : (((hi - lo).toNat : Nat) : Int) - ((0 : Nat) : Int) = Builtin.Range.rangeSize lo hi 1 := by rw [rangeSize_one]; split <;> omega
    show IsRangeIter _ _ (lo + ((0 : Nat) : Int) * 1) ((((hi - lo).toNat : Nat) : Int) - ((0 : Nat) : Int)) 1
    rw [e1, e2]
    exact Heap.get?_push_size _ rfl
  · have e : b = (s.heap.push { cls := .type "range", data := .fields #[.int lo t, .int hi u, .int 1 v] }).objs.size := by simpa using hb
    subst e
    exact I1.fpOk (Nat.le_refl _) (I1.hok.fresh (Nat.le_refl _))
def iRng1 (ta : TA) : TI := fun σ H R => ta σ H fun vs H1 => ∃ j : Int, vs = [.int j] ∧ -(2 ^ 62) ≤ j ∧ j < 2 ^ 62 ∧ R (Itr 0 j.toNat) H1
theorem pi_range1 {a : Expr} {ta : TA} {p pos : Pos} (hg : Gl X "range") (hm : X.mg "range" = none) (ha : PA X [a] ta) (hs : starEach [a] X.env = [(false, eval a X.env)] := by rfl) : PI X tg (.Call (.Name "range" p) [a] [] pos) (iRng1 ta) := by
  intro pins s σ H R I h
  refine Call_ (ld_blt I hg hm boot_range (PyProof.Rows.callWith_type1 (thn (ha pos pins s σ H _ I h) fun us s1 ⟨vs, H1, I1, r1, q1⟩ => ?_) hs rfl))
  obtain ⟨j, e, q1, q2, q⟩ := q1
  subst e
  cases r1 with
  | cons r rr =>
    cases rr
    obtain ⟨t, rfl⟩ := r
    exact call_range_1 (range_it I1 (by omega) (by omega) q1 q2 (by simpa using q))
/-! ### for -/
/-- W: the invariant by the turn and a measure; N: what the body is to reach -/
def tFor (wi : TI) (g : TG) (tb : TS) : TS := fun D σ H => wi σ H fun J H1 => ∃ W : Nat → Nat → St → Hp → Prop, (∃ m, W 0 m σ H1) ∧ ∀ i m σ H, W i m σ H →
  (J.stop i H ∧ D.nx σ H) ∨ (J.go i H ∧ ∃ N : St → Hp → Prop, (∀ σ' H', N σ' H' → ∃ m', m' < m ∧ W (i + 1) m' σ' H') ∧ ∀ x H', J.yld i H x H' → g x σ H' fun σ2 H2 => tb { D with nx := N, ct := N, bk := D.nx } σ2 H2)
/-- the records at fp as they stand -/
def pinsAt (fp : List Addr) (h : Heap) : List (Addr × Obj) := fp.filterMap fun b => (h.get? b).map fun o => (b, o)
theorem mem_pinsAt {fp : List Addr} {h : Heap} {b : Addr} {o : Obj} (hb : b ∈ fp) (e : h.get? b = some o) : (b, o) ∈ pinsAt fp h := List.mem_filterMap.mpr ⟨b, hb, by rw [e]; rfl⟩
theorem of_pinsAt {fp : List Addr} {h : Heap} {p : Addr × Obj} (hp : p ∈ pinsAt fp h) : p.1 ∈ fp ∧ h.get? p.1 = some p.2 := by
  obtain ⟨b, hb, e⟩ := List.mem_filterMap.mp hp
  cases q : h.get? b with
  | none => rw [q] at e; cases e
  | some o =>
    rw [q] at e
    have e' : (b, o) = p := Option.some.inj e
    subst e'
    exact ⟨hb, q⟩
theorem Inv.pinned {pins : List (Addr × Obj)} {σ : St} {H : Hp} {s : Shared} {fp : List Addr} (I : Inv X pins σ H s) (hf : ∀ b ∈ fp, FpOk X pins H b) (ho : ∀ b ∈ fp, ∃ o, s.heap.get? b = some o ∧ ∀ v, o.data ≠ .cell v) : Inv X (pins ++ pinsAt fp s.heap) σ H s :=
  I.pins_of fun p hp => (List.mem_append.mp hp).elim (fun z => I.pin p (List.mem_append_right _ z)) fun z => by
    obtain ⟨hb, e⟩ := of_pinsAt z
    obtain ⟨f0, f1, f2, _⟩ := hf p.1 hb
    obtain ⟨o, e', d⟩ := ho p.1 hb
    rw [e] at e'; cases e'
    exact ⟨e, f0, f1, f2, d⟩
theorem Inv.unpinned {pins pl : List (Addr × Obj)} {σ : St} {H : Hp} {s : Shared} (I : Inv X (pins ++ pl) σ H s) : Inv X pins σ H s := I.pins_of fun p hp => I.pin p (List.mem_append_right _ (List.mem_append_left _ hp))
theorem ps_for {iter : Expr} {body : List Stmt} {wi : TI} {g : TG} {tb : TS} {pos : Pos} (hp : PassesOwn (model X.prog X.w) X.A X.env X.xe) (hc : X.calm = true) (hi : PI X tg iter wi) (hg : PG X tg g) (hb : PSs X body tb)
    (hs : ∀ x, foldedSetIterable iter X.env x = pure x := by intro _; rfl) : PS X (.For tg iter body [] pos) (tFor wi g tb) := by
  intro pins s σ H D I h
  refine wpAny_For (thn (hi pins s σ H _ I h) fun v s1 h1 => thn h1 fun itv s2 h2 => ?_) hs
  obtain ⟨it, fp, tn, J, H2, e, I2, T, st2, f2, W, ⟨m0, w0⟩, turn⟩ := h2
  subst e
  -- what stays true of the iterator's objects through the loop
  have stat : ∀ {H' : Hp}, (∀ b ∈ fp, H' b = none) → ∀ b ∈ fp, FpOk X pins H' b := fun hn b hb => ⟨hn b hb, (f2 b hb).2⟩
  refine codeAny_forLoop_any (fun n s' => ∃ i σ' H', Inv X pins σ' H' s' ∧ tn i s'.heap ∧ (∀ b ∈ fp, H' b = none) ∧ W i n σ' H') ?_ m0 ⟨0, σ, H2, I2, st2, fun b hb => (f2 b hb).1, w0⟩
  rintro n s3 ⟨i, σ3, H3, I3, st3, fr3, w3⟩
  rcases turn i n σ3 H3 w3 with ⟨stop, qn⟩ | ⟨go, N, hN, step⟩
  · refine wpAny_passesOwn hp (thn (T.done X rfl rfl rfl hc i pins s3 σ3 H3 X.xe I3 (stat fr3) st3 stop) fun r s4 ⟨hr, I4⟩ => ?_)
    subst hr
    exact wpAny_execs_nil ⟨σ3, H3, I4, qn⟩
  · refine wpAny_passesOwn hp (thn (T.item X rfl rfl rfl hc i pins s3 σ3 H3 X.xe I3 (stat fr3) st3 go) fun r s4 ⟨u, hr, h4⟩ => ?_)
    subst hr
    refine wpAny_passesOwn hp (thn h4 fun _ s5 ⟨x, H5, I5, r5, y5, st5, fr5⟩ => ?_)
    have I5' := I5.pinned (stat fr5) (T.obj _ _ st5)
    refine wpAny_passesOwn hp (thn (hg _ s5 σ3 H5 x u _ I5' r5 (step x H5 y5)) fun _ s6 ⟨σ6, H6, I6, q6⟩ => ?_)
    refine wpAny_passesOwn hp (thn (hb _ s6 σ6 H6 _ I6 q6) fun f s7 q7 => ?_)
    have again : ∀ {σ7 : St} {H7 : Hp}, Inv X (pins ++ pinsAt fp s5.heap) σ7 H7 s7 → N σ7 H7 → ∃ m, m < n ∧ ∃ i σ' H', Inv X pins σ' H' s7 ∧ tn i s7.heap ∧ (∀ b ∈ fp, H' b = none) ∧ W i m σ' H' := fun {σ7 H7} I7 n7 => by
      obtain ⟨m', hm, w7⟩ := hN σ7 H7 n7
      refine ⟨m', hm, i + 1, σ7, H7, I7.unpinned, T.keep _ _ _ st5 fun b hb o e => (I7.pin (b, o) (List.mem_append_right _ (List.mem_append_right _ (mem_pinsAt hb e)))).1, fun b hb => ?_, w7⟩
      obtain ⟨o, e, d⟩ := T.obj _ _ st5 b hb
      exact (I7.pin (b, o) (List.mem_append_right _ (List.mem_append_right _ (mem_pinsAt hb e)))).2.1
    cases f with
    | next => obtain ⟨σ7, H7, I7, n7⟩ := q7; exact again I7 n7
    | cont => obtain ⟨σ7, H7, I7, n7⟩ := q7; exact again I7 n7
    | brk => obtain ⟨σ7, H7, I7, q7⟩ := q7; exact ⟨σ7, H7, I7.unpinned, q7⟩
    | ret v => obtain ⟨x7, σ7, H7, I7, r7, q7⟩ := q7; exact ⟨x7, σ7, H7, I7.unpinned, r7, q7⟩
end

/-! ### the forms one uses -/
/-- over a list that the body leaves as it is -/
theorem for_list {K : PySem.W.Frag} {a : Addr} {xs : List V} {g : TG} {tb : TS} {D : Ends} {σ : St} {H : Hp} (Pv : Nat → St → Hp → Prop) (h0 : Pv 0 σ H) (hl : ∀ i σ H, i ≤ xs.length → Pv i σ H → SqL K H a xs)
    (hs : ∀ i x σ H, xs[i]? = some x → Pv i σ H → g x σ H fun σ2 H2 => tb { D with nx := Pv (i + 1), ct := Pv (i + 1), bk := D.nx } σ2 H2) (hd : ∀ σ H, Pv xs.length σ H → D.nx σ H) :
    ∃ W : Nat → Nat → St → Hp → Prop, (∃ m, W 0 m σ H) ∧ ∀ i m σ H, W i m σ H →
      ((Itl K a).stop i H ∧ D.nx σ H) ∨ ((Itl K a).go i H ∧ ∃ N : St → Hp → Prop, (∀ σ' H', N σ' H' → ∃ m', m' < m ∧ W (i + 1) m' σ' H') ∧ ∀ x H', (Itl K a).yld i H x H' → g x σ H' fun σ2 H2 => tb { D with nx := N, ct := N, bk := D.nx } σ2 H2) := by
  refine ⟨fun i m σ H => m = xs.length - i ∧ i ≤ xs.length ∧ Pv i σ H, ⟨xs.length, by simp, Nat.zero_le _, h0⟩, ?_⟩
  rintro i m σ H ⟨rfl, hi, p⟩
  have q := hl i σ H hi p
  by_cases hlt : i < xs.length
  · refine .inr ⟨⟨xs, xs[i], q, by simp [hlt]⟩, Pv (i + 1), fun σ' H' p' => ⟨xs.length - (i + 1), by omega, rfl, hlt, p'⟩, fun x H' y => ?_⟩
    obtain ⟨e, y⟩ := y
    subst e
    exact hs i x σ _ (y xs q) p
  · have e : i = xs.length := by omega
    subst e
    exact .inl ⟨⟨xs, q, Nat.le_refl _⟩, hd σ H p⟩
theorem for_range {lo : Int} {n : Nat} {g : TG} {tb : TS} {D : Ends} {σ : St} {H : Hp} (Pv : Nat → St → Hp → Prop) (h0 : Pv 0 σ H)
    (hs : ∀ i σ H, i < n → Pv i σ H → g (.int (lo + i)) σ H fun σ2 H2 => tb { D with nx := Pv (i + 1), ct := Pv (i + 1), bk := D.nx } σ2 H2) (hd : ∀ σ H, Pv n σ H → D.nx σ H) :
    ∃ W : Nat → Nat → St → Hp → Prop, (∃ m, W 0 m σ H) ∧ ∀ i m σ H, W i m σ H →
      ((Itr lo n).stop i H ∧ D.nx σ H) ∨ ((Itr lo n).go i H ∧ ∃ N : St → Hp → Prop, (∀ σ' H', N σ' H' → ∃ m', m' < m ∧ W (i + 1) m' σ' H') ∧ ∀ x H', (Itr lo n).yld i H x H' → g x σ H' fun σ2 H2 => tb { D with nx := N, ct := N, bk := D.nx } σ2 H2) := by
  refine ⟨fun i m σ H => m = n - i ∧ i ≤ n ∧ Pv i σ H, ⟨n, by simp, Nat.zero_le _, h0⟩, ?_⟩
  rintro i m σ H ⟨rfl, hi, p⟩
  by_cases hlt : i < n
  · refine .inr ⟨hlt, Pv (i + 1), fun σ' H' p' => ⟨n - (i + 1), by omega, rfl, hlt, p'⟩, fun x H' y => ?_⟩
    obtain ⟨e, y⟩ := y
    subst e y
    exact hs i σ _ hlt p
  · have e : i = n := by omega
    subst e
    exact .inl ⟨Nat.le_refl _, hd σ H p⟩
end L2

namespace L2
open PySem PySem.Spec PyProof.Rows

abbrev R2 := V → V → Hp → VK → Prop
/-- a two-place operation on values: f is binaryOp op, inplaceOp op or compareOp op -/
def OpR (X : Cx) (f : Value → Value → Sem Value) (r : R2) : Prop :=
  ∀ (pins : List (Addr × Obj)) (s : Shared) (σ : St) (H : Hp) (x y : V) (v u : Value) (Q : VK), Inv X pins σ H s → RelV x v → RelV y u → r x y H Q →
    wpAny (model X.prog X.w) X.A (f v u) (EP X pins σ Q) X.xe s
/-- a one-place operation -/
def UnR (X : Cx) (f : Value → Sem Value) (r : V → Hp → VK → Prop) : Prop :=
  ∀ (pins : List (Addr × Obj)) (s : Shared) (σ : St) (H : Hp) (x : V) (v : Value) (Q : VK), Inv X pins σ H s → RelV x v → r x H Q →
    wpAny (model X.prog X.w) X.A (f v) (EP X pins σ Q) X.xe s
/-- a call of a value that is known (a builtin, a type) with values -/
def CallR (X : Cx) (f : Value) (r : List V → Hp → VK → Prop) : Prop :=
  ∀ (pins : List (Addr × Obj)) (s : Shared) (σ : St) (H : Hp) (xs : List V) (us : List Value) (Q : VK), Inv X pins σ H s → Vals xs us → r xs H Q →
    wpAny (model X.prog X.w) X.A (call f us) (EP X pins σ Q) X.xe s
def tOp (r : R2) (ta tb : TE) : TE := fun σ H Q => ta σ H fun x H1 => tb σ H1 fun y H2 => r x y H2 Q
def tUn (r : V → Hp → VK → Prop) (ta : TE) : TE := fun σ H Q => ta σ H fun x H1 => r x H1 Q
/-- ints in, under C, and a value out -/
def rI (C : Int → Int → Prop) (g : Int → Int → V) : R2 := fun x y H Q => ∃ i j, x = .int i ∧ y = .int j ∧ C i j ∧ Q (g i j) H
def rI0 (g : Int → Int → V) : R2 := fun x y H Q => ∃ i j, x = .int i ∧ y = .int j ∧ Q (g i j) H
def rU (g : Int → V) : V → Hp → VK → Prop := fun x H Q => ∃ i, x = .int i ∧ Q (g i) H

section
variable {X : Cx} {a b c : Expr} {ta tb tc : TE} {pos : Pos}

theorem binT (ha : PE X a ta) (hb : PE X b tb) {pins : List (Addr × Obj)} {s : Shared} {σ : St} {H : Hp} {R : V → V → Hp → Prop} (I : Inv X pins σ H s)
    (h : ta σ H fun x H1 => tb σ H1 fun y H2 => R x y H2) {Q : Value → Shared → Prop} {f : Value → Value → Sem Value}
    (hf : ∀ v u s2 x y H2, Inv X pins σ H2 s2 → RelV x v → RelV y u → R x y H2 → wpAny (model X.prog X.w) X.A (f v u) Q X.xe s2) :
    wpAny (model X.prog X.w) X.A (eval a X.env) (fun v s₁ => wpAny (model X.prog X.w) X.A (eval b X.env) (fun u s₂ => wpAny (model X.prog X.w) X.A (f v u) Q X.xe s₂) X.xe s₁) X.xe s := by
  refine thn (ha pins s σ H _ I h) fun v s1 ⟨x, H1, I1, r1, q1⟩ => ?_
  refine thn (hb pins s1 σ H1 _ I1 q1) fun u s2 ⟨y, H2, I2, r2, q2⟩ => ?_
  exact hf v u s2 x y H2 I2 r1 r2 q2

theorem pe_op {op : Operator} {r : R2} (ho : OpR X (binaryOp op) r) (ha : PE X a ta) (hb : PE X b tb) : PE X (.BinOp a op b pos) (tOp r ta tb) := by
  intro pins s σ H Q I h
  exact wpAny_BinOp (binT ha hb I h fun v u s2 x y H2 I2 rx ry q => ho pins s2 σ H2 x y v u Q I2 rx ry q)
theorem pe_un {op : UnaryOp} {r : V → Hp → VK → Prop} (ho : UnR X (unaryOp op) r) (ha : PE X a ta) : PE X (.UnaryOp op a pos) (tUn r ta) := by
  intro pins s σ H Q I h
  exact UnaryOp_ (thn (ha pins s σ H _ I h) fun v s1 ⟨x, H1, I1, r1, q1⟩ => ho pins s1 σ H1 x v Q I1 r1 q1)
/-! ### ints -/
theorem opI {f : Value → Value → Sem Value} {C : Int → Int → Prop} {g : Int → Int → Int}
    (rule : ∀ (i j : Int) (t u : Tok) (s : Shared) (Q : Value → Shared → Prop) (E : Value → Shared → Prop), C i j → Q (.int (g i j) s.toks) { s with toks := s.toks + 1 } → wpAny (model X.prog X.w) X.A (f (.int i t) (.int j u)) Q E s) :
    OpR X f (rI C fun i j => .int (g i j)) := by
  intro pins s σ H x y v u Q I rx ry h
  obtain ⟨i, j, rfl, rfl, hc, q⟩ := h
  obtain ⟨t, rfl⟩ := rx
  obtain ⟨t', rfl⟩ := ry
  exact rule i j t t' s _ _ hc ⟨.int (g i j), H, I.tok _, ⟨_, rfl⟩, q⟩
theorem opI0 {f : Value → Value → Sem Value} {g : Int → Int → Int}
    (rule : ∀ (i j : Int) (t u : Tok) (s : Shared) (Q : Value → Shared → Prop) (E : Value → Shared → Prop), Q (.int (g i j) s.toks) { s with toks := s.toks + 1 } → wpAny (model X.prog X.w) X.A (f (.int i t) (.int j u)) Q E s) :
    OpR X f (rI0 fun i j => .int (g i j)) := by
  intro pins s σ H x y v u Q I rx ry h
  obtain ⟨i, j, rfl, rfl, q⟩ := h
  obtain ⟨t, rfl⟩ := rx
  obtain ⟨t', rfl⟩ := ry
  exact rule i j t t' s _ _ ⟨.int (g i j), H, I.tok _, ⟨_, rfl⟩, q⟩
theorem opB0 {f : Value → Value → Sem Value} {g : Int → Int → Bool}
    (rule : ∀ (i j : Int) (t u : Tok) (s : Shared) (Q : Value → Shared → Prop) (E : Value → Shared → Prop), Q (.bool (g i j)) s → wpAny (model X.prog X.w) X.A (f (.int i t) (.int j u)) Q E s) :
    OpR X f (rI0 fun i j => .bl (g i j)) := by
  intro pins s σ H x y v u Q I rx ry h
  obtain ⟨i, j, rfl, rfl, q⟩ := h
  obtain ⟨t, rfl⟩ := rx
  obtain ⟨t', rfl⟩ := ry
  exact rule i j t t' s _ _ ⟨.bl (g i j), H, I, rfl, q⟩

def CDiv (i j : Int) : Prop := 0 < j ∧ j < 1073741824
def CPow (i j : Int) : Prop := 0 ≤ j ∧ j ≤ 1000000 ∧ i.natAbs < 2 ^ 64
def CMul (i j : Int) : Prop := (-(2 ^ 64) < i ∧ i < 2 ^ 64) ∨ (-(2 ^ 64) < j ∧ j < 2 ^ 64)
theorem CMul.ok {i j : Int} (h : CMul i j) : IntMulOk i j := by
  rcases h with ⟨h1, h2⟩ | ⟨h1, h2⟩
  · exact .of_left (intBits_le_64 h1 h2)
  · exact .of_right (intBits_le_64 h1 h2)
theorem op_add : OpR X (binaryOp .Add) (rI0 fun i j => .int (i + j)) := opI0 fun _ _ _ _ _ _ _ q => add_int q
theorem op_sub : OpR X (binaryOp .Sub) (rI0 fun i j => .int (i - j)) := opI0 fun _ _ _ _ _ _ _ q => sub_int q
theorem op_mul : OpR X (binaryOp .Mult) (rI CMul fun i j => .int (i * j)) := opI fun _ _ _ _ _ _ _ hc q => mul_int q hc.ok
/-- // by a positive divisor -/
theorem op_fdiv : OpR X (binaryOp .FloorDiv) (rI CDiv fun i j => .int (i / j)) := opI fun i j _ _ _ _ _ hc q => by
  have h1 : (0 : Int) < j := hc.1
  have h2 : j < 1073741824 := hc.2
  exact floordiv_int (by omega) (by rw [Int.fdiv_eq_ediv_of_nonneg i (by omega)]; exact q) (.inl (PyProof.noPylong_small (by omega)))
/-- % by a positive divisor of any size -/
theorem op_mod : OpR X (binaryOp .Mod) (rI (fun _ j => 0 < j) fun i j => .int (i % j)) := opI fun i j _ _ _ _ _ hc q => by
  have h1 : (0 : Int) < j := hc
  exact mod_int' (by omega) (by rw [Int.fmod_eq_emod_of_nonneg i (by omega)]; exact q)
theorem op_pow : OpR X (binaryOp .Pow) (rI CPow fun i j => .int (i ^ j.toNat)) := opI fun _ _ _ _ _ _ _ hc q => pow_int_small hc.1 hc.2.1 hc.2.2 q
theorem unI {f : Value → Sem Value} {g : Int → Int}
    (rule : ∀ (i : Int) (t : Tok) (s : Shared) (Q : Value → Shared → Prop) (E : Value → Shared → Prop), Q (.int (g i) s.toks) { s with toks := s.toks + 1 } → wpAny (model X.prog X.w) X.A (f (.int i t)) Q E s) :
    UnR X f (rU fun i => .int (g i)) := by
  intro pins s σ H x v Q I rx h
  obtain ⟨i, rfl, q⟩ := h
  obtain ⟨t, rfl⟩ := rx
  exact rule i t s _ _ ⟨.int (g i), H, I.tok _, ⟨_, rfl⟩, q⟩
theorem un_neg : UnR X (unaryOp .USub) (rU fun i => .int (-i)) := unI fun _ _ _ _ _ q => neg_int q
/-! ### bools among ints: n += (a < b) -/
end

/-! ### comparisons -/
/-- the scalars that == tells apart as data does -/
def scal : V → V → Bool
  | .non, .non => true | .non, .int _ => true | .int _, .non => true | .non, .bl _ => true | .bl _, .non => true | .non, .str _ => true | .str _, .non => true
  | .int _, .int _ => true | .bl _, .bl _ => true | .str _, .str _ => true | .byt _, .byt _ => true
  | .int _, .str _ => true | .str _, .int _ => true | .bl _, .str _ => true | .str _, .bl _ => true
  | _, _ => false
def rEq : R2 := fun x y H Q => scal x y = true ∧ Q (.bl (decide (x = y))) H
def rNe : R2 := fun x y H Q => scal x y = true ∧ Q (.bl (!decide (x = y))) H

theorem dec_int {i j : Int} : decide (V.int i = V.int j) = (i == j) := by
  rw [Bool.eq_iff_iff]
  simp
theorem dec_bl {i j : Bool} : decide (V.bl i = V.bl j) = (i == j) := by
  rw [Bool.eq_iff_iff]
  simp
theorem dec_str {i j : Str} : decide (V.str i = V.str j) = (i == j) := by
  rw [Bool.eq_iff_iff]
  simp
theorem dec_byt {i j : Array UInt8} : decide (V.byt i = V.byt j) = (i.toList == j.toList) := by
  rw [Bool.eq_iff_iff]
  cases i
  cases j
  simp

section
variable {X : Cx} {a b c : Expr} {ta tb tc : TE} {pos : Pos}
theorem fin_bl {pins : List (Addr × Obj)} {σ : St} {H : Hp} {s : Shared} {Q : VK} {k k' : Bool} (I : Inv X pins σ H s) (q : Q (.bl k) H) (e : k = k') : EP X pins σ Q (.bool k') s := by
  subst e
  exact ⟨.bl k, H, I, rfl, q⟩
theorem op_eq : OpR X (compareOp .Eq) rEq := by
  intro pins s σ H x y v u Q I rx ry h
  obtain ⟨hs, q⟩ := h
  cases x with
  | non =>
    cases rx
    cases y with
    | non => cases ry; exact PySem.EqNone.eq_none_none (fin_bl I q (by simp))
    | bl j => cases ry; exact PySem.EqNone.eq_none_bool (fin_bl I q (by simp))
    | int j => obtain ⟨t', rfl⟩ := ry; exact PySem.EqNone.eq_none_int (fin_bl I q (by simp))
    | str j => obtain ⟨t', rfl⟩ := ry; exact PySem.EqNone.eq_none_str (fin_bl I q (by simp))
    | _ => exact absurd (show false = true from hs) Bool.false_ne_true
  | bl i =>
    cases rx
    cases y with
    | non => cases ry; exact PySem.EqNone.eq_bool_none (fin_bl I q (by simp))
    | bl j => cases ry; exact eq_bool (fin_bl I q dec_bl)
    | str j => obtain ⟨t', rfl⟩ := ry; exact PySem.EqMixed.eq_bool_str (fin_bl I q (by simp))
    | _ => exact absurd (show false = true from hs) Bool.false_ne_true
  | int i =>
    obtain ⟨t, rfl⟩ := rx
    cases y with
    | non => cases ry; exact PySem.EqNone.eq_int_none (fin_bl I q (by simp))
    | int j => obtain ⟨t', rfl⟩ := ry; exact eq_int (fin_bl I q dec_int)
    | str j => obtain ⟨t', rfl⟩ := ry; exact PySem.EqMixed.eq_int_str (fin_bl I q (by simp))
    | _ => exact absurd (show false = true from hs) Bool.false_ne_true
  | str i =>
    obtain ⟨t, rfl⟩ := rx
    cases y with
    | non => cases ry; exact PySem.EqNone.eq_str_none (fin_bl I q (by simp))
    | bl j => cases ry; exact PySem.EqMixed.eq_str_bool (fin_bl I q (by simp))
    | int j => obtain ⟨t', rfl⟩ := ry; exact PySem.EqMixed.eq_str_int (fin_bl I q (by simp))
    | str j => obtain ⟨t', rfl⟩ := ry; exact eq_str (fin_bl I q dec_str)
    | _ => exact absurd (show false = true from hs) Bool.false_ne_true
  | byt i =>
    obtain ⟨t, rfl⟩ := rx
    cases y with
    | byt j => obtain ⟨t', rfl⟩ := ry; exact PySem.W.eq_bytes (fin_bl I q dec_byt)
    | _ => exact absurd (show false = true from hs) Bool.false_ne_true
  | _ => cases y <;> exact absurd (show false = true from hs) Bool.false_ne_true
theorem op_ne : OpR X (compareOp .NotEq) rNe := by
  intro pins s σ H x y v u Q I rx ry h
  obtain ⟨hs, q⟩ := h
  cases x with
  | non =>
    cases rx
    cases y with
    | non => cases ry; exact PySem.EqNone.ne_none_none (fin_bl I q (by simp))
    | bl j => cases ry; exact PySem.EqNone.ne_none_bool (fin_bl I q (by simp))
    | int j => obtain ⟨t', rfl⟩ := ry; exact PySem.EqNone.ne_none_int (fin_bl I q (by simp))
    | str j => obtain ⟨t', rfl⟩ := ry; exact PySem.EqNone.ne_none_str (fin_bl I q (by simp))
    | _ => exact absurd (show false = true from hs) Bool.false_ne_true
  | bl i =>
    cases rx
    cases y with
    | non => cases ry; exact PySem.EqNone.ne_bool_none (fin_bl I q (by simp))
    | bl j => cases ry; exact ne_bool (fin_bl I q (congrArg not dec_bl))
    | str j => obtain ⟨t', rfl⟩ := ry; exact PySem.EqMixed.ne_bool_str (fin_bl I q (by simp))
    | _ => exact absurd (show false = true from hs) Bool.false_ne_true
  | int i =>
    obtain ⟨t, rfl⟩ := rx
    cases y with
    | non => cases ry; exact PySem.EqNone.ne_int_none (fin_bl I q (by simp))
    | int j => obtain ⟨t', rfl⟩ := ry; exact ne_int (fin_bl I q (congrArg not dec_int))
    | str j => obtain ⟨t', rfl⟩ := ry; exact PySem.EqMixed.ne_int_str (fin_bl I q (by simp))
    | _ => exact absurd (show false = true from hs) Bool.false_ne_true
  | str i =>
    obtain ⟨t, rfl⟩ := rx
    cases y with
    | non => cases ry; exact PySem.EqNone.ne_str_none (fin_bl I q (by simp))
    | bl j => cases ry; exact PySem.EqMixed.ne_str_bool (fin_bl I q (by simp))
    | int j => obtain ⟨t', rfl⟩ := ry; exact PySem.EqMixed.ne_str_int (fin_bl I q (by simp))
    | str j => obtain ⟨t', rfl⟩ := ry; exact ne_str (fin_bl I q (congrArg not dec_str))
    | _ => exact absurd (show false = true from hs) Bool.false_ne_true
  | byt i =>
    obtain ⟨t, rfl⟩ := rx
    cases y with
    | byt j => obtain ⟨t', rfl⟩ := ry; exact PySem.W.ne_bytes (fin_bl I q (congrArg not dec_byt))
    | _ => exact absurd (show false = true from hs) Bool.false_ne_true
  | _ => cases y <;> exact absurd (show false = true from hs) Bool.false_ne_true

theorem op_lt : OpR X (compareOp .Lt) (rI0 fun i j => .bl (decide (i < j))) := opB0 fun _ _ _ _ _ _ _ q => lt_int q
theorem op_gt : OpR X (compareOp .Gt) (rI0 fun i j => .bl (decide (j < i))) := opB0 fun _ _ _ _ _ _ _ q => gt_int q
theorem op_ge : OpR X (compareOp .GtE) (rI0 fun i j => .bl (decide (j ≤ i))) := opB0 fun _ _ _ _ _ _ _ q => ge_int q
theorem nomark (b : Expr) {op : CmpOp} (h : op ≠ .In := by decide) (h2 : op ≠ .NotIn := by decide) : behindInMarks op b = false := by
  have e1 : (op == CmpOp.In) = false := by cases op <;> first | rfl | exact absurd rfl h
  have e2 : (op == CmpOp.NotIn) = false := by cases op <;> first | rfl | exact absurd rfl h2
  cases b <;> simp [behindInMarks, e1, e2]
/-- a comparison as a value; hm: nomark b, or (for in, not in) by with_unfolding_all rfl -/
theorem pe_cmpR {op : CmpOp} {r : R2} (ho : OpR X (compareOp op) r) (ha : PE X a ta) (hb : PE X b tb) (hm : behindInMarks op b = false) : PE X (.Compare a [op] [b] pos) (tOp r ta tb) := by
  intro pins s σ H Q I h
  exact wpAny_Compare1 (binT ha hb I h fun v u s2 x y H2 I2 rx ry q => ho pins s2 σ H2 x y v u Q I2 rx ry q) hm
/-- a reading of a value as a test -/
def tTest (t : TE) : TT := fun σ H Q => t σ H fun x H' => ∃ k, x = .bl k ∧ Q k H'
theorem pt_cmpR {op : CmpOp} {r : R2} (ho : OpR X (compareOp op) r) (ha : PE X a ta) (hb : PE X b tb) (hm : behindInMarks op b = false) : PT X (.Compare a [op] [b] pos) (tTest (tOp r ta tb)) := by
  intro pins s σ H Q I h
  refine wpAny_isTrue_Compare1 (thn (ha pins s σ H _ I h) fun v s1 ⟨x, H1, I1, r1, q1⟩ => thn (hb pins s1 σ H1 _ I1 q1) fun u s2 ⟨y, H2, I2, r2, q2⟩ =>
    thn (ho pins s2 σ H2 x y v u _ I2 r1 r2 q2) fun c s3 ⟨z, H3, I3, r3, k, e, q3⟩ => ?_) hm
  subst e
  cases r3
  exact wpAny_truthy_bool ⟨H3, I3, q3⟩
/-! ### truth -/
theorem line63 : (sizeLine : Nat) < 2 ^ 63 := by rw [sizeLine_eq]; decide
/-! ### strs and bytes -/
/-! ### scalar builtins, by CallR -/
theorem vals1 {x : V} {us : List Value} (r : Vals [x] us) : ∃ u, us = [u] ∧ RelV x u := by
  cases r with
  | cons r1 r2 => cases r2; exact ⟨_, rfl, r1⟩
theorem vals2 {x y : V} {us : List Value} (r : Vals [x, y] us) : ∃ u w', us = [u, w'] ∧ RelV x u ∧ RelV y w' := by
  cases r with
  | cons r1 r2 =>
    cases r2 with
    | cons r3 r4 => cases r4; exact ⟨_, _, rfl, r1, r3⟩
theorem call_abs : CallR X (.builtin "abs") (fun xs H Q => ∃ i, xs = [.int i] ∧ Q (.int (if i < 0 then -i else i)) H) := by
  intro pins s σ H xs us Q I r h
  obtain ⟨i, rfl, q⟩ := h
  obtain ⟨u, rfl, t, rfl⟩ := vals1 r
  exact call_abs_int fun u tk => ⟨.int (if i < 0 then -i else i), H, I.tok _, ⟨_, rfl⟩, q⟩
theorem call_max2 (hc : X.calm = true) : CallR X (.builtin "max") (fun xs H Q => ∃ i j, xs = [.int i, .int j] ∧ Q (.int (if j > i then j else i)) H) := by
  intro pins s σ H xs us Q I r h
  obtain ⟨i, j, rfl, q⟩ := h
  obtain ⟨u, w', rfl, ⟨t, rfl⟩, ⟨t', rfl⟩⟩ := vals2 r
  refine max_two_ints (I.ok.hd hc) fun h' tk k => ⟨_, H, I.kept k, ?_, q⟩
  by_cases hj : j > i
  · rw [if_pos hj, if_pos hj]; exact ⟨_, rfl⟩
  · rw [if_neg hj, if_neg hj]; exact ⟨_, rfl⟩
theorem call_int1 : CallR X (.type "int") (fun xs H Q => (∃ i, xs = [.int i] ∧ Q (.int i) H) ∨ ∃ k, xs = [.bl k] ∧ Q (.int (if k then 1 else 0)) H) := by
  intro pins s σ H xs us Q I r h
  rcases h with ⟨i, rfl, q⟩ | ⟨k, rfl, q⟩
  · obtain ⟨u, rfl, t, rfl⟩ := vals1 r
    exact call_int_int ⟨.int i, H, I, ⟨_, rfl⟩, q⟩
  · obtain ⟨u, rfl, r1⟩ := vals1 r
    cases r1
    exact call_int_bool ⟨.int (if k then 1 else 0), H, I.tok _, ⟨_, rfl⟩, q⟩
end
end L2

namespace L2
open PySem PySem.Spec PyProof.Rows

/-! ### an instance, its attributes a map -/
structure ObjM (h : Heap) (x dx C : Addr) (mA : Str → Option Value) : Prop where
  obj : h.get? x = some (PySem.W.instObj C dx)
  ns : h.Ns1 dx mA
  ne : dx ≠ x

theorem lookIn_ns {h : Heap} {dx : Addr} {mA : Str → Option Value} (n : h.Ns1 dx mA) : ∃ od, h.get? dx = some od ∧ ∀ name, PySem.W.lookIn name od = some (mA name) := by
  obtain ⟨o, es, ep, ho, hd, hk, _, hm⟩ := n
  refine ⟨o, ho, fun name => ?_⟩
  have e := hm name
  unfold nsFind findBy at e
  rw [← Array.find?_toList] at e
  unfold PySem.W.lookIn
  rw [hd]
  dsimp only
  split
  · rename_i y q
    rw [q] at e
    exact congrArg some e
  · rename_i q
    rw [q] at e
    have a : es.toList.any (·.refKey) = false := by
      rw [List.any_eq_false]
      intro y hy
      obtain ⟨z, t, hkey⟩ := hk y (Array.mem_toList_iff.mp hy)
      simp [DictEntry.refKey, hkey]
    have a' : ¬ es.toList.any (·.refKey) = true := by rw [a]; exact Bool.false_ne_true
    rw [if_neg a']
    exact congrArg some e

theorem ObjM.look {h : Heap} {x dx C : Addr} {mA : Str → Option Value} (I : ObjM h x dx C mA) : ∃ od, PySem.W.InstAt h x (PySem.W.instObj C dx) C (some od) ∧ ∀ name, PySem.W.lookIn name od = some (mA name) :=
  let ⟨od, ho, hl⟩ := lookIn_ns I.ns
  ⟨od, ⟨I.obj, rfl, rfl, ho⟩, hl⟩

section
variable {prog : Program} {w : World} {A : Around} {E : Value → Shared → Prop} {s : Shared} {K : PySem.W.Frag} {x dx C f : Addr} {mA : Str → Option Value} {name : Str} {v : Value}

end

/-! ### the attributes as a list of pairs -/
theorem RelO.some_of {v : V} {o : Option Value} (r : RelO (some v) o) : ∃ u, o = some u ∧ RelV v u := by
  cases o with
  | none => exact (show False from r).elim
  | some u => exact ⟨u, rfl, r⟩
section
variable {P : Program} {w : World} {H H' : Hp} {h h' : Heap} {a C dx : Addr} {fs fs' : List (Str × V)}
theorem ins_get (hok : HOk P w H h) (e : H a = some (.ins C dx fs)) : ∃ mA, ObjM h a dx C mA ∧ (∀ f, RelO (fs.lookup f) (mA f)) ∧ PySem.Within mA (fs.map (·.1)) ∧ fs.length ≤ 1000 ∧ H dx = some (.own a) := by
  obtain ⟨d, z, ne, ob, mA, n, r, q⟩ := (show ObjOk P w H h a (.ins C dx fs) from hok a _ e)
  exact ⟨mA, ⟨ob, n, ne⟩, r, q, z, d⟩
end

/-! ### what of the text a class must have -/
structure Cls (K : PySem.W.Frag) (C : Addr) : Prop where
  pg : PySem.W.plainGet K C Str.empty = true
  hd : PySem.W.hasDictIn K C = true
  po : PySem.W.plainOver K C = true
  sa : PySem.W.findIn K (.ref C) "__setattr__" = some (some (.builtin "object.__setattr__"))
theorem Cls.get {K : PySem.W.Frag} {C : Addr} (c : Cls K C) (f : Str) : PySem.W.plainGet K C f = true := c.pg
section
variable {X : Cx} {pins : List (Addr × Obj)} {σ : St} {H : Hp} {s : Shared} {a C dx : Addr} {fs : List (Str × V)} {f : Str} {v : V} {A : Around} {E : Value → Shared → Prop}

end

/-! ### readings and rules -/
section
variable {X : Cx} {o e value : Expr} {f : Str} {pos pos' tpos : Pos} {ta tv : TE}
end

/-! ### isinstance -/
section
variable {X : Cx} {pins : List (Addr × Obj)} {σ : St} {H : Hp} {s : Shared} {A : Around} {E : Value → Shared → Prop} {Q : Value → Shared → Prop} {c : Value} {b : Bool}
/-- the type of a value, as the fragment's deciders take it; for an instance its class -/
inductive TyOf (K : PySem.W.Frag) (H : Hp) : V → Value → Prop where
  | non : TyOf K H .non (.type "NoneType")
  | bl (x : Bool) : TyOf K H (.bl x) (.type "bool")
  | int (i : Int) : TyOf K H (.int i) (.type "int")
  | str (x : Str) : TyOf K H (.str x) (.type "str")
  | flt (x : UInt64) : TyOf K H (.flt x) (.type "float")
  | lst {a : Addr} {xs : List V} (e : H a = some (.lst xs)) : TyOf K H (.ref a) (.type "list")
  | frz {a : Addr} {o : Obj} {xs : List V} (e : H a = some (.frz o (.lst xs))) : TyOf K H (.ref a) (.type "list")
  | tup {a : Addr} {xs : List V} (e : H a = some (.tup xs)) : TyOf K H (.ref a) (.type "tuple")
  | dK {a : Addr} {kvs : List (Key × V)} (e : H a = some (.dK kvs)) : TyOf K H (.ref a) (.type "dict")
  | dT {a : Addr} {kvs : List (List Key × V)} (e : H a = some (.dT kvs)) : TyOf K H (.ref a) (.type "dict")
  | ins {a C dx : Addr} {fs : List (Str × V)} (e : H a = some (.ins C dx fs)) (cl : Cls K C) (ha : PySem.W.findIn K (.ref C) "__class__" = some (some (.builtin "object.__class__")))
      (hn : PySem.W.specialIn K (.builtin "object.__class__") "__get__" = some (some (.builtin "getset_descriptor.__get__"))) (htk : PySem.W.takesIn K (.builtin "object.__class__") = some true)
      (hm : PySem.W.mroIn K C (.type "object") = some true) : TyOf K H (.ref a) (.ref C)
/-- isinstance(x, c) for one class c, a built-in or an own one: kitOne's answer -/
theorem isinst_ok {x : V} {u t : Value} (I : Inv X pins σ H s) (rx : RelV x u) (ty : TyOf X.K H x t) (e : PySem.W.kitOne X.K t c = some b) (h : ∀ tk, Q (.bool b) { s with toks := tk }) :
    wpAny (model X.prog X.w) A (call (.builtin "isinstance") [u, c]) Q E s := by
  cases ty with
  | non => cases (show u = Value.none from rx); exact PySem.W.kia_one PySem.W.kitx_none I.kIn True.intro e (fun z => nomatch z) h
  | bl y => cases (show u = Value.bool y from rx); exact PySem.W.kia_one PySem.W.kitx_bool I.kIn True.intro e (fun z => nomatch z) h
  | int i => obtain ⟨t, q⟩ := (show ∃ t, u = Value.int i t from rx); cases q; exact PySem.W.kia_one PySem.W.kitx_int I.kIn True.intro e (fun z => nomatch z) h
  | str y => obtain ⟨t, q⟩ := (show ∃ t, u = Value.str y t from rx); cases q; exact PySem.W.kia_one PySem.W.kitx_str I.kIn True.intro e (fun z => nomatch z) h
  | flt y => obtain ⟨t, q⟩ := (show ∃ t, u = Value.float y t from rx); cases q; exact PySem.W.kia_one PySem.W.kitx_float I.kIn True.intro e (fun z => nomatch z) h
  | @lst a xs ea =>
    cases (show u = Value.ref a from rx)
    obtain ⟨_, _, n, _, h1⟩ := (show ObjOk X.prog X.w H s.heap a (.lst xs) from I.hok a _ ea)
    exact PySem.W.kia_one PySem.W.kitx_list I.kIn ⟨_, h1, rfl⟩ e (fun z => nomatch z) h
  | @frz a ob xs ea =>
    cases (show u = Value.ref a from rx)
    obtain ⟨_, _, _, n, _, h1⟩ := (show ObjOk X.prog X.w H s.heap a (.frz ob (.lst xs)) from I.hok a _ ea)
    exact PySem.W.kia_one PySem.W.kitx_list I.kIn ⟨_, h1, rfl⟩ e (fun z => nomatch z) h
  | @tup a xs ea =>
    cases (show u = Value.ref a from rx)
    obtain ⟨_, _, _, p⟩ := (show ObjOk X.prog X.w H s.heap a (.tup xs) from I.hok a _ ea)
    obtain ⟨o, h1, h2, _⟩ := p
    exact PySem.W.kia_one PySem.W.kitx_tuple I.kIn ⟨o, h1, h2⟩ e (fun z => nomatch z) h
  | @dK a kvs ea =>
    cases (show u = Value.ref a from rx)
    obtain ⟨_, _, vs, _, p⟩ := (show ObjOk X.prog X.w H s.heap a (.dK kvs) from I.hok a _ ea)
    obtain ⟨o, es, ep, h1, h2, _⟩ := p
    exact PySem.W.kia_one PySem.W.kitx_dict I.kIn ⟨o, h1, h2.1⟩ e (fun z => nomatch z) h
  | @dT a kvs ea =>
    cases (show u = Value.ref a from rx)
    obtain ⟨_, _, xs, _, o, es, ep, h1, h2, _⟩ := (show ObjOk X.prog X.w H s.heap a (.dT kvs) from I.hok a _ ea)
    exact PySem.W.kia_one PySem.W.kitx_dict I.kIn ⟨o, h1, h2.1⟩ e (fun z => nomatch z) h
  | @ins a C dx fs ea cl ha hn htk hm =>
    cases (show u = Value.ref a from rx)
    obtain ⟨mA, O, _⟩ := ins_get I.hok ea
    obtain ⟨od, J, _⟩ := O.look
    exact PySem.W.kia_one (PySem.W.kitx_own (cl.get _) cl.hd ha hn htk hm) I.kIn J e (fun z => nomatch z) h
end
end L2

namespace L2
open PySem PySem.Spec PyProof.Rows

/-! ### room -/
structure Room (k : Nat) (A : Around) : Prop where
  hd : A.handled = none
  dp : A.depth + 3 * k + 5 < recursionLimit
  un : A.units + 16 * k + 200 < cLine
theorem Room.mono {j k : Nat} {A : Around} (r : Room k A) (h : j ≤ k) : Room j A := ⟨r.hd, by have := r.dp; omega, by have := r.un; omega⟩
theorem Room.deeper {k : Nat} {A : Around} (r : Room (k + 1) A) (env : Env) : Room k (A.deeper env) :=
  ⟨r.hd, by have := r.dp; show A.depth + 1 + 3 * k + 5 < _; omega, by have := r.un; show A.units + 3 + 16 * k + 200 < _; omega⟩
theorem Room.depth {k : Nat} {A : Around} (r : Room k A) : A.depth < recursionLimit := by have := r.dp; omega
theorem Room.units {k : Nat} {A : Around} (r : Room k A) : A.units + 64 < cLine := by have := r.un; omega
theorem Room.units0 {k : Nat} {A : Around} (r : Room k A) : A.units < cLine := by have := r.un; omega

/-! ### argument lists and displays -/
def tNil : TA := fun _ H Q => Q [] H
def tCons (ta : TE) (tr : TA) : TA := fun σ H Q => ta σ H fun x H1 => tr σ H1 fun xs H2 => Q (x :: xs) H2
section
variable {X : Cx} {e : Expr} {es : List Expr} {te : TE} {t : TA} {pos : Pos}
theorem pa_nil : PA X [] tNil := fun _ _ _ _ H Q I h => Calls.spliced_nil ⟨[], H, I, .nil, h⟩
theorem pa_cons (ha : PE X e te) (hr : PA X es t) (hs : starEach (e :: es) X.env = (false, eval e X.env) :: starEach es X.env := by rfl) : PA X (e :: es) (tCons te t) := by
  intro pos pins s σ H Q I h
  rw [hs]
  show wpAny _ _ (spliced ((false, eval e X.env) :: backTo pos (starEach es X.env))) _ _ s
  refine Calls.spliced_cons (thn (ha pins s σ H _ I h) fun u s1 ⟨x, H1, I1, r1, q1⟩ => ?_)
  exact thn (hr pos pins s1 σ H1 _ I1 q1) fun us s2 ⟨xs, H2, I2, r2, q2⟩ => ⟨x :: xs, H2, I2, .cons r1 r2, q2⟩

/-- a tuple, a list of written items -/
def tTup (t : TA) : TE := fun σ H Q => t σ H fun xs H1 => xs.length ≤ sizeLine ∧ ∀ p, H1 p = none → Q (.ref p) (upd H1 p (.tup xs))
def tLst (t : TA) : TE := fun σ H Q => t σ H fun xs H1 => xs.length ≤ sizeLine ∧ ∀ p, H1 p = none → Q (.ref p) (upd H1 p (.lst xs))
theorem pe_tup {x1} (h : PA X es t) : PE X (.Tuple es x1 pos) (tTup t) := by
  intro pins s σ H Q I hq
  refine wpAny_Tuple_spliced (thn (h pos pins s σ H _ I hq) fun us s1 ⟨xs, H1, I1, r, z, q⟩ => ⟨by rw [← r.length]; exact z, ?_⟩)
  have hf : H1 s1.heap.objs.size = none := I1.hok.fresh (Nat.le_refl _)
  refine ⟨.ref s1.heap.objs.size, upd H1 s1.heap.objs.size (.tup xs), I1.laid (t' := s1.toks) (fun b u e => Heap.get?_push_of_some _ e) (Nat.le_refl _) ?_, rfl, q _ hf⟩
  exact ⟨z, us, r, ⟨_, Heap.get?_push_size _ rfl, rfl, _, rfl⟩⟩
theorem pe_lst (h : PA X es t) : PE X (.List es pos) (tLst t) := by
  intro pins s σ H Q I hq
  refine wpAny_List_spliced (thn (h pos pins s σ H _ I hq) fun us s1 ⟨xs, H1, I1, r, z, q⟩ => ⟨by rw [← r.length]; exact z, ?_⟩)
  have hf : H1 s1.heap.objs.size = none := I1.hok.fresh (Nat.le_refl _)
  refine ⟨.ref s1.heap.objs.size, upd H1 s1.heap.objs.size (.lst xs), I1.laid (t' := s1.toks) (fun b u e => Heap.get?_push_of_some _ e) (Nat.le_refl _) ?_, rfl, q _ hf⟩
  exact ⟨z, us, 0, r, Heap.get?_push_size _ rfl⟩
end

/-! ### what a def promises -/
/-- a def's promise: the bound arguments in the parameters' order, the heap, the wanted end, the wanted exception -/
abbrev Sp := List V → Hp → VK → XK → Prop
/-- how an exception lies behind a call (file 08 gives it): the callers' frames, abstract heap and state ahead of the call, the wish, the exception, the state -/
abbrev CXT := List Env → Hp → Shared → XK → Value → Shared → Prop

/-- the state at a call -/
structure Env0 (P : Program) (w : World) (K : PySem.W.Frag) (mg : Str → Option Value) (base : Heap) (A : Around) (outer : List Env) (s : Shared) (H : Hp) : Prop where
  frames : A.frames = some outer
  mod : Mod K mg base
  bs : ∀ b o, base.get? b = some o → s.heap.get? b = some o ∧ H b = none
  bsz : base.objs.size ≤ s.heap.objs.size
  funs : s.heap.FunFrames base outer
  frf : ∀ b ∈ frs outer, H b = none
  hok : HOk P w H s.heap
  bare : AllBare s.gens
/-- a call's end -/
def CE (outer : List Env) (P : Program) (w : World) (H : Hp) (s : Shared) (Q : VK) (u : Value) (s' : Shared) : Prop :=
  ∃ v H', s'.os = s.os ∧ AllBare s'.gens ∧ Un (frs outer) [] H H' s.heap s'.heap ∧ HOk P w H' s'.heap ∧ RelV v u ∧ Q v H'
def CR (CX : CXT) (outer : List Env) (P : Program) (w : World) (H : Hp) (s : Shared) (Q : VK) (E : XK) (r : Result) (s' : Shared) : Prop :=
  match r with
  | .ok (.ret u) => CE outer P w H s Q u s'
  | .ok _ => False
  | .error e => CX outer H s E e s'
structure FnOk (P : Program) (w : World) (K : PySem.W.Frag) (mg : Str → Option Value) (base : Heap) (CX : CXT) (k : Nat) (f : Addr) (fd : FuncData) (ps : List Str) (sp : Sp) : Prop where
  len : ∀ vs H Q E, sp vs H Q E → vs.length = ps.length
  run : ∀ (A : Around) (outer : List Env) (s : Shared) (H : Hp) (args : Args) (us : List Value) (vs : List V) (Q : VK) (E : XK), Room k A → Env0 P w K mg base A outer s H → BindsTo s fd args (ps.zip us) → Vals vs us → sp vs H Q E →
    codeAny (model P w) A (.call (.ref f) args) (CR CX outer P w H s Q E) s
section
variable {X : Cx} {pins : List (Addr × Obj)} {σ : St} {H : Hp} {s s' : Shared}
/-- from a body: what a callee wants -/
theorem Inv.env0 (I : Inv X pins σ H s) : Env0 X.prog X.w X.K X.mg X.base X.A X.stack s H :=
  ⟨I.ok.frames, I.ok.mod, I.bs, Nat.le_trans I.ok.bsz I.sz, I.stack, I.stkFree, I.hok, I.bare⟩
/-- behind a call -/
theorem Inv.after {Q : VK} {u : Value} (I : Inv X pins σ H s) (h : CE X.stack X.prog X.w H s Q u s') : EP X pins σ Q u s' := by
  obtain ⟨v, H', os, bare, un, hok, r, q⟩ := h
  obtain ⟨hh, g, d, t, os'⟩ := s'
  obtain rfl : os' = s.os := os
  exact ⟨v, H', I.call (h' := hh) (g' := g) (d' := d) (t' := t) (ch := []) un hok bare (fun b z => absurd z (by simp)), r, q⟩
end

/-! ### calls -/
/-- f(..): the written arguments, then the defaults dvs; E: what is wanted of an exception -/
def tCall (sp : Sp) (dvs : List V) (E : XK) (t : TA) : TE := fun σ H Q => t σ H fun vs H1 => sp (vs ++ dvs) H1 Q E
/-- how the parameters are bound: us the positional arguments, kw the keywords' values by name, ds the defaults that fill up -/
def Binds (K : PySem.W.Frag) (fd : FuncData) (ps : List Str) (ds : List Value) : Prop :=
  ∀ (s : Shared) (us : List Value), K.In s.heap → (us ++ ds).length = ps.length → BindsTo s fd ⟨us, []⟩ (ps.zip (us ++ ds))
/-- every parameter is given -/
theorem Binds.all {K : PySem.W.Frag} {fd : FuncData} {ps : List Str} (h : ∀ us : List Value, us.length = ps.length → bindArgs fd ⟨us, []⟩ = pure (ps.zip us)) : Binds K fd ps [] := fun s us _ hl => by
  rw [List.append_nil] at hl ⊢
  exact .of_eq (h us hl)

/-- an exception of a callee reaches what this body wants of exceptions -/
def Passes (CX : CXT) (X : Cx) (E : XK) : Prop := ∀ (pins : List (Addr × Obj)) (σ : St) (H : Hp) (s : Shared) (e : Value) (s' : Shared), Inv X pins σ H s → CX X.stack H s E e s' → X.xe e s'

section
variable {X : Cx} {CX : CXT} {k : Nat} {f C : Addr} {fd : FuncData} {ps : List Str} {sp : Sp} {dvs : List V} {ds : List Value} {E : XK} {x m : Str} {p pos apos : Pos} {e o : Expr} {es : List Expr} {ta : TE} {t : TA}

/-- the callee runs -/
theorem run_fn {pins : List (Addr × Obj)} {σ : St} {H : Hp} {s : Shared} {Q : VK} {us : List Value} {vs : List V} (F : FnOk X.prog X.w X.K X.mg X.base CX k f fd ps sp) (hr : Room k X.A) (hb : Binds X.K fd ps ds) (hd : Vals dvs ds) (hx : Passes CX X E)
    (I : Inv X pins σ H s) (r : Vals vs us) (h : sp (vs ++ dvs) H Q E) : wpAny (model X.prog X.w) X.A (call (.ref f) us) (EP X pins σ Q) X.xe s := by
  have r2 : Vals (vs ++ dvs) (us ++ ds) := r.append hd
  have hl : (us ++ ds).length = ps.length := by rw [← r2.length]; exact F.len _ _ _ _ h
  refine wpAny_call (codeAny_mono (F.run X.A X.stack s H ⟨us, []⟩ (us ++ ds) (vs ++ dvs) Q E hr I.env0 (hb s us I.kIn hl) r2 h) fun r s' hq => ?_)
  cases r with
  | error e => exact hx pins σ H s e s' I hq
  | ok fl =>
    cases fl with
    | ret u => exact I.after hq
    | next => exact False.elim hq
    | brk => exact False.elim hq
    | cont => exact False.elim hq

theorem pe_call (F : FnOk X.prog X.w X.K X.mg X.base CX k f fd ps sp) (hr : Room k X.A) (hg : Gl X x) (hm : X.mg x = some (.ref f)) (hk : PySem.W.keepIn X.K (.ref f) = true) (hb : Binds X.K fd ps ds) (hd : Vals dvs ds) (hx : Passes CX X E)
    (ha : PA X (e :: es) t) (hdb : (x == ("__debug__" : Str)) = false := by decide) (he : starEach (e :: es) X.env = (false, eval e X.env) :: starEach es X.env := by rfl) (hpl : (backTo pos (starEach es X.env)).any (·.1) = false := by rfl) :
    PE X (.Call (.Name x p) (e :: es) [] pos) (tCall sp dvs E t) := by
  intro pins s σ H Q I h
  refine wpAny_Call_Name_kw (ld_glob I hg hm ?_ hdb)
  refine PySem.W.callWith_K (h₀ := X.base) I.ok.mod.kin hk (thn (ha pos pins s σ H _ I h) fun us s1 ⟨vs, H1, I1, r, q⟩ => ⟨I1.kIn, ?_⟩) he hpl
  exact run_fn F hr hb hd hx I1 r q
end

/-! ### keywords -/
section
variable {X : Cx} {CX : CXT} {k : Nat} {f C : Addr} {fd : FuncData} {ps ks : List Str} {sp : Sp} {E : XK} {x m : Str} {p pos apos kpos : Pos} {e o : Expr} {es : List Expr} {kws : List Keyword} {te ta : TE} {t tk : TA} {nm : Option Str}
variable {g : List Value → List Value → List Value} {gV : List V → List V → List V}
end

/-! ### a def's body keeps its promise -/
/-- names: the parameters first -/
structure FnScope (N P : List Str) (sc : Scope) : Prop where
  kind : sc.kind = .function
  co : sc.isCoroutine = false
  gen : sc.isGenerator = false
  nd : N.Nodup
  pre : N.take P.length = P
  par : ∀ x ∈ P, sc.names.lookup x = some .local ∨ sc.names.lookup x = some .cell
  nofree : ∀ y ∈ sc.names, y.2 ≠ .free

theorem bindL_out {kindOf : Str → Option NameKind} {x : Str} : ∀ {binds : List (Str × Value)} {m : Str → Option Value}, (∀ v, (x, v) ∉ binds) → bindL kindOf binds m x = m x
  | [], _, _ => rfl
  | (n, v) :: r, m, h => by
    unfold bindL
    rw [bindL_out fun w hw => h w (List.mem_cons_of_mem _ hw)]
    split
    · have : x ≠ n := by rintro rfl; exact h v List.mem_cons_self
      simp [this]
    · rfl
theorem bindC_out {kindOf : Str → Option NameKind} {x : Str} : ∀ {binds : List (Str × Value)} {m : Str → Option Value}, (∀ v, (x, v) ∉ binds) → bindC kindOf binds m x = m x
  | [], _, _ => rfl
  | (n, v) :: r, m, h => by
    unfold bindC
    rw [bindC_out fun w hw => h w (List.mem_cons_of_mem _ hw)]
    split
    · rfl
    · have : x ≠ n := by rintro rfl; exact h v List.mem_cons_self
      simp [this]
theorem bindL_get {kindOf : Str → Option NameKind} {x : Str} {v : Value} : ∀ {P : List Str} {vs : List Value} {i : Nat} {m : Str → Option Value}, P.Nodup → P[i]? = some x → vs[i]? = some v → kindOf x = some .local →
    bindL kindOf (P.zip vs) m x = some v
  | [], _, _, _, _, h, _, _ => by simp at h
  | _ :: _, [], _, _, _, _, h, _ => by simp at h
  | p :: P, w :: vs, 0, m, nd, h1, h2, hk => by
    simp at h1 h2; subst h1; subst h2
    show bindL kindOf ((p, w) :: P.zip vs) m p = _
    unfold bindL
    rw [bindL_out fun v hv => (List.nodup_cons.mp nd).1 (List.of_mem_zip hv).1, if_pos hk]
    simp
  | p :: P, w :: vs, i + 1, m, nd, h1, h2, hk => by
    show bindL kindOf ((p, w) :: P.zip vs) m x = _
    unfold bindL
    exact bindL_get (i := i) (List.nodup_cons.mp nd).2 (by simpa using h1) (by simpa using h2) hk
theorem bindC_get {kindOf : Str → Option NameKind} {x : Str} {v : Value} : ∀ {P : List Str} {vs : List Value} {i : Nat} {m : Str → Option Value}, P.Nodup → P[i]? = some x → vs[i]? = some v → kindOf x ≠ some .local →
    bindC kindOf (P.zip vs) m x = some v
  | [], _, _, _, _, h, _, _ => by simp at h
  | _ :: _, [], _, _, _, _, h, _ => by simp at h
  | p :: P, w :: vs, 0, m, nd, h1, h2, hk => by
    simp at h1 h2; subst h1; subst h2
    show bindC kindOf ((p, w) :: P.zip vs) m p = _
    unfold bindC
    rw [bindC_out fun v hv => (List.nodup_cons.mp nd).1 (List.of_mem_zip hv).1, if_neg hk]
    simp
  | p :: P, w :: vs, i + 1, m, nd, h1, h2, hk => by
    show bindC kindOf ((p, w) :: P.zip vs) m x = _
    unfold bindC
    exact bindC_get (i := i) (List.nodup_cons.mp nd).2 (by simpa using h1) (by simpa using h2) hk

/-- the names' values at the entry -/
def start (N : List Str) (vs : List V) : St := vs.map some ++ List.replicate (N.length - vs.length) none

/-- the context of a def's body, at its entry; an exception leaves the frame, then lies as CX says -/
def cxOf (CX : CXT) (P : Program) (w : World) (K : PySem.W.Frag) (mg : Str → Option Value) (base : Heap) (N : List Str) (qual : Str) (scope : Scope) (f : Addr) (cd : Value) (A : Around) (outer : List Env) (s : Shared) (H : Hp) (E : XK) : Cx where
  prog := P
  w := w
  K := K
  mg := mg
  base := base
  A := A.deeper (envOfC qual scope s.heap.objs.size f cd)
  N := N
  s₀ := s
  H₀ := H
  env := envOfC qual scope s.heap.objs.size f cd
  outer := outer
  stack := envOfC qual scope s.heap.objs.size f cd :: outer
  ex := []
  calm := true
  fn := fun _ => true
  pn := []
  xe := fun e s' => wpAny (model P w) (A.deeper (envOfC qual scope s.heap.objs.size f cd)) (leaving (envOfC qual scope s.heap.objs.size f cd) e) (fun _ s'' => CX outer H s E e s'') (fun e' s'' => CX outer H s E e' s'') s'

theorem cell_has {sc : Scope} {n : Nat} {x : Str} (h : sc.names.lookup x = some .cell) : ∃ c, (cellsFrom n sc.names []).lookup x = some c := by
  have q := PySem.W.cellsFrom_some sc.names n [] (.inl h)
  exact Option.isSome_iff_exists.mp q

theorem inv_start {CX : CXT} {P : Program} {w : World} {K : PySem.W.Frag} {mg : Str → Option Value} {base : Heap} {N ps : List Str} {qual : Str} {scope : Scope} {f : Addr} {cd : Value} {A : Around} {outer : List Env} {s s1 : Shared} {H : Hp} {E : XK} {us : List Value} {vs : List V}
    (S : FnScope N ps scope) (hd : A.handled = none) (e0 : Env0 P w K mg base A outer s H) (hl : vs.length = ps.length) (r : Vals vs us)
    (x : InCallC s s.heap.objs.size (bindL (envOfC qual scope s.heap.objs.size f cd).kindOf (ps.zip us) fun _ => none) (cellsFrom (s.heap.objs.size + 1) scope.names []) (bindC (envOfC qual scope s.heap.objs.size f cd).kindOf (ps.zip us) fun _ => none) s1) :
    Inv (cxOf CX P w K mg base N qual scope f cd A outer s H E) [] (start N vs) H s1 := by
  have hpl : ps.length ≤ N.length := by have := congrArg List.length S.pre; rw [List.length_take] at this; omega
  obtain ⟨h1, tk, rfl, hk⟩ := x.done
  have noA : ∀ b : Addr, b ∉ (cxOf CX P w K mg base N qual scope f cd A outer s H E).ex := fun b z => absurd (show b ∈ ([] : List Addr) from z) (by simp)
  refine ⟨⟨e0.mod, S.kind, rfl, rfl, Nat.le_refl _, fun y z c h1 h2 => ?_, fun y hy => ?_, fun y c _ h => ?_, fun _ => hd, Around.frames_deeper e0.frames, .inr ⟨rfl, rfl⟩, fun b z => absurd z (noA b), e0.bs, e0.bsz, fun b _ _ => noA b, fun b z => absurd z (noA b), e0.funs, e0.frf⟩,
    rfl, e0.bare, Un.kept hk, ⟨_, x.toInCall.ns, fun i y v h1 h2 h3 => ?_⟩, fun y c h => ⟨_, x.cell y c h⟩, e0.hok.fresh (Nat.le_refl _), fun y c h => ?_, fun p hp => absurd (show p ∈ ([] : List (Addr × Obj)) from hp) (by simp), e0.hok.kept hk, ?_⟩
  · exact name_of_addr x.apart (PySem.mem_of_lookup h1) (PySem.mem_of_lookup h2)
  · have hy : scope.names.lookup y = some .cell ∨ scope.names.lookup y = some .free := hy
    rcases hy with hy | hy
    · exact cell_has hy
    · exact absurd rfl (S.nofree _ (PySem.mem_of_lookup hy))
  · exact Nat.le_of_lt (x.above y c (PySem.mem_of_lookup h))
  · have hi : i < vs.length := by
      unfold start at h2
      by_cases hi : i < vs.length
      · exact hi
      · rw [List.getElem?_append_right (by simpa using hi)] at h2
        rw [List.getElem?_replicate] at h2
        split at h2 <;> cases h2
    have ha : vs[i]? = some v := by
      unfold start at h2
      rw [List.getElem?_append_left (by simpa using hi), List.getElem?_map] at h2
      cases e : vs[i]? with
      | none => rw [e] at h2; cases h2
      | some a => rw [e] at h2; cases h2; rfl
    obtain ⟨u, hu, rv⟩ := r.get ha
    have hp : ps[i]? = some y := by
      rw [← S.pre, List.getElem?_take_of_lt (by omega)]; exact h1
    have ndP : ps.Nodup := by rw [← S.pre]; exact S.nd.sublist (List.take_sublist _ _)
    refine ⟨u, rv, ?_⟩
    rcases S.par y (List.mem_of_getElem? hp) with k | k
    · exact .inl ⟨k, bindL_get ndP hp hu k⟩
    · obtain ⟨c, e⟩ := cell_has (n := s.heap.objs.size + 1) k
      refine .inr ⟨.inl k, c, e, ?_⟩
      have q := x.cell y c e
      rw [bindC_get ndP hp hu (by show scope.names.lookup y ≠ _; rw [k]; decide)] at q
      exact q
  · exact e0.hok.fresh (Nat.le_of_lt (x.above y c (PySem.mem_of_lookup h)))
  · unfold start
    show _ = N.length
    rw [List.length_append, List.length_map, List.length_replicate]
    omega

/-- THE RULE: a def (or a method) of the text, by its body. The body's reading t is chosen for each entry; it is run at the parameters' values -/
theorem fn_of {CX : CXT} {P : Program} {w : World} {K : PySem.W.Frag} {mg : Str → Option Value} {base : Heap} {k : Nat} {f : Addr} {name qual : Str} {params : Arguments} {body : List Stmt} {scope : Scope} {dV kV doc pm cdv ct oc : Value} {an od : Option Addr}
    {osl : Array (Option Value)} {N ps : List Str} {sp : Sp} (lk : K.lookup f = some ⟨oc, od, .func (PySem.W.fnOf name qual params body scope dV kV doc pm an cdv ct), osl⟩) (hcd : PySem.W.codeIn K cdv qual = true) (S : FnScope N ps scope)
    (len : ∀ vs H Q E, sp vs H Q E → vs.length = ps.length)
    (hbody : ∀ (A : Around) (outer : List Env) (s : Shared) (H : Hp) (vs : List V) (Q : VK) (E : XK), Room k (A.deeper (envOfC qual scope s.heap.objs.size f cdv)) → sp vs H Q E →
      ∃ t, PSs (cxOf CX P w K mg base N qual scope f cdv A outer s H E) body t ∧ t { nx := fun _ H' => Q .non H', rt := Q } (start N vs) H) :
    FnOk P w K mg base CX (k + 1) f (PySem.W.fnOf name qual params body scope dV kV doc pm an cdv ct) ps sp := by
  refine ⟨len, fun A outer s H args us vs Q E hr e0 hb r hsp => ?_⟩
  have hl := len _ _ _ _ hsp
  have KX : K.In s.heap := e0.mod.kin.keeps fun b o e => (e0.bs b o e).1
  have lim : s.heap.NoLimit := e0.mod.nolimit.keeps fun b o e => (e0.bs b o e).1
  have hkind : ∀ y ∈ ps.zip us, scope.names.lookup y.1 = some .local ∨ (scope.names.lookup y.1 = some .cell ∧ ((cellsFrom (s.heap.objs.size + 1) scope.names []).lookup y.1).isSome = true) := fun ⟨n, v⟩ hy => by
    rcases S.par n (List.of_mem_zip hy).1 with q | q
    · exact .inl q
    · exact .inr ⟨q, PySem.W.cellsFrom_some _ _ _ (.inl q)⟩
  refine codeAny_call_function hr.depth (KX _ _ lk) rfl S.co S.gen rfl (PySem.W.codeRec_of KX hcd) (hb _ _ _ _ ?_)
  refine wpAny_newFunctionEnv_cells S.kind hkind fun env he s1 x => ?_
  subst he
  refine ⟨lim.keeps x.toInCall.keep, codeAny_func ?_⟩
  obtain ⟨t, ht, hq⟩ := hbody A outer s H vs Q E (hr.deeper _) hsp
  have I : Inv (cxOf CX P w K mg base N qual scope f cdv A outer s H E) [] (start N vs) H s1 := inv_start S hr.hd e0 hl r x
  refine wpAny_mono (ht [] s1 (start N vs) H _ I hq) (fun fl s' hs => ?_) fun e s' hs => hs
  have fin : ∀ {σ' : St} {H' : Hp} {v : V} {u : Value}, Inv (cxOf CX P w K mg base N qual scope f cdv A outer s H E) [] σ' H' s' → RelV v u → Q v H' → CE outer P w H s Q u s' :=
    fun {σ' H' v u} J rv q => ⟨v, H', J.os, J.bare, J.base, J.hok, rv, q⟩
  cases fl with
  | ret u =>
    obtain ⟨v, σ', H', J, rv, q⟩ := hs
    exact fin J rv q
  | next =>
    obtain ⟨σ', H', J, q⟩ := hs
    exact fin (v := V.non) (u := Value.none) J rfl q
  | brk =>
    obtain ⟨_, _, _, q⟩ := hs
    exact False.elim q
  | cont =>
    obtain ⟨_, _, _, q⟩ := hs
    exact False.elim q
end L2

namespace L2
open PySem PySem.Spec PyProof.Rows
section
variable {X : Cx} {x : Str} {p pos : Pos} {e : Expr} {es : List Expr} {t : TA} {id T : String} {r : List V → Hp → VK → Prop}

def tCB (r : List V → Hp → VK → Prop) (t : TA) : TE := fun σ H Q => t σ H fun vs H1 => r vs H1 Q
/-- f(e, ..), f a built-in function -/
theorem pe_callB (hc : CallR X (.builtin id) r) (hg : Gl X x) (hm : X.mg x = none) (hv : bootBuiltins x = some (.builtin id)) (ha : PA X (e :: es) t) (hn : x ≠ "__name__" := by decide) (hdb : (x == ("__debug__" : Str)) = false := by decide)
    (he : starEach (e :: es) X.env = (false, eval e X.env) :: starEach es X.env := by rfl) (hpl : (backTo pos (starEach es X.env)).any (·.1) = false := by rfl) : PE X (.Call (.Name x p) (e :: es) [] pos) (tCB r t) := by
  intro pins s σ H Q I h
  refine wpAny_Call_Name_kw (ld_blt I hg hm hv ?_ hn hdb)
  exact PyProof.Rows.callWith_builtin1 (thn (ha pos pins s σ H _ I h) fun us s1 ⟨vs, H1, I1, r1, q1⟩ => hc pins s1 σ H1 vs us Q I1 r1 q1) he hpl
/-- T(e, ..), T a built-in type -/
theorem pe_callTy (hc : CallR X (.type T) r) (hg : Gl X x) (hm : X.mg x = none) (hv : bootBuiltins x = some (.type T)) (ha : PA X (e :: es) t) (hn : x ≠ "__name__" := by decide) (hdb : (x == ("__debug__" : Str)) = false := by decide)
    (he : starEach (e :: es) X.env = (false, eval e X.env) :: starEach es X.env := by rfl) (hpl : (backTo pos (starEach es X.env)).any (·.1) = false := by rfl) : PE X (.Call (.Name x p) (e :: es) [] pos) (tCB r t) := by
  intro pins s σ H Q I h
  refine wpAny_Call_Name_kw (ld_blt I hg hm hv ?_ hn hdb)
  exact PyProof.Rows.callWith_type1 (thn (ha pos pins s σ H _ I h) fun us s1 ⟨vs, H1, I1, r1, q1⟩ => hc pins s1 σ H1 vs us Q I1 r1 q1) he hpl
end
end L2

namespace HT
open PySem PyProof.Rows

section
open PySem.SeqAt
open PySem.AutoSeq1 (wpAny_loadPart')
open PySem.MeetsSeq PySem.MeetsSeq2 PySem.MeetsSeq3

end

section
variable {prog : Program} {w : World} {A : Around} {E : Value → Shared → Prop} {s : Shared}

/-! ### t[a:b], not the whole -/
/-- a slice's bound as a place among n (d where it is left out) -/
def sIx (n d : Nat) : Option Int → Nat
  | none => d
  | some v => if v < 0 then (v + (n : Int)).toNat else min v.toNat n
theorem sIx_none (n d : Nat) : sIx n d none = d := rfl
theorem sIx_nat (n d k : Nat) : sIx n d (some (k : Int)) = min k n := by
  show (if (k : Int) < 0 then ((k : Int) + (n : Int)).toNat else min (k : Int).toNat n) = min k n
  rw [if_neg (by omega), Int.toNat_natCast]
end
end HT

namespace L2
open PySem PySem.Spec PyProof.Rows

/-! ### the parts of a slice -/
abbrev TO := St → Hp → (Option Int → Hp → Prop) → Prop
/-- a slice's part (left out, or an int) -/
def PO (X : Cx) (e : Option Expr) (t : TO) : Prop :=
  ∀ (pins : List (Addr × Obj)) (s : Shared) (σ : St) (H : Hp) (Q : Option Int → Hp → Prop), Inv X pins σ H s → t σ H Q →
    wpAny (model X.prog X.w) X.A (evalPart e X.env) (fun u s' => ∃ o H', Inv X pins σ H' s' ∧ IsPart u o ∧ Q o H') X.xe s
def tNoPart : TO := fun _ H Q => Q none H
def tPart (t : TE) : TO := fun σ H Q => t σ H fun x H1 => ∃ i, x = .int i ∧ Q (some i) H1

section
variable {X : Cx} {e : Expr} {te : TE} {lo hi : Option Expr} {tl th : TO} {pos p2 : Pos}

theorem po_none : PO X none tNoPart := by
  intro pins s σ H Q I h
  rw [evalPart_none]
  exact wpAny_pure ⟨none, H, I, .none, h⟩
theorem po_some (h : PE X e te) : PO X (some e) (tPart te) := by
  intro pins s σ H Q I hw
  rw [evalPart_some]
  refine thn (h pins s σ H _ I hw) fun u s1 ⟨x, H1, I1, r1, q1⟩ => ?_
  obtain ⟨i, rfl, q⟩ := q1
  obtain ⟨t, rfl⟩ := r1
  exact ⟨some i, H1, I1, .int i t, q⟩

/-- what a slice of a value is, by values: the slice object stands at sl -/
def SlR (X : Cx) (r : V → Option Int → Option Int → Hp → VK → Prop) : Prop :=
  ∀ (pins : List (Addr × Obj)) (s : Shared) (σ : St) (H : Hp) (x : V) (v vl vu : Value) (lo hi : Option Int) (sl : Addr) (Q : VK), Inv X pins σ H s → RelV x v → s.heap.IsSliceOf sl vl vu .none → IsPart vl lo → IsPart vu hi → r x lo hi H Q →
    ∃ T id, typeLookup (.type T) "__getitem__" = pure (some (.builtin id)) ∧ s.TypeIs v T ∧ wpAny (model X.prog X.w) X.A (getItem v (.ref sl)) (EP X pins σ Q) X.xe s
def tSl (r : V → Option Int → Option Int → Hp → VK → Prop) (te : TE) (tl th : TO) : TE := fun σ H Q => te σ H fun x H1 => tl σ H1 fun l H2 => th σ H2 fun u H3 => r x l u H3 Q
/-- a[lo:hi], any a -/
theorem pe_slice {r : V → Option Int → Option Int → Hp → VK → Prop} (hr : SlR X r) (he : PE X e te) (hl : PO X lo tl) (hu : PO X hi th) : PE X (.Subscript e (.Slice lo hi none p2) pos) (tSl r te tl th) := by
  intro pins s σ H Q I h
  refine Subscript_ (thn (he pins s σ H _ I h) fun v s1 ⟨x, H1, I1, r1, q1⟩ => ?_)
  refine wpAny_Slice (thn (hl pins s1 σ H1 _ I1 q1) fun vl s2 ⟨l, H2, I2, pl, q2⟩ => thn (hu pins s2 σ H2 _ I2 q2) fun vu s3 ⟨u, H3, I3, pu, q3⟩ => ?_)
  rw [evalPart_none]
  refine wpAny_pure ?_
  have I4 : Inv X pins σ H3 { s3 with heap := s3.heap.push { cls := .type "slice", data := .fields #[vl, vu, .none] } } := I3.kept (t' := s3.toks) fun b ob q => Heap.get?_push_of_some _ q
  obtain ⟨T, id, hT, ht, hg⟩ := hr pins { s3 with heap := s3.heap.push { cls := .type "slice", data := .fields #[vl, vu, .none] } } σ H3 x v vl vu l u s3.heap.objs.size Q I4 r1 (Heap.IsSliceOf.new ..) pl pu q3
  show wpAny (model X.prog X.w) X.A (subscriptTail e (.Slice lo hi none p2) v (.ref s3.heap.objs.size)) (EP X pins σ Q) X.xe { s3 with heap := s3.heap.push { cls := .type "slice", data := .fields #[vl, vu, .none] } }
  exact tail_any (ops := [.ref s3.heap.objs.size, v]) ht hT hg (by with_unfolding_all rfl)

/-- the items of xs[lo:hi] -/
def cutV (xs : List V) (lo hi : Option Int) : List V := (xs.drop (HT.sIx xs.length 0 lo)).take (HT.sIx xs.length xs.length hi - HT.sIx xs.length 0 lo)
theorem cutV_length (xs : List V) (lo hi : Option Int) : (cutV xs lo hi).length ≤ xs.length := by
  unfold cutV
  rw [List.length_take, List.length_drop]
  omega
/-! ### t < u, t + u -/
end
end L2

namespace L2
open PySem PySem.Spec PyProof.Rows

/-! ### places -/
/-- the place that an index of any sign means -/
def ixN (n : Nat) (i : Int) : Option Nat := if 0 ≤ i then (if i < n then some i.toNat else none) else if -(n : Int) ≤ i then some (i + n).toNat else none
def atI {α : Type} (xs : List α) (i : Int) : Option α := (ixN xs.length i).bind fun j => xs[j]?
theorem ixN_seq {n : Nat} {i : Int} {j : Nat} (h : ixN n i = some j) : seqIndex? i n = some j ∧ j < n ∧ -(n : Int) ≤ i ∧ i < n := by
  unfold ixN at h
  by_cases h0 : 0 ≤ i
  · rw [if_pos h0] at h
    by_cases h1 : i < n
    · rw [if_pos h1] at h
      have e : i.toNat = j := Option.some.inj h
      exact ⟨by rw [seqIndex_of h0 h1, e], by omega, by omega, h1⟩
    · rw [if_neg h1] at h; cases h
  · rw [if_neg h0] at h
    by_cases h1 : -(n : Int) ≤ i
    · rw [if_pos h1] at h
      have e : (i + n).toNat = j := Option.some.inj h
      exact ⟨by rw [seqIndex_neg (by omega) h1, e], by omega, h1, by omega⟩
    · rw [if_neg h1] at h; cases h
theorem atI_get {α : Type} {xs : List α} {i : Int} {v : α} (h : atI xs i = some v) : ∃ j, seqIndex? i xs.length = some j ∧ xs[j]? = some v ∧ j < xs.length ∧ -(xs.length : Int) ≤ i ∧ i < xs.length := by
  unfold atI at h
  cases e : ixN xs.length i with
  | none => rw [e] at h; cases h
  | some j =>
    rw [e] at h
    obtain ⟨h1, h2, h3, h4⟩ := ixN_seq e
    exact ⟨j, h1, h, h2, h3, h4⟩
theorem atI_nat {α : Type} {xs : List α} {j : Nat} {v : α} (h : xs[j]? = some v) : atI xs (j : Int) = some v := by
  have hj : j < xs.length := (List.getElem?_eq_some_iff.mp h).1
  have e : ixN xs.length (j : Int) = some j := by
    unfold ixN
    rw [if_pos (by omega), if_pos (by omega)]; simp
  unfold atI; rw [e]; exact h
/-! ### what may be subscripted -/
/-- what stands as an index of a plain subscript -/
def PlainIx (b : Expr) : Prop := ∀ o i, subscripted b false o i = operate [o, i] (getItem o i)
/-- a subscript by values -/
def IxR (X : Cx) (r : R2) : Prop :=
  ∀ (value slice : Expr) (pins : List (Addr × Obj)) (s : Shared) (σ : St) (H : Hp) (x y : V) (v u : Value) (Q : VK), Inv X pins σ H s → RelV x v → RelV y u → r x y H Q →
    subscripted slice false v u = operate [v, u] (getItem v u) → wpAny (model X.prog X.w) X.A (subscriptTail value slice v u) (EP X pins σ Q) X.xe s
/-- a call of a builtin's method by values: the receiver, the arguments -/
def MtR (X : Cx) (id : String) (r : V → List V → Hp → VK → Prop) : Prop :=
  ∀ (pins : List (Addr × Obj)) (s : Shared) (σ : St) (H : Hp) (x : V) (xs : List V) (v : Value) (us : List Value) (Q : VK), Inv X pins σ H s → RelV x v → Vals xs us → r x xs H Q →
    wpAny (model X.prog X.w) X.A (call (.builtin id) (v :: us)) (EP X pins σ Q) X.xe s
section
variable {X : Cx} {a b : Expr} {ta tb : TE} {pos : Pos}
theorem IxR.or {r r' : R2} (h : IxR X r) (h' : IxR X r') : IxR X (fun x y H Q => r x y H Q ∨ r' x y H Q) := by
  intro value slice pins s σ H x y v u Q I rx ry q hs
  rcases q with q | q
  · exact h value slice pins s σ H x y v u Q I rx ry q hs
  · exact h' value slice pins s σ H x y v u Q I rx ry q hs
/-- a[b] -/
theorem pe_ix {r : R2} (hr : IxR X r) (ha : PE X a ta) (hb : PE X b tb) (hs : PlainIx b) : PE X (.Subscript a b pos) (tOp r ta tb) := by
  intro pins s σ H Q I h
  exact Subscript_ (binT ha hb I h fun v u s2 x y H2 I2 rx ry q => hr a b pins s2 σ H2 x y v u Q I2 rx ry q (hs _ _))

def rIxL (K : PySem.W.Frag) : R2 := fun x y H Q => ∃ p xs i v, x = .ref p ∧ y = .int i ∧ SqL K H p xs ∧ atI xs i = some v ∧ Q v H
def rIxT (K : PySem.W.Frag) : R2 := fun x y H Q => ∃ p xs i v, x = .ref p ∧ y = .int i ∧ SqT K H p xs ∧ atI xs i = some v ∧ Q v H
def rIxS : R2 := fun x y H Q => ∃ z i c, x = .str z ∧ y = .int i ∧ z.length ≤ sizeLine ∧ atI z.cps.toList i = some c ∧ Q (.str ⟨#[c]⟩) H
theorem ix_list : IxR X (rIxL X.K) := by
  intro value slice pins s σ H x y v u Q I rx ry h hs
  obtain ⟨p, xs, i, z, rfl, rfl, hq, he, q⟩ := h
  cases rx
  obtain ⟨t, rfl⟩ := ry
  obtain ⟨its, r, pl, hz⟩ := I.list hq
  obtain ⟨j, h1, h2, h3, h4, h5⟩ := atI_get he
  obtain ⟨w, ew, rw'⟩ := r.get h2
  have hl := r.length
  have hn := line63
  have fin : EP X pins σ Q w s := ⟨z, H, I, rw', q⟩
  by_cases h0 : 0 ≤ i
  · have hj : i.toNat = j := by
      rw [seqIndex_of h0 h5] at h1
      exact Option.some.inj h1
    exact item_listR pl.isList h0 (by omega) (by rw [hj]; simpa using ew) fin hs
  · have hj : (i + (its.toArray.size : Int)).toNat = j := by
      rw [seqIndex_neg (by omega) h4] at h1
      rw [List.size_toArray, ← hl]
      exact Option.some.inj h1
    exact subscriptTail_builtinR (x := w) pl.isList.typeIs slot_list_getitem.lookup
      (wpAny_getItem_list_neg (Q := fun r s' => r = w ∧ EP X pins σ Q r s') pl.isList (by omega) (by rw [List.size_toArray] <;> omega) (by omega) (by rw [hj]; simpa using ew) ⟨rfl, fin⟩) hs
theorem ix_tup : IxR X (rIxT X.K) := by
  intro value slice pins s σ H x y v u Q I rx ry h hs
  obtain ⟨p, xs, i, z, rfl, rfl, hq, he, q⟩ := h
  cases rx
  obtain ⟨t, rfl⟩ := ry
  obtain ⟨its, r, pl, hz⟩ := I.tuple hq
  obtain ⟨j, h1, h2, h3, h4, h5⟩ := atI_get he
  obtain ⟨w, ew, rw'⟩ := r.get h2
  have hl := r.length
  have hn := line63
  have fin : EP X pins σ Q w s := ⟨z, H, I, rw', q⟩
  exact subscriptTail_builtinR (x := w) pl.typeIs slot_tuple_getitem.lookup
    (getItem_tuple (j := j) (Q := fun r s' => r = w ∧ EP X pins σ Q r s') pl (by omega) (by omega) (by rw [List.size_toArray, ← hl]; exact h1) (by simpa using ew) ⟨rfl, fin⟩) hs
theorem ix_str : IxR X rIxS := by
  intro value slice pins s σ H x y v u Q I rx ry h hs
  obtain ⟨z, i, c, rfl, rfl, hz, he, q⟩ := h
  obtain ⟨t, rfl⟩ := rx
  obtain ⟨t', rfl⟩ := ry
  obtain ⟨j, h1, h2, h3, h4, h5⟩ := atI_get he
  have hl : z.cps.toList.length = z.length := by simp [Str.length]
  rw [hl] at h1 h4 h5
  have hn := line63
  exact tail_any (typeIs_str s z t) slot_str_getitem.lookup (getItem_str (c := c) (by
    have e1 : decide (i < -(2 ^ 63 : Int)) = false := decide_eq_false (by omega)
    have e2 : decide (i ≥ 2 ^ 63) = false := decide_eq_false (by omega)
    rw [e1, e2, Bool.or_false]) (by rw [h1]; simpa using h2) ⟨.str ⟨#[c]⟩, H, I.tok _, ⟨_, rfl⟩, q⟩) hs
/-- list, tuple or str -/
def rIx (K : PySem.W.Frag) : R2 := fun x y H Q => rIxL K x y H Q ∨ rIxT K x y H Q ∨ rIxS x y H Q
theorem ix_seq : IxR X (rIx X.K) := ix_list.or (ix_tup.or ix_str)

/-! ### xs[i] = v, any sign -/
/-- the list's object behind a store -/
theorem mapSeq_set (its : List Value) (n j : Nat) (u : Value) : Obj.mapSeq (·.setIfInBounds j u) { cls := .type "list", data := .seq its.toArray n } = { cls := .type "list", data := .seq (its.set j u).toArray n } := by
  simp [Obj.mapSeq]
theorem Inv.lst {pins : List (Addr × Obj)} {σ : St} {H : Hp} {s : Shared} {p : Addr} {xs : List V} (I : Inv X pins σ H s) (h : H p = some (.lst xs)) :
    ∃ (its : List Value) (n : Nat), Vals xs its ∧ s.heap.get? p = some { cls := .type "list", data := .seq its.toArray n } ∧ xs.length ≤ sizeLine := by
  obtain ⟨z, its, n, r, e⟩ := I.hok p _ h
  exact ⟨its, n, r, e, z⟩
/-- the list at p is written by an update of its object -/
theorem Inv.lstUpd {pins : List (Addr × Obj)} {σ : St} {H : Hp} {s : Shared} {p : Addr} {xs ys : List V} {its its' : List Value} {n n' : Nat} {f : Obj → Obj} (I : Inv X pins σ H s) (h : H p = some (.lst xs))
    (ho : s.heap.get? p = some { cls := .type "list", data := .seq its.toArray n }) (hf : f { cls := .type "list", data := .seq its.toArray n } = { cls := .type "list", data := .seq its'.toArray n' }) (r : Vals ys its') (hz : ys.length ≤ sizeLine) (t : Nat) :
    Inv X pins σ (upd H p (.lst ys)) { s with heap := s.heap.update p f, toks := t } := by
  have e : (s.heap.update p f).get? p = some { cls := .type "list", data := .seq its'.toArray n' } := by
    rw [Heap.get?_update_self f ho (by rw [hf] <;> rfl), hf]
  refine I.write (x := p) (e := p) (by rw [h]; trivial) (.inl rfl) (fun b u hb q => (Heap.get?_update_other _ _ (Ne.symm hb)).trans q) ⟨_, e⟩ ?_
  exact ⟨hz, its', n', r, e⟩
def rSetL : V → V → V → Hp → (Hp → Prop) → Prop := fun o i v H Q => ∃ p xs k j, o = .ref p ∧ i = .int k ∧ H p = some (.lst xs) ∧ ixN xs.length k = some j ∧ Q (upd H p (.lst (xs.set j v)))
theorem set_list : PSet X rSetL := by
  intro pins s σ H o i v ov iv u Q I ro ri rv h
  obtain ⟨p, xs, k, j, rfl, rfl, hp, hj, q⟩ := h
  cases ro
  obtain ⟨t, rfl⟩ := ri
  obtain ⟨its, n, r, ho, hz⟩ := I.lst hp
  obtain ⟨h1, h2, h3, h4⟩ := ixN_seq hj
  have hl := r.length
  have hn := line63
  have I' : Inv X pins σ (upd H p (.lst (xs.set j v))) { s with heap := s.heap.update p (Obj.mapSeq (·.setIfInBounds j u)) } :=
    I.lstUpd hp ho (mapSeq_set its n j u) (r.set rv j) (by rw [List.length_set]; exact hz) s.toks
  by_cases h0 : 0 ≤ k
  · have hk : k.toNat = j := by
      rw [seqIndex_of h0 h4] at h1
      exact Option.some.inj h1
    exact PySem.W.ki_setAt ho h0 (by omega) (by rw [List.size_toArray, ← hl]; exact h4) (by rw [hk]; exact ⟨_, I', q⟩)
  · have hk : (k + (its.toArray.size : Int)).toNat = j := by
      rw [seqIndex_neg (by omega) h3] at h1
      rw [List.size_toArray, ← hl]
      exact Option.some.inj h1
    exact PySem.W.ki_setBack ho (by omega) (by rw [List.size_toArray, ← hl]; exact h3) (by omega) (by rw [hk]; exact ⟨_, I', q⟩)

/-! ### slices -/
theorem slice_bounds (lo hi : Option Int) (n : Nat) : (sliceBounds lo hi none n).1 = ((HT.sIx n 0 lo : Nat) : Int) ∧ (sliceBounds lo hi none n).2.1 = ((HT.sIx n n hi : Nat) : Int) ∧ (sliceBounds lo hi none n).2.2 = 1 := by
  refine ⟨?_, ?_, rfl⟩
  · cases lo with
    | none => simp [sliceBounds, HT.sIx]
    | some i =>
      simp only [sliceBounds, HT.sIx, Option.getD_none, show (1 : Int) > 0 by decide, if_true]
      by_cases h : i < 0
      · simp only [h, if_true] <;> omega
      · simp only [h, if_false] <;> omega
  · cases hi with
    | none => simp [sliceBounds, HT.sIx]
    | some i =>
      simp only [sliceBounds, HT.sIx, Option.getD_none, show (1 : Int) > 0 by decide, if_true]
      by_cases h : i < 0
      · simp only [h, if_true] <;> omega
      · simp only [h, if_false] <;> omega
theorem slicePick_cut (its : List Value) (lo hi : Option Int) : slicePick its.toArray lo hi none = ((its.drop (HT.sIx its.length 0 lo)).take (HT.sIx its.length its.length hi - HT.sIx its.length 0 lo)).toArray := by
  obtain ⟨h1, h2, h3⟩ := slice_bounds lo hi its.toArray.size
  unfold slicePick
  rw [h1, h2, h3]
  simp only [sliceRange_one, pick_run, List.size_toArray] <;> rfl
/-- xs[lo:hi] of a list: a new list -/
def rSlL (K : PySem.W.Frag) : V → Option Int → Option Int → Hp → VK → Prop := fun x lo hi H Q => ∃ a xs, x = .ref a ∧ SqL K H a xs ∧ ∀ p, H p = none → Q (.ref p) (upd H p (.lst (cutV xs lo hi)))
theorem sl_list : SlR X (rSlL X.K) := by
  intro pins s σ H x v vl vu lo hi sl Q I rx hs pl pu h
  obtain ⟨a, xs, rfl, hx, q⟩ := h
  cases rx
  obtain ⟨its, r, ht, hz⟩ := I.list hx
  have hlen := r.length
  refine ⟨"list", _, slot_list_getitem.lookup, ht.isList.typeIs, ?_⟩
  refine wpAny_getItem_list_slice ht.isList hs pl pu .none (by simp) ?_ (by rw [List.size_toArray] <;> omega)
  rw [slicePick_cut, ← hlen]
  refine ⟨.ref s.heap.objs.size, _, I.laid (t' := s.toks) (o := .lst (cutV xs lo hi)) (fun b ob q => Heap.get?_push_of_some _ q) (Nat.le_refl _) ?_, rfl, q _ (I.hok.fresh (Nat.le_refl _))⟩
  exact ⟨Nat.le_trans (cutV_length xs lo hi) hz, _, 0, (r.drop (HT.sIx xs.length 0 lo)).take (HT.sIx xs.length xs.length hi - HT.sIx xs.length 0 lo), Heap.get?_push_size _ rfl⟩

/-! ### in, not in: flat items -/
def flatV : V → Bool
  | .non => true
  | .bl _ => true
  | .int _ => true
  | .str _ => true
  | _ => false
/-- == of flat values -/
def eqV : V → V → Bool
  | .non, .non => true
  | .bl a, .bl b => a == b
  | .bl a, .int b => (if a then 1 else 0) == b
  | .int a, .bl b => a == (if b then 1 else 0)
  | .int a, .int b => a == b
  | .str a, .str b => a == b
  | _, _ => false
theorem eqAt_V {A : Around} {s : Shared} {y x : V} {u v : Value} (ry : RelV y u) (rx : RelV x v) (fy : flatV y = true) (fx : flatV x = true) : SeqAt.EqAt A s u v (eqV y x) := by
  cases y with
  | non =>
    cases ry
    cases x with
    | non => cases rx; exact SeqAt.EqAt.same _
    | bl b => cases rx; exact SeqAt.EqAt.none_bool b
    | int b => obtain ⟨t, rfl⟩ := rx; exact SeqAt.EqAt.none_int b t
    | str b => obtain ⟨t, rfl⟩ := rx; exact SeqAt.EqAt.none_str b t
    | _ => exact absurd (show false = true from fx) Bool.false_ne_true
  | bl a =>
    cases ry
    cases x with
    | non => cases rx; exact SeqAt.EqAt.bool_none a
    | bl b => cases rx; exact SeqAt.EqAt.bool_bool a b
    | int b => obtain ⟨t, rfl⟩ := rx; exact SeqAt.EqAt.bool_int a b t
    | str b => obtain ⟨t, rfl⟩ := rx; exact SeqAt.EqAt.bool_str a b t
    | _ => exact absurd (show false = true from fx) Bool.false_ne_true
  | int a =>
    obtain ⟨t', rfl⟩ := ry
    cases x with
    | non => cases rx; exact SeqAt.EqAt.int_none a t'
    | bl b => cases rx; exact SeqAt.EqAt.int_bool a t' b
    | int b => obtain ⟨t, rfl⟩ := rx; exact SeqAt.EqAt.int_int a t' b t
    | str b => obtain ⟨t, rfl⟩ := rx; exact SeqAt.EqAt.int_str a t' b t
    | _ => exact absurd (show false = true from fx) Bool.false_ne_true
  | str a =>
    obtain ⟨t', rfl⟩ := ry
    cases x with
    | non => cases rx; exact SeqAt.EqAt.str_none a t'
    | bl b => cases rx; exact SeqAt.EqAt.str_bool a t' b
    | int b => obtain ⟨t, rfl⟩ := rx; exact SeqAt.EqAt.str_int a t' b t
    | str b => obtain ⟨t, rfl⟩ := rx; exact SeqAt.EqAt.str_str a t' b t
    | _ => exact absurd (show false = true from fx) Bool.false_ne_true
  | _ => exact absurd (show false = true from fy) Bool.false_ne_true
/-- the items' answers, read off the values (a value's own answer does not lean on its token) -/
def eqU (x : V) (u : Value) : Bool := match u with
  | .none => eqV .non x
  | .bool b => eqV (.bl b) x
  | .int i _ => eqV (.int i) x
  | .str z _ => eqV (.str z) x
  | _ => false
theorem eqU_of {x y : V} {u : Value} (r : RelV y u) (f : flatV y = true) : eqU x u = eqV y x := by
  cases y with
  | non => cases r; rfl
  | bl b => cases r; rfl
  | int i => obtain ⟨t, rfl⟩ := r; rfl
  | str z => obtain ⟨t, rfl⟩ := r; rfl
  | _ => exact absurd (show false = true from f) Bool.false_ne_true
theorem any_eqU {x : V} : ∀ {xs : List V} {us : List Value}, Vals xs us → xs.all flatV = true → us.any (eqU x) = xs.any fun y => eqV y x
  | _, _, .nil, _ => rfl
  | y :: xs, u :: us, .cons r t, f => by
    rw [List.all_cons, Bool.and_eq_true] at f
    rw [List.any_cons, List.any_cons, eqU_of r f.1, any_eqU t f.2]
theorem mem_eqAt {A : Around} {s : Shared} {x : V} {v : Value} (rx : RelV x v) (fx : flatV x = true) : ∀ {xs : List V} {us : List Value}, Vals xs us → xs.all flatV = true → ∀ u ∈ us, SeqAt.EqAt A s u v (eqU x u)
  | _, _, .nil, _ => fun u hu => by cases hu
  | y :: xs, u :: us, .cons r t, f => fun u' hu => by
    rw [List.all_cons, Bool.and_eq_true] at f
    rcases List.mem_cons.mp hu with rfl | hu
    · rw [eqU_of r f.1]; exact eqAt_V r rx f.1 fx
    · exact mem_eqAt rx fx t f.2 u' hu
def inV (x : V) (xs : List V) : Bool := xs.any fun y => eqV y x
/-- x in a list or tuple of flat items -/
def rIn (K : PySem.W.Frag) (neg : Bool) : R2 := fun x y H Q => ∃ p xs, y = .ref p ∧ (SqL K H p xs ∨ SqT K H p xs) ∧ flatV x = true ∧ xs.all flatV = true ∧ Q (.bl (if neg then !inV x xs else inV x xs)) H
theorem op_in_seq : OpR X (compareOp .In) (rIn X.K false) := by
  intro pins s σ H x y v u Q I rx ry h
  obtain ⟨p, xs, rfl, hq, fx, fs, q⟩ := h
  cases ry
  rcases hq with hq | hq
  · obtain ⟨its, r, pl, hz⟩ := I.list hq
    refine SeqAt.in_listAt (eqU x) pl.isList (fun w hw => mem_eqAt rx fx r fs w (by simpa using hw)) ⟨.bl _, H, I, rfl, ?_⟩
    rw [show its.toArray.any (eqU x) = its.any (eqU x) by simp, any_eqU r fs]
    exact q
  · obtain ⟨its, r, pl, hz⟩ := I.tuple hq
    refine SeqAt.in_tupleAt (eqU x) pl (fun w hw => mem_eqAt rx fx r fs w (by simpa using hw)) ⟨.bl _, H, I, rfl, ?_⟩
    rw [show its.toArray.any (eqU x) = its.any (eqU x) by simp, any_eqU r fs]
    exact q
theorem op_notIn_seq : OpR X (compareOp .NotIn) (rIn X.K true) := by
  intro pins s σ H x y v u Q I rx ry h
  obtain ⟨p, xs, rfl, hq, fx, fs, q⟩ := h
  cases ry
  rcases hq with hq | hq
  · obtain ⟨its, r, pl, hz⟩ := I.list hq
    refine SeqAt.notIn_listAt (eqU x) pl.isList (fun w hw => mem_eqAt rx fx r fs w (by simpa using hw)) ⟨.bl _, H, I, rfl, ?_⟩
    rw [show its.toArray.any (eqU x) = its.any (eqU x) by simp, any_eqU r fs]
    exact q
  · obtain ⟨its, r, pl, hz⟩ := I.tuple hq
    refine SeqAt.notIn_tupleAt (eqU x) pl (fun w hw => mem_eqAt rx fx r fs w (by simpa using hw)) ⟨.bl _, H, I, rfl, ?_⟩
    rw [show its.toArray.any (eqU x) = its.any (eqU x) by simp, any_eqU r fs]
    exact q
/-! ### len, list(x), tuple(x) of any list or tuple that is read -/
theorem call_len_seq : CallR X (.builtin "len") (fun xs H Q => ∃ p ys, xs = [.ref p] ∧ (SqL X.K H p ys ∨ SqT X.K H p ys) ∧ Q (.int ys.length) H) := by
  intro pins s σ H xs us Q I r h
  obtain ⟨p, ys, rfl, hq, q⟩ := h
  obtain ⟨u, rfl, rx⟩ := vals1 r
  cases rx
  have hn := line63
  rcases hq with hq | hq
  · obtain ⟨its, r', pl, hz⟩ := I.list hq
    have hlen := r'.length
    exact Calls.call_len_list pl.isList (by simp only [List.size_toArray] <;> omega) ⟨.int ys.length, H, I.tok _, ⟨s.toks + 1, by rw [List.size_toArray, hlen]⟩, q⟩
  · obtain ⟨its, r', pl, hz⟩ := I.tuple hq
    have hlen := r'.length
    exact len_tuple pl (by simp only [List.size_toArray] <;> omega) ⟨.int ys.length, H, I.tok _, ⟨s.toks + 1, by rw [List.size_toArray, hlen]⟩, q⟩
theorem call_list_of : CallR X (.type "list") (fun xs H Q => ∃ p ys, xs = [.ref p] ∧ (SqL X.K H p ys ∨ SqT X.K H p ys) ∧ ∀ l, H l = none → Q (.ref l) (upd H l (.lst ys))) := by
  intro pins s σ H xs us Q I r h
  obtain ⟨p, ys, rfl, hq, q⟩ := h
  obtain ⟨u, rfl, rx⟩ := vals1 r
  cases rx
  have fin : ∀ (its : List Value), Vals ys its → ys.length ≤ sizeLine → ∀ (h' : Heap) (c' : Nat), (∀ b o', s.heap.get? b = some o' → h'.get? b = some o') →
      h'.get? s.heap.objs.size = some { cls := .type "list", dict := none, data := .seq its.toArray c', slots := #[] } → EP X pins σ Q (.ref s.heap.objs.size) { s with heap := h' } := fun its r' hz h' c' kp e =>
    ⟨.ref s.heap.objs.size, _, I.laid (t' := s.toks) kp (Nat.le_refl _) (show ObjOk X.prog X.w _ h' _ (.lst ys) from ⟨hz, its, c', r', e⟩), rfl, q _ (I.hok.fresh (Nat.le_refl _))⟩
  rcases hq with hq | hq
  · obtain ⟨its, r', pl, hz⟩ := I.list hq
    have hlen := r'.length
    obtain ⟨o, ho, hc, n, hd⟩ := pl.isList
    exact call_list_seq p (.inl rfl) ho hc hd (fun h' c' kp e => fin its r' hz h' c' kp e) (by simp only [List.size_toArray] <;> omega)
  · obtain ⟨its, r', pl, hz⟩ := I.tuple hq
    have hlen := r'.length
    obtain ⟨o, ho, hc, n, hd⟩ := pl
    exact call_list_seq p (.inr rfl) ho hc hd (fun h' c' kp e => fin its r' hz h' c' kp e) (by simp only [List.size_toArray] <;> omega)
/-! ### the call of a builtin's method: o.m(..) -/
/-- the value is of that builtin type -/
def tyV (K : PySem.W.Frag) (T : String) (x : V) (H : Hp) : Prop := match x with
  | .str _ => T = "str"
  | .int _ => T = "int"
  | .ref p => (T = "list" ∧ ∃ xs, SqL K H p xs) ∨ (T = "tuple" ∧ ∃ o, K.lookup p = some o ∧ o.cls = .type "tuple" ∧ o.dict = none) ∨
      (T = "dict" ∧ ((∃ kvs, H p = some (.dK kvs)) ∨ ∃ kvs, H p = some (.dT kvs))) ∨ (T = "set" ∧ ∃ S n, H p = some (.set S n))
  | _ => False
theorem tyV_is {pins : List (Addr × Obj)} {σ : St} {H : Hp} {s : Shared} {T : String} {x : V} {v : Value} (I : Inv X pins σ H s) (r : RelV x v) (ty : tyV X.K T x H) :
    s.TypeIs v T ∧ ∀ a, v = .ref a → ∃ ob, s.heap.get? a = some ob ∧ ob.dict = none := by
  cases x with
  | str z =>
    obtain ⟨t, rfl⟩ := r
    cases (show T = "str" from ty)
    exact ⟨typeIs_str s z t, fun _ e => nomatch e⟩
  | int i =>
    obtain ⟨t, rfl⟩ := r
    cases (show T = "int" from ty)
    exact ⟨typeIs_int s i t, fun _ e => nomatch e⟩
  | ref p =>
    cases r
    rcases ty with ⟨rfl, xs, hq⟩ | ⟨rfl, o, hk, hc, hd⟩ | ⟨rfl, hk⟩ | ⟨rfl, S, n, hk⟩
    · obtain ⟨its, _, pl, _⟩ := I.list hq
      refine ⟨pl.isList.typeIs, fun a e => ?_⟩
      cases e
      obtain ⟨o, n, e, c, hd, _⟩ := pl
      exact ⟨o, e, hd⟩
    · refine ⟨⟨o, I.kIn p o hk, hc⟩, fun a e => ?_⟩
      cases e
      exact ⟨o, I.kIn _ o hk, hd⟩
    · have z : ∃ o, s.heap.get? p = some o ∧ o.ExactDict := by
        rcases hk with ⟨kvs, hk⟩ | ⟨kvs, hk⟩
        · obtain ⟨_, _, _, _, o, _, _, e, ex, _⟩ := I.hok p _ hk
          exact ⟨o, e, ex⟩
        · obtain ⟨_, _, _, _, o, _, _, e, ex, _⟩ := I.hok p _ hk
          exact ⟨o, e, ex⟩
      obtain ⟨o, e, ex⟩ := z
      refine ⟨⟨o, e, ex.1⟩, fun a e2 => ?_⟩
      cases e2
      exact ⟨o, e, ex.2.1⟩
    · obtain ⟨o, _, _, _, e, ex, _⟩ := I.hok p _ hk
      refine ⟨⟨o, e, ex.1⟩, fun a e2 => ?_⟩
      cases e2
      exact ⟨o, e, ex.2.1⟩
  | _ => exact False.elim ty
def tBM0 (K : PySem.W.Frag) (T : String) (r : V → List V → Hp → VK → Prop) (to : TE) : TE := fun σ H Q => to σ H fun x H1 => tyV K T x H1 ∧ r x [] H1 Q
def tBM (K : PySem.W.Frag) (T : String) (r : V → List V → Hp → VK → Prop) (to : TE) (t : TA) : TE := fun σ H Q => to σ H fun x H1 => tyV K T x H1 ∧ t σ H1 fun xs H2 => r x xs H2 Q
variable {o e : Expr} {es : List Expr} {to : TE} {t : TA} {name : Str} {apos cpos : Pos} {T id : String} {r : V → List V → Hp → VK → Prop}
theorem pe_bm0 (pa : PlainAttrs T) (slot : Slot T name id) (hty : typeOf (.builtin id) = pure (.type "method_descriptor")) (hm : MtR X id r) (ho : PE X o to)
    (hbase : attributeBase o name X.env (eval o X.env) = eval o X.env := by rfl) (hline : (apos.endLine == cpos.line) = true := by rfl) : PE X (.Call (.Attribute o name apos) [] [] cpos) (tBM0 X.K T r to) := by
  intro pins s σ H Q I h
  refine wpAny_Call_method0_late hbase hline (thn (ho pins s σ H _ I h) fun v s1 ⟨x, H1, I1, r1, ty, q1⟩ => ?_)
  obtain ⟨h1, h2⟩ := tyV_is I1 r1 ty
  exact ⟨T, id, pa, slot, hty, h1, h2, Calls.callWith_builtin rfl (PySem.evalArgs_none (hm pins s1 σ H1 x [] v [] Q I1 r1 .nil q1))⟩
theorem pe_bm (pa : PlainAttrs T) (slot : Slot T name id) (hty : typeOf (.builtin id) = pure (.type "method_descriptor")) (hm : MtR X id r) (ho : PE X o to) (ha : PA X (e :: es) t)
    (hbase : attributeBase o name X.env (eval o X.env) = eval o X.env := by rfl)
    (hfew : ((backTo cpos (starEach (e :: es) X.env)).all (fun x => !x.1) && (backToKw cpos (keywordEach [] X.env)).all (fun x => x.1.isSome)
      && decide ((e :: es).length + ([] : List Keyword).length + (if ([] : List Keyword).isEmpty then 0 else 1) < 30)) = true := by rfl)
    (hline : (apos.endLine == cpos.line) = true := by rfl) (hs : starEach (e :: es) X.env = (false, eval e X.env) :: starEach es X.env := by rfl) (hplain : (backTo cpos (starEach es X.env)).any (·.1) = false := by rfl) :
    PE X (.Call (.Attribute o name apos) (e :: es) [] cpos) (tBM X.K T r to t) := by
  intro pins s σ H Q I h
  refine wpAny_Call_method_late hbase hfew hline rfl (thn (ho pins s σ H _ I h) fun v s1 ⟨x, H1, I1, r1, ty, q1⟩ => ?_)
  obtain ⟨h1, h2⟩ := tyV_is I1 r1 ty
  refine ⟨T, id, pa, slot, hty, h1, h2, ?_⟩
  have hA := ha cpos pins s1 σ H1 _ I1 q1
  rw [hs] at hA ⊢
  refine Calls.callWith_builtin (by show (false || (backTo cpos (starEach es X.env)).any (·.1)) = false; rw [hplain] <;> rfl) (Calls.evalArgs_plain ?_)
  exact thn hA fun us s2 ⟨vs, H2, I2, r2, q2⟩ => hm pins s2 σ H2 x vs v us Q I2 r1 r2 q2
/- xs.append(e), list.index on a module's tuple .. are MtR facts of 06m -/
end
end L2

namespace L2
open PySem PySem.Spec PyProof.Rows

def MtM (X : Cx) (id : String) (r : V → List V → Hp → VK → Prop) : Prop :=
  ∀ (pins : List (Addr × Obj)) (s : Shared) (σ : St) (H : Hp) (x : V) (xs : List V) (v : Value) (us : List Value) (Q : VK), Inv X pins σ H s → RelV x v → Vals xs us → r x xs H Q →
    wpAny (model X.prog X.w) X.A (call (.builtin id) (v :: us)) (EP X pins σ Q) X.xe s

/-! ### lists of values -/
theorem Vals.one : ∀ {x : V} {us : List Value}, Vals [x] us → ∃ u, us = [u] ∧ RelV x u
  | _, _, .cons r .nil => ⟨_, rfl, r⟩
theorem Vals.zero : ∀ {us : List Value}, Vals [] us → us = []
  | _, .nil => rfl
theorem Vals.dropLast {xs : List V} {us : List Value} (h : Vals xs us) : Vals xs.dropLast us.dropLast := by
  induction h with
  | nil => exact .nil
  | cons r t ih =>
    cases t with
    | nil => exact .nil
    | cons q t' => exact .cons r ih
theorem erase_last {α : Type} (l : List α) : l.eraseIdx (l.length - 1) = l.dropLast := by
  induction l with
  | nil => rfl
  | cons a r ih =>
    cases r with
    | nil => rfl
    | cons b r =>
      have e : (a :: b :: r).length - 1 = ((b :: r).length - 1) + 1 := by
        have h1 : (a :: b :: r).length = r.length + 2 := rfl
        have h2 : (b :: r).length = r.length + 1 := rfl
        omega
      rw [e, List.eraseIdx_cons_succ, ih]
      all_goals rfl
section
variable {X : Cx} {pins : List (Addr × Obj)} {σ : St} {H : Hp} {s : Shared} {l b : Addr} {xs ys zs : List V}

/-! ### the two steps: a tracked list is rewritten, a new list is laid -/
theorem Inv.lset {its its' : List Value} {n : Nat} {f : Array Value → Array Value} {t' : Nat} (I : Inv X pins σ H s) (hH : H l = some (.lst xs))
    (e : s.heap.get? l = some { cls := .type "list", data := .seq its.toArray n }) (hf : f its.toArray = its'.toArray) (hv : Vals ys its') (hz : ys.length ≤ sizeLine) :
    Inv X pins σ (upd H l (.lst ys)) { s with heap := s.heap.update l (Obj.mapSeq f), toks := t' } := by
  have q := PySem.IsL.update e f
  rw [hf] at q
  refine I.write (x := l) (e := l) (by rw [hH]; exact trivial) (.inl rfl) (fun b' u hb hu => (Heap.get?_update_other s.heap (Obj.mapSeq f) (Ne.symm hb)).trans hu) ⟨_, q⟩ ?_
  exact ⟨hz, its', _, hv, q⟩
theorem Inv.lnew {its : List Value} {t' : Nat} (I : Inv X pins σ H s) (hv : Vals ys its) (hz : ys.length ≤ sizeLine) :
    Inv X pins σ (upd H s.heap.objs.size (.lst ys)) { s with heap := s.heap.push { cls := .type "list", data := .seq its.toArray }, toks := t' } :=
  I.laid (fun _ _ q => Heap.get?_push_of_some _ q) (Nat.le_refl _) ⟨hz, its, 0, hv, Heap.get?_push_size _ rfl⟩
theorem Inv.fresh (I : Inv X pins σ H s) : H s.heap.objs.size = none := I.hok.fresh (Nat.le_refl _)
theorem Inv.lstM (I : Inv X pins σ H s) (hH : H l = some (.lst xs)) : xs.length ≤ sizeLine ∧ ∃ (its : List Value) (n : Nat), Vals xs its ∧ xs.length = its.length ∧ s.heap.get? l = some { cls := .type "list", data := .seq its.toArray n } := by
  obtain ⟨z, its, n, r, e⟩ := I.hok l _ hH
  exact ⟨z, its, n, r, r.length, e⟩

end

section
variable {X : Cx}

/-! ### methods -/
def rAppend : V → List V → Hp → VK → Prop := fun x vs H Q => ∃ l xs y, x = .ref l ∧ vs = [y] ∧ H l = some (.lst xs) ∧ xs.length < sizeLine ∧ Q .non (upd H l (.lst (xs ++ [y])))
theorem mt_append : MtM X "list.append" rAppend := by
  intro pins s σ H x vs v us Q I rx rv h
  obtain ⟨l, xs, y, rfl, rfl, hH, hz, q⟩ := h
  cases rx
  obtain ⟨u, rfl, ru⟩ := rv.one
  obtain ⟨z, its, n, r, hl, e⟩ := I.lstM hH
  refine call_meets F.slot_list_append ⟨_, e, rfl⟩ F.entry_list_append (F.args_list_append_2 _ _) (PySem.list_append l its.toArray n u (by rw [List.size_toArray]; omega)) ⟨e, ?_⟩
  refine ⟨.non, _, I.lset (its' := its ++ [u]) hH e (by simp) (r.append (.cons ru .nil)) ?_, rfl, q⟩
  rw [List.length_append, List.length_singleton]
  omega

def rPop : V → List V → Hp → VK → Prop := fun x vs H Q => ∃ l xs y, x = .ref l ∧ vs = [] ∧ H l = some (.lst xs) ∧ xs[xs.length - 1]? = some y ∧ Q y (upd H l (.lst xs.dropLast))
theorem mt_pop : MtM X "list.pop" rPop := by
  intro pins s σ H x vs v us Q I rx rv h
  obtain ⟨l, xs, y, rfl, rfl, hH, hy, q⟩ := h
  cases rx
  have hus := rv.zero
  subst hus
  obtain ⟨z, its, n, r, hl, e⟩ := I.lstM hH
  obtain ⟨u, hu, ru⟩ := r.get hy
  have hy' : its.toArray[its.toArray.size - 1]? = some u := by
    show its.toArray[its.length - 1]? = some u
    rw [← Array.getElem?_toList, ← hl]
    exact hu
  refine call_meets F.slot_list_pop ⟨_, e, rfl⟩ F.entry_list_pop (F.args_list_pop_1 _) (MeetsSeq.list_pop_last l its.toArray n u hy' (by rw [List.size_toArray]; omega)) ⟨e, ?_⟩
  refine ⟨y, _, I.lset (its' := its.dropLast) hH e ?_ r.dropLast ?_, ru, q⟩
  · show its.toArray.eraseIdxIfInBounds (its.toArray.size - 1) = its.dropLast.toArray
    rw [List.size_toArray, List.eraseIdxIfInBounds_toArray, erase_last]
  · rw [List.length_dropLast]
    omega

/-! ### list + list, list += list, list * int -/
def rCat : R2 := fun x y H Q => ∃ l b xs zs, x = .ref l ∧ y = .ref b ∧ H l = some (.lst xs) ∧ H b = some (.lst zs) ∧ xs.length + zs.length ≤ sizeLine ∧ ∀ p, H p = none → Q (.ref p) (upd H p (.lst (xs ++ zs)))
theorem op_cat : OpR X (binaryOp .Add) rCat := by
  intro pins s σ H x y v u Q I rx ry h
  obtain ⟨l, b, xs, zs, rfl, rfl, hH, hB, hz, q⟩ := h
  cases rx
  cases ry
  obtain ⟨z, its, n, r, hl, e⟩ := I.lstM hH
  obtain ⟨z2, its2, n2, r2, hl2, e2⟩ := I.lstM hB
  refine PySem.P.add_list e e2 ?_ (by rw [List.size_toArray, List.size_toArray]; omega)
  have ea : its.toArray ++ its2.toArray = (its ++ its2).toArray := by simp
  rw [ea]
  exact ⟨.ref _, _, I.lnew (t' := s.toks) (r.append r2) (by rw [List.length_append]; omega), rfl, q _ I.fresh⟩
/-! ### del xs[i] -/
end

/-! ### xs[a:b] = ys -/
section
variable {prog : Program} {w : World} {A : Around} {E : Value → Shared → Prop} {s : Shared}
set_option maxRecDepth 100000 in
end

section
variable {X : Cx}
end
end L2

namespace Att
open PySem PySem.W PySem.Calls PyProof.Rows

/-! ### the script -/
theorem ints_of_wellAll {P : Params} {h : Heap} : ∀ (ns : List Int) (vs : List Value), WellAll P h vs (ns.map WData.int) → IntsAre vs ns := by
  intro ns
  induction ns with
  | nil =>
    intro vs w
    rw [List.map_nil] at w
    cases w
    exact .nil
  | cons n ns ih =>
    intro vs w
    rw [List.map_cons] at w
    cases w with
    | cons a b =>
      cases a
      exact .cons _ _ (ih _ b)

theorem script_of {l : OpenLaw} {n : Nat} (hn : l.most = some n) {P : Params} {h : Heap} {args : List WData} {vals : List Value}
    (hpre : l.row.toRowW.claim.pre args = true) (hwl : WellAll P h vals args) :
    ∃ a vs ns, vals = [Value.ref a] ∧ args = [WData.list (ns.map WData.int)] ∧ h.get? a = some { cls := .type "list", data := .seq vs.toArray } ∧ IntsAre vs ns ∧ ns.length ≤ n := by
  have hsh : WShape.hasAll [] args [.list .int] = true := (pre_splitW hpre).1
  have hc : l.pre.holds [] { args := args } = true := (pre_splitW hpre).2
  obtain ⟨d, r, rfl, h1, h2⟩ := hasAllW_cons hsh
  obtain rfl := hasAllW_nil h2
  obtain ⟨xs, rfl, h3⟩ := hasW_list h1
  obtain ⟨ns, rfl⟩ := items_int h3
  have hlen : ns.length ≤ n := by
    unfold OpenLaw.pre at hc
    have h4 : (WTm.not (.lt (.lit (.int (n : Int))) (.len (.arg 0)))).holds [] { args := [.list (ns.map .int)] } = true := by
      have h4 := (holds_andW hc).1
      rw [hn] at h4
      exact h4
    have h5 := condW_of h4 (w_not (w_lt w_lit (w_len_list (w_arg rfl))))
    rw [List.length_map] at h5
    refine Nat.le_of_not_lt fun q => ?_
    have q' : (n : Int) < ((ns.length : Nat) : Int) := by omega
    first
      | (rw [decide_eq_true q'] at h5; exact absurd h5 (by decide))
      | (simp at h5; omega)
  cases hwl with
  | cons w1 w2 =>
    cases w2
    cases w1 with
    | list ho hall => exact ⟨_, _, ns, rfl, rfl, ho, ints_of_wellAll ns _ hall, hlen⟩

theorem post_true (l : OpenLaw) (args : List WData) : l.row.toRowW.claim.post args (.bool true) args = true :=
  postW_of (r := l.row.toRowW) (X := (true == true))
    (show WShape.has [] (.bool true) .bool = true by first | rfl | decide | simp [WShape.has, WShape.arms, WShape.armsAll])
    (show (WTm.eq .res (.lit (.bool true))).value [] { args := args, res := some (.bool true), after := args } = some (.bool (true == true)) from w_eq_bool (w_res rfl) w_lit) rfl

/-! ### the attachment: holds_open's last premise (the goal 'hc' behind k_head) from a wpAny of the law's body -/
/-- the same from a codeAny of the CALL (for a layer whose function contracts speak of calls) -/
theorem attach_call {l : OpenLaw} {n : Nat} {q : Program} {loose : List Str} {XP : (Str → Option Value) → Heap → Prop} {YP : World → Heap → Prop} {d : DefRec}
    (hn : l.most = some n) (hdf : d.params.defaults = [])
    (call : ∀ (w : World) (s₀ s₁ : Shared) (mg mb : Str → Option Value) (fa : Addr) (o : Obj) (pm cd doc : Value) (a : Addr) (vs : List Value) (ns : List Int),
      Ground q loose [] XP w s₀ mg mb s₁.heap → YP w s₁.heap →
      s₁.heap.get? fa = some o → o.data = .func (docDef d.name d.params d.body d.scope pm cd doc) → s₁.heap.CodeRec cd d.name → mg d.name = some (.ref fa) →
      s₁.heap.get? a = some { cls := .type "list", data := .seq vs.toArray } → IntsAre vs ns → ns.length ≤ n → s₁.gens = #[] →
      codeAny (model l.prog w) callerA (.call (.ref fa) ⟨[.ref a], []⟩) (fun r s' => r = .ok (.ret (.bool true)) ∧ OldK s₁.heap s'.heap ∧ s'.os = s₁.os ∧ AllBare s'.gens) s₁) :
    WalkO q loose XP YP l.row.toRowW d [] (fun f vs => PySem.call f vs) := by
  intro w s₀ s₁ mg mb G Y fa o pm cd doc dV kV ho hd hcd hD hmg hg args vals as hpre hlay hrd hwl hlo
  obtain rfl : dV = .none := Dflts.none hD hdf
  obtain rfl : kV = .none := Dflts.noKw hD
  obtain ⟨a, vs, ns, rfl, rfl, hobj, hints, hlen⟩ := script_of hn hpre hwl
  refine enter_call (codeAny_mono (call w s₀ s₁ mg mb fa o pm cd doc a vs ns G Y ho (fd_plain hd) hcd hmg hobj hints hlen hg) fun r s' hq => ?_)
  obtain ⟨rfl, h2, h3, h4⟩ := hq
  exact ⟨.inl ⟨.bool true, .bool true, [], rfl, fun _ => rfl, .bool true, post_true l _, fun _ => ⟨List.Pairwise.nil, fun _ hm => (nomatch hm)⟩⟩, h2, h3, h4⟩

/-! ### rules over ANY heap (no ledger) from facts about the written part K: the library's own take a ledger (News) for what they write -/
section
variable {prog : Program} {w : World} {A : Around} {E : Value → Shared → Prop} {s : Shared} {K : Frag}

/-! the whole heap as the ledger: makes every rule that writes through a ledger a rule over any heap -/
def ledger (h : Heap) (L d : Addr) : List (Addr × Obj) := (List.range h.objs.size).filterMap fun a => if a = L ∨ a = d then none else (h.get? a).map fun o => (a, o)
end
end Att

namespace L2
open PySem PySem.Spec PyProof.Rows

theorem vals_ints : ∀ {vs : List Value} {ns : List Int}, IntsAre vs ns → Vals (ns.map V.int) vs
  | _, _, .nil => .nil
  | _, _, .cons n t h => .cons ⟨t, rfl⟩ (vals_ints h)

/-- nothing is tracked but the script, known to the object (or it is an object of the module) -/
def Only (H : Hp) : Prop := ∀ b, H b = none ∨ ∃ o xs, H b = some (.frz o (.lst xs))

/-- THE HEAD: the law's promise, at the heap behind the top. F, the promise of the law's def, may use that base is part of the heap (so K.In base, base.Ns mainGlobals mg stand in Mod) -/
theorem law_call {P : Program} {w : World} {K : PySem.W.Frag} {mg mb : Str → Option Value} {CX : CXT} {k : Nat} {fa a : Addr} {fd : FuncData} {x : Str} {sp : Sp} {s₁ : Shared} {vs : List Value} {ns : List Int}
    (KX : K.In s₁.heap) (hns : s₁.heap.Ns mainGlobals mg) (hb : s₁.heap.Ns builtinsNs mb) (hbb : ∀ x : Str, x ≠ "__name__" → mb x = bootBuiltins x) (hlim : s₁.heap.NoLimit) (hg : s₁.gens = #[])
    (ha : s₁.heap.get? a = some { cls := .type "list", data := .seq vs.toArray }) (hi : IntsAre vs ns) (hl : ns.length ≤ sizeLine) (hr : Room k callerA)
    (F : ∀ base : Heap, K.In base → base.Ns mainGlobals mg → FnOk P w K mg base CX k fa fd [x] sp) (hbind : ∀ (s : Shared) (u : Value), BindsTo s fd ⟨[u], []⟩ [(x, u)])
    (hsp : ∀ H : Hp, Only H → SqL K H a (ns.map V.int) → sp [.ref a] H (fun v _ => v = .bl true) fun _ _ _ => False)
    (hCX : ∀ H e s', CX [] H s₁ (fun _ _ _ => False) e s' → False) :
    codeAny (model P w) callerA (.call (.ref fa) ⟨[.ref a], []⟩) (fun r s' => r = .ok (.ret (.bool true)) ∧ OldK s₁.heap s'.heap ∧ s'.os = s₁.os ∧ AllBare s'.gens) s₁ := by
  have rv := vals_ints hi
  have lenV := hi.length
  -- from an abstract heap in which nothing but the script may be tracked
  have core : ∀ H : Hp, Only H → SqL K H a (ns.map V.int) → HOk P w H s₁.heap → (∀ b, H b ≠ none → b = a) → (H a ≠ none → K.lookup a = none) →
      codeAny (model P w) callerA (.call (.ref fa) ⟨[.ref a], []⟩) (fun r s' => r = .ok (.ret (.bool true)) ∧ OldK s₁.heap s'.heap ∧ s'.os = s₁.os ∧ AllBare s'.gens) s₁ := by
    intro H hO hS hok hA hK
    have base_of : ∀ {b : Addr} {o : Obj}, s₁.heap.get? b = some o → H b = none → (hidT s₁.heap H).get? b = some o := fun e n => hidT_get e n
    have noA : ∀ {b : Addr} {o : Obj} {es : Array DictEntry} {ep : Nat}, s₁.heap.get? b = some o → o.data = .dict es ep → H b = none := fun {b o es ep} e d => by
      cases q : H b with
      | none => rfl
      | some u =>
        have e' : b = a := hA b (by rw [q]; simp)
        subst e'
        rw [ha] at e; cases e
        have d' : Data.seq vs.toArray _ = Data.dict es ep := d
        cases d'
    have nsK : ∀ {b : Addr} {m : Str → Option Value}, s₁.heap.Ns b m → (hidT s₁.heap H).Ns b m := fun {b m} ⟨o, es, ep, e, d, r⟩ => ⟨o, es, ep, base_of e (noA e d), d, r⟩
    have hKb : K.In (hidT s₁.heap H) := fun b o e => base_of (KX b o e) (by
      cases q : H b with
      | none => rfl
      | some u =>
        have e' : b = a := hA b (by rw [q]; simp)
        subst e'
        rw [hK (by rw [q]; simp)] at e; cases e)
    have hM : Mod K mg (hidT s₁.heap H) := ⟨hKb, nsK hns, ⟨mb, nsK hb, hbb⟩, let ⟨mc, h1, h2⟩ := hlim; ⟨mc, nsK h1, h2⟩⟩
    have e0 : Env0 P w K mg (hidT s₁.heap H) callerA [] s₁ H := ⟨rfl, hM, fun b o e => of_hidT e, Nat.le_of_eq (hidT_size _ _), trivial, fun b hb => absurd (show b ∈ ([] : List Addr) from hb) (by simp), hok, .of_eq hg⟩
    refine codeAny_mono ((F _ hKb (nsK hns)).run callerA [] s₁ H ⟨[.ref a], []⟩ [.ref a] [.ref a] _ _ hr e0 (hbind s₁ (.ref a)) (.cons rfl .nil) (hsp H hO hS)) fun r s' h => ?_
    cases r with
    | error e => exact (hCX H e s' h).elim
    | ok fl =>
      cases fl with
      | next => exact False.elim h
      | brk => exact False.elim h
      | cont => exact False.elim h
      | ret u =>
        obtain ⟨v, H', os, bare, un, hok', r', q⟩ := h
        have q' : v = .bl true := q
        subst q'
        obtain rfl : u = Value.bool true := r'
        refine ⟨rfl, OldK.of_keep fun b o e => ?_, os, bare⟩
        cases q : H b with
        | none => exact un.keep b o e q (by intro z; exact absurd (show b ∈ ([] : List Addr) from z) (by simp)) (by simp)
        | some u =>
          rcases hO b with z | ⟨ob, xs, z⟩
          · rw [q] at z; cases z
          · have z2 := un.frzs b ob _ z
            obtain ⟨e1, _⟩ := hok b _ z
            obtain ⟨e2, _⟩ := hok' b _ z2
            rw [e] at e1; cases e1
            exact e2
  cases hk : K.lookup a with
  | some o =>
    -- the script is one of the module's own objects
    have e := KX a o hk
    rw [ha] at e
    cases e
    refine core (fun _ => none) (fun _ => .inl rfl) (.inr ⟨_, vs.toArray, _, hk, rfl, rfl, rfl, by rw [List.size_toArray, lenV]; exact hl, by simpa using rv⟩) (fun b u z => by have z' : (none : Option HO) = some u := z; cases z') (fun b z => absurd rfl z) fun z => absurd rfl z
  | none =>
    refine core (fun b => if b = a then some (.frz { cls := .type "list", data := .seq vs.toArray } (.lst (ns.map V.int))) else none) (fun b => ?_) (.inl (.inr ⟨{ cls := .type "list", data := .seq vs.toArray }, if_pos rfl⟩)) (fun b u z => ?_) (fun b z => ?_) fun _ => hk
    · by_cases hb : b = a
      · exact .inr ⟨_, _, if_pos hb⟩
      · exact .inl (if_neg hb)
    · by_cases hb : b = a
      · have z' := (if_pos hb).symm.trans z
        cases z'
        subst hb
        exact ⟨ha, by rw [List.length_map]; exact hl, vs, _, rv, ha⟩
      · have z' := (if_neg hb).symm.trans z
        cases z'
    · by_cases hb : b = a
      · exact hb
      · exact absurd (if_neg hb) z
end L2

namespace L2
open PySem PySem.Spec PyProof.Rows

abbrev KOf {K : PySem.W.Frag} {h : Heap} (_ : K.In h) : PySem.W.Frag := K

/-- the goal that k_head leaves (case hc), from the law's promise. F gives the function object fd (K's own) once, then the promise over every base -/
theorem walk_of {l : PySem.W.OpenLaw} {n k : Nat} {q : Program} {loose : List Str} {XP : (Str → Option Value) → Heap → Prop} {YP : World → Heap → Prop} {d : DefRec} {K : Params → PySem.W.Frag} {CX : World → CXT} {sp : World → Sp} {x : Str}
    (hn : l.most = some n) (hn2 : n ≤ sizeLine) (hdf : d.params.defaults = []) (hr : Room k callerA)
    (hY : ∀ (w : World) (h : Heap), YP w h → (K w.params).In h)
    (F : ∀ (w : World) (mg : Str → Option Value) (fa : Addr) (h : Heap), (K w.params).In h → h.Ns mainGlobals mg → mg d.name = some (.ref fa) →
      ∃ fd : FuncData, (∀ (s : Shared) (u : Value), BindsTo s fd ⟨[u], []⟩ [(x, u)]) ∧
        ∀ base : Heap, (K w.params).In base → base.Ns mainGlobals mg → FnOk l.prog w (K w.params) mg base (CX w) k fa fd [x] (sp w))
    (hsp : ∀ (w : World) (H : Hp) (a : Addr) (ns : List Int), ns.length ≤ n → Only H → SqL (K w.params) H a (ns.map V.int) → sp w [.ref a] H (fun v _ => v = .bl true) fun _ _ _ => False)
    (hCX : ∀ (w : World) (H : Hp) (s : Shared) (e : Value) (s' : Shared), CX w [] H s (fun _ _ _ => False) e s' → False) :
    PySem.W.WalkO q loose XP YP l.row.toRowW d [] (fun f vs => PySem.call f vs) := by
  refine Att.attach_call hn hdf fun w s₀ s₁ mg mb fa o pm cd doc a vs ns G Y ho hd hcd hmg hobj hints hlen hg => ?_
  have KX := hY w _ Y
  obtain ⟨fd, hb, hF⟩ := F w mg fa _ KX G.T.g hmg
  exact law_call KX G.T.g G.T.b G.T.builtins G.T.nolimit hg hobj hints (Nat.le_trans hlen hn2) hr hF hb (fun H hO hS => hsp w H a ns hlen hO hS) fun H e s' => hCX w H s₁ e s'
end L2

/- THE LAST THEOREM (shape; LID, My.* are yours):
   My.Adr: a structure of the addresses that your layer names (classes, functions); My.Txt K t: a structure (Prop) of the equations over K;
   My.txt_mk : {K} {implicit addresses ..} (e1 : nsIn K mainGlobals "law" = some (some (.ref f))) (e2 : K.lookup f = some ⟨oc, od, .func (fnOf "law" "law" params body scope dV kV doc pm an cdv ct), sl⟩) (e3 : codeIn K cdv "law" = true) .. : ∃ t, My.Txt K t

set_option maxRecDepth 100000 in
set_option maxHeartbeats 0 in
theorem PySem.Challenge.cw_LID_holds : PySem.Challenge.rw_LID.Holds := by
  w_on; o_law; k_head; (case hw => w_witness2)
  k_fill
  refine L2.walk_of (l := PySem.Challenge.rw_LID) (n := 63) (k := 40) (x := "script") (CX := fun w => ..) (sp := fun _ => My.sp_law) rfl (by decide) rfl ⟨rfl, by decide, by decide⟩ (fun w h Y => PySem.W.kIn_of Y) ?F ?S ?C
  case F =>
    intro w mg fa h KX G hmg
    have T : ∃ t, My.Txt (L2.KOf KX) t := by
      dsimp only [L2.KOf]                          -- K must stand as «<heap const> w.params» for k_is
      refine' My.txt_mk ?e1 ?e2 ?e3 ..
      (case e1 => PySem.W.k_is)                    -- in the order: a name -> its address -> its object -> its parts
      (case e2 => PySem.W.k_is)
      ..
    obtain ⟨t, T⟩ := T
    have e0 := hmg.symm.trans (PySem.W.mg_of KX G T.law)
    cases e0                                       -- fa is the law's own address
    exact ⟨_, fun s u => .of_eq rfl, fun base kb nb => My.law_fn T kb nb⟩     -- if «.of_eq rfl» comes too early: refine' ⟨_, ?b, fun base kb nb => My.law_fn T kb nb⟩; exact fun s u => .of_eq rfl
  case S => exact fun w H a ns hl hO hS => ..
  case C => exact ..
(the tactic k_is has no namespace: write k_is) -/

/-! SHORT WORDS over the layer: a def of the text, its body, what a loop and a test want. -/
namespace L2
open PySem PySem.Spec PyProof.Rows

/-! ### the text by places -/
def defArgs (s : Stmt) : Arguments := match s with
  | .FunctionDef _ a _ _ _ _ _ _ _ _ => a
  | _ => { posonlyargs := [], args := [], vararg := none, kwonlyargs := [], kw_defaults := [], kwarg := none, defaults := [] }
def defBody (s : Stmt) : List Stmt := match s with
  | .FunctionDef _ _ b _ _ _ _ _ _ _ => b
  | _ => []
def defScope (s : Stmt) : Scope := match s with
  | .FunctionDef _ _ _ _ _ _ sc _ _ _ => sc
  | _ => { kind := .function, names := [], isGenerator := false, isCoroutine := false }

/-! ### no exception leaves a def -/
abbrev CX0 : CXT := fun _ _ _ _ _ _ => False
abbrev E0 : XK := fun _ _ _ => False
theorem pass0 {X : Cx} : Passes CX0 X E0 := fun _ _ _ _ _ _ _ h => h.elim

/-! ### a def (or method) of the text as it stands behind the top -/
structure Fun (K : PySem.W.Frag) (x qual : Str) (st : Stmt) (f : Addr) (fd : FuncData) : Prop where
  ex : ∃ (oc : Value) (od : Option Addr) (kV doc pm : Value) (an : Option Addr) (cdv ct : Value) (osl : Array (Option Value)),
    fd = PySem.W.fnOf x qual (defArgs st) (defBody st) (defScope st) .none kV doc pm an cdv ct ∧ K.lookup f = some ⟨oc, od, .func fd, osl⟩ ∧ PySem.W.codeIn K cdv qual = true
  kp : PySem.W.keepIn K (.ref f) = true
section
variable {P : Program} {w : World} {K : PySem.W.Frag} {mg : Str → Option Value} {base : Heap}
/-- THE RULE for a def: its body as a term of rules, and the reading of that term -/
theorem Fun.ok {x qual : Str} {st : Stmt} {f : Addr} {fd : FuncData} {N ps : List Str} {k : Nat} {sp : Sp} (F : Fun K x qual st f fd) (S : FnScope N ps (defScope st)) (len : ∀ vs H Q E, sp vs H Q E → vs.length = ps.length)
    (hbody : ∀ (cdv : Value) (A : Around) (outer : List Env) (s : Shared) (H : Hp) (vs : List V) (Q : VK) (E : XK), Room k (A.deeper (envOfC qual (defScope st) s.heap.objs.size f cdv)) → sp vs H Q E →
      ∃ t, PSs (cxOf CX0 P w K mg base N qual (defScope st) f cdv A outer s H E).nox (defBody st) t ∧ t { nx := fun _ H' => Q .non H', rt := Q } (start N vs) H) : FnOk P w K mg base CX0 (k + 1) f fd ps sp := by
  obtain ⟨oc, od, kV, doc, pm, an, cdv, ct, osl, rfl, lk, hcd⟩ := F.ex
  refine fn_of lk hcd S len fun A outer s H vs Q E hr hsp => ?_
  obtain ⟨t, h, q⟩ := hbody cdv A outer s H vs Q E hr hsp
  exact ⟨t, h.nox, q⟩
/-- how its arguments bind (no defaults): h is «fun _ _ _ _ _ _ us hl => match us, hl with | [_, _], _ => rfl», one _ a parameter -/
theorem Fun.binds {x qual : Str} {st : Stmt} {f : Addr} {fd : FuncData} {ps : List Str} (F : Fun K x qual st f fd)
    (h : ∀ (kV doc pm : Value) (an : Option Addr) (cdv ct : Value) (us : List Value), us.length = ps.length → bindArgs (PySem.W.fnOf x qual (defArgs st) (defBody st) (defScope st) .none kV doc pm an cdv ct) ⟨us, []⟩ = pure (ps.zip us)) : Binds K fd ps [] := by
  obtain ⟨oc, od, kV, doc, pm, an, cdv, ct, osl, rfl, lk, hcd⟩ := F.ex
  exact .all (h kV doc pm an cdv ct)
theorem fun_mk {x qual : Str} {st : Stmt} {f : Addr} {oc : Value} {od an : Option Addr} {osl : Array (Option Value)} {kV doc pm cdv ct : Value} (l : K.lookup f = some ⟨oc, od, .func (PySem.W.fnOf x qual (defArgs st) (defBody st) (defScope st) .none kV doc pm an cdv ct), osl⟩)
    (c : PySem.W.codeIn K cdv qual = true) (k : PySem.W.keepIn K (.ref f) = true) : Fun K x qual st f (PySem.W.fnOf x qual (defArgs st) (defBody st) (defScope st) .none kV doc pm an cdv ct) := ⟨⟨oc, od, kV, doc, pm, an, cdv, ct, osl, rfl, l, c⟩, k⟩
end
theorem hu_of {A : Around} {k : Nat} (hr : Room k A) : A.units + 1 < cLine := Nat.lt_of_le_of_lt (Nat.add_le_add_left (by decide : 1 ≤ 64) _) hr.units
theorem small1000 {n : Nat} (h : n ≤ 1000) : n < sizeLine := Nat.lt_of_le_of_lt h (by decide)

/-! ### expressions in short: the name that stands in the i-th slot -/
section
variable {X : Cx}
theorem pv (i : Nat) {x : Str} {pos : Pos} (hN : X.N[i]? = some x := by rfl) (hv : Vis X.env.scope x := by first | exact Or.inl rfl | exact Or.inr (Or.inl rfl) | exact Or.inr (Or.inr rfl)) (hd : (x == ("__debug__" : Str)) = false := by decide)
    (hcd : (x == ("__classdict__" : Str)) = false := by decide) : PE X (.Name x pos) (tVar i) := pe_var hN hv hd hcd
end

/-! ### tests -/
theorem iteF {A B : Prop} (h : B) : if false = true then A else B := by
  rw [if_neg Bool.false_ne_true]
  exact h
theorem iteT {A B : Prop} (h : A) : if true = true then A else B := by
  rw [if_pos rfl]
  exact h
theorem ite2 {c A B : Prop} [Decidable c] (h1 : c → A) (h2 : ¬ c → B) : if c then A else B := by
  by_cases h : c
  · rw [if_pos h]
    exact h1 h
  · rw [if_neg h]
    exact h2 h
/-! ### heaps -/
/-- all that was tracked is as it was -/
def Same (H H' : Hp) : Prop := ∀ b o, H b = some o → H' b = some o
theorem Same.refl (H : Hp) : Same H H := fun _ _ h => h
theorem Same.trans {H H1 H2 : Hp} (a : Same H H1) (b : Same H1 H2) : Same H H2 := fun c o h => b c o (a c o h)
theorem Same.free {H H' : Hp} (e : Same H H') {l : Addr} (h : H' l = Option.none) : H l = Option.none := by
  cases q : H l with
  | none => rfl
  | some o =>
    rw [e l o q] at h
    cases h
theorem Same.seq {K : PySem.W.Frag} {H H' : Hp} {a : Addr} {xs : List V} (e : Same H H') (h : SqL K H a xs) : SqL K H' a xs := by
  rcases h with (h | ⟨o, h⟩) | h
  · exact .inl (.inl (e _ _ h))
  · exact .inl (.inr ⟨o, e _ _ h⟩)
  · exact .inr h

end L2
set_option Elab.async false
set_option linter.all false
set_option maxRecDepth 100000
set_option maxHeartbeats 4000000
namespace L2
open PySem PySem.Spec PyProof.Rows

section
variable {prog : Program} {w : World} {A : Around} {R : Result → Shared → Prop} {s : Shared}
/-- the comprehension's loop, the step ahead of the store kept -/
theorem compLoop_go {elt target iter : Expr} {ifs : List Expr} {scope : Scope} {pos : Pos} {it acc : Value} {env : Env} (I : Nat → Shared → Prop)
    (turn : ∀ n s, I n s → wpAny (model prog w) A (pyNext it) (fun r s₁ => match r with
      | none => R (.ok .next) s₁
      | some v => wpAny (model prog w) A (letOwnedTupleGo target it v) (fun _ s₀ => wpAny (model prog w) A (assign target env v) (fun _ s₂ =>
          wpAny (model prog w) A (forIn ifs true fun c r => if r = true then do let ok ← isTrue c env (eval c env); pure (ForInStep.yield ok) else pure (ForInStep.yield r)) (fun ok s₃ =>
            if ok = true then wpAny (model prog w) A (eval elt env) (fun x s₄ =>
              wpAny (model prog w) A (call (.builtin "list.append") [acc, x]) (fun _ s₅ => ∃ m, m < n ∧ I m s₅) (notedBy (model prog w) A env fun e s' => R (.error e) s') s₄) (notedBy (model prog w) A env fun e s' => R (.error e) s') s₃
            else ∃ m, m < n ∧ I m s₃) (notedBy (model prog w) A env fun e s' => R (.error e) s') s₂) (notedBy (model prog w) A env fun e s' => R (.error e) s') s₀) (notedBy (model prog w) A env fun e s' => R (.error e) s') s₁) (notedBy (model prog w) A env fun e s' => R (.error e) s') s)
    (n : Nat) (h : I n s) :
    codeAny (model prog w) A (.compLoop (.ListComp elt [⟨target, iter, ifs, 0⟩] scope pos) 0 it acc env) R s := by
  refine codeAny_loop rfl I (fun n s hI => ?_) n h
  show wpAny _ A ((compTurn (.ListComp elt [⟨target, iter, ifs, 0⟩] scope pos) 0 it acc env).onRaise (fun x => do noteFrame x env; theTreesLotGoes x)) _ _ s
  refine wpAny_noted ?_
  rw [compTurn_list]
  refine wpAny_bind (wpAny_standAt (wpAny_bind (wpAny_mono (turn n s hI) (fun r s₁ h₁ => ?_) fun _ _ h' => h')))
  cases r with
  | none => exact wpAny_pure h₁
  | some v =>
    refine wpAny_bind (wpAny_mono h₁ (fun _ s₀ h₀ => ?_) fun _ _ h' => h')
    refine wpAny_bind (wpAny_mono h₀ (fun _ s₂ h₂ => wpAny_bind (wpAny_mono h₂ (fun ok s₃ h₃ => ?_) fun _ _ h' => h')) fun _ _ h' => h')
    cases ok with
    | false => exact wpAny_pure ⟨rfl, h₃⟩
    | true =>
      exact wpAny_bind (wpAny_bind (wpAny_mono h₃ (fun x s₄ h₄ => wpAny_bind (wpAny_mono h₄ (fun _ s₅ h₅ => wpAny_pure (wpAny_pure ⟨rfl, h₅⟩)) fun _ _ h' => h')) fun _ _ h' => h'))
end

/-- the closure that a comprehension takes -/
def closL (env : Env) (l : List (Str × NameKind)) : List (Str × Addr) → List (Str × Addr) := fun cs => l.foldl (fun cs p => if p.2 == .free then (p.1, (env.cells.lookup p.1).getD 0) :: cs else cs) cs
def FreeIn (env : Env) (l : List (Str × NameKind)) : Prop := ∀ p ∈ l, p.2 = .free → ∃ c, env.cells.lookup p.1 = some c
theorem closure_eq {env : Env} {scope : Scope} (h : FreeIn env scope.names) : closureFor scope env = pure (closL env scope.names []) := by
  have all : ∀ (l : List (Str × NameKind)) (cs : List (Str × Addr)), FreeIn env l → (forIn l cs fun x r => if (x.2 == .free) = true then do let a ← cellOf env x.1; pure (ForInStep.yield ((x.1, a) :: r)) else pure (ForInStep.yield r) : Sem (List (Str × Addr))) = pure (closL env l cs) := by
    intro l
    induction l with
    | nil => intro cs _; rfl
    | cons p r ih =>
      intro cs hf
      have e : closL env (p :: r) cs = closL env r (if p.2 == .free then (p.1, (env.cells.lookup p.1).getD 0) :: cs else cs) := rfl
      rw [List.forIn_cons, e]
      cases hk : (p.2 == NameKind.free) with
      | true =>
        obtain ⟨c, hc⟩ := hf p List.mem_cons_self (eq_of_beq hk)
        have hcell : cellOf env p.1 = pure c := by unfold cellOf; rw [hc]
        simp only [if_true, hcell, pure_bind]
        rw [ih _ fun q hq => hf q (List.mem_cons_of_mem _ hq), hc]
        rfl
      | false =>
        simp only [Bool.false_eq_true, if_false, pure_bind]
        exact ih _ fun q hq => hf q (List.mem_cons_of_mem _ hq)
  have := all scope.names [] h
  simpa [closureFor] using this
theorem clos_sub {env : Env} : ∀ {l : List (Str × NameKind)} {cs : List (Str × Addr)} {x : Str} {c : Addr}, FreeIn env l → (closL env l cs).lookup x = some c → cs.lookup x = some c ∨ env.cells.lookup x = some c
  | [], _, _, _, _, h => .inl h
  | p :: r, cs, x, c, hf, h => by
    have h' : (closL env r (if p.2 == .free then (p.1, (env.cells.lookup p.1).getD 0) :: cs else cs)).lookup x = some c := h
    rcases clos_sub (fun q hq => hf q (List.mem_cons_of_mem _ hq)) h' with q | q
    · cases hk : (p.2 == NameKind.free) with
      | true =>
        rw [hk, if_pos rfl, List.lookup_cons] at q
        cases e : x == p.1 with
        | true =>
          rw [e] at q
          obtain ⟨d, hd⟩ := hf p List.mem_cons_self (eq_of_beq hk)
          refine .inr ?_
          rw [eq_of_beq e, hd]
          rw [hd] at q
          exact q
        | false =>
          rw [e] at q
          exact .inl q
      | false =>
        rw [hk, if_neg Bool.false_ne_true] at q
        exact .inl q
    · exact .inr q
theorem clos_mono {env : Env} {x : Str} : ∀ {l : List (Str × NameKind)} {cs : List (Str × Addr)}, (cs.lookup x).isSome = true → ((closL env l cs).lookup x).isSome = true
  | [], _, h => h
  | p :: r, cs, h => by
    show ((closL env r (if p.2 == .free then (p.1, (env.cells.lookup p.1).getD 0) :: cs else cs)).lookup x).isSome = true
    refine clos_mono ?_
    cases hk : (p.2 == NameKind.free) with
    | true =>
      rw [if_pos rfl, List.lookup_cons]
      cases e : x == p.1 with
      | true => rfl
      | false => exact h
    | false => rw [if_neg Bool.false_ne_true]; exact h
theorem clos_has {env : Env} {x : Str} : ∀ {l : List (Str × NameKind)} {cs : List (Str × Addr)}, (x, NameKind.free) ∈ l → ((closL env l cs).lookup x).isSome = true
  | [], _, h => by cases h
  | p :: r, cs, h => by
    show ((closL env r (if p.2 == .free then (p.1, (env.cells.lookup p.1).getD 0) :: cs else cs)).lookup x).isSome = true
    rcases List.mem_cons.mp h with e | h
    · subst e
      refine clos_mono ?_
      show (List.lookup x ((x, (env.cells.lookup x).getD 0) :: cs)).isSome = true
      rw [List.lookup_cons, beq_self_eq_true]
      rfl
    · exact clos_has h
def SubCells (env : Env) (cl : List (Str × Addr)) : Prop := ∀ x c, cl.lookup x = some c → env.cells.lookup x = some c
theorem SubCells.get {env : Env} {cl : List (Str × Addr)} {x : Str} {c : Addr} (h : SubCells env cl) (e : cl.lookup x = some c) : env.cells.lookup x = some c := h x c e
theorem sub_clos {env : Env} {l : List (Str × NameKind)} (h : FreeIn env l) : SubCells env (closL env l []) := fun x c e => by
  rcases clos_sub h e with q | q
  · cases q
  · exact q
/-- a free name of the block is a cell of it, or still free -/
theorem relabel_free {env : Env} : ∀ {names : List (Str × NameKind)} {x : Str}, names.lookup x = some .free →
    (names.map fun (n, k) => if (k == NameKind.free && env.scope.kind == .function && env.kindOf n == some .cell) then (n, NameKind.cell) else (n, k)).lookup x = some .cell ∨
    (names.map fun (n, k) => if (k == NameKind.free && env.scope.kind == .function && env.kindOf n == some .cell) then (n, NameKind.cell) else (n, k)).lookup x = some .free
  | [], _, h => by simp at h
  | (n, k) :: r, x, h => by
    rw [List.lookup_cons] at h
    simp only [List.map_cons]
    cases hx : x == n with
    | true =>
      rw [hx] at h
      cases h
      split
      · exact .inl (by rw [List.lookup_cons, hx])
      · exact .inr (by rw [List.lookup_cons, hx])
    | false =>
      rw [hx] at h
      have ih := relabel_free (env := env) h
      split
      · rw [List.lookup_cons, hx]; exact ih
      · rw [List.lookup_cons, hx]; exact ih
theorem relabel_back {env : Env} : ∀ {names : List (Str × NameKind)} {x : Str}, (∀ y ∈ names, y.2 ≠ .cell) →
    ((names.map fun (n, k) => if (k == NameKind.free && env.scope.kind == .function && env.kindOf n == some .cell) then (n, NameKind.cell) else (n, k)).lookup x = some .cell ∨
    (names.map fun (n, k) => if (k == NameKind.free && env.scope.kind == .function && env.kindOf n == some .cell) then (n, NameKind.cell) else (n, k)).lookup x = some .free) → (x, NameKind.free) ∈ names
  | [], _, _, h => by simp at h
  | (n, k) :: r, x, hc, h => by
    have hr : ∀ y ∈ r, y.2 ≠ .cell := fun y hy => hc y (List.mem_cons_of_mem _ hy)
    simp only [List.map_cons] at h
    cases hx : x == n with
    | true =>
      have en := eq_of_beq hx
      subst en
      by_cases hk : k = .free
      · subst hk; exact List.mem_cons_self
      · have hb : (k == NameKind.free) = false := by simpa using hk
        simp only [hb, Bool.false_and, Bool.false_eq_true, if_false, List.lookup_cons, beq_self_eq_true] at h
        rcases h with h | h
        · exact absurd (Option.some.inj h) (hc _ List.mem_cons_self)
        · exact absurd (Option.some.inj h) hk
    | false =>
      refine List.mem_cons_of_mem _ (relabel_back (env := env) hr ?_)
      split at h
      · simpa only [List.lookup_cons, hx] using h
      · simpa only [List.lookup_cons, hx] using h
def FreeOk (X : Cx) (scope : Scope) : List Nat → List Str → Prop
  | [], [] => True
  | i :: is, y :: ys => X.N[i]? = some y ∧ (X.env.kindOf y = some .cell ∨ X.env.kindOf y = some .free) ∧ scope.names.lookup y = some .free ∧ FreeOk X scope is ys
  | _, _ => False
theorem FreeOk.len {X : Cx} {scope : Scope} : ∀ {is : List Nat} {ys : List Str}, FreeOk X scope is ys → is.length = ys.length
  | [], [], _ => rfl
  | _ :: _, _ :: _, h => congrArg (· + 1) h.2.2.2.len
theorem FreeOk.get {X : Cx} {scope : Scope} : ∀ {is : List Nat} {ys : List Str} {j : Nat} {y : Str}, FreeOk X scope is ys → ys[j]? = some y →
    ∃ i, is[j]? = some i ∧ X.N[i]? = some y ∧ (X.env.kindOf y = some .cell ∨ X.env.kindOf y = some .free) ∧ scope.names.lookup y = some .free
  | [], [], _, _, _, h => by simp at h
  | i :: _, z :: _, 0, y, f, h => by
    simp at h
    subst h
    exact ⟨i, rfl, f.1, f.2.1, f.2.2.1⟩
  | _ :: is, _ :: ys, j + 1, y, f, h => by
    obtain ⟨i, e, r⟩ := FreeOk.get (j := j) f.2.2.2 (by simpa using h)
    exact ⟨i, by simpa using e, r⟩

/-- the context of a comprehension's block -/
def cxComp (X : Cx) (N : List Str) (scope : Scope) (cl : List (Str × Addr)) (C : Addr) (s : Shared) (H : Hp) (fp : List Addr) (E : Value → Shared → Prop) : Cx where
  prog := X.prog
  w := X.w
  K := X.K
  mg := X.mg
  base := X.base
  A := X.A
  N := N
  s₀ := s
  H₀ := H
  env := compEnvC scope cl C X.env
  outer := X.stack
  stack := X.stack
  ex := fp
  fn := fun _ => false
  calm := X.calm
  pn := []
  xe := E

def cSlots0 (σ : St) (ix : List Nat) : St := none :: ix.map fun i => (σ[i]?).join
def cSlots (σ : St) (ix : List Nat) (x : V) : St := some x :: ix.map fun i => (σ[i]?).join

def PTs (X : Cx) (ifs : List Expr) (tt : TT) : Prop :=
  ∀ (pins : List (Addr × Obj)) (s : Shared) (σ : St) (H : Hp) (Q : Bool → Hp → Prop), Inv X pins σ H s → tt σ H Q →
    wpAny (model X.prog X.w) X.A (forIn ifs true fun c r => if r = true then do let ok ← isTrue c X.env (eval c X.env); pure (ForInStep.yield ok) else pure (ForInStep.yield r)) (TP X pins σ Q) X.xe s
def tTrue : TT := fun _ H Q => Q true H
theorem pts_nil {X : Cx} : PTs X [] tTrue := fun _ _ _ H _ I h => wpAny_tests_nil ⟨H, I, h⟩
theorem pts_one {X : Cx} {c : Expr} {t : TT} (h : PT X c t) : PTs X [c] t := fun pins s σ H Q I hw => wpAny_tests_one (h pins s σ H Q I hw)

/-- the comprehension's end: D its list; W the invariant by the turn and a measure -/
def cEnd (J : It) (σ : St) (ix : List Nat) (tt : TT) (te : TE) (H1 : Hp) (Q : VK) : Prop :=
  ∀ D, H1 D = none → ∃ W : Nat → Nat → Hp → Prop, (∃ m, W 0 m (upd H1 D (.lst []))) ∧ ∀ i m H, W i m H →
    (J.stop i H ∧ Q (.ref D) H) ∨ (J.go i H ∧ ∀ x H', J.yld i H x H' → tt (cSlots σ ix x) H' fun c H2 =>
      if c = true then te (cSlots σ ix x) H2 fun y H3 => ∃ ys m', H3 D = some (.lst ys) ∧ ys.length < sizeLine ∧ m' < m ∧ W (i + 1) m' (upd H3 D (.lst (ys ++ [y])))
      else ∃ m', m' < m ∧ W (i + 1) m' H2)
def tComp (wi : TI) (ix : List Nat) (tt : TT) (te : TE) : TE := fun σ H Q => wi σ H fun J H1 => cEnd J σ ix tt te H1 Q

section
variable {X : Cx} {pins : List (Addr × Obj)} {σ : St} {H : Hp} {s : Shared}

theorem slots_get {ix : List Nat} {j : Nat} {v : V} (h : (ix.map fun i => (σ[i]?).join)[j]? = some (some v)) : ∃ i, ix[j]? = some i ∧ σ[i]? = some (some v) := by
  rw [List.getElem?_map] at h
  cases e : ix[j]? with
  | none => rw [e] at h; cases h
  | some i =>
    rw [e] at h
    have h' : (σ[i]?).join = some v := Option.some.inj h
    refine ⟨i, rfl, ?_⟩
    cases q : σ[i]? with
    | none => rw [q] at h'; cases h'
    | some o =>
      rw [q] at h'
      cases o with
      | none => cases h'
      | some z => cases h'; rfl

theorem inv_comp {x : Str} {ys : List Str} {ix : List Nat} {scope : Scope} {cl : List (Str × Addr)} {fp : List Addr} {E : Value → Shared → Prop} {h₁ : Heap} {D C n : Nat} {tk : Nat} {m : Str → Option Value}
    (I : Inv X pins σ H s) (hf : ∀ b ∈ fp, FpOk X pins H b ∧ b < s.heap.objs.size) (sub : SubCells X.env cl) (hkind : scope.kind = .function)
    (hhas : ∀ y, ((relabel scope X.env).names.lookup y = some .cell ∨ (relabel scope X.env).names.lookup y = some .free) → ∃ c, cl.lookup y = some c) (fo : FreeOk X scope ix ys)
    (hD : s.heap.objs.size ≤ D) (hC : s.heap.objs.size ≤ C) (hDC : D ≠ C) (hns : h₁.Ns C m) (k : ∀ b o, s.heap.get? b = some o → h₁.get? b = some o)
    (hd : h₁.get? D = some { cls := .type "list", data := .seq ([] : List Value).toArray n }) :
    Inv (cxComp X (x :: ys) scope cl C s H fp E) [] (cSlots0 σ ix) (upd H D (.lst [])) { s with heap := h₁, toks := tk } := by
  have lt_of_cell : ∀ y c, cl.lookup y = some c → c < s.heap.objs.size := fun y c e => by
    obtain ⟨v, q⟩ := I.cell y c (sub.get e)
    exact q.lt
  refine ⟨⟨I.ok.mod, hkind, I.ok.glob, I.ok.blt, hC, fun y z c h1 h2 => I.ok.inj y z c (sub.get h1) (sub.get h2), hhas, fun y c h _ => absurd h (by simp [cxComp]), I.ok.hd, I.ok.frames, .inl rfl, fun b hb => ⟨?_, fun y c e => ?_⟩, I.bs, Nat.le_trans I.ok.bsz I.sz, fun b o e hb => ?_, fun b hb z => ?_, I.stack, I.stkFree⟩,
    rfl, I.bare, Un.laid k hD (I.hok.fresh hD), ⟨m, hns, fun j y v e1 e2 e3 => ?_⟩, fun y c e => ?_, ?_, fun y c e => ?_, fun p hp => absurd (show p ∈ ([] : List (Addr × Obj)) from hp) (by simp), I.hok.laid k hD ?_, ?_⟩
  · exact Nat.ne_of_lt (Nat.lt_of_lt_of_le (hf b hb).2 hC)
  · exact (hf b hb).1.2.2.2.2.1 y c (sub.get e)
  · obtain ⟨_, _, _, z, _⟩ := (hf b hb).1
    rcases z with z | z
    · exact I.ok.noex b o e z
    · exact absurd (Nat.lt_of_lt_of_le (Heap.lt_size (I.ok.bs b o e).1) z) (Nat.lt_irrefl _)
  · obtain ⟨_, z1, z2, _⟩ := (hf b hb).1
    rcases List.mem_cons.mp (I.stkSub b z) with q | q
    · exact z1 q
    · exact z2 q
  · cases j with
    | zero => simp [cSlots0] at e2
    | succ j =>
      have e1' : ys[j]? = some y := by simpa [cxComp] using e1
      have e2' : (ix.map fun i => (σ[i]?).join)[j]? = some (some v) := by simpa [cSlots0] using e2
      obtain ⟨i, q1, q2⟩ := slots_get e2'
      obtain ⟨i', p1, p2, p3, p4'⟩ := fo.get e1'
      rw [q1] at p1
      cases p1
      have p4 : (relabel scope X.env).names.lookup y = some .cell ∨ (relabel scope X.env).names.lookup y = some .free := relabel_free p4'
      obtain ⟨c, p5⟩ := hhas y p4
      obtain ⟨m0, hn0, hl⟩ := I.loc
      obtain ⟨u, r, l⟩ := hl i y v p2 q2 (.inr p3)
      refine ⟨u, r, .inr ⟨p4, c, p5, ?_⟩⟩
      rcases l with ⟨l1, _⟩ | ⟨_, c', l2, l3⟩
      · rcases p3 with p3 | p3
        · rw [l1] at p3; cases p3
        · rw [l1] at p3; cases p3
      · rw [sub.get p5] at l2
        cases l2
        obtain ⟨o, ho, hd'⟩ := l3
        exact ⟨o, k _ _ ho, hd'⟩
  · obtain ⟨v, o, ho, hd'⟩ := I.cell y c (sub.get e)
    exact ⟨v, o, k _ _ ho, hd'⟩
  · show upd H D (.lst []) C = none
    rw [upd_ne (Ne.symm hDC)]
    exact I.hok.fresh hC
  · show upd H D (.lst []) c = none
    rw [upd_ne (Nat.ne_of_lt (Nat.lt_of_lt_of_le (lt_of_cell y c e) hD))]
    exact I.freeC y c (sub.get e)
  · exact ⟨Nat.zero_le _, [], n, .nil, hd⟩
  · show (cSlots0 σ ix).length = (x :: ys).length
    unfold cSlots0
    rw [List.length_cons, List.length_map, fo.len, List.length_cons]

theorem comp_block {elt iter : Expr} {x : Str} {px : Pos} {ifs : List Expr} {scope : Scope} {cl : List (Str × Addr)} {pos : Pos} {ix : List Nat} {ys : List Str} {tt : TT} {te : TE} {it : Addr} {fp : List Addr} {tn : Nat → Heap → Prop} {J : It} {Q : VK} {E : Value → Shared → Prop}
    {RR : Value → Addr → Result → Shared → Prop}
    (hc : X.calm = true) (ht : ∀ C s H fp E, PTs (cxComp X (x :: ys) scope cl C s H fp E) ifs tt) (he : ∀ C s H fp E, PE (cxComp X (x :: ys) scope cl C s H fp E) elt te)
    (sub : SubCells X.env cl) (hkind : scope.kind = .function) (hnd : (x :: ys).Nodup) (hx : scope.names.lookup x = some .local) (hcell : ∀ y ∈ scope.names, y.2 ≠ .cell)
    (hhas : ∀ y, ((relabel scope X.env).names.lookup y = some .cell ∨ (relabel scope X.env).names.lookup y = some .free) → ∃ c, cl.lookup y = some c) (fo : FreeOk X scope ix ys)
    (I : Inv X pins σ H s) (T : Turn X.prog X.w X.K (.Name x px) J fp it tn) (st : tn 0 s.heap) (hf : ∀ b ∈ fp, FpOk X pins H b) (q : cEnd J σ ix tt te H Q)
    (hRR : ∀ D C s' H' m, s.heap.objs.size ≤ C → Inv X pins σ H' s' → FpOk X pins H' C → s'.heap.Ns C m → Q (.ref D) H' → RR (.ref D) C (.ok .next) s') :
    wpAny (model X.prog X.w) X.A (newList []) (fun acc s₃ => wpAny (model X.prog X.w) X.A (newFunctionEnv scope X.env.globals cl [] X.env.qual none .none (some X.env)) (fun cenv s₄ =>
      codeAny (model X.prog X.w) X.A (.compStart (.ListComp elt [⟨.Name x px, iter, ifs, 0⟩] scope pos) 0 (.ref it) acc { cenv with scope := relabel scope X.env }) (RR acc cenv.locals) s₄) E s₃) E s := by
  refine wpAny_newObj_type (wpAny_newFunctionEnv hcell (by intro y hy; simp at hy) (fun h₁ hns₁ hsb₁ => ?_) hkind)
  dsimp only at hns₁ hsb₁ ⊢
  generalize hH2 : s.heap.push { cls := .type "list", dict := none, data := .seq ([] : List Value).toArray } = H2 at hns₁ hsb₁ ⊢
  have hC : H2.objs.size = s.heap.objs.size + 1 := by rw [← hH2, Heap.size_push]
  have hDC : s.heap.objs.size ≠ H2.objs.size := by rw [hC]; exact Nat.ne_of_lt (Nat.lt_succ_self _)
  have hCle : s.heap.objs.size ≤ H2.objs.size := by rw [hC]; exact Nat.le_succ _
  have below : ∀ b, b < s.heap.objs.size → b ≠ H2.objs.size ∧ b ≠ s.heap.objs.size := fun b hb => ⟨by rw [hC]; exact Nat.ne_of_lt (Nat.lt_succ_of_lt hb), Nat.ne_of_lt hb⟩
  have old : ∀ b o, s.heap.get? b = some o → h₁.get? b = some o := fun b o e => hsb₁.extBut b o (below b (Heap.lt_size e)).1 (Heap.get?_push_of_some _ (hH2 ▸ Heap.get?_push_of_some _ e))
  have hacc : ∃ n, h₁.get? s.heap.objs.size = some { cls := .type "list", data := .seq ([] : List Value).toArray n } := ⟨_, hsb₁.extBut _ _ hDC (Heap.get?_push_of_some _ (hH2 ▸ Heap.get?_push_size _ rfl))⟩
  obtain ⟨nD, hacc⟩ := hacc
  have hf' : ∀ b ∈ fp, FpOk X pins H b ∧ b < s.heap.objs.size := fun b hb => ⟨hf b hb, by obtain ⟨o, e, _⟩ := T.obj 0 _ st b hb; exact Heap.lt_size e⟩
  have hDn : H s.heap.objs.size = none := I.hok.fresh (Nat.le_refl _)
  obtain ⟨W, ⟨m0, w0⟩, turn⟩ := q _ hDn
  generalize hE : notedBy (model X.prog X.w) X.A (compEnvC scope cl H2.objs.size X.env) (fun e s' => RR (.ref s.heap.objs.size) H2.objs.size (.error e) s') = EE
  have hlx : (relabel scope X.env).names.lookup x = some .local := lookup_relabel_local hx
  have I0 : Inv (cxComp X (x :: ys) scope cl H2.objs.size s H fp EE) [] (cSlots0 σ ix) (upd H s.heap.objs.size (.lst [])) { s with heap := h₁, toks := s.toks + ([] : List (Str × Value)).length } :=
    inv_comp I hf' sub hkind hhas fo (Nat.le_refl _) hCle hDC hns₁ old hacc
  have st1 : tn 0 h₁ := T.keep _ _ _ st fun b _ o e => old b o e
  have fr1 : ∀ b ∈ fp, upd H s.heap.objs.size (.lst []) b = none := fun b hb => by rw [upd_ne (below b (hf' b hb).2).2]; exact (hf b hb).1
  have stat : ∀ {H' : Hp}, (∀ b ∈ fp, H' b = none) → ∀ b ∈ fp, FpOk (cxComp X (x :: ys) scope cl H2.objs.size s H fp EE) [] H' b := fun hn b hb =>
    ⟨hn b hb, (I0.ok.exf b hb).1, I0.ok.exfs b hb, .inl hb, (I0.ok.exf b hb).2, fun p hp => absurd (show p ∈ ([] : List (Addr × Obj)) from hp) (by simp)⟩
  have loop : ∀ s₃ : Shared, s₃ = { s with heap := h₁, toks := s.toks + ([] : List (Str × Value)).length } →
      codeAny (model X.prog X.w) X.A (.compLoop (.ListComp elt [⟨.Name x px, iter, ifs, 0⟩] scope pos) 0 (.ref it) (.ref s.heap.objs.size) (compEnvC scope cl H2.objs.size X.env)) (RR (.ref s.heap.objs.size) H2.objs.size) s₃ := by
    rintro s₃ rfl
    refine compLoop_go (fun n s' => ∃ i σ' H', Inv (cxComp X (x :: ys) scope cl H2.objs.size s H fp EE) [] σ' H' s' ∧ (∃ o, σ' = o :: ix.map fun i => (σ[i]?).join) ∧ tn i s'.heap ∧ (∀ b ∈ fp, H' b = none) ∧ W i n H') ?_ m0 ⟨0, _, _, I0, ⟨none, rfl⟩, st1, fr1, w0⟩
    rintro n s3 ⟨i, σ3, H3, I3, ⟨o3, hσ3⟩, st3, fr3, w3⟩
    rw [hE]
    rcases turn i n H3 w3 with ⟨stop, qn⟩ | ⟨go, step⟩
    · refine thn (T.done (cxComp X (x :: ys) scope cl H2.objs.size s H fp EE) rfl rfl rfl hc i [] s3 σ3 H3 EE I3 (stat fr3) st3 stop) fun r s4 ⟨hr, I4⟩ => ?_
      subst hr
      obtain ⟨m4, hn4, _⟩ := I4.loc
      have Ix : Inv X pins σ H3 s4 := I.call' (s' := s4) (ch := fp) I4.os I4.base I4.hok I4.bare fun b hb => by
        obtain ⟨_, z1, _, z3, z4, z5⟩ := hf b hb
        exact ⟨z3, z1, z4, z5⟩
      exact hRR _ _ s4 H3 m4 hCle Ix (I.fpOk hCle I4.free) hn4 qn
    · refine thn (T.item (cxComp X (x :: ys) scope cl H2.objs.size s H fp EE) rfl rfl rfl hc i [] s3 σ3 H3 EE I3 (stat fr3) st3 go) fun r s4 ⟨u, hr, h4⟩ => ?_
      subst hr
      refine thn h4 fun _ s5 ⟨xv, H5, I5, r5, y5, st5, fr5⟩ => ?_
      have I5' := I5.pinned (stat fr5) (T.obj _ _ st5)
      have again : ∀ {σ7 : St} {H7 : Hp} {s7 : Shared} {m' : Nat}, Inv (cxComp X (x :: ys) scope cl H2.objs.size s H fp EE) ([] ++ pinsAt fp s5.heap) σ7 H7 s7 → (∃ o, σ7 = o :: ix.map fun i => (σ[i]?).join) → m' < n → W (i + 1) m' H7 →
          ∃ m, m < n ∧ ∃ i σ' H', Inv (cxComp X (x :: ys) scope cl H2.objs.size s H fp EE) [] σ' H' s7 ∧ (∃ o, σ' = o :: ix.map fun i => (σ[i]?).join) ∧ tn i s7.heap ∧ (∀ b ∈ fp, H' b = none) ∧ W i m H' := fun {σ7 H7 s7 m'} I7 e7 hm w7 => by
        refine ⟨m', hm, i + 1, σ7, H7, I7.unpinned, e7, T.keep _ _ _ st5 fun b hb o e => (I7.pin (b, o) (List.mem_append_right _ (List.mem_append_right _ (mem_pinsAt hb e)))).1, fun b hb => ?_, w7⟩
        obtain ⟨o, e, d⟩ := T.obj _ _ st5 b hb
        exact (I7.pin (b, o) (List.mem_append_right _ (List.mem_append_right _ (mem_pinsAt hb e)))).2.1
      have hg : PG (cxComp X (x :: ys) scope cl H2.objs.size s H fp EE) (.Name x px) (gName 0) := pg_name hnd rfl (.inl hlx) (.inr hlx)
      refine thn (hg _ s5 σ3 H5 xv u (fun σ6 H6 => σ6 = cSlots σ ix xv ∧ H6 = H5) I5' r5 ⟨by rw [hσ3]; rfl, rfl⟩) fun _ s6 ⟨σ6, H6, I6, e6, e6'⟩ => ?_
      subst e6 e6'
      refine thn (ht _ _ _ _ _ _ s6 _ _ _ I6 (step xv _ y5)) fun ok s7 ⟨H7, I7, q7⟩ => ?_
      cases ok with
      | false =>
        rw [if_neg Bool.false_ne_true] at q7 ⊢
        obtain ⟨m', hm, w7⟩ := q7
        exact again I7 ⟨_, rfl⟩ hm w7
      | true =>
        rw [if_pos rfl] at q7 ⊢
        refine thn (he _ _ _ _ _ _ s7 _ _ _ I7 q7) fun y s8 ⟨yv, H8, I8, r8, ys8, m', e8, z8, hm, w8⟩ => ?_
        refine thn (mt_append _ s8 _ H8 (.ref s.heap.objs.size) [yv] (.ref s.heap.objs.size) [y] (fun _ H9 => W (i + 1) m' H9) I8 rfl (.cons r8 .nil) ⟨_, ys8, yv, rfl, rfl, e8, z8, w8⟩) fun _ s9 ⟨_, H9, I9, _, w9⟩ => ?_
        exact again I9 ⟨_, rfl⟩ hm w9
  exact codeAny_compStart_list (loop _ rfl) (T.self _ 0 _ _ _ st1 (loop _ rfl))

def kindsOk (env : Env) (l : List (Str × NameKind)) : Bool := l.all fun p => !(p.2 == .free) || env.kindOf p.1 == some .cell || env.kindOf p.1 == some .free
theorem kinds_free {X : Cx} {l : List (Str × NameKind)} (ok : X.Ok) (h : kindsOk X.env l = true) : FreeIn X.env l := fun p hp hk => by
  have q := List.all_eq_true.mp h p hp
  rw [hk] at q
  have q' : (X.env.kindOf p.1 == some .cell || X.env.kindOf p.1 == some .free) = true := by simpa using q
  rcases Bool.or_eq_true_iff.mp q' with q | q
  · exact ok.has p.1 (.inl (eq_of_beq q))
  · exact ok.has p.1 (.inr (eq_of_beq q))
/-- what a block's scope must be: its own names local, no cells of its own -/
def blockOk (scope : Scope) (x : Str) : Bool := scope.kind == .function && scope.names.lookup x == some .local && scope.names.all (fun p => !(p.2 == .cell)) && scope.names.all (fun p => !(p.2 == .local) || scope.names.lookup p.1 == some .local)
structure BlockOk (scope : Scope) (x : Str) : Prop where
  kind : scope.kind = .function
  own : scope.names.lookup x = some .local
  cell : ∀ y ∈ scope.names, y.2 ≠ .cell
  names : ∀ y ∈ scope.names, y.2 = .local → scope.names.lookup y.1 = some .local
theorem block_of {scope : Scope} {x : Str} (h : blockOk scope x = true) : BlockOk scope x := by
  unfold blockOk at h
  rw [Bool.and_eq_true, Bool.and_eq_true, Bool.and_eq_true] at h
  obtain ⟨⟨⟨h1, h2⟩, h3⟩, h4⟩ := h
  refine ⟨eq_of_beq h1, eq_of_beq h2, fun y hy z => ?_, fun y hy z => ?_⟩
  · have := List.all_eq_true.mp h3 y hy
    rw [z] at this
    cases this
  · have := List.all_eq_true.mp h4 y hy
    rw [z] at this
    have q : (scope.names.lookup y.1 == some NameKind.local) = true := by simpa using this
    exact eq_of_beq q
theorem has_of {scope : Scope} {env : Env} (hcell : ∀ y ∈ scope.names, y.2 ≠ .cell) (y : Str) (h : (relabel scope env).names.lookup y = some .cell ∨ (relabel scope env).names.lookup y = some .free) : ∃ c, (closL env scope.names []).lookup y = some c :=
  Option.isSome_iff_exists.mp (clos_has (relabel_back hcell h))

theorem pe_comp {elt iter : Expr} {x : Str} {px : Pos} {ifs : List Expr} {scope : Scope} {pos : Pos} {wi : TI} {tt : TT} {te : TE} (ix : List Nat) (ys : List Str)
    (hc : X.calm = true) (hi : PI X (.Name x px) iter wi) (ht : ∀ C s H fp E, PTs (cxComp X (x :: ys) scope (closL X.env scope.names []) C s H fp E) ifs tt) (he : ∀ C s H fp E, PE (cxComp X (x :: ys) scope (closL X.env scope.names []) C s H fp E) elt te)
    (fo : FreeOk X scope ix ys) (hk : kindsOk X.env scope.names = true := by rfl) (hb : blockOk scope x = true := by rfl) (hnd : (x :: ys).Nodup := by decide +kernel)
    (hs : ∀ x, foldedSetIterable iter X.env x = pure x := by intro _; rfl) :
    PE X (.ListComp elt [⟨.Name x px, iter, ifs, 0⟩] scope pos) (tComp wi ix tt te) := by
  intro pins s σ H Q I h
  have B := block_of hb
  have F := kinds_free I.ok hk
  rw [eval_ListComp]
  refine wpAny_comprehension_free (use := none) rfl hs (closure_eq F) B.kind B.names (thn (hi pins s σ H _ I h) fun v s1 h1 => thn h1 fun itv s2 h2 => ?_)
  obtain ⟨it, fp, tn, J, H2, e, I2, T, st2, f2, q2⟩ := h2
  subst e
  refine comp_block (RR := fun acc C => compPost (model X.prog X.w) X.A X.xe none (EP X pins σ Q) acc C) hc ht he (sub_clos F) B.kind hnd B.own B.cell (has_of B.cell) fo I2 T st2 f2 q2 ?_
  intro D C s' H' m hC Ix fC hn q
  refine ⟨m, hn, fun h' sb => ⟨.ref D, H', ?_, rfl, q⟩⟩
  obtain ⟨f0, f1, _, f3, f4, f5⟩ := fC
  exact Ix.turned (t' := s'.toks) (fun b o hb e => (sb.2 b hb).trans e) f0 f1 f3 f4 f5

/-- y = [.. for ..] where the stores are exchanged -/
def tSetComp (i : Nat) (t : TE) : TS := fun D σ H => t σ H fun v H1 => D.nx (σ.set i (some v)) H1
theorem ps_setComp {elt iter : Expr} {x y : Str} {px py : Pos} {ifs : List Expr} {scope : Scope} {pos spos : Pos} {wi : TI} {tt : TT} {te : TE} {i : Nat} (ix : List Nat) (ys : List Str)
    (hN : X.N.Nodup) (hiN : X.N[i]? = some y) (hy : X.env.scope.names.lookup y = some .local)
    (hc : X.calm = true) (hi : PI X (.Name x px) iter wi) (ht : ∀ C s H fp E, PTs (cxComp X (x :: ys) scope (closL X.env scope.names []) C s H fp E) ifs tt) (he : ∀ C s H fp E, PE (cxComp X (x :: ys) scope (closL X.env scope.names []) C s H fp E) elt te)
    (fo : FreeOk X scope ix ys)
    (hsw : swapsWith (.ListComp elt [⟨.Name x px, iter, ifs, 0⟩] scope pos) (some (.Name y py)) spos.line X.env = pure true := by rfl)
    (hk : kindsOk X.env scope.names = true := by rfl) (hb : blockOk scope x = true := by rfl) (hnd : (x :: ys).Nodup := by decide +kernel)
    (hs : ∀ x, foldedSetIterable iter X.env x = pure x := by intro _; rfl) :
    PS X (.Assign [.Name y py] (.ListComp elt [⟨.Name x px, iter, ifs, 0⟩] scope pos) spos) (tSetComp i (tComp wi ix tt te)) := by
  intro pins s σ H D I h
  have B := block_of hb
  have F := kinds_free I.ok hk
  rw [exec_Assign_Name_used _ _ _ _ hsw]
  refine wpAny_bind (wpAny_standAt (wpAny_bind ?_))
  show wpAny _ X.A (do let _ ← comprehension (.ListComp elt [⟨.Name x px, iter, ifs, 0⟩] scope pos) scope X.env _ (newList []) false (eval iter X.env) (some (assign (.Name y py) X.env))) _ _ s
  refine wpAny_bind (wpAny_mono (wpAny_comprehension_free (use := some (assign (.Name y py) X.env)) (Q := fun _ s' => SP X pins D .next s') rfl hs (closure_eq F) B.kind B.names
    (thn (hi pins s σ H _ I h) fun v s1 h1 => thn h1 fun itv s2 h2 => ?_)) (fun _ s' hq => wpAny_pure (wpAny_pure hq)) fun _ _ e => e)
  obtain ⟨it, fp, tn, J, H2, e, I2, T, st2, f2, q2⟩ := h2
  subst e
  refine comp_block (RR := fun acc C => compPost (model X.prog X.w) X.A X.xe (some (assign (.Name y py) X.env)) (fun _ s' => SP X pins D .next s') acc C) hc ht he (sub_clos F) B.kind hnd B.own B.cell (has_of B.cell) fo I2 T st2 f2 q2 ?_
  intro Dd C s' H' m hC Ix fC hn q
  obtain ⟨f0, f1, _, f3, f4, f5⟩ := fC
  show wpAny _ X.A (assign (.Name y py) X.env (.ref Dd)) _ _ _
  refine wpAny_assign_Name (store_ok2 Ix hN hiN (.inl hy) (v := .ref Dd) rfl (fun s3 I3 ⟨a, sb, ha⟩ => ?_) (.inr hy))
  have ne : C ≠ a := by
    rcases ha with ha | ha
    · rw [ha]; exact f1
    · exact fun z => f4 y a ha z.symm
  refine ⟨m, hn.sameBut sb ne, fun h' sb' => ⟨_, H', ?_, q⟩⟩
  exact I3.turned (t' := s3.toks) (fun b o hb e => (sb'.2 b hb).trans e) f0 f1 f3 f4 f5
end
end L2
set_option Elab.async false
set_option linter.all false
set_option maxRecDepth 100000
set_option maxHeartbeats 4000000
namespace L2
open PySem PySem.Spec PyProof.Rows

section
variable {X : Cx}
/-! ### isinstance(x, T), T a built-in type's name -/
def rIsi (K : PySem.W.Frag) : List V → Hp → VK → Prop := fun xs H Q => ∃ x n t b, xs = [x, .ty n] ∧ TyOf K H x t ∧ PySem.W.kitOne K t (.type n) = some b ∧ Q (.bl b) H
theorem tw_isinst : CallR X (.builtin "isinstance") (rIsi X.K) := by
  intro pins s σ H xs us Q I r h
  obtain ⟨x, n, t, b, rfl, ty, e, q⟩ := h
  obtain ⟨u, w', rfl, rx, rn⟩ := vals2 r
  cases (show w' = Value.type n from rn)
  exact isinst_ok I rx ty e fun tk => ⟨.bl b, H, I.tok tk, rfl, q⟩
theorem kit_ib {K : PySem.W.Frag} : PySem.W.kitOne K (.type "int") (.type "bool") = some false := by kernel_rfl
theorem kit_ii {K : PySem.W.Frag} : PySem.W.kitOne K (.type "int") (.type "int") = some true := by kernel_rfl
theorem tb_isinstance : bootBuiltins "isinstance" = some (.builtin "isinstance") := by decide +kernel
theorem tb_max : bootBuiltins "max" = some (.builtin "max") := by decide +kernel
theorem tb_abs : bootBuiltins "abs" = some (.builtin "abs") := by decide +kernel
theorem tb_len : bootBuiltins "len" = some (.builtin "len") := by decide +kernel
theorem tb_bool : bootBuiltins "bool" = some (.type "bool") := by decide +kernel
theorem tb_int : bootBuiltins "int" = some (.type "int") := by decide +kernel
theorem tb_list : bootBuiltins "list" = some (.type "list") := by decide +kernel

/-! ### operators -/
theorem tw_eq_nil (hu : X.A.units < cLine) : OpR X (compareOp .Eq) (fun x y H Q => ∃ p b xs, x = .ref p ∧ y = .ref b ∧ SqL X.K H p xs ∧ SqL X.K H b [] ∧ Q (.bl xs.isEmpty) H) := by
  intro pins s σ H x y v u Q I rx ry h
  obtain ⟨p, b, xs, rfl, rfl, h1, h2, q⟩ := h
  cases rx
  cases ry
  obtain ⟨its, r1, p1, z1⟩ := I.list h1
  obtain ⟨its2, r2, p2, z2⟩ := I.list h2
  have l1 := r1.length
  have l2 := r2.length
  have e2 : its2 = [] := List.eq_nil_of_length_eq_zero (by rw [← l2]; rfl)
  subst e2
  cases xs with
  | nil =>
    have e1 : its = [] := List.eq_nil_of_length_eq_zero (by rw [← l1]; rfl)
    subst e1
    exact PySem.SeqAt.eq_listAt (e := fun _ => true) p1.isList p2.isList rfl hu (fun j h1 _ => absurd h1 (by simp)) (fin_bl I q (by simp))
  | cons x r => exact PySem.SeqAt.eq_list_lengthsAt p1.isList p2.isList (by simp; intro e; subst e; simp at l1) hu (fin_bl I q rfl)
def CDivL (i j : Int) : Prop := 0 < j ∧ j.natAbs.log2 < 9000
theorem tw_fdiv : OpR X (binaryOp .FloorDiv) (rI CDivL fun i j => .int (i / j)) := opI fun i j _ _ _ _ _ hc q => by
  have h1 : (0 : Int) < j := hc.1
  exact floordiv_int (by omega) (by rw [Int.fdiv_eq_ediv_of_nonneg i (by omega)]; exact q) (.inl (PyProof.noPylong_of_log2 hc.2))

/-! ### xs.insert(i, y), 0 ≤ i -/
/-! ### all of a list of bools -/
end

/-! ### max of a list of ints, with a default -/
section
variable {prog : Program} {w : World} {A : Around} {R : Result → Shared → Prop}
end
section
variable {X : Cx}
end

/-! ### the signs of a text -/
section
variable {X : Cx} {tg : Expr}
end

/-! ### the forms of a comprehension that one uses: D its list, after i items it holds ys -/
section
variable {σ : St} {H : Hp} {ix : List Nat} {te : TE} {Q : VK} {K : PySem.W.Frag}
theorem comp_map {J : It} {n : Nat} (item : Nat → V → Prop) (Pv : Addr → Nat → List V → Hp → Prop) (hn : n < sizeLine)
    (hgo : ∀ D i ys H, i < n → Pv D i ys H → J.go i H) (hy : ∀ D i ys H x H', i < n → Pv D i ys H → J.yld i H x H' → H' = H ∧ item i x) (hstop : ∀ D ys H, Pv D n ys H → J.stop n H)
    (h0 : ∀ D, H D = none → Pv D 0 [] (upd H D (.lst [])))
    (step : ∀ D i ys H x, H D = some (.lst ys) → ys.length ≤ i → i < n → item i x → Pv D i ys H → ∀ R : VK, (∀ y H3, H3 D = some (.lst ys) → Pv D (i + 1) (ys ++ [y]) (upd H3 D (.lst (ys ++ [y]))) → R y H3) → te (cSlots σ ix x) H R)
    (fin : ∀ D ys H, H D = some (.lst ys) → Pv D n ys H → Q (.ref D) H) : cEnd J σ ix tTrue te H Q := by
  intro D hD
  refine ⟨fun i m H => m = n - i ∧ i ≤ n ∧ ∃ ys, H D = some (.lst ys) ∧ ys.length ≤ i ∧ Pv D i ys H, ⟨n, rfl, Nat.zero_le _, [], upd_same, Nat.le_refl _, h0 D hD⟩, ?_⟩
  rintro i m H ⟨rfl, hi, ys, e, hl, p⟩
  by_cases hlt : i < n
  · refine .inr ⟨hgo D i ys H hlt p, fun x H' y => ?_⟩
    obtain ⟨rfl, it⟩ := hy D i ys H x H' hlt p y
    unfold tTrue
    dsimp only
    rw [if_pos rfl]
    refine step D i ys _ x e hl hlt it p _ fun y H3 e3 p3 => ?_
    exact ⟨ys, n - (i + 1), e3, by omega, by omega, rfl, hlt, ys ++ [y], upd_same, by rw [List.length_append, List.length_singleton]; omega, p3⟩
  · have e' : i = n := by omega
    subst e'
    exact .inl ⟨hstop D ys H p, fin D ys H e p⟩
theorem comp_filter {J : It} {n : Nat} {tt : TT} (item : Nat → V → Prop) (keep : V → Bool) (Pv : Addr → Nat → List V → Hp → Prop) (hn : n < sizeLine)
    (hgo : ∀ D i ys H, i < n → Pv D i ys H → J.go i H) (hy : ∀ D i ys H x H', i < n → Pv D i ys H → J.yld i H x H' → H' = H ∧ item i x) (hstop : ∀ D ys H, Pv D n ys H → J.stop n H)
    (h0 : ∀ D, H D = none → Pv D 0 [] (upd H D (.lst [])))
    (test : ∀ D i ys H x, i < n → item i x → Pv D i ys H → ∀ R : Bool → Hp → Prop, R (keep x) H → tt (cSlots σ ix x) H R)
    (yes : ∀ D i ys H x, H D = some (.lst ys) → i < n → item i x → keep x = true → Pv D i ys H → Pv D (i + 1) (ys ++ [x]) (upd H D (.lst (ys ++ [x])))) (no : ∀ D i ys H x, H D = some (.lst ys) → i < n → item i x → keep x = false → Pv D i ys H → Pv D (i + 1) ys H)
    (fin : ∀ D ys H, H D = some (.lst ys) → Pv D n ys H → Q (.ref D) H) : cEnd J σ ix tt (tVar 0) H Q := by
  intro D hD
  refine ⟨fun i m H => m = n - i ∧ i ≤ n ∧ ∃ ys, H D = some (.lst ys) ∧ ys.length ≤ i ∧ Pv D i ys H, ⟨n, rfl, Nat.zero_le _, [], upd_same, Nat.le_refl _, h0 D hD⟩, ?_⟩
  rintro i m H ⟨rfl, hi, ys, e, hl, p⟩
  by_cases hlt : i < n
  · refine .inr ⟨hgo D i ys H hlt p, fun x H' y => ?_⟩
    obtain ⟨rfl, it⟩ := hy D i ys H x H' hlt p y
    refine test D i ys _ x hlt it p _ ?_
    cases hk : keep x with
    | true =>
      rw [if_pos rfl]
      exact ⟨x, rfl, ys, n - (i + 1), e, by omega, by omega, rfl, hlt, ys ++ [x], upd_same, by rw [List.length_append, List.length_singleton]; omega, yes D i ys _ x e hlt it hk p⟩
    | false =>
      rw [if_neg Bool.false_ne_true]
      exact ⟨n - (i + 1), by omega, rfl, hlt, ys, e, Nat.le_succ_of_le hl, no D i ys _ x e hlt it hk p⟩
  · have e' : i = n := by omega
    subst e'
    exact .inl ⟨hstop D ys H p, fin D ys H e p⟩
end
end L2
set_option Elab.async false
set_option linter.all false
set_option maxRecDepth 100000
set_option maxHeartbeats 4000000
namespace L2
open PySem PySem.Spec PyProof.Rows

/-! ### an exception that flies: what stands but the frames stays -/
section
variable {X : Cx} {pins : List (Addr × Obj)} {σ : St} {H H' : Hp} {s s' : Shared} {E : XK}
/-! ### raise C(), C without an __init__ of its own -/
end
end L2
set_option Elab.async false
set_option linter.all false
set_option maxRecDepth 100000
set_option maxHeartbeats 4000000
namespace L2
open PySem PySem.Spec PySem.W PyProof.Rows
section
variable {prog : Program} {w : World} {A : Around} {E : Value → Shared → Prop} {s : Shared} {K : Frag} {x C : Addr}
end
end L2
set_option Elab.async false
set_option linter.all false
set_option maxRecDepth 100000
set_option maxHeartbeats 4000000
namespace L2
open PySem PySem.Spec PyProof.Rows

/-- the context of an except suite -/
def Cx.held (X : Cx) (ea : Addr) (E : Value → Shared → Prop) : Cx := { X with A := X.A.mark (some (.ref ea)), calm := false, xe := E }
section
variable {X : Cx} {pins : List (Addr × Obj)} {σ : St} {H H' : Hp} {s s' : Shared} {ea : Addr} {E : Value → Shared → Prop}
end
section
variable {prog : Program} {w : World} {A : Around} {E : Value → Shared → Prop} {s : Shared} {K : PySem.W.Frag} {x C CB : Addr}
end

/-! ### try: f(..) / except Y as n: suite -/
end L2
set_option linter.all false
namespace Tw
open PySem

/-- a key, as a tree -/
inductive KT where
  | int (i : Int)
  | str (x : Str)
  | tup (l : List KT)

mutual
def KT.depth : KT → Nat
  | .int _ => 0
  | .str _ => 0
  | .tup l => 1 + depthL l
def depthL : List KT → Nat
  | [] => 0
  | t :: r => max t.depth (depthL r)
end
mutual
def KT.size : KT → Nat
  | .int _ => 1
  | .str _ => 1
  | .tup l => 1 + sizeL l
def sizeL : List KT → Nat
  | [] => 0
  | t :: r => t.size + sizeL r
end
def signOk (c : Nat) : Bool := decide (32 ≤ c) && decide (c ≤ 126)
def textOk (x : Str) : Bool := decide (x.length ≤ 40) && x.cps.toList.all signOk
mutual
def KT.fits : KT → Nat → Bool
  | .int i, _ => decide (i.natAbs < 10 ^ 60)
  | .str x, _ => textOk x
  | .tup l, r => decide (0 < r) && (decide (l.length ≤ 4) && fitsL l (r - 1))
def fitsL : List KT → Nat → Bool
  | [], _ => true
  | t :: l, r => t.fits r && fitsL l r
end

def KT.things : KT → List KT
  | .tup l => l
  | _ => []
def below (l : List KT) : List KT := l.flatMap KT.things
end Tw
set_option linter.all false
namespace Tw
open PySem

/-! ### keys alike; Python's own order; the keys' order -/
mutual
def KT.eqb : KT → KT → Bool
  | .int i, .int j => i == j
  | .str x, .str y => x == y
  | .tup l, .tup m => eqbL l m
  | _, _ => false
def eqbL : List KT → List KT → Bool
  | [], [] => true
  | a :: l, b :: m => a.eqb b && eqbL l m
  | _, _ => false
end
def KT.kind : KT → Nat
  | .int _ => 0
  | .str _ => 1
  | .tup _ => 2
mutual
def KT.lt : KT → KT → Bool
  | .int i, .int j => decide (i < j)
  | .int _, .str _ => true
  | .int _, .tup _ => true
  | .str _, .int _ => false
  | .str x, .str y => decide (x.cps.toList < y.cps.toList)
  | .str _, .tup _ => true
  | .tup _, .int _ => false
  | .tup _, .str _ => false
  | .tup l, .tup m => ltL l m
def ltL : List KT → List KT → Bool
  | [], [] => false
  | [], _ :: _ => true
  | _ :: _, [] => false
  | a :: l, b :: m => if a.eqb b = true then ltL l m else a.lt b
end
mutual
def KT.st : KT → KT
  | .int i => .tup [.int 0, .int i]
  | .str x => .tup [.int 1, .str x]
  | .tup l => .tup [.int 2, .tup (stL l)]
def stL : List KT → List KT
  | [] => []
  | t :: l => t.st :: stL l
end
/-! ### the laws' own way, from place to place -/
/-! ### keys near one another -/
end Tw
set_option linter.all false
namespace Tw
open PySem
/-- a thing of any kind, as a tree; odd: what is no number, text or tuple, by its type's name -/
inductive TG where
  | int (i : Int)
  | str (x : Str)
  | tup (l : List TG)
  | odd (n : String)
mutual
def TG.fits : TG → Nat → Bool
  | .int i, _ => decide (i.natAbs < 10 ^ 60)
  | .str x, _ => textOk x
  | .tup l, r => decide (0 < r) && (decide (l.length ≤ 4) && gfitsL l (r - 1))
  | .odd _, _ => false
def gfitsL : List TG → Nat → Bool
  | [], _ => true
  | t :: l, r => t.fits r && gfitsL l r
end
/-! no text in it is long, no tuple in it is wide -/
end Tw
set_option Elab.async false
set_option linter.all false
set_option maxRecDepth 100000
set_option maxHeartbeats 4000000
namespace Tw
open PySem PySem.Spec L2

/-- a def of the text with its promise -/
structure DefOk (P : Program) (w : World) (K : PySem.W.Frag) (mg : Str → Option Value) (base : Heap) (k : Nat) (x : Str) (ps : List Str) (sp : Sp) : Prop where
  ex : ∃ f fd, FnOk P w K mg base CX0 k f fd ps sp ∧ Binds K fd ps [] ∧ PySem.W.keepIn K (.ref f) = true ∧ mg x = some (.ref f)
theorem pe_def {X : Cx} {k : Nat} {x : Str} {ps : List Str} {sp : Sp} {e : Expr} {es : List Expr} {t : TA} {p pos : Pos} (D : DefOk X.prog X.w X.K X.mg X.base k x ps sp) (hr : Room k X.A) (ha : PA X (e :: es) t) (hg : Gl X x := by rfl)
    (hdb : (x == ("__debug__" : Str)) = false := by decide) (he : starEach (e :: es) X.env = (false, eval e X.env) :: starEach es X.env := by rfl) (hpl : (backTo pos (starEach es X.env)).any (·.1) = false := by rfl) :
    PE X (.Call (.Name x p) (e :: es) [] pos) (tCall sp [] E0 t) := by
  obtain ⟨f, fd, F, b, kp, m⟩ := D.ex
  exact pe_call F hr hg m kp b .nil pass0 ha hdb he hpl

/-! ### keys on the heap -/
mutual
def KeyAt (H : Hp) : KT → V → Prop
  | .int i, v => v = .int i
  | .str x, v => v = .str x
  | .tup l, v => ∃ a vs, v = .ref a ∧ H a = some (.tup vs) ∧ KeysAt H l vs
def KeysAt (H : Hp) : List KT → List V → Prop
  | [], vs => vs = []
  | t :: l, vs => ∃ v r, vs = v :: r ∧ KeyAt H t v ∧ KeysAt H l r
end
/-- the tuples stay -/
def Tups (H H' : Hp) : Prop := ∀ b xs, H b = some (.tup xs) → H' b = some (.tup xs)
mutual
theorem KeyAt.mono {H H' : Hp} (m : Tups H H') : ∀ (t : KT) (v : V), KeyAt H t v → KeyAt H' t v
  | .int _, _, h => by rw [KeyAt] at h ⊢; exact h
  | .str _, _, h => by rw [KeyAt] at h ⊢; exact h
  | .tup l, _, h => by
    rw [KeyAt] at h ⊢
    obtain ⟨a, vs, e, h1, h2⟩ := h
    exact ⟨a, vs, e, m a vs h1, KeysAt.mono m l vs h2⟩
theorem KeysAt.mono {H H' : Hp} (m : Tups H H') : ∀ (l : List KT) (vs : List V), KeysAt H l vs → KeysAt H' l vs
  | [], _, h => by rw [KeysAt] at h ⊢; exact h
  | t :: l, _, h => by
    rw [KeysAt] at h ⊢
    obtain ⟨v, r, e, h1, h2⟩ := h
    exact ⟨v, r, e, KeyAt.mono m t v h1, KeysAt.mono m l r h2⟩
end
def KT.ty : KT → Value
  | .int _ => .type "int"
  | .str _ => .type "str"
  | .tup _ => .type "tuple"
/-! ### what stays -/
/-- all but p -/
def SameX (p : Addr) (H H' : Hp) : Prop := ∀ b o, H b = some o → b ≠ p → H' b = some o
theorem SameX.refl (p : Addr) (H : Hp) : SameX p H H := fun _ _ h _ => h
theorem SameX.trans {p : Addr} {H H1 H2 : Hp} (a : SameX p H H1) (b : SameX p H1 H2) : SameX p H H2 := fun c o h n => b c o (a c o h n) n
theorem SameX.upd {p : Addr} {H H' : Hp} {o : HO} (a : SameX p H H') : SameX p H (L2.upd H' p o) := fun c u h n => by rw [upd_ne n]; exact a c u h n
theorem SameX.of {p : Addr} {H H' : Hp} (a : Same H H') : SameX p H H' := fun c o h _ => a c o h
theorem same_new {H : Hp} {p : Addr} (h : H p = none) (o : HO) : Same H (L2.upd H p o) := fun b u q => by rw [upd_ne (ne_of_none q h)]; exact q
/-! ### the well of draws: a list of four ints -/
structure WellAt (H : Hp) (p : Addr) : Prop where
  ex : ∃ a b c d : Int, H p = some (.lst [.int a, .int b, .int c, .int d]) ∧ 0 ≤ a ∧ a < 2147483647 ∧ 0 ≤ c ∧ 0 ≤ d
theorem WellAt.stay {H H' : Hp} {p q : Addr} (w : WellAt H p) (s : SameX q H H') (n : p ≠ q) : WellAt H' p := by
  obtain ⟨a, b, c, d, e, r⟩ := w.ex
  exact ⟨a, b, c, d, s p _ e n, r⟩
theorem WellAt.same {H H' : Hp} {p : Addr} (w : WellAt H p) (s : Same H H') : WellAt H' p := by
  obtain ⟨a, b, c, d, e, r⟩ := w.ex
  exact ⟨a, b, c, d, s p _ e, r⟩
theorem WellAt.some {H : Hp} {p : Addr} (w : WellAt H p) : ∃ xs, H p = Option.some (.lst xs) := by
  obtain ⟨a, b, c, d, e, r⟩ := w.ex
  exact ⟨_, e⟩
/-! ### the promises -/
def small (m : Int) : Prop := 0 < m ∧ m.natAbs.log2 < 9000
def spWell (K : PySem.W.Frag) : Sp := fun vs H Q _ => ∃ (a : Addr) (ns : List Int) (k : Int), vs = [.ref a, .int k] ∧ SqL K H a (ns.map V.int) ∧ ns.length ≤ 63 ∧ 0 ≤ k ∧ k ≤ 1000 ∧
  ∀ (p : Addr) (H' : Hp), H p = none → Same H H' → WellAt H' p → Q (.ref p) H'
def spPull : Sp := fun vs H Q _ => ∃ (p : Addr) (m : Int), vs = [.ref p, .int m] ∧ WellAt H p ∧ small m ∧ ∀ (r : Int) (H' : Hp), 0 ≤ r → r < m → WellAt H' p → SameX p H H' → Q (.int r) H'
def spLaw (K : PySem.W.Frag) : Sp := fun vs H Q _ => ∃ (a : Addr) (ns : List Int), vs = [.ref a] ∧ SqL K H a (ns.map V.int) ∧ ns.length ≤ 63 ∧ ∀ H', Q (.bl true) H'

/-! ### small facts -/
theorem nn {n : Nat} (h : n ≤ 1000) : n ≤ sizeLine := Nat.le_of_lt (small1000 h)
theorem at4 {x y z u : V} {i : Int} (h0 : 0 ≤ i) (h1 : i < 4) : ∃ v, atI [x, y, z, u] i = some v ∧ (v = x ∨ v = y ∨ v = z ∨ v = u) := by
  rcases (show i = 0 ∨ i = 1 ∨ i = 2 ∨ i = 3 by omega) with e | e | e | e
  · subst e; exact ⟨x, rfl, .inl rfl⟩
  · subst e; exact ⟨y, rfl, .inr (.inl rfl)⟩
  · subst e; exact ⟨z, rfl, .inr (.inr (.inl rfl))⟩
  · subst e; exact ⟨u, rfl, .inr (.inr (.inr rfl))⟩
theorem atI_in {α : Type} {xs : List α} {i : Int} (h0 : 0 ≤ i) (h1 : i < (xs.length : Int)) : ∃ v, atI xs i = some v ∧ v ∈ xs := by
  have hk : i.toNat < xs.length := by omega
  have e : i = ((i.toNat : Nat) : Int) := by omega
  rw [e]
  exact ⟨xs[i.toNat], atI_nat (List.getElem?_eq_getElem hk), List.getElem_mem hk⟩
theorem small_lit {m : Int} (h0 : 0 < m) (h1 : m.natAbs < 2 ^ 250) : small m := by
  refine ⟨h0, ?_⟩
  have : m.natAbs.log2 < 250 := (Nat.log2_lt (by omega)).mpr h1
  omega
end Tw
set_option Elab.async false
set_option linter.all false
set_option maxRecDepth 100000
set_option maxHeartbeats 4000000
namespace Tw
open PySem PySem.Spec L2 PyProof.Rows

/-! ### keys as values -/
mutual
def KVal (h : Heap) : KT → Value → Prop
  | .int i, v => ∃ t, v = .int i t
  | .str x, v => ∃ t, v = .str x t
  | .tup l, v => ∃ (a : Addr) (its : List Value), v = .ref a ∧ IsTup h a its.toArray ∧ KVals h l its
def KVals (h : Heap) : List KT → List Value → Prop
  | [], vs => vs = []
  | t :: l, vs => ∃ v r, vs = v :: r ∧ KVal h t v ∧ KVals h l r
end
section
variable {X : Cx} {pins : List (Addr × Obj)} {σ : L2.St} {H : Hp} {s : Shared}
end
theorem isTup_inj {h : Heap} {a : Addr} {its its' : List Value} (x : IsTup h a its.toArray) (y : IsTup h a its'.toArray) : its = its' := by
  obtain ⟨o, e, _, n, d⟩ := x
  obtain ⟨o', e', _, n', d'⟩ := y
  rw [e] at e'
  cases e'
  rw [d] at d'
  injection d' with d1 _
  simpa using congrArg Array.toList d1
mutual
theorem KVal.inj {h : Heap} : ∀ (a b : KT) (v : Value), KVal h a v → KVal h b v → a.eqb b = true
  | .int i, b, v, x, y => by
    rw [KVal] at x
    obtain ⟨t, rfl⟩ := x
    cases b with
    | int j => rw [KVal] at y; obtain ⟨u, e⟩ := y; injection e with e _; rw [KT.eqb, e]; exact beq_self_eq_true j
    | str z => rw [KVal] at y; obtain ⟨u, e⟩ := y; cases e
    | tup m => rw [KVal] at y; obtain ⟨_, _, e, _⟩ := y; cases e
  | .str w, b, v, x, y => by
    rw [KVal] at x
    obtain ⟨t, rfl⟩ := x
    cases b with
    | int j => rw [KVal] at y; obtain ⟨u, e⟩ := y; cases e
    | str z => rw [KVal] at y; obtain ⟨u, e⟩ := y; injection e with e _; rw [KT.eqb, e]; exact beq_self_eq_true z
    | tup m => rw [KVal] at y; obtain ⟨_, _, e, _⟩ := y; cases e
  | .tup l, b, v, x, y => by
    rw [KVal] at x
    obtain ⟨p, its, rfl, px, kx⟩ := x
    cases b with
    | int j => rw [KVal] at y; obtain ⟨u, e⟩ := y; cases e
    | str z => rw [KVal] at y; obtain ⟨u, e⟩ := y; cases e
    | tup m =>
      rw [KVal] at y
      obtain ⟨q, its', e, py, ky⟩ := y
      cases e
      cases isTup_inj px py
      rw [KT.eqb]
      exact KVals.inj l m its kx ky
theorem KVals.inj {h : Heap} : ∀ (l m : List KT) (us : List Value), KVals h l us → KVals h m us → eqbL l m = true
  | [], m, us, x, y => by
    rw [KVals] at x
    subst x
    cases m with
    | nil => rw [eqbL]
    | cons b m => rw [KVals] at y; obtain ⟨_, _, e, _⟩ := y; cases e
  | a :: l, m, us, x, y => by
    rw [KVals] at x
    obtain ⟨v, r, rfl, x1, x2⟩ := x
    cases m with
    | nil => rw [KVals] at y; cases y
    | cons b m =>
      rw [KVals] at y
      obtain ⟨v', r', e, y1, y2⟩ := y
      injection e with e1 e2
      subst e1 e2
      rw [eqbL, KVal.inj a b v x1 y1, KVals.inj l m r x2 y2]
      rfl
end
/-! ### == -/
/-! ### < -/
section
open PySem.SeqAt
open PySem.AutoSeq1 (wpAny_loadPart')
open PySem.MeetsSeq PySem.MeetsSeq2 PySem.MeetsSeq3
end
section
variable {X : Cx}
end
end Tw
set_option Elab.async false
set_option linter.all false
set_option maxRecDepth 100000
set_option maxHeartbeats 4000000
namespace L2
open PySem PySem.Spec PyProof.Rows
section
variable {X : Cx}
/-! ### more rules -/
theorem Inv.big {pins : List (Addr × Obj)} {σ : St} {H : Hp} {s : Shared} (I : Inv X pins σ H s) : sysModules < s.heap.objs.size := by
  have h : mainGlobals < s.heap.objs.size := (I.mod.glob.keeps I.bk).lt
  exact Nat.lt_trans (by decide) h
theorem dk_empty {P : Program} {w : World} {H : Hp} (h : Heap) (hb : sysModules < h.objs.size) : ObjOk P w H (h.push { cls := .type "dict", data := .dict #[] }) h.objs.size (.dK []) :=
  ⟨Nat.zero_le _, beq_eq_false_iff_ne.mpr (Ne.symm (Nat.ne_of_lt hb)), [], .nil, Heap.DictOf.new h⟩
def tDNewK : TE := fun _ H Q => ∀ p, H p = none → Q (.ref p) (upd H p (.dK []))
theorem pe_dnewK {pos : Pos} : PE X (.Dict [] [] pos) tDNewK := fun pins s σ H Q I h =>
  wpAny_Dict_empty ⟨.ref s.heap.objs.size, _, I.laid (a := s.heap.objs.size) (o := .dK []) (t' := s.toks) (fun _ _ q => Heap.get?_push_of_some _ q) (Nat.le_refl _) (dk_empty s.heap I.big), rfl, h _ (I.hok.fresh (Nat.le_refl _))⟩
/-! ### isinstance of an exception that was caught -/
end
end L2
set_option Elab.async false
set_option linter.all false
set_option maxRecDepth 100000
set_option maxHeartbeats 4000000
namespace L2
open PySem PySem.Spec PyProof.Rows
/-! ### try: y = f(..) / except Y as n: suite -/
end L2
set_option linter.all false
namespace Tw
open PySem
/-! ### the keys' order is a strict one in which all keys stand -/
end Tw
set_option Elab.async false
set_option linter.all false
set_option maxRecDepth 100000
set_option maxHeartbeats 8000000
namespace L2
open PySem PySem.Spec PyProof.Rows
section
variable {P : Program} {w : World} {K : PySem.W.Frag} {mg : Str → Option Value} {base : Heap}
end
def starless : Expr → Bool
  | .Starred _ _ => false
  | _ => true
theorem star_plain {e : Expr} {es : List Expr} {env : Env} (h : starless e = true) : starEach (e :: es) env = (false, eval e env) :: starEach es env := by
  cases e <;> first | rfl | cases h
theorem pa_c {X : Cx} {e : Expr} {es : List Expr} {te : TE} {t : TA} (ha : PE X e te) (hr : PA X es t) (h : starless e = true := by rfl) : PA X (e :: es) (tCons te t) := pa_cons ha hr (star_plain h)
theorem pa3 {X : Cx} {e0 e1 e2 : Expr} {t0 t1 t2 : TE} (g0 : PE X e0 t0) (g1 : PE X e1 t1) (g2 : PE X e2 t2) (h : [e0, e1, e2].all starless = true := by rfl) : PA X [e0, e1, e2] (tCons t0 (tCons t1 (tCons t2 tNil))) :=
  (pa_cons g0 (pa_cons g1 (pa_cons g2 pa_nil (star_plain (List.all_eq_true.mp h e2 (by simp)))) (star_plain (List.all_eq_true.mp h e1 (by simp)))) (star_plain (List.all_eq_true.mp h e0 (by simp))))
theorem pa4 {X : Cx} {e0 e1 e2 e3 : Expr} {t0 t1 t2 t3 : TE} (g0 : PE X e0 t0) (g1 : PE X e1 t1) (g2 : PE X e2 t2) (g3 : PE X e3 t3) (h : [e0, e1, e2, e3].all starless = true := by rfl) : PA X [e0, e1, e2, e3] (tCons t0 (tCons t1 (tCons t2 (tCons t3 tNil)))) :=
  (pa_cons g0 (pa_cons g1 (pa_cons g2 (pa_cons g3 pa_nil (star_plain (List.all_eq_true.mp h e3 (by simp)))) (star_plain (List.all_eq_true.mp h e2 (by simp)))) (star_plain (List.all_eq_true.mp h e1 (by simp)))) (star_plain (List.all_eq_true.mp h e0 (by simp))))
end L2
namespace Tw
open PySem PySem.Spec L2
end Tw
set_option Elab.async false
set_option linter.all false
set_option maxRecDepth 100000
set_option maxHeartbeats 4000000
namespace L2
open PySem PySem.Spec PyProof.Rows
/-! ### lists of pairs as tables -/
section
variable {κ : Type} [DecidableEq κ]
def valV (kvs : List (κ × V)) (k : κ) : Option V := (kvs.find? fun kv => decide (kv.1 = k)).map (·.2)
/-- in its place, or at the end -/
def putK (kvs : List (κ × V)) (k : κ) (v : V) : List (κ × V) :=
  if (kvs.any fun kv => decide (kv.1 = k)) = true then kvs.map (fun kv => if kv.1 = k then (kv.1, v) else kv) else kvs ++ [(k, v)]
theorem valV_pos {p : κ × V} {r : List (κ × V)} {k : κ} (e : p.1 = k) : valV (p :: r) k = some p.2 := by simp [valV, List.find?_cons, e]
theorem valV_neg {p : κ × V} {r : List (κ × V)} {k : κ} (e : ¬ p.1 = k) : valV (p :: r) k = valV r k := by simp [valV, List.find?_cons, e]
theorem valV_any (k : κ) : ∀ kvs : List (κ × V), (kvs.any fun kv => decide (kv.1 = k)) = (valV kvs k).isSome
  | [] => rfl
  | p :: r => by
    rw [List.any_cons]
    by_cases e : p.1 = k
    · simp only [valV_pos e, decide_eq_true e, Bool.true_or, Option.isSome_some]
    · rw [valV_neg e, decide_eq_false e, Bool.false_or]; exact valV_any k r
theorem length_putK (kvs : List (κ × V)) (k : κ) (v : V) : (putK kvs k v).length ≤ kvs.length + 1 := by
  unfold putK
  split
  · rw [List.length_map]; omega
  · rw [List.length_append, List.length_cons, List.length_nil]; omega
theorem putK_new {kvs : List (κ × V)} {k : κ} (v : V) (h : valV kvs k = none) : putK kvs k v = kvs ++ [(k, v)] := by
  unfold putK
  rw [valV_any, h]
  exact if_neg (by decide)

theorem RelO.isSome_eq {o : Option V} {u : Option Value} (r : RelO o u) : o.isSome = u.isSome := by
  cases o with
  | none => cases u with
    | none => rfl
    | some _ => exact (show False from r).elim
  | some _ => cases u with
    | none => exact (show False from r).elim
    | some _ => rfl
/-- raw tables of the same keys -/
theorem KV.val {kvs : List (κ × V)} {vs : List (κ × Value)} (r : KV kvs vs) (k : κ) : RelO (valV kvs k) (valueAt vs k) := by
  unfold KV at r
  induction r with
  | nil => exact True.intro
  | @cons p q ps qs h t ih =>
    obtain ⟨h1, h2⟩ := h
    by_cases e : p.1 = k
    · have e' : q.1 = k := h1.symm.trans e
      have b : valueAt (q :: qs) k = some q.2 := by simp [valueAt, List.find?_cons, e']
      rw [valV_pos e, b]; exact h2
    · have e' : ¬ q.1 = k := fun z => e (h1.trans z)
      have b : valueAt (q :: qs) k = valueAt qs k := by simp [valueAt, List.find?_cons, e']
      rw [valV_neg e, b]; exact ih
theorem KV.any {kvs : List (κ × V)} {vs : List (κ × Value)} (r : KV kvs vs) (k : κ) : (kvs.any fun kv => decide (kv.1 = k)) = vs.any fun kv => decide (kv.1 = k) := by
  unfold KV at r
  induction r with
  | nil => rfl
  | cons h t ih => rw [List.any_cons, List.any_cons, ih, h.1]
theorem KV.repl {kvs : List (κ × V)} {vs : List (κ × Value)} (r : KV kvs vs) (k : κ) {y : V} {u : Value} (ry : RelV y u) :
    KV (kvs.map fun kv => if kv.1 = k then (kv.1, y) else kv) (vs.map fun kv => if kv.1 = k then (kv.1, u) else kv) := by
  unfold KV at r ⊢
  induction r with
  | nil => exact .nil
  | @cons p q ps qs h t ih =>
    rw [List.map_cons, List.map_cons]
    refine .cons ?_ ih
    obtain ⟨h1, h2⟩ := h
    by_cases e : p.1 = k
    · rw [if_pos e, if_pos (h1.symm.trans e)]; exact ⟨h1, ry⟩
    · rw [if_neg e, if_neg (fun z => e (h1.trans z))]; exact ⟨h1, h2⟩
theorem KV.put {kvs : List (κ × V)} {vs : List (κ × Value)} (r : KV kvs vs) (k : κ) {y : V} {u : Value} (ry : RelV y u) : KV (putK kvs k y) (stored vs k u) := by
  unfold putK stored
  rw [r.any k]
  by_cases e : (vs.any fun kv => decide (kv.1 = k)) = true
  · rw [if_pos e, if_pos e]; exact r.repl k ry
  · rw [if_neg e, if_neg e]; exact Paired.snoc r ⟨rfl, ry⟩
theorem KV.keys {kvs : List (κ × V)} {vs : List (κ × Value)} (r : KV kvs vs) : kvs.map (·.1) = vs.map (·.1) := by
  unfold KV at r
  induction r with
  | nil => rfl
  | cons h t ih => rw [List.map_cons, List.map_cons, ih, h.1]
theorem KV.length {kvs : List (κ × V)} {vs : List (κ × Value)} (r : KV kvs vs) : kvs.length = vs.length := Paired.length r
end


/-! ### a tracked dict, its keys ints and texts or tuples of these -/
theorem kV_is {P : Program} {w : World} {k : Key} {u : Value} (r : RelV (kV k) u) : (mixKind P w).is k u = true := by
  cases k with
  | inl i => obtain ⟨t, e⟩ := (show ∃ t, u = Value.int i t from r); subst e; exact mixKind_int P w i t
  | inr x => obtain ⟨t, e⟩ := (show ∃ t, u = Value.str x t from r); subst e; exact mixKind_str P w x t
theorem items_are {P : Program} {w : World} : ∀ {ks : List Key} {us : List Value}, Vals (ks.map kV) us → ItemsAre (mixKind P w) ks us
  | [], _, r => by rw [List.map_nil] at r; cases r; exact .nil
  | k :: ks, _, r => by
    rw [List.map_cons] at r
    cases r with
    | cons h t => exact .cons (kV_is h) (items_are t)

/-- raw entries of a dict with tuple keys -/
abbrev KT (H : Hp) : List (List Key × V) → List (List Key × Addr × Value) → Prop := Paired fun p q => p.1 = q.1 ∧ H q.2.1 = some (.tup (p.1.map kV)) ∧ RelV p.2 q.2.2
theorem KT.val {H : Hp} {kvs : List (List Key × V)} {xs : List (List Key × Addr × Value)} (r : KT H kvs xs) (k : List Key) : RelO (valV kvs k) ((atKey xs k).map (·.2)) := by
  induction r with
  | nil => exact True.intro
  | @cons p q ps qs h t ih =>
    obtain ⟨h1, _, h2⟩ := h
    by_cases e : p.1 = k
    · have e' : q.1 = k := h1.symm.trans e
      have b : atKey (q :: qs) k = some q.2 := by simp [atKey, List.find?_cons, e']
      rw [valV_pos e, b]; exact h2
    · have e' : ¬ q.1 = k := fun z => e (h1.trans z)
      have b : atKey (q :: qs) k = atKey qs k := by simp [atKey, List.find?_cons, e']
      rw [valV_neg e, b]; exact ih
theorem KT.repl {H : Hp} {kvs : List (List Key × V)} {xs : List (List Key × Addr × Value)} (r : KT H kvs xs) (k : List Key) {y : V} {u : Value} (ry : RelV y u) :
    KT H (kvs.map fun kv => if kv.1 = k then (kv.1, y) else kv) (xs.map (putAt k u)) := by
  induction r with
  | nil => exact .nil
  | @cons p q ps qs h t ih =>
    rw [List.map_cons, List.map_cons]
    refine .cons ?_ ih
    obtain ⟨h1, h2, h3⟩ := h
    unfold putAt
    by_cases e : p.1 = k
    · rw [if_pos e, if_pos (h1.symm.trans e)]; exact ⟨h1, h2, ry⟩
    · rw [if_neg e, if_neg (fun z => e (h1.trans z))]; exact ⟨h1, h2, h3⟩
theorem KT.put {H : Hp} {kvs : List (List Key × V)} {xs : List (List Key × Addr × Value)} (r : KT H kvs xs) (k : List Key) {b : Addr} {y : V} {u : Value} (hb : H b = some (.tup (k.map kV))) (ry : RelV y u) :
    KT H (putK kvs k y) (storedH xs k b u) := by
  have e : (kvs.any fun kv => decide (kv.1 = k)) = (atKey xs k).isSome := by
    rw [valV_any, (r.val k).isSome_eq, Option.isSome_map]
  unfold putK storedH
  rw [e]
  by_cases q : (atKey xs k).isSome = true
  · rw [if_pos q, if_pos q]; exact r.repl k ry
  · rw [if_neg q, if_neg q]; exact Paired.snoc r ⟨rfl, hb, ry⟩
theorem KT.keeps {H H' : Hp} {kvs : List (List Key × V)} {xs : List (List Key × Addr × Value)} (r : KT H kvs xs) (ht : ∀ b ys, H b = some (.tup ys) → H' b = some (.tup ys)) : KT H' kvs xs :=
  Paired.mapP r fun _ _ z => ⟨z.1, ht _ _ z.2.1, z.2.2⟩

section
variable {P : Program} {w : World} {H : Hp} {h : Heap} {a : Addr}
theorem rd_of {u : HO} (ok : HOk P w H h) (e : Rd H a u) : ObjOk P w H h a u := e.ok ok
theorem dk_rd {kvs : List (Key × V)} (ok : HOk P w H h) (e : Rd H a (.dK kvs)) : kvs.length ≤ sizeLine ∧ (a == sysModules) = false ∧ ∃ vs, KV kvs vs ∧ h.DictOf (mixKind P w) a vs :=
  show ObjOk P w H h a (.dK kvs) from rd_of ok e
theorem dk_of {kvs : List (Key × V)} (ok : HOk P w H h) (e : H a = some (.dK kvs)) : kvs.length ≤ sizeLine ∧ (a == sysModules) = false ∧ ∃ vs, KV kvs vs ∧ h.DictOf (mixKind P w) a vs := dk_rd ok (.inl e)
/-- a tracked tuple of ints and texts is a key -/
theorem key_of {ks : List Key} (ok : HOk P w H h) (e : H a = some (.tup (ks.map kV))) : (tupleKind (mixKind P w)).is h ks a := by
  obtain ⟨_, its, r, o, h1, h2, n, h3⟩ := (show ObjOk P w H h a (.tup (ks.map kV)) from ok a _ e)
  exact ⟨o, its.toArray, n, h1, h2, h3, by simpa using items_are r⟩
theorem dt_rd {kvs : List (List Key × V)} (ok : HOk P w H h) (e : Rd H a (.dT kvs)) : kvs.length ≤ sizeLine ∧ (a == sysModules) = false ∧
    ∃ xs, KT H kvs xs ∧ h.DictOfH (tupleKind (mixKind P w)) a xs := by
  obtain ⟨z, y, xs, r, o, es, ep, h1, h2, h3, h4, h5⟩ := (show ObjOk P w H h a (.dT kvs) from rd_of ok e)
  refine ⟨z, y, xs, r, o, es, ep, h1, h2, h3, h4, fun x hx => ?_, h5⟩
  have all : ∀ {l : List (List Key × V)} {m : List (List Key × Addr × Value)}, KT H l m → ∀ x ∈ m, (tupleKind (mixKind P w)).is h x.1 x.2.1 := by
    intro l m q
    induction q with
    | nil => intro x hx; exact nomatch hx
    | @cons p q ps qs hq t ih =>
      intro x hx
      rcases List.mem_cons.mp hx with e | hx
      · subst e
        exact key_of ok (by rw [← hq.1]; exact hq.2.1)
      · exact ih x hx
  exact all r x hx
theorem dt_of {kvs : List (List Key × V)} (ok : HOk P w H h) (e : H a = some (.dT kvs)) : kvs.length ≤ sizeLine ∧ (a == sysModules) = false ∧
    ∃ xs, KT H kvs xs ∧ h.DictOfH (tupleKind (mixKind P w)) a xs := dt_rd ok (.inl e)
end

/-- what the dict at a holds at the key y -/
def DGet (H : Hp) (a : Addr) (y : V) (r : Option V) : Prop :=
  (∃ kvs k, Rd H a (.dK kvs) ∧ y = kV k ∧ r = valV kvs k) ∨ ∃ kvs k b, Rd H a (.dT kvs) ∧ y = .ref b ∧ H b = some (.tup (k.map kV)) ∧ r = valV kvs k
/-- the heap behind a[y] = v -/
def DPut (H : Hp) (a : Addr) (y v : V) (H' : Hp) : Prop :=
  (∃ kvs k, H a = some (.dK kvs) ∧ y = kV k ∧ kvs.length < sizeLine ∧ H' = upd H a (.dK (putK kvs k v))) ∨
  ∃ kvs k b, H a = some (.dT kvs) ∧ y = .ref b ∧ H b = some (.tup (k.map kV)) ∧ kvs.length < sizeLine ∧ H' = upd H a (.dT (putK kvs k v))
theorem DGet.k {H : Hp} {a : Addr} {kvs : List (Key × V)} {k : Key} (e : H a = some (.dK kvs)) : DGet H a (kV k) (valV kvs k) := .inl ⟨kvs, k, .inl e, rfl, rfl⟩
theorem DPut.k {H : Hp} {a : Addr} {kvs : List (Key × V)} {k : Key} {v : V} (e : H a = some (.dK kvs)) (hl : kvs.length < sizeLine) : DPut H a (kV k) v (upd H a (.dK (putK kvs k v))) := .inl ⟨kvs, k, e, rfl, hl, rfl⟩
section
variable {X : Cx} {pins : List (Addr × Obj)} {σ : St} {H : Hp} {s : Shared} {a : Addr} {y v : V} {u r : Value} {o : Option V} {A : Around} {E : Value → Shared → Prop}


/-- d[y], there -/
theorem d_getItem {Q : Value → Shared → Prop} (hu : A.units + 1 < cLine) (I : Inv X pins σ H s) (g : DGet H a y (some v)) (ry : RelV y u) (h : ∀ w' s', Inv X pins σ H s' → RelV v w' → Q w' s') :
    wpAny (model X.prog X.w) A (getItem (.ref a) u) Q E s := by
  rcases g with ⟨kvs, k, e, ey, l⟩ | ⟨kvs, k, b, e, ey, eb, l⟩
  · subst ey
    obtain ⟨z, hd, vs, rel, dd⟩ := dk_rd I.hok e
    obtain ⟨w', hw, rw'⟩ := RelO.some_of (v := v) (o := valueAt vs k) (by rw [l]; exact rel.val k)
    exact wpAny_getItem_of (kV_is ry) dd.mapOf hw (h w' _ (I.tok _) rw')
  · subst ey
    cases (show u = Value.ref b from ry)
    obtain ⟨z, hd, xs, rel, dd⟩ := dt_rd I.hok e
    obtain ⟨w', hw, rw'⟩ := RelO.some_of (v := v) (o := (atKey xs k).map (·.2)) (by rw [l]; exact rel.val k)
    obtain ⟨p, hp, hp2⟩ := Option.map_eq_some_iff.mp hw
    refine wpAny_getItem_heap (tupleKind_room_in1 hu) (key_of I.hok eb) dd hp ?_
    rw [hp2]
    exact h w' _ (I.tok _) rw'
theorem d_notIn {Q : Value → Shared → Prop} (hu : A.units + 1 < cLine) (I : Inv X pins σ H s) (g : DGet H a y o) (ry : RelV y u) (h : ∀ s', Inv X pins σ H s' → Q (.bool (!o.isSome)) s') :
    wpAny (model X.prog X.w) A (compareOp .NotIn u (.ref a)) Q E s := by
  rcases g with ⟨kvs, k, e, ey, l⟩ | ⟨kvs, k, b, e, ey, eb, l⟩
  · subst ey
    obtain ⟨z, hd, vs, rel, dd⟩ := dk_rd I.hok e
    refine wpAny_notIn_of (kV_is ry) hd dd.mapOf ?_
    rw [← (rel.val k).isSome_eq, ← l]
    exact h _ (I.tok _)
  · subst ey
    cases (show u = Value.ref b from ry)
    obtain ⟨z, hd, xs, rel, dd⟩ := dt_rd I.hok e
    refine wpAny_notIn_heap (tupleKind_room_in1 hu) (key_of I.hok eb) hd dd ?_
    have q := (rel.val k).isSome_eq
    rw [Option.isSome_map] at q
    rw [← q, ← l]
    exact h _ (I.tok _)
/-- a dict's object is replaced -/
theorem d_write {h' : Heap} {t' : Nat} {ob : HO} (I : Inv X pins σ H s) (mu : Mut (H a)) (hs : Heap.SameBut a s.heap h') (he : ∃ q, h'.get? a = some q) (new : ObjOk X.prog X.w (upd H a ob) h' a ob) :
    Inv X pins σ (upd H a ob) { s with heap := h', toks := t' } :=
  I.write (x := a) (e := a) mu (.inl rfl) (fun b q hb z => (hs.2 b hb).trans z) he new
theorem dk_new {P : Program} {w : World} {H' : Hp} {h' : Heap} {kvs : List (Key × V)} {vs : List (Key × Value)} (z : kvs.length ≤ sizeLine) (hd : (a == sysModules) = false) (rel : KV kvs vs) (dd : h'.DictOf (mixKind P w) a vs) :
    ObjOk P w H' h' a (.dK kvs) := ⟨z, hd, vs, rel, dd⟩
/-- d[y] = v -/
theorem d_setItem {H' : Hp} {Q : Unit → Shared → Prop} (hu : A.units + 1 < cLine) (I : Inv X pins σ H s) (g : DPut H a y v H') (ry : RelV y u) (rv : RelV v r) (h : ∀ s', Inv X pins σ H' s' → Q () s') :
    wpAny (model X.prog X.w) A (setItem (.ref a) u r) Q E s := by
  rcases g with ⟨kvs, k, e, ey, l, eH⟩ | ⟨kvs, k, b, e, ey, eb, l, eH⟩
  · subst ey eH
    obtain ⟨z, hd, vs, rel, dd⟩ := dk_of I.hok e
    have hz : vs.length ≤ sizeLine := by rw [← rel.length]; exact z
    have hl : (putK kvs k v).length ≤ sizeLine := by have := length_putK kvs k v; omega
    refine wpAny_setItem_pairs (hsz := hz) (kV_is ry) dd fun h' dd' hs => h _ ?_
    have he : ∃ q, h'.get? a = some q := let ⟨q, _, _, hq, _⟩ := dd'; ⟨q, hq⟩
    exact d_write I (by rw [e]; exact True.intro) hs he (dk_new hl hd (rel.put k rv) dd')
  · subst ey eH
    cases (show u = Value.ref b from ry)
    obtain ⟨z, hd, xs, rel, dd⟩ := dt_of I.hok e
    have hz : xs.length ≤ sizeLine := by rw [← Paired.length rel]; exact z
    have hl : (putK kvs k v).length ≤ sizeLine := by have := length_putK kvs k v; omega
    refine wpAny_setItem_heap (hsz := hz) (tupleKind_room_in1 hu) (key_of I.hok eb) dd fun h' dd' hs => h _ ?_
    obtain ⟨q, es, ep, hq, h2, h3, h4, _, h5⟩ := dd'
    refine d_write I (by rw [e]; exact True.intro) hs ⟨q, hq⟩ ⟨hl, hd, _, (rel.put k eb rv).keeps fun c ys ec => ?_, q, es, ep, hq, h2, h3, h4, h5⟩
    rw [upd_ne (ne_of ec e (fun z => nomatch z))]
    exact ec
end

section
variable {X : Cx} {pins : List (Addr × Obj)} {σ : St} {H : Hp} {s : Shared} {a : Addr} {kvs : List (Key × V)} {k : Key} {u : Value} {A : Around} {E : Value → Shared → Prop}
end


/-! ### readings and rules -/
/-- the element of a subscription, not a slice -/
def NoSl (i : Expr) : Prop := ∀ ov iv, subscripted i false ov iv = operate [ov, iv] (getItem ov iv)
theorem subD_of {prog : Program} {w : World} {A : Around} {E : Value → Shared → Prop} {s : Shared} {env : Env} {value slice : Expr} {pos : Pos} {T id : String} {Q : Value → Shared → Prop}
    (hl : typeLookup (.type T) "__getitem__" = pure (some (.builtin id))) (hs : NoSl slice)
    (h : wpAny (model prog w) A (eval value env) (fun o s₁ => wpAny (model prog w) A (eval slice env) (fun i s₂ => s₂.TypeIs o T ∧ wpAny (model prog w) A (getItem o i) Q E s₂) E s₁) E s) :
    wpAny (model prog w) A (eval (.Subscript value slice pos) env) Q E s := by
  refine Subscript_ (wpAny_mono h (fun o s₁ h₁ => wpAny_mono h₁ (fun i s₂ h₂ => ?_) fun _ _ x => x) fun _ _ x => x)
  obtain ⟨hT, h₂⟩ := h₂
  unfold subscriptTail
  refine wpAny_bind ?_
  rw [getitemInPython_of_ne hT.not_modules]
  refine wpAny_bind (wpAny_specialOf hT hl ?_)
  have fin : wpAny (model prog w) A (subscripted slice false o i) (fun r s₃ => wpAny (model prog w) A (letTemporaryGo value o r >>= fun _ => pure r) Q E s₃) E s₂ := by
    rw [hs o i]
    exact wpAny_operating (wpAny_mono h₂ (fun r s₃ h₃ => wpAny_bind (wpAny_letTemporaryGo (wpAny_pure h₃))) fun _ _ x => x)
  first
    | exact wpAny_pure (wpAny_bind fin)
    | exact wpAny_bind (wpAny_pure (wpAny_bind fin))
    | exact wpAny_bind fin

theorem dict_typeIs {X : Cx} {pins : List (Addr × Obj)} {σ : St} {H : Hp} {s : Shared} {a : Addr} {y : V} {o : Option V} (I : Inv X pins σ H s) (g : DGet H a y o) : s.TypeIs (.ref a) "dict" := by
  rcases g with ⟨kvs, k, e, _, _⟩ | ⟨kvs, k, b, e, _, _, _⟩
  · obtain ⟨_, _, vs, _, dd⟩ := dk_rd I.hok e
    exact dd.typeIs
  · obtain ⟨_, _, xs, _, dd⟩ := dt_rd I.hok e
    exact dd.typeIs
/-- d[y] -/
def tDGet (td ty : TE) : TE := fun σ H Q => td σ H fun x H1 => ty σ H1 fun y H2 => ∃ a v, x = .ref a ∧ DGet H2 a y (some v) ∧ Q v H2
def tDNotIn (ty td : TE) : TE := fun σ H Q => ty σ H fun y H1 => td σ H1 fun x H2 => ∃ a o, x = .ref a ∧ DGet H2 a y o ∧ Q (.bl (!o.isSome)) H2
/-- d[y] = v -/
def sDPut (td ty tv : TE) : TS := fun D σ H => tv σ H fun v H1 => td σ H1 fun x H2 => ty σ H2 fun y H3 => ∃ a H4, x = .ref a ∧ DPut H3 a y v H4 ∧ D.nx σ H4
section
variable {X : Cx} {o i e value : Expr} {pos pos' tpos : Pos} {td ty tv : TE}
theorem pe_dget (hu : X.A.units + 1 < cLine) (ho : PE X o td) (hi : PE X i ty) (hs : NoSl i) : PE X (.Subscript o i pos) (tDGet td ty) := by
  intro pins s σ H Q I h
  refine subD_of PySem.F.slot_dict_getitem.lookup hs (thn (ho pins s σ H _ I h) fun u s1 ⟨x, H1, I1, rx, q1⟩ => thn (hi pins s1 σ H1 _ I1 q1) fun iv s2 ⟨y, H2, I2, ry, a, v, ex, g, q2⟩ => ?_)
  subst ex
  obtain rfl : u = Value.ref a := rx
  exact ⟨dict_typeIs I2 g, d_getItem hu I2 g ry fun w' s3 I3 rw' => ⟨v, H2, I3, rw', q2⟩⟩
theorem pc_dnotin (hu : X.A.units + 1 < cLine) (hi : PE X i ty) (ho : PE X o td) : PC X .NotIn i o (tDNotIn ty td) := by
  intro pins s σ H Q I h
  refine thn (hi pins s σ H _ I h) fun iv s1 ⟨y, H1, I1, ry, q1⟩ => thn (ho pins s1 σ H1 _ I1 q1) fun u s2 ⟨x, H2, I2, rx, a, ov, ex, g, q2⟩ => ?_
  subst ex
  obtain rfl : u = Value.ref a := rx
  exact d_notIn hu I2 g ry fun s3 I3 => ⟨.bl (!ov.isSome), H2, I3, rfl, q2⟩
theorem ps_dput (hu : X.A.units + 1 < cLine) (ho : PE X o td) (hi : PE X i ty) (hv : PE X value tv) (hs : swapsWith value (some (.Subscript o i pos')) pos.line X.env = pure false) :
    PS X (.Assign [.Subscript o i pos'] value pos) (sDPut td ty tv) := by
  intro pins s σ H D I h
  refine wpAny_Assign_Subscript (thn (hv pins s σ H _ I h) fun r s1 ⟨v, H1, I1, rv, q1⟩ => thn (ho pins s1 σ H1 _ I1 q1) fun u s2 ⟨x, H2, I2, rx, q2⟩ => thn (hi pins s2 σ H2 _ I2 q2) fun iv s3 ⟨y, H3, I3, ry, a, H4, ex, g, q3⟩ => ?_) hs
  subst ex
  obtain rfl : u = Value.ref a := rx
  exact d_setItem hu I3 g ry rv fun s4 I4 => ⟨σ, H4, I4, q3⟩
end


/-! ### displays -/
section
variable {X : Cx} {pos : Pos}
end

/-- the pairs of a display, from the left -/
def tPairs : List (TE × TE) → St → Hp → (List (V × V) → Hp → Prop) → Prop
  | [], _, H, Q => Q [] H
  | (tk, tv) :: r, σ, H, Q => tk σ H fun x H1 => tv σ H1 fun y H2 => tPairs r σ H2 fun ps H3 => Q ((x, y) :: ps) H3
abbrev VV : List (V × V) → List (Value × Value) → Prop := Paired fun p q => RelV p.1 q.1 ∧ RelV p.2 q.2
def PPs (X : Cx) (pos : Pos) (keys : List (Option Expr)) (values : List Expr) (trs : List (TE × TE)) : Prop :=
  ∀ (pins : List (Addr × Obj)) (s : Shared) (σ : St) (H : Hp) (Q : List (V × V) → Hp → Prop), Inv X pins σ H s → tPairs trs σ H Q →
    wpAny (model X.prog X.w) X.A (evalPairs (pairTrees keys values X.env pos)) (fun vs s' => ∃ ps H', Inv X pins σ H' s' ∧ VV ps vs ∧ Q ps H') X.xe s
theorem pps_nil {X : Cx} {pos : Pos} : PPs X pos [] [] [] := fun pins s σ H Q I h => pairTrees_nil_walk ⟨[], H, I, .nil, h⟩
theorem pps_cons {X : Cx} {pos : Pos} {k v : Expr} {ks : List (Option Expr)} {vs : List Expr} {tk tv : TE} {trs : List (TE × TE)} (hk : PE X k tk) (hv : PE X v tv) (hr : PPs X pos ks vs trs) :
    PPs X pos (some k :: ks) (v :: vs) ((tk, tv) :: trs) := fun pins s σ H Q I h =>
  pairTrees_cons_walk (thn (hk pins s σ H _ I h) fun u s1 ⟨x, H1, I1, rx, q1⟩ => thn (hv pins s1 σ H1 _ I1 q1) fun w2 s2 ⟨y, H2, I2, ry, q2⟩ =>
    thn (hr pins s2 σ H2 _ I2 q2) fun ws s3 ⟨ps, H3, I3, rel, q3⟩ => ⟨(x, y) :: ps, H3, I3, .cons ⟨rx, ry⟩ rel, q3⟩)

def mergeK (kvs more : List (Key × V)) : List (Key × V) := more.foldl (fun acc kv => putK acc kv.1 kv.2) kvs
theorem KV.merge : ∀ {more : List (Key × V)} {rs : List (Key × Value)} {kvs : List (Key × V)} {vs : List (Key × Value)}, KV more rs → KV kvs vs → KV (mergeK kvs more) (merged vs rs) := by
  intro more rs kvs vs r
  unfold KV at r
  induction r generalizing kvs vs with
  | nil => intro q; exact q
  | @cons p q ps qs h t ih =>
    intro r0
    have e : KV (putK kvs p.1 p.2) (stored vs q.1 q.2) := by
      have := r0.put p.1 h.2
      rw [← h.1]; exact this
    exact ih e
theorem length_mergeK : ∀ (more kvs : List (Key × V)), (mergeK kvs more).length ≤ kvs.length + more.length
  | [], kvs => by show kvs.length ≤ kvs.length + 0; omega
  | p :: r, kvs => by
    have h1 := length_mergeK r (putK kvs p.1 p.2)
    have h2 := length_putK kvs p.1 p.2
    show (mergeK (putK kvs p.1 p.2) r).length ≤ _
    rw [List.length_cons]; omega
theorem carries_of {P : Program} {w : World} : ∀ {kvs : List (Key × V)} {ws : List (Value × Value)}, VV (kvs.map fun kv => (kV kv.1, kv.2)) ws → ∃ rs, Carries (mixKind P w) ws rs ∧ KV kvs rs
  | [], _, r => by rw [List.map_nil] at r; cases r; exact ⟨[], True.intro, .nil⟩
  | p :: kvs, _, r => by
    rw [List.map_cons] at r
    cases r with
    | @cons a b as bs h t =>
      obtain ⟨rs, c, q⟩ := carries_of (P := P) (w := w) t
      obtain ⟨b1, b2⟩ := b
      exact ⟨(p.1, b2) :: rs, ⟨kV_is h.1, rfl, c⟩, .cons ⟨rfl, h.2⟩ q⟩
/-- {k: v, ..} with keys ints and texts; the new dict stands empty while the pairs are made -/
def tDisp (trs : List (TE × TE)) : TE := fun σ H Q => ∀ p, H p = none → tPairs trs σ (upd H p (.dK [])) fun ps H2 => H2 p = some (.dK []) ∧ ∃ kvs : List (Key × V), ps = kvs.map (fun kv => (kV kv.1, kv.2)) ∧ kvs.length ≤ 15 ∧ Q (.ref p) (upd H2 p (.dK (mergeK [] kvs)))
theorem pe_disp {X : Cx} {pos : Pos} {keys : List (Option Expr)} {values : List Expr} {trs : List (TE × TE)} (h : PPs X pos keys values trs) (hall : keys.all (·.isSome) = true) (hl : keys.length = values.length) (h0 : keys ≠ [])
    (h15 : keys.length ≤ 15) : PE X (.Dict keys values pos) (tDisp trs) := by
  intro pins s σ H Q I q
  have hn := I.hok.fresh (Nat.le_refl s.heap.objs.size)
  have I1 := I.laid (a := s.heap.objs.size) (o := .dK []) (h' := s.heap.push { cls := .type "dict", data := .dict #[] }) (t' := s.toks) (fun _ _ q => Heap.get?_push_of_some _ q) (Nat.le_refl _) (dk_empty s.heap I.big)
  refine wpAny_Dict_walk (knd := mixKind X.prog X.w) hall hl h0 h15 (thn (h pins _ σ _ _ I1 (q _ hn)) fun ws s2 ⟨ps, H2, I2, rel, e, kvs, ep, lk, q2⟩ => ?_)
  subst ep
  obtain ⟨rs, c, rk⟩ := carries_of (P := X.prog) (w := X.w) rel
  obtain ⟨z, hd, vs0, r0, dd⟩ := dk_of I2.hok e
  cases r0
  refine ⟨rs, c, dd, fun h' dd' hs => ⟨.ref s.heap.objs.size, _, ?_, rfl, q2⟩⟩
  have hz : (mergeK [] kvs).length ≤ sizeLine := by
    have h1 := length_mergeK kvs []
    rw [List.length_nil] at h1
    rw [sizeLine_eq]; omega
  have he : ∃ q, h'.get? s.heap.objs.size = some q := let ⟨q, _, _, hq, _⟩ := dd'; ⟨q, hq⟩
  exact d_write I2 (by rw [e]; exact True.intro) hs he (dk_new hz hd (rk.merge .nil) dd')


/-! ### methods -/
/-- a method call o.m(e) of a built-in, with one argument: what must be seen of the text -/
structure M1 (X : Cx) (o : Expr) (m : Str) (apos : Pos) (e : Expr) (cpos : Pos) : Prop where
  base : attributeBase o m X.env (eval o X.env) = eval o X.env
  few : ((backTo cpos (starEach [e] X.env)).all (fun x => !x.1) && (backToKw cpos (keywordEach [] X.env)).all (fun x => x.1.isSome)
    && decide (([e] : List Expr).length + ([] : List Keyword).length + (if ([] : List Keyword).isEmpty then 0 else 1) < 30)) = true
  line : (apos.endLine == cpos.line) = true
  trees : backTo cpos (starEach [e] X.env) = [(false, eval e X.env)]
section
variable {X : Cx} {pins : List (Addr × Obj)} {σ : St} {H : Hp} {s : Shared} {a : Addr} {y d : V} {u r : Value} {o : Option V} {A : Around} {E : Value → Shared → Prop}
end

section
variable {X : Cx} {o e f : Expr} {apos cpos : Pos} {td ty tx : TE}
end

/-! ### dict(d): a copy -/
section
variable {X : Cx} {pins : List (Addr × Obj)} {σ : St} {H : Hp} {s : Shared} {a : Addr} {kvs : List (Key × V)} {A : Around} {E : Value → Shared → Prop}
end


section
variable {X : Cx} {pins : List (Addr × Obj)} {σ : St} {H : Hp} {s : Shared} {a : Addr} {y : V} {u : Value} {A : Around} {E : Value → Shared → Prop}
end
section
variable {X : Cx}
end
/-! ### a dict's pairs: keys that differ -/
section
variable {κ : Type} [DecidableEq κ]
theorem valV_not {kvs : List (κ × V)} {k : κ} (h : valV kvs k = none) : ¬ k ∈ kvs.map (·.1) := by
  intro m
  obtain ⟨p, hp, e⟩ := List.mem_map.mp m
  have q : (kvs.any fun kv => decide (kv.1 = k)) = true := List.any_eq_true.mpr ⟨p, hp, decide_eq_true e⟩
  rw [valV_any, h] at q
  exact absurd q (by simp)
theorem valV_in {kvs : List (κ × V)} {k : κ} {v : V} (h : valV kvs k = some v) : k ∈ kvs.map (·.1) := by
  have q : (kvs.any fun kv => decide (kv.1 = k)) = true := by
    rw [valV_any, h]
    all_goals rfl
  obtain ⟨p, hp, e⟩ := List.any_eq_true.mp q
  exact List.mem_map.mpr ⟨p, hp, of_decide_eq_true e⟩
end
end L2
set_option Elab.async false
set_option linter.all false
set_option maxRecDepth 100000
set_option maxHeartbeats 4000000
namespace L2
open PySem PySem.Spec PyProof.Rows
/-! ### sorted(d), d a dict of ints -/
section
variable {prog : Program} {w : World} {A : Around} {E : Value → Shared → Prop} {s : Shared} {T : String} {r d : Addr} {n : Nat} {P : Nat → Value → Prop} {OK : Heap → Prop}
theorem iadd_src {R : Result → Shared → Prop} (K : PySem.W.KdlSrc prog w T r d n P OK) (hh : A.handled = none) (hok : OK s.heap) (S : Addr) (hSr : S ≠ r) (hSd : S ≠ d) (c₀ : Nat) (hS : s.heap.get? S = some { cls := .type "list", data := .seq #[] c₀ })
    (hR : ∀ h' tk acc' c', (∀ b o, b ≠ S → s.heap.get? b = some o → h'.get? b = some o) → h'.get? S = some { cls := .type "list", dict := none, data := .seq acc' c', slots := #[] } → ItemsOf P acc' n → R (.ok (.ret (.ref S))) { s with heap := h', toks := tk }) (hn : n ≤ sizeLine) :
    codeAny (model prog w) A (.builtin "list.__iadd__" ⟨[.ref S, .ref r], []⟩) R s := by
  refine codeAny_builtin PySem.F.entry_list_iadd ?_
  rw [Around.under_plainId PySem.F.plain_list_iadd _]
  exact PySem.W.kdl_extend (R := R) K hh hok S hSr hSd (.ref S) c₀ hS hR hn
theorem collect_src {Q : List Value → Shared → Prop} (K : PySem.W.KdlSrc prog w T r d n P OK) (hh : A.handled = none) (hok : OK s.heap) (hn : n ≤ sizeLine)
    (hQ : ∀ h' tk acc, (∀ b o, s.heap.get? b = some o → h'.get? b = some o) → s.heap.objs.size < h'.objs.size → ItemsOf P acc n → Q acc.toList { s with heap := h', toks := tk }) : wpAny (model prog w) A (collect (.ref r)) Q E s := by
  have hlt := K.there _ hok
  unfold collect
  refine wpAny_bind (wpAny_runValue (codeAny_builtin PySem.F.entry_proto_collect ?_))
  rw [Around.under_plainId PySem.F.plain_proto_collect _]
  show wpAny _ A.in1 (newList [] >>= fun l => again (.builtin "list.__iadd__" ⟨[l, .ref r], []⟩)) _ _ s
  refine wpAny_bind (wpAny_newObj_type ?_)
  have hS : (s.heap.push { cls := .type "list", data := .seq ([] : List Value).toArray }).get? s.heap.objs.size = some { cls := .type "list", data := .seq #[] 0 } := Heap.get?_push_size _ rfl
  refine wpAny_pure ⟨plainId_quiet PySem.F.plain_list_iadd _, iadd_src (s := { s with heap := s.heap.push { cls := .type "list", data := .seq ([] : List Value).toArray } }) K hh (K.keep _ _ hok fun b _ o e => Heap.get?_push_of_some _ e) s.heap.objs.size (Nat.ne_of_gt hlt.1) (Nat.ne_of_gt hlt.2) _ hS (fun h' tk acc' c' hk hS' hacc => ?_) hn⟩
  show wpAny _ A (load s.heap.objs.size >>= _) _ _ _
  refine wpAny_bind (wpAny_load hS' ?_)
  exact wpAny_pure (hQ h' tk acc' (fun b o e => hk b o (Nat.ne_of_lt (Heap.lt_size e)) (Heap.get?_push_of_some _ e)) (Heap.lt_size hS') hacc)
end
section
variable {X : Cx}
theorem ints_keys : ∀ {kvs : List (Key × V)} {vs : List (Key × Value)} {ns : List Int}, KV kvs vs → kvs.map (·.1) = ns.map Sum.inl → ∀ acc : List Value, acc.length = vs.length → (∀ (i : Nat) (v : Value), acc[i]? = some v → ∃ (k : Key) (x : Value), vs[i]? = some (k, x) ∧ keyIs k v = true) → IntsAre acc ns := by
  intro kvs vs ns h e acc hl hv
  have ek := KV.keys h
  rw [e] at ek
  clear e h
  induction vs generalizing ns acc with
  | nil =>
    cases acc with
    | nil =>
      cases ns with
      | nil => exact .nil
      | cons _ _ => simp at ek
    | cons _ _ => simp at hl
  | cons q r ih =>
    cases acc with
    | nil => simp at hl
    | cons a acc =>
      cases ns with
      | nil => simp at ek
      | cons n ns =>
        simp only [List.map_cons, List.cons.injEq] at ek
        obtain ⟨k, x, e1, e2⟩ := hv 0 a rfl
        simp only [List.getElem?_cons_zero, Option.some.injEq] at e1
        subst e1
        have ek1 : Sum.inl n = k := ek.1
        subst ek1
        obtain ⟨i, t, z1, z2⟩ | ⟨i, t, z1, z2⟩ := keyIs_shape e2
        · cases z1
          subst z2
          exact .cons _ _ (ih acc (by simpa using hl) (fun i v hi => by simpa using hv (i + 1) v (by simpa using hi)) ek.2)
        · cases z1
theorem vals_of_ints : ∀ {vs : List Value} {ns : List Int}, IntsAre vs ns → Vals (ns.map V.int) vs := fun h => vals_ints h
theorem nn' {n : Nat} (h : n < 64) : n ≤ sizeLine := Nat.le_of_lt (small1000 (by omega))
theorem tb_sorted : bootBuiltins "sorted" = some (.builtin "sorted") := by decide +kernel
end
end L2
set_option Elab.async false
set_option linter.all false
set_option maxRecDepth 100000
set_option maxHeartbeats 4000000
namespace L2
open PySem PySem.Spec PyProof.Rows
/-! ### sorted(xs), xs a list of ints -/
section
variable {X : Cx}
def rSortL (K : PySem.W.Frag) : List V → Hp → VK → Prop := fun xs H Q => ∃ (a : Addr) (ns : List Int), xs = [.ref a] ∧ SqL K H a (ns.map V.int) ∧ ns.length < 64 ∧ ∀ (p : Addr) (ns' : List Int), H p = none → ns'.Perm ns → ns'.Pairwise (· ≤ ·) → Q (.ref p) (upd H p (.lst (ns'.map V.int)))
theorem ints_vals : ∀ {ns : List Int} {vs : List Value}, Vals (ns.map V.int) vs → IntsAre vs ns
  | [], _, h => by cases h; exact .nil
  | n :: ns, _, h => by
    cases h with
    | cons r rr =>
      obtain ⟨t, rfl⟩ := r
      exact .cons _ _ (ints_vals rr)
theorem call_sortL : CallR X (.builtin "sorted") (rSortL X.K) := by
  intro pins s σ H xs us Q I r h
  obtain ⟨a, ns, rfl, ha, h64, q⟩ := h
  obtain ⟨u, rfl, ru⟩ := vals1 r
  cases ru
  obtain ⟨its, rv, p, hz⟩ := I.list ha
  have hl : its.length = ns.length := by have := rv.length; simpa using this.symm
  refine sorted_ints p.isList (ints_vals rv) (by omega) fun out ns' a1 a2 a3 => ?_
  obtain ⟨c, hc⟩ := sortedAll_at s.heap its out
  have l' : ns'.length = ns.length := a2.length_eq
  exact ⟨.ref (s.heap.objs.size + 1), _, I.laid (a := s.heap.objs.size + 1) (o := .lst (ns'.map V.int)) (t' := s.toks) (fun b o e => sortedAll_old e) (Nat.le_succ _) ⟨by rw [List.length_map]; exact nn' (by omega), out.toList, c, vals_of_ints a1, hc⟩, rfl, q _ ns' (I.hok.fresh (Nat.le_succ _)) a2 a3⟩
end
/-! ### dict(xs), xs a list of pairs -/
theorem lk_list_keys : typeLookup (.type "list") "keys" = pure none := by rw [typeLookup_type, builtinLookup_eq_fast]; kernel_rfl
theorem sub_AE : isSubtype (.type "AttributeError") (.type "AttributeError") = pure true := by rw [isSubtype_type]; kernel_rfl
section
variable {prog : Program} {w : World} {A : Around} {E : Value → Shared → Prop} {s : Shared}
theorem keys_miss {a : Addr} {o : Obj} {xs : Array Value} {k : Nat} {Q : Option Value → Shared → Prop} (hx : s.heap.get? a = some o) (hc : o.cls = .type "list") (hdat : o.data = .seq xs k) (hd : o.dict = none) (hA : A.handled = none)
    (h : ∀ h' tk, (∀ b ob, s.heap.get? b = some ob → h'.get? b = some ob) → Q none { s with heap := h', toks := tk }) : wpAny (model prog w) A (getAttr? (.ref a) "keys") Q E s := by
  obtain ⟨oc, od, oda, sl⟩ := o
  dsimp only at hc hdat hd
  subst hc hdat hd
  obtain ⟨hp, g, d, tk, os⟩ := s
  have hT : ∀ tk', (⟨hp, g, d, tk', os⟩ : Shared).TypeIs (.ref a) "list" := fun _ => ⟨_, hx, rfl⟩
  have f1 := sub_AE
  have f3 := F.slot_list_getattribute.lookup
  have f4 := F.slot_list_getattribute.bind (.ref a)
  have f5 := am_list_getattr_none
  unfold getAttr? getAttrBy? getAttrBy
  repeat (any_goals (first | assumption | exact hT _ | ((with_reducible show wpAny _ _ (call (Value.builtin "list.__getattribute__") _ _) _ _ _); refine call_meets F.slot_list_getattribute (hT _) am_entry_list_getattribute (F.args_list_getattribute_2 _ _) (meets_getattribute_miss_list a xs k sl "keys" _ lk_list_keys (by decide) (by size_fits)) ⟨hx, hA, fun h' tk' e hxx => ?_⟩) | wp_step))
  obtain ⟨t', u', he⟩ := hxx.there
  show wpAny _ _ (getattributeRaised _ _ _ _ _ _ _) _ _ _
  unfold getattributeRaised
  repeat (any_goals (first | assumption | wp_step))
  exact h h' tk' hxx.keeps
theorem entry_dul : entryFor table "dict.update.loop" = some Builtin.«dict.update.loop» := entryFor_of_tree (by kernel_rfl)
theorem plain_dul : plainId "dict.update.loop" = true := by decide +kernel
theorem dict_loop {K : Type} [DecidableEq K] {knd : KeyKind prog w K} {R : Result → Shared → Prop} {d it l : Addr} {h₀ : Heap} {items : Array Value} {ps : List (K × Value)} (hA : A.handled = none)
    (tup : ∀ (i : Nat) (x : Value), items[i]? = some x → ∃ (t : Addr) (key v : Value) (k : K), x = .ref t ∧ t ≠ it ∧ t ≠ d ∧ h₀.IsTuple t #[key, v] ∧ ps[i]? = some (k, v) ∧ knd.is k key = true) (hli : l ≠ it) (hld : l ≠ d) (hid : it ≠ d) (hl : h₀.IsList l items) (hlen : ps.length = items.size) (hsz : ps.length ≤ sizeLine)
    (hR : ∀ h' tk, (∀ b o, b ≠ it → b ≠ d → h₀.get? b = some o → h'.get? b = some o) → h'.DictOf knd d (merged [] ps) → R (.ok (.ret .none)) { s with heap := h', toks := tk }) :
    ∀ (n i : Nat) (h : Heap) (tk : Nat), n = items.size - i → i ≤ items.size → h.IsListIter it l i → h.DictOf knd d (merged [] (ps.take i)) → (∀ b o, b ≠ it → b ≠ d → h₀.get? b = some o → h.get? b = some o) →
      codeAny (model prog w) A (.builtin "dict.update.loop" ⟨[.ref d, .ref it, rawInt (i : Int), .none], []⟩) R { s with heap := h, toks := tk } := by
  intro n
  induction n with
  | zero =>
    intro i h tk hn hi hit hd kp
    have hi' : i = items.size := by omega
    refine codeAny_builtin entry_dul ?_
    rw [Around.under_plainId plain_dul _]
    unfold Builtin.«dict.update.loop»
    dsimp only [rawInt]
    have hl' : h.IsList l items := by obtain ⟨o, ho, r⟩ := hl; exact ⟨o, kp _ _ hli hld ho, r⟩
    refine wpAny_bind (wpAny_pyNext_list_end (s := { s with heap := h, toks := tk }) hA hit hl' (by rw [hi']; simp) fun h2 ex => ?_)
    dsimp only
    refine wpAny_bind (wpAny_pure (wpAny_pure ?_))
    refine hR h2 tk (fun b o n1 n2 e => ex b o n1 (kp b o n1 n2 e)) ?_
    have e : ps.take i = ps := List.take_of_length_le (by omega)
    rw [e] at hd
    exact hd.extBut ex (Ne.symm hid)
  | succ n ih =>
    intro i h tk hn hi hit hd kp
    have hlt : i < items.size := by omega
    refine codeAny_builtin entry_dul ?_
    rw [Around.under_plainId plain_dul _]
    unfold Builtin.«dict.update.loop»
    dsimp only [rawInt]
    have hl' : h.IsList l items := by obtain ⟨o, ho, r⟩ := hl; exact ⟨o, kp _ _ hli hld ho, r⟩
    have hx : items[i]? = some items[i] := Array.getElem?_eq_getElem hlt
    obtain ⟨t, key, v, k, ex, n1, n2, ht, hp, hk⟩ := tup i _ hx
    rw [ex] at hx
    refine wpAny_bind (wpAny_pyNext_list_item (s := { s with heap := h, toks := tk }) hit hl' hx fun h2 hit2 sb => ?_)
    dsimp only
    have ht2 : h2.IsTuple t #[key, v] := by
      obtain ⟨o, ho, r⟩ := ht
      exact ⟨o, (sb.2 t n1).trans (kp _ _ n1 n2 ho), r⟩
    have hT : ({ s with heap := h2, toks := tk } : Shared).TypeIs (.ref t) "tuple" := by
      obtain ⟨o, ho, hc, r⟩ := ht2
      exact ⟨o, ho, hc⟩
    refine wpAny_bind (wpAny_holding (wpAny_bind (wpAny_tryCatch ?_)))
    unfold Builtin.Dict.pairItems
    refine wpAny_bind (wpAny_typeOf hT ?_)
    rw [if_pos (by decide)]
    obtain ⟨ot, hot, hct, nt, hdt⟩ := ht2
    refine wpAny_bind (wpAny_seqItems (s := { s with heap := h2, toks := tk }) hot hdt (wpAny_pure ?_))
    show wpAny _ _ (holding [key, v] (dictSet d key v)) _ _ _
    have hd2 : h2.DictOf knd d (merged [] (ps.take i)) := by
      obtain ⟨o, es, epo, ho, r⟩ := hd
      exact ⟨o, es, epo, (sb.2 d (Ne.symm hid)).trans ho, r⟩
    have hml : (merged [] (ps.take i)).length ≤ sizeLine := by
      have := merged_length_le ([] : List (K × Value)) (ps.take i)
      rw [List.length_take] at this
      simp at this
      omega
    refine wpAny_holding (wpAny_dictSet_pairs (s := { s with heap := h2, toks := tk }) hk hd2 (hsz := hml) fun h3 hd3 sb3 => ?_)
    have e3 : merged [] (ps.take (i + 1)) = stored (merged [] (ps.take i)) k v := merged_take_succ [] ps i (k, v) hp
    rw [← e3] at hd3
    have e1 : ((i : Int) + 1) = ((i + 1 : Nat) : Int) := by omega
    have hit3 : h3.IsListIter it l (i + 1) := by
      obtain ⟨o, ho, r⟩ := hit2
      exact ⟨o, (sb3.2 it hid).trans ho, r⟩
    refine wpAny_pure ⟨plainId_quiet plain_dul _, ?_⟩
    rw [e1]
    exact ih (i + 1) h3 (tk + 1) (by omega) (by omega) hit3 hd3 fun b o z1 z2 e => (sb3.2 b z2).trans ((sb.2 b z1).trans (kp b o z1 z2 e))
theorem dict_pairs {K : Type} [DecidableEq K] {knd : KeyKind prog w K} {Q : Value → Shared → Prop} {l : Addr} {items : Array Value} {n : Nat} {ps : List (K × Value)} (hA : A.handled = none) (hl : s.heap.get? l = some { cls := .type "list", data := .seq items n })
    (tup : ∀ (i : Nat) (x : Value), items[i]? = some x → ∃ (t : Addr) (key v : Value) (k : K), x = .ref t ∧ s.heap.IsTuple t #[key, v] ∧ ps[i]? = some (k, v) ∧ knd.is k key = true) (hlen : ps.length = items.size) (hsz : ps.length ≤ sizeLine) (hn : (ps.map (·.1)).Nodup)
    (h : ∀ h' tk, (∀ b o, s.heap.get? b = some o → h'.get? b = some o) → h'.DictOf knd s.heap.objs.size ps → Q (.ref s.heap.objs.size) { s with heap := h', toks := tk }) : wpAny (model prog w) A (call (.type "dict") [.ref l]) Q E s := by
  refine callType_codes (Q₁ := fun obj s₁ => obj = .ref s.heap.objs.size ∧ s₁ = { s with heap := s.heap.push { cls := .type "dict", data := .dict #[] } }) F.kt_called_dict (F.kt_typeCall_dict_1 _) F.entry_dict_init (kt_code_dict_new _ ⟨rfl, rfl⟩) ?_
  rintro obj s₁ ⟨rfl, rfl⟩
  have hnew : (s.heap.push { cls := .type "dict", data := .dict #[] }).DictOf knd s.heap.objs.size [] := Heap.DictOf.new s.heap
  have hl1 : (s.heap.push { cls := .type "dict", data := .dict #[] }).get? l = some { cls := .type "list", data := .seq items n } := Heap.get?_push_of_some _ hl
  refine ⟨hnew.typeIs, F.args_dict_init_2 _ _, ?_⟩
  unfold Builtin.«dict.__init__»
  refine wpAny_bind ?_
  unfold Builtin.Dict.selfAndRest
  refine wpAny_bind (wpAny_notOrdered_dict hnew.typeIs ?_)
  show wpAny _ _ (pure (s.heap.objs.size, [Value.ref l])) _ _ _
  refine wpAny_pure ?_
  show wpAny _ _ (Builtin.Dict.updateFrom "dict.__init__" s.heap.objs.size (.ref l) [] .none) _ _ _
  unfold Builtin.Dict.updateFrom
  refine wpAny_bind (wpAny_typeOf (T := "list") ⟨_, hl1, rfl⟩ ?_)
  rw [if_pos (by decide)]
  refine wpAny_bind (keys_miss hl1 rfl rfl rfl hA fun h2 tk2 k2 => ?_)
  show wpAny _ _ (rule _ >>= _) _ _ _
  refine wpAny_bind (wpAny_rule ?_)
  have hl2 : h2.IsList l items := ⟨_, k2 _ _ hl1, rfl, _, rfl⟩
  refine wpAny_bind (wpAny_pyIter_list hl2 ?_)
  have lts : l < s.heap.objs.size := Heap.lt_size hl
  obtain ⟨od, es, ep, god, rd⟩ := hnew
  have lt2 : s.heap.objs.size < h2.objs.size := Heap.lt_size (k2 _ _ god)
  refine wpAny_pure ⟨plainId_quiet plain_dul _, ?_⟩
  refine dict_loop (A := A.in1) (knd := knd) (s := { s with heap := h2, toks := tk2 }) (h₀ := h2.push { cls := .type "list_iterator", data := .fields #[.ref l, .int 0 0] }) (items := items) (ps := ps) hA (fun i x hx => ?_) (Nat.ne_of_lt (Nat.lt_trans lts lt2)) (Nat.ne_of_lt lts) (Nat.ne_of_gt lt2) (hl2.push _) hlen hsz (fun h3 tk3 k3 hd3 => ?_) _ 0 _ _ rfl (Nat.zero_le _) ⟨_, Heap.get?_push_size _ rfl, rfl, rfl⟩ ⟨od, es, ep, Heap.get?_push_of_some _ (k2 _ _ god), rd⟩ (fun b o _ _ e => e)
  · obtain ⟨t, key, v, k, e, ⟨ot, hot, rt⟩, e2, e3⟩ := tup i x hx
    have ltt := Heap.lt_size hot
    exact ⟨t, key, v, k, e, Nat.ne_of_lt (Nat.lt_trans ltt lt2), Nat.ne_of_lt ltt, ⟨ot, Heap.get?_push_of_some _ (k2 _ _ (Heap.get?_push_of_some _ hot)), rt⟩, e2, e3⟩
  · rw [merged_nil_of_nodup ps hn] at hd3
    refine ⟨rfl, h h3 tk3 (fun b o e => ?_) hd3⟩
    have lb := Heap.lt_size e
    exact k3 b o (Nat.ne_of_lt (Nat.lt_trans lb lt2)) (Nat.ne_of_lt lb) (Heap.get?_push_of_some _ (k2 _ _ (Heap.get?_push_of_some _ e)))
end
section
variable {X : Cx} {pins : List (Addr × Obj)} {σ : St} {H : Hp} {s : Shared}
/-- a list of pairs (int, thing) -/
def PrAt (H : Hp) : List (Int × V) → List V → Prop
  | [], [] => True
  | p :: ps, u :: us => (∃ t, u = .ref t ∧ H t = some (.tup [.int p.1, p.2])) ∧ PrAt H ps us
  | _, _ => False
theorem PrAt.length : ∀ {ps : List (Int × V)} {us : List V}, PrAt H ps us → ps.length = us.length
  | [], [], _ => rfl
  | _ :: _, _ :: _, h => congrArg (· + 1) h.2.length
theorem PrAt.get : ∀ {ps : List (Int × V)} {us : List V} {i : Nat} {u : V}, PrAt H ps us → us[i]? = some u → ∃ n v t, ps[i]? = some (n, v) ∧ u = .ref t ∧ H t = some (.tup [.int n, v])
  | [], [], _, _, _, h => by simp at h
  | p :: ps, z :: us, 0, u, h, e => by
    simp at e
    subst e
    obtain ⟨t, e1, e2⟩ := h.1
    exact ⟨p.1, p.2, t, rfl, e1, e2⟩
  | _ :: ps, _ :: us, i + 1, u, h, e => by
    obtain ⟨n, v, t, r⟩ := PrAt.get (i := i) h.2 (by simpa using e)
    exact ⟨n, v, t, by simpa using r⟩
theorem PrAt.mono {H' : Hp} (k : ∀ b xs, H b = some (.tup xs) → H' b = some (.tup xs)) : ∀ {ps : List (Int × V)} {us : List V}, PrAt H ps us → PrAt H' ps us
  | [], [], _ => trivial
  | _ :: _, _ :: _, h => by
    obtain ⟨t, e1, e2⟩ := h.1
    exact ⟨⟨t, e1, k _ _ e2⟩, h.2.mono k⟩
theorem PrAt.snoc {n : Int} {v : V} {t : Addr} (ht : H t = some (.tup [.int n, v])) : ∀ {ps : List (Int × V)} {us : List V}, PrAt H ps us → PrAt H (ps ++ [(n, v)]) (us ++ [.ref t])
  | [], [], _ => ⟨⟨t, rfl, ht⟩, trivial⟩
  | _ :: _, _ :: _, h => ⟨h.1, h.2.snoc ht⟩
theorem PrAt.append : ∀ {ps qs : List (Int × V)} {us ws : List V}, PrAt H ps us → PrAt H qs ws → PrAt H (ps ++ qs) (us ++ ws)
  | [], _, [], _, _, h => h
  | _ :: _, _, _ :: _, _, h, h' => ⟨h.1, h.2.append h'⟩
theorem PrAt.take : ∀ {ps : List (Int × V)} {us : List V} (k : Nat), PrAt H ps us → PrAt H (ps.take k) (us.take k)
  | _, _, 0, _ => by simp [PrAt]
  | [], [], _ + 1, _ => trivial
  | _ :: _, _ :: _, k + 1, h => ⟨h.1, h.2.take k⟩
theorem PrAt.drop : ∀ {ps : List (Int × V)} {us : List V} (k : Nat), PrAt H ps us → PrAt H (ps.drop k) (us.drop k)
  | _, _, 0, h => by simpa using h
  | [], [], _ + 1, _ => trivial
  | _ :: _, _ :: _, k + 1, h => h.2.drop k
theorem pr_vals (I : Inv X pins σ H s) : ∀ {ps : List (Int × V)} {us : List V} {its : List Value}, PrAt H ps us → Vals us its → ∃ vs : List (Key × Value), KV (ps.map fun p => ((Sum.inl p.1 : Key), p.2)) vs ∧ vs.length = its.length ∧
    ∀ (i : Nat) (x : Value), its[i]? = some x → ∃ (t : Addr) (key v : Value) (k : Key), x = .ref t ∧ s.heap.IsTuple t #[key, v] ∧ vs[i]? = some (k, v) ∧ (mixKind X.prog X.w).is k key = true
  | [], [], _, _, r => by
    cases r
    exact ⟨[], .nil, rfl, fun i x e => by simp at e⟩
  | p :: ps, u :: us, _, h, r => by
    cases r with
    | cons r1 rr =>
      obtain ⟨t, rfl, ht⟩ := h.1
      obtain ⟨vs, kv, lv, g⟩ := pr_vals I h.2 rr
      cases r1
      obtain ⟨jt, rj, ptup, _⟩ := I.tuple (SqT.of ht)
      cases rj with
      | cons ra rb =>
        cases rb with
        | cons rb rc =>
          cases rc
          refine ⟨((Sum.inl p.1 : Key), _) :: vs, .cons ⟨rfl, rb⟩ kv, by rw [List.length_cons, List.length_cons, lv], fun i x e => ?_⟩
          cases i with
          | zero =>
            simp at e
            subst e
            exact ⟨t, _, _, _, rfl, ptup, rfl, kV_is (k := Sum.inl p.1) ra⟩
          | succ i => exact g i x (by simpa using e)
/-- dict(xs) -/
def rDictP : List V → Hp → VK → Prop := fun xs H Q => ∃ (a : Addr) (us : List V) (ps : List (Int × V)), xs = [.ref a] ∧ H a = some (.lst us) ∧ PrAt H ps us ∧ (ps.map (·.1)).Nodup ∧ ∀ q, H q = none → Q (.ref q) (upd H q (.dK (ps.map fun p => ((Sum.inl p.1 : Key), p.2))))
theorem call_dictP (hc : X.calm = true) : CallR X (.type "dict") rDictP := by
  intro pins s σ H xs us Q I r h
  obtain ⟨a, ws, ps, rfl, ha, hp, hn, q⟩ := h
  obtain ⟨u, rfl, ru⟩ := vals1 r
  cases ru
  obtain ⟨z, its, n, rv, hl, e⟩ := I.lstM ha
  obtain ⟨vs, kv, lv, g⟩ := pr_vals I hp rv
  have lp := hp.length
  have nd : (vs.map (·.1)).Nodup := by
    rw [← KV.keys kv, List.map_map]
    show (ps.map fun p => (Sum.inl p.1 : Key)).Nodup
    have : (ps.map fun p => (Sum.inl p.1 : Key)) = (ps.map (·.1)).map Sum.inl := by rw [List.map_map]; rfl
    rw [this]
    exact List.Pairwise.map _ (fun a b z y => z (Sum.inl.inj y)) hn
  refine dict_pairs (knd := mixKind X.prog X.w) (items := its.toArray) (ps := vs) (I.ok.hd hc) e (fun i x hx => g i x (by simpa using hx)) (by simpa using lv) (by omega) nd fun h' tk k1 hd => ?_
  exact ⟨.ref s.heap.objs.size, _, I.laid (a := s.heap.objs.size) (o := .dK _) (t' := tk) k1 (Nat.le_refl _) (dk_new (by rw [List.length_map]; omega) (beq_eq_false_iff_ne.mpr (Ne.symm (Nat.ne_of_lt I.big))) kv hd), rfl, q _ (I.hok.fresh (Nat.le_refl _))⟩
end
end L2
set_option Elab.async false
set_option linter.all false
set_option maxRecDepth 100000
set_option maxHeartbeats 4000000
namespace L2
open PySem PySem.Spec PyProof.Rows
section
variable {X : Cx} {pins : List (Addr × Obj)} {σ : St} {H : Hp} {s : Shared}
/-! ### == of two dicts of lists of ints, alike -/
def InA (H : Hp) (v u : V) : Prop := ∃ (p q : Addr) (ns : List Int), v = .ref p ∧ u = .ref q ∧ p ≠ q ∧ H p = some (.lst (ns.map V.int)) ∧ H q = some (.lst (ns.map V.int))
theorem eq_ints (I : Inv X pins σ H s) (A : Around) (hu : A.units < cLine) {v u : V} {x y : Value} (h : InA H v u) (rx : RelV v x) (ry : RelV u y) : PySem.SeqAt.EqAt A s x y true := by
  obtain ⟨p, b, ns, rfl, rfl, ne, h1, h2⟩ := h
  cases rx
  cases ry
  obtain ⟨its, r1, p1, z1⟩ := I.list (SqL.of (K := X.K) h1)
  obtain ⟨its2, r2, p2, z2⟩ := I.list (SqL.of (K := X.K) h2)
  have l1 := r1.length
  have l2 := r2.length
  have R := PySem.SeqAt.RcAt.lists (A := A) (s := s) (e := fun _ => true) p1.isList p2.isList (by simp; omega) hu (fun j g1 g2 => by
    have hj : j < ns.length := by simp at g1; simp at l1; omega
    have hv : (ns.map V.int)[j]? = some (.int ns[j]) := by simp [hj]
    obtain ⟨u1, e1, a1⟩ := r1.get hv
    obtain ⟨u2, e2, a2⟩ := r2.get hv
    obtain ⟨t1, rfl⟩ := a1
    obtain ⟨t2, rfl⟩ := a2
    have k1 : its.toArray[j] = Value.int ns[j] t1 := by
      have : its.toArray[j]? = some (Value.int ns[j] t1) := by simpa using e1
      rw [Array.getElem?_eq_getElem g1] at this
      exact Option.some.inj this
    have k2 : its2.toArray[j] = Value.int ns[j] t2 := by
      have : its2.toArray[j]? = some (Value.int ns[j] t2) := by simpa using e2
      rw [Array.getElem?_eq_getElem g2] at this
      exact Option.some.inj this
    rw [k1, k2]
    have := PySem.SeqAt.EqAt.int_int (A := A.in1) (s := s) ns[j] t1 ns[j] t2
    rw [beq_self_eq_true] at this
    exact this)
  have e : ((List.range its.toArray.size).all fun _ => true) = true := by simp
  rw [e] at R
  exact PySem.SeqAt.EqAt.of_refs ne R
def DkA (H : Hp) : List (Key × V) → List (Key × V) → Prop
  | [], [] => True
  | p :: ps, q :: qs => p.1 = q.1 ∧ InA H p.2 q.2 ∧ DkA H ps qs
  | _, _ => False
theorem DkA.length : ∀ {ps qs : List (Key × V)}, DkA H ps qs → ps.length = qs.length
  | [], [], _ => rfl
  | _ :: _, _ :: _, h => congrArg (· + 1) h.2.2.length
theorem valueAt_mid {vs ws : List (Key × Value)} {k : Key} {v : Value} (h : ((vs ++ (k, v) :: ws).map (·.1)).Nodup) : valueAt (vs ++ (k, v) :: ws) k = some v := by
  unfold valueAt
  have e : vs.find? (fun kv => decide (kv.1 = k)) = none := by
    rw [List.find?_eq_none]
    intro x hx
    rw [List.map_append, List.nodup_append] at h
    have := h.2.2 x.1 (List.mem_map_of_mem hx) k (by simp)
    simpa using this
  rw [List.find?_append, e]
  simp
theorem hits_of (I : Inv X pins σ H s) (A : Around) (hu : A.units < cLine) : ∀ {ps qs : List (Key × V)} {va vb vp : List (Key × Value)}, DkA H ps qs → KV ps va → KV qs vb → ((vp ++ vb).map (·.1)).Nodup → PySem.W.KeqHits A s (vp ++ vb) va true
  | [], [], _, _, _, _, ra, rb, _ => by
    cases ra
    exact .nil
  | p :: ps, q :: qs, _, _, vp, h, ra, rb, hn => by
    cases ra with
    | @cons _ a _ as ha rra =>
      cases rb with
      | @cons _ b _ bs hb rrb =>
        obtain ⟨h1, h2, h3⟩ := h
        obtain ⟨ka, va⟩ := a
        obtain ⟨kb, vb⟩ := b
        have ek : ka = kb := ha.1.symm.trans (h1.trans hb.1)
        subst ek
        have ih := hits_of I A hu (vp := vp ++ [(ka, vb)]) h3 rra rrb (by rw [List.append_assoc]; exact hn)
        rw [List.append_assoc] at ih
        have := PySem.W.KeqHits.hit (valueAt_mid hn) (eq_ints I A hu h2 ha.2 hb.2) ih
        exact this
theorem op_eqD (hu : X.A.units + 1 < cLine) : OpR X (compareOp .Eq) (fun x y H Q => ∃ (a b : Addr) (ka kb : List (Key × V)), x = .ref a ∧ y = .ref b ∧ H a = some (.dK ka) ∧ H b = some (.dK kb) ∧ DkA H ka kb ∧ (kb.map (·.1)).Nodup ∧ Q (.bl true) H) := by
  intro pins s σ H x y v u Q I rx ry h
  obtain ⟨a, b, ka, kb, rfl, rfl, h1, h2, h3, h4, q⟩ := h
  cases rx
  cases ry
  obtain ⟨z1, lo1, va, kv1, hD1⟩ := dk_of I.hok h1
  obtain ⟨z2, lo2, vb, kv2, hD2⟩ := dk_of I.hok h2
  have nd : (vb.map (·.1)).Nodup := by rw [← KV.keys kv2]; exact h4
  have l1 := KV.length kv1
  have l2 := KV.length kv2
  have l3 := h3.length
  have hu1 : X.A.in1.units < cLine := by show X.A.units + 1 < cLine; exact hu
  refine PySem.W.keq_eq lo1 lo2 hD1 hD2 (Nat.lt_of_succ_lt hu) (fun _ => hits_of (vp := []) I X.A.in1 hu1 h3 kv1 kv2 nd) ?_
  exact fin_bl I q (by rw [show (va.length == vb.length) = true by simp; omega]; rfl)
end
end L2
set_option Elab.async false
set_option linter.all false
set_option maxRecDepth 100000
set_option maxHeartbeats 4000000
namespace L2
open PySem PySem.Spec PyProof.Rows
/-- a comprehension whose target is any target: xs its names -/
def tSlots0 (xs : List Str) (σ : St) (ix : List Nat) : St := xs.map (fun _ => (none : Option V)) ++ ix.map fun i => (σ[i]?).join
def cEndT (J : It) (k : Nat) (g : TG) (σ : St) (ix : List Nat) (tt : TT) (te : TE) (H1 : Hp) (Q : VK) : Prop :=
  ∀ D, H1 D = none → ∃ W : Nat → Nat → Hp → Prop, (∃ m, W 0 m (upd H1 D (.lst []))) ∧ ∀ i m H, W i m H →
    (J.stop i H ∧ Q (.ref D) H) ∨ (J.go i H ∧ ∀ x H', J.yld i H x H' → ∀ os : St, os.length = k → g x (os ++ ix.map fun i => (σ[i]?).join) H' fun σ6 H6 => (∃ os' : St, os'.length = k ∧ σ6 = os' ++ ix.map fun i => (σ[i]?).join) ∧ tt σ6 H6 fun c H2 =>
      if c = true then te σ6 H2 fun y H3 => ∃ ys m', H3 D = some (.lst ys) ∧ ys.length < sizeLine ∧ m' < m ∧ W (i + 1) m' (upd H3 D (.lst (ys ++ [y])))
      else ∃ m', m' < m ∧ W (i + 1) m' H2)
def tCompT (k : Nat) (g : TG) (wi : TI) (ix : List Nat) (tt : TT) (te : TE) : TE := fun σ H Q => wi σ H fun J H1 => cEndT J k g σ ix tt te H1 Q
section
variable {X : Cx} {pins : List (Addr × Obj)} {σ : St} {H : Hp} {s : Shared}
theorem inv_compT {xs : List Str} {ys : List Str} {ix : List Nat} {scope : Scope} {cl : List (Str × Addr)} {fp : List Addr} {E : Value → Shared → Prop} {h₁ : Heap} {D C n : Nat} {tk : Nat} {m : Str → Option Value}
    (I : Inv X pins σ H s) (hf : ∀ b ∈ fp, FpOk X pins H b ∧ b < s.heap.objs.size) (sub : SubCells X.env cl) (hkind : scope.kind = .function)
    (hhas : ∀ y, ((relabel scope X.env).names.lookup y = some .cell ∨ (relabel scope X.env).names.lookup y = some .free) → ∃ c, cl.lookup y = some c) (fo : FreeOk X scope ix ys)
    (hD : s.heap.objs.size ≤ D) (hC : s.heap.objs.size ≤ C) (hDC : D ≠ C) (hns : h₁.Ns C m) (k : ∀ b o, s.heap.get? b = some o → h₁.get? b = some o)
    (hd : h₁.get? D = some { cls := .type "list", data := .seq ([] : List Value).toArray n }) :
    Inv (cxComp X (xs ++ ys) scope cl C s H fp E) [] (tSlots0 xs σ ix) (upd H D (.lst [])) { s with heap := h₁, toks := tk } := by
  have lt_of_cell : ∀ y c, cl.lookup y = some c → c < s.heap.objs.size := fun y c e => by
    obtain ⟨v, q⟩ := I.cell y c (sub.get e)
    exact q.lt
  refine ⟨⟨I.ok.mod, hkind, I.ok.glob, I.ok.blt, hC, fun y z c h1 h2 => I.ok.inj y z c (sub.get h1) (sub.get h2), hhas, fun y c h _ => absurd h (by simp [cxComp]), I.ok.hd, I.ok.frames, .inl rfl, fun b hb => ⟨?_, fun y c e => ?_⟩, I.bs, Nat.le_trans I.ok.bsz I.sz, fun b o e hb => ?_, fun b hb z => ?_, I.stack, I.stkFree⟩,
    rfl, I.bare, Un.laid k hD (I.hok.fresh hD), ⟨m, hns, fun j y v e1 e2 e3 => ?_⟩, fun y c e => ?_, ?_, fun y c e => ?_, fun p hp => absurd (show p ∈ ([] : List (Addr × Obj)) from hp) (by simp), I.hok.laid k hD ?_, ?_⟩
  · exact Nat.ne_of_lt (Nat.lt_of_lt_of_le (hf b hb).2 hC)
  · exact (hf b hb).1.2.2.2.2.1 y c (sub.get e)
  · obtain ⟨_, _, _, z, _⟩ := (hf b hb).1
    rcases z with z | z
    · exact I.ok.noex b o e z
    · exact absurd (Nat.lt_of_lt_of_le (Heap.lt_size (I.ok.bs b o e).1) z) (Nat.lt_irrefl _)
  · obtain ⟨_, z1, z2, _⟩ := (hf b hb).1
    rcases List.mem_cons.mp (I.stkSub b z) with q | q
    · exact z1 q
    · exact z2 q
  · by_cases hj : j < xs.length
    · exfalso
      have e3 : (xs.map (fun _ => (none : Option V)) ++ ix.map fun i => (σ[i]?).join)[j]? = some (some v) := e2
      rw [List.getElem?_append_left (by rw [List.length_map]; exact hj), List.getElem?_map, List.getElem?_eq_getElem hj] at e3
      cases e3
    · have e0 : (xs ++ ys)[j]? = some y := e1
      have e1' : ys[j - xs.length]? = some y := by rw [List.getElem?_append_right (Nat.le_of_not_lt hj)] at e0; exact e0
      have e3 : (xs.map (fun _ => (none : Option V)) ++ ix.map fun i => (σ[i]?).join)[j]? = some (some v) := e2
      have e2' : (ix.map fun i => (σ[i]?).join)[j - xs.length]? = some (some v) := by
        rw [List.getElem?_append_right (by rw [List.length_map]; exact Nat.le_of_not_lt hj), List.length_map] at e3
        exact e3
      obtain ⟨i, q1, q2⟩ := slots_get e2'
      obtain ⟨i', p1, p2, p3, p4'⟩ := fo.get e1'
      rw [q1] at p1
      cases p1
      have p4 : (relabel scope X.env).names.lookup y = some .cell ∨ (relabel scope X.env).names.lookup y = some .free := relabel_free p4'
      obtain ⟨c, p5⟩ := hhas y p4
      obtain ⟨m0, hn0, hl⟩ := I.loc
      obtain ⟨u, r, l⟩ := hl i y v p2 q2 (.inr p3)
      refine ⟨u, r, .inr ⟨p4, c, p5, ?_⟩⟩
      rcases l with ⟨l1, _⟩ | ⟨_, c', l2, l3⟩
      · rcases p3 with p3 | p3
        · rw [l1] at p3; cases p3
        · rw [l1] at p3; cases p3
      · rw [sub.get p5] at l2
        cases l2
        obtain ⟨o, ho, hd'⟩ := l3
        exact ⟨o, k _ _ ho, hd'⟩
  · obtain ⟨v, o, ho, hd'⟩ := I.cell y c (sub.get e)
    exact ⟨v, o, k _ _ ho, hd'⟩
  · show upd H D (.lst []) C = none
    rw [upd_ne (Ne.symm hDC)]
    exact I.hok.fresh hC
  · show upd H D (.lst []) c = none
    rw [upd_ne (Nat.ne_of_lt (Nat.lt_of_lt_of_le (lt_of_cell y c e) hD))]
    exact I.freeC y c (sub.get e)
  · exact ⟨Nat.zero_le _, [], n, .nil, hd⟩
  · show (tSlots0 xs σ ix).length = (xs ++ ys).length
    unfold tSlots0
    rw [List.length_append, List.length_map, List.length_map, fo.len, List.length_append]

theorem comp_blockT {elt iter tg : Expr} {xs : List Str} {g : TG} {ifs : List Expr} {scope : Scope} {cl : List (Str × Addr)} {pos : Pos} {ix : List Nat} {ys : List Str} {tt : TT} {te : TE} {it : Addr} {fp : List Addr} {tn : Nat → Heap → Prop} {J : It} {Q : VK} {E : Value → Shared → Prop}
    {RR : Value → Addr → Result → Shared → Prop}
    (hc : X.calm = true) (hg : ∀ C s H fp E, PG (cxComp X (xs ++ ys) scope cl C s H fp E) tg g) (ht : ∀ C s H fp E, PTs (cxComp X (xs ++ ys) scope cl C s H fp E) ifs tt) (he : ∀ C s H fp E, PE (cxComp X (xs ++ ys) scope cl C s H fp E) elt te)
    (sub : SubCells X.env cl) (hkind : scope.kind = .function) (hcell : ∀ y ∈ scope.names, y.2 ≠ .cell)
    (hhas : ∀ y, ((relabel scope X.env).names.lookup y = some .cell ∨ (relabel scope X.env).names.lookup y = some .free) → ∃ c, cl.lookup y = some c) (fo : FreeOk X scope ix ys)
    (I : Inv X pins σ H s) (T : Turn X.prog X.w X.K tg J fp it tn) (st : tn 0 s.heap) (hf : ∀ b ∈ fp, FpOk X pins H b) (q : cEndT J xs.length g σ ix tt te H Q)
    (hRR : ∀ D C s' H' m, s.heap.objs.size ≤ C → Inv X pins σ H' s' → FpOk X pins H' C → s'.heap.Ns C m → Q (.ref D) H' → RR (.ref D) C (.ok .next) s') :
    wpAny (model X.prog X.w) X.A (newList []) (fun acc s₃ => wpAny (model X.prog X.w) X.A (newFunctionEnv scope X.env.globals cl [] X.env.qual none .none (some X.env)) (fun cenv s₄ =>
      codeAny (model X.prog X.w) X.A (.compStart (.ListComp elt [⟨tg, iter, ifs, 0⟩] scope pos) 0 (.ref it) acc { cenv with scope := relabel scope X.env }) (RR acc cenv.locals) s₄) E s₃) E s := by
  refine wpAny_newObj_type (wpAny_newFunctionEnv hcell (by intro y hy; simp at hy) (fun h₁ hns₁ hsb₁ => ?_) hkind)
  dsimp only at hns₁ hsb₁ ⊢
  generalize hH2 : s.heap.push { cls := .type "list", dict := none, data := .seq ([] : List Value).toArray } = H2 at hns₁ hsb₁ ⊢
  have hC : H2.objs.size = s.heap.objs.size + 1 := by rw [← hH2, Heap.size_push]
  have hDC : s.heap.objs.size ≠ H2.objs.size := by rw [hC]; exact Nat.ne_of_lt (Nat.lt_succ_self _)
  have hCle : s.heap.objs.size ≤ H2.objs.size := by rw [hC]; exact Nat.le_succ _
  have below : ∀ b, b < s.heap.objs.size → b ≠ H2.objs.size ∧ b ≠ s.heap.objs.size := fun b hb => ⟨by rw [hC]; exact Nat.ne_of_lt (Nat.lt_succ_of_lt hb), Nat.ne_of_lt hb⟩
  have old : ∀ b o, s.heap.get? b = some o → h₁.get? b = some o := fun b o e => hsb₁.extBut b o (below b (Heap.lt_size e)).1 (Heap.get?_push_of_some _ (hH2 ▸ Heap.get?_push_of_some _ e))
  have hacc : ∃ n, h₁.get? s.heap.objs.size = some { cls := .type "list", data := .seq ([] : List Value).toArray n } := ⟨_, hsb₁.extBut _ _ hDC (Heap.get?_push_of_some _ (hH2 ▸ Heap.get?_push_size _ rfl))⟩
  obtain ⟨nD, hacc⟩ := hacc
  have hf' : ∀ b ∈ fp, FpOk X pins H b ∧ b < s.heap.objs.size := fun b hb => ⟨hf b hb, by obtain ⟨o, e, _⟩ := T.obj 0 _ st b hb; exact Heap.lt_size e⟩
  have hDn : H s.heap.objs.size = none := I.hok.fresh (Nat.le_refl _)
  obtain ⟨W, ⟨m0, w0⟩, turn⟩ := q _ hDn
  generalize hE : notedBy (model X.prog X.w) X.A (compEnvC scope cl H2.objs.size X.env) (fun e s' => RR (.ref s.heap.objs.size) H2.objs.size (.error e) s') = EE
  have I0 : Inv (cxComp X (xs ++ ys) scope cl H2.objs.size s H fp EE) [] (tSlots0 xs σ ix) (upd H s.heap.objs.size (.lst [])) { s with heap := h₁, toks := s.toks + ([] : List (Str × Value)).length } :=
    inv_compT I hf' sub hkind hhas fo (Nat.le_refl _) hCle hDC hns₁ old hacc
  have st1 : tn 0 h₁ := T.keep _ _ _ st fun b _ o e => old b o e
  have fr1 : ∀ b ∈ fp, upd H s.heap.objs.size (.lst []) b = none := fun b hb => by rw [upd_ne (below b (hf' b hb).2).2]; exact (hf b hb).1
  have stat : ∀ {H' : Hp}, (∀ b ∈ fp, H' b = none) → ∀ b ∈ fp, FpOk (cxComp X (xs ++ ys) scope cl H2.objs.size s H fp EE) [] H' b := fun hn b hb =>
    ⟨hn b hb, (I0.ok.exf b hb).1, I0.ok.exfs b hb, .inl hb, (I0.ok.exf b hb).2, fun p hp => absurd (show p ∈ ([] : List (Addr × Obj)) from hp) (by simp)⟩
  have loop : ∀ s₃ : Shared, s₃ = { s with heap := h₁, toks := s.toks + ([] : List (Str × Value)).length } →
      codeAny (model X.prog X.w) X.A (.compLoop (.ListComp elt [⟨tg, iter, ifs, 0⟩] scope pos) 0 (.ref it) (.ref s.heap.objs.size) (compEnvC scope cl H2.objs.size X.env)) (RR (.ref s.heap.objs.size) H2.objs.size) s₃ := by
    rintro s₃ rfl
    refine compLoop_go (fun n s' => ∃ i σ' H', Inv (cxComp X (xs ++ ys) scope cl H2.objs.size s H fp EE) [] σ' H' s' ∧ (∃ os : St, os.length = xs.length ∧ σ' = os ++ ix.map fun i => (σ[i]?).join) ∧ tn i s'.heap ∧ (∀ b ∈ fp, H' b = none) ∧ W i n H') ?_ m0 ⟨0, _, _, I0, ⟨_, List.length_map _, rfl⟩, st1, fr1, w0⟩
    rintro n s3 ⟨i, σ3, H3, I3, ⟨o3, ho3, hσ3⟩, st3, fr3, w3⟩
    rw [hE]
    rcases turn i n H3 w3 with ⟨stop, qn⟩ | ⟨go, step⟩
    · refine thn (T.done (cxComp X (xs ++ ys) scope cl H2.objs.size s H fp EE) rfl rfl rfl hc i [] s3 σ3 H3 EE I3 (stat fr3) st3 stop) fun r s4 ⟨hr, I4⟩ => ?_
      subst hr
      obtain ⟨m4, hn4, _⟩ := I4.loc
      have Ix : Inv X pins σ H3 s4 := I.call' (s' := s4) (ch := fp) I4.os I4.base I4.hok I4.bare fun b hb => by
        obtain ⟨_, z1, _, z3, z4, z5⟩ := hf b hb
        exact ⟨z3, z1, z4, z5⟩
      exact hRR _ _ s4 H3 m4 hCle Ix (I.fpOk hCle I4.free) hn4 qn
    · refine thn (T.item (cxComp X (xs ++ ys) scope cl H2.objs.size s H fp EE) rfl rfl rfl hc i [] s3 σ3 H3 EE I3 (stat fr3) st3 go) fun r s4 ⟨u, hr, h4⟩ => ?_
      subst hr
      refine thn h4 fun _ s5 ⟨xv, H5, I5, r5, y5, st5, fr5⟩ => ?_
      have I5' := I5.pinned (stat fr5) (T.obj _ _ st5)
      have again : ∀ {σ7 : St} {H7 : Hp} {s7 : Shared} {m' : Nat}, Inv (cxComp X (xs ++ ys) scope cl H2.objs.size s H fp EE) ([] ++ pinsAt fp s5.heap) σ7 H7 s7 → (∃ os : St, os.length = xs.length ∧ σ7 = os ++ ix.map fun i => (σ[i]?).join) → m' < n → W (i + 1) m' H7 →
          ∃ m, m < n ∧ ∃ i σ' H', Inv (cxComp X (xs ++ ys) scope cl H2.objs.size s H fp EE) [] σ' H' s7 ∧ (∃ os : St, os.length = xs.length ∧ σ' = os ++ ix.map fun i => (σ[i]?).join) ∧ tn i s7.heap ∧ (∀ b ∈ fp, H' b = none) ∧ W i m H' := fun {σ7 H7 s7 m'} I7 e7 hm w7 => by
        refine ⟨m', hm, i + 1, σ7, H7, I7.unpinned, e7, T.keep _ _ _ st5 fun b hb o e => (I7.pin (b, o) (List.mem_append_right _ (List.mem_append_right _ (mem_pinsAt hb e)))).1, fun b hb => ?_, w7⟩
        obtain ⟨o, e, d⟩ := T.obj _ _ st5 b hb
        exact (I7.pin (b, o) (List.mem_append_right _ (List.mem_append_right _ (mem_pinsAt hb e)))).2.1
      have stp := step xv _ y5 o3 ho3
      rw [← hσ3] at stp
      refine thn (hg _ _ _ _ _ _ s5 σ3 H5 xv u _ I5' r5 stp) fun _ s6 ⟨σ6, H6, I6, e6, q6⟩ => ?_
      refine thn (ht _ _ _ _ _ _ s6 _ _ _ I6 q6) fun ok s7 ⟨H7, I7, q7⟩ => ?_
      cases ok with
      | false =>
        rw [if_neg Bool.false_ne_true] at q7 ⊢
        obtain ⟨m', hm, w7⟩ := q7
        exact again I7 e6 hm w7
      | true =>
        rw [if_pos rfl] at q7 ⊢
        refine thn (he _ _ _ _ _ _ s7 _ _ _ I7 q7) fun y s8 ⟨yv, H8, I8, r8, ys8, m', e8, z8, hm, w8⟩ => ?_
        refine thn (mt_append _ s8 _ H8 (.ref s.heap.objs.size) [yv] (.ref s.heap.objs.size) [y] (fun _ H9 => W (i + 1) m' H9) I8 rfl (.cons r8 .nil) ⟨_, ys8, yv, rfl, rfl, e8, z8, w8⟩) fun _ s9 ⟨_, H9, I9, _, w9⟩ => ?_
        exact again I9 e6 hm w9
  exact codeAny_compStart_list (loop _ rfl) (T.self _ 0 _ _ _ st1 (loop _ rfl))

theorem pe_compT {elt iter tg : Expr} (xs : List Str) (x : Str) {g : TG} {ifs : List Expr} {scope : Scope} {pos : Pos} {wi : TI} {tt : TT} {te : TE} (ix : List Nat) (ys : List Str)
    (hc : X.calm = true) (hg : ∀ C s H fp E, PG (cxComp X (xs ++ ys) scope (closL X.env scope.names []) C s H fp E) tg g) (hi : PI X tg iter wi) (ht : ∀ C s H fp E, PTs (cxComp X (xs ++ ys) scope (closL X.env scope.names []) C s H fp E) ifs tt) (he : ∀ C s H fp E, PE (cxComp X (xs ++ ys) scope (closL X.env scope.names []) C s H fp E) elt te)
    (fo : FreeOk X scope ix ys) (hk : kindsOk X.env scope.names = true := by rfl) (hb : blockOk scope x = true := by rfl)
    (hs : ∀ x, foldedSetIterable iter X.env x = pure x := by intro _; rfl) :
    PE X (.ListComp elt [⟨tg, iter, ifs, 0⟩] scope pos) (tCompT xs.length g wi ix tt te) := by
  intro pins s σ H Q I h
  have B := block_of hb
  have F := kinds_free I.ok hk
  rw [eval_ListComp]
  refine wpAny_comprehension_free (use := none) rfl hs (closure_eq F) B.kind B.names (thn (hi pins s σ H _ I h) fun v s1 h1 => thn h1 fun itv s2 h2 => ?_)
  obtain ⟨it, fp, tn, J, H2, e, I2, T, st2, f2, q2⟩ := h2
  subst e
  refine comp_blockT (RR := fun acc C => compPost (model X.prog X.w) X.A X.xe none (EP X pins σ Q) acc C) hc hg ht he (sub_clos F) B.kind B.cell (has_of B.cell) fo I2 T st2 f2 q2 ?_
  intro D C s' H' m hC Ix fC hn q
  refine ⟨m, hn, fun h' sb => ⟨.ref D, H', ?_, rfl, q⟩⟩
  obtain ⟨f0, f1, _, f3, f4, f5⟩ := fC
  exact Ix.turned (t' := s'.toks) (fun b o hb e => (sb.2 b hb).trans e) f0 f1 f3 f4 f5

theorem ps_setCompT {elt iter tg : Expr} (xs : List Str) (x : Str) {g : TG} {y : Str} {py : Pos} {ifs : List Expr} {scope : Scope} {pos spos : Pos} {wi : TI} {tt : TT} {te : TE} {i : Nat} (ix : List Nat) (ys : List Str)
    (hN : X.N.Nodup) (hiN : X.N[i]? = some y) (hy : X.env.scope.names.lookup y = some .local)
    (hc : X.calm = true) (hg : ∀ C s H fp E, PG (cxComp X (xs ++ ys) scope (closL X.env scope.names []) C s H fp E) tg g) (hi : PI X tg iter wi) (ht : ∀ C s H fp E, PTs (cxComp X (xs ++ ys) scope (closL X.env scope.names []) C s H fp E) ifs tt) (he : ∀ C s H fp E, PE (cxComp X (xs ++ ys) scope (closL X.env scope.names []) C s H fp E) elt te)
    (fo : FreeOk X scope ix ys)
    (hsw : swapsWith (.ListComp elt [⟨tg, iter, ifs, 0⟩] scope pos) (some (.Name y py)) spos.line X.env = pure true := by rfl)
    (hk : kindsOk X.env scope.names = true := by rfl) (hb : blockOk scope x = true := by rfl)
    (hs : ∀ x, foldedSetIterable iter X.env x = pure x := by intro _; rfl) :
    PS X (.Assign [.Name y py] (.ListComp elt [⟨tg, iter, ifs, 0⟩] scope pos) spos) (tSetComp i (tCompT xs.length g wi ix tt te)) := by
  intro pins s σ H D I h
  have B := block_of hb
  have F := kinds_free I.ok hk
  rw [exec_Assign_Name_used _ _ _ _ hsw]
  refine wpAny_bind (wpAny_standAt (wpAny_bind ?_))
  show wpAny _ X.A (do let _ ← comprehension (.ListComp elt [⟨tg, iter, ifs, 0⟩] scope pos) scope X.env _ (newList []) false (eval iter X.env) (some (assign (.Name y py) X.env))) _ _ s
  refine wpAny_bind (wpAny_mono (wpAny_comprehension_free (use := some (assign (.Name y py) X.env)) (Q := fun _ s' => SP X pins D .next s') rfl hs (closure_eq F) B.kind B.names
    (thn (hi pins s σ H _ I h) fun v s1 h1 => thn h1 fun itv s2 h2 => ?_)) (fun _ s' hq => wpAny_pure (wpAny_pure hq)) fun _ _ e => e)
  obtain ⟨it, fp, tn, J, H2, e, I2, T, st2, f2, q2⟩ := h2
  subst e
  refine comp_blockT (RR := fun acc C => compPost (model X.prog X.w) X.A X.xe (some (assign (.Name y py) X.env)) (fun _ s' => SP X pins D .next s') acc C) hc hg ht he (sub_clos F) B.kind B.cell (has_of B.cell) fo I2 T st2 f2 q2 ?_
  intro Dd C s' H' m hC Ix fC hn q
  obtain ⟨f0, f1, _, f3, f4, f5⟩ := fC
  show wpAny _ X.A (assign (.Name y py) X.env (.ref Dd)) _ _ _
  refine wpAny_assign_Name (store_ok2 Ix hN hiN (.inl hy) (v := .ref Dd) rfl (fun s3 I3 ⟨a, sb, ha⟩ => ?_) (.inr hy))
  have ne : C ≠ a := by
    rcases ha with ha | ha
    · rw [ha]; exact f1
    · exact fun z => f4 y a ha z.symm
  refine ⟨m, hn.sameBut sb ne, fun h' sb' => ⟨_, H', ?_, q⟩⟩
  exact I3.turned (t' := s3.toks) (fun b o hb e => (sb'.2 b hb).trans e) f0 f1 f3 f4 f5
/-- a pair's names in a comprehension -/
def gPair (K : PySem.W.Frag) : TG := gTup K 2 (gCons (gName 0) (gCons (gName 1) gNil))
theorem pg_pair {x y : Str} {px py pos : Pos} {k : Nat} (hc : X.calm = true) (hN : X.N.Nodup) (h0 : X.N[0]? = some x) (h1 : X.N[1]? = some y) (lx : X.env.scope.names.lookup x = some .local) (ly : X.env.scope.names.lookup y = some .local) : PG X (.Tuple [.Name x px, .Name y py] k pos) (gPair X.K) :=
  pg_tup hc (pgs_cons (pg_name hN h0 (.inl lx) (.inr lx)) (pgs_cons (pg_name hN h1 (.inl ly) (.inr ly)) pgs_nil))
theorem comp_mapP {J : It} {K : PySem.W.Frag} {ix : List Nat} {te : TE} {Q : VK} {n : Nat} (item : Nat → V → Prop) (Pv : Addr → Nat → List V → Hp → Prop) (hn : n < sizeLine)
    (hgo : ∀ D i ys H, i < n → Pv D i ys H → J.go i H) (hy : ∀ D i ys H x H', i < n → Pv D i ys H → J.yld i H x H' → H' = H ∧ item i x) (hstop : ∀ D ys H, Pv D n ys H → J.stop n H)
    (h0 : ∀ D, H D = none → Pv D 0 [] (upd H D (.lst [])))
    (step : ∀ D i ys H x, H D = some (.lst ys) → ys.length ≤ i → i < n → item i x → Pv D i ys H → ∃ a u v, x = .ref a ∧ SqT K H a [u, v] ∧ ∀ R : VK, (∀ y H3, H3 D = some (.lst ys) → Pv D (i + 1) (ys ++ [y]) (upd H3 D (.lst (ys ++ [y]))) → R y H3) → te ([some u, some v] ++ ix.map fun i => (σ[i]?).join) H R)
    (fin : ∀ D ys H, H D = some (.lst ys) → Pv D n ys H → Q (.ref D) H) : cEndT J 2 (gPair K) σ ix tTrue te H Q := by
  intro D hD
  refine ⟨fun i m H => m = n - i ∧ i ≤ n ∧ ∃ ys, H D = some (.lst ys) ∧ ys.length ≤ i ∧ Pv D i ys H, ⟨n, rfl, Nat.zero_le _, [], upd_same, Nat.le_refl _, h0 D hD⟩, ?_⟩
  rintro i m H ⟨rfl, hi, ys, e, hl, p⟩
  by_cases hlt : i < n
  · refine .inr ⟨hgo D i ys H hlt p, fun x H' y os ho => ?_⟩
    obtain ⟨rfl, it⟩ := hy D i ys H x H' hlt p y
    obtain ⟨a, u, v, rfl, hq, st⟩ := step D i ys _ x e hl hlt it p
    match os, ho with
    | [o1, o2], _ =>
      refine ⟨a, _, rfl, hq, rfl, u, _, rfl, v, _, rfl, rfl, ⟨[some u, some v], rfl, rfl⟩, ?_⟩
      unfold tTrue
      dsimp only
      rw [if_pos rfl]
      refine st _ fun y H3 e3 p3 => ?_
      exact ⟨ys, n - (i + 1), e3, by omega, by omega, rfl, hlt, ys ++ [y], upd_same, by rw [List.length_append, List.length_singleton]; omega, p3⟩
  · have e' : i = n := by omega
    subst e'
    exact .inl ⟨hstop D ys H p, fin D ys H e p⟩
end
end L2
set_option Elab.async false
set_option linter.all false
set_option maxRecDepth 100000
set_option maxHeartbeats 4000000
namespace L2
open PySem PySem.Spec PyProof.Rows

section
variable {P : Program} {w : World} {H H2 : Hp} {h h' : Heap} {cs fs ex : List Addr}
end

section
variable {P : Program} {w : World} {K : PySem.W.Frag} {mg : Str → Option Value} {base : Heap}
end
end L2
set_option Elab.async false
set_option linter.all false
set_option maxRecDepth 100000
set_option maxHeartbeats 4000000
namespace L2
open PySem PySem.Spec PyProof.Rows

/-! ### f(e, ..), the callee given the cells of this frame to see -/
/-! ### try: y = c() / except Y as n: suite, c a function in the slot q -/
end L2
set_option Elab.async false
set_option linter.all false
set_option maxRecDepth 100000
set_option maxHeartbeats 4000000
namespace L2
open PySem PySem.Spec PyProof.Rows

end L2
set_option Elab.async false
set_option linter.all false
set_option maxRecDepth 100000
set_option maxHeartbeats 4000000
namespace L2
open PySem PySem.Spec PyProof.Rows
section
variable {P : Program} {w : World} {K : PySem.W.Frag} {mg : Str → Option Value} {base : Heap}
end
end L2
set_option Elab.async false
set_option linter.all false
set_option maxRecDepth 100000
set_option maxHeartbeats 4000000
namespace L2
open PySem PySem.Spec PyProof.Rows
section
variable {X : Cx}
/-- two lists of the same ints -/
theorem op_eqInts (hu : X.A.units < cLine) : OpR X (compareOp .Eq) (fun x y H Q => ∃ (p b : Addr) (ns : List Int), x = .ref p ∧ y = .ref b ∧ SqL X.K H p (ns.map V.int) ∧ SqL X.K H b (ns.map V.int) ∧ Q (.bl true) H) := by
  intro pins s σ H x y v u Q I rx ry h
  obtain ⟨p, b, ns, rfl, rfl, h1, h2, q⟩ := h
  cases rx
  cases ry
  obtain ⟨its, r1, p1, z1⟩ := I.list h1
  obtain ⟨its2, r2, p2, z2⟩ := I.list h2
  have l1 := r1.length
  have l2 := r2.length
  refine PySem.SeqAt.eq_listAt (e := fun _ => true) p1.isList p2.isList (by simp; omega) hu (fun j g1 g2 => ?_) (fin_bl I q (by simp))
  have hj : j < ns.length := by simp at g1; simp at l1; omega
  have hv : (ns.map V.int)[j]? = some (.int ns[j]) := by simp [hj]
  obtain ⟨u1, e1, a1⟩ := r1.get hv
  obtain ⟨u2, e2, a2⟩ := r2.get hv
  obtain ⟨t1, rfl⟩ := a1
  obtain ⟨t2, rfl⟩ := a2
  have k1 : its.toArray[j] = Value.int ns[j] t1 := by
    have : its.toArray[j]? = some (Value.int ns[j] t1) := by simpa using e1
    rw [Array.getElem?_eq_getElem g1] at this
    exact Option.some.inj this
  have k2 : its2.toArray[j] = Value.int ns[j] t2 := by
    have : its2.toArray[j]? = some (Value.int ns[j] t2) := by simpa using e2
    rw [Array.getElem?_eq_getElem g2] at this
    exact Option.some.inj this
  rw [k1, k2]
  have := PySem.SeqAt.EqAt.int_int (A := X.A.in1) (s := s) ns[j] t1 ns[j] t2
  simpa using this
end
/-! ### behind a call that saw the cells -/
section
variable {cs : List Addr} {HL Hc H' H3 : Hp}
end
end L2
set_option Elab.async false
set_option linter.all false
set_option maxRecDepth 100000
set_option maxHeartbeats 4000000
namespace L2
open PySem PySem.Spec PyProof.Rows
section
variable {σ : St} {H : Hp} {ix : List Nat} {te : TE} {Q : VK} {K : PySem.W.Frag}
end
end L2
set_option Elab.async false
set_option linter.all false
set_option maxRecDepth 100000
set_option maxHeartbeats 8000000
namespace Tw
open PySem PySem.Spec L2
def top (i : Nat) : Stmt := PySem.Challenge.pw_twigmap_k82_bases.main.body.getD i (.Pass ⟨0, 0, 0, 0⟩)
abbrev sReach : Stmt := top 1
abbrev sCommon : Stmt := top 2
abbrev sBases : Stmt := top 3
abbrev sWell : Stmt := top 5
abbrev sPull : Stmt := top 6
abbrev sElders : Stmt := top 7
abbrev sBehind : Stmt := top 8
abbrev sCopied : Stmt := top 9
abbrev sWhole : Stmt := top 10
abbrev sList : Stmt := top 11
abbrev sRight : Stmt := top 12
abbrev sClimbed : Stmt := top 13
abbrev sLaw : Stmt := top 14

/-- what the module says of names -/
structure Txt (mg : Str → Option Value) : Prop where
  isi : mg "isinstance" = none
  bool : mg "bool" = none
  int : mg "int" = none
  list : mg "list" = none
  len : mg "len" = none
  abs : mg "abs" = none
  max : mg "max" = none
  range : mg "range" = none
  sorted : mg "sorted" = none
  dict : mg "dict" = none
  all : mg "all" = none
  set : mg "set" = none

section
variable {P : Program} {w : World} {K : PySem.W.Frag} {mg : Str → Option Value} {base : Heap} {f : Addr} {fd : FuncData}

/-! ### _law_pull -/
theorem scPull : FnScope ["_law_well_here", "_law_many", "_law_found", "_law_first", "_law_second"] ["_law_well_here", "_law_many"] (defScope sPull) := ⟨rfl, rfl, rfl, by decide +kernel, rfl, by decide +kernel, by decide +kernel⟩
theorem ok_pull (F : Fun K "_law_pull" "_law_pull" sPull f fd) : FnOk P w K mg base CX0 1 f fd ["_law_well_here", "_law_many"] spPull := by
  refine F.ok scPull (fun vs H Q E h => ?_) (fun cdv A outer s H vs Q E hr h => ?_)
  · obtain ⟨p, m, rfl, _⟩ := h
    rfl
  obtain ⟨p, m, rfl, W, ⟨hm, hlog⟩, k⟩ := h
  obtain ⟨a, b, c, d, hw, ha0, ha1, hc, hd⟩ := W.ex
  have nd := scPull.nd
  refine ⟨_, pss_cons (ps_if (pt_cmpR op_eq (pe_ix ix_list (pv 0) pe_int (fun _ _ => rfl)) pe_int (nomark _)) (pss_one (ps_ret pe_int)) pss_nil)
    (pss_cons (ps_asg (pe_op op_sub (pe_ix ix_list (pv 0) pe_int (fun _ _ => rfl)) pe_int) (pg_sub (pv 0) pe_int set_list))
    (pss_cons (ps_if (pt_cmpR op_gt (pe_ix ix_list (pv 0) pe_int (fun _ _ => rfl)) pe_int (nomark _))
      (pss_cons (ps_set (i := 2) nd rfl (Or.inl rfl) (pe_op op_mod (pe_ix ix_list (pv 0) pe_int (fun _ _ => rfl)) (pv 1)))
      (pss_cons (ps_asg (pe_op tw_fdiv (pe_ix ix_list (pv 0) pe_int (fun _ _ => rfl)) (pv 1)) (pg_sub (pv 0) pe_int set_list))
      (pss_one (ps_ret (pv 2))))) pss_nil)
    (pss_cons (ps_asg (pe_op op_add (pe_ix ix_list (pv 0) pe_int (fun _ _ => rfl)) pe_int) (pg_sub (pv 0) pe_int set_list))
    (pss_cons (ps_set (i := 3) nd rfl (Or.inl rfl) (pe_op op_mod (pe_op op_mul (pe_op op_add (pe_ix ix_list (pv 0) pe_int (fun _ _ => rfl)) pe_int) (pe_op op_add pe_int (pe_op op_mul pe_int (pe_ix ix_list (pv 0) pe_int (fun _ _ => rfl))))) pe_int))
    (pss_cons (ps_set (i := 4) nd rfl (Or.inl rfl) (pe_op op_mod (pe_op op_mul (pe_op op_add (pe_op op_fdiv (pv 3) pe_int) pe_int) (pe_op op_add (pe_op op_mod (pv 3) pe_int) pe_int)) pe_int))
    (pss_one (ps_ret (pe_op op_mod (pe_op op_fdiv (pv 4) pe_int) (pv 1))))))))), ?_⟩
  refine ⟨_, rfl, p, _, _, _, rfl, rfl, SqL.of hw, rfl, rfl, _, rfl, ?_⟩
  refine ite2 (fun _ => ?_) (fun c0 => ?_)
  · exact k 0 H (Int.le_refl 0) hm W (SameX.refl p H)
  have d0 : d ≠ 0 := fun e => c0 (decide_eq_true (by rw [e]))
  refine ⟨_, rfl, p, _, _, _, rfl, rfl, SqL.of hw, rfl, _, _, rfl, rfl, _, rfl, p, _, _, _, rfl, rfl, hw, rfl, ?_⟩
  refine ⟨_, rfl, p, _, _, _, rfl, rfl, SqL.of upd_same, rfl, _, _, rfl, rfl, _, rfl, ?_⟩
  refine ite2 (fun c1 => ?_) (fun c1 => ?_)
  · refine ⟨_, rfl, p, _, _, _, rfl, rfl, SqL.of upd_same, rfl, _, rfl, _, _, rfl, rfl, hm, ?_⟩
    refine ⟨_, rfl, p, _, _, _, rfl, rfl, SqL.of upd_same, rfl, _, rfl, _, _, rfl, rfl, ⟨hm, hlog⟩, _, rfl, p, _, _, _, rfl, rfl, upd_same, rfl, ?_⟩
    refine ⟨_, rfl, ?_⟩
    refine k (c % m) _ (Int.emod_nonneg _ (by omega)) (Int.emod_lt_of_pos _ hm) ⟨a, b, c / m, d - 1, upd_same, ha0, ha1, Int.ediv_nonneg hc (by omega), by omega⟩ (SameX.refl p H).upd.upd
  · refine ⟨_, rfl, p, _, _, _, rfl, rfl, SqL.of upd_same, rfl, _, _, rfl, rfl, _, rfl, p, _, _, _, rfl, rfl, upd_same, rfl, ?_⟩
    refine ⟨_, rfl, p, _, _, _, rfl, rfl, SqL.of upd_same, rfl, _, _, rfl, rfl, _, rfl, p, _, _, _, rfl, rfl, SqL.of upd_same, rfl, _, _, rfl, rfl, .inl ⟨by decide, by decide⟩, _, _, rfl, rfl, _, _, rfl, rfl, .inl ⟨by omega, by omega⟩, _, _, rfl, rfl, (by show (0 : Int) < 2147483629; decide), ?_⟩
    generalize hx : (a + 1) * (48271 + 7919 * (b + 1)) % 2147483629 = x
    have x0 : 0 ≤ x := by rw [← hx]; exact Int.emod_nonneg _ (by decide)
    have x1 : x < 2147483629 := by rw [← hx]; exact Int.emod_lt_of_pos _ (by decide)
    refine ⟨_, rfl, _, _, rfl, rfl, ⟨by decide, by decide⟩, _, _, rfl, rfl, _, rfl, _, _, rfl, rfl, (by show (0 : Int) < 1009; decide), _, _, rfl, rfl, _, _, rfl, rfl, .inl ⟨by omega, by omega⟩, _, _, rfl, rfl, (by show (0 : Int) < 1000000007; decide), ?_⟩
    refine ⟨_, rfl, _, _, rfl, rfl, ⟨by decide, by decide⟩, _, rfl, _, _, rfl, rfl, hm, ?_⟩
    exact k _ _ (Int.emod_nonneg _ (by omega)) (Int.emod_lt_of_pos _ hm) ⟨a, b + 1, c, d - 1, upd_same, ha0, ha1, hc, by omega⟩ (SameX.refl p H).upd.upd
end
section
variable {P : Program} {w : World} {K : PySem.W.Frag} {mg : Str → Option Value} {base : Heap} {f : Addr} {fd : FuncData}
/-! ### _law_well -/
abbrev nWell : List Str := ["_law_script", "_law_k", "_law_left", "_law_cell", "_law_digits"]
theorem scWell : FnScope nWell ["_law_script", "_law_k"] (defScope sWell) := ⟨rfl, rfl, rfl, by decide +kernel, rfl, by decide +kernel, by decide +kernel⟩
theorem ok_well (F : Fun K "_law_well" "_law_well" sWell f fd) (T : Txt mg) : FnOk P w K mg base CX0 1 f fd ["_law_script", "_law_k"] (spWell K) := by
  refine F.ok scWell (fun vs H Q E h => ?_) (fun cdv A outer s H vs Q E hr h => ?_)
  · obtain ⟨a, ns, k, rfl, _⟩ := h
    rfl
  obtain ⟨a, ns, k, rfl, hS, hn, k0, k1, q⟩ := h
  have nd := scWell.nd
  refine ⟨_, pss_cons (ps_set (i := 2) nd rfl (Or.inl rfl) (pe_ix ix_list (pe_lst (pa_cons pe_int (pa_cons pe_int pa_nil))) (pe_callTy call_int1 rfl T.int tb_int (pa_cons (pe_cmpR op_eq (pv 1) pe_int (nomark _)) pa_nil)) (fun _ _ => rfl)))
    (pss_cons (ps_set (i := 3) nd rfl (Or.inl rfl) (pe_ix ix_list (pe_op op_cat (pe_callTy call_list_of rfl T.list tb_list (pa_cons (pv 0) pa_nil)) (pe_lst (pa_cons pe_int pa_nil))) (pe_op op_mod (pv 1) (pe_callB (call_max2 rfl) rfl T.max tb_max (pa_cons pe_int (pa_cons (pe_callB call_len_seq rfl T.len tb_len (pa_cons (pv 0) pa_nil)) pa_nil)))) (fun _ _ => rfl)))
    (pss_cons (ps_set (i := 4) nd rfl (Or.inl rfl) (pe_op op_mul (pe_callB call_abs rfl T.abs tb_abs (pa_cons (pv 3) pa_nil)) (pe_callTy call_int1 rfl T.int tb_int (pa_cons (pe_and (pe_cmpR op_ge (pe_callB call_abs rfl T.abs tb_abs (pa_cons (pv 3) pa_nil)) (pe_op op_pow pe_int pe_int) (nomark _)) (pe_one (pe_cmpR op_lt (pv 1) (pe_callB call_len_seq rfl T.len tb_len (pa_cons (pv 0) pa_nil)) (nomark _)))) pa_nil))))
    (pss_one (ps_ret (pe_lst (pa_cons (pe_op op_mod (pv 3) pe_int) (pa_cons (pe_op op_mul pe_int (pv 1)) (pa_cons (pv 4) (pa_cons (pv 2) pa_nil))))))))), ?_⟩
  refine ⟨(by show 2 ≤ sizeLine; decide), fun l1 hl1 => ?_⟩
  have g1 := same_new hl1 (.lst [V.int 240, V.int 2400])
  refine ⟨_, rfl, rfl, .inr ⟨_, rfl, ?_⟩⟩
  obtain ⟨lv, elv, hlv⟩ : ∃ z : Int, atI [V.int 240, V.int 2400] (if decide (V.int k = V.int 0) = true then 1 else 0) = some (.int z) ∧ 0 ≤ z := by
    split
    · exact ⟨2400, rfl, by decide⟩
    · exact ⟨240, rfl, by decide⟩
  refine ⟨l1, _, _, _, rfl, rfl, SqL.of upd_same, elv, ?_⟩
  refine ⟨_, rfl, a, _, rfl, .inl (g1.seq hS), fun l2 hl2 => ?_⟩
  have g2 := g1.trans (same_new hl2 (.lst (ns.map V.int)))
  refine ⟨(by show 1 ≤ sizeLine; decide), fun l3 hl3 => ?_⟩
  have g3 := g2.trans (same_new hl3 (.lst [V.int 0]))
  have n23 : l2 ≠ l3 := ne_of_none upd_same hl3
  refine ⟨l2, l3, _, _, rfl, rfl, (by rw [upd_ne n23]; exact upd_same), upd_same, (by rw [List.length_map]; exact nn (by show ns.length + 1 ≤ 1000; omega)), fun l4 hl4 => ?_⟩
  have g4 := g3.trans (same_new hl4 (.lst (ns.map V.int ++ [V.int 0])))
  refine ⟨_, rfl, _, rfl, a, _, rfl, .inl (g4.seq hS), _, _, rfl, ?_⟩
  have hlm : (ns.map V.int).length = ns.length := List.length_map _
  generalize hM : (if (((ns.map V.int).length : Nat) : Int) > 1 then (((ns.map V.int).length : Nat) : Int) else 1) = M
  have M1 : 1 ≤ M ∧ M ≤ (ns.length : Int) + 1 := by
    rw [hlm] at hM
    rw [← hM]
    split <;> omega
  refine ⟨_, _, rfl, rfl, by omega, ?_⟩
  have i0 : 0 ≤ k % M := Int.emod_nonneg _ (by omega)
  have i1 : k % M < M := Int.emod_lt_of_pos _ (by omega)
  obtain ⟨cv, ecv, mcv⟩ := atI_in (xs := ns.map V.int ++ [V.int 0]) i0 (by rw [List.length_append, List.length_map, List.length_singleton]; omega)
  obtain ⟨cell, rfl⟩ : ∃ z : Int, cv = .int z := by
    rcases List.mem_append.mp mcv with m | m
    · obtain ⟨z, _, e⟩ := List.mem_map.mp m
      exact ⟨z, e.symm⟩
    · exact ⟨0, List.mem_singleton.mp m⟩
  refine ⟨l4, _, _, _, rfl, rfl, SqL.of upd_same, ecv, ?_⟩
  -- digits
  have dig : ∀ b : Bool, 0 ≤ (if cell < 0 then -cell else cell) * (if b = true then 1 else 0) := fun b => by
    cases b
    · simp
    · simp; split <;> omega
  have cm : ∀ (x : Int) (b : Bool), CMul x (if b = true then 1 else 0) := fun x b => .inr (by cases b <;> exact ⟨by decide, by decide⟩)
  have done : ∀ (z : Int) (H5 : Hp), 0 ≤ z → Same H H5 → ∀ l5, H5 l5 = none → Q (.ref l5) (upd H5 l5 (.lst [.int (cell % 2147483647), .int (1000 * k), .int z, .int lv])) := fun z H5 z0 s5 l5 hl5 =>
    q l5 _ (s5.free hl5) (s5.trans (same_new hl5 _)) ⟨_, _, _, _, upd_same, Int.emod_nonneg _ (by decide), Int.emod_lt_of_pos _ (by decide), z0, hlv⟩
  refine ⟨_, rfl, _, rfl, _, rfl, _, rfl, _, _, rfl, rfl, ⟨by decide, by decide, by decide⟩, _, _, rfl, rfl, _, rfl, ?_⟩
  refine ite2 (fun _ => ?_) (fun _ => ?_)
  · refine ⟨_, rfl, _, rfl, a, _, rfl, .inl (g4.seq hS), _, _, rfl, rfl, .inr ⟨_, rfl, _, _, rfl, rfl, cm _ _, ?_⟩⟩
    refine ⟨_, rfl, _, _, rfl, rfl, (by show (0 : Int) < 2147483647; decide), _, rfl, _, _, rfl, rfl, .inl ⟨by decide, by decide⟩, _, rfl, _, rfl, (by show 4 ≤ sizeLine; decide), fun l5 hl5 => ?_⟩
    exact done _ _ (dig _) g4 l5 hl5
  · refine .inr ⟨_, rfl, _, _, rfl, rfl, cm _ false, ?_⟩
    refine ⟨_, rfl, _, _, rfl, rfl, (by show (0 : Int) < 2147483647; decide), _, rfl, _, _, rfl, rfl, .inl ⟨by decide, by decide⟩, _, rfl, _, rfl, (by show 4 ≤ sizeLine; decide), fun l5 hl5 => ?_⟩
    exact done _ _ (dig false) g4 l5 hl5

end
/-- a def as the top has laid it -/
structure Laid (K : PySem.W.Frag) (mg : Str → Option Value) (x : Str) (st : Stmt) (ps : List Str) : Prop where
  ex : ∃ f fd, Fun K x x st f fd ∧ Binds K fd ps [] ∧ mg x = some (.ref f)
theorem Laid.of {P : Program} {w : World} {K : PySem.W.Frag} {mg : Str → Option Value} {base : Heap} {x : Str} {st : Stmt} {ps : List Str} {k : Nat} {sp : Sp} (L : Laid K mg x st ps) (h : ∀ f fd, Fun K x x st f fd → FnOk P w K mg base CX0 k f fd ps sp) : DefOk P w K mg base k x ps sp := by
  obtain ⟨f, fd, F, b, m⟩ := L.ex
  exact ⟨f, fd, h f fd F, b, F.kp, m⟩
theorem laid_mk {K : PySem.W.Frag} {h : Heap} {mg : Str → Option Value} {x : Str} {st : Stmt} {ps : List Str} {f : Addr} {od an : Option Addr} {sl : Array (Option Value)} {oc kV dc pm cd ct : Value} (X : K.In h) (G : h.Ns mainGlobals mg)
    (a : PySem.W.nsIn K mainGlobals x = some (some (.ref f))) (l : K.lookup f = some ⟨oc, od, .func (PySem.W.fnOf x x (defArgs st) (defBody st) (defScope st) .none kV dc pm an cd ct), sl⟩) (c : PySem.W.codeIn K cd x = true) (k : PySem.W.keepIn K (.ref f) = true)
    (hb : ∀ (kV doc pm : Value) (an : Option Addr) (cdv ct : Value) (us : List Value), us.length = ps.length → bindArgs (PySem.W.fnOf x x (defArgs st) (defBody st) (defScope st) .none kV doc pm an cdv ct) ⟨us, []⟩ = pure (ps.zip us)) : Laid K mg x st ps :=
  ⟨f, _, fun_mk (st := st) l c k, (fun_mk (st := st) l c k).binds hb, PySem.W.mg_of X G a⟩
end Tw
/-! The numbers that a number comes from: pure. -/
set_option Elab.async false
set_option linter.all false
namespace Tw
inductive Rch (e : Int → List Int) (n : Int) : Int → Prop
  | refl : Rch e n n
  | step {m k : Int} : Rch e n m → k ∈ e m → Rch e n k
structure Elds (ks : List Int) (e : Int → List Int) : Prop where
  nd : ks.Nodup
  cl : ∀ n ∈ ks, ∀ m ∈ e n, m ∈ ks
  sm : ∀ n ∈ ks, (e n).length ≤ 3
  lt : ∀ n ∈ ks, ∀ m ∈ e n, m < n
def IsR (P : Int → Prop) (ns : List Int) : Prop := ns.Pairwise (· < ·) ∧ ∀ x, x ∈ ns ↔ P x
theorem IsR.uniq : ∀ {P : Int → Prop} {a b : List Int}, IsR P a → IsR P b → a = b := by
  intro P a
  induction a generalizing P with
  | nil =>
    intro b h1 h2
    cases b with
    | nil => rfl
    | cons y b => exact absurd ((h1.2 y).mpr ((h2.2 y).mp List.mem_cons_self)) (by simp)
  | cons x a ih =>
    intro b h1 h2
    cases b with
    | nil => exact absurd ((h2.2 x).mpr ((h1.2 x).mp List.mem_cons_self)) (by simp)
    | cons y b =>
      have p1 := List.pairwise_cons.mp h1.1
      have p2 := List.pairwise_cons.mp h2.1
      have xb : x ∈ y :: b := (h2.2 x).mpr ((h1.2 x).mp List.mem_cons_self)
      have ya : y ∈ x :: a := (h1.2 y).mpr ((h2.2 y).mp List.mem_cons_self)
      have exy : x = y := by
        rcases List.mem_cons.mp xb with e | e
        · exact e
        · rcases List.mem_cons.mp ya with e2 | e2
          · exact e2.symm
          · have := p2.1 x e
            have := p1.1 y e2
            omega
      subst exy
      have : a = b := ih (P := fun z => P z ∧ z ≠ x) ⟨p1.2, fun z => ⟨fun hz => ⟨(h1.2 z).mp (List.mem_cons_of_mem _ hz), fun e => by have := p1.1 z hz; omega⟩, fun ⟨hz, hne⟩ => by
        rcases List.mem_cons.mp ((h1.2 z).mpr hz) with e | e
        · exact absurd e hne
        · exact e⟩⟩ ⟨p2.2, fun z => ⟨fun hz => ⟨(h2.2 z).mp (List.mem_cons_of_mem _ hz), fun e => by have := p2.1 z hz; omega⟩, fun ⟨hz, hne⟩ => by
        rcases List.mem_cons.mp ((h2.2 z).mpr hz) with e | e
        · exact absurd e hne
        · exact e⟩⟩
      rw [this]
theorem IsR.filter {P R : Int → Prop} {a b : List Int} (h1 : IsR P a) (h2 : IsR R b) : IsR (fun x => P x ∧ R x) (a.filter fun x => decide (x ∈ b)) :=
  ⟨h1.1.filter _, fun x => by rw [List.mem_filter, h1.2 x, decide_eq_true_iff, h2.2 x]⟩
theorem pw_lt : ∀ {ns : List Int}, ns.Pairwise (· ≤ ·) → ns.Nodup → ns.Pairwise (· < ·)
  | [], _, _ => .nil
  | n :: ns, h, d => by
    have h' := List.pairwise_cons.mp h
    have d' := List.nodup_cons.mp d
    exact List.pairwise_cons.mpr ⟨fun m hm => by
      have := h'.1 m hm
      have : n ≠ m := fun e => d'.1 (e ▸ hm)
      omega, pw_lt h'.2 d'.2⟩
theorem nodup_len : ∀ {ns ks : List Int}, ns.Nodup → (∀ x ∈ ns, x ∈ ks) → ns.length ≤ ks.length
  | [], _, _, _ => Nat.zero_le _
  | n :: ns, ks, h, s => by
    have h' := List.nodup_cons.mp h
    have hn : n ∈ ks := s n List.mem_cons_self
    have ih := nodup_len (ks := ks.erase n) h'.2 fun x hx => (List.mem_erase_of_ne (show x ≠ n from fun z => h'.1 (by rw [← z]; exact hx))).mpr (s x (List.mem_cons_of_mem _ hx))
    rw [List.length_erase_of_mem hn] at ih
    have := List.length_pos_of_mem hn
    rw [List.length_cons]
    omega
theorem isr_nodup {P : Int → Prop} {ns : List Int} (h : IsR P ns) : ns.Nodup := h.1.imp fun h e => by omega
theorem isr_len {P : Int → Prop} {ns ks : List Int} (h : IsR P ns) (s : ∀ x, P x → x ∈ ks) : ns.length ≤ ks.length := nodup_len (isr_nodup h) fun x hx => s x ((h.2 x).mp hx)
/-- those that are not found yet -/
def left (ks found : List Int) : Nat := (ks.filter fun k => !decide (k ∈ found)).length
theorem filter_lt {p q : Int → Bool} (h : ∀ x, q x = true → p x = true) : ∀ {ks : List Int} {x : Int}, x ∈ ks → p x = true → q x = false → (ks.filter q).length + 1 ≤ (ks.filter p).length
  | k :: ks, x, hx, hp, hq => by
    have le : ∀ (l : List Int), (l.filter q).length ≤ (l.filter p).length := fun l => by
      induction l with
      | nil => exact Nat.le_refl _
      | cons y l ih =>
        rw [List.filter_cons, List.filter_cons]
        cases hy : q y with
        | true => rw [h y hy, if_pos rfl, if_pos rfl, List.length_cons, List.length_cons]; omega
        | false =>
          rw [if_neg Bool.false_ne_true]
          split
          · rw [List.length_cons]; omega
          · exact ih
    rcases List.mem_cons.mp hx with e | e
    · subst e
      rw [List.filter_cons, List.filter_cons, hp, hq, if_pos rfl, if_neg Bool.false_ne_true, List.length_cons]
      have := le ks
      omega
    · have ih := filter_lt h e hp hq
      rw [List.filter_cons, List.filter_cons]
      cases hy : q k with
      | true => rw [h k hy, if_pos rfl, if_pos rfl, List.length_cons, List.length_cons]; omega
      | false =>
        rw [if_neg Bool.false_ne_true]
        split
        · rw [List.length_cons]; omega
        · exact ih
theorem left_step {ks found : List Int} {x : Int} (hx : x ∈ ks) (hn : x ∉ found) : left ks (found ++ [x]) + 1 ≤ left ks found :=
  filter_lt (fun y h => by
    simp only [List.mem_append, List.mem_singleton, not_or, Bool.not_eq_true', decide_eq_false_iff_not] at h ⊢
    exact h.1) hx (by simp [hn]) (by simp)
theorem left_nil (ks : List Int) : left ks [] = ks.length := by
  unfold left
  rw [List.filter_eq_self.mpr (fun _ _ => by simp)]
structure RInv (ks : List Int) (e : Int → List Int) (n : Int) (found wait : List Int) : Prop where
  nd : found.Nodup
  fr : ∀ x ∈ found, Rch e n x
  wr : ∀ x ∈ wait, Rch e n x
  here : n ∈ found ∨ n ∈ wait
  cl : ∀ x ∈ found, ∀ y ∈ e x, y ∈ found ∨ y ∈ wait
  l1 : found.length + left ks found ≤ ks.length
  l2 : wait.length + 4 * left ks found ≤ 4 * ks.length + 1
theorem rch_in {ks : List Int} {e : Int → List Int} {n x : Int} (E : Elds ks e) (hn : n ∈ ks) (h : Rch e n x) : x ∈ ks := by
  induction h with
  | refl => exact hn
  | step _ hk ih => exact E.cl _ ih _ hk
theorem rch_le {ks : List Int} {e : Int → List Int} {n x : Int} (E : Elds ks e) (hn : n ∈ ks) (h : Rch e n x) : x ≤ n := by
  induction h with
  | refl => exact Int.le_refl _
  | step h1 hk ih =>
    have := E.lt _ (rch_in E hn h1) _ hk
    omega
theorem Rch.trans {e : Int → List Int} {a b c : Int} (h : Rch e a b) (h2 : Rch e b c) : Rch e a c := by
  induction h2 with
  | refl => exact h
  | step _ hk ih => exact .step ih hk
theorem RInv.start {ks : List Int} {e : Int → List Int} {n : Int} : RInv ks e n [] [n] :=
  ⟨List.nodup_nil, fun _ h => by simp at h, fun x h => by rw [List.mem_singleton.mp h]; exact .refl, .inr (by simp), fun _ h => by simp at h, by rw [left_nil]; simp, by rw [left_nil]; simp; omega⟩
theorem mem_pop {wait : List Int} {x y : Int} (h : wait[wait.length - 1]? = some x) : y ∈ wait ↔ y ∈ wait.dropLast ∨ y = x := by
  have hne : wait ≠ [] := fun z => by rw [z] at h; simp at h
  have e : wait = wait.dropLast ++ [x] := by
    have := List.dropLast_concat_getLast hne
    rw [List.getLast_eq_getElem] at this
    rw [List.getElem?_eq_getElem (by have := List.length_pos_iff.mpr hne; omega)] at h
    rw [← Option.some.inj h]
    exact this.symm
  constructor
  · intro hy
    rw [e, List.mem_append, List.mem_singleton] at hy
    exact hy
  · intro hy
    rw [e, List.mem_append, List.mem_singleton]
    exact hy
/-- the one that comes was found before -/
theorem RInv.old {ks : List Int} {e : Int → List Int} {n x : Int} {found wait : List Int} (h : RInv ks e n found wait) (hx : wait[wait.length - 1]? = some x) (hf : x ∈ found) : RInv ks e n found wait.dropLast :=
  ⟨h.nd, h.fr, fun y hy => h.wr y ((mem_pop hx).mpr (.inl hy)), h.here.imp id (fun z => z) |>.elim .inl (fun z => ((mem_pop hx).mp z).elim .inr fun ex => .inl (ex ▸ hf)),
    fun y hy z hz => (h.cl y hy z hz).elim .inl (fun w => ((mem_pop hx).mp w).elim .inr fun ex => .inl (ex ▸ hf)), h.l1, by have := h.l2; rw [List.length_dropLast]; omega⟩
/-- it is new -/
theorem RInv.new {ks : List Int} {e : Int → List Int} {n x : Int} {found wait : List Int} (E : Elds ks e) (hn : n ∈ ks) (h : RInv ks e n found wait) (hx : wait[wait.length - 1]? = some x) (hf : x ∉ found) : RInv ks e n (found ++ [x]) (wait.dropLast ++ e x) := by
  have xw : x ∈ wait := (mem_pop hx).mpr (.inr rfl)
  have xr := h.wr x xw
  have xk := rch_in E hn xr
  have hw : 0 < wait.length := List.length_pos_of_mem xw
  have ls := left_step xk hf
  have sm := E.sm x xk
  refine ⟨?_, ?_, ?_, ?_, ?_, ?_, ?_⟩
  · rw [List.nodup_append]
    exact ⟨h.nd, by simp, fun a ha b hb => by rw [List.mem_singleton.mp hb]; exact fun z => hf (z ▸ ha)⟩
  · intro y hy
    rcases List.mem_append.mp hy with hy | hy
    · exact h.fr y hy
    · rw [List.mem_singleton.mp hy]; exact xr
  · intro y hy
    rcases List.mem_append.mp hy with hy | hy
    · exact h.wr y ((mem_pop hx).mpr (.inl hy))
    · exact .step xr hy
  · rcases h.here with z | z
    · exact .inl (List.mem_append_left _ z)
    · rcases (mem_pop hx).mp z with z | z
      · exact .inr (List.mem_append_left _ z)
      · exact .inl (List.mem_append_right _ (by simp [z]))
  · intro y hy z hz
    rcases List.mem_append.mp hy with hy | hy
    · rcases h.cl y hy z hz with w | w
      · exact .inl (List.mem_append_left _ w)
      · rcases (mem_pop hx).mp w with w | w
        · exact .inr (List.mem_append_left _ w)
        · exact .inl (List.mem_append_right _ (by simp [w]))
    · rw [List.mem_singleton.mp hy] at hz
      exact .inr (List.mem_append_right _ hz)
  · have := h.l1
    rw [List.length_append, List.length_singleton]
    omega
  · have := h.l2
    rw [List.length_append, List.length_dropLast]
    omega
theorem RInv.done {ks : List Int} {e : Int → List Int} {n : Int} {found ns : List Int} (h : RInv ks e n found []) (hp : ns.Perm found) (hs : ns.Pairwise (· ≤ ·)) : IsR (Rch e n) ns := by
  refine ⟨pw_lt hs (hp.nodup_iff.mpr h.nd), fun x => ?_⟩
  rw [hp.mem_iff]
  refine ⟨h.fr x, fun r => ?_⟩
  induction r with
  | refl => exact h.here.elim id fun z => by simp at z
  | step _ hk ih => exact (h.cl _ ih _ hk).elim id fun z => by simp at z
/-- what a step costs -/
def RMu (ks found wait : List Int) : Nat := wait.length + 4 * left ks found
theorem mu_old {ks found wait : List Int} (h : 0 < wait.length) : RMu ks found wait.dropLast < RMu ks found wait := by
  unfold RMu
  rw [List.length_dropLast]
  omega
theorem mu_new {ks : List Int} {e : Int → List Int} {found wait : List Int} {x : Int} (sm : (e x).length ≤ 3) (hw : 0 < wait.length) (xk : x ∈ ks) (hf : x ∉ found) : RMu ks (found ++ [x]) (wait.dropLast ++ e x) < RMu ks found wait := by
  unfold RMu
  have := left_step xk hf
  rw [List.length_append, List.length_dropLast]
  omega
end Tw
/-! reach as the program does it: what is found is put into a dict, and waits once. Pure. -/
set_option Elab.async false
set_option linter.all false
namespace Tw
structure WI (ks : List Int) (e : Int → List Int) (n : Int) (found wait : List Int) : Prop where
  nd : found.Nodup
  fr : ∀ x ∈ found, Rch e n x
  wf : ∀ x ∈ wait, x ∈ found
  here : n ∈ found
  cl : ∀ x ∈ found, x ∈ wait ∨ ∀ y ∈ e x, y ∈ found
  l1 : found.length + left ks found ≤ ks.length
  l2 : wait.length + left ks found ≤ ks.length
structure FI (ks : List Int) (e : Int → List Int) (n : Int) (M : Nat) (x : Int) (i : Nat) (found wait : List Int) : Prop where
  nd : found.Nodup
  fr : ∀ z ∈ found, Rch e n z
  wf : ∀ z ∈ wait, z ∈ found
  here : n ∈ found
  xf : x ∈ found
  cl : ∀ z ∈ found, z ∈ wait ∨ z = x ∨ ∀ y ∈ e z, y ∈ found
  sn : ∀ (j : Nat) y, j < i → (e x)[j]? = some y → y ∈ found
  l1 : found.length + left ks found ≤ ks.length
  l2 : wait.length + left ks found ≤ ks.length
  l3 : wait.length + left ks found + 1 ≤ M
theorem WI.start {ks : List Int} {e : Int → List Int} {n : Int} (hn : n ∈ ks) : WI ks e n [n] [n] := by
  have := left_step (found := []) hn (by simp)
  rw [left_nil, List.nil_append] at this
  exact ⟨by simp, fun x h => by rw [List.mem_singleton.mp h]; exact .refl, fun x h => h, by simp, fun x h => .inl h, by simp; omega, by simp; omega⟩
theorem FI.start {ks : List Int} {e : Int → List Int} {n x : Int} {found wait : List Int} (h : WI ks e n found wait) (hx : wait[wait.length - 1]? = some x) : FI ks e n (wait.length + left ks found) x 0 found wait.dropLast := by
  have xw : x ∈ wait := (mem_pop hx).mpr (.inr rfl)
  have hw : 0 < wait.length := List.length_pos_of_mem xw
  have l2 := h.l2
  exact ⟨h.nd, h.fr, fun z hz => h.wf z ((mem_pop hx).mpr (.inl hz)), h.here, h.wf x xw, fun z hz => (h.cl z hz).elim (fun q => ((mem_pop hx).mp q).elim .inl fun r => .inr (.inl r)) fun q => .inr (.inr q),
    fun j y hj => absurd hj (Nat.not_lt_zero _), h.l1, by rw [List.length_dropLast]; omega, by rw [List.length_dropLast]; omega⟩
theorem FI.old {ks : List Int} {e : Int → List Int} {n x y : Int} {M i : Nat} {found wait : List Int} (h : FI ks e n M x i found wait) (hy : (e x)[i]? = some y) (hf : y ∈ found) : FI ks e n M x (i + 1) found wait :=
  ⟨h.nd, h.fr, h.wf, h.here, h.xf, h.cl, fun j z hj ez => by
    rcases Nat.lt_or_eq_of_le (Nat.le_of_lt_succ hj) with q | q
    · exact h.sn j z q ez
    · subst q; rw [hy] at ez; cases ez; exact hf, h.l1, h.l2, h.l3⟩
theorem FI.new {ks : List Int} {e : Int → List Int} {n x y : Int} {M i : Nat} {found wait : List Int} (E : Elds ks e) (hn : n ∈ ks) (h : FI ks e n M x i found wait) (hy : (e x)[i]? = some y) (hf : y ∉ found) : FI ks e n M x (i + 1) (found ++ [y]) (wait ++ [y]) := by
  have yr : Rch e n y := .step (h.fr x h.xf) (List.mem_of_getElem? hy)
  have ls := left_step (rch_in E hn yr) hf
  have l1 := h.l1
  have l2 := h.l2
  have l3 := h.l3
  have up : ∀ z, z ∈ found → z ∈ found ++ [y] := fun z hz => List.mem_append_left _ hz
  have yy : y ∈ found ++ [y] := List.mem_append_right _ (by simp)
  refine ⟨?_, ?_, ?_, up _ h.here, up _ h.xf, ?_, ?_, by rw [List.length_append, List.length_singleton]; omega, by rw [List.length_append, List.length_singleton]; omega, by rw [List.length_append, List.length_singleton]; omega⟩
  · rw [List.nodup_append]
    exact ⟨h.nd, by simp, fun a ha b hb => by rw [List.mem_singleton.mp hb]; exact fun z => hf (z ▸ ha)⟩
  · intro z hz
    rcases List.mem_append.mp hz with q | q
    · exact h.fr z q
    · rw [List.mem_singleton.mp q]; exact yr
  · intro z hz
    rcases List.mem_append.mp hz with q | q
    · exact up _ (h.wf z q)
    · rw [List.mem_singleton.mp q]; exact yy
  · intro z hz
    rcases List.mem_append.mp hz with q | q
    · rcases h.cl z q with c | c | c
      · exact .inl (List.mem_append_left _ c)
      · exact .inr (.inl c)
      · exact .inr (.inr fun u hu => up _ (c u hu))
    · exact .inl (List.mem_append_right _ q)
  · intro j z hj ez
    rcases Nat.lt_or_eq_of_le (Nat.le_of_lt_succ hj) with q | q
    · exact up _ (h.sn j z q ez)
    · subst q; rw [hy] at ez; cases ez; exact yy
theorem FI.fin {ks : List Int} {e : Int → List Int} {n x : Int} {M : Nat} {found wait : List Int} (h : FI ks e n M x (e x).length found wait) : WI ks e n found wait := by
  refine ⟨h.nd, h.fr, h.wf, h.here, fun z hz => ?_, h.l1, h.l2⟩
  rcases h.cl z hz with q | q | q
  · exact .inl q
  · subst q
    refine .inr fun y hy => ?_
    obtain ⟨j, hj, ej⟩ := List.mem_iff_getElem.mp hy
    exact h.sn j y hj (by rw [List.getElem?_eq_getElem hj, ej])
  · exact .inr q
theorem WI.done {ks : List Int} {e : Int → List Int} {n : Int} {found ns : List Int} (h : WI ks e n found []) (hp : ns.Perm found) (hs : ns.Pairwise (· ≤ ·)) : IsR (Rch e n) ns := by
  refine ⟨pw_lt hs (hp.nodup_iff.mpr h.nd), fun x => ?_⟩
  rw [hp.mem_iff]
  refine ⟨h.fr x, fun r => ?_⟩
  induction r with
  | refl => exact h.here
  | step _ hk ih => exact (h.cl _ ih).elim (fun z => by simp at z) fun q => q _ hk
end Tw
set_option Elab.async false
set_option linter.all false
set_option maxRecDepth 100000
set_option maxHeartbeats 4000000
namespace L2
open PySem PySem.Spec PyProof.Rows
section
variable {X : Cx}
/-- xs != [] -/
theorem tw_neNil (hu : X.A.units < cLine) : OpR X (compareOp .NotEq) (fun x y H Q => ∃ p b xs, x = .ref p ∧ y = .ref b ∧ SqL X.K H p xs ∧ SqL X.K H b [] ∧ Q (.bl (!xs.isEmpty)) H) := by
  intro pins s σ H x y v u Q I rx ry h
  obtain ⟨p, b, xs, rfl, rfl, h1, h2, q⟩ := h
  cases rx
  cases ry
  obtain ⟨its, r1, p1, z1⟩ := I.list h1
  obtain ⟨its2, r2, p2, z2⟩ := I.list h2
  have l1 := r1.length
  have l2 := r2.length
  have e2 : its2 = [] := List.eq_nil_of_length_eq_zero (by rw [← l2]; rfl)
  subst e2
  cases xs with
  | nil =>
    have e1 : its = [] := List.eq_nil_of_length_eq_zero (by rw [← l1]; rfl)
    subst e1
    exact PySem.SeqAt.RcNeAt.lists (e := fun _ => true) p1.isList p2.isList rfl hu (fun j h1 _ => absurd h1 (by simp)) X.prog X.w X.xe _ (fin_bl I q (by simp))
  | cons x r => exact PySem.SeqAt.RcNeAt.lists_lengths p1.isList p2.isList (by simp; intro e; subst e; simp at l1) hu X.prog X.w X.xe _ (fin_bl I q rfl)
end
end L2
set_option Elab.async false
set_option linter.all false
set_option maxRecDepth 100000
set_option maxHeartbeats 4000000
namespace L2
open PySem
/-! ### the table of a set: its places rise -/
def Rsg (xs : Array Nat) : Prop := ∀ i k x y : Nat, i < k → xs[i]? = some x → xs[k]? = some y → x < y
theorem rsg_iff {xs : Array Nat} : Rsg xs ↔ xs.toList.Pairwise (· < ·) := by
  rw [List.pairwise_iff_getElem]
  constructor
  · intro h i k hi hk l
    exact h i k _ _ l (by rw [← Array.getElem?_toList]; exact List.getElem?_eq_getElem hi) (by rw [← Array.getElem?_toList]; exact List.getElem?_eq_getElem hk)
  · intro h i k x y l ex ey
    rw [← Array.getElem?_toList] at ex ey
    obtain ⟨hi, rfl⟩ := List.getElem?_eq_some_iff.mp ex
    obtain ⟨hk, rfl⟩ := List.getElem?_eq_some_iff.mp ey
    exact h i k hi hk l
theorem below_go {xs : Array Nat} {j : Nat} (hr : Rsg xs) : ∀ (f lo hi : Nat), hi - lo ≤ f → lo ≤ hi → hi ≤ xs.size → (∀ i x, i < lo → xs[i]? = some x → x < j) → (∀ i x, hi ≤ i → xs[i]? = some x → j ≤ x) →
    SetTable.below.go xs j f lo hi ≤ xs.size ∧ (∀ i x, i < SetTable.below.go xs j f lo hi → xs[i]? = some x → x < j) ∧ ∀ i x, SetTable.below.go xs j f lo hi ≤ i → xs[i]? = some x → j ≤ x
  | 0, lo, hi, h1, h2, h3, a, b => by
    have e : hi = lo := by omega
    subst e
    exact ⟨h3, a, b⟩
  | f + 1, lo, hi, h1, h2, h3, a, b => by
    unfold SetTable.below.go
    by_cases h : lo < hi
    · rw [if_pos h]
      have hm : (lo + hi) / 2 < xs.size := by omega
      have em : xs[(lo + hi) / 2]? = some xs[(lo + hi) / 2] := Array.getElem?_eq_getElem hm
      have eg : xs.getD ((lo + hi) / 2) j = xs[(lo + hi) / 2] := by simp [hm]
      dsimp only
      rw [eg]
      by_cases q : xs[(lo + hi) / 2] < j
      · rw [if_pos q]
        refine below_go hr f _ _ (by omega) (by omega) h3 (fun i x hi ex => ?_) b
        rcases Nat.lt_or_eq_of_le (Nat.le_of_lt_succ hi) with z | z
        · exact Nat.lt_trans (hr _ _ _ _ z ex em) q
        · subst z; rw [em] at ex; cases ex; exact q
      · rw [if_neg q]
        refine below_go hr f _ _ (by omega) (by omega) (by omega) a (fun i x hi ex => ?_)
        rcases Nat.lt_or_eq_of_le hi with z | z
        · have := hr _ _ _ _ z em ex; omega
        · subst z; rw [em] at ex; cases ex; omega
    · rw [if_neg h]
      have e : hi = lo := by omega
      subst e
      exact ⟨h3, a, b⟩
theorem below_is {xs : Array Nat} (hr : Rsg xs) (j : Nat) : SetTable.below xs j ≤ xs.size ∧ (∀ i x, i < SetTable.below xs j → xs[i]? = some x → x < j) ∧ ∀ i x, SetTable.below xs j ≤ i → xs[i]? = some x → j ≤ x :=
  below_go hr _ _ _ (by omega) (Nat.zero_le _) (Nat.le_refl _) (fun i x h _ => absurd h (Nat.not_lt_zero _)) (fun i x h e => by rw [Array.getElem?_eq_none h] at e; cases e)
theorem below_next {xs : Array Nat} (hr : Rsg xs) {i x : Nat} (e : xs[i]? = some x) : SetTable.below xs (x + 1) = i + 1 := by
  obtain ⟨a, b, c⟩ := below_is hr (x + 1)
  have hi : i < xs.size := by obtain ⟨h, _⟩ := Array.getElem?_eq_some_iff.mp e; exact h
  have h1 : i < SetTable.below xs (x + 1) := Nat.lt_of_not_le fun z => by have := c i x z e; omega
  rcases Nat.lt_or_ge (i + 1) (SetTable.below xs (x + 1)) with z | z
  · have h2 : i + 1 < xs.size := by omega
    have := b (i + 1) _ z (Array.getElem?_eq_getElem h2)
    have := hr i (i + 1) _ _ (Nat.lt_succ_self _) e (Array.getElem?_eq_getElem h2)
    omega
  · omega
theorem below_zero {xs : Array Nat} (hr : Rsg xs) : SetTable.below xs 0 = 0 := by
  obtain ⟨a, b, c⟩ := below_is hr 0
  rcases Nat.eq_zero_or_pos (SetTable.below xs 0) with z | z
  · exact z
  · have h2 : 0 < xs.size := by omega
    have := b 0 _ z (Array.getElem?_eq_getElem h2)
    omega
theorem below_mem {xs : Array Nat} (hr : Rsg xs) {i x : Nat} (e : xs[i]? = some x) : SetTable.below xs x = i := by
  obtain ⟨a, b, c⟩ := below_is hr x
  rcases Nat.lt_trichotomy (SetTable.below xs x) i with z | z | z
  · have hi : i < xs.size := by obtain ⟨h, _⟩ := Array.getElem?_eq_some_iff.mp e; exact h
    have h2 : SetTable.below xs x < xs.size := by omega
    have := c _ _ (Nat.le_refl _) (Array.getElem?_eq_getElem h2)
    have := hr _ _ _ _ z (Array.getElem?_eq_getElem h2) e
    omega
  · exact z
  · have := b i x z e
    omega
theorem rsg_put {t : SetTable} {j : Nat} (hr : Rsg t.place) (hn : ∀ i : Nat, t.place[i]? ≠ some j) : Rsg (t.put j).1.place := by
  obtain ⟨a, b, c⟩ := below_is hr j
  have hr' := rsg_iff.mp hr
  rw [rsg_iff]
  show (SetTable.insertAt t.place (SetTable.below t.place j) j).toList.Pairwise (· < ·)
  rw [SetTable.toList_insertAt]
  generalize SetTable.below t.place j = p at a b c
  have h1 : ∀ x ∈ t.place.toList.take p, x < j := fun x hx => by
    obtain ⟨i, e⟩ := List.mem_iff_getElem?.mp hx
    rw [List.getElem?_take] at e
    split at e
    · rename_i hi
      exact b i x hi (by rw [← Array.getElem?_toList]; exact e)
    · cases e
  have h2 : ∀ y ∈ t.place.toList.drop p, j < y := fun y hy => by
    obtain ⟨i, e⟩ := List.mem_iff_getElem?.mp hy
    rw [List.getElem?_drop, Array.getElem?_toList] at e
    have := c _ _ (Nat.le_add_right p i) e
    rcases Nat.lt_or_eq_of_le this with z | z
    · exact z
    · subst z; exact absurd e (hn _)
  refine List.pairwise_append.mpr ⟨hr'.sublist (List.take_sublist _ _), List.pairwise_cons.mpr ⟨h2, hr'.sublist (List.drop_sublist _ _)⟩, fun x hx y hy => ?_⟩
  rcases List.mem_cons.mp hy with rfl | hy
  · exact h1 x hx
  · exact Nat.lt_trans (h1 x hx) (h2 y hy)
theorem adv_dummy (t : SetTable) (p : SetTable.Probe) : (t.advance p).dummy = p.dummy := by
  unfold SetTable.advance
  split <;> rfl
theorem probe_free {t : SetTable} {ha : Nat → Int} {h : Int} : ∀ (f : Nat) (p : SetTable.Probe) (j : Nat) (d : Option Nat), (∀ d, p.dummy = some d → t.slot d = .dummy) → SetTable.probe.go t ha h f p = some (.empty j d) → ∀ i, t.slot (d.getD j) ≠ .live i
  | 0, p, j, d, _, e => by unfold SetTable.probe.go at e; cases e
  | f + 1, p, j, d, hd, e => by
    unfold SetTable.probe.go at e
    cases hs : t.slot p.j with
    | empty =>
      rw [hs] at e
      injection e with e
      injection e with e1 e2
      subst e1 e2
      intro i z
      cases hq : p.dummy with
      | none => rw [hq] at z; rw [Option.getD_none, hs] at z; cases z
      | some q => rw [hq] at z; rw [Option.getD_some, hd q hq] at z; cases z
    | dummy =>
      rw [hs] at e
      exact probe_free f _ j d (fun q hq => by rw [adv_dummy] at hq; injection hq with hq; subst hq; exact hs) e
    | live k =>
      rw [hs] at e
      dsimp only at e
      split at e
      · injection e with e; cases e
      · exact probe_free f _ j d (fun q hq => by rw [adv_dummy] at hq; exact hd q hq) e
theorem free_slot {t : SetTable} {h : Int} {sl : Nat} {b : Bool} (e : t.freeSlot h = some (sl, b)) : ∀ i, t.slot sl ≠ .live i := by
  unfold SetTable.freeSlot at e
  split at e
  · rename_i j d hp
    injection e with e
    injection e with e1 _
    subst e1
    exact probe_free _ _ j d (fun q hq => by cases hq) hp
  · cases e
theorem not_live {t : SetTable} {j : Nat} (hr : Rsg t.place) (h : ∀ i, t.slot j ≠ .live i) : ∀ i : Nat, t.place[i]? ≠ some j := fun i e => by
  refine h i ?_
  unfold SetTable.slot
  rw [below_mem hr e]
  simp [e]
/-- led, or not; the places rise -/
def Led (l : Bool) (t : SetTable) : Prop := t.led = l ∧ Rsg t.place
theorem led_stand {l : Bool} {t : SetTable} (h : Led l t) (n : Nat) : Led l (t.standIn n) := ⟨h.1, fun i k x y hik ex ey => by
  show x < y
  have ex' : (Array.range n)[i]? = some x := ex
  have ey' : (Array.range n)[k]? = some y := ey
  obtain ⟨_, e1⟩ := Array.getElem?_eq_some_iff.mp ex'
  obtain ⟨_, e2⟩ := Array.getElem?_eq_some_iff.mp ey'
  rw [Array.getElem_range] at e1 e2
  omega⟩
theorem led_put {l : Bool} {t : SetTable} {h : Int} {sl : Nat} {b : Bool} (k : Led l t) (e : t.freeSlot h = some (sl, b)) : Led l (t.put sl).1 := ⟨k.1, rsg_put k.2 (not_live k.2 (free_slot e))⟩
theorem led_new {l : Bool} {t : SetTable} (k : Led l t) (es : Array (Int × Value)) (h : Int) (x : Value) : Led l (layNew t es h x).2.1 := by
  unfold layNew
  split
  · rename_i sl b e
    have := led_put k e
    show Led l ((t.put sl).1.orStandIn _)
    unfold SetTable.orStandIn
    split
    · exact this
    · exact led_stand this _
  · exact led_stand k _
theorem led_laid {l : Bool} {mask finger moves : Nat} {plain : Bool} {hs : Array Int} {t : SetTable} {od : Array Nat} (e : SetTable.laid mask finger moves l plain hs = some (t, od)) : Led l t := by
  unfold SetTable.laid at e
  cases hc : SetTable.layClean mask hs with
  | none => rw [hc] at e; cases e
  | some ow =>
    rw [hc] at e
    injection e with e
    injection e with e1 _
    subst e1
    refine ⟨rfl, rsg_iff.mpr ?_⟩
    show (((List.range (mask + 1)).filterMap fun j => (ow.getD j none).map (j, ·)).map (·.1)).Pairwise (· < ·)
    rw [List.pairwise_map, List.pairwise_filterMap]
    refine List.pairwise_lt_range.imp fun {a b} hab p hp q hq => ?_
    obtain ⟨_, _, rfl⟩ := Option.map_eq_some_iff.mp hp
    obtain ⟨_, _, rfl⟩ := Option.map_eq_some_iff.mp hq
    exact hab
theorem led_relay {l : Bool} {t : SetTable} (k : Led l t) (es : Array (Int × Value)) (n : Nat) : Led l (relayAll t es n).2.1 := by
  unfold relayAll
  split
  · rename_i t' od e
    dsimp only
    split
    · have hl : t.led = l := k.1
      unfold SetTable.relaid at e
      rw [hl] at e
      exact led_laid e
    · exact led_stand k _
  · exact led_stand k _
end L2
set_option Elab.async false
set_option linter.all false
set_option maxRecDepth 100000
set_option maxHeartbeats 4000000
namespace L2
open PySem
/-! ### a set of ints, its table led -/
def iv : Value → Int
  | .int i _ => i
  | _ => 0
def byTx (w : World) : Bool := w.params.followText "set-order"
section
variable {prog : Program} {w : World} {A : Around} {E : Value → Shared → Prop} {s : Shared}
structure SetD (prog : Program) (w : World) (es : Array (Int × Value)) (t : SetTable) (ms : List Int) : Prop where
  el : ElemsOf (intKind prog w) es.toList
  pm : (es.toList.map fun e => iv e.2).Perm ms
  sz : es.size < scanBound
  ft : t.fits es.size = true
  ld : Led (!byTx w) t
def SetL (prog : Program) (w : World) (h : Heap) (a : Addr) (ms : List Int) : Prop := ∃ o es ep t, h.get? a = some o ∧ o.ExactSet ∧ o.data = .set es ep t ∧ SetD prog w es t ms
theorem SetD.len {es : Array (Int × Value)} {t : SetTable} {ms : List Int} (h : SetD prog w es t ms) : es.size = ms.length := by
  have := h.pm.length_eq
  simpa using this
theorem el_int {l : List (Int × Value)} (h : ElemsOf (intKind prog w) l) {e : Int × Value} (he : e ∈ l) : ∃ tk, e = (hashInt (iv e.2), .int (iv e.2) tk) := by
  obtain ⟨⟨k, h1, h2⟩, _⟩ := h e he
  obtain ⟨tk, h3⟩ := Value.isInt_shape (show Value.isInt k e.2 = true from h1)
  obtain ⟨a, b⟩ := e
  dsimp only at h2 h3
  subst h3
  exact ⟨tk, by rw [h2]; rfl⟩
theorem SetD.mem {es : Array (Int × Value)} {t : SetTable} {ms : List Int} (h : SetD prog w es t ms) (k : Int) : decide (k ∈ ms) = true ↔ ∃ e ∈ es.toList, (intKind prog w).is k e.2 = true := by
  rw [decide_eq_true_eq, ← h.pm.mem_iff, List.mem_map]
  constructor
  · rintro ⟨e, he, rfl⟩
    obtain ⟨tk, ee⟩ := el_int h.el he
    exact ⟨e, he, by rw [ee]; exact intKind_is _ _ _ _⟩
  · rintro ⟨e, he, hk⟩
    obtain ⟨tk, ee⟩ := Value.isInt_shape (show Value.isInt k e.2 = true from hk)
    exact ⟨e, he, by rw [ee]; rfl⟩
theorem SetL.setOf {h : Heap} {a : Addr} {ms : List Int} (x : SetL prog w h a ms) : h.SetOf (intKind prog w) a (fun k => decide (k ∈ ms)) ms.length := by
  obtain ⟨o, es, ep, t, ho, hx, hd, D⟩ := x
  exact ⟨o, es, ep, t, ho, hx, hd, D.el, D.mem, D.sz, D.ft, D.len⟩
theorem SetL.at {h h' : Heap} {a : Addr} {ms : List Int} (x : SetL prog w h a ms) (k : ∀ o, h.get? a = some o → h'.get? a = some o) : SetL prog w h' a ms := by
  obtain ⟨o, es, ep, t, ho, r⟩ := x
  exact ⟨o, es, ep, t, k _ ho, r⟩
theorem SetL.perm {h : Heap} {a : Addr} {ms ms' : List Int} (x : SetL prog w h a ms) (p : ms.Perm ms') : SetL prog w h a ms' := by
  obtain ⟨o, es, ep, t, ho, hx, hd, D⟩ := x
  exact ⟨o, es, ep, t, ho, hx, hd, D.el, D.pm.trans p, D.sz, D.ft, D.ld⟩
theorem setL_put {h : Heap} {a : Addr} {o : Obj} {es : Array (Int × Value)} {ep : Nat} {t : SetTable} (ho : h.get? a = some o) (hx : o.ExactSet) (hd : o.data = .set es ep t) {es' : Array (Int × Value)} {t' : SetTable} {ms : List Int} (D : SetD prog w es' t' ms) :
    (h.update a (Obj.putSet es' t')).get? a = some { o with data := .set es' (ep + 1) t' } ∧ SetL prog w (h.update a (Obj.putSet es' t')) a ms := by
  have g := (SetOf_store (knd := intKind prog w) ho hx hd D.el D.mem D.sz D.ft).1
  exact ⟨g, _, es', ep + 1, t', g, hx, rfl, D⟩
/-- a number that is not there yet is put in -/
theorem set_add {a : Addr} {ms : List Int} {x : Int} {tk : Tok} {Q : Bool → Shared → Prop} (hS : SetL prog w s.heap a ms) (hx : x ∉ ms) (hm : ms.length + 1 < scanBound)
    (h : ∀ h', Heap.SameBut a s.heap h' → SetL prog w h' a (ms ++ [x]) → Q true { s with heap := h' }) : wpAny (model prog w) A (setAddHashed a (.int x tk) (hashInt x)) Q E s := by
  obtain ⟨o, es, ep, t, ho, hex, hd, D⟩ := hS
  have ki : (intKind prog w).is x (.int x tk) = true := intKind_is _ _ _ _
  have hno : es.toList.findIdx? (fun e => (intKind prog w).is x e.2) = none := List.findIdx?_eq_none_iff.mpr fun e he => by
    cases q : (intKind prog w).is x e.2 with
    | false => rfl
    | true => exact absurd (of_decide_eq_true ((D.mem x).mpr ⟨e, he, q⟩)) hx
  unfold setAddHashed setAddHashedIn
  refine wpAny_holding (wpAny_bind (wpAny_setState_of ho hd D.ft ?_))
  dsimp only
  rw [byScan_of (knd := intKind prog w) rfl D.sz D.el]
  simp only [↓reduceIte]
  unfold setAddByScan
  refine wpAny_bind (wpAny_bind (wpAny_rule (wpAny_bind ?_)))
  refine wpAny_setScan_of (knd := intKind prog w) ki ho hd D.ft D.el ?_
  rw [hno]
  dsimp only
  have gw : ∀ (b : Bool) {s₁ : Shared} {Q' : Unit → Shared → Prop}, Q' () s₁ → wpAny (model prog w) A (match b with | true => rule "set.scan.the-table-gave-way" | false => pure ()) Q' E s₁ := fun b s₁ Q' hq => by
    cases b
    · exact wpAny_pure hq
    · exact wpAny_rule hq
  have hp := layNew_perm t es (hashInt x) (.int x tk)
  have hf := layNew_fits t es (hashInt x) (.int x tk)
  have hl := led_new D.ld es (hashInt x) (.int x tk)
  show wpAny _ _ (match layNew t es (hashInt x) (.int x tk) with | (es, t, wasDummy, gave) => _) _ _ _
  generalize layNew t es (hashInt x) (.int x tk) = N at hp hf hl
  obtain ⟨es1, t1, wd, gv⟩ := N
  dsimp only at hp hf hl ⊢
  rw [Array.toList_push] at hp
  have D1 : SetD prog w es1 t1 (ms ++ [x]) := ⟨(D.el.push ki rfl).perm hp, (hp.map _).trans (by rw [List.map_append]; exact D.pm.append_right _), by
    have := hp.length_eq
    rw [List.length_append, Array.length_toList, Array.length_toList, D.len] at this
    simp only [List.length_singleton] at this
    omega, hf, hl⟩
  have tail : ∀ (t2 : SetTable), SetD prog w es1 t2 (ms ++ [x]) → wpAny (model prog w) A (do
        storeSet a es1 t2
        if (!wd && t2.tooFull) = true then do
            (match (relayAll t2 es1 (SetTable.grown es1.size)).2.2 with | true => rule "set.scan.the-table-gave-way" | false => pure ())
            storeSet a (relayAll t2 es1 (SetTable.grown es1.size)).1 (relayAll t2 es1 (SetTable.grown es1.size)).2.1
            pure (some true)
          else pure (some true)) (fun (r : Option Bool) s' => r = some true ∧ Q true s') E s := fun t2 D2 => by
    refine wpAny_bind (wpAny_storeSet_of ho hd ?_ (fits_of_scanBound D2.sz))
    obtain ⟨g2, L2⟩ := setL_put ho hex hd D2
    have b2 := Heap.SameBut.update s.heap a (Obj.putSet es1 t2)
    refine wpAny_ite ?_
    split
    · have p3 := relayAll_perm t2 es1 (SetTable.grown es1.size)
      have f3 := relayAll_fits t2 es1 (SetTable.grown es1.size)
      have l3 := led_relay D2.ld es1 (SetTable.grown es1.size)
      generalize relayAll t2 es1 (SetTable.grown es1.size) = R at p3 f3 l3 ⊢
      obtain ⟨es3, t3, g3⟩ := R
      dsimp only at p3 f3 l3 ⊢
      have z3 : es3.size < scanBound := by have := p3.length_eq; rw [Array.length_toList, Array.length_toList] at this; have := D2.sz; omega
      refine wpAny_bind (gw g3 (wpAny_bind (wpAny_storeSet_of g2 rfl ?_ (fits_of_scanBound z3))))
      exact wpAny_pure ⟨rfl, h _ (b2.trans (Heap.SameBut.update _ a _)) (setL_put g2 hex rfl ⟨D2.el.perm p3, (p3.map _).trans D2.pm, z3, f3, l3⟩).2⟩
    · exact wpAny_pure ⟨rfl, h _ b2 L2⟩
  refine wpAny_bind (gw gv ?_)
  by_cases hpl : t1.plain = true
  · rw [if_pos hpl]
    refine wpAny_bind ?_
    rw [hashByValue_scannable 8 rfl]
    refine wpAny_pure ?_
    exact wpAny_mono (tail t1 D1) (fun r s' z => by obtain ⟨rfl, q⟩ := z; exact wpAny_pure q) fun _ _ z => z
  · rw [if_neg hpl]
    refine wpAny_bind (wpAny_pure ?_)
    exact wpAny_mono (tail t1 D1) (fun r s' z => by obtain ⟨rfl, q⟩ := z; exact wpAny_pure q) fun _ _ z => z
end
end L2
set_option Elab.async false
set_option linter.all false
set_option maxRecDepth 100000
set_option maxHeartbeats 4000000
namespace L2
open PySem
/-! ### the iterator of a set -/
theorem slot_sn : Slot "set_iterator" "__next__" "set_iterator.__next__" := .of (owner := "set_iterator") (n := "__next__") (by rw [typeLookup_type, builtinLookup_eq_fast]; kernel_rfl) (by decide +kernel) (by decide +kernel) (by decide +kernel) (by first | exact .inl (by decide +kernel) | exact .inr (by decide +kernel)) (by rw [isSubtype_type]; kernel_rfl)
theorem slot_si : Slot "set_iterator" "__iter__" "set_iterator.__iter__" := .of (owner := "set_iterator") (n := "__iter__") (by rw [typeLookup_type, builtinLookup_eq_fast]; kernel_rfl) (by decide +kernel) (by decide +kernel) (by decide +kernel) (by first | exact .inl (by decide +kernel) | exact .inr (by decide +kernel)) (by rw [isSubtype_type]; kernel_rfl)
theorem entry_sn : entryFor table "set_iterator.__next__" = some Builtin.«set_iterator.__next__» := entryFor_of_tree (by kernel_rfl)
theorem entry_si : entryFor table "set_iterator.__iter__" = some Builtin.«dict_keyiterator.__iter__» := entryFor_alias (id' := "dict_keyiterator.__iter__") (by kernel_rfl) rfl (by decide +kernel) (by kernel_rfl)
theorem entry_fi : entryFor table "set.__iter__" = some Builtin.«frozenset.__iter__» := entryFor_alias (id' := "frozenset.__iter__") (by kernel_rfl) rfl (by decide +kernel) (by kernel_rfl)
theorem owner_si : Manifest.owners.lookup (String.ofList ['r', 'o', 't', 'a', 'r', 'e', 't', 'i', '_', 't', 'e', 's'].reverse) = some Manifest.sig_set_iterator := by kernel_rfl
theorem args_sn (a : Value) : argsOk "set_iterator.__next__" ⟨[a], []⟩ := by
  unfold argsOk
  rw [signature?_of (id := "set_iterator.__next__") (n := ['_', '_', 't', 'x', 'e', 'n', '_', '_']) (o := ['r', 'o', 't', 'a', 'r', 'e', 't', 'i', '_', 't', 'e', 's']) (by kernel_rfl) owner_si]
  kernel_rfl
theorem args_si (a : Value) : argsOk "set_iterator.__iter__" ⟨[a], []⟩ := by
  unfold argsOk
  rw [signature?_of (id := "set_iterator.__iter__") (n := ['_', '_', 'r', 'e', 't', 'i', '_', '_']) (o := ['r', 'o', 't', 'a', 'r', 'e', 't', 'i', '_', 't', 'e', 's']) (by kernel_rfl) owner_si]
  kernel_rfl
section
variable {α : Type} {M : Model} {prog : Program} {w : World} {A : Around} {E : Value → Shared → Prop} {s : Shared}
theorem stop_raised {Q : α → Shared → Prop} (hh : A.handled = none) (h : ∀ h' e, (∀ b o, s.heap.get? b = some o → h'.get? b = some o) → Shared.TypeIs { s with heap := h' } (.ref e) "StopIteration" → E (.ref e) { s with heap := h' }) :
    wpAny M A (do raiseNew (← newExc (.type "StopIteration") []) : Sem α) Q E s := by
  refine wpAny_bind ?_
  simp only [newExc, newTuple]
  refine wpAny_bind (wpAny_newObj_type ?_ (by size_fits))
  refine wpAny_bind (m := firstArgMember _ _) (wpAny_of_eq (a := Value.none) (by first | rfl | (simp only [firstArgMember]; rfl)) (wpAny_newObj_type ?_ (by size_fits)))
  simp only [raiseNew]
  refine wpAny_bind (wpAny_handled ?_)
  rw [hh]
  refine wpAny_bind (wpAny_pure (wpAny_throw (h _ _ (fun b o e => Heap.get?_push_of_some _ (Heap.get?_push_of_some _ e)) ⟨_, Heap.get?_push_size _ rfl, rfl⟩)))
/-- where the iterator stands -/
def SIt (h : Heap) (I a : Addr) (fst : Value) (i n ep : Nat) : Prop := ∃ o, h.get? I = some o ∧ o.cls = .type "set_iterator" ∧ o.data = .fields #[fst, rawInt i, .ref a, rawInt n, rawInt ep]
theorem SIt.type {I a : Addr} {fst : Value} {i n ep : Nat} (x : SIt s.heap I a fst i n ep) : s.TypeIs (.ref I) "set_iterator" := let ⟨o, ho, hc, _⟩ := x; ⟨o, ho, hc⟩
theorem SIt.at {h h' : Heap} {I a : Addr} {fst : Value} {i n ep : Nat} (x : SIt h I a fst i n ep) (k : ∀ o, h.get? I = some o → h'.get? I = some o) : SIt h' I a fst i n ep := let ⟨o, ho, r⟩ := x; ⟨o, k _ ho, r⟩
/-- the next one, where the order is the table's or the text's -/
theorem next_by {I a : Addr} {o : Obj} {es : Array (Int × Value)} {t : SetTable} {sl : Nat → Nat} {i ep : Nat} {r : Option Value} {Q : Option Value → Shared → Prop} (hit : SIt s.heap I a (rawInt (sl i)) i es.size ep) (ho : s.heap.get? a = some o) (hd : o.data = .set es ep t) (hf : t.fits es.size = true) (hne : a ≠ I) (hh : A.handled = none)
    (nx : ∀ (Q' : Option (Value × Nat) → Shared → Prop) (E' : Value → Shared → Prop), Q' (r.map fun x => (x, sl (i + 1))) s → wpAny (model prog w) A.in1 (setNext a (sl i) i ep) Q' E' s)
    (hQ : ∀ x h', r = some x → SIt h' I a (rawInt (sl (i + 1))) (i + 1) es.size ep → Heap.SameBut I s.heap h' → Q (some x) { s with heap := h' })
    (hN : ∀ h', r = none → (∀ b o, b ≠ I → s.heap.get? b = some o → h'.get? b = some o) → Q none { s with heap := h' }) : wpAny (model prog w) A (pyNext (.ref I)) Q E s := by
  obtain ⟨oi, hoi, hci, hdi⟩ := id hit
  unfold pyNext
  refine wpAny_bind (wpAny_attempt (wpAny_callSpecial?_slot (name := Str.ofString "__next__") hit.type slot_sn (wpAny_call_entry slot_sn hit.type entry_sn ?_ (args_sn _))))
  unfold Builtin.«set_iterator.__next__»
  refine wpAny_bind (wpAny_pure ?_)
  refine wpAny_bind (wpAny_fieldsOf hoi hdi ?_)
  show wpAny _ _ (setEntries a >>= _) _ _ s
  refine wpAny_bind (wpAny_setEntries_of ho hd hf ?_)
  rw [if_neg (by simp [rawInt])]
  show wpAny _ _ (setNext a (Int.toNat (sl i : Int)) (Int.toNat (i : Int)) (Int.toNat (ep : Int)) >>= _) _ _ s
  rw [Int.toNat_natCast, Int.toNat_natCast, Int.toNat_natCast]
  refine wpAny_bind (nx _ _ ?_)
  cases r with
  | none =>
    show wpAny _ _ (setField (.ref I) 2 .none >>= _) _ _ s
    refine wpAny_bind (wpAny_setField hoi hdi (by simp) ?_)
    refine stop_raised hh fun h' e k hT => ?_
    refine wpAny_bind (wpAny_isInstance (T := "StopIteration") (b := true) hT isSubtype_stop ?_)
    exact wpAny_pure (hN h' rfl fun b ob hb e' => k b ob ((Heap.get?_update_other _ _ (Ne.symm hb)).trans e'))
  | some x =>
    show wpAny _ _ (setField (.ref I) 0 (rawInt (sl (i + 1))) >>= _) _ _ s
    refine wpAny_bind (wpAny_setField hoi hdi (by simp) ?_)
    have g1 := Heap.get?_update_self (Obj.mapFields (·.setIfInBounds 0 (rawInt (sl (i + 1) : Int)))) hoi (Obj.isFreed_of_fields (Obj.data_mapFields hdi _))
    have d1 := Obj.data_mapFields hdi (·.setIfInBounds 0 (rawInt (sl (i + 1) : Int)))
    refine wpAny_bind (wpAny_setField g1 d1 (by simp) ?_)
    refine wpAny_pure ⟨x, rfl, wpAny_pure (hQ x _ rfl ?_ ((Heap.SameBut.update ..).trans (Heap.SameBut.update ..)))⟩
    refine ⟨_, Heap.get?_update_self _ g1 (Obj.isFreed_of_fields (Obj.data_mapFields d1 _)), ?_, ?_⟩
    · rw [Obj.cls_mapFields, Obj.cls_mapFields]; exact hci
    · rw [Obj.data_mapFields d1]; simp [rawInt]
/-- the next one, where the order was drawn -/
theorem next_drawn {I a tp : Addr} {o ot : Obj} {es : Array (Int × Value)} {t : SetTable} {ps : Array Value} {nt i ep : Nat} {r : Option Value} {Q : Option Value → Shared → Prop} (hit : SIt s.heap I a (.ref tp) i es.size ep) (ho : s.heap.get? a = some o) (hd : o.data = .set es ep t) (hf : t.fits es.size = true) (hh : A.handled = none)
    (hot : s.heap.get? tp = some ot) (hdt : ot.data = .seq ps nt) (hr : (r = none ∧ ps[i]? = none) ∨ ∃ (k : Nat) (e : Int × Value), ps[i]? = some (rawInt k) ∧ es[k]? = some e ∧ r = some e.2)
    (hQ : ∀ x h', r = some x → SIt h' I a (.ref tp) (i + 1) es.size ep → Heap.SameBut I s.heap h' → Q (some x) { s with heap := h' })
    (hN : ∀ h', r = none → (∀ b o, b ≠ I → s.heap.get? b = some o → h'.get? b = some o) → Q none { s with heap := h' }) : wpAny (model prog w) A (pyNext (.ref I)) Q E s := by
  obtain ⟨oi, hoi, hci, hdi⟩ := id hit
  unfold pyNext
  refine wpAny_bind (wpAny_attempt (wpAny_callSpecial?_slot (name := Str.ofString "__next__") hit.type slot_sn (wpAny_call_entry slot_sn hit.type entry_sn ?_ (args_sn _))))
  unfold Builtin.«set_iterator.__next__»
  refine wpAny_bind (wpAny_pure ?_)
  refine wpAny_bind (wpAny_fieldsOf hoi hdi ?_)
  show wpAny _ _ (setEntries a >>= _) _ _ s
  refine wpAny_bind (wpAny_setEntries_of ho hd hf ?_)
  rw [if_neg (by simp [rawInt])]
  show wpAny _ _ (seqItems? (.ref tp) >>= _) _ _ s
  refine wpAny_bind (wpAny_seqItems hot hdt ?_)
  dsimp only
  rw [Int.toNat_natCast]
  rcases hr with ⟨rfl, e⟩ | ⟨k, en, e, e2, rfl⟩
  · rw [e]
    dsimp only
    refine wpAny_bind (wpAny_setField hoi hdi (by simp) ?_)
    have g1 := Heap.get?_update_self (Obj.mapFields (·.setIfInBounds 0 (rawInt 0))) hoi (Obj.isFreed_of_fields (Obj.data_mapFields hdi _))
    have d1 := Obj.data_mapFields hdi (·.setIfInBounds 0 (rawInt 0))
    refine wpAny_bind (wpAny_setField g1 d1 (by simp) ?_)
    refine stop_raised hh fun h' ex k hT => ?_
    refine wpAny_bind (wpAny_isInstance (T := "StopIteration") (b := true) hT isSubtype_stop ?_)
    exact wpAny_pure (hN h' rfl fun b ob hb e' => k b ob ((Heap.get?_update_other _ _ (Ne.symm hb)).trans ((Heap.get?_update_other _ _ (Ne.symm hb)).trans e')))
  · rw [e]
    show wpAny _ _ (setNextDrawn a (Int.toNat (k : Int)) (Int.toNat (ep : Int)) >>= _) _ _ s
    rw [Int.toNat_natCast, Int.toNat_natCast]
    refine wpAny_bind ?_
    unfold setNextDrawn
    refine wpAny_bind (wpAny_setState_of ho hd hf ?_)
    dsimp only
    rw [if_neg (by simp)]
    refine wpAny_bind (wpAny_pure ?_)
    rw [e2]
    refine wpAny_pure ?_
    refine wpAny_bind (wpAny_setField hoi hdi (by simp) ?_)
    refine wpAny_pure ⟨en.2, rfl, wpAny_pure (hQ en.2 _ rfl ?_ (Heap.SameBut.update ..))⟩
    refine ⟨_, Heap.get?_update_self _ hoi (Obj.isFreed_of_fields (Obj.data_mapFields hdi _)), ?_, ?_⟩
    · rw [Obj.cls_mapFields]; exact hci
    · rw [Obj.data_mapFields hdi]; simp [rawInt]
end
end L2
set_option Elab.async false
set_option linter.all false
set_option maxRecDepth 100000
set_option maxHeartbeats 4000000
namespace L2
open PySem
/-! ### the order in which a set is walked -/
theorem erase_perm {α : Type} : ∀ {l : List α} {i : Nat} (h : i < l.length), (l[i] :: l.eraseIdx i).Perm l
  | [], i, h => absurd h (Nat.not_lt_zero _)
  | x :: l, 0, h => by simp
  | x :: l, i + 1, h => by
    simp only [List.getElem_cons_succ, List.eraseIdx_cons_succ]
    exact (List.Perm.swap _ _ _).trans ((erase_perm (l := l) (i := i) (by simpa using h)).cons _)
theorem pick_go {α : Type} (nx : Nat → Nat) : ∀ (f k : Nat) (l : List α) (out : Array α), l.length ≤ f → (pickOrder.go nx f k l out).toList.Perm (out.toList ++ l)
  | 0, k, l, out, h => by
    have : l = [] := List.eq_nil_of_length_eq_zero (by omega)
    subst this
    unfold pickOrder.go
    simp
  | f + 1, k, [], out, h => by
    unfold pickOrder.go
    simp
  | f + 1, k, x :: l, out, h => by
    unfold pickOrder.go
    have hl : nx k % (x :: l).length < (x :: l).length := Nat.mod_lt _ (by simp)
    rw [List.getElem?_eq_getElem hl]
    dsimp only
    generalize nx k % (x :: l).length = i at hl
    refine (pick_go nx f (k + 1) _ _ (by rw [List.length_eraseIdx_of_lt hl]; omega)).trans ?_
    rw [Array.toList_push, List.append_assoc, List.singleton_append]
    exact (erase_perm hl).append_left _
theorem pick_perm {α : Type} (nx : Nat → Nat) (xs : Array α) : (pickOrder nx xs).toList.Perm xs.toList := by
  have := pick_go nx xs.size 0 xs.toList #[] (by simp)
  unfold pickOrder
  simpa using this
section
variable {α : Type} {M : Model} {prog : Program} {w : World} {A : Around} {E : Value → Shared → Prop}
theorem wp_choose {s : Shared} {src : Source} {n : Nat} {Q : Nat → Shared → Prop} (hn : n ≠ 0) (h : ∀ i d, i < n → Q i { s with drawn := d }) : wpAny M A (choose src n) Q E s := fun _ _ _ => ⟨hn, h _ _ (Nat.mod_lt _ (Nat.pos_of_ne_zero hn))⟩
theorem draw_order : ∀ (n : Nat) (xs : List α) (s : Shared) (Q : List α → Shared → Prop), xs.length ≤ n → (∀ ys d, ys.Perm xs → Q ys { s with drawn := d }) → wpAny M A (drawOrder n xs) Q E s
  | 0, xs, s, Q, h, q => by
    have : xs = [] := List.eq_nil_of_length_eq_zero (by omega)
    subst this
    unfold drawOrder
    exact wpAny_pure (q [] s.drawn .rfl)
  | n + 1, [], s, Q, h, q => by
    unfold drawOrder
    exact wpAny_pure (q [] s.drawn .rfl)
  | n + 1, x :: xs, s, Q, h, q => by
    unfold drawOrder
    refine wpAny_bind (wp_choose (by simp) fun i d hi => ?_)
    rw [List.getElem?_eq_getElem hi]
    dsimp only
    refine wpAny_bind (draw_order n _ _ _ (by rw [List.length_eraseIdx_of_lt hi]; simp at h ⊢; omega) fun ys d' p => ?_)
    exact wpAny_pure (q _ d' ((p.cons _).trans (erase_perm hi)))
theorem by_text {s : Shared} {Q : Bool → Shared → Prop} (h : Q (byTx w) s) : wpAny (model prog w) A setsByText Q E s := by
  unfold setsByText
  exact wpAny_bind (wpAny_askSetting (wpAny_pure h))
/-- a set's walk: its things in some order -/
def Drw (es : Array (Int × Value)) (t : SetTable) : Bool := !t.plain && decide (es.size > 1)
theorem set_walk {s : Shared} {a : Addr} {o : Obj} {es : Array (Int × Value)} {ep : Nat} {t : SetTable} {Q : Array (Int × Value) → Shared → Prop} (ho : s.heap.get? a = some o) (hd : o.data = .set es ep t) (hf : t.fits es.size = true) (hl : Led (!byTx w) t)
    (h : ∀ es' d, es'.toList.Perm es.toList → Q es' { s with drawn := d }) : wpAny (model prog w) A (setWalk a) Q E s := by
  unfold setWalk
  refine wpAny_bind (wpAny_setState_of ho hd hf ?_)
  dsimp only
  refine wpAny_bind (by_text ?_)
  cases hb : byTx w with
  | true =>
    rw [if_pos rfl]
    exact wpAny_bind (wpAny_askSetting (wpAny_pure (h _ s.drawn (pick_perm _ _))))
  | false =>
    rw [if_neg Bool.false_ne_true]
    have hld : t.led = true := by have := hl.1; rw [hb] at this; exact this
    show wpAny _ _ (if Drw es t = true then _ else _) _ _ _
    cases hD : Drw es t with
    | true =>
      rw [if_pos rfl]
      refine wpAny_bind (draw_order _ _ _ _ (by simp) fun ys d p => wpAny_pure (h _ d (by simpa using p)))
    | false =>
      rw [if_neg Bool.false_ne_true]
      refine wpAny_bind ?_
      show wpAny _ _ (if (!t.led && decide (es.size > 1)) = true then _ else _) _ _ _
      rw [hld, if_neg (by simp)]
      exact wpAny_pure (wpAny_pure (h _ s.drawn .rfl))
/-- the next one by the text -/
theorem sn_text {s : Shared} {a : Addr} {o : Obj} {es : Array (Int × Value)} {ep i sl : Nat} {t : SetTable} {Q : Option (Value × Nat) → Shared → Prop} (hb : byTx w = true) (ho : s.heap.get? a = some o) (hd : o.data = .set es ep t) (hf : t.fits es.size = true)
    (h : Q (((pickOrder (w.params.setOrder a ep) es)[i]?).map fun e => (e.2, sl)) s) : wpAny (model prog w) A (setNext a sl i ep) Q E s := by
  unfold setNext
  refine wpAny_bind (wpAny_setState_of ho hd hf ?_)
  dsimp only
  refine wpAny_bind (by_text ?_)
  rw [hb, if_pos rfl, if_neg (by simp)]
  refine wpAny_bind ?_
  unfold setWalk
  refine wpAny_bind (wpAny_setState_of ho hd hf ?_)
  dsimp only
  refine wpAny_bind (by_text ?_)
  rw [hb, if_pos rfl]
  exact wpAny_bind (wpAny_askSetting (wpAny_pure (wpAny_pure h)))
/-- the next one by the table -/
def slAt (t : SetTable) : Nat → Nat
  | 0 => 0
  | i + 1 => (t.place[i]?.getD 0) + 1
theorem slAt_succ (t : SetTable) (i : Nat) : slAt t (i + 1) = (t.place[i]?.getD 0) + 1 := rfl
theorem below_at {t : SetTable} (hr : Rsg t.place) : ∀ i, i ≤ t.place.size → SetTable.below t.place (slAt t i) = i
  | 0, _ => below_zero hr
  | i + 1, h => by
    have e : t.place[i]? = some t.place[i] := Array.getElem?_eq_getElem h
    rw [slAt_succ, e]
    exact below_next hr e
theorem sn_led {s : Shared} {a : Addr} {o : Obj} {es : Array (Int × Value)} {ep i : Nat} {t : SetTable} {Q : Option (Value × Nat) → Shared → Prop} (hb : byTx w = false) (hD : Drw es t = false) (hl : Led (!byTx w) t) (ho : s.heap.get? a = some o) (hd : o.data = .set es ep t) (hf : t.fits es.size = true) (hi : i ≤ es.size)
    (h : Q ((es[i]?).map fun e => (e.2, slAt t (i + 1))) s) : wpAny (model prog w) A (setNext a (slAt t i) i ep) Q E s := by
  have hz : t.place.size = es.size := by simp only [SetTable.fits, Bool.and_eq_true, beq_iff_eq] at hf; exact hf.1
  have hld : t.led = true := by have := hl.1; rw [hb] at this; exact this
  unfold setNext
  refine wpAny_bind (wpAny_setState_of ho hd hf ?_)
  dsimp only
  refine wpAny_bind (by_text ?_)
  rw [hb, if_neg Bool.false_ne_true]
  show wpAny _ _ (if Drw es t = true then _ else _) _ _ _
  rw [hD, if_neg Bool.false_ne_true]
  refine wpAny_bind ?_
  show wpAny _ _ (if (!t.led && !es.isEmpty) = true then _ else _) _ _ _
  rw [hld, if_neg (by simp)]
  refine wpAny_pure (wpAny_pure ?_)
  rw [below_at hl.2 i (by omega)]
  rcases Nat.lt_or_ge i es.size with z | z
  · have e1 : es[i]? = some es[i] := Array.getElem?_eq_getElem z
    have e2 : t.place[i]? = some t.place[i] := Array.getElem?_eq_getElem (by omega)
    rw [e1, slAt_succ, e2] at h
    rw [e1, e2]
    exact h
  · rw [Array.getElem?_eq_none z] at h ⊢
    exact h
theorem sit_self {s : Shared} {I a : Addr} {fst : Value} {i n ep : Nat} {Q : Value → Shared → Prop} (hit : SIt s.heap I a fst i n ep) (h : Q (.ref I) s) : wpAny (model prog w) A (pyIter (.ref I)) Q E s := by
  refine wpAny_pyIter_slot hit.type slot_si (wpAny_call_entry slot_si hit.type entry_si ?_ (args_si _))
  show wpAny _ _ (ret (.ref I)) _ _ s
  exact wpAny_pure ⟨_, rfl, "set_iterator", _, hit.type, slot_sn.lookup, h⟩
theorem moved_one {I : Addr} {s : Shared} {h' : Heap} (k : ∀ b o, b ≠ I → s.heap.get? b = some o → h'.get? b = some o) : Moved [I] (fun a b => b = a) s { s with heap := h' } := ⟨fun b o hb e => k b o (fun z => hb (by simp [z])) e, rfl, rfl, rfl, Nat.le_refl _⟩
theorem walks_by {I a : Addr} {o : Obj} {es : Array (Int × Value)} {t : SetTable} {ep : Nat} {sl : Nat → Nat} {ws : List Value} (hne : a ≠ I) (hd : o.data = .set es ep t) (hf : t.fits es.size = true) (hh : A.handled = none) (hl : ws.length = es.size)
    (nx : ∀ (i : Nat) (A' : Around) (s' : Shared) (Q' : Option (Value × Nat) → Shared → Prop) (E' : Value → Shared → Prop), i ≤ es.size → s'.heap.get? a = some o → Q' ((ws[i]?).map fun x => (x, sl (i + 1))) s' → wpAny (model prog w) A' (setNext a (sl i) i ep) Q' E' s') :
    WalksS prog w A I [I, a] [I] (fun a b => b = a) ws.length (fun i v => ws[i]? = some v) (fun i s => SIt s.heap I a (rawInt (sl i)) i es.size ep ∧ s.heap.get? a = some o) where
  sub := fun b hb => by simp at hb; simp [hb]
  grefl := fun _ => rfl
  gtrans := fun _ _ _ h1 h2 => h2.trans h1
  frame := fun i s h' tk st _ k => ⟨st.1.at fun o e => k I (by simp) o e, k a (by simp) o st.2⟩
  item := fun i s Q E hi st hQ => by
    refine next_by (r := ws[i]?) st.1 st.2 hd hf hne hh (fun Q' E' q => nx i _ s Q' E' (by omega) st.2 q) (fun x h' e hit sb => ?_) (fun h' e => ?_)
    · exact hQ x _ e ⟨hit, (sb.2 a hne).trans st.2⟩ (moved_one fun b ob hb e' => (sb.2 b hb).trans e')
    · rw [List.getElem?_eq_getElem hi] at e; cases e
  done := fun s Q E st hQ => by
    refine next_by (r := ws[ws.length]?) st.1 st.2 hd hf hne hh (fun Q' E' q => nx _ _ s Q' E' (by omega) st.2 q) (fun x h' e => ?_) (fun h' e k => hQ _ (moved_one k))
    rw [List.getElem?_eq_none (Nat.le_refl _)] at e; cases e
  self := fun i s Q E st hQ => sit_self st.1 hQ
theorem walks_drawn {I a tp : Addr} {o ot : Obj} {es : Array (Int × Value)} {t : SetTable} {ep nt : Nat} {ks : List Nat} {ws : List Value} (hne : a ≠ I) (hnt : tp ≠ I) (hd : o.data = .set es ep t) (hf : t.fits es.size = true) (hh : A.handled = none) (hdt : ot.data = .seq (ks.map fun (i : Nat) => rawInt i).toArray nt)
    (hw : ∀ i : Nat, (ws[i]? = none ∧ ks[i]? = none) ∨ ∃ (k : Nat) (e : Int × Value), ks[i]? = some k ∧ es[k]? = some e ∧ ws[i]? = some e.2) :
    WalksS prog w A I [I, a, tp] [I] (fun a b => b = a) ws.length (fun i v => ws[i]? = some v) (fun i s => SIt s.heap I a (.ref tp) i es.size ep ∧ s.heap.get? a = some o ∧ s.heap.get? tp = some ot) where
  sub := fun b hb => by simp at hb; simp [hb]
  grefl := fun _ => rfl
  gtrans := fun _ _ _ h1 h2 => h2.trans h1
  frame := fun i s h' tk st _ k => ⟨st.1.at fun o e => k I (by simp) o e, k a (by simp) o st.2.1, k tp (by simp) ot st.2.2⟩
  item := fun i s Q E hi st hQ => by
    refine next_drawn (r := ws[i]?) st.1 st.2.1 hd hf hh st.2.2 hdt ?_ (fun x h' e hit sb => ?_) (fun h' e => ?_)
    · rcases hw i with ⟨e1, e2⟩ | ⟨k, e, e1, e2, e3⟩
      · exact .inl ⟨e1, by simp [e2]⟩
      · exact .inr ⟨k, e, by simp [e1], e2, e3⟩
    · exact hQ x _ e ⟨hit, (sb.2 a hne).trans st.2.1, (sb.2 tp hnt).trans st.2.2⟩ (moved_one fun b ob hb e' => (sb.2 b hb).trans e')
    · rw [List.getElem?_eq_getElem hi] at e; cases e
  done := fun s Q E st hQ => by
    refine next_drawn (r := ws[ws.length]?) st.1 st.2.1 hd hf hh st.2.2 hdt ?_ (fun x h' e => ?_) (fun h' e k => hQ _ (moved_one k))
    · rcases hw ws.length with ⟨e1, e2⟩ | ⟨k, e, e1, e2, e3⟩
      · exact .inl ⟨e1, by simp [e2]⟩
      · exact .inr ⟨k, e, by simp [e1], e2, e3⟩
    · rw [List.getElem?_eq_none (Nat.le_refl _)] at e; cases e
  self := fun i s Q E st hQ => sit_self st.1 hQ
end
end L2
set_option Elab.async false
set_option linter.all false
set_option maxRecDepth 100000
set_option maxHeartbeats 4000000
namespace L2
open PySem
/-! ### iter(s), list(s) as sorted makes it -/
section
variable {prog : Program} {w : World} {A : Around} {E : Value → Shared → Prop} {s : Shared}
theorem perm_ints {es' : List (Int × Value)} {es : Array (Int × Value)} {ms : List Int} {t : SetTable} (D : SetD prog w es t ms) (p : es'.Perm es.toList) : ElemsOf (intKind prog w) es' ∧ (es'.map fun e => iv e.2).Perm ms := ⟨D.el.perm p, (p.map _).trans D.pm⟩
/-- what stands behind iter(s) -/
structure SIr (prog : Program) (w : World) (s s1 : Shared) (a I : Addr) (ms : List Int) (fp : List Addr) (es' : List (Int × Value)) (St : Nat → Shared → Prop) : Prop where
  os : s1.os = s.os
  gens : s1.gens = s.gens
  kept : ∀ b o, s.heap.get? b = some o → s1.heap.get? b = some o
  new : s.heap.objs.size ≤ I
  fpn : ∀ b ∈ fp, b = a ∨ s.heap.objs.size ≤ b
  el : ElemsOf (intKind prog w) es'
  pm : (es'.map fun e => iv e.2).Perm ms
  wk : ∀ A : Around, A.handled = none → WalksS prog w A I fp [I] (fun a b => b = a) (es'.map (·.2)).length (fun i v => (es'.map (·.2))[i]? = some v) St
  st : St 0 s1
theorem iter_set {a : Addr} {ms : List Int} {Q : Value → Shared → Prop} (hS : SetL prog w s.heap a ms) (h : ∀ s1 I fp es' St, SIr prog w s s1 a I ms fp es' St → Q (.ref I) s1) : wpAny (model prog w) A (pyIter (.ref a)) Q E s := by
  obtain ⟨o, es, ep, t, ho, hx, hd, D⟩ := hS
  have hT : s.TypeIs (.ref a) "set" := ⟨o, ho, hx.1⟩
  have hz : t.place.size = es.size := by have := D.ft; simp only [SetTable.fits, Bool.and_eq_true, beq_iff_eq] at this; exact this.1
  have la := Heap.lt_size ho
  refine wpAny_pyIter_slot hT F.slot_set_iter (wpAny_call_entry F.slot_set_iter hT entry_fi ?_ (F.args_set_iter_1 _))
  unfold Builtin.«frozenset.__iter__» Builtin.Frozenset.slot0
  refine wpAny_bind (wpAny_bind (wpAny_pure (wpAny_pure ?_)))
  unfold Builtin.Frozenset.sizeOf
  refine wpAny_bind (wpAny_bind (wpAny_setEntries_of ho hd D.ft (wpAny_pure ?_)))
  refine wpAny_bind ?_
  unfold setDrawn
  refine wpAny_bind (wpAny_setState_of ho hd D.ft ?_)
  dsimp only
  refine wpAny_bind (by_text (wpAny_pure ?_))
  show wpAny _ _ (if (!byTx w && Drw es t) = true then _ else _) _ _ _
  cases hb : (!byTx w && Drw es t) with
  | false =>
    rw [if_neg Bool.false_ne_true]
    refine wpAny_bind (wpAny_pure (wpAny_bind (wpAny_setEpoch_of ho hd D.ft ?_)))
    refine wpAny_bind (wpAny_newObj_type (wpAny_pure ⟨_, rfl, "set_iterator", _, ⟨_, Heap.get?_push_size _ rfl, rfl⟩, slot_sn.lookup, ?_⟩))
    have hit : ∀ z : Nat, z = 0 → SIt (s.heap.push { cls := .type "set_iterator", data := .fields #[rawInt 0, rawInt 0, .ref a, rawInt es.size, rawInt ep] }) s.heap.objs.size a (rawInt (z : Nat)) 0 es.size ep := fun z hz => by
      subst hz
      exact ⟨_, Heap.get?_push_size _ rfl, rfl, rfl⟩
    cases ht : byTx w with
    | true =>
      have e1 := perm_ints D (pick_perm (w.params.setOrder a ep) es)
      refine h _ _ [_, a] (pickOrder (w.params.setOrder a ep) es).toList _ ⟨rfl, rfl, fun b ob e => Heap.get?_push_of_some _ e, Nat.le_refl _, fun b hb => ?_, e1.1, e1.2, fun A' hh => walks_by (o := o) (t := t) (sl := fun _ => 0) (Nat.ne_of_lt la) hd D.ft hh ?_ fun i A' s' Q' E' _ ho' q => sn_text ht ho' hd D.ft ?_, ⟨hit 0 rfl, Heap.get?_push_of_some _ ho⟩⟩
      · simp at hb; rcases hb with z | z <;> simp [z]
      · have := (pick_perm (w.params.setOrder a ep) es).length_eq
        simpa using this
      · have e : ((pickOrder (w.params.setOrder a ep) es).toList.map (·.2))[i]?.map (fun x => (x, 0)) = ((pickOrder (w.params.setOrder a ep) es)[i]?).map fun e => (e.2, 0) := by
          rw [List.getElem?_map, Array.getElem?_toList, Option.map_map]
          rfl
        rw [← e]
        exact q
    | false =>
      have hD : Drw es t = false := by rw [ht] at hb; simpa using hb
      refine h _ _ [_, a] es.toList _ ⟨rfl, rfl, fun b ob e => Heap.get?_push_of_some _ e, Nat.le_refl _, fun b hb => ?_, D.el, D.pm, fun A' hh => walks_by (o := o) (t := t) (sl := slAt t) (Nat.ne_of_lt la) hd D.ft hh (by simp) fun i A' s' Q' E' hi ho' q => sn_led ht hD D.ld ho' hd D.ft hi ?_, ⟨hit 0 rfl, Heap.get?_push_of_some _ ho⟩⟩
      · simp at hb; rcases hb with z | z <;> simp [z]
      · have e : (es.toList.map (·.2))[i]?.map (fun x => (x, slAt t (i + 1))) = (es[i]?).map fun e => (e.2, slAt t (i + 1)) := by
          rw [List.getElem?_map, Array.getElem?_toList, Option.map_map]
          rfl
        rw [← e]
        exact q
  | true =>
    rw [if_pos rfl]
    refine wpAny_bind (draw_order _ _ _ _ (by simp) fun ks d p => ?_)
    have hk : ∀ k ∈ ks, k < es.size := fun k hk => List.mem_range.mp (p.mem_iff.mp hk)
    have lk : ks.length = es.size := by have := p.length_eq; simpa using this
    refine wpAny_bind (wpAny_newTuple ?_ (by rw [List.length_map, lk]; exact fits_of_scanBound D.sz))
    have ho1 : ({ s with drawn := d, heap := s.heap.push { cls := .type "tuple", data := .seq (ks.map fun (i : Nat) => rawInt i).toArray } } : Shared).heap.get? a = some o := Heap.get?_push_of_some _ ho
    refine wpAny_bind (wpAny_setEpoch_of ho1 hd D.ft ?_)
    refine wpAny_bind (wpAny_newObj_type (wpAny_pure ⟨_, rfl, "set_iterator", _, ⟨_, Heap.get?_push_size _ rfl, rfl⟩, slot_sn.lookup, ?_⟩))
    have ep1 : (ks.map fun k => es.toList.getD k (0, .none)).Perm es.toList := by
      refine (p.map _).trans ?_
      have : (List.range es.size).map (fun k => es.toList.getD k (0, .none)) = es.toList := by
        apply List.ext_getElem?
        intro i
        rw [List.getElem?_map]
        rcases Nat.lt_or_ge i es.size with z | z
        · rw [List.getElem?_range z]
          simp [z]
        · rw [List.getElem?_eq_none (by simpa using z), List.getElem?_eq_none (by simpa using z)]
          rfl
      rw [this]
    have e1 := perm_ints D ep1
    refine h _ _ [_, a, s.heap.objs.size] (ks.map fun k => es.toList.getD k (0, .none)) _ ⟨rfl, rfl, fun b ob e => Heap.get?_push_of_some _ (Heap.get?_push_of_some _ e), ?_, fun b hb => ?_, e1.1, e1.2, fun A' hh => walks_drawn (o := o) (t := t) (ot := { cls := .type "tuple", data := .seq (ks.map fun (i : Nat) => rawInt i).toArray }) (ks := ks) ?_ ?_ hd D.ft hh rfl fun i => ?_, ⟨⟨_, Heap.get?_push_size _ rfl, rfl, rfl⟩, Heap.get?_push_of_some _ ho1, Heap.get?_push_of_some _ (Heap.get?_push_size _ rfl)⟩⟩
    · show _ ≤ (s.heap.push _).objs.size
      rw [Heap.size_push]
      exact Nat.le_succ _
    · simp only [List.mem_cons, List.not_mem_nil, or_false] at hb
      rcases hb with z | z | z
      · subst z
        exact .inr (by rw [Heap.size_push]; exact Nat.le_succ _)
      · exact .inl z
      · subst z
        exact .inr (Nat.le_refl _)
    · show a ≠ (s.heap.push _).objs.size
      rw [Heap.size_push]
      exact Nat.ne_of_lt (Nat.lt_succ_of_lt la)
    · show _ ≠ (s.heap.push _).objs.size
      rw [Heap.size_push]
      exact Nat.ne_of_lt (Nat.lt_succ_self _)
    · rcases Nat.lt_or_ge i ks.length with z | z
      · have hki := hk _ (List.getElem_mem z)
        refine .inr ⟨ks[i], es[ks[i]], List.getElem?_eq_getElem z, Array.getElem?_eq_getElem hki, ?_⟩
        simp [z, hki]
      · exact .inl ⟨by rw [List.getElem?_eq_none]; simpa using z, List.getElem?_eq_none z⟩
end
end L2
set_option Elab.async false
set_option linter.all false
set_option maxRecDepth 100000
set_option maxHeartbeats 4000000
namespace L2
open PySem PyProof.Rows
/-! ### sorted(s), s a set of ints -/
theorem ints_el {prog : Program} {w : World} : ∀ {l : List (Int × Value)}, ElemsOf (intKind prog w) l → IntsAre (l.map (·.2)) (l.map fun e => iv e.2)
  | [], _ => .nil
  | e :: l, h => by
    obtain ⟨tk, ee⟩ := el_int h (List.mem_cons_self ..)
    rw [List.map_cons, List.map_cons]
    have e2 : e.2 = .int (iv e.2) tk := congrArg Prod.snd ee
    generalize hn : iv e.2 = n at e2 ⊢
    rw [e2]
    exact .cons _ _ (ints_el h.tail)
section
variable {prog : Program} {w : World} {A : Around} {E : Value → Shared → Prop} {s : Shared}
theorem hint_set {r : Addr} {Q : Bool → Shared → Prop} (hT : s.TypeIs (.ref r) "set") (h : Q false s) : wpAny (model prog w) A (Builtin.List.listLengthHint (.ref r)) Q E s := by
  unfold Builtin.List.listLengthHint
  refine wpAny_bind (wpAny_specialOf hT PySem.F.slot_set_len.lookup ?_)
  generalize hid : ("set.__len__" : String) = z
  wp_delta
  rw [show splitId z = some ("set", "__len__") from by subst hid; decide +kernel]
  subst hid
  refine wpAny_bind (wpAny_isInstance (T := "set") (b := true) hT (by rw [isSubtype_type]; kernel_rfl) ?_)
  refine wpAny_ite_split (fun q => absurd q (by decide)) (fun _ => wpAny_ite_split (fun _ => ?_) (fun q => absurd (by decide +kernel) q))
  exact wpAny_bind (wpAny_typeOf hT (wpAny_pure h))
theorem ext_set {R : Result → Shared → Prop} {a S : Addr} {ms : List Int} {c : Nat} (hS : SetL prog w s.heap a ms) (hm : ms.length ≤ sizeLine) (hh : A.handled = none) (hSa : S ≠ a) (ho : s.heap.get? S = some { cls := .type "list", data := .seq #[] c })
    (hR : ∀ s' acc c' ns, s'.os = s.os → s'.gens = s.gens → (∀ b o, b ≠ S → s.heap.get? b = some o → s'.heap.get? b = some o) → s'.heap.get? S = some { cls := .type "list", dict := none, data := .seq acc c', slots := #[] } → IntsAre acc.toList ns → ns.Perm ms → R (.ok (.ret (.ref S))) s') :
    codeAny (model prog w) A (.builtin "list.__iadd__" ⟨[.ref S, .ref a], []⟩) R s := by
  have hT : s.TypeIs (.ref a) "set" := by obtain ⟨o, es, ep, t, ho, hx, _⟩ := hS; exact ⟨o, ho, hx.1⟩
  have lS := Heap.lt_size ho
  refine codeAny_builtin PySem.F.entry_list_iadd ?_
  rw [Around.under_plainId PySem.F.plain_list_iadd _]
  show wpAny _ A.in1 (Builtin.List.listExtendWith (.ref S) (.ref a) (.ref S)) _ _ s
  unfold Builtin.List.listExtendWith
  refine wpAny_bind (wpAny_typeOf hT ?_)
  have h1 : (Builtin.List.listSameRef (.ref S) (.ref a) || Value.type "set" == .type "list" || Value.type "set" == .type "tuple") = false := by
    have : Builtin.List.listSameRef (.ref S) (.ref a) = false := by simp [Builtin.List.listSameRef, hSa]
    rw [this]
    decide
  rw [h1, if_neg Bool.false_ne_true]
  refine wpAny_bind (iter_set hS fun s1 I fp es' St T => ?_)
  have SI : S ≠ I := Nat.ne_of_lt (Nat.lt_of_lt_of_le lS T.new)
  have Sf : S ∉ fp := fun z => by
    rcases T.fpn S z with q | q
    · exact hSa q
    · exact absurd lS (Nat.not_lt.mpr q)
  have W := T.wk A.in1 hh
  have ln : (es'.map (·.2)).length = ms.length := by have := T.pm.length_eq; simpa using this
  have key : ∀ (h : Heap) (c₁ : Nat), St 0 { s1 with heap := h } → (∀ b o, b ≠ S → s1.heap.get? b = some o → h.get? b = some o) → h.get? S = some { cls := .type "list", data := .seq #[] c₁ } →
      codeAny (model prog w) A (.builtin "list.extend.loop" ⟨[.ref S, .ref I, .ref S], []⟩) R { s1 with heap := h } := fun h c₁ st kp g => by
    refine codeAny_extend_loopS W (by rw [ln]; exact hm) S Sf (.ref S) _ 0 _ #[] c₁ rfl (Nat.zero_le _) st g (ItemsOf.nil _) fun s' acc c' mv g' hacc => ?_
    refine hR s' acc c' (es'.map fun e => iv e.2) (mv.os.trans T.os) (mv.gens.trans T.gens) (fun b o hb e => mv.heap b o (fun z => ?_) (kp b o hb (T.kept b o e))) g' ?_ T.pm
    · rcases List.mem_cons.mp z with q | q
      · exact hb q
      · rw [List.mem_singleton.mp q] at e
        exact absurd (Heap.lt_size e) (Nat.not_lt.mpr T.new)
    · have ea : acc.toList = es'.map (·.2) := List.ext_getElem? fun i => by
        rcases Nat.lt_or_ge i acc.size with z | z
        · rw [hacc.2 i acc[i] (Array.getElem?_eq_getElem z), Array.getElem?_toList, Array.getElem?_eq_getElem z]
        · rw [List.getElem?_eq_none (by simpa using z), List.getElem?_eq_none (by rw [← hacc.1]; exact z)]
      rw [ea]
      exact ints_el T.el
  have gS := T.kept _ _ ho
  refine wpAny_bind (wpAny_holding (hint_set (by obtain ⟨o, g, hc⟩ := hT; exact ⟨o, T.kept _ _ g, hc⟩) ?_))
  refine wpAny_ite_split (fun _ => ?_) (fun _ => wpAny_pure ⟨plainId_quiet PySem.F.plain_extend_loop _, key _ c T.st (fun b o _ e => e) gS⟩)
  refine wpAny_bind (wpAny_rule (wpAny_bind ?_))
  show wpAny _ _ (updateSeq S (·.push .none) >>= fun _ => updateSeq S (·.pop)) _ _ _
  refine wpAny_bind (wpAny_updateSeq gS rfl ?_)
  have g2 := Heap.get?_update_self (Obj.mapSeq (·.push Value.none)) gS rfl
  refine wpAny_updateSeq (hz := by seq_fits) g2 rfl ?_
  have g3 := Heap.get?_update_self (Obj.mapSeq (·.pop)) g2 rfl
  have kp : ∀ b o, b ≠ S → s1.heap.get? b = some o → ((s1.heap.update S (Obj.mapSeq (·.push Value.none))).update S (Obj.mapSeq (·.pop))).get? b = some o := fun b o hb e => (Heap.get?_update_other _ _ (Ne.symm hb)).trans ((Heap.get?_update_other _ _ (Ne.symm hb)).trans e)
  refine wpAny_pure ⟨plainId_quiet PySem.F.plain_extend_loop _, key _ _ ?_ kp g3⟩
  exact W.frame 0 s1 _ s1.toks T.st (Nat.le_refl _) fun b hb o e => kp b o (fun z => Sf (z ▸ hb)) e
theorem collect_set {a : Addr} {ms : List Int} {Q : List Value → Shared → Prop} (hS : SetL prog w s.heap a ms) (hm : ms.length ≤ sizeLine) (hh : A.handled = none)
    (hQ : ∀ s' vs ns, s'.os = s.os → s'.gens = s.gens → (∀ b o, s.heap.get? b = some o → s'.heap.get? b = some o) → s.heap.objs.size < s'.heap.objs.size → IntsAre vs ns → ns.Perm ms → Q vs s') : wpAny (model prog w) A (collect (.ref a)) Q E s := by
  have la : a < s.heap.objs.size := by obtain ⟨o, es, ep, t, ho, _⟩ := hS; exact Heap.lt_size ho
  unfold collect
  refine wpAny_bind (wpAny_runValue (codeAny_builtin PySem.F.entry_proto_collect ?_))
  rw [Around.under_plainId PySem.F.plain_proto_collect _]
  show wpAny _ A.in1 (newList [] >>= fun l => again (.builtin "list.__iadd__" ⟨[l, .ref a], []⟩)) _ _ s
  refine wpAny_bind (wpAny_newObj_type ?_)
  refine wpAny_pure ⟨plainId_quiet PySem.F.plain_list_iadd _, ext_set (s := { s with heap := s.heap.push { cls := .type "list", data := .seq ([] : List Value).toArray } }) (hS.at fun o e => Heap.get?_push_of_some _ e) hm hh (Nat.ne_of_gt la) (Heap.get?_push_size _ rfl) fun s' acc c' ns e1 e2 kp g hI hp => ?_⟩
  show wpAny _ A (load s.heap.objs.size >>= _) _ _ _
  refine wpAny_bind (wpAny_load g ?_)
  exact wpAny_pure (hQ s' _ ns e1 e2 (fun b o e => kp b o (Nat.ne_of_lt (Heap.lt_size e)) (Heap.get?_push_of_some _ e)) (Heap.lt_size g) hI hp)
theorem sorted_set {a : Addr} {ms : List Int} {Q : Value → Shared → Prop} (hS : SetL prog w s.heap a ms) (h64 : ms.length < 64) (hz : ms.length ≤ sizeLine) (hh : A.handled = none)
    (hQ : ∀ s' p out c ns, s'.os = s.os → s'.gens = s.gens → (∀ b o, s.heap.get? b = some o → s'.heap.get? b = some o) → s.heap.objs.size ≤ p → IntsAre out ns → ns.Perm ms → ns.Pairwise (· ≤ ·) → s'.heap.get? p = some { cls := .type "list", data := .seq out.toArray c } → Q (.ref p) s') :
    wpAny (model prog w) A (call (.builtin "sorted") [.ref a]) Q E s := by
  refine Calls.call_function_entry kind_sorted plain_sorted entry_sorted (args_sorted1 _) ?_
  unfold Builtin.«sorted»
  refine wpAny_bind (m := checkCount "sorted" 1 1 _) (wpAny_pure ?_)
  refine wpAny_bind (collect_set hS hz hh fun s1 vs is e1 e2 k1 hsz hI hp => ?_)
  have lv : vs.length < 64 := by rw [hI.length, hp.length_eq]; exact h64
  refine wpAny_bind (wpAny_newList ?_ (hsz := by rw [hI.length, hp.length_eq]; exact hz))
  have g : (s1.heap.push (seqObj "list" vs.toArray 0)).get? s1.heap.objs.size = some (seqObj "list" vs.toArray 0) := Heap.get?_push_size _ rfl
  refine wpAny_bind (wpAny_holding (wpAny_call_entry slot_list_sort ⟨_, g, rfl⟩ entry_list_sort (list_sort_tree g hI lv fun out ns a1 a2 a3 => ⟨_, rfl, ?_⟩) (args_list_sort _)))
  refine wpAny_pure ⟨_, rfl, ?_⟩
  obtain ⟨c, hc⟩ := sortedHeap_at (vs := vs) (out := out) g
  refine hQ _ s1.heap.objs.size out.toList c ns e1 e2 (fun b o e => ?_) (Nat.le_of_lt hsz) a1 (a2.trans hp) a3 (by rw [Array.toArray_toList]; exact hc)
  have q := k1 b o e
  show (sortedHeap _ _ _ _).get? b = _
  rw [sortedHeap_old (Nat.ne_of_lt (Heap.lt_size q)) (by rw [size_push']; exact Nat.lt_succ_of_lt (Heap.lt_size q))]
  exact Heap.get?_push_of_some _ q
end
end L2
set_option Elab.async false
set_option linter.all false
set_option maxRecDepth 100000
set_option maxHeartbeats 4000000
namespace L2
open PySem PyProof.Rows
/-! ### set(xs), xs a list of ints that are unlike -/
section
variable {prog : Program} {w : World} {A : Around} {E : Value → Shared → Prop} {s : Shared}
theorem ints_get : ∀ {vs : List Value} {ns : List Int} {i : Nat} {n : Int}, IntsAre vs ns → ns[i]? = some n → ∃ t, vs[i]? = some (.int n t)
  | _, _, _, _, .nil, e => by simp at e
  | _, _, 0, _, .cons m t _, e => by simp at e; subst e; exact ⟨t, rfl⟩
  | _, _, i + 1, n, .cons _ _ r, e => by
    obtain ⟨t, q⟩ := ints_get (i := i) (n := n) r (by simpa using e)
    exact ⟨t, by simpa using q⟩
theorem set_loop {R : Result → Shared → Prop} {d it l : Addr} {h₀ : Heap} {items : Array Value} {ns : List Int} (hA : A.handled = none) (hI : IntsAre items.toList ns) (hnd : ns.Nodup) (hb : ns.length + 1 < scanBound) (hli : l ≠ it) (hld : l ≠ d) (hid : it ≠ d) (hl : h₀.IsList l items)
    (hR : ∀ h' tk, (∀ b o, b ≠ it → b ≠ d → h₀.get? b = some o → h'.get? b = some o) → SetL prog w h' d ns → R (.ok (.ret .none)) { s with heap := h', toks := tk }) :
    ∀ (n i : Nat) (h : Heap) (tk : Nat), n = items.size - i → i ≤ items.size → h.IsListIter it l i → SetL prog w h d (ns.take i) → (∀ b o, b ≠ it → b ≠ d → h₀.get? b = some o → h.get? b = some o) →
      codeAny (model prog w) A (.builtin "set.update.loop" ⟨[.ref d, .ref it], []⟩) R { s with heap := h, toks := tk } := by
  have hln : ns.length = items.size := by have := IntsAre.length hI; simpa using this.symm
  intro n
  induction n with
  | zero =>
    intro i h tk hn hi hit hS kp
    have hi' : i = items.size := by omega
    have hl' : h.IsList l items := by obtain ⟨o, ho, r⟩ := hl; exact ⟨o, kp _ _ hli hld ho, r⟩
    refine codeAny_builtin F.entry_set_update_loop ?_
    rw [Around.under_plainId F.plain_set_update_loop _]
    show wpAny _ A.in1 (pyNext (.ref it) >>= _) _ _ _
    refine wpAny_bind (wpAny_pyNext_list_end (s := { s with heap := h, toks := tk }) hA hit hl' (by rw [hi']; simp) fun h2 ex => ?_)
    refine wpAny_pure (hR h2 tk (fun b o n1 n2 e => ex b o n1 (kp b o n1 n2 e)) ?_)
    rw [List.take_of_length_le (by omega)] at hS
    exact hS.at fun o e => ex d o (Ne.symm hid) e
  | succ n ih =>
    intro i h tk hn hi hit hS kp
    have hlt : i < items.size := by omega
    have hl' : h.IsList l items := by obtain ⟨o, ho, r⟩ := hl; exact ⟨o, kp _ _ hli hld ho, r⟩
    have en : ns[i]? = some ns[i] := List.getElem?_eq_getElem (by omega)
    obtain ⟨t, ex⟩ := ints_get hI en
    rw [Array.getElem?_toList] at ex
    refine codeAny_builtin F.entry_set_update_loop ?_
    rw [Around.under_plainId F.plain_set_update_loop _]
    show wpAny _ A.in1 (pyNext (.ref it) >>= _) _ _ _
    refine wpAny_bind (wpAny_pyNext_list_item (s := { s with heap := h, toks := tk }) hit hl' ex fun h2 hit2 sb => ?_)
    have hS2 := hS.at fun o e => (sb.2 d (Ne.symm hid)).trans e
    have hx : ns[i] ∉ ns.take i := fun z => by
      obtain ⟨j, e⟩ := List.mem_iff_getElem?.mp z
      rw [List.getElem?_take] at e
      split at e
      · rename_i hj
        obtain ⟨q1, q2⟩ := List.getElem?_eq_some_iff.mp e
        exact List.pairwise_iff_getElem.mp hnd j i q1 (by omega) hj q2
      · cases e
    refine wpAny_bind (wpAny_holding ?_)
    unfold setAdd
    refine wpAny_holding (wpAny_bind (wpAny_pyHash_int ?_))
    refine set_add (s := { s with heap := h2, toks := tk + 1 }) hS2 hx (by rw [List.length_take]; omega) fun h3 sb3 hS3 => ?_
    have e3 : ns.take (i + 1) = ns.take i ++ [ns[i]] := by rw [List.take_add_one, en]; rfl
    rw [← e3] at hS3
    have hit3 : h3.IsListIter it l (i + 1) := by
      obtain ⟨o, ho, r⟩ := hit2
      exact ⟨o, (sb3.2 it hid).trans ho, r⟩
    exact wpAny_pure ⟨plainId_quiet F.plain_set_update_loop _, ih (i + 1) h3 (tk + 1) (by omega) (by omega) hit3 hS3 fun b o z1 z2 e => (sb3.2 b z2).trans ((sb.2 b z1).trans (kp b o z1 z2 e))⟩
theorem fresh_set (h : Heap) : SetL prog w (h.push { cls := .type "set", dict := none, data := .set #[] 0 (.fresh 0 0 (!byTx w)) }) h.objs.size [] :=
  ⟨_, #[], 0, _, Heap.get?_push_size _ rfl, ⟨rfl, rfl, rfl⟩, rfl, ⟨fun e he => by simp at he, by simp, by decide, by rfl, rfl, fun i k x y _ ex _ => by simp [SetTable.fresh] at ex⟩⟩
theorem made_set {Q : Value → Shared → Prop} (h : Q (.ref s.heap.objs.size) { s with heap := s.heap.push { cls := .type "set", dict := none, data := .set #[] 0 (.fresh 0 0 (!byTx w)) } }) : wpAny (model prog w) A (newSet (.type "set")) Q E s := by
  unfold newSet
  refine wpAny_bind (by_text ?_)
  dsimp only
  simp only [newObj]
  exact wpAny_bind (wpAny_alloc (wpAny_pure h))
theorem code_new (v : Value) {Q₁ : Value → Shared → Prop} (h : Q₁ (.ref s.heap.objs.size) { s with heap := s.heap.push { cls := .type "set", dict := none, data := .set #[] 0 (.fresh 0 0 (!byTx w)) } }) :
    codeAny (model prog w) A (.call (.builtin "set.__new__") ⟨[.type "set", v], []⟩) (wants Q₁ E) s := by
  refine codeAny_of_tree ?_
  show wpAny _ A.in1 (do checkBuiltinCall "set.__new__" ⟨[.type "set", v], []⟩; again (.builtin "set.__new__" ⟨[.type "set", v], []⟩)) _ _ s
  refine wpAny_bind (wpAny_of_eq (F.newCall_set_1 v) (wpAny_pure ⟨plainId_quiet F.plain_set_new _, codeAny_builtin F.entry_set_new ?_⟩))
  rw [Around.under_plainId F.plain_set_new _]
  unfold Builtin.«set.__new__»
  refine wpAny_bind (wpAny_bind ?_)
  refine wpAny_pure ?_
  dsimp only
  rw [if_neg (by decide)]
  refine wpAny_bind (wpAny_of_eq (show isSubtype (.type "set") (.type "set") = pure true by rw [isSubtype_type]; kernel_rfl) ?_)
  rw [if_neg (by decide)]
  exact wpAny_pure (wpAny_bind (made_set (wpAny_pure h)))
theorem setOfList {Q : Value → Shared → Prop} {l : Addr} {items : Array Value} {n : Nat} {ns : List Int} (hA : A.handled = none) (hl : s.heap.get? l = some { cls := .type "list", data := .seq items n }) (hI : IntsAre items.toList ns) (hnd : ns.Nodup) (hb : ns.length + 1 < scanBound)
    (h : ∀ h' tk, (∀ b o, s.heap.get? b = some o → h'.get? b = some o) → SetL prog w h' s.heap.objs.size ns → Q (.ref s.heap.objs.size) { s with heap := h', toks := tk }) : wpAny (model prog w) A (call (.type "set") [.ref l]) Q E s := by
  have z1 := F.called_set.made
  have z2 := F.called_set.sub
  have z3 := F.called_set.notType
  have z4 := F.called_set.canCreate
  have z5 := F.typeCall_set_1 (.ref l)
  obtain ⟨c, tl, z6⟩ := F.called_set.mro
  have hnew := fresh_set (prog := prog) (w := w) s.heap
  have hl1 : (s.heap.push { cls := .type "set", dict := none, data := .set #[] 0 (.fresh 0 0 (!byTx w)) }).get? l = some { cls := .type "list", data := .seq items n } := Heap.get?_push_of_some _ hl
  have lts : l < s.heap.objs.size := Heap.lt_size hl
  have g0 : (s.heap.push { cls := .type "set", dict := none, data := .set #[] 0 (.fresh 0 0 (!byTx w)) }).get? s.heap.objs.size = some { cls := .type "set", dict := none, data := .set #[] 0 (.fresh 0 0 (!byTx w)) } := Heap.get?_push_size _ rfl
  refine wpAny_call (codeAny_of_tree ?_)
  show wpAny _ _ (callAny (.type "set") _) _ _ _
  refine wpAny_pure ⟨Code.quiet_builtin _ (by decide +kernel), codeAny_builtin F.entry_type_call ?_⟩
  rw [Around.under_plain (weight_type_call_type "set" [.ref l] []) rfl]
  repeat (any_goals (first | assumption | wp_step))
  refine codeAny_mono (code_new (.ref l) (E := E) (Q₁ := fun v s₁ => v = .ref s.heap.objs.size ∧ s₁ = { s with heap := s.heap.push { cls := .type "set", dict := none, data := .set #[] 0 (.fresh 0 0 (!byTx w)) } }) ⟨rfl, rfl⟩) fun r s₁ hr => ?_
  rcases r with _ | fl
  · exact hr
  cases fl with
  | ret v =>
    obtain ⟨rfl, rfl⟩ := hr
    have hT : Shared.TypeIs { s with heap := s.heap.push { cls := .type "set", dict := none, data := .set #[] 0 (.fresh 0 0 (!byTx w)) } } (.ref s.heap.objs.size) "set" := ⟨_, g0, rfl⟩
    have y1 := F.called_set.init.lookup
    have y2 := F.called_set.init.bind (.ref s.heap.objs.size)
    repeat (any_goals (first | assumption | wp_step))
    refine codeAny_mono (codeAny_call_builtin (R := wants (fun r s₂ => r = .none ∧ Q (.ref s.heap.objs.size) s₂) E) F.called_set.init.plain F.entry_set_init (check_set_init_1 hT ?_)) fun r₂ s₂ hr₂ => ?_
    · have f1 := F.sub_list_set
      have f2 := F.sub_list_frozenset
      have f3 : (Value.type "list" == Value.type "dict") = false := by decide
      unfold Builtin.«set.__init__» noKeywords Builtin.Frozenset.updateFrom
      generalize hPI : pyIter = PI
      wp_walk
      subst hPI
      have hL : Heap.IsList (s.heap.push { cls := .type "set", dict := none, data := .set #[] 0 (.fresh 0 0 (!byTx w)) }) l items := ⟨_, hl1, rfl, _, rfl⟩
      refine wpAny_pyIter_list hL ?_
      refine wpAny_bind (wpAny_runValue ?_)
      refine set_loop (d := s.heap.objs.size) (l := l) (items := items) (ns := ns) (h₀ := (s.heap.push { cls := .type "set", dict := none, data := .set #[] 0 (.fresh 0 0 (!byTx w)) }).push { cls := .type "list_iterator", data := .fields #[.ref l, .int 0 0] }) (by simp [hA]) hI hnd hb ?_ (Nat.ne_of_lt lts) ?_ (hL.push _) (fun h3 tk3 k3 hS3 => ?_) _ 0 _ _ rfl (Nat.zero_le _) ⟨_, Heap.get?_push_size _ rfl, rfl, rfl⟩ ((hnew.at fun o e => Heap.get?_push_of_some _ e).perm (by simp)) (fun b o _ _ e => e)
      · rw [Heap.size_push]; exact Nat.ne_of_lt (Nat.lt_succ_of_lt lts)
      · rw [Heap.size_push]; exact Nat.ne_of_gt (Nat.lt_succ_self _)
      · refine wpAny_pure (wpAny_pure ⟨rfl, h h3 tk3 (fun b o e => k3 b o ?_ (Nat.ne_of_lt (Heap.lt_size e)) (Heap.get?_push_of_some _ (Heap.get?_push_of_some _ e))) hS3⟩)
        rw [Heap.size_push]
        exact Nat.ne_of_lt (Nat.lt_succ_of_lt (Heap.lt_size e))
    · rcases r₂ with _ | fl₂
      · exact hr₂
      cases fl₂ with
      | ret r =>
        obtain ⟨rfl, hq⟩ := hr₂
        repeat (any_goals (first | assumption | wp_step))
      | _ => exact hr₂.elim
  | _ => exact hr.elim
end
end L2
set_option Elab.async false
set_option linter.all false
set_option maxRecDepth 100000
set_option maxHeartbeats 4000000
namespace L2
open PySem PyProof.Rows
/-! ### a & b -/
theorem entry_and : entryFor table "set.__and__" = some Builtin.«frozenset.__and__» := entryFor_alias (id' := "frozenset.__and__") (by kernel_rfl) rfl (by decide +kernel) (by kernel_rfl)
section
variable {prog : Program} {w : World} {A : Around} {E : Value → Shared → Prop} {s : Shared}
theorem SetL.type {a : Addr} {ms : List Int} (h : SetL prog w s.heap a ms) : s.TypeIs (.ref a) "set" := by obtain ⟨o, es, ep, t, ho, hx, _⟩ := h; exact ⟨o, ho, hx.1⟩
theorem sub_ss : isSubtype (.type "set") (.type "set") = pure true := by rw [isSubtype_type]; kernel_rfl
theorem any_set {v : Value} {Q : Bool → Shared → Prop} (hT : s.TypeIs v "set") (h : Q true s) : wpAny (model prog w) A (Builtin.Frozenset.isAnySet v) Q E s := by
  unfold Builtin.Frozenset.isAnySet
  refine wpAny_bind (wpAny_isInstance hT sub_ss ?_)
  exact wpAny_pure h
theorem size_set {a : Addr} {ms : List Int} {Q : Nat → Shared → Prop} (hS : SetL prog w s.heap a ms) (h : Q ms.length s) : wpAny (model prog w) A (Builtin.Frozenset.sizeOf a) Q E s := by
  obtain ⟨o, es, ep, t, ho, hx, hd, D⟩ := hS
  unfold Builtin.Frozenset.sizeOf
  refine wpAny_bind (wpAny_setEntries_of ho hd D.ft (wpAny_pure ?_))
  rw [D.len]
  exact h
theorem quiet_sets : ∀ (l : List Addr) (Q : Bool → Shared → Prop), (∀ a ∈ l, ∃ ms, SetL prog w s.heap a ms) → Q true s → wpAny (model prog w) A (setsQuiet l) Q E s := fun l Q hl h => by
  unfold setsQuiet
  refine wpAny_bind ?_
  refine wpAny_forIn_list _ (fun rest r s' => r.1 = none ∧ s' = s ∧ ∀ a ∈ rest, a ∈ l) _ ?_ ?_ _ _ ⟨rfl, rfl, fun _ z => z⟩
  · rintro a rest r s' ⟨hr, rfl, hm⟩
    obtain ⟨ms, o, es, ep, t, ho, hx, hd, D⟩ := hl a (hm a (List.mem_cons_self ..))
    refine wpAny_bind (wpAny_setEntries_of ho hd D.ft ?_)
    refine wpAny_bind ?_
    rw [← Array.forIn_toList]
    refine wpAny_forIn_list _ (fun rest r s1 => r.1 = none ∧ s1 = s' ∧ ∀ e ∈ rest, e ∈ es.toList) _ ?_ ?_ _ _ ⟨rfl, rfl, fun _ z => z⟩
    · rintro ⟨k, x⟩ rest r s1 ⟨hr, rfl, he⟩
      obtain ⟨tk, ee⟩ := el_int D.el (he _ (List.mem_cons_self ..))
      have e2 : x = .int (iv x) tk := congrArg Prod.snd ee
      rw [e2]
      exact wpAny_pure ⟨rfl, rfl, fun e z => he e (List.mem_cons_of_mem _ z)⟩
    · rintro ⟨r1, r2⟩ s1 ⟨hr, rfl, _⟩
      dsimp only at hr
      subst hr
      exact wpAny_pure ⟨rfl, rfl, fun b z => hm b (List.mem_cons_of_mem _ z)⟩
  · rintro ⟨r1, r2⟩ s' ⟨hr, rfl, _⟩
    dsimp only at hr
    subst hr
    exact wpAny_pure h
theorem walk_unseen {a r : Addr} {others : List Addr} {ms rs : List Int} {Q : Array (Int × Value) → Shared → Prop} (hS : SetL prog w s.heap a ms) (hR : SetL prog w s.heap r rs) (har : a ≠ r) (ho : ∀ b ∈ others, ∃ ms, SetL prog w s.heap b ms)
    (h : ∀ es' h' d, ElemsOf (intKind prog w) es'.toList → (es'.toList.map fun e => iv e.2).Perm ms → Heap.SameBut r s.heap h' → SetL prog w h' r rs → Q es' { s with heap := h', drawn := d }) : wpAny (model prog w) A (setWalkUnseen a others (some r)) Q E s := by
  obtain ⟨o, es, ep, t, hoa, hx, hd, D⟩ := id hS
  have hwalk : wpAny (model prog w) A (setWalk a) Q E s := set_walk hoa hd D.ft D.ld fun es' d p => by
    have e1 := perm_ints D p
    exact h es' s.heap d e1.1 e1.2 (Heap.SameBut.refl r s.heap) hR
  unfold setWalkUnseen
  refine wpAny_bind (wpAny_setState_of hoa hd D.ft ?_)
  dsimp only
  refine wpAny_bind (by_text ?_)
  refine wpAny_ite_split (fun _ => hwalk) (fun h1 => ?_)
  refine wpAny_bind (quiet_sets _ _ (fun b hb => ?_) ?_)
  · rcases List.mem_cons.mp hb with z | z
    · subst z; exact ⟨ms, hS⟩
    · exact ho b z
  rw [if_neg (by decide)]
  refine wpAny_bind (wpAny_rule ?_)
  obtain ⟨o2, es2, ep2, t2, ho2, hx2, hd2, D2⟩ := id hR
  refine wpAny_bind (wpAny_setState_of ho2 hd2 D2.ft ?_)
  dsimp only
  have hb : byTx w = false := by
    cases q : byTx w with
    | false => rfl
    | true => exact absurd (by rw [q]; simp) h1
  have l1 : t.led = true := by have := D.ld.1; rw [hb] at this; exact this
  have l2 : t2.led = true := by have := D2.ld.1; rw [hb] at this; exact this
  refine wpAny_ite_split (fun _ => ?_) (fun _ => wpAny_pure (h es s.heap s.drawn D.el D.pm (Heap.SameBut.refl r s.heap) hR))
  refine wpAny_bind (wpAny_storeSet_of ho2 hd2 ?_ (fits_of_scanBound D2.sz))
  have D3 : SetD prog w es2 { t2 with led := t2.led && t.led, plain := t2.plain && t.plain } rs := ⟨D2.el, D2.pm, D2.sz, D2.ft, by rw [hb, l1, l2]; rfl, D2.ld.2⟩
  exact wpAny_pure (h es _ s.drawn D.el D.pm (Heap.SameBut.update ..) (setL_put ho2 hx2 hd2 D3).2)
theorem inter_set {nm : String} {a b : Addr} {ms ns : List Int} {Q : Value → Shared → Prop} (ha : SetL prog w s.heap a ms) (hb : SetL prog w s.heap b ns) (hab : a ≠ b) (hm : ms.Nodup) (hn : ns.Nodup) (h1 : ms.length + 1 < scanBound) (h2 : ns.length + 1 < scanBound)
    (h : ∀ s' rs, s'.os = s.os → s'.gens = s.gens → (∀ c o, s.heap.get? c = some o → s'.heap.get? c = some o) → SetL prog w s'.heap s.heap.objs.size rs → rs.Nodup → (∀ x, x ∈ rs ↔ x ∈ ms ∧ x ∈ ns) → Q (.ref s.heap.objs.size) s') :
    wpAny (model prog w) A (Builtin.Frozenset.intersection nm a (.ref b)) Q E s := by
  have la : a < s.heap.objs.size := by obtain ⟨o, _, _, _, g, _⟩ := ha; exact Heap.lt_size g
  have lb : b < s.heap.objs.size := by obtain ⟨o, _, _, _, g, _⟩ := hb; exact Heap.lt_size g
  unfold Builtin.Frozenset.intersection
  rw [if_neg (by intro z; exact hab (by have := eq_of_beq z; injection this with q; exact q.symm))]
  unfold Builtin.Frozenset.baseOf
  refine wpAny_bind (wpAny_bind (wpAny_isInstance ha.type sub_ss (wpAny_pure ?_)))
  rw [if_pos rfl]
  refine wpAny_bind (made_set ?_)
  refine wpAny_bind (wpAny_pure ?_)
  generalize hr : s.heap.objs.size = r at *
  have hR := fresh_set (prog := prog) (w := w) s.heap
  rw [hr] at hR
  have kp : ∀ c o, s.heap.get? c = some o → (s.heap.push { cls := .type "set", dict := none, data := .set #[] 0 (.fresh 0 0 (!byTx w)) }).get? c = some o := fun c o e => Heap.get?_push_of_some _ e
  generalize (s.heap.push { cls := .type "set", dict := none, data := .set #[] 0 (.fresh 0 0 (!byTx w)) }) = h0 at hR kp ⊢
  have ha0 := ha.at (fun o e => kp _ o e)
  have hb0 := hb.at (fun o e => kp _ o e)
  refine wpAny_bind (wpAny_holding ?_)
  refine wpAny_bind (any_set (s := { s with heap := h0 }) hb0.type ?_)
  rw [if_pos rfl]
  refine wpAny_bind (wpAny_pure ?_)
  refine wpAny_bind (size_set (s := { s with heap := h0 }) hb0 ?_)
  refine wpAny_bind (size_set (s := { s with heap := h0 }) ha0 ?_)
  have pr : ∃ (k g : Addr) (ks gs : List Int), (if ns.length > ms.length then (b, a) else (a, b)) = (k, g) ∧ SetL prog w h0 k ks ∧ SetL prog w h0 g gs ∧ gs.Nodup ∧ gs.length + 1 < scanBound ∧ k ≠ r ∧ g ≠ r ∧ ∀ x, (x ∈ gs ∧ x ∈ ks) ↔ (x ∈ ms ∧ x ∈ ns) := by
    by_cases z : ns.length > ms.length
    · exact ⟨b, a, ns, ms, by rw [if_pos z], hb0, ha0, hm, h1, Nat.ne_of_lt lb, Nat.ne_of_lt la, fun x => Iff.rfl⟩
    · exact ⟨a, b, ms, ns, by rw [if_neg z], ha0, hb0, hn, h2, Nat.ne_of_lt la, Nat.ne_of_lt lb, fun x => And.comm⟩
  obtain ⟨k, g, ks, gs, e0, hk, hg, hgn, hgl, nk, ng, hmem⟩ := pr
  rw [e0]
  dsimp only
  obtain ⟨og, eg, epg, tg, gog, xg, dg, DG⟩ := id hg
  refine wpAny_bind (wpAny_setEpoch_of (s := { s with heap := h0 }) gog dg DG.ft ?_)
  refine wpAny_bind (walk_unseen (s := { s with heap := h0 }) hg hR ng (fun c hc => ?_) fun es' h' d e1 e2 sb hR' => ?_)
  · simp only [List.mem_cons, List.not_mem_nil, or_false] at hc
    rcases hc with z | z
    · subst z; exact ⟨_, hk⟩
    · subst z; exact ⟨_, hR⟩
  have nd : (es'.toList.map fun e => iv e.2).Nodup := e2.nodup_iff.mpr hgn
  refine wpAny_bind ?_
  rw [← Array.forIn_toList]
  refine wpAny_forIn_list _ (fun rest _ s' => s'.os = s.os ∧ s'.gens = s.gens ∧ Heap.SameBut r h0 s'.heap ∧ ∃ dn, es'.toList = dn ++ rest ∧ SetL prog w s'.heap r ((dn.map fun e => iv e.2).filter fun x => decide (x ∈ ks))) _ ?_ ?_ _ _ ⟨rfl, rfl, sb, [], rfl, hR'⟩
  · rintro ⟨hh, x⟩ rest u s' ⟨q1, q2, q3, dn, q4, q5⟩
    obtain ⟨tk, ee⟩ := el_int e1 (e := (hh, x)) (by rw [q4]; simp)
    have x1 : hh = hashInt (iv x) := congrArg Prod.fst ee
    have x2 : x = .int (iv x) tk := congrArg Prod.snd ee
    generalize iv x = i at x1 x2
    subst x1 x2
    have hk' := hk.at fun o e => (q3.2 k nk).trans e
    have ho' : s'.heap.get? g = some og := (q3.2 g ng).trans gog
    have len : ((dn.map fun e => iv e.2).filter fun x => decide (x ∈ ks)).length + 1 < scanBound := by
      have := List.length_filter_le (fun x => decide (x ∈ ks)) (dn.map fun e => iv e.2)
      have z := e2.length_eq
      rw [q4] at z
      simp only [List.map_append, List.length_append, List.length_map, List.length_cons, List.map_cons] at z this ⊢
      omega
    have nin : i ∉ dn.map fun e => iv e.2 := fun z => by
      rw [q4, List.map_append, List.map_cons] at nd
      exact (List.nodup_append.mp nd).2.2 _ z _ (List.mem_cons_self ..) rfl
    have after : ∀ (s2 : Shared), s2.os = s.os → s2.gens = s.gens → Heap.SameBut r h0 s2.heap → SetL prog w s2.heap r (((dn ++ [(hashInt i, Value.int i tk)]).map fun e => iv e.2).filter fun x => decide (x ∈ ks)) →
        wpAny (model prog w) A (Builtin.Frozenset.unchanged nm g epg) (fun _ s3 => s3.os = s.os ∧ s3.gens = s.gens ∧ Heap.SameBut r h0 s3.heap ∧ ∃ dn, es'.toList = dn ++ rest ∧ SetL prog w s3.heap r ((dn.map fun e => iv e.2).filter fun x => decide (x ∈ ks))) E s2 := fun s2 a1 a2 a3 a4 => by
      unfold Builtin.Frozenset.unchanged
      refine wpAny_bind (wpAny_setEpoch_of ((a3.2 g ng).trans gog) dg DG.ft ?_)
      rw [if_neg (by simp)]
      exact wpAny_pure ⟨a1, a2, a3, dn ++ [(hashInt i, Value.int i tk)], by rw [q4]; simp, a4⟩
    refine wpAny_bind (wpAny_holding (wpAny_bind ?_))
    refine wpAny_setFind_of (knd := intKind prog w) (k := i) (intKind_is _ _ _ _) rfl hk'.setOf fun rr hrr => ?_
    have em : ((dn ++ [(hashInt i, Value.int i tk)]).map fun e => iv e.2) = (dn.map fun e => iv e.2) ++ [i] := by simp [iv]
    rw [hrr]
    by_cases hi : i ∈ ks
    · rw [if_pos (decide_eq_true hi)]
      refine wpAny_bind (set_add q5 (fun z => nin (List.mem_filter.mp z).1) len fun h3 sb3 hS3 => wpAny_pure ?_)
      refine wpAny_bind (wpAny_mono (after _ q1 q2 (q3.trans sb3) ?_) (fun _ _ z => wpAny_pure z) fun _ _ z => z)
      rw [em, List.filter_append]
      simpa [hi] using hS3
    · rw [if_neg (by simpa using hi)]
      refine wpAny_pure ?_
      refine wpAny_bind (wpAny_mono (after _ q1 q2 q3 ?_) (fun _ _ z => wpAny_pure z) fun _ _ z => z)
      rw [em, List.filter_append]
      simpa [hi] using q5
  · rintro u s' ⟨q1, q2, q3, dn, q4, q5⟩
    rw [List.append_nil] at q4
    rw [← q4] at q5
    refine wpAny_pure (wpAny_pure (h s' _ q1 q2 (fun c o e => ?_) q5 (nd.filter _) fun x => ?_))
    · have lc := Heap.lt_size e
      rw [hr] at lc
      exact (q3.2 c (Nat.ne_of_lt lc)).trans (kp c o e)
    · rw [List.mem_filter, e2.mem_iff, decide_eq_true_eq, hmem]
theorem and_set {a b : Addr} {ms ns : List Int} {Q : Value → Shared → Prop} (ha : SetL prog w s.heap a ms) (hb : SetL prog w s.heap b ns) (hab : a ≠ b) (hm : ms.Nodup) (hn : ns.Nodup) (h1 : ms.length + 1 < scanBound) (h2 : ns.length + 1 < scanBound)
    (h : ∀ s' rs, s'.os = s.os → s'.gens = s.gens → (∀ c o, s.heap.get? c = some o → s'.heap.get? c = some o) → SetL prog w s'.heap s.heap.objs.size rs → rs.Nodup → (∀ x, x ∈ rs ↔ x ∈ ms ∧ x ∈ ns) → Q (.ref s.heap.objs.size) s') :
    wpAny (model prog w) A (binaryOp .BitAnd (.ref a) (.ref b)) Q E s := by
  refine wpAny_binaryOp_same ha.type hb.type F.fills_set_and F.slot_set_and (wpAny_call_entry F.slot_set_and ha.type entry_and ?_ (F.args_set_and_2 _ _))
  show wpAny _ _ (Builtin.Frozenset.slot1 "__and__" ⟨[.ref a, .ref b], []⟩ >>= _) _ _ _
  refine wpAny_bind (wpAny_pure ?_)
  dsimp only
  refine wpAny_bind ?_
  refine wpAny_bind (any_set ha.type ?_)
  refine any_set hb.type ?_
  refine wpAny_bind (wpAny_pure ?_)
  refine wpAny_bind (inter_set ha hb hab hm hn h1 h2 fun s' rs q1 q2 q3 q4 q5 q6 => ?_)
  exact wpAny_pure ⟨_, rfl, (fun z => by cases z), h s' rs q1 q2 q3 q4 q5 q6⟩
end
end L2
set_option Elab.async false
set_option linter.all false
set_option maxRecDepth 100000
set_option maxHeartbeats 4000000
namespace L2
open PySem PySem.Spec PyProof.Rows
/-! ### sets of ints, as things of the heap -/
def setO (P : Program) (w : World) (p : Addr) (ms : List Int) : HO := .ext fun h => SetL P w h p ms
theorem set_ok {P : Program} {w : World} {H : Hp} {h : Heap} {p : Addr} {ms : List Int} (x : SetL P w h p ms) : ObjOk P w H h p (setO P w p ms) := by
  refine ⟨x, ?_, fun h1 h2 y k => y.at k⟩
  obtain ⟨o, _, _, _, g, _⟩ := x
  exact ⟨o, g⟩
section
variable {X : Cx} {pins : List (Addr × Obj)} {σ : St} {H : Hp} {s : Shared}
theorem Inv.like {s2 : Shared} (I : Inv X pins σ H s) (h1 : s2.heap = s.heap) (h2 : s2.os = s.os) (h3 : s2.gens = s.gens) : Inv X pins σ H s2 := by
  obtain ⟨hp, g, d, tk, os⟩ := s2
  dsimp only at h1 h2 h3
  subst h1 h2 h3
  exact ⟨I.ok, I.os, I.bare, I.base, I.loc, I.cell, I.free, I.freeC, I.pin, I.hok, I.len⟩
theorem Inv.laidS {s2 : Shared} {a : Addr} {o : HO} (I : Inv X pins σ H s) (h2 : s2.os = s.os) (h3 : s2.gens = s.gens) (k : ∀ b u, s.heap.get? b = some u → s2.heap.get? b = some u) (hp : s.heap.objs.size ≤ a) (new : ObjOk X.prog X.w (upd H a o) s2.heap a o) : Inv X pins σ (upd H a o) s2 :=
  (I.laid (t' := s2.toks) k hp new).like rfl h2 h3
theorem set_of (I : Inv X pins σ H s) {a : Addr} {ms : List Int} (h : H a = some (setO X.prog X.w a ms)) : SetL X.prog X.w s.heap a ms := (I.hok a _ h).1
theorem tb_set : bootBuiltins "set" = some (.type "set") := by decide +kernel
theorem scan64 {n : Nat} (h : n < 1000) : n + 1 < scanBound := by unfold scanBound; omega
/-- set(xs) -/
def rSetOf (P : Program) (w : World) : List V → Hp → VK → Prop := fun xs H Q => ∃ (a : Addr) (ns : List Int), xs = [.ref a] ∧ H a = some (.lst (ns.map V.int)) ∧ ns.Nodup ∧ ns.length < 1000 ∧ ∀ p, H p = none → Q (.ref p) (upd H p (setO P w p ns))
theorem call_setOf (hc : X.calm = true) : CallR X (.type "set") (rSetOf X.prog X.w) := by
  intro pins s σ H xs us Q I r h
  obtain ⟨a, ns, rfl, ha, nd, hl, q⟩ := h
  obtain ⟨u, rfl, ru⟩ := vals1 r
  cases ru
  obtain ⟨z, its, n, rv, _, e⟩ := I.lstM ha
  refine setOfList (I.ok.hd hc) e (by simpa using ints_vals rv) nd (scan64 hl) fun h' tk k1 hS => ?_
  exact ⟨.ref s.heap.objs.size, _, I.laid (a := s.heap.objs.size) (o := setO X.prog X.w s.heap.objs.size ns) (t' := tk) k1 (Nat.le_refl _) (set_ok hS), rfl, q _ (I.hok.fresh (Nat.le_refl _))⟩
/-- a & b -/
def rAndS (P : Program) (w : World) : R2 := fun x y H Q => ∃ (a b : Addr) (ms ns : List Int), x = .ref a ∧ y = .ref b ∧ H a = some (setO P w a ms) ∧ H b = some (setO P w b ns) ∧ a ≠ b ∧ ms.Nodup ∧ ns.Nodup ∧ ms.length < 1000 ∧ ns.length < 1000 ∧
  ∀ (p : Addr) (rs : List Int), H p = none → rs.Nodup → (∀ x, x ∈ rs ↔ x ∈ ms ∧ x ∈ ns) → Q (.ref p) (upd H p (setO P w p rs))
theorem op_andS : OpR X (binaryOp .BitAnd) (rAndS X.prog X.w) := by
  intro pins s σ H x y v u Q I rx ry h
  obtain ⟨a, b, ms, ns, rfl, rfl, ha, hb, hab, n1, n2, l1, l2, q⟩ := h
  cases rx
  cases ry
  refine and_set (set_of I ha) (set_of I hb) hab n1 n2 (scan64 l1) (scan64 l2) fun s' rs e1 e2 k hS nd hm => ?_
  exact ⟨.ref s.heap.objs.size, _, I.laidS e1 e2 k (Nat.le_refl _) (set_ok hS), rfl, q _ rs (I.hok.fresh (Nat.le_refl _)) nd hm⟩
/-- sorted(s) -/
def rSortS (P : Program) (w : World) : List V → Hp → VK → Prop := fun xs H Q => ∃ (a : Addr) (ms : List Int), xs = [.ref a] ∧ H a = some (setO P w a ms) ∧ ms.length < 64 ∧ ∀ (p : Addr) (ns : List Int), H p = none → ns.Perm ms → ns.Pairwise (· ≤ ·) → Q (.ref p) (upd H p (.lst (ns.map V.int)))
theorem call_sortS (hc : X.calm = true) : CallR X (.builtin "sorted") (rSortS X.prog X.w) := by
  intro pins s σ H xs us Q I r h
  obtain ⟨a, ms, rfl, ha, h64, q⟩ := h
  obtain ⟨u, rfl, ru⟩ := vals1 r
  cases ru
  refine sorted_set (set_of I ha) h64 (nn' h64) (I.ok.hd hc) fun s' p out c ns e1 e2 k hp hI pm so hg => ?_
  exact ⟨.ref p, _, I.laidS (o := .lst (ns.map V.int)) e1 e2 k hp ⟨by rw [List.length_map, pm.length_eq]; exact nn' h64, out, c, vals_of_ints hI, hg⟩, rfl, q p ns (I.hok.fresh hp) pm so⟩
end
/-! ### sorted(d), d a dict of ints in any order -/
section
variable {prog : Program} {w : World} {A : Around} {E : Value → Shared → Prop} {s : Shared} {T : String} {r d : Addr} {n : Nat} {P : Nat → Value → Prop} {OK : Heap → Prop}
theorem sorted_srcP {Q : Value → Shared → Prop} {ns : List Int} (K : PySem.W.KdlSrc prog w T r d n P OK) (hh : A.handled = none) (hok : OK s.heap) (hn : n ≤ sizeLine) (hP : ∀ acc, ItemsOf P acc n → IntsAre acc.toList ns) (h64 : n < 64)
    (hQ : ∀ h' tk a out c ns', (∀ b o, s.heap.get? b = some o → h'.get? b = some o) → s.heap.objs.size ≤ a → IntsAre out ns' → ns'.Perm ns → ns'.Pairwise (· ≤ ·) → h'.get? a = some { cls := .type "list", data := .seq out.toArray c } → Q (.ref a) { s with heap := h', toks := tk }) :
    wpAny (model prog w) A (call (.builtin "sorted") [.ref r]) Q E s := by
  refine Calls.call_function_entry kind_sorted plain_sorted entry_sorted (args_sorted1 _) ?_
  unfold Builtin.«sorted»
  refine wpAny_bind (m := checkCount "sorted" 1 1 _) (wpAny_pure (wpAny_bind (collect_src K hh hok hn fun h1 tk acc k1 hsz hacc => ?_)))
  have hl64 : acc.toList.length < 64 := by rw [Array.length_toList, hacc.1]; exact h64
  refine wpAny_bind (wpAny_newList ?_ (hsz := nn' hl64))
  have g : (h1.push (seqObj "list" acc.toList.toArray 0)).get? h1.objs.size = some (seqObj "list" acc.toList.toArray 0) := Heap.get?_push_size _ rfl
  refine wpAny_bind (wpAny_holding (wpAny_call_entry slot_list_sort ⟨_, g, rfl⟩ entry_list_sort (list_sort_tree g (hP acc hacc) hl64 fun out ns' a1 a2 a3 => ⟨_, rfl, wpAny_pure ⟨_, rfl, ?_⟩⟩) (args_list_sort _)))
  obtain ⟨c, hc⟩ := sortedHeap_at (vs := acc.toList) (out := out) g
  refine hQ _ tk h1.objs.size out.toList c ns' (fun b o e => ?_) (Nat.le_of_lt hsz) a1 a2 a3 (by rw [Array.toArray_toList]; exact hc)
  have e1 := k1 b o e
  rw [sortedHeap_old (Nat.ne_of_lt (Heap.lt_size e1)) (by rw [size_push']; exact Nat.lt_succ_of_lt (Heap.lt_size e1))]
  exact Heap.get?_push_of_some _ e1
end
section
variable {X : Cx}
def rSortDP : List V → Hp → VK → Prop := fun xs H Q => ∃ (a : Addr) (kvs : List (Key × V)) (ns : List Int), xs = [.ref a] ∧ H a = some (.dK kvs) ∧ kvs.map (·.1) = ns.map Sum.inl ∧ ns.length < 64 ∧ ∀ (p : Addr) (ns' : List Int), H p = none → ns'.Perm ns → ns'.Pairwise (· ≤ ·) → Q (.ref p) (upd H p (.lst (ns'.map V.int)))
theorem call_sortDP (hc : X.calm = true) : CallR X (.builtin "sorted") rSortDP := by
  intro pins s σ H xs us Q I r h
  obtain ⟨a, kvs, ns, rfl, ha, hk, h64, q⟩ := h
  obtain ⟨u, rfl, ru⟩ := vals1 r
  cases ru
  obtain ⟨z, lo, vs, kv, hD⟩ := dk_of I.hok ha
  have ln : ns.length = kvs.length := by have := congrArg List.length hk; simpa using this.symm
  have lv := KV.length kv
  obtain ⟨ep, hA⟩ := hD.dictAt
  refine sorted_srcP (ns := ns) (PySem.W.kdl_dict (knd := mixKind X.prog X.w) (kvs := vs) (ep := ep) lo) (I.ok.hd hc) hA (by omega) (fun acc hacc => ints_keys kv hk acc.toList (by rw [Array.length_toList]; exact hacc.1) fun i v e => hacc.2 i v (by rw [← Array.getElem?_toList]; exact e)) (by omega) fun h' tk p out c ns' k1 hp hI pm so hg => ?_
  exact ⟨.ref p, _, I.laid (a := p) (o := .lst (ns'.map V.int)) (t' := tk) k1 hp ⟨by rw [List.length_map, pm.length_eq]; exact nn' h64, out, c, vals_of_ints hI, hg⟩, rfl, q p ns' (I.hok.fresh hp) pm so⟩
end
end L2
set_option Elab.async false
set_option linter.all false
set_option maxRecDepth 100000
set_option maxHeartbeats 8000000
namespace Tw
open PySem PySem.Spec L2 PyProof.Rows
theorem same_put {H H' : Hp} {a : Addr} {o : HO} (s : Same H H') (n : H a = none) : Same H (upd H' a o) := fun b u e => by rw [upd_ne (ne_of_none e n)]; exact s b u e
theorem in_ints (x : Int) (ns : List Int) : inV (.int x) (ns.map V.int) = decide (x ∈ ns) := by
  unfold inV
  rw [List.any_map]
  induction ns with
  | nil => rfl
  | cons n ns ih =>
    rw [List.any_cons, ih]
    have e : ((fun y => eqV y (V.int x)) ∘ V.int) n = decide (n = x) := by
      show eqV (.int n) (.int x) = _
      rw [Bool.eq_iff_iff]
      simp [eqV]
    rw [e]
    by_cases h : n = x
    · subst h; simp
    · have : ¬ x = n := fun z => h z.symm
      simp [h, this]
theorem flat_ints (ns : List Int) : (ns.map V.int).all flatV = true := by
  rw [List.all_map]
  exact List.all_eq_true.mpr fun _ _ => rfl
/-- a dict of elders -/
def DictE (H : Hp) (ks : List Int) (e : Int → List Int) (kvs : List (Key × V)) : Prop := kvs.map (·.1) = ks.map Sum.inl ∧ ∀ n ∈ ks, ∃ a, valV kvs (.inl n) = some (.ref a) ∧ H a = some (.lst ((e n).map V.int))
theorem DictE.same {H H' : Hp} {ks : List Int} {e : Int → List Int} {kvs : List (Key × V)} (h : DictE H ks e kvs) (s : Same H H') : DictE H' ks e kvs := ⟨h.1, fun n hn => by
  obtain ⟨a, e1, e2⟩ := h.2 n hn
  exact ⟨a, e1, s _ _ e2⟩⟩
section
variable {P : Program} {w : World} {K : PySem.W.Frag} {mg : Str → Option Value} {base : Heap} {f : Addr} {fd : FuncData}
/-! ### reach -/
def spReach : Sp := fun vs H Q _ => ∃ (d : Addr) (n : Int) (ks : List Int) (e : Int → List Int) (kvs : List (Key × V)), vs = [.ref d, .int n] ∧ H d = some (.dK kvs) ∧ DictE H ks e kvs ∧ Elds ks e ∧ n ∈ ks ∧ ks.length < 64 ∧
  ∀ (H' : Hp) (p : Addr) (ns : List Int), Same H H' → H p = none → H' p = some (.lst (ns.map V.int)) → IsR (Rch e n) ns → Q (.ref p) H'
theorem keys_val {kvs : List (Key × V)} {found : List Int} (h : kvs.map (·.1) = found.map Sum.inl) (y : Int) : (valV kvs (.inl y)).isSome = decide (y ∈ found) := by
  cases e : valV kvs (Sum.inl y) with
  | none =>
    have := valV_not e
    rw [h] at this
    symm
    simp only [Option.isSome_none, decide_eq_false_iff_not]
    exact fun z => this (List.mem_map_of_mem z)
  | some v =>
    have := valV_in e
    rw [h] at this
    obtain ⟨z, hz, ez⟩ := List.mem_map.mp this
    cases ez
    simp [hz]
theorem scReach : FnScope ["elders", "number", "found", "waiting", "younger", "elder"] ["elders", "number"] (defScope sReach) := ⟨rfl, rfl, rfl, by decide +kernel, rfl, by decide +kernel, by decide +kernel⟩
theorem ok_reach (F : Fun K "reach" "reach" sReach f fd) (T : Txt mg) : FnOk P w K mg base CX0 1 f fd ["elders", "number"] spReach := by
  refine F.ok scReach (fun vs H Q E h => (by obtain ⟨_, _, _, _, _, rfl, _⟩ := h; rfl)) (fun cdv A outer s H vs Q E hr h => ?_)
  obtain ⟨d, n, ks, e, kvs, rfl, hd, hE, E1, hn, h64, k⟩ := h
  have nd := scReach.nd
  have hu := hu_of hr
  refine ⟨_, pss_cons (ps_set (i := 2) nd rfl (Or.inl rfl) (pe_disp (pps_cons (pv 1) pe_bl pps_nil) rfl rfl (by intro z; cases z) (by decide))) (pss_cons (ps_set (i := 3) nd rfl (Or.inl rfl) (pe_lst (pa_c (pv 1) pa_nil)))
    (pss_cons (ps_while PassesOwn.never (pt_cmpR (tw_neNil hr.units0) (pv 3) (pe_lst pa_nil) (nomark _))
      (pss_cons (ps_set (i := 4) nd rfl (Or.inl rfl) (pe_bm0 PySem.F.plainAttrs_list PySem.F.slot_list_pop PySem.F.type_list_pop mt_pop (pv 3)))
      (pss_one (ps_for PassesOwn.never rfl (pi_list (pe_dget hu (pv 0) (pv 4) (fun _ _ => rfl))) (pg_name (i := 5) nd rfl (Or.inl rfl))
        (pss_one (ps_if (pt_cmp (pc_dnotin hu (pv 5) (pv 2)))
          (pss_cons (ps_dput hu (pv 2) (pv 5) pe_bl rfl)
          (pss_one (ps_expr (pe_bm PySem.F.plainAttrs_list PySem.F.slot_list_append PySem.F.type_list_append mt_append (pv 3) (pa_c (pv 5) pa_nil))))) pss_nil))))))
    (pss_one (ps_ret (pe_callB (call_sortDP rfl) rfl T.sorted tb_sorted (pa_c (pv 2) pa_nil)))))), ?_⟩
  intro fa nfa
  refine ⟨_, rfl, upd_same, [(Sum.inl n, .bl true)], rfl, by simp, ?_⟩
  rw [upd_upd]
  refine ⟨_, rfl, nn (Nat.le_of_ble_eq_true rfl), fun wa nwa => ?_⟩
  have faw : fa ≠ wa := fun z => by rw [← z, upd_same] at nwa; cases nwa
  have nwa' : H wa = none := by rw [upd_ne (Ne.symm faw)] at nwa; exact nwa
  refine ⟨fun m σ H' => ∃ (kv : List (Key × V)) (found wait : List Int) (o o5 : Option V), m = wait.length + left ks found ∧ σ = [some (.ref d), some (.int n), some (.ref fa), some (.ref wa), o, o5] ∧ Same H H' ∧ H' fa = some (.dK kv) ∧ kv.map (·.1) = found.map Sum.inl ∧ H' wa = some (.lst (wait.map V.int)) ∧ WI ks e n found wait,
    ⟨_, [(Sum.inl n, .bl true)], [n], [n], none, none, rfl, rfl, same_put (same_new nfa _) nwa', by rw [upd_ne faw]; exact upd_same, rfl, upd_same, WI.start hn⟩, ?_⟩
  rintro m σ H1 ⟨kv, found, wait, o4, o5, rfl, rfl, s1, hfa, hkv, hwa, I⟩
  refine ⟨_, rfl, nn (Nat.le_of_ble_eq_true rfl), fun e0 he0 => ?_⟩
  have g0 := same_new he0 (.lst [])
  refine ⟨wa, e0, wait.map V.int, rfl, rfl, SqL.of (g0 _ _ hwa), SqL.of upd_same, _, rfl, ?_⟩
  have hfa1 := g0 _ _ hfa
  have hwa1 := g0 _ _ hwa
  have s2 := s1.trans g0
  generalize upd H1 e0 (.lst []) = H2 at hfa1 hwa1 s2 ⊢
  have l1 := I.l1
  cases wait with
  | nil =>
    refine iteF ?_
    refine ⟨_, rfl, fa, kv, found, rfl, hfa1, hkv, by omega, fun p ns np pm so => ?_⟩
    exact k _ p ns (same_put s2 (Same.free s2 np)) (Same.free s2 np) upd_same (I.done pm so)
  | cons w0 ws =>
    refine iteT ⟨_, fun _ _ z => z, ?_⟩
    obtain ⟨x, hx⟩ : ∃ x, (w0 :: ws)[(w0 :: ws).length - 1]? = some x := ⟨_, List.getElem?_eq_getElem (by simp)⟩
    have hlw : ((w0 :: ws).map V.int).length - 1 = (w0 :: ws).length - 1 := by rw [List.length_map]
    refine ⟨_, rfl, .inl ⟨rfl, _, SqL.of hwa1⟩, wa, (w0 :: ws).map V.int, .int x, rfl, rfl, hwa1, by rw [hlw, List.getElem?_map, hx]; rfl, ?_⟩
    have J := FI.start I hx
    have xk := rch_in E1 hn (J.fr x J.xf)
    have hw3 : upd H2 wa (.lst ((w0 :: ws).map V.int).dropLast) wa = some (.lst ((w0 :: ws).dropLast.map V.int)) := by rw [upd_same, List.map_dropLast]
    have hf3 : upd H2 wa (.lst ((w0 :: ws).map V.int).dropLast) fa = some (.dK kv) := by rw [upd_ne faw]; exact hfa1
    have s3 : Same H (upd H2 wa (.lst ((w0 :: ws).map V.int).dropLast)) := same_put s2 nwa'
    generalize upd H2 wa (.lst ((w0 :: ws).map V.int).dropLast) = H3 at hw3 hf3 s3 ⊢
    obtain ⟨a, ea, ha⟩ := hE.2 x xk
    have hg : DGet H3 d (.int x) (some (.ref a)) := ea ▸ DGet.k (k := Sum.inl x) (s3 _ _ hd)
    generalize hM : (w0 :: ws).length + left ks found = M at J
    refine ⟨_, rfl, _, rfl, d, .ref a, rfl, hg, a, rfl, ⟨_, SqL.of (s3 _ _ ha)⟩, for_list (xs := (e x).map V.int) (fun i σ H' => ∃ (kv : List (Key × V)) (found wait : List Int) (o5 : Option V), σ = [some (.ref d), some (.int n), some (.ref fa), some (.ref wa), some (.int x), o5] ∧ Same H H' ∧ H' fa = some (.dK kv) ∧ kv.map (·.1) = found.map Sum.inl ∧ H' wa = some (.lst (wait.map V.int)) ∧ FI ks e n M x i found wait)
      ⟨kv, found, _, o5, rfl, s3, hf3, hkv, hw3, J⟩ (fun i σ H' _ ⟨_, _, _, _, _, s', _⟩ => SqL.of (s' _ _ ha)) (fun i v σ H' hv hP => ?_) (fun σ H' hP => ?_)⟩
    · obtain ⟨kv, found, wait, o5, rfl, s', hf, hkv, hw, J⟩ := hP
      rw [List.getElem?_map] at hv
      obtain ⟨y, hy, rfl⟩ := Option.map_eq_some_iff.mp hv
      have l1 := J.l1
      have l2 := J.l2
      have lk : kv.length = found.length := by have := congrArg List.length hkv; simpa using this
      refine ⟨_, rfl, _, rfl, fa, _, rfl, DGet.k (k := Sum.inl y) hf, _, rfl, ?_⟩
      rw [keys_val hkv]
      cases hc : decide (y ∈ found) with
      | true => exact iteF ⟨kv, found, wait, _, rfl, s', hf, hkv, hw, J.old hy (of_decide_eq_true hc)⟩
      | false =>
        have hnf := of_decide_eq_false hc
        have hvn : valV kv (Sum.inl y) = none := by
          have := keys_val hkv y
          rw [hc] at this
          cases q : valV kv (Sum.inl y) with
          | none => rfl
          | some _ => rw [q] at this; cases this
        refine iteT ⟨_, rfl, _, rfl, fa, _, rfl, DPut.k (k := Sum.inl y) hf (small1000 (by omega)), ?_⟩
        rw [putK_new _ hvn]
        have hw5 : upd H' fa (.dK (kv ++ [(Sum.inl y, .bl true)])) wa = some (.lst (wait.map V.int)) := by rw [upd_ne (Ne.symm faw)]; exact hw
        have s5 : Same H (upd H' fa (.dK (kv ++ [(Sum.inl y, .bl true)]))) := same_put s' nfa
        have hf5 : upd H' fa (.dK (kv ++ [(Sum.inl y, .bl true)])) fa = some (.dK (kv ++ [(Sum.inl y, .bl true)])) := upd_same
        generalize upd H' fa (.dK (kv ++ [(Sum.inl y, .bl true)])) = H5 at hw5 s5 hf5 ⊢
        refine ⟨_, rfl, .inl ⟨rfl, _, SqL.of hw5⟩, _, rfl, wa, _, .int y, rfl, rfl, hw5, small1000 (by rw [List.length_map]; omega), ?_⟩
        exact ⟨_, found ++ [y], wait ++ [y], _, rfl, same_put s5 nwa', by rw [upd_ne faw]; exact hf5, by rw [List.map_append, List.map_append, hkv]; rfl, by rw [upd_same, List.map_append]; rfl, J.new E1 hn hy hnf⟩
    · obtain ⟨kv, found, wait, o5, rfl, s', hf, hkv, hw, J⟩ := hP
      rw [List.length_map] at J
      have l3 := J.l3
      exact ⟨_, by omega, kv, found, wait, _, o5, rfl, rfl, s', hf, hkv, hw, J.fin⟩
end
end Tw
set_option Elab.async false
set_option linter.all false
set_option maxRecDepth 100000
set_option maxHeartbeats 8000000
namespace Tw
open PySem PySem.Spec L2 PyProof.Rows
theorem tb_dict : bootBuiltins "dict" = some (.type "dict") := by decide +kernel
def eOf : List (Int × List Int) → Int → List Int
  | [], _ => []
  | (m, es) :: r, n => if m = n then es else eOf r n
/-- the rows' second things: lists -/
def EldAt (H : Hp) : List (Int × List Int) → List (Int × V) → Prop
  | [], [] => True
  | r :: rs, p :: ps => p.1 = r.1 ∧ (∃ a, p.2 = .ref a ∧ H a = some (.lst (r.2.map V.int))) ∧ EldAt H rs ps
  | _, _ => False
theorem EldAt.length {H : Hp} : ∀ {rs : List (Int × List Int)} {ps : List (Int × V)}, EldAt H rs ps → rs.length = ps.length
  | [], [], _ => rfl
  | _ :: _, _ :: _, h => congrArg (· + 1) h.2.2.length
theorem EldAt.keys {H : Hp} : ∀ {rs : List (Int × List Int)} {ps : List (Int × V)}, EldAt H rs ps → ps.map (·.1) = rs.map (·.1)
  | [], [], _ => rfl
  | _ :: _, _ :: _, h => by rw [List.map_cons, List.map_cons, h.1, h.2.2.keys]
theorem EldAt.same {H H' : Hp} (s : Same H H') : ∀ {rs : List (Int × List Int)} {ps : List (Int × V)}, EldAt H rs ps → EldAt H' rs ps
  | [], [], _ => trivial
  | _ :: _, _ :: _, h => by
    obtain ⟨a, e1, e2⟩ := h.2.1
    exact ⟨h.1, ⟨a, e1, s _ _ e2⟩, h.2.2.same s⟩
theorem EldAt.get {H : Hp} : ∀ {rs : List (Int × List Int)} {ps : List (Int × V)} {i : Nat} {p : Int × V}, EldAt H rs ps → ps[i]? = some p → ∃ es a, rs[i]? = some (p.1, es) ∧ p.2 = .ref a ∧ H a = some (.lst (es.map V.int))
  | [], [], _, _, _, h => by simp at h
  | r :: rs, q :: ps, 0, p, h, e => by
    simp at e
    subst e
    obtain ⟨a, e1, e2⟩ := h.2.1
    exact ⟨r.2, a, by simp [h.1], e1, e2⟩
  | _ :: rs, _ :: ps, i + 1, p, h, e => by
    obtain ⟨es, a, r⟩ := EldAt.get (i := i) h.2.2 (by simpa using e)
    exact ⟨es, a, by simpa using r⟩
theorem EldAt.snoc {H : Hp} {n : Int} {es : List Int} {a : Addr} (ha : H a = some (.lst (es.map V.int))) : ∀ {rs : List (Int × List Int)} {ps : List (Int × V)}, EldAt H rs ps → EldAt H (rs ++ [(n, es)]) (ps ++ [(n, .ref a)])
  | [], [], _ => ⟨rfl, ⟨a, rfl, ha⟩, trivial⟩
  | _ :: _, _ :: _, h => ⟨h.1, h.2.1, h.2.2.snoc ha⟩
theorem EldAt.append {H : Hp} : ∀ {rs rs' : List (Int × List Int)} {ps ps' : List (Int × V)}, EldAt H rs ps → EldAt H rs' ps' → EldAt H (rs ++ rs') (ps ++ ps')
  | [], _, [], _, _, h => h
  | _ :: _, _, _ :: _, _, h, h' => ⟨h.1, h.2.1, h.2.2.append h'⟩
theorem EldAt.take {H : Hp} : ∀ {rs : List (Int × List Int)} {ps : List (Int × V)} (k : Nat), EldAt H rs ps → EldAt H (rs.take k) (ps.take k)
  | _, _, 0, _ => by simp [EldAt]
  | [], [], _ + 1, _ => trivial
  | _ :: _, _ :: _, k + 1, h => ⟨h.1, h.2.1, h.2.2.take k⟩
theorem EldAt.drop {H : Hp} : ∀ {rs : List (Int × List Int)} {ps : List (Int × V)} (k : Nat), EldAt H rs ps → EldAt H (rs.drop k) (ps.drop k)
  | _, _, 0, h => by simpa using h
  | [], [], _ + 1, _ => trivial
  | _ :: _, _ :: _, k + 1, h => h.2.2.drop k
abbrev kvE (ps : List (Int × V)) : List (Key × V) := ps.map fun p => ((Sum.inl p.1 : Key), p.2)
theorem EldAt.dict {H : Hp} : ∀ {rs : List (Int × List Int)} {ps : List (Int × V)}, EldAt H rs ps → DictE H (rs.map (·.1)) (eOf rs) (kvE ps)
  | [], [], _ => ⟨rfl, fun n hn => by simp at hn⟩
  | r :: rs, p :: ps, h => by
    have ih := h.2.2.dict
    obtain ⟨a, e1, e2⟩ := h.2.1
    obtain ⟨rk, re⟩ := r
    have h1 : p.1 = rk := h.1
    refine ⟨by simp only [kvE, List.map_cons]; rw [h1, ← ih.1], fun n hn => ?_⟩
    by_cases z : rk = n
    · refine ⟨a, ?_, ?_⟩
      · simp only [kvE, List.map_cons]
        rw [h1, z, valV_pos rfl]
        exact congrArg some e1
      · unfold eOf
        rw [if_pos z]
        exact e2
    · have hn' : n ∈ rs.map (·.1) := by
        rw [List.map_cons] at hn
        rcases List.mem_cons.mp hn with y | y
        · exact absurd y.symm z
        · exact y
      obtain ⟨b, b1, b2⟩ := ih.2 n hn'
      refine ⟨b, ?_, ?_⟩
      · simp only [kvE, List.map_cons]
        rw [h1, valV_neg (fun y => z (Sum.inl.inj y))]
        exact b1
      · unfold eOf
        rw [if_neg z]
        exact b2
section
variable {P : Program} {w : World} {K : PySem.W.Frag} {mg : Str → Option Value} {base : Heap} {f : Addr} {fd : FuncData}
/-! ### _law_behind -/
def spBehind : Sp := fun vs H Q _ => ∃ (l : Addr) (n : Int) (us : List V) (rs : List (Int × List Int)) (ps : List (Int × V)), vs = [.ref l, .int n] ∧ H l = some (.lst us) ∧ PrAt H ps us ∧ EldAt H rs ps ∧ Elds (rs.map (·.1)) (eOf rs) ∧ n ∈ rs.map (·.1) ∧ rs.length < 64 ∧
  ∀ (H' : Hp) (p : Addr) (ns : List Int), Same H H' → H p = none → H' p = some (.lst (ns.map V.int)) → IsR (Rch (eOf rs) n) ns → Q (.ref p) H'
theorem scBehind : FnScope ["_law_rows", "_law_number", "_law_elders_here", "_law_found", "_law_wait", "_law_one"] ["_law_rows", "_law_number"] (defScope sBehind) := ⟨rfl, rfl, rfl, by decide +kernel, rfl, by decide +kernel, by decide +kernel⟩
theorem ok_behind (F : Fun K "_law_behind" "_law_behind" sBehind f fd) (T : Txt mg) : FnOk P w K mg base CX0 1 f fd ["_law_rows", "_law_number"] spBehind := by
  refine F.ok scBehind (fun vs H Q E h => (by obtain ⟨_, _, _, _, _, rfl, _⟩ := h; rfl)) (fun cdv A outer s H vs Q E hr h => ?_)
  obtain ⟨l, n, us, rs, ps, rfl, hl, hP, hR, E1, hn, h64, k⟩ := h
  have nd := scBehind.nd
  have hu := hu_of hr
  refine ⟨_, pss_cons (ps_set (i := 2) nd rfl (Or.inl rfl) (pe_callTy (call_dictP rfl) rfl T.dict tb_dict (pa_c (pv 0) pa_nil))) (pss_cons (ps_set (i := 3) nd rfl (Or.inl rfl) (pe_lst pa_nil)) (pss_cons (ps_set (i := 4) nd rfl (Or.inl rfl) (pe_lst (pa_c (pv 1) pa_nil)))
    (pss_cons (ps_while PassesOwn.never (pt_cmpR (tw_neNil hr.units0) (pv 4) (pe_lst pa_nil) (nomark _))
      (pss_cons (ps_set (i := 5) nd rfl (Or.inl rfl) (pe_bm0 PySem.F.plainAttrs_list PySem.F.slot_list_pop PySem.F.type_list_pop mt_pop (pv 4)))
      (pss_one (ps_if (pt_cmpR op_notIn_seq (pv 5) (pv 3) rfl)
        (pss_cons (ps_expr (pe_bm PySem.F.plainAttrs_list PySem.F.slot_list_append PySem.F.type_list_append mt_append (pv 3) (pa_c (pv 5) pa_nil)))
        (pss_one (ps_set (i := 4) nd rfl (Or.inl rfl) (pe_op op_cat (pv 4) (pe_dget hu (pv 2) (pv 5) (fun _ _ => rfl)))))) pss_nil))))
    (pss_one (ps_ret (pe_callB call_sortL rfl T.sorted tb_sorted (pa_c (pv 3) pa_nil))))))), ?_⟩
  refine ⟨_, rfl, l, us, ps, rfl, hl, hP, (by rw [hR.keys]; exact E1.nd), fun d hd0 => ?_⟩
  have g1 := same_new hd0 (.dK (kvE ps))
  have hd : upd H d (.dK (kvE ps)) d = some (.dK (kvE ps)) := upd_same
  have k' : ∀ (H' : Hp) (p : Addr) (ns : List Int), Same (upd H d (.dK (kvE ps))) H' → upd H d (.dK (kvE ps)) p = none → H' p = some (.lst (ns.map V.int)) → IsR (Rch (eOf rs) n) ns → Q (.ref p) H' := fun H' p ns s' np => k H' p ns (g1.trans s') (Same.free g1 np)
  have hE := hR.dict.same g1
  clear k
  have k := k'
  clear k'
  generalize upd H d (.dK (kvE ps)) = H0 at hd k hE ⊢
  clear g1 hd0 hl hP hR
  generalize eks : rs.map (·.1) = ks at hE E1 hn
  have h64 : ks.length < 64 := by rw [← eks, List.length_map]; exact h64
  generalize eOf rs = e at hE E1 k
  generalize kvE ps = kvs at hd hE
  clear eks
  refine ⟨nn (Nat.le_of_ble_eq_true rfl), fun fa nfa => ⟨_, rfl, nn (Nat.le_of_ble_eq_true rfl), fun wa nwa => ?_⟩⟩
  have faw : fa ≠ wa := fun z => by rw [← z, upd_same] at nwa; cases nwa
  have nwa' : H0 wa = none := by rw [upd_ne (Ne.symm faw)] at nwa; exact nwa
  refine ⟨fun m σ H' => ∃ (fa wa : Addr) (found wait : List Int) (o : Option V), m = RMu ks found wait ∧ σ = [some (.ref l), some (.int n), some (.ref d), some (.ref fa), some (.ref wa), o] ∧ Same H0 H' ∧ H0 fa = none ∧ H0 wa = none ∧ fa ≠ wa ∧ H' fa = some (.lst (found.map V.int)) ∧ H' wa = some (.lst (wait.map V.int)) ∧ RInv ks e n found wait,
    ⟨_, fa, wa, [], [n], none, rfl, rfl, same_put (same_new nfa _) nwa', nfa, nwa', faw, by rw [upd_ne faw]; exact upd_same, upd_same, RInv.start⟩, ?_⟩
  rintro m σ H1 ⟨fa, wa, found, wait, o, rfl, rfl, s1, nfa, nwa, faw, hfa, hwa, I⟩
  refine ⟨_, rfl, nn (Nat.le_of_ble_eq_true rfl), fun e0 he0 => ?_⟩
  have g0 := same_new he0 (.lst [])
  refine ⟨wa, e0, wait.map V.int, rfl, rfl, SqL.of (g0 _ _ hwa), SqL.of upd_same, _, rfl, ?_⟩
  have hfa1 := g0 _ _ hfa
  have hwa1 := g0 _ _ hwa
  have s2 := s1.trans g0
  generalize upd H1 e0 (.lst []) = H2 at hfa1 hwa1 s2 ⊢
  cases wait with
  | nil =>
    refine iteF ?_
    refine ⟨_, rfl, fa, found, rfl, SqL.of hfa1, by have := I.l1; omega, fun p ns np hp hs => ?_⟩
    exact k _ p ns (same_put s2 (Same.free s2 np)) (Same.free s2 np) upd_same (I.done hp hs)
  | cons w0 ws =>
    refine iteT ⟨_, fun _ _ z => z, ?_⟩
    obtain ⟨x, hx⟩ : ∃ x, (w0 :: ws)[(w0 :: ws).length - 1]? = some x := ⟨_, List.getElem?_eq_getElem (by simp)⟩
    have hlw : ((w0 :: ws).map V.int).length - 1 = (w0 :: ws).length - 1 := by rw [List.length_map]
    refine ⟨_, rfl, .inl ⟨rfl, _, SqL.of hwa1⟩, wa, (w0 :: ws).map V.int, .int x, rfl, rfl, hwa1, by rw [hlw, List.getElem?_map, hx]; rfl, ?_⟩
    have hxw : x ∈ w0 :: ws := (mem_pop hx).mpr (.inr rfl)
    have xk := rch_in E1 hn (I.wr x hxw)
    have hw3 : upd H2 wa (.lst ((w0 :: ws).map V.int).dropLast) wa = some (.lst ((w0 :: ws).dropLast.map V.int)) := by rw [upd_same, List.map_dropLast]
    have hf3 : upd H2 wa (.lst ((w0 :: ws).map V.int).dropLast) fa = some (.lst (found.map V.int)) := by rw [upd_ne faw]; exact hfa1
    have s3 : Same H0 (upd H2 wa (.lst ((w0 :: ws).map V.int).dropLast)) := same_put s2 nwa
    generalize upd H2 wa (.lst ((w0 :: ws).map V.int).dropLast) = H3 at hw3 hf3 s3 ⊢
    refine ⟨_, rfl, _, rfl, fa, _, rfl, .inl (SqL.of hf3), rfl, flat_ints _, _, rfl, ?_⟩
    rw [if_pos rfl, in_ints]
    cases hc : decide (x ∈ found) with
    | true =>
      refine iteF ⟨_, mu_old (by simp), fa, wa, found, _, _, rfl, rfl, s3, nfa, nwa, faw, hf3, hw3, I.old hx (of_decide_eq_true hc)⟩
    | false =>
      have hf := of_decide_eq_false hc
      have lf := I.l1
      refine iteT ⟨_, rfl, .inl ⟨rfl, _, SqL.of hf3⟩, _, rfl, fa, _, .int x, rfl, rfl, hf3, small1000 (by rw [List.length_map]; omega), ?_⟩
      have hw4 : upd H3 fa (.lst (found.map V.int ++ [.int x])) wa = some (.lst ((w0 :: ws).dropLast.map V.int)) := by rw [upd_ne (Ne.symm faw)]; exact hw3
      have hf4 : upd H3 fa (.lst (found.map V.int ++ [.int x])) fa = some (.lst ((found ++ [x]).map V.int)) := by rw [upd_same, List.map_append]; rfl
      have s4 : Same H0 (upd H3 fa (.lst (found.map V.int ++ [.int x]))) := same_put s3 nfa
      generalize upd H3 fa (.lst (found.map V.int ++ [.int x])) = H4 at hw4 hf4 s4 ⊢
      obtain ⟨a, ea, ha⟩ := hE.2 x xk
      have hg : DGet H4 d (.int x) (some (.ref a)) := ea ▸ DGet.k (k := Sum.inl x) (s4 _ _ hd)
      have lw := I.l2
      have sm := E1.sm x xk
      refine ⟨_, rfl, _, rfl, _, rfl, d, .ref a, rfl, hg, wa, a, _, _, rfl, rfl, hw4, s4 _ _ ha, Nat.le_of_lt (small1000 (by rw [List.length_map, List.length_map, List.length_dropLast]; omega)), fun q nq => ?_⟩
      have nq' := Same.free s4 nq
      have fq : fa ≠ q := fun z => by rw [← z, hf4] at nq; cases nq
      exact ⟨_, mu_new sm (by simp) xk hf, fa, q, found ++ [x], _, _, rfl, rfl, same_put s4 nq', nfa, nq', fq, by rw [upd_ne fq]; exact hf4, by rw [upd_same, List.map_append], I.new E1 hn hx hf⟩
end
end Tw
set_option Elab.async false
set_option linter.all false
set_option maxRecDepth 100000
set_option maxHeartbeats 8000000
namespace Tw
open PySem PySem.Spec L2 PyProof.Rows
theorem nd2 : (["_law_number", "_law_some"] : List Str).Nodup := by decide +kernel
def rListOf (K : PySem.W.Frag) : List V → Hp → VK → Prop := fun xs H Q => ∃ p ys, xs = [.ref p] ∧ (SqL K H p ys ∨ SqT K H p ys) ∧ ∀ l, H l = none → Q (.ref l) (upd H l (.lst ys))
theorem call_listOf {X : Cx} : CallR X (.type "list") (rListOf X.K) := call_list_of
/-- the lists of a copy are new -/
def NewL (H : Hp) (ps : List (Int × V)) : Prop := ∀ p ∈ ps, ∀ a, p.2 = .ref a → H a = none
theorem eld_mono {H H' : Hp} : ∀ {rs : List (Int × List Int)} {ps : List (Int × V)}, EldAt H rs ps → (∀ p ∈ ps, ∀ a, p.2 = .ref a → ∀ o, H a = some o → H' a = some o) → EldAt H' rs ps
  | [], [], _, _ => trivial
  | _ :: _, _ :: _, h, k => by
    obtain ⟨a, e1, e2⟩ := h.2.1
    exact ⟨h.1, ⟨a, e1, k _ List.mem_cons_self a e1 _ e2⟩, eld_mono h.2.2 fun p hp => k p (List.mem_cons_of_mem _ hp)⟩
section
variable {P : Program} {w : World} {K : PySem.W.Frag} {mg : Str → Option Value} {base : Heap} {f : Addr} {fd : FuncData}
/-! ### _law_copied -/
def spCopied : Sp := fun vs H Q _ => ∃ (l : Addr) (us : List V) (rs : List (Int × List Int)) (ps : List (Int × V)), vs = [.ref l] ∧ H l = some (.lst us) ∧ PrAt H ps us ∧ EldAt H rs ps ∧ (rs.map (·.1)).Nodup ∧ rs.length < 64 ∧
  ∀ (H' : Hp) (d : Addr) (ps' : List (Int × V)), Same H H' → H d = none → H' d = some (.dK (kvE ps')) → EldAt H' rs ps' → NewL H ps' → Q (.ref d) H'
theorem scCopied : FnScope ["_law_rows"] ["_law_rows"] (defScope sCopied) := ⟨rfl, rfl, rfl, by decide +kernel, rfl, by decide +kernel, by decide +kernel⟩
theorem ok_copied (F : Fun K "_law_copied" "_law_copied" sCopied f fd) (T : Txt mg) : FnOk P w K mg base CX0 1 f fd ["_law_rows"] spCopied := by
  refine F.ok scCopied (fun vs H Q E h => (by obtain ⟨_, _, _, _, rfl, _⟩ := h; rfl)) (fun cdv A outer s H vs Q E hr h => ?_)
  obtain ⟨l, us, rs, ps, rfl, hl, hP, hR, hn, h64, k⟩ := h
  have nd := scCopied.nd
  refine ⟨_, pss_one (ps_ret (pe_callTy (call_dictP rfl) rfl T.dict tb_dict (pa_c (pe_compT (g := gPair K) ["_law_number", "_law_some"] "_law_number" [] [] rfl (fun _ _ _ _ _ => pg_pair rfl nd2 rfl rfl rfl rfl) (pi_list (pv 0)) (fun _ _ _ _ _ => pts_nil)
    (fun _ _ _ _ _ => pe_tup (pa_c (pv 0) (pa_c (pe_callTy (r := rListOf K) call_listOf rfl T.list tb_list (pa_c (pv 1) pa_nil)) pa_nil))) trivial) pa_nil))), ?_⟩
  refine ⟨_, rfl, l, rfl, ⟨us, SqL.of hl⟩, ?_⟩
  have lp := hP.length
  have lr := hR.length
  refine comp_mapP (n := us.length) (fun i z => us[i]? = some z) (fun D i ys H3 => ∃ qs, Same H H3 ∧ H D = none ∧ PrAt H3 qs ys ∧ EldAt H3 (rs.take i) qs ∧ NewL H qs ∧ ∀ p ∈ qs, ∀ a, p.2 = .ref a → a ≠ D) (small1000 (by omega))
    (fun D i ys H3 hi hP => by obtain ⟨qs, s3, _⟩ := hP; exact ⟨us, us[i], SqL.of (s3 _ _ hl), by simp [hi]⟩) (fun D i ys H3 z H4 hi hP hy => by obtain ⟨qs, s3, _⟩ := hP; exact ⟨hy.1, hy.2 us (SqL.of (s3 _ _ hl))⟩) (fun D ys H3 hP => by obtain ⟨qs, s3, _⟩ := hP; exact ⟨us, SqL.of (s3 _ _ hl), Nat.le_refl _⟩)
    (fun D hD => ⟨[], same_new hD _, hD, trivial, trivial, (fun _ h => by simp at h), fun _ h => by simp at h⟩) (fun D i ys H3 z eD hl' hi hz hPv => ?_) (fun D ys H3 eD hPv => ?_)
  · obtain ⟨qs, s3, nD, hq, he, hw, hx⟩ := hPv
    obtain ⟨n, v, t, ep, rfl, ht⟩ := hP.get hz
    obtain ⟨es, a, er, ea, ha⟩ := hR.get ep
    have ea' : v = .ref a := ea
    subst ea'
    refine ⟨t, .int n, .ref a, rfl, SqT.of (s3 _ _ ht), fun R hRR => ?_⟩
    refine ⟨_, rfl, _, rfl, a, _, rfl, .inl (SqL.of (s3 _ _ ha)), fun b nb => ⟨nn (Nat.le_of_ble_eq_true rfl), fun q nq => ?_⟩⟩
    have g1 := same_new nb (.lst (es.map V.int))
    have g2 := same_new nq (.tup [.int n, .ref b])
    have g := g1.trans g2
    have eb : upd (upd H3 b (.lst (es.map V.int))) q (.tup [.int n, .ref b]) b = some (.lst (es.map V.int)) := g2 _ _ upd_same
    have eq : upd (upd H3 b (.lst (es.map V.int))) q (.tup [.int n, .ref b]) q = some (.tup [.int n, .ref b]) := upd_same
    generalize upd (upd H3 b (.lst (es.map V.int))) q (.tup [.int n, .ref b]) = H5 at g eb eq ⊢
    have eD5 := g _ _ eD
    refine hRR _ H5 eD5 ?_
    have nb0 := Same.free s3 nb
    have bD : b ≠ D := fun z => by rw [z, eD] at nb; cases nb
    have qD : q ≠ D := fun z => by rw [z, eD5] at eq; cases eq
    have s5 := s3.trans g
    refine ⟨qs ++ [(n, .ref b)], same_put s5 nD, nD, ?_, ?_, ?_, ?_⟩
    · refine PrAt.snoc (by rw [upd_ne qD]; exact eq) (hq.mono fun c xs e => ?_)
      have e5 := g _ _ e
      rw [upd_ne (ne_of e5 eD5 (by intro z; cases z))]
      exact e5
    · rw [List.take_add_one, er]
      refine EldAt.snoc (by rw [upd_ne bD]; exact eb) ?_
      exact eld_mono he fun p hp c ec o eo => by rw [upd_ne (hx p hp c ec)]; exact g _ _ eo
    · intro p hp c ec
      rcases List.mem_append.mp hp with hp | hp
      · exact hw p hp c ec
      · rw [List.mem_singleton.mp hp] at ec
        cases ec
        exact nb0
    · intro p hp c ec
      rcases List.mem_append.mp hp with hp | hp
      · exact hx p hp c ec
      · rw [List.mem_singleton.mp hp] at ec
        cases ec
        exact bD
  · obtain ⟨qs, s3, nD, hq, he, hw, hx⟩ := hPv
    rw [List.take_of_length_le (by omega)] at he
    refine ⟨D, ys, qs, rfl, eD, hq, (by rw [he.keys]; exact hn), fun q nq => ?_⟩
    have g := same_new nq (.dK (kvE qs))
    exact k _ q qs (s3.trans g) (Same.free s3 nq) upd_same (he.same g) hw
end
end Tw
set_option Elab.async false
set_option linter.all false
set_option maxRecDepth 100000
set_option maxHeartbeats 8000000
namespace Tw
open PySem PySem.Spec L2 PyProof.Rows
theorem kit_ll {K : PySem.W.Frag} : PySem.W.kitOne K (.type "list") (.type "list") = some true := by kernel_rfl
section
variable {P : Program} {w : World} {K : PySem.W.Frag} {mg : Str → Option Value} {base : Heap} {f : Addr} {fd : FuncData}
/-! ### _law_whole -/
def spWhole : Sp := fun vs H Q _ => ∃ i : Int, vs = [.int i] ∧ Q (.bl true) H
theorem scWhole : FnScope ["_law_found"] ["_law_found"] (defScope sWhole) := ⟨rfl, rfl, rfl, by decide +kernel, rfl, by decide +kernel, by decide +kernel⟩
theorem ok_whole (F : Fun K "_law_whole" "_law_whole" sWhole f fd) (T : Txt mg) : FnOk P w K mg base CX0 1 f fd ["_law_found"] spWhole := by
  refine F.ok scWhole (fun vs H Q E h => (by obtain ⟨_, rfl, _⟩ := h; rfl)) (fun cdv A outer s H vs Q E hr h => ?_)
  obtain ⟨i, rfl, k⟩ := h
  refine ⟨_, pss_one (ps_ret (pe_and (pe_callB tw_isinst rfl T.isi tb_isinstance (pa_cons (pv 0) (pa_cons (pe_bltn (v := .ty "int") rfl T.int tb_int rfl) pa_nil)))
      (pe_one (pe_not (pe_callB tw_isinst rfl T.isi tb_isinstance (pa_cons (pv 0) (pa_cons (pe_bltn (v := .ty "bool") rfl T.bool tb_bool rfl) pa_nil))))))), ?_⟩
  refine ⟨_, rfl, _, _, _, _, rfl, .int i, kit_ii, _, rfl, iteT ?_⟩
  exact ⟨_, rfl, _, _, _, _, rfl, .int i, kit_ib, _, rfl, k⟩
/-! ### _law_list -/
def spList : Sp := fun vs H Q _ => ∃ (a b : Addr) (ns : List Int), vs = [.ref a, .ref b] ∧ H a = some (.lst (ns.map V.int)) ∧ H b = some (.lst (ns.map V.int)) ∧ ns.length ≤ 900 ∧ ∀ H', Same H H' → Q (.bl true) H'
theorem scList : FnScope ["_law_found", "_law_due"] ["_law_found", "_law_due"] (defScope sList) := ⟨rfl, rfl, rfl, by decide +kernel, rfl, by decide +kernel, by decide +kernel⟩
theorem ok_list (F : Fun K "_law_list" "_law_list" sList f fd) (T : Txt mg) (DW : DefOk P w K mg base 1 "_law_whole" ["_law_found"] spWhole) : FnOk P w K mg base CX0 2 f fd ["_law_found", "_law_due"] spList := by
  refine F.ok scList (fun vs H Q E h => (by obtain ⟨_, _, _, rfl, _⟩ := h; rfl)) (fun cdv A outer s H vs Q E hr h => ?_)
  obtain ⟨a, b, ns, rfl, ha, hb, l9, k⟩ := h
  refine ⟨_, pss_one (ps_ret (pe_and (pe_callB tw_isinst rfl T.isi tb_isinstance (pa_c (pv 0) (pa_c (pe_bltn (v := .ty "list") rfl T.list tb_list rfl) pa_nil)))
      (pe_and (pe_cmpR (op_eqInts hr.units0) (pv 0) (pv 1) (nomark _))
        (pe_one (pe_cmpR (tw_eq_nil hr.units0) (pe_comp [] [] rfl (pi_list (pv 0)) (fun _ _ _ _ _ => pts_one (pt_not (pt_val (pe_def DW hr (pa_c (pv 0) pa_nil))))) (fun _ _ _ _ _ => pv 0) trivial) (pe_lst pa_nil) (nomark _)))))), ?_⟩
  refine ⟨_, rfl, _, _, _, _, rfl, .lst ha, kit_ll, _, rfl, iteT ?_⟩
  refine ⟨_, rfl, _, rfl, a, b, ns, rfl, rfl, SqL.of ha, SqL.of hb, _, rfl, iteT ?_⟩
  refine ⟨_, rfl, a, rfl, ⟨_, SqL.of ha⟩, ?_⟩
  refine comp_filter (n := ns.length) (fun i z => (ns.map V.int)[i]? = some z) (fun _ => false) (fun D i ys H3 => Same H H3 ∧ H D = none ∧ ys = []) (small1000 (by omega))
    (fun D i ys H3 hi hP => ⟨_, .int ns[i], SqL.of (hP.1 _ _ ha), by simp [hi]⟩) (fun D i ys H3 z H4 hi hP hy => ⟨hy.1, hy.2 _ (SqL.of (hP.1 _ _ ha))⟩) (fun D ys H3 hP => ⟨_, SqL.of (hP.1 _ _ ha), by simp⟩)
    (fun D hD => ⟨same_new hD _, hD, rfl⟩) (fun D i ys H3 z hi hz hP R hR => ?_) (fun D i ys H3 z eD hi hz hk => by cases hk) (fun D i ys H3 z eD hi hz hk hP => hP) (fun D ys H3 eD hP => ?_)
  · rw [List.getElem?_map] at hz
    obtain ⟨n, en, rfl⟩ := Option.map_eq_some_iff.mp hz
    exact ⟨_, rfl, n, rfl, _, rfl, hR⟩
  · obtain ⟨s3, nD, rfl⟩ := hP
    refine ⟨nn (Nat.le_of_ble_eq_true rfl), fun e0 he0 => ?_⟩
    have g0 := same_new he0 (.lst [])
    exact ⟨D, e0, [], rfl, rfl, SqL.of (g0 _ _ eD), SqL.of upd_same, k _ (s3.trans g0)⟩
/-! ### common -/
def spCommon : Sp := fun vs H Q _ => ∃ (d : Addr) (n m : Int) (ks : List Int) (e : Int → List Int) (kvs : List (Key × V)), vs = [.ref d, .int n, .int m] ∧ H d = some (.dK kvs) ∧ DictE H ks e kvs ∧ Elds ks e ∧ n ∈ ks ∧ m ∈ ks ∧ ks.length < 64 ∧
  ∀ (H' : Hp) (p : Addr) (ns : List Int), Same H H' → H p = none → H' p = some (.lst (ns.map V.int)) → IsR (fun x => Rch e n x ∧ Rch e m x) ns → Q (.ref p) H'
theorem scCommon : FnScope ["elders", "one", "other", "ones"] ["elders", "one", "other"] (defScope sCommon) := ⟨rfl, rfl, rfl, by decide +kernel, rfl, by decide +kernel, by decide +kernel⟩
theorem ok_common (F : Fun K "common" "common" sCommon f fd) (T : Txt mg) (DR : DefOk P w K mg base 1 "reach" ["elders", "number"] spReach) : FnOk P w K mg base CX0 2 f fd ["elders", "one", "other"] spCommon := by
  refine F.ok scCommon (fun vs H Q E h => (by obtain ⟨_, _, _, _, _, _, rfl, _⟩ := h; rfl)) (fun cdv A outer s H vs Q E hr h => ?_)
  obtain ⟨d, n, m, ks, e, kvs, rfl, hd, hE, E1, hn, hm, h64, k⟩ := h
  have nd := scCommon.nd
  refine ⟨_, pss_cons (ps_set (i := 3) nd rfl (Or.inl rfl) (pe_def DR hr (pa_c (pv 0) (pa_c (pv 1) pa_nil))))
    (pss_one (ps_ret (pe_callB (call_sortS rfl) rfl T.sorted tb_sorted (pa_c (pe_op op_andS (pe_callTy (call_setOf rfl) rfl T.set tb_set (pa_c (pv 3) pa_nil)) (pe_callTy (call_setOf rfl) rfl T.set tb_set (pa_c (pe_def DR hr (pa_c (pv 0) (pa_c (pv 2) pa_nil))) pa_nil))) pa_nil)))), ?_⟩
  refine ⟨_, rfl, _, rfl, d, n, ks, e, kvs, rfl, hd, hE, E1, hn, h64, fun H1 q ms s1 nq hq hR => ?_⟩
  have l1 : ms.length < 64 := Nat.lt_of_le_of_lt (isr_len hR fun x hx => rch_in E1 hn hx) h64
  refine ⟨_, rfl, q, ms, rfl, hq, isr_nodup hR, by omega, fun p1 np1 => ?_⟩
  have g1 := same_new np1 (setO P w p1 ms)
  have hp1 : upd H1 p1 (setO P w p1 ms) p1 = some (setO P w p1 ms) := upd_same
  have s2 := s1.trans g1
  have np1' := Same.free s1 np1
  refine ⟨_, rfl, _, rfl, d, m, ks, e, kvs, rfl, s2 _ _ hd, hE.same s2, E1, hm, h64, fun H3 q2 ns s3 nq2 hq2 hR2 => ?_⟩
  have l2 : ns.length < 64 := Nat.lt_of_le_of_lt (isr_len hR2 fun x hx => rch_in E1 hm hx) h64
  refine ⟨q2, ns, rfl, hq2, isr_nodup hR2, by omega, fun p2 np2 => ?_⟩
  have hp1' := s3 _ _ hp1
  have ne : p1 ≠ p2 := ne_of_none hp1' np2
  have s4 := (s2.trans s3)
  refine ⟨p1, p2, ms, ns, rfl, rfl, by rw [upd_ne ne]; exact hp1', upd_same, ne, isr_nodup hR, isr_nodup hR2, by omega, by omega, fun p3 rs np3 nd3 hm3 => ?_⟩
  have s5 := s4.trans (same_new np2 (setO P w p2 ns))
  have s6 := s5.trans (same_new np3 (setO P w p3 rs))
  have l3 : rs.length < 64 := Nat.lt_of_le_of_lt (nodup_len nd3 fun x hx => ((hm3 x).mp hx).1) l1
  refine ⟨p3, rs, rfl, upd_same, l3, fun p4 fs np4 pm so => ?_⟩
  refine k _ p4 fs (s6.trans (same_new np4 _)) (Same.free s6 np4) upd_same ⟨pw_lt so (pm.nodup_iff.mpr nd3), fun x => ?_⟩
  rw [pm.mem_iff, hm3 x, hR.2 x, hR2.2 x]
end
end Tw
set_option Elab.async false
set_option linter.all false
set_option maxRecDepth 100000
set_option maxHeartbeats 8000000
namespace Tw
open PySem PySem.Spec L2 PyProof.Rows
/-! ### numbers by steps -/
def numb (a d : Int) (n : Nat) : List Int := (List.range n).map fun k : Nat => a + d * (k : Int)
theorem numb_len (a d : Int) (n : Nat) : (numb a d n).length = n := by unfold numb; simp
theorem numb_get {a d : Int} {n i : Nat} (h : i < n) : (numb a d n)[i]? = some (a + d * (i : Int)) := by
  unfold numb
  rw [List.getElem?_map, List.getElem?_range h]
  rfl
theorem numb_lt {a d : Int} (hd : 0 < d) (n : Nat) : (numb a d n).Pairwise (· < ·) := by
  unfold numb
  rw [List.pairwise_map]
  refine List.pairwise_lt_range.imp fun {x y} h => ?_
  have : d * (x : Int) < d * (y : Int) := Int.mul_lt_mul_of_pos_left (by omega) hd
  omega
theorem numb_nd {a d : Int} (hd : 0 < d) (n : Nat) : (numb a d n).Nodup := (numb_lt hd n).imp fun h e => by omega
theorem numb_succ (a d : Int) (n : Nat) : numb a d (n + 1) = numb a d n ++ [a + d * (n : Int)] := by
  unfold numb
  rw [List.range_succ, List.map_append]
  rfl
theorem eOf_mem : ∀ {rs : List (Int × List Int)} {n : Int}, n ∈ rs.map (·.1) → (n, eOf rs n) ∈ rs
  | (m, es) :: r, n, h => by
    unfold eOf
    by_cases z : m = n
    · rw [if_pos z, z]
      exact List.mem_cons_self
    · rw [if_neg z]
      refine List.mem_cons_of_mem _ (eOf_mem ?_)
      rw [List.map_cons] at h
      rcases List.mem_cons.mp h with y | y
      · exact absurd y.symm z
      · exact y
theorem elds_of {rs : List (Int × List Int)} (nd : (rs.map (·.1)).Nodup) (h : ∀ r ∈ rs, r.2.length ≤ 3 ∧ ∀ m ∈ r.2, m ∈ rs.map (·.1) ∧ m < r.1) : Elds (rs.map (·.1)) (eOf rs) :=
  ⟨nd, fun n hn m hm => ((h _ (eOf_mem hn)).2 m hm).1, fun n hn => (h _ (eOf_mem hn)).1, fun n hn m hm => ((h _ (eOf_mem hn)).2 m hm).2⟩
theorem eOf_get : ∀ {rs : List (Int × List Int)} {i : Nat} {n : Int} {es : List Int}, (rs.map (·.1)).Nodup → rs[i]? = some (n, es) → eOf rs n = es
  | [], _, _, _, _, h => by simp at h
  | (m, fs) :: r, 0, n, es, _, h => by
    simp at h
    unfold eOf
    rw [if_pos h.1]
    exact h.2
  | (m, fs) :: r, i + 1, n, es, nd, h => by
    have h' : r[i]? = some (n, es) := by simpa using h
    rw [List.map_cons] at nd
    have nd' := List.nodup_cons.mp nd
    unfold eOf
    rw [if_neg fun z => nd'.1 (by rw [z]; exact List.mem_map.mpr ⟨_, List.mem_of_getElem? h', rfl⟩)]
    exact eOf_get nd'.2 h'
section
variable {P : Program} {w : World} {K : PySem.W.Frag} {mg : Str → Option Value} {base : Heap} {f : Addr} {fd : FuncData}
/-! ### _law_elders -/
def spElders (K : PySem.W.Frag) : Sp := fun vs H Q _ => ∃ (a : Addr) (ns : List Int) (mo : Int), vs = [.ref a, .int mo] ∧ SqL K H a (ns.map V.int) ∧ ns.length ≤ 63 ∧ 1 ≤ mo ∧ mo ≤ 50 ∧
  ∀ (H' : Hp) (l : Addr) (us : List V) (rs : List (Int × List Int)) (ps : List (Int × V)), Same H H' → H l = none → H' l = some (.lst us) → PrAt H' ps us → EldAt H' rs ps → Elds (rs.map (·.1)) (eOf rs) → (rs.length : Int) ≤ mo → Q (.ref l) H'
abbrev nElders : List Str := ["_law_script", "_law_most", "_law_ground", "_law_many", "_law_start", "_law_step", "_law_numbers", "_law_rows", "_law_k", "_law_well_here", "_law_some", "_law_j", "_law_elder", "_law_turn"]
theorem scElders : FnScope nElders ["_law_script", "_law_most"] (defScope sElders) := ⟨rfl, rfl, rfl, by decide +kernel, rfl, by decide +kernel, by decide +kernel⟩
theorem ok_elders (F : Fun K "_law_elders" "_law_elders" sElders f fd) (T : Txt mg) (DW : DefOk P w K mg base 1 "_law_well" ["_law_script", "_law_k"] (spWell K)) (DP : DefOk P w K mg base 1 "_law_pull" ["_law_well_here", "_law_many"] spPull) :
    FnOk P w K mg base CX0 2 f fd ["_law_script", "_law_most"] (spElders K) := by
  refine F.ok scElders (fun vs H Q E h => (by obtain ⟨_, _, _, rfl, _⟩ := h; rfl)) (fun cdv A outer s H vs Q E hr h => ?_)
  obtain ⟨a, ns, mo, rfl, hS, hns, mo1, mo2, k⟩ := h
  have nd := scElders.nd
  refine ⟨_, pss_cons (ps_set (i := 2) nd rfl (Or.inl rfl) (pe_def DW hr (pa_c (pv 0) (pa_c pe_int pa_nil))))
    (pss_cons (ps_set (i := 3) nd rfl (Or.inl rfl) (pe_op op_add pe_int (pe_def DP hr (pa_c (pv 2) (pa_c (pv 1) pa_nil)))))
    (pss_cons (ps_set (i := 4) nd rfl (Or.inr rfl) (pe_def DP hr (pa_c (pv 2) (pa_c pe_int pa_nil))))
    (pss_cons (ps_set (i := 5) nd rfl (Or.inr rfl) (pe_ix ix_list (pe_lst (pa4 pe_int pe_int pe_int (pe_op op_pow pe_int pe_int))) (pe_def DP hr (pa_c (pv 2) (pa_c pe_int pa_nil))) (fun _ _ => rfl)))
    (pss_cons (ps_setComp (i := 6) [4, 5] ["_law_start", "_law_step"] nd rfl rfl rfl (pi_range1 rfl T.range (pa_c (pv 3) pa_nil)) (fun _ _ _ _ _ => pts_nil) (fun _ _ _ _ _ => pe_op op_add (pv 1) (pe_op op_mul (pv 2) (pv 0))) ⟨rfl, .inl rfl, rfl, rfl, .inl rfl, rfl, trivial⟩)
    (pss_cons (ps_set (i := 7) nd rfl (Or.inl rfl) (pe_lst pa_nil))
    (pss_cons (ps_for PassesOwn.never rfl (pi_range1 rfl T.range (pa_c (pv 3) pa_nil)) (pg_name (i := 8) nd rfl (Or.inl rfl))
      (pss_cons (ps_set (i := 9) nd rfl (Or.inl rfl) (pe_def DW hr (pa_c (pv 0) (pa_c (pe_op op_add pe_int (pv 8)) pa_nil))))
      (pss_cons (ps_set (i := 10) nd rfl (Or.inl rfl) (pe_lst pa_nil))
      (pss_cons (ps_for PassesOwn.never rfl (pi_range1 rfl T.range (pa_c (pe_def DP hr (pa_c (pv 9) (pa_c pe_int pa_nil))) pa_nil)) (pg_name (i := 11) nd rfl (Or.inl rfl))
        (pss_cons (ps_set (i := 12) nd rfl (Or.inl rfl) (pe_ix ix_list (pv 6) (pe_def DP hr (pa_c (pv 9) (pa_c (pe_callB (call_max2 rfl) rfl T.max tb_max (pa_c pe_int (pa_c (pv 8) pa_nil))) pa_nil))) (fun _ _ => rfl)))
        (pss_one (ps_if (PW.pt (pw_and (pt_cmpR op_gt (pv 8) pe_int (nomark _)) (pw_and1 (pt_cmpR op_notIn_seq (pv 12) (pv 10) rfl))))
          (pss_one (ps_expr (pe_bm PySem.F.plainAttrs_list PySem.F.slot_list_append PySem.F.type_list_append mt_append (pv 10) (pa_c (pv 12) pa_nil)))) pss_nil))))
      (pss_one (ps_expr (pe_bm PySem.F.plainAttrs_list PySem.F.slot_list_append PySem.F.type_list_append mt_append (pv 7) (pa_c (pe_tup (pa_c (pe_ix ix_list (pv 6) (pv 8) (fun _ _ => rfl)) (pa_c (pv 10) pa_nil))) pa_nil))))))))
    (pss_cons (ps_set (i := 13) nd rfl (Or.inl rfl) (pe_def DP hr (pa_c (pv 2) (pa_c (pv 3) pa_nil))))
    (pss_one (ps_ret (pe_op op_cat (pe_slice sl_list (pv 7) (po_some (pv 13)) po_none) (pe_slice sl_list (pv 7) po_none (po_some (pv 13))))))))))))), ?_⟩
  refine ⟨_, rfl, a, ns, 0, rfl, hS, hns, by decide, by decide, fun g H1 ng s1 W1 => ?_⟩
  refine ⟨_, rfl, _, rfl, g, mo, rfl, W1, small_lit (by omega) (Nat.lt_of_le_of_lt (show mo.natAbs ≤ 50 by omega) (by decide)), fun mm H2 mm0 mm1 W2 s2 => ⟨_, _, rfl, rfl, ?_⟩⟩
  obtain ⟨mn, emn, mn1, mn2⟩ : ∃ z : Nat, (1 + mm : Int) = (z : Int) ∧ 1 ≤ z ∧ (z : Int) ≤ mo := ⟨(1 + mm).toNat, by omega, by omega, by omega⟩
  show gName 3 (V.int (1 + mm)) _ _ _
  rw [emn]
  refine ⟨_, rfl, g, 4, rfl, W2, small_lit (by decide) (by decide), fun st H3 st0 st1 W3 s3 => ?_⟩
  refine ⟨10, 30, rfl, rfl, ⟨by decide, by decide, by decide⟩, nn (Nat.le_of_ble_eq_true rfl), fun l0 hl0 => ?_⟩
  have g0 := same_new hl0 (.lst [.int 1, .int 2, .int 3, .int (10 ^ (30 : Int).toNat)])
  refine ⟨_, rfl, g, 4, rfl, W3.same g0, small_lit (by decide) (by decide), fun r H4 r0 r1 W4 s4 => ?_⟩
  have gl0 : l0 ≠ g := by obtain ⟨xs, e⟩ := W3.some; exact (ne_of_none e hl0).symm
  obtain ⟨v, ev, hv⟩ := at4 (x := .int 1) (y := .int 2) (z := .int 3) (u := .int (10 ^ (30 : Int).toNat)) r0 r1
  obtain ⟨dd, rfl, dd0⟩ : ∃ z : Int, v = .int z ∧ 0 < z := by
    rcases hv with e | e | e | e
    · exact ⟨1, e, by decide⟩
    · exact ⟨2, e, by decide⟩
    · exact ⟨3, e, by decide⟩
    · exact ⟨_, e, by decide⟩
  refine ⟨l0, _, r, .int dd, rfl, rfl, SqL.of (s4 _ _ upd_same gl0), ev, ?_⟩
  clear hv ev
  refine ⟨_, rfl, (mn : Int), rfl, by omega, by omega, ?_⟩
  have sH4 : SameX g H1 H4 := ((s2.trans s3).trans (SameX.of g0)).trans s4
  refine comp_map (n := (mn : Int).toNat) (fun i x => x = .int (0 + (i : Int))) (fun D i ys H5 => Same H4 H5 ∧ H4 D = none ∧ ys = (numb st dd i).map V.int) (small1000 (by omega))
    (fun D i ys H3 hi _ => hi) (fun D i ys H3 x H4 hi _ hy => hy) (fun D ys H3 _ => Nat.le_refl _) (fun D hD => ⟨same_new hD _, hD, rfl⟩) (fun D i ys H5 x eD hl' hi hx hP R hR => ?_) (fun na ys H5 eD hP => ?_)
  · subst hx
    obtain ⟨s5, nD, rfl⟩ := hP
    refine ⟨_, rfl, _, rfl, _, rfl, _, _, rfl, rfl, .inr ⟨by omega, by omega⟩, _, _, rfl, rfl, ?_⟩
    refine hR _ H5 eD ⟨same_put s5 nD, nD, ?_⟩
    rw [numb_succ, List.map_append, Int.zero_add]
    rfl
  obtain ⟨s5, nna, rfl⟩ := hP
  have emn2 : (mn : Int).toNat = mn := by omega
  rw [emn2] at eD
  refine ⟨nn (Nat.le_of_ble_eq_true rfl), fun ra nra => ?_⟩
  have g6 := same_new nra (.lst [])
  have SH5 : Same H H5 := fun b o e => s5 _ _ (sH4 b _ (s1 b o e) (ne_of_none e ng))
  have SH6 : Same H (upd H5 ra (.lst [])) := SH5.trans g6
  have era : upd H5 ra (.lst []) ra = some (.lst []) := upd_same
  have ena : upd H5 ra (.lst []) na = some (.lst ((numb st dd mn).map V.int)) := g6 _ _ eD
  have W6 : WellAt (upd H5 ra (.lst [])) g := (W4.same s5).same g6
  have nra0 : H ra = none := Same.free SH5 nra
  have nar : na ≠ ra := fun z => by rw [z, nra] at eD; cases eD
  have gra : g ≠ ra := by obtain ⟨xs, e⟩ := (W4.same s5).some; exact ne_of_none e nra
  generalize upd H5 ra (.lst []) = H6 at SH6 era ena W6 ⊢
  clear s5 nna eD g6 SH5 nra sH4 s4 W4 s3 W3 s2 W2 W1 g0 hl0 gl0
  refine ⟨_, rfl, (mn : Int), rfl, by omega, by omega, for_range (n := (mn : Int).toNat) (fun i σ H7 => ∃ (k8 k9 k10 k11 k12 : Option V) (us : List V) (rs : List (Int × List Int)) (ps : List (Int × V)), σ = [some (.ref a), some (.int mo), some (.ref g), some (.int mn), some (.int st), some (.int dd), some (.ref na), some (.ref ra), k8, k9, k10, k11, k12, none] ∧
      SameX ra H6 H7 ∧ H7 ra = some (.lst us) ∧ PrAt H7 ps us ∧ EldAt H7 rs ps ∧ NewL H6 ps ∧ rs.map (·.1) = numb st dd i ∧ ∀ r ∈ rs, r.2.length ≤ 3 ∧ ∀ m ∈ r.2, m ∈ numb st dd mn ∧ m < r.1)
    ⟨none, none, none, none, none, [], [], [], rfl, SameX.refl _ _, era, trivial, trivial, fun _ h => by simp at h, rfl, fun _ h => by simp at h⟩ ?_ ?_⟩
  · rintro i σ H7 hi ⟨k8, k9, k10, k11, k12, us, rs, ps, rfl, s7, era7, hP, hR, hN, hk, hb⟩
    rw [emn2] at hi
    have S7 : Same H H7 := fun b o e => s7 b _ (SH6 b o e) (ne_of_none e nra0)
    have ena7 := s7 _ _ ena nar
    refine ⟨_, rfl, _, rfl, _, _, rfl, rfl, a, ns, _, rfl, S7.seq hS, hns, by omega, by omega, fun p H8 np s8 W8 => ?_⟩
    refine ⟨nn (Nat.le_of_ble_eq_true rfl), fun sa nsa => ?_⟩
    have g9 := same_new nsa (.lst [])
    have psa : p ≠ sa := by obtain ⟨xs, e⟩ := W8.some; exact ne_of_none e nsa
    refine ⟨_, rfl, p, 4, rfl, W8.same g9, small_lit (by decide) (by decide), fun q H10 q0 q1 W10 s10 => ?_⟩
    have esa10 : H10 sa = some (.lst []) := s10 _ _ upd_same (Ne.symm psa)
    have nsa7 : H7 sa = none := Same.free s8 nsa
    have S10 : Same H7 H10 := fun b o e => s10 b _ (g9 _ _ (s8 b o e)) (ne_of_none e np)
    refine ⟨q, rfl, by omega, by omega, for_range (n := q.toNat) (fun j σ H11 => ∃ (k11 k12 : Option V) (es : List Int), σ = [some (.ref a), some (.int mo), some (.ref g), some (.int mn), some (.int st), some (.int dd), some (.ref na), some (.ref ra), some (.int (0 + (i : Int))), some (.ref p), some (.ref sa), k11, k12, none] ∧
        Same H7 H11 ∧ WellAt H11 p ∧ H11 sa = some (.lst (es.map V.int)) ∧ es.length ≤ j ∧ ∀ m ∈ es, m ∈ numb st dd mn ∧ m < st + dd * (i : Int))
      ⟨_, _, [], rfl, S10, W10, esa10, Nat.le_refl _, fun _ h => by simp at h⟩ ?_ ?_⟩
    · rintro j σ H11 hj ⟨k11, k12, es, rfl, s11, W11, esa, les, mes⟩
      have M1 : 1 ≤ (if (0 + (i : Int)) > 1 then 0 + (i : Int) else 1) ∧ (if (0 + (i : Int)) > 1 then 0 + (i : Int) else 1) ≤ (mn : Int) := by split <;> omega
      refine ⟨_, rfl, _, rfl, _, rfl, _, _, rfl, p, _, rfl, W11, small_lit (by omega) (Nat.lt_of_le_of_lt (show _ ≤ 50 by omega) (by decide)), fun r H12 r0 r1 W12 s12 => ?_⟩
      obtain ⟨rn, rfl⟩ : ∃ z : Nat, r = (z : Int) := ⟨r.toNat, by omega⟩
      have s12' : Same H7 H12 := fun b o e => s12 b _ (s11 b o e) (ne_of_none e np)
      have esa12 := s12 _ _ esa (Ne.symm psa)
      have hrn : rn < mn := by omega
      refine ⟨na, _, (rn : Int), .int (st + dd * (rn : Int)), rfl, rfl, SqL.of (s12' _ _ ena7), atI_nat (by rw [List.getElem?_map, numb_get hrn]; rfl), ?_⟩
      have hmem : st + dd * (rn : Int) ∈ numb st dd mn := List.mem_of_getElem? (numb_get hrn)
      have stay : ∃ (k11' k12' : Option V) (es' : List Int), [some (V.ref a), some (.int mo), some (.ref g), some (.int mn), some (.int st), some (.int dd), some (.ref na), some (.ref ra), some (.int (0 + (i : Int))), some (.ref p), some (.ref sa), some (.int (0 + (j : Int))), some (.int (st + dd * (rn : Int))), none] = [some (.ref a), some (.int mo), some (.ref g), some (.int mn), some (.int st), some (.int dd), some (.ref na), some (.ref ra), some (.int (0 + (i : Int))), some (.ref p), some (.ref sa), k11', k12', none] ∧
        Same H7 H12 ∧ WellAt H12 p ∧ H12 sa = some (.lst (es'.map V.int)) ∧ es'.length ≤ j + 1 ∧ ∀ m ∈ es', m ∈ numb st dd mn ∧ m < st + dd * (i : Int) := ⟨_, _, es, rfl, s12', W12, esa12, by omega, mes⟩
      refine ⟨_, rfl, _, _, rfl, rfl, _, rfl, ?_⟩
      cases hc1 : decide ((0 : Int) + (i : Int) > 0) with
      | false => exact iteF (iteF stay)
      | true =>
        refine iteT ⟨_, rfl, _, rfl, sa, _, rfl, .inl (SqL.of esa12), rfl, flat_ints _, _, rfl, ?_⟩
        rw [if_pos rfl, in_ints]
        cases hc2 : decide (st + dd * (rn : Int) ∈ es) with
        | true => exact iteF stay
        | false =>
          refine iteT ⟨_, rfl, .inl ⟨rfl, _, SqL.of esa12⟩, _, rfl, sa, _, _, rfl, rfl, esa12, small1000 (by rw [List.length_map]; omega), ?_⟩
          refine ⟨_, _, es ++ [st + dd * (rn : Int)], rfl, same_put s12' nsa7, ?_, by rw [upd_same, List.map_append]; rfl, by rw [List.length_append, List.length_singleton]; omega, fun m hm => ?_⟩
          · obtain ⟨c1, c2, c3, c4, ce, cr⟩ := W12.ex
            exact ⟨⟨c1, c2, c3, c4, by rw [upd_ne psa]; exact ce, cr⟩⟩
          · rcases List.mem_append.mp hm with hm | hm
            · exact mes m hm
            · rw [List.mem_singleton.mp hm]
              refine ⟨hmem, ?_⟩
              have hi0 : (0 : Int) + (i : Int) > 0 := of_decide_eq_true hc1
              have hri : (rn : Int) < (i : Int) := by
                have := r1
                split at this <;> omega
              have : dd * (rn : Int) < dd * (i : Int) := Int.mul_lt_mul_of_pos_left hri dd0
              omega
    · rintro σ H11 ⟨k11, k12, es, rfl, s11, W11, esa, les, mes⟩
      have ei : (0 : Int) + (i : Int) = (i : Int) := Int.zero_add _
      have era11 := s11 _ _ era7
      have lus : us.length ≤ 50 := by
        have e1 := hP.length
        have e2 := hR.length
        have e3 := congrArg List.length hk
        rw [List.length_map, numb_len] at e3
        omega
      refine ⟨_, rfl, .inl ⟨rfl, _, SqL.of era11⟩, _, rfl, _, rfl, na, _, (0 : Int) + (i : Int), .int (st + dd * (i : Int)), rfl, rfl, SqL.of (s11 _ _ ena7), by rw [ei]; exact atI_nat (by rw [List.getElem?_map, numb_get hi]; rfl), _, rfl, nn (Nat.le_of_ble_eq_true rfl), fun tt nt => ?_⟩
      have gt := same_new nt (.tup [.int (st + dd * (i : Int)), .ref sa])
      have et : upd H11 tt (.tup [.int (st + dd * (i : Int)), .ref sa]) tt = some (.tup [.int (st + dd * (i : Int)), .ref sa]) := upd_same
      have st' : Same H7 (upd H11 tt (.tup [.int (st + dd * (i : Int)), .ref sa])) := s11.trans gt
      have esat := gt _ _ esa
      have erat := gt _ _ era11
      generalize upd H11 tt (.tup [.int (st + dd * (i : Int)), .ref sa]) = Ht at gt et st' esat erat ⊢
      have ttra : tt ≠ ra := fun z => by rw [z, erat] at et; cases et
      have sara : sa ≠ ra := fun z => by rw [z, era7] at nsa7; cases nsa7
      have nsa6 : H6 sa = none := by
        cases z : H6 sa with
        | none => rfl
        | some o => rw [s7 _ _ z sara] at nsa7; cases nsa7
      refine ⟨ra, us, .ref tt, rfl, rfl, erat, small1000 (by omega), ?_⟩
      refine ⟨_, _, _, _, _, us ++ [.ref tt], rs ++ [(st + dd * (i : Int), es)], ps ++ [(st + dd * (i : Int), .ref sa)], rfl, fun b o e n => ?_, upd_same, ?_, ?_, ?_, ?_, ?_⟩
      · rw [upd_ne n]; exact st' _ _ (s7 _ _ e n)
      · refine PrAt.snoc (by rw [upd_ne ttra]; exact et) (hP.mono fun b xs e => ?_)
        rw [upd_ne (ne_of e era7 (by intro z; cases z))]
        exact st' _ _ e
      · refine EldAt.snoc (by rw [upd_ne sara]; exact esat) (eld_mono hR fun p hp c ec o eo => ?_)
        rw [upd_ne fun z => by have := hN p hp c ec; rw [z, era] at this; cases this]
        exact st' _ _ eo
      · intro p hp c ec
        rcases List.mem_append.mp hp with hp | hp
        · exact hN p hp c ec
        · rw [List.mem_singleton.mp hp] at ec
          cases ec
          exact nsa6
      · rw [List.map_append, hk, numb_succ]
        rfl
      · intro r hr
        rcases List.mem_append.mp hr with hr | hr
        · exact hb r hr
        · rw [List.mem_singleton.mp hr]
          exact ⟨by show es.length ≤ 3; omega, mes⟩
  · rintro σ H7 ⟨k8, k9, k10, k11, k12, us, rs, ps, rfl, s7, era7, hP, hR, hN, hk, hb⟩
    rw [emn2] at hk
    have W7 : WellAt H7 g := W6.stay s7 gra
    have gN : ∀ p ∈ ps, ∀ c, p.2 = .ref c → c ≠ g := fun p hp c ec z => by
      have := hN p hp c ec
      obtain ⟨xs, e⟩ := W6.some
      rw [z, e] at this
      cases this
    have S7 : Same H H7 := fun b o e => s7 b _ (SH6 b o e) (ne_of_none e nra0)
    refine ⟨_, rfl, _, rfl, g, mn, rfl, W7, small_lit (by omega) (Nat.lt_of_le_of_lt (show _ ≤ 50 by omega) (by decide)), fun tn H8 t0 t1 W8 s8 => ?_⟩
    obtain ⟨tn, rfl⟩ : ∃ z : Nat, tn = (z : Int) := ⟨tn.toNat, by omega⟩
    have era8 := s8 _ _ era7 (Ne.symm gra)
    have S8 : Same H H8 := fun b o e => s8 b _ (S7 b o e) (ne_of_none e ng)
    have hP8 : PrAt H8 ps us := hP.mono fun b xs e => by
      obtain ⟨ys, e2⟩ := W7.some
      exact s8 _ _ e (ne_of e e2 (by intro z; cases z))
    have hR8 : EldAt H8 rs ps := eld_mono hR fun p hp c ec o eo => s8 _ _ eo (gN p hp c ec)
    have lus : us.length = mn := by
      have e1 := hP.length
      have e2 := hR.length
      have e3 := congrArg List.length hk
      rw [List.length_map, numb_len] at e3
      omega
    refine ⟨_, rfl, _, rfl, _, rfl, ra, us, rfl, SqL.of era8, fun q1 n1 => ?_⟩
    have c1 : cutV us (some (tn : Int)) none = us.drop tn := by
      unfold cutV
      rw [HT.sIx_none, HT.sIx_nat, Nat.min_eq_left (by omega)]
      exact List.take_of_length_le (by rw [List.length_drop]; omega)
    have c2 : cutV us none (some (tn : Int)) = us.take tn := by
      unfold cutV
      rw [HT.sIx_none, HT.sIx_nat, Nat.min_eq_left (by omega), List.drop_zero, Nat.sub_zero]
    rw [c1]
    have g1 := same_new n1 (.lst (us.drop tn))
    have e1 : upd H8 q1 (.lst (us.drop tn)) q1 = some (.lst (us.drop tn)) := upd_same
    generalize upd H8 q1 (.lst (us.drop tn)) = H9 at g1 e1 ⊢
    refine ⟨_, rfl, _, rfl, _, rfl, ra, us, rfl, SqL.of (g1 _ _ era8), fun q2 n2 => ?_⟩
    rw [c2]
    have g2 := same_new n2 (.lst (us.take tn))
    have e2 : upd H9 q2 (.lst (us.take tn)) q2 = some (.lst (us.take tn)) := upd_same
    generalize upd H9 q2 (.lst (us.take tn)) = H10 at g2 e2 ⊢
    refine ⟨q1, q2, _, _, rfl, rfl, g2 _ _ e1, e2, Nat.le_of_lt (small1000 (by rw [List.length_drop, List.length_take]; omega)), fun q3 n3 => ?_⟩
    have g3 := same_new n3 (.lst (us.drop tn ++ us.take tn))
    have gg := (g1.trans g2).trans g3
    have SS := S8.trans gg
    have hP9 : PrAt (upd H10 q3 (.lst (us.drop tn ++ us.take tn))) ps us := hP8.mono fun b xs e => gg _ _ e
    have hR9 := hR8.same gg
    refine k _ q3 _ (rs.drop tn ++ rs.take tn) (ps.drop tn ++ ps.take tn) SS (Same.free (S8.trans (g1.trans g2)) n3) upd_same (PrAt.append (hP9.drop tn) (hP9.take tn)) ((hR9.drop tn).append (hR9.take tn)) ?_ ?_
    · have pm : ((rs.drop tn ++ rs.take tn).map (·.1)).Perm (rs.map (·.1)) := by
        have : (rs.drop tn ++ rs.take tn).Perm rs := by
          have z := List.perm_append_comm (l₁ := rs.drop tn) (l₂ := rs.take tn)
          rw [List.take_append_drop] at z
          exact z
        exact this.map _
      refine elds_of (pm.nodup_iff.mpr (by rw [hk]; exact numb_nd dd0 mn)) fun r hr => ?_
      have hr' : r ∈ rs := by
        rcases List.mem_append.mp hr with hr | hr
        · exact List.mem_of_mem_drop hr
        · exact List.mem_of_mem_take hr
      refine ⟨(hb r hr').1, fun m hm => ⟨pm.mem_iff.mpr ?_, ((hb r hr').2 m hm).2⟩⟩
      rw [hk]
      exact ((hb r hr').2 m hm).1
    · have e4 := hP.length
      have e5 := hR.length
      rw [List.length_append, List.length_drop, List.length_take]
      omega
end
end Tw
set_option Elab.async false
set_option linter.all false
namespace Tw
/-- a base of two numbers -/
def BaseP (e : Int → List Int) (n m x : Int) : Prop := (Rch e n x ∧ Rch e m x) ∧ ∀ y, Rch e n y → Rch e m y → y ≠ x → ¬ Rch e y x
theorem IsR.congr {P R : Int → Prop} {ns : List Int} (h : IsR P ns) (e : ∀ x, P x ↔ R x) : IsR R ns := ⟨h.1, fun x => (h.2 x).trans (e x)⟩
theorem base_comm {e : Int → List Int} {n m : Int} {ns : List Int} (h : IsR (BaseP e n m) ns) : IsR (BaseP e m n) ns := h.congr fun x => ⟨fun z => ⟨z.1.symm, fun y a b => z.2 y b a⟩, fun z => ⟨z.1.symm, fun y a b => z.2 y b a⟩⟩
theorem base_one {ks : List Int} {e : Int → List Int} (E : Elds ks e) {n m : Int} (hn : n ∈ ks) (hm : m ∈ ks) (h : Rch e m n) : IsR (BaseP e n m) [n] := by
  refine ⟨by simp, fun x => ⟨fun hx => ?_, fun hx => ?_⟩⟩
  · rw [List.mem_singleton.mp hx]
    refine ⟨⟨.refl, h⟩, fun y a b ne r => ne ?_⟩
    have h1 := rch_le E hn a
    have h2 := rch_le E (rch_in E hn a) r
    omega
  · rw [List.mem_singleton]
    by_cases z : x = n
    · exact z
    · exact absurd hx.1.1 (hx.2 n .refl h (Ne.symm z))
/-- those that both reach, and that no other of these reaches -/
theorem base_due {ks : List Int} {e : Int → List Int} {R : Int → List Int} (E : Elds ks e) (hR : ∀ x ∈ ks, IsR (Rch e x) (R x)) {n m : Int} (hn : n ∈ ks) (hm : m ∈ ks) :
    IsR (BaseP e n m) (((R n).filter fun x => decide (x ∈ R m)).filter fun x => (((R n).filter fun x => decide (x ∈ R m)).filter fun y => decide (y ≠ x) && decide (x ∈ R y)).isEmpty) := by
  have hb : IsR (fun x => Rch e n x ∧ Rch e m x) ((R n).filter fun x => decide (x ∈ R m)) := (hR n hn).filter (hR m hm)
  generalize (R n).filter (fun x => decide (x ∈ R m)) = both at hb ⊢
  refine ⟨hb.1.filter _, fun x => ?_⟩
  rw [List.mem_filter, hb.2 x]
  refine and_congr_right fun hx => ?_
  rw [List.isEmpty_iff, List.filter_eq_nil_iff]
  constructor
  · intro h y a b ne r
    have hy : y ∈ both := (hb.2 y).mpr ⟨a, b⟩
    refine h y hy ?_
    rw [Bool.and_eq_true, decide_eq_true_iff, decide_eq_true_iff]
    exact ⟨ne, ((hR y (rch_in E hn a)).2 x).mpr r⟩
  · intro h y hy z
    rw [Bool.and_eq_true, decide_eq_true_iff, decide_eq_true_iff] at z
    have hy' := (hb.2 y).mp hy
    exact h y hy'.1 hy'.2 z.1 (((hR y (rch_in E hn hy'.1)).2 x).mp z.2)
theorem max_of {p : Int → Prop} [DecidablePred p] : ∀ {l : List Int} {x : Int}, x ∈ l → p x → ∃ y ∈ l, p y ∧ ∀ z ∈ l, p z → z ≤ y
  | a :: l, x, hx, px => by
    by_cases pa : p a
    · by_cases hl : ∃ b ∈ l, p b
      · obtain ⟨b, hb, pb⟩ := hl
        obtain ⟨y, hy, py, hm⟩ := max_of hb pb
        by_cases hay : a ≤ y
        · exact ⟨y, List.mem_cons_of_mem _ hy, py, fun z hz pz => (List.mem_cons.mp hz).elim (fun e => e ▸ hay) fun hz => hm z hz pz⟩
        · exact ⟨a, List.mem_cons_self, pa, fun z hz pz => (List.mem_cons.mp hz).elim (fun e => by rw [e]; exact Int.le_refl _) fun hz => by have := hm z hz pz; omega⟩
      · exact ⟨a, List.mem_cons_self, pa, fun z hz pz => (List.mem_cons.mp hz).elim (fun e => by rw [e]; exact Int.le_refl _) fun hz => absurd ⟨z, hz, pz⟩ hl⟩
    · have hxl : x ∈ l := (List.mem_cons.mp hx).elim (fun e => absurd (e ▸ px) pa) id
      obtain ⟨y, hy, py, hm⟩ := max_of hxl px
      exact ⟨y, List.mem_cons_of_mem _ hy, py, fun z hz pz => (List.mem_cons.mp hz).elim (fun e => absurd (e ▸ pz) pa) fun hz => hm z hz pz⟩
/-- each that both reach is reached from a base -/
theorem base_all {ks : List Int} {e : Int → List Int} {R : Int → List Int} (E : Elds ks e) (hR : ∀ x ∈ ks, IsR (Rch e x) (R x)) {n m : Int} (hn : n ∈ ks) (hm : m ∈ ks) {ns : List Int} (h : IsR (BaseP e n m) ns) {x : Int} (hx : Rch e n x ∧ Rch e m x) : ∃ b ∈ ns, x ∈ R b := by
  have hb : IsR (fun x => Rch e n x ∧ Rch e m x) ((R n).filter fun x => decide (x ∈ R m)) := (hR n hn).filter (hR m hm)
  obtain ⟨y, hy, py, hmax⟩ := max_of (p := fun y => x ∈ R y) ((hb.2 x).mpr hx) (((hR x (rch_in E hn hx.1)).2 x).mpr .refl)
  have hy' := (hb.2 y).mp hy
  have yk := rch_in E hn hy'.1
  have ryx := ((hR y yk).2 x).mp py
  refine ⟨y, (h.2 y).mpr ⟨hy', fun z a b ne r => ?_⟩, py⟩
  have zk := rch_in E hn a
  have h1 := hmax z ((hb.2 z).mpr ⟨a, b⟩) (((hR z zk).2 x).mpr (r.trans ryx))
  have h2 := rch_le E zk r
  exact ne (by omega)
end Tw
set_option Elab.async false
set_option linter.all false
set_option maxRecDepth 100000
set_option maxHeartbeats 4000000
namespace L2
open PySem PySem.Spec PyProof.Rows
section
variable {X : Cx}
/-- two lists of the same ints, != -/
theorem op_neInts (hu : X.A.units < cLine) : OpR X (compareOp .NotEq) (fun x y H Q => ∃ (p b : Addr) (ns : List Int), x = .ref p ∧ y = .ref b ∧ SqL X.K H p (ns.map V.int) ∧ SqL X.K H b (ns.map V.int) ∧ Q (.bl false) H) := by
  intro pins s σ H x y v u Q I rx ry h
  obtain ⟨p, b, ns, rfl, rfl, h1, h2, q⟩ := h
  cases rx
  cases ry
  obtain ⟨its, r1, p1, z1⟩ := I.list h1
  obtain ⟨its2, r2, p2, z2⟩ := I.list h2
  have l1 := r1.length
  have l2 := r2.length
  refine PySem.SeqAt.RcNeAt.lists (e := fun _ => true) p1.isList p2.isList (by simp; omega) hu (fun j g1 g2 => ?_) X.prog X.w X.xe _ (fin_bl I q (by simp))
  have hj : j < ns.length := by simp at g1; simp at l1; omega
  have hv : (ns.map V.int)[j]? = some (.int ns[j]) := by simp [hj]
  obtain ⟨u1, e1, a1⟩ := r1.get hv
  obtain ⟨u2, e2, a2⟩ := r2.get hv
  obtain ⟨t1, rfl⟩ := a1
  obtain ⟨t2, rfl⟩ := a2
  have k1 : its.toArray[j] = Value.int ns[j] t1 := by
    have : its.toArray[j]? = some (Value.int ns[j] t1) := by simpa using e1
    rw [Array.getElem?_eq_getElem g1] at this
    exact Option.some.inj this
  have k2 : its2.toArray[j] = Value.int ns[j] t2 := by
    have : its2.toArray[j]? = some (Value.int ns[j] t2) := by simpa using e2
    rw [Array.getElem?_eq_getElem g2] at this
    exact Option.some.inj this
  rw [k1, k2]
  have := PySem.SeqAt.EqAt.int_int (A := X.A.in1) (s := s) ns[j] t1 ns[j] t2
  simpa using this
end
end L2
set_option Elab.async false
set_option linter.all false
set_option maxRecDepth 100000
set_option maxHeartbeats 8000000
namespace Tw
open PySem PySem.Spec L2 PyProof.Rows
/-- [x for x in a if p x] -/
theorem comp_sel {J : It} {ix : List Nat} {σ : L2.St} {H : Hp} {tt : TT} {Q : VK} (ns : List Int) (p : Int → Bool) (hn : ns.length ≤ 900)
    (hgo : ∀ i H2, Same H H2 → i < ns.length → J.go i H2) (hy : ∀ i H2 x H3, Same H H2 → i < ns.length → J.yld i H2 x H3 → H3 = H2 ∧ (ns.map V.int)[i]? = some x) (hstop : ∀ H2, Same H H2 → J.stop ns.length H2)
    (test : ∀ H2 n (R : Bool → Hp → Prop), n ∈ ns → Same H H2 → R (p n) H2 → tt (cSlots σ ix (.int n)) H2 R)
    (fin : ∀ (D : Addr) (H2 : Hp), Same H H2 → H D = none → H2 D = some (.lst ((ns.filter p).map V.int)) → Q (.ref D) H2) : cEnd J σ ix tt (tVar 0) H Q := by
  refine comp_filter (n := ns.length) (fun i z => (ns.map V.int)[i]? = some z) (fun z => match z with | .int n => p n | _ => false) (fun D i ys H3 => Same H H3 ∧ H D = none ∧ ys = ((ns.take i).filter p).map V.int) (small1000 (by omega))
    (fun D i ys H3 hi hP => hgo i H3 hP.1 hi) (fun D i ys H3 z H4 hi hP hyy => hy i H3 z H4 hP.1 hi hyy) (fun D ys H3 hP => hstop H3 hP.1)
    (fun D hD => ⟨same_new hD _, hD, rfl⟩) (fun D i ys H3 z hi hz hP R hR => ?_) (fun D i ys H3 z eD hi hz hk hP => ?_) (fun D i ys H3 z eD hi hz hk hP => ?_) (fun D ys H3 eD hP => ?_)
  · rw [List.getElem?_map] at hz
    obtain ⟨n, en, rfl⟩ := Option.map_eq_some_iff.mp hz
    exact test H3 n R (List.mem_of_getElem? en) hP.1 hR
  · obtain ⟨s3, nD, rfl⟩ := hP
    rw [List.getElem?_map] at hz
    obtain ⟨n, en, rfl⟩ := Option.map_eq_some_iff.mp hz
    refine ⟨same_put s3 nD, nD, ?_⟩
    have hk' : p n = true := hk
    rw [List.take_add_one, en, List.filter_append]
    simp [hk']
  · obtain ⟨s3, nD, rfl⟩ := hP
    rw [List.getElem?_map] at hz
    obtain ⟨n, en, rfl⟩ := Option.map_eq_some_iff.mp hz
    refine ⟨s3, nD, ?_⟩
    have hk' : p n = false := hk
    rw [List.take_add_one, en, List.filter_append]
    simp [hk']
  · obtain ⟨s3, nD, rfl⟩ := hP
    rw [List.take_of_length_le (Nat.le_refl _)] at eD
    exact fin D H3 s3 nD eD
section
variable {P : Program} {w : World} {K : PySem.W.Frag} {mg : Str → Option Value} {base : Heap} {f : Addr} {fd : FuncData}
/-! ### _law_right -/
def spRight : Sp := fun vs H Q _ => ∃ (d fa : Addr) (n m : Int) (ks : List Int) (e R : Int → List Int) (kvs : List (Key × V)) (ns : List Int), vs = [.ref d, .int n, .int m, .ref fa] ∧ H d = some (.dK kvs) ∧ DictE H ks R kvs ∧ Elds ks e ∧ (∀ x ∈ ks, IsR (Rch e x) (R x)) ∧ n ∈ ks ∧ m ∈ ks ∧ ks.length < 20 ∧
  H fa = some (.lst (ns.map V.int)) ∧ IsR (BaseP e n m) ns ∧ ∀ H', Same H H' → Q (.bl true) H'
abbrev nRight : List Str := ["_law_below", "_law_one", "_law_other", "_law_found", "_law_both", "_law_due", "_law_number", "_law_above", "_law_reached"]
theorem scRight : FnScope nRight ["_law_below", "_law_one", "_law_other", "_law_found"] (defScope sRight) := ⟨rfl, rfl, rfl, by decide +kernel, rfl, by decide +kernel, by decide +kernel⟩
theorem ok_right (F : Fun K "_law_right" "_law_right" sRight f fd) (T : Txt mg) (DI : DefOk P w K mg base 2 "_law_list" ["_law_found", "_law_due"] spList) :
    FnOk P w K mg base CX0 3 f fd ["_law_below", "_law_one", "_law_other", "_law_found"] spRight := by
  refine F.ok scRight (fun vs H Q E h => (by obtain ⟨_, _, _, _, _, _, _, _, _, rfl, _⟩ := h; rfl)) (fun cdv A outer s H vs Q E hr h => ?_)
  obtain ⟨d, fa, n, m, ks, e, R, kvs, ns, rfl, hd, hE, E1, hR, hn, hm, h20, hfa, hB, k⟩ := h
  have nd := scRight.nd
  have hu := hu_of hr
  refine ⟨_, pss_cons (ps_setComp (i := 4) [0, 2] ["_law_below", "_law_other"] nd rfl rfl rfl (pi_list (pe_dget hu (pv 0) (pv 1) (fun _ _ => rfl))) (fun _ _ _ _ _ => pts_one (pt_cmpR (r := rIn K false) op_in_seq (pv 0) (pe_dget hu (pv 1) (pv 2) (fun _ _ => rfl)) rfl)) (fun _ _ _ _ _ => pv 0) ⟨rfl, .inl rfl, rfl, rfl, .inl rfl, rfl, trivial⟩)
    (pss_cons (ps_set (i := 5) nd rfl (Or.inl rfl) (pe_lst pa_nil))
    (pss_cons (ps_for PassesOwn.never rfl (pi_list (pv 4)) (pg_name (i := 6) nd rfl (Or.inr rfl))
      (pss_cons (ps_setComp (i := 7) [6, 0] ["_law_number", "_law_below"] nd rfl rfl rfl (pi_list (pv 4)) (fun _ _ _ _ _ => pts_one (PW.pt (pw_and (pt_cmpR op_ne (pv 0) (pv 1) (nomark _)) (pw_and1 (pt_cmpR (r := rIn K false) op_in_seq (pv 1) (pe_dget hu (pv 2) (pv 0) (fun _ _ => rfl)) rfl))))) (fun _ _ _ _ _ => pv 0) ⟨rfl, .inl rfl, rfl, rfl, .inl rfl, rfl, trivial⟩)
      (pss_one (ps_if (pt_cmpR (tw_eq_nil hr.units0) (pv 7) (pe_lst pa_nil) (nomark _)) (pss_one (ps_expr (pe_bm PySem.F.plainAttrs_list PySem.F.slot_list_append PySem.F.type_list_append mt_append (pv 5) (pa_c (pv 6) pa_nil)))) pss_nil))))
    (pss_cons (ps_if (pt_not (pt_val (pe_def DI hr (pa_c (pv 3) (pa_c (pv 5) pa_nil))))) (pss_one (ps_ret pe_bl)) pss_nil)
    (pss_cons (ps_if (PW.pt (pw_and (pt_cmpR op_in_seq (pv 1) (pe_dget hu (pv 0) (pv 2) (fun _ _ => rfl)) rfl) (pw_and1 (pt_cmpR (op_neInts hr.units0) (pv 3) (pe_lst (pa_c (pv 1) pa_nil)) (nomark _))))) (pss_one (ps_ret pe_bl)) pss_nil)
    (pss_cons (ps_set (i := 8) nd rfl (Or.inr rfl) (pe_lst pa_nil))
    (pss_cons (ps_for PassesOwn.never rfl (pi_list (pv 3)) (pg_name (i := 6) nd rfl (Or.inr rfl))
      (pss_one (ps_set (i := 8) nd rfl (Or.inr rfl) (pe_op op_cat (pv 8) (pe_dget hu (pv 0) (pv 6) (fun _ _ => rfl))))))
    (pss_one (ps_ret (pe_cmpR (tw_eq_nil hr.units0) (pe_comp [8] ["_law_reached"] rfl (pi_list (pv 4)) (fun _ _ _ _ _ => pts_one (pt_cmpR (r := rIn K true) op_notIn_seq (pv 0) (pv 1) rfl)) (fun _ _ _ _ _ => pv 0) ⟨rfl, .inl rfl, rfl, trivial⟩) (pe_lst pa_nil) (nomark _)))))))))), ?_⟩
  have get : ∀ {x : Int} {H1 : Hp}, x ∈ ks → Same H H1 → ∃ a, DGet H1 d (.int x) (some (.ref a)) ∧ H1 a = some (.lst ((R x).map V.int)) := fun {x H1} hx s1 => by
    obtain ⟨a, ea, ha⟩ := hE.2 x hx
    exact ⟨a, ea ▸ DGet.k (k := Sum.inl x) (s1 _ _ hd), s1 _ _ ha⟩
  have len : ∀ {x : Int}, x ∈ ks → (R x).length ≤ ks.length := fun {x} hx => isr_len (hR x hx) fun y hy => rch_in E1 hx hy
  obtain ⟨a1, g1, h1⟩ := get hn (Same.refl H)
  have hIb := (hR n hn).filter (hR m hm)
  refine ⟨_, rfl, _, rfl, d, .ref a1, rfl, g1, a1, rfl, ⟨_, SqL.of h1⟩, comp_sel (R n) (fun x => decide (x ∈ R m)) (by have := len hn; omega) (fun i H3 s3 hi => ⟨_, .int (R n)[i], SqL.of (s3 _ _ h1), by simp [hi]⟩) (fun i H3 x H4 s3 hi hy => ⟨hy.1, hy.2 _ (SqL.of (s3 _ _ h1))⟩) (fun H3 s3 => ⟨_, SqL.of (s3 _ _ h1), by simp⟩) (fun H3 x RR _ s3 hRR => ?_) (fun ba H3 s3 nba hba => ?_)⟩
  · obtain ⟨a2, g2, h2⟩ := get hm s3
    refine ⟨_, rfl, _, rfl, _, rfl, d, .ref a2, rfl, g2, a2, _, rfl, .inl (SqL.of h2), rfl, flat_ints _, _, rfl, ?_⟩
    rw [if_neg Bool.false_ne_true, in_ints]
    exact hRR
  have hdue := base_due E1 hR hn hm
  generalize (R n).filter (fun x => decide (x ∈ R m)) = both at hIb hba hdue
  have bin : ∀ {x : Int}, x ∈ both → x ∈ ks := fun {x} hx => rch_in E1 hn ((hIb.2 x).mp hx).1
  have lb : both.length ≤ ks.length := isr_len hIb fun y hy => rch_in E1 hn hy.1
  have ln : ns.length ≤ ks.length := isr_len hB fun y hy => rch_in E1 hn hy.1.1
  refine ⟨nn (Nat.le_of_ble_eq_true rfl), fun da nda => ?_⟩
  have g4 := same_new nda (.lst [])
  refine ⟨_, rfl, ba, rfl, ⟨_, SqL.of (g4 _ _ hba)⟩, for_list (K := K) (a := ba) (xs := both.map V.int) (fun i σ H5 => ∃ (k6 k7 : Option V), σ = [some (.ref d), some (.int n), some (.int m), some (.ref fa), some (.ref ba), some (.ref da), k6, k7, none] ∧ Same H3 H5 ∧ H5 da = some (.lst (((both.take i).filter fun x => (both.filter fun y => decide (y ≠ x) && decide (x ∈ R y)).isEmpty).map V.int)))
    ⟨_, _, rfl, g4, upd_same⟩ (fun i σ H5 _ hp => by obtain ⟨_, _, _, s5, _⟩ := hp; exact SqL.of (s5 _ _ hba)) ?_ ?_⟩
  · rintro i u σ H5 hu5 ⟨k6, k7, rfl, s5, hda⟩
    rw [List.getElem?_map] at hu5
    obtain ⟨x, ex, rfl⟩ := Option.map_eq_some_iff.mp hu5
    have hx : x ∈ both := List.mem_of_getElem? ex
    have s35 := s3.trans s5
    have hba5 := s5 _ _ hba
    refine ⟨_, rfl, ba, rfl, ⟨_, SqL.of hba5⟩, comp_sel both (fun y => decide (y ≠ x) && decide (x ∈ R y)) (by omega) (fun i H3 s3 hi => ⟨_, .int both[i], SqL.of (s3 _ _ hba5), by simp [hi]⟩) (fun i H3 x H4 s3 hi hy => ⟨hy.1, hy.2 _ (SqL.of (s3 _ _ hba5))⟩) (fun H3 s3 => ⟨_, SqL.of (s3 _ _ hba5), by simp⟩) (fun H6 y RR hy s6 hRR => ?_) (fun aa H6 s6 naa haa => ?_)⟩
    · refine ⟨_, rfl, _, rfl, rfl, _, rfl, ?_⟩
      have ene : (!decide (V.int y = V.int x)) = decide (y ≠ x) := by simp
      obtain ⟨a2, g2, h2⟩ := get (bin hy) (s35.trans s6)
      rw [ene]
      cases hc : decide (y ≠ x) with
      | false =>
        rw [hc, Bool.false_and] at hRR
        exact iteF hRR
      | true =>
        rw [hc, Bool.true_and] at hRR
        refine iteT ⟨_, rfl, _, rfl, _, rfl, d, .ref a2, rfl, g2, a2, _, rfl, .inl (SqL.of h2), rfl, flat_ints _, _, rfl, ?_⟩
        rw [if_neg Bool.false_ne_true, in_ints]
        exact hRR
    · refine ⟨_, rfl, nn (Nat.le_of_ble_eq_true rfl), fun e0 he0 => ?_⟩
      have g7 := same_new he0 (.lst [])
      refine ⟨aa, e0, _, rfl, rfl, SqL.of (g7 _ _ haa), SqL.of upd_same, _, rfl, ?_⟩
      have s37 := (s5.trans s6).trans g7
      have hda7 := g7 _ _ (s6 _ _ hda)
      generalize upd H6 e0 (.lst []) = H7 at s37 hda7 ⊢
      have eem : ((both.filter fun y => decide (y ≠ x) && decide (x ∈ R y)).map V.int).isEmpty = (both.filter fun y => decide (y ≠ x) && decide (x ∈ R y)).isEmpty := by rw [List.isEmpty_map]
      rw [eem]
      cases hc : (both.filter fun y => decide (y ≠ x) && decide (x ∈ R y)).isEmpty with
      | true =>
        refine iteT ⟨_, rfl, .inl ⟨rfl, _, SqL.of hda7⟩, _, rfl, da, _, _, rfl, rfl, hda7, small1000 (by have := List.length_filter_le (fun x => (both.filter fun y => decide (y ≠ x) && decide (x ∈ R y)).isEmpty) (both.take i); rw [List.length_take] at this; rw [List.length_map]; omega), ?_⟩
        refine ⟨_, _, rfl, same_put s37 nda, ?_⟩
        rw [upd_same, List.take_add_one, ex, List.filter_append]
        simp only [Option.toList_some, List.filter_cons, hc, if_true, List.filter_nil, List.map_append, List.map_cons, List.map_nil]
      | false =>
        refine iteF ⟨_, _, rfl, s37, ?_⟩
        rw [hda7, List.take_add_one, ex, List.filter_append]
        simp only [Option.toList_some, List.filter_cons, hc, Bool.false_eq_true, if_false, List.filter_nil, List.append_nil]
  · rintro σ H5 ⟨k6, k7, rfl, s5, hda⟩
    rw [List.length_map, List.take_of_length_le (Nat.le_refl _)] at hda
    have edue : both.filter (fun x => (both.filter fun y => decide (y ≠ x) && decide (x ∈ R y)).isEmpty) = ns := hdue.uniq hB
    rw [edue] at hda
    have s35 := s3.trans s5
    refine ⟨_, rfl, _, rfl, fa, da, ns, rfl, s35 _ _ hfa, hda, by omega, fun H6 s6 => ⟨_, rfl, iteF ?_⟩⟩
    have s36 := s35.trans s6
    obtain ⟨a2, g2, h2⟩ := get hm s36
    have tail : ∀ (H7 : Hp), Same H6 H7 → tSeq (tAsg (tLst tNil) (gName 8)) (tSeq (tFor (iList K (tVar 3)) (gName 6) (tAsg (tOp rCat (tVar 8) (tDGet (tVar 0) (tVar 6))) (gName 8))) (tRet (tOp (fun x y H Q => ∃ p b xs, x = .ref p ∧ y = .ref b ∧ SqL K H p xs ∧ SqL K H b [] ∧ Q (.bl xs.isEmpty) H) (tComp (iList K (tVar 4)) [8] (tTest (tOp (rIn K true) (tVar 0) (tVar 1))) (tVar 0)) (tLst tNil)))) { nx := fun _ H' => Q .non H', rt := Q } [some (.ref d), some (.int n), some (.int m), some (.ref fa), some (.ref ba), some (.ref da), k6, k7, none] H7 := by
      intro H7 s67
      have s07 := s36.trans s67
      have hba7 := s67 _ _ (s6 _ _ (s5 _ _ hba))
      refine ⟨nn (Nat.le_of_ble_eq_true rfl), fun r0 nr0 => ?_⟩
      have g8 := same_new nr0 (.lst [])
      refine ⟨_, rfl, fa, rfl, ⟨_, SqL.of (g8 _ _ (s07 _ _ hfa))⟩, for_list (K := K) (a := fa) (xs := ns.map V.int) (fun i σ H8 => ∃ (k6 : Option V) (ra : Addr) (rl : List Int), σ = [some (.ref d), some (.int n), some (.int m), some (.ref fa), some (.ref ba), some (.ref da), k6, k7, some (.ref ra)] ∧ Same H7 H8 ∧ H8 ra = some (.lst (rl.map V.int)) ∧ rl.length ≤ 20 * i ∧ ∀ b ∈ ns.take i, ∀ x ∈ R b, x ∈ rl)
        ⟨_, r0, [], rfl, g8, upd_same, Nat.le_refl _, fun b hb => by simp at hb⟩ (fun i σ H8 _ hp => by obtain ⟨_, _, _, _, s8, _⟩ := hp; exact SqL.of (s8 _ _ (s07 _ _ hfa))) ?_ ?_⟩
      · rintro i u σ H8 hu8 ⟨k6, ra, rl, rfl, s8, hra, lrl, hrl⟩
        have hin : i < ns.length := by
          have := (List.getElem?_eq_some_iff.mp hu8).1
          rw [List.length_map] at this
          exact this
        rw [List.getElem?_map] at hu8
        obtain ⟨b, eb, rfl⟩ := Option.map_eq_some_iff.mp hu8
        have hb : b ∈ ks := rch_in E1 hn ((hB.2 b).mp (List.mem_of_getElem? eb)).1.1
        obtain ⟨a3, g3, h3⟩ := get hb (s07.trans s8)
        have lR := len hb
        refine ⟨_, rfl, _, rfl, _, rfl, d, .ref a3, rfl, g3, ra, a3, _, _, rfl, rfl, hra, h3, Nat.le_of_lt (small1000 (by rw [List.length_map, List.length_map]; omega)), fun q nq => ?_⟩
        refine ⟨_, q, rl ++ R b, rfl, s8.trans (same_new nq _), by rw [upd_same, List.map_append], by rw [List.length_append]; omega, fun c hc x hx => ?_⟩
        rw [List.take_add_one, eb] at hc
        rcases List.mem_append.mp hc with hc | hc
        · exact List.mem_append_left _ (hrl c hc x hx)
        · have ec : c = b := by simpa using hc
          subst ec
          exact List.mem_append_right _ hx
      · rintro σ H8 ⟨k6, ra, rl, rfl, s8, hra, lrl, hrl⟩
        rw [List.length_map, List.take_of_length_le (Nat.le_refl _)] at hrl
        have hba8 := s8 _ _ hba7
        have efl : both.filter (fun x => !decide (x ∈ rl)) = [] := by
          rw [List.filter_eq_nil_iff]
          intro x hx z
          obtain ⟨b, hb, hxb⟩ := base_all E1 hR hn hm hB ((hIb.2 x).mp hx)
          rw [decide_eq_true (hrl b hb x hxb)] at z
          cases z
        refine ⟨_, rfl, ba, rfl, ⟨_, SqL.of hba8⟩, comp_sel both (fun x => !decide (x ∈ rl)) (by omega) (fun i H3 s3 hi => ⟨_, .int both[i], SqL.of (s3 _ _ hba8), by simp [hi]⟩) (fun i H3 x H4 s3 hi hy => ⟨hy.1, hy.2 _ (SqL.of (s3 _ _ hba8))⟩) (fun H3 s3 => ⟨_, SqL.of (s3 _ _ hba8), by simp⟩) (fun H9 y RR hy s9 hRR => ?_) (fun D H9 s9 nD hD => ?_)⟩
        · refine ⟨_, rfl, _, rfl, ra, _, rfl, .inl (SqL.of (s9 _ _ hra)), rfl, flat_ints _, _, rfl, ?_⟩
          rw [if_pos rfl, in_ints]
          exact hRR
        · rw [efl] at hD
          refine ⟨nn (Nat.le_of_ble_eq_true rfl), fun e0 he0 => ?_⟩
          have g9 := same_new he0 (.lst [])
          exact ⟨D, e0, [], rfl, rfl, SqL.of (g9 _ _ hD), SqL.of upd_same, k _ (((s07.trans s8).trans s9).trans g9)⟩
    refine ⟨_, rfl, _, rfl, _, rfl, d, .ref a2, rfl, g2, a2, _, rfl, .inl (SqL.of h2), rfl, flat_ints _, _, rfl, ?_⟩
    rw [if_neg Bool.false_ne_true, in_ints]
    cases hc : decide (n ∈ R m) with
    | false => exact iteF (iteF (tail H6 (Same.refl _)))
    | true =>
      have e1 : ns = [n] := hB.uniq (base_one E1 hn hm (((hR m hm).2 n).mp (of_decide_eq_true hc)))
      refine iteT ⟨_, rfl, _, rfl, nn (Nat.le_of_ble_eq_true rfl), fun l1 nl1 => ?_⟩
      have g7 := same_new nl1 (.lst [.int n])
      have hfa6 := s36 _ _ hfa
      rw [e1] at hfa6
      refine ⟨fa, l1, [n], rfl, rfl, SqL.of (g7 _ _ hfa6), SqL.of upd_same, _, rfl, iteF (tail _ g7)⟩
end
end Tw
set_option Elab.async false
set_option linter.all false
set_option maxRecDepth 100000
set_option maxHeartbeats 8000000
namespace Tw
open PySem PySem.Spec L2 PyProof.Rows
/-! ### a ladder -/
def LadP (st dd : Int) (k : Nat) (es : List Int) : Prop := es.length ≤ 3 ∧ (∀ m ∈ es, ∃ j : Nat, j < k ∧ m = st + dd * (j : Int)) ∧ (0 < k → st + dd * ((k - 1 : Nat) : Int) ∈ es)
def Lad (st dd : Int) (n : Nat) (rs : List (Int × List Int)) : Prop := rs.map (·.1) = numb st dd n ∧ ∀ (k : Nat) (r : Int × List Int), rs[k]? = some r → LadP st dd k r.2
theorem numb_mem {st dd : Int} {n : Nat} {x : Int} : x ∈ numb st dd n ↔ ∃ j : Nat, j < n ∧ x = st + dd * (j : Int) := by
  unfold numb
  rw [List.mem_map]
  constructor
  · rintro ⟨j, hj, rfl⟩
    exact ⟨j, List.mem_range.mp hj, rfl⟩
  · rintro ⟨j, hj, rfl⟩
    exact ⟨j, List.mem_range.mpr hj, rfl⟩
theorem Lad.elders {st dd : Int} {n : Nat} {rs : List (Int × List Int)} (h : Lad st dd n rs) (hd : 0 < dd) {k : Nat} (hk : k < n) : LadP st dd k (eOf rs (st + dd * (k : Int))) := by
  have hl : rs.length = n := by have := congrArg List.length h.1; rw [List.length_map, numb_len] at this; exact this
  have hk' : k < rs.length := by omega
  have e1 : rs[k]? = some rs[k] := List.getElem?_eq_getElem hk'
  have e2 : rs[k].1 = st + dd * (k : Int) := by
    have : (rs.map (·.1))[k]? = some (st + dd * (k : Int)) := by rw [h.1]; exact numb_get hk
    rw [List.getElem?_map, e1] at this
    exact Option.some.inj this
  have e3 : eOf rs (st + dd * (k : Int)) = rs[k].2 := eOf_get (by rw [h.1]; exact numb_nd hd n) (by rw [e1, ← e2])
  rw [e3]
  exact h.2 k _ e1
theorem Lad.elds {st dd : Int} {n : Nat} {rs : List (Int × List Int)} (h : Lad st dd n rs) (hd : 0 < dd) : Elds (rs.map (·.1)) (eOf rs) := by
  refine ⟨by rw [h.1]; exact numb_nd hd n, fun x hx m hm => ?_, fun x hx => ?_, fun x hx m hm => ?_⟩
  · rw [h.1] at hx ⊢
    obtain ⟨k, hk, rfl⟩ := numb_mem.mp hx
    obtain ⟨j, hj, rfl⟩ := (h.elders hd hk).2.1 m hm
    exact numb_mem.mpr ⟨j, by omega, rfl⟩
  · rw [h.1] at hx
    obtain ⟨k, hk, rfl⟩ := numb_mem.mp hx
    exact (h.elders hd hk).1
  · rw [h.1] at hx
    obtain ⟨k, hk, rfl⟩ := numb_mem.mp hx
    obtain ⟨j, hj, rfl⟩ := (h.elders hd hk).2.1 m hm
    have : dd * (j : Int) < dd * (k : Int) := Int.mul_lt_mul_of_pos_left (by omega) hd
    omega
theorem Lad.reach {st dd : Int} {n : Nat} {rs : List (Int × List Int)} (h : Lad st dd n rs) (hd : 0 < dd) : ∀ {k : Nat}, k < n → IsR (Rch (eOf rs) (st + dd * (k : Int))) (numb st dd (k + 1)) := by
  intro k hk
  refine ⟨numb_lt hd _, fun x => ⟨fun hx => ?_, fun r => ?_⟩⟩
  · obtain ⟨j, hj, rfl⟩ := numb_mem.mp hx
    have down : ∀ i : Nat, i ≤ k → Rch (eOf rs) (st + dd * (k : Int)) (st + dd * ((k - i : Nat) : Int)) := fun i => by
      induction i with
      | zero => intro _; exact .refl
      | succ i ih =>
        intro hi
        refine .step (ih (by omega)) ?_
        have := (h.elders hd (k := k - i) (by omega)).2.2 (by omega)
        have e : k - i - 1 = k - (i + 1) := by omega
        rw [e] at this
        exact this
    have := down (k - j) (by omega)
    have e : k - (k - j) = j := by omega
    rw [e] at this
    exact this
  · induction r with
    | refl => exact numb_mem.mpr ⟨k, by omega, rfl⟩
    | step _ hm ih =>
      obtain ⟨j, hj, rfl⟩ := numb_mem.mp ih
      obtain ⟨i, hi, rfl⟩ := (h.elders hd (k := j) (by omega)).2.1 _ hm
      exact numb_mem.mpr ⟨i, by omega, rfl⟩
theorem Lad.snoc {st dd : Int} {n : Nat} {rs : List (Int × List Int)} {es : List Int} (h : Lad st dd n rs) (he : LadP st dd n es) : Lad st dd (n + 1) (rs ++ [(st + dd * (n : Int), es)]) := by
  have hl : rs.length = n := by have := congrArg List.length h.1; rw [List.length_map, numb_len] at this; exact this
  refine ⟨by rw [List.map_append, h.1, numb_succ]; rfl, fun k r hr => ?_⟩
  by_cases hk : k < rs.length
  · rw [List.getElem?_append_left hk] at hr
    exact h.2 k r hr
  · rw [List.getElem?_append_right (by omega)] at hr
    have e : k - rs.length = 0 := by
      rcases Nat.eq_zero_or_pos (k - rs.length) with z | z
      · exact z
      · rw [List.getElem?_eq_none (by simp; omega)] at hr; cases hr
    rw [e] at hr
    simp at hr
    subst hr
    have e2 : k = n := by omega
    rw [e2]
    exact he
theorem cut_ladder {st dd : Int} {n b k : Nat} (hk : k < n) (b1 : 1 ≤ b) (b3 : b ≤ 3) : ∃ es : List Int, cutV ((numb st dd n).map V.int) (some ((if ((k : Int) - (b : Int)) > 0 then (k : Int) - (b : Int) else 0))) (some (k : Int)) = es.map V.int ∧ LadP st dd k es := by
  have e : (if ((k : Int) - (b : Int)) > 0 then (k : Int) - (b : Int) else 0) = ((k - b : Nat) : Int) := by split <;> omega
  rw [e]
  refine ⟨((numb st dd n).drop (k - b)).take (k - (k - b)), ?_, ?_, fun m hm => ?_, fun h0 => ?_⟩
  · unfold cutV
    rw [HT.sIx_nat, HT.sIx_nat, List.length_map, numb_len, Nat.min_eq_left (by omega), Nat.min_eq_left (by omega), List.map_take, List.map_drop]
  · rw [List.length_take]
    omega
  · obtain ⟨i, hi⟩ := List.getElem?_of_mem hm
    have hi2 : i < k - (k - b) := by
      have := (List.getElem?_eq_some_iff.mp hi).1
      rw [List.length_take] at this
      omega
    rw [List.getElem?_take_of_lt hi2, List.getElem?_drop, numb_get (by omega)] at hi
    exact ⟨k - b + i, by omega, (Option.some.inj hi).symm⟩
  · refine List.mem_of_getElem? (i := k - 1 - (k - b)) ?_
    rw [List.getElem?_take_of_lt (by omega), List.getElem?_drop]
    have e2 : k - b + (k - 1 - (k - b)) = k - 1 := by omega
    rw [e2]
    exact numb_get (by omega)
theorem atI_back {xs : List V} {j : Nat} {v : V} (h1 : 1 ≤ j) (h2 : j ≤ xs.length) (h : xs[xs.length - j]? = some v) : atI xs (-(j : Int)) = some v := by
  unfold atI
  have e : ixN xs.length (-(j : Int)) = some (xs.length - j) := by
    unfold ixN
    rw [if_neg (by omega), if_pos (by omega)]
    congr 1
    omega
  rw [e]
  exact h
theorem cut_back {xs : List V} (h : 1 ≤ xs.length) : cutV xs none (some (-1 : Int)) = xs.take (xs.length - 1) := by
  unfold cutV
  have e : HT.sIx xs.length xs.length (some (-1)) = xs.length - 1 := by
    show (if (-1 : Int) < 0 then ((-1 : Int) + (xs.length : Int)).toNat else min (-1 : Int).toNat xs.length) = _
    rw [if_pos (by decide)]
    omega
  rw [HT.sIx_none, e, List.drop_zero, Nat.sub_zero]
theorem dk_alike {H H' H0 : Hp} (s : Same H H0) (s' : Same H0 H') : ∀ {rs : List (Int × List Int)} {ps ps' : List (Int × V)}, EldAt H rs ps → EldAt H' rs ps' → NewL H0 ps' → DkA H' (kvE ps) (kvE ps')
  | [], [], [], _, _, _ => trivial
  | r :: rs, p :: ps, q :: ps', h1, h2, hn => by
    obtain ⟨a, e1, e2⟩ := h1.2.1
    obtain ⟨b, e3, e4⟩ := h2.2.1
    refine ⟨congrArg Sum.inl (h1.1.trans h2.1.symm), ⟨a, b, r.2, e1, e3, ?_, s' _ _ (s _ _ e2), e4⟩, dk_alike s s' h1.2.2 h2.2.2 fun p hp => hn p (List.mem_cons_of_mem _ hp)⟩
    have := hn q List.mem_cons_self b e3
    exact ne_of_none (s _ _ e2) this
theorem kvE_nodup {H : Hp} {rs : List (Int × List Int)} {ps : List (Int × V)} (h : EldAt H rs ps) (nd : (rs.map (·.1)).Nodup) : ((kvE ps).map (·.1)).Nodup := by
  have e : (kvE ps).map (·.1) = (rs.map (·.1)).map Sum.inl := h.dict.1
  rw [e]
  exact List.Pairwise.map _ (fun a b z y => z (Sum.inl.inj y)) nd
section
variable {P : Program} {w : World} {K : PySem.W.Frag} {mg : Str → Option Value} {base : Heap} {f : Addr} {fd : FuncData}
/-! ### bases, as it is promised -/
def spBases : Sp := fun vs H Q _ => ∃ (d : Addr) (n m : Int) (ks : List Int) (e : Int → List Int) (kvs : List (Key × V)), vs = [.ref d, .int n, .int m] ∧ H d = some (.dK kvs) ∧ DictE H ks e kvs ∧ Elds ks e ∧ n ∈ ks ∧ m ∈ ks ∧ ks.length < 64 ∧
  ∀ (H' : Hp) (p : Addr) (ns : List Int), Same H H' → H p = none → H' p = some (.lst (ns.map V.int)) → IsR (BaseP e n m) ns → Q (.ref p) H'
/-! ### _law_climbed -/
def spClimbed (K : PySem.W.Frag) : Sp := fun vs H Q _ => ∃ (a : Addr) (ns : List Int), vs = [.ref a] ∧ SqL K H a (ns.map V.int) ∧ ns.length ≤ 63 ∧ ∀ H', Same H H' → Q (.bl true) H'
abbrev nClimbed : List Str := ["_law_script", "_law_ground", "_law_start", "_law_numbers", "_law_handed", "_law_at"]
theorem scClimbed : FnScope nClimbed ["_law_script"] (defScope sClimbed) := ⟨rfl, rfl, rfl, by decide +kernel, rfl, by decide +kernel, by decide +kernel⟩
theorem ok_climbed {kb : Nat} (hkb : kb ≤ 6) (F : Fun K "_law_climbed" "_law_climbed" sClimbed f fd) (T : Txt mg) (DW : DefOk P w K mg base 1 "_law_well" ["_law_script", "_law_k"] (spWell K)) (DP : DefOk P w K mg base 1 "_law_pull" ["_law_well_here", "_law_many"] spPull)
    (DI : DefOk P w K mg base 2 "_law_list" ["_law_found", "_law_due"] spList) (DS : DefOk P w K mg base kb "bases" ["elders", "one", "other"] spBases) :
    FnOk P w K mg base CX0 7 f fd ["_law_script"] (spClimbed K) := by
  refine F.ok scClimbed (fun vs H Q E h => (by obtain ⟨_, _, rfl, _⟩ := h; rfl)) (fun cdv A outer s H vs Q E hr h => ?_)
  obtain ⟨a, ns, rfl, hS, hns, k⟩ := h
  have nd := scClimbed.nd
  have hr1 := hr.mono (show 1 ≤ 6 by omega)
  have hr2 := hr.mono (show 2 ≤ 6 by omega)
  have hrb := hr.mono hkb
  refine ⟨_, pss_cons (ps_set (i := 1) nd rfl (Or.inl rfl) (pe_def DW hr1 (pa_c (pv 0) (pa_c pe_int pa_nil))))
    (pss_cons (ps_set (i := 2) nd rfl (Or.inr rfl) (pe_def DP hr1 (pa_c (pv 1) (pa_c pe_int pa_nil))))
    (pss_cons (ps_set (i := 3) nd rfl (Or.inr rfl) (pe_comp [2] ["_law_start"] rfl (pi_range1 rfl T.range (pa_c (pe_op op_add pe_int (pe_def DP hr1 (pa_c (pv 1) (pa_c pe_int pa_nil)))) pa_nil)) (fun _ _ _ _ _ => pts_nil) (fun _ _ _ _ _ => pe_op op_add (pv 1) (pe_op op_mul pe_int (pv 0))) ⟨rfl, .inl rfl, rfl, trivial⟩))
    (pss_cons (ps_set (i := 4) nd rfl (Or.inl rfl) (pe_callTy (call_dictP rfl) rfl T.dict tb_dict (pa_c (pe_comp [3] ["_law_numbers"] rfl (pi_range1 rfl T.range (pa_c (pe_callB call_len_seq rfl T.len tb_len (pa_c (pv 3) pa_nil)) pa_nil)) (fun _ _ _ _ _ => pts_nil)
      (fun _ _ _ _ _ => pe_tup (pa_c (pe_ix (r := rIx K) ix_seq (pv 1) (pv 0) (fun _ _ => rfl)) (pa_c (pe_slice (r := rSlL K) sl_list (pv 1) (po_some (pe_callB (call_max2 rfl) rfl T.max tb_max (pa_c pe_int (pa_c (pe_op op_sub (pv 0) pe_int) pa_nil)))) (po_some (pv 0))) pa_nil))) ⟨rfl, .inl rfl, rfl, trivial⟩) pa_nil)))
    (pss_cons (ps_set (i := 5) nd rfl (Or.inl rfl) (pe_def DP hr1 (pa_c (pv 1) (pa_c (pe_callB call_len_seq rfl T.len tb_len (pa_c (pv 3) pa_nil)) pa_nil))))
    (pss_cons (ps_if (pt_not (pt_val (pe_def DI hr2 (pa_c (pe_def DS hrb (pa3 (pv 4) (pe_ix ix_list (pv 3) (pe_un un_neg pe_int) (fun _ _ => rfl)) (pe_ix ix_list (pv 3) (pe_un un_neg pe_int) (fun _ _ => rfl)))) (pa_c (pe_lst (pa_c (pe_ix ix_list (pv 3) (pe_un un_neg pe_int) (fun _ _ => rfl)) pa_nil)) pa_nil))))) (pss_one (ps_ret pe_bl)) pss_nil)
    (pss_one (ps_ret (pe_cmpR (op_eqInts hr.units0) (pe_def DS hrb (pa3 (pv 4) (pe_ix ix_list (pv 3) (pv 5) (fun _ _ => rfl)) (pe_ix ix_list (pv 3) (pe_un un_neg pe_int) (fun _ _ => rfl)))) (pe_lst (pa_c (pe_ix ix_list (pv 3) (pv 5) (fun _ _ => rfl)) pa_nil)) (nomark _))))))))), ?_⟩
  refine ⟨_, rfl, a, ns, 0, rfl, hS, hns, by decide, by decide, fun g H1 ng s1 W1 => ?_⟩
  refine ⟨_, rfl, g, 9, rfl, W1, small_lit (by decide) (by decide), fun st H3 st0 st1 W3 s3 => ?_⟩
  refine ⟨_, rfl, g, 21, rfl, W3, small_lit (by decide) (by decide), fun q H5 q0 q1 W5 s5 => ⟨_, _, rfl, rfl, ?_⟩⟩
  obtain ⟨n, en, n1, n2⟩ : ∃ z : Nat, (30 + q : Int) = (z : Int) ∧ 30 ≤ z ∧ z ≤ 50 := ⟨(30 + q).toNat, by omega, by omega, by omega⟩
  refine ⟨_, rfl, by show _ ≤ (30 + q : Int); omega, by show (30 + q : Int) < _; omega, ?_⟩
  show cEnd (Itr 0 (30 + q : Int).toNat) _ _ _ _ _ _
  rw [en, Int.toNat_natCast]
  have SH5 : Same H H5 := fun b o e => by
    have n := ne_of_none e ng
    exact s5 _ _ (s3 _ _ (s1 b o e) n) n
  refine comp_map (n := n) (fun i x => x = .int (0 + (i : Int))) (fun D i ys H6 => Same H5 H6 ∧ H5 D = none ∧ ys = (numb st 3 i).map V.int) (small1000 (by omega))
    (fun D i ys H3 hi _ => hi) (fun D i ys H3 x H4 hi _ hy => hy) (fun D ys H3 _ => Nat.le_refl _) (fun D hD => ⟨same_new hD _, hD, rfl⟩) (fun D i ys H6 x eD hl' hi hx hP R hR => ?_) (fun na ys H6 eD hP => ?_)
  · subst hx
    obtain ⟨s6, nD, rfl⟩ := hP
    refine ⟨_, rfl, _, rfl, _, _, rfl, rfl, .inr ⟨by omega, by omega⟩, _, _, rfl, rfl, ?_⟩
    refine hR _ H6 eD ⟨same_put s6 nD, nD, ?_⟩
    rw [numb_succ, List.map_append, Int.zero_add]
    rfl
  obtain ⟨s6, nna, rfl⟩ := hP
  have W6 := W5.same s6
  have SH6 := SH5.trans s6
  have dd0 : (0 : Int) < 3 := by decide
  refine ⟨_, rfl, na, _, rfl, .inl (SqL.of eD), ?_⟩
  have ln : (((numb st 3 n).map V.int).length : Int) = (n : Int) := by rw [List.length_map, numb_len]
  refine ⟨_, rfl, by rw [ln]; omega, by rw [ln]; omega, ?_⟩
  show cEnd (Itr 0 ((((numb st 3 n).map V.int).length : Int) - 0).toNat) _ _ _ _ _ _
  rw [ln, Int.sub_zero, Int.toNat_natCast]
  refine comp_map (n := n) (fun i x => x = .int (0 + (i : Int))) (fun D i ys H8 => ∃ qs rs', Same H6 H8 ∧ H6 D = none ∧ PrAt H8 qs ys ∧ EldAt H8 rs' qs ∧ (∀ p ∈ qs, ∀ c, p.2 = .ref c → c ≠ D) ∧ NewL H6 qs ∧ Lad st 3 i rs') (small1000 (by omega))
    (fun D i ys H3 hi _ => hi) (fun D i ys H3 x H4 hi _ hy => hy) (fun D ys H3 _ => Nat.le_refl _) (fun D hD => ⟨[], [], same_new hD _, hD, trivial, trivial, (fun _ h => by simp at h), (fun _ h => by simp at h), rfl, fun _ _ h => by simp at h⟩) (fun D i ys H8 x eD8 hl' hi hx hP R hR => ?_) (fun ra ys H8 eD8 hP => ?_)
  · subst hx
    obtain ⟨qs, rs', s8, nD, hq, he, hx, hN, hL⟩ := hP
    have ei : (0 : Int) + (i : Int) = (i : Int) := Int.zero_add _
    rw [ei]
    obtain ⟨es, ec, hes⟩ := cut_ladder (st := st) (dd := 3) (n := n) (b := 2) (k := i) hi (by omega) (by omega)
    refine ⟨_, rfl, _, rfl, .inl ⟨na, _, (i : Int), .int (st + 3 * (i : Int)), rfl, rfl, SqL.of (s8 _ _ eD), atI_nat (by rw [List.getElem?_map, numb_get hi]; rfl), ?_⟩⟩
    refine ⟨_, rfl, _, rfl, _, _, rfl, rfl, _, _, rfl, _, rfl, _, rfl, _, rfl, na, _, rfl, SqL.of (s8 _ _ eD), fun b nb => ?_⟩
    have ec' : cutV ((numb st 3 n).map V.int) (some (if (i : Int) - 2 > 0 then (i : Int) - 2 else 0)) (some (i : Int)) = es.map V.int := ec
    rw [ec']
    refine ⟨nn (Nat.le_of_ble_eq_true rfl), fun q nq => ?_⟩
    have g1 := same_new nb (.lst (es.map V.int))
    have g2 := same_new nq (.tup [.int (st + 3 * (i : Int)), .ref b])
    have gg := g1.trans g2
    have eb : upd (upd H8 b (.lst (es.map V.int))) q (.tup [.int (st + 3 * (i : Int)), .ref b]) b = some (.lst (es.map V.int)) := g2 _ _ upd_same
    have eq : upd (upd H8 b (.lst (es.map V.int))) q (.tup [.int (st + 3 * (i : Int)), .ref b]) q = some (.tup [.int (st + 3 * (i : Int)), .ref b]) := upd_same
    generalize upd (upd H8 b (.lst (es.map V.int))) q (.tup [.int (st + 3 * (i : Int)), .ref b]) = H9 at gg eb eq ⊢
    have eD9 := gg _ _ eD8
    refine hR _ H9 eD9 ?_
    have bD : b ≠ D := fun z => by rw [z, eD8] at nb; cases nb
    have qD : q ≠ D := fun z => by rw [z, eD9] at eq; cases eq
    refine ⟨qs ++ [(st + 3 * (i : Int), .ref b)], rs' ++ [(st + 3 * (i : Int), es)], same_put (s8.trans gg) nD, nD, ?_, ?_, ?_, ?_, hL.snoc hes⟩
    · refine PrAt.snoc (by rw [upd_ne qD]; exact eq) (hq.mono fun c xs e => ?_)
      have e5 := gg _ _ e
      rw [upd_ne (ne_of e5 eD9 (by intro z; cases z))]
      exact e5
    · refine EldAt.snoc (by rw [upd_ne bD]; exact eb) ?_
      exact eld_mono he fun p hp c ec o eo => by rw [upd_ne (hx p hp c ec)]; exact gg _ _ eo
    · intro p hp c ec
      rcases List.mem_append.mp hp with hp | hp
      · exact hx p hp c ec
      · rw [List.mem_singleton.mp hp] at ec
        cases ec
        exact bD
    · intro p hp c ec
      rcases List.mem_append.mp hp with hp | hp
      · exact hN p hp c ec
      · rw [List.mem_singleton.mp hp] at ec
        cases ec
        exact Same.free s8 nb
  obtain ⟨qs, rs, s8, nD, hq, he, hx, hN, hL⟩ := hP
  have E1 := hL.elds dd0
  have lr : rs.length = n := by have := congrArg List.length hL.1; rw [List.length_map, numb_len] at this; exact this
  refine ⟨ra, ys, qs, rfl, eD8, hq, (by rw [he.keys]; exact E1.nd), fun d nd8 => ?_⟩
  have g9 := same_new nd8 (.dK (kvE qs))
  have hd : upd H8 d (.dK (kvE qs)) d = some (.dK (kvE qs)) := upd_same
  have s69 : Same H6 (upd H8 d (.dK (kvE qs))) := s8.trans g9
  have hE9 := (he.same g9).dict
  have he9 := he.same g9
  generalize upd H8 d (.dK (kvE qs)) = H9 at hd s69 hE9 he9 ⊢
  have W9 := W6.same s69
  have hna9 := s69 _ _ eD
  have lnm : ((numb st 3 n).map V.int).length = n := by rw [List.length_map, numb_len]
  refine ⟨_, rfl, _, rfl, na, _, rfl, .inl (SqL.of hna9), g, _, rfl, W9, small_lit (by rw [lnm]; omega) (by rw [lnm]; exact Nat.lt_of_le_of_lt (show _ ≤ 60 by omega) (by decide)), fun i H10 i0 i1 W10 s10 => ?_⟩
  rw [lnm] at i1
  obtain ⟨i, rfl⟩ : ∃ z : Nat, i = (z : Int) := ⟨i.toNat, by omega⟩
  have hin : i < n := by omega
  have nag : na ≠ g := by
    obtain ⟨xs, e⟩ := W5.some
    exact (ne_of_none e nna).symm
  have hna10 := s10 _ _ hna9 nag
  have hgd : d ≠ g := by
    obtain ⟨xs, e⟩ := W9.some
    exact ne_of hd e (by intro z; cases z)
  have hd10 := s10 _ _ hd hgd
  have he10 : EldAt H10 rs qs := eld_mono he9 fun p hp c ec o eo => s10 _ _ eo fun z => by
    have := hN p hp c ec
    obtain ⟨xs, e⟩ := W6.some
    rw [z, e] at this
    cases this
  have hE10 := he10.dict
  have S10 : Same H H10 := fun b o e => s10 _ _ (s69 _ _ (SH6 b o e)) (ne_of_none e ng)
  have l64 : (rs.map (·.1)).length < 64 := by rw [List.length_map]; omega
  have kin : ∀ {i : Nat}, i < n → st + 3 * (i : Int) ∈ rs.map (·.1) := fun hi => by rw [hL.1]; exact numb_mem.mpr ⟨_, hi, rfl⟩
  have at1 : ∀ {j : Nat}, 1 ≤ j → j ≤ n → atI ((numb st 3 n).map V.int) (-(j : Int)) = some (.int (st + 3 * ((n - j : Nat) : Int))) := fun h1 h2 => atI_back h1 (by rw [List.length_map, numb_len]; exact h2) (by rw [List.length_map, numb_len, List.getElem?_map, numb_get (by omega)]; rfl)
  have down : ∀ {i j : Nat}, i ≤ j → j < n → Rch (eOf rs) (st + 3 * (j : Int)) (st + 3 * (i : Int)) := fun {i j} hij hj => ((hL.reach dd0 hj).2 _).mp (numb_mem.mpr ⟨i, by omega, rfl⟩)
  refine ⟨_, rfl, _, rfl, 1, rfl, na, _, -1, .int (st + 3 * ((n - 1 : Nat) : Int)), rfl, rfl, SqL.of hna10, at1 (j := 1) (by omega) (by omega), _, rfl, 2, rfl, na, _, -2, .int (st + 3 * ((n - 2 : Nat) : Int)), rfl, rfl, SqL.of hna10, at1 (j := 2) (by omega) (by omega), ?_⟩
  refine ⟨d, _, _, _, _, _, rfl, hd10, hE10, E1, kin (by omega), kin (by omega), l64, fun H11 p11 ns11 s11 np11 hp11 hI11 => ?_⟩
  have e11 : ns11 = [st + 3 * ((n - 2 : Nat) : Int)] := (base_comm hI11).uniq (base_one E1 (kin (by omega)) (kin (by omega)) (down (by omega) (by omega)))
  subst e11
  have hna11 := s11 _ _ hna10
  refine ⟨_, rfl, 2, rfl, na, _, -2, .int (st + 3 * ((n - 2 : Nat) : Int)), rfl, rfl, SqL.of hna11, at1 (j := 2) (by omega) (by omega), nn (Nat.le_of_ble_eq_true rfl), fun l1 nl1 => ?_⟩
  have g12 := same_new nl1 (.lst [.int (st + 3 * ((n - 2 : Nat) : Int))])
  refine ⟨p11, l1, _, rfl, g12 _ _ hp11, upd_same, by simp, fun H13 s13 => ⟨_, rfl, iteF ?_⟩⟩
  have s1013 : Same H10 H13 := (s11.trans g12).trans s13
  have hna13 := s1013 _ _ hna10
  have ati : atI ((numb st 3 n).map V.int) (i : Int) = some (.int (st + 3 * (i : Int))) := atI_nat (by rw [List.getElem?_map, numb_get hin]; rfl)
  refine ⟨_, rfl, _, rfl, _, rfl, na, _, (i : Int), .int (st + 3 * (i : Int)), rfl, rfl, SqL.of hna13, ati, _, rfl, 1, rfl, na, _, -1, .int (st + 3 * ((n - 1 : Nat) : Int)), rfl, rfl, SqL.of hna13, at1 (j := 1) (by omega) (by omega), ?_⟩
  refine ⟨d, _, _, _, _, _, rfl, s1013 _ _ hd10, hE10.same s1013, E1, kin hin, kin (by omega), l64, fun H14 p14 ns14 s14 np14 hp14 hI14 => ?_⟩
  have e14 : ns14 = [st + 3 * (i : Int)] := hI14.uniq (base_one E1 (kin hin) (kin (by omega)) (down (by omega) (by omega)))
  subst e14
  refine ⟨_, rfl, _, rfl, na, _, (i : Int), .int (st + 3 * (i : Int)), rfl, rfl, SqL.of (s14 _ _ hna13), ati, nn (Nat.le_of_ble_eq_true rfl), fun l2 nl2 => ?_⟩
  have g15 := same_new nl2 (.lst [.int (st + 3 * (i : Int))])
  exact ⟨p14, l2, [st + 3 * (i : Int)], rfl, rfl, SqL.of (g15 _ _ hp14), SqL.of upd_same, k _ ((S10.trans s1013).trans (s14.trans g15))⟩
end
end Tw
set_option Elab.async false
set_option linter.all false
set_option maxRecDepth 100000
set_option maxHeartbeats 8000000
namespace Tw
open PySem PySem.Spec L2 PyProof.Rows
section
variable {P : Program} {w : World} {K : PySem.W.Frag} {mg : Str → Option Value} {base : Heap} {f : Addr} {fd : FuncData}
abbrev nLaw : List Str := ["_law_script", "_law_rows", "_law_handed", "_law_numbers", "_law_below", "_law_one", "_law_other", "_law_found"]
theorem scLaw : FnScope nLaw ["_law_script"] (defScope sLaw) := ⟨rfl, rfl, rfl, by decide +kernel, rfl, by decide +kernel, by decide +kernel⟩
theorem ok_law {kb : Nat} (hkb : kb ≤ 6) (F : Fun K "law" "law" sLaw f fd) (T : Txt mg) (DK : DefOk P w K mg base 7 "_law_climbed" ["_law_script"] (spClimbed K)) (DE : DefOk P w K mg base 2 "_law_elders" ["_law_script", "_law_most"] (spElders K))
    (DC : DefOk P w K mg base 1 "_law_copied" ["_law_rows"] spCopied) (DB : DefOk P w K mg base 1 "_law_behind" ["_law_rows", "_law_number"] spBehind)
    (DG : DefOk P w K mg base 3 "_law_right" ["_law_below", "_law_one", "_law_other", "_law_found"] spRight) (DS : DefOk P w K mg base kb "bases" ["elders", "one", "other"] spBases) :
    FnOk P w K mg base CX0 8 f fd ["_law_script"] (spLaw K) := by
  refine F.ok scLaw (fun vs H Q E h => (by obtain ⟨_, _, rfl, _⟩ := h; rfl)) (fun cdv A outer s H vs Q E hr h => ?_)
  obtain ⟨a, ns, rfl, hS, hns, k⟩ := h
  have nd := scLaw.nd
  have hu := hu_of hr
  have hr1 := hr.mono (show 1 ≤ 7 by omega)
  have hr2 := hr.mono (show 2 ≤ 7 by omega)
  have hr3 := hr.mono (show 3 ≤ 7 by omega)
  have hrb := hr.mono (show kb ≤ 7 by omega)
  refine ⟨_, pss_cons (ps_if (pt_not (pt_val (pe_def DK hr (pa_c (pv 0) pa_nil)))) (pss_one (ps_ret pe_bl)) pss_nil)
    (pss_cons (ps_set (i := 1) nd rfl (Or.inr rfl) (pe_def DE hr2 (pa_c (pv 0) (pa_c pe_int pa_nil))))
    (pss_cons (ps_set (i := 2) nd rfl (Or.inl rfl) (pe_def DC hr1 (pa_c (pv 1) pa_nil)))
    (pss_cons (ps_setCompT (i := 3) (g := gPair K) ["_law_number", "_law_some"] "_law_number" [] [] nd rfl rfl rfl (fun _ _ _ _ _ => pg_pair rfl nd2 rfl rfl rfl rfl) (pi_list (pv 1)) (fun _ _ _ _ _ => pts_nil) (fun _ _ _ _ _ => pv 0) trivial)
    (pss_cons (ps_set (i := 4) nd rfl (Or.inl rfl) (pe_callTy (call_dictP rfl) rfl T.dict tb_dict (pa_c (pe_comp [1] ["_law_rows"] rfl (pi_list (pv 3)) (fun _ _ _ _ _ => pts_nil) (fun _ _ _ _ _ => pe_tup (pa_c (pv 0) (pa_c (pe_def DB hr1 (pa_c (pv 1) (pa_c (pv 0) pa_nil))) pa_nil))) ⟨rfl, .inl rfl, rfl, trivial⟩) pa_nil)))
    (pss_cons (ps_for PassesOwn.never rfl (pi_list (pv 3)) (pg_name (i := 5) nd rfl (Or.inl rfl))
      (pss_one (ps_for PassesOwn.never rfl (pi_list (pv 3)) (pg_name (i := 6) nd rfl (Or.inl rfl))
        (pss_cons (ps_set (i := 7) nd rfl (Or.inl rfl) (pe_def DS hrb (pa3 (pv 2) (pv 5) (pv 6))))
        (pss_cons (ps_if (pt_not (pt_val (pe_def DG hr3 (pa4 (pv 4) (pv 5) (pv 6) (pv 7))))) (pss_one (ps_ret pe_bl)) pss_nil)
        (pss_cons (ps_expr (pe_bm PySem.F.plainAttrs_list PySem.F.slot_list_append PySem.F.type_list_append mt_append (pv 7) (pa_c (pe_un un_neg pe_int) pa_nil)))
        (pss_one (ps_if (PW.pt (pw_or (pt_cmpR (op_neInts hr.units0) (pe_def DS hrb (pa3 (pv 2) (pv 6) (pv 5))) (pe_slice sl_list (pv 7) po_none (po_some (pe_un un_neg pe_int))) (nomark _)) (pw_or1 (pt_cmpR (op_neInts hr.units0) (pe_def DS hrb (pa3 (pv 2) (pv 5) (pv 6))) (pe_slice sl_list (pv 7) po_none (po_some (pe_un un_neg pe_int))) (nomark _))))) (pss_one (ps_ret pe_bl)) pss_nil)))))))) 
    (pss_one (ps_ret (pe_cmpR (op_eqD hu) (pv 2) (pe_def DC hr1 (pa_c (pv 1) pa_nil)) (nomark _))))))))), ?_⟩
  refine ⟨_, rfl, a, ns, rfl, hS, hns, fun H1 s1 => ⟨_, rfl, iteF ?_⟩⟩
  refine ⟨_, rfl, a, ns, 11, rfl, s1.seq hS, hns, by decide, by decide, fun H2 l us rs ps s2 nl hl hP hR E1 l11 => ?_⟩
  have lP := hP.length
  have lR := hR.length
  refine ⟨_, rfl, l, us, rs, ps, rfl, hl, hP, hR, E1.nd, by omega, fun H3 d ps' s3 nd3 hd hR3 hN => ?_⟩
  have l20 : (rs.map (·.1)).length < 20 := by rw [List.length_map]; omega
  have hl3 := s3 _ _ hl
  have hP3 : PrAt H3 ps us := hP.mono fun b xs e => s3 _ _ e
  have hR3' := hR.same s3
  refine ⟨_, rfl, l, rfl, ⟨_, SqL.of hl3⟩, ?_⟩
  refine comp_mapP (n := us.length) (fun i z => us[i]? = some z) (fun D i ys H8 => Same H3 H8 ∧ H3 D = none ∧ ys = ((rs.take i).map (·.1)).map V.int) (small1000 (by omega))
    (fun D i ys H3 hi hP => ⟨us, us[i], SqL.of (hP.1 _ _ hl3), by simp [hi]⟩) (fun D i ys H3 z H4 hi hP hy => ⟨hy.1, hy.2 us (SqL.of (hP.1 _ _ hl3))⟩) (fun D ys H3 hP => ⟨us, SqL.of (hP.1 _ _ hl3), Nat.le_refl _⟩)
    (fun D hD => ⟨same_new hD _, hD, rfl⟩) (fun D i ys H8 z eD hl' hi hz hPv => ?_) (fun na ys H4 ena hPv => ?_)
  · obtain ⟨s8, nD, rfl⟩ := hPv
    obtain ⟨n, v, t, ep, rfl, ht⟩ := hP3.get hz
    obtain ⟨es, c, er, ec, _⟩ := hR3'.get ep
    refine ⟨t, .int n, v, rfl, SqT.of (s8 _ _ ht), fun R hRR => ⟨_, rfl, hRR _ H8 eD ⟨same_put s8 nD, nD, ?_⟩⟩⟩
    rw [List.take_add_one, er]
    simp
  obtain ⟨s4, nna, rfl⟩ := hPv
  rw [List.take_of_length_le (by omega)] at ena
  generalize hks : rs.map (·.1) = ks at E1 l20 ena
  generalize hee : eOf rs = e at E1
  have hd4 := s4 _ _ hd
  have hE4 : DictE H4 ks e (kvE ps') := by rw [← hks, ← hee]; exact hR3.dict.same s4
  refine ⟨_, rfl, na, rfl, ⟨_, SqL.of ena⟩, ?_⟩
  refine comp_map (n := ks.length) (fun i x => (ks.map V.int)[i]? = some x) (fun D i ys H8 => ∃ qs rr, Same H4 H8 ∧ H4 D = none ∧ PrAt H8 qs ys ∧ EldAt H8 rr qs ∧ (∀ p ∈ qs, ∀ c, p.2 = .ref c → c ≠ D) ∧ rr.map (·.1) = ks.take i ∧ ∀ r ∈ rr, IsR (Rch e r.1) r.2) (small1000 (by omega))
    (fun D i ys H3 hi hP => by obtain ⟨_, _, s3, _⟩ := hP; exact ⟨_, .int ks[i], SqL.of (s3 _ _ ena), by simp [hi]⟩) (fun D i ys H3 z H4 hi hP hy => by obtain ⟨_, _, s3, _⟩ := hP; exact ⟨hy.1, hy.2 _ (SqL.of (s3 _ _ ena))⟩) (fun D ys H3 hP => by obtain ⟨_, _, s3, _⟩ := hP; exact ⟨_, SqL.of (s3 _ _ ena), by simp⟩)
    (fun D hD => ⟨[], [], same_new hD _, hD, trivial, trivial, (fun _ h => by simp at h), rfl, fun _ h => by simp at h⟩) (fun D i ys H8 x eD hl' hi hx hPv R hRR => ?_) (fun ba ys H8 eba hPv => ?_)
  · obtain ⟨qs, rr, s8, nD, hq, he, hxD, hk, hb⟩ := hPv
    rw [List.getElem?_map] at hx
    obtain ⟨n, en, rfl⟩ := Option.map_eq_some_iff.mp hx
    have hn : n ∈ ks := List.mem_of_getElem? en
    have s38 := s4.trans s8
    refine ⟨_, rfl, _, rfl, _, rfl, l, n, us, rs, ps, rfl, s38 _ _ hl3, hP3.mono (fun b xs e => s38 _ _ e), hR3'.same s38, (by rw [hks, hee]; exact E1), (by rw [hks]; exact hn), by omega, fun H9 b ms s9 nb hb9 hI => ⟨nn (Nat.le_of_ble_eq_true rfl), fun q nq => ?_⟩⟩
    rw [hee] at hI
    have g2 := same_new nq (.tup [.int n, .ref b])
    have gg := s9.trans g2
    have eb := g2 _ _ hb9
    have eq : upd H9 q (.tup [.int n, .ref b]) q = some (.tup [.int n, .ref b]) := upd_same
    generalize upd H9 q (.tup [.int n, .ref b]) = H10 at gg eb eq ⊢
    have eD10 := gg _ _ eD
    have bD : b ≠ D := fun z => by rw [z, eD] at nb; cases nb
    have qD : q ≠ D := fun z => by rw [z, eD10] at eq; cases eq
    refine hRR _ H10 eD10 ⟨qs ++ [(n, .ref b)], rr ++ [(n, ms)], same_put (s8.trans gg) nD, nD, ?_, ?_, ?_, ?_, ?_⟩
    · refine PrAt.snoc (by rw [upd_ne qD]; exact eq) (hq.mono fun c xs e => ?_)
      have e5 := gg _ _ e
      rw [upd_ne (ne_of e5 eD10 (by intro z; cases z))]
      exact e5
    · refine EldAt.snoc (by rw [upd_ne bD]; exact eb) ?_
      exact eld_mono he fun p hp c ec o eo => by rw [upd_ne (hxD p hp c ec)]; exact gg _ _ eo
    · intro p hp c ec
      rcases List.mem_append.mp hp with hp | hp
      · exact hxD p hp c ec
      · rw [List.mem_singleton.mp hp] at ec
        cases ec
        exact bD
    · rw [List.map_append, hk, List.take_add_one, en]
      rfl
    · intro r hr
      rcases List.mem_append.mp hr with hr | hr
      · exact hb r hr
      · rw [List.mem_singleton.mp hr]
        exact hI
  obtain ⟨qs, rr, s8, nD, hq, he, hxD, hk, hb⟩ := hPv
  rw [List.take_of_length_le (Nat.le_refl _)] at hk
  refine ⟨ba, ys, qs, rfl, eba, hq, (by rw [he.keys, hk]; exact E1.nd), fun bd nbd => ?_⟩
  have g9 := same_new nbd (.dK (kvE qs))
  have hbd : upd H8 bd (.dK (kvE qs)) bd = some (.dK (kvE qs)) := upd_same
  have s49 : Same H4 (upd H8 bd (.dK (kvE qs))) := s8.trans g9
  have hB9 := (he.same g9).dict
  rw [hk] at hB9
  generalize upd H8 bd (.dK (kvE qs)) = H9 at hbd s49 hB9 ⊢
  have hRR : ∀ x ∈ ks, IsR (Rch e x) (eOf rr x) := fun x hx => hb _ (eOf_mem (by rw [hk]; exact hx))
  have ena9 := s49 _ _ ena
  have hd9 := s49 _ _ hd4
  have hE9 := hE4.same s49
  refine ⟨_, rfl, na, rfl, ⟨_, SqL.of ena9⟩, for_list (K := K) (a := na) (xs := ks.map V.int) (fun i σ H10 => ∃ (k5 k6 k7 : Option V), σ = [some (.ref a), some (.ref l), some (.ref d), some (.ref na), some (.ref bd), k5, k6, k7] ∧ Same H9 H10) ⟨_, _, _, rfl, Same.refl _⟩ (fun i σ H10 _ hp => by obtain ⟨_, _, _, _, s10⟩ := hp; exact SqL.of (s10 _ _ ena9)) ?_ ?_⟩
  · rintro i u σ H10 hu10 ⟨k5, k6, k7, rfl, s10⟩
    rw [List.getElem?_map] at hu10
    obtain ⟨n, en, rfl⟩ := Option.map_eq_some_iff.mp hu10
    have hn : n ∈ ks := List.mem_of_getElem? en
    refine ⟨_, rfl, na, rfl, ⟨_, SqL.of (s10 _ _ ena9)⟩, for_list (K := K) (a := na) (xs := ks.map V.int) (fun j σ H11 => ∃ (k6 k7 : Option V), σ = [some (.ref a), some (.ref l), some (.ref d), some (.ref na), some (.ref bd), some (.int n), k6, k7] ∧ Same H9 H11) ⟨_, _, rfl, s10⟩ (fun j σ H11 _ hp => by obtain ⟨_, _, _, s11⟩ := hp; exact SqL.of (s11 _ _ ena9)) ?_ ?_⟩
    · rintro j u σ H11 hu11 ⟨k6, k7, rfl, s11⟩
      rw [List.getElem?_map] at hu11
      obtain ⟨m, em, rfl⟩ := Option.map_eq_some_iff.mp hu11
      have hm : m ∈ ks := List.mem_of_getElem? em
      refine ⟨_, rfl, _, rfl, _, rfl, d, n, m, ks, e, _, rfl, s11 _ _ hd9, hE9.same s11, E1, hn, hm, by omega, fun H12 p bs s12 np hp hI => ?_⟩
      have s912 := s11.trans s12
      have lb : bs.length ≤ ks.length := isr_len hI fun y hy => rch_in E1 hn hy.1.1
      refine ⟨_, rfl, _, rfl, _, rfl, _, rfl, bd, p, n, m, ks, e, eOf rr, _, bs, rfl, s912 _ _ hbd, hB9.same s912, E1, hRR, hn, hm, l20, hp, hI, fun H13 s13 => ⟨_, rfl, iteF ?_⟩⟩
      have hp13 := s13 _ _ hp
      refine ⟨_, rfl, .inl ⟨rfl, _, SqL.of hp13⟩, 1, rfl, p, _, .int (-1), rfl, rfl, hp13, small1000 (by rw [List.length_map]; omega), ?_⟩
      have s914 : Same H9 (upd H13 p (.lst (bs.map V.int ++ [.int (-1)]))) := same_put (s912.trans s13) (Same.free s11 np)
      have hp14 : upd H13 p (.lst (bs.map V.int ++ [.int (-1)])) p = some (.lst (bs.map V.int ++ [.int (-1)])) := upd_same
      generalize upd H13 p (.lst (bs.map V.int ++ [.int (-1)])) = H14 at s914 hp14 ⊢
      have ecut : cutV (bs.map V.int ++ [.int (-1)]) none (some (-1)) = bs.map V.int := by
        rw [cut_back (by simp), List.length_append, List.length_singleton, Nat.add_sub_cancel, List.take_left']
        rfl
      refine ⟨_, rfl, _, rfl, _, rfl, d, m, n, ks, e, _, rfl, s914 _ _ hd9, hE9.same s914, E1, hm, hn, by omega, fun H15 p2 bs2 s15 np2 hp2 hI2 => ?_⟩
      have e2 : bs2 = bs := (base_comm hI2).uniq hI
      subst e2
      refine ⟨_, rfl, 1, rfl, _, rfl, p, _, rfl, SqL.of (s15 _ _ hp14), fun q1 nq1 => ?_⟩
      have c1 : cutV (bs2.map V.int ++ [.int (-1)]) none (some (-1)) = bs2.map V.int := ecut
      rw [show (-(1 : Int)) = -1 from rfl, c1]
      have g16 := same_new nq1 (.lst (bs2.map V.int))
      refine ⟨p2, q1, bs2, rfl, rfl, SqL.of (g16 _ _ hp2), SqL.of upd_same, _, rfl, iteF ?_⟩
      have s916 : Same H9 (upd H15 q1 (.lst (bs2.map V.int))) := (s914.trans s15).trans g16
      have hp16 := g16 _ _ (s15 _ _ hp14)
      generalize upd H15 q1 (.lst (bs2.map V.int)) = H16 at s916 hp16 ⊢
      refine ⟨_, rfl, _, rfl, _, rfl, d, n, m, ks, e, _, rfl, s916 _ _ hd9, hE9.same s916, E1, hn, hm, by omega, fun H17 p3 bs3 s17 np3 hp3 hI3 => ?_⟩
      have e3 : bs3 = bs2 := hI3.uniq hI
      subst e3
      refine ⟨_, rfl, 1, rfl, _, rfl, p, _, rfl, SqL.of (s17 _ _ hp16), fun q2 nq2 => ?_⟩
      rw [show (-(1 : Int)) = -1 from rfl, c1]
      have g18 := same_new nq2 (.lst (bs3.map V.int))
      exact ⟨p3, q2, bs3, rfl, rfl, SqL.of (g18 _ _ hp3), SqL.of upd_same, _, rfl, iteF ⟨_, _, rfl, (s916.trans s17).trans g18⟩⟩
    · rintro σ H11 ⟨k6, k7, rfl, s11⟩
      exact ⟨_, _, _, rfl, s11⟩
  · rintro σ H10 ⟨k5, k6, k7, rfl, s10⟩
    have s310 := (s4.trans s49).trans s10
    refine ⟨_, rfl, _, rfl, l, us, rs, ps, rfl, s310 _ _ hl3, hP3.mono (fun b xs e => s310 _ _ e), hR3'.same s310, (by rw [hks]; exact E1.nd), by omega, fun H6 d2 ps2 s6 nd2' hd2 hR6 hN6 => ?_⟩
    exact ⟨d, d2, _, _, rfl, rfl, s6 _ _ (s310 _ _ hd), hd2, dk_alike s310 s6 hR3 hR6 hN6, kvE_nodup hR6 (by rw [hks]; exact E1.nd), k _⟩
end
end Tw
set_option Elab.async false
set_option linter.all false
set_option maxRecDepth 100000
set_option maxHeartbeats 8000000
namespace Tw
open PySem PySem.Spec L2 PyProof.Rows
/-- of those that both reach: those that are no elder of one of them -/
theorem base_elder {ks : List Int} {e : Int → List Int} (E : Elds ks e) {n m : Int} (hn : n ∈ ks) {both : List Int} (hb : IsR (fun x => Rch e n x ∧ Rch e m x) both) {old : Int → Prop} [DecidablePred old] (ho : ∀ x, old x ↔ ∃ y ∈ both, x ∈ e y) :
    IsR (BaseP e n m) (both.filter fun x => !decide (old x)) := by
  refine ⟨hb.1.filter _, fun x => ?_⟩
  rw [List.mem_filter, hb.2 x]
  refine and_congr_right fun hx => ?_
  rw [Bool.not_eq_true', decide_eq_false_iff_not, ho]
  constructor
  · intro h y a b ne r
    cases r with
    | refl => exact ne rfl
    | step r1 hk => exact h ⟨_, (hb.2 _).mpr ⟨a.trans r1, b.trans r1⟩, hk⟩
  · rintro h ⟨y, hy, hxy⟩
    have hy' := (hb.2 y).mp hy
    have := E.lt y (rch_in E hn hy'.1) x hxy
    exact h y hy'.1 hy'.2 (fun z => by omega) (.step .refl hxy)
theorem put_keys {kv : List (Key × V)} {olds : List Int} (h : kv.map (·.1) = olds.map Sum.inl) (y : Int) (v : V) : (putK kv (Sum.inl y) v).map (·.1) = (if y ∈ olds then olds else olds ++ [y]).map Sum.inl := by
  cases hc : valV kv (Sum.inl y) with
  | none =>
    have hn : y ∉ olds := fun z => valV_not hc (by rw [h]; exact List.mem_map_of_mem z)
    rw [putK_new _ hc, if_neg hn, List.map_append, List.map_append, h]
    rfl
  | some u =>
    have hy : y ∈ olds := by
      have := valV_in hc
      rw [h] at this
      obtain ⟨z, hz, ez⟩ := List.mem_map.mp this
      cases ez
      exact hz
    have e : (putK kv (Sum.inl y) v) = kv.map fun p => if p.1 = Sum.inl y then (p.1, v) else p := by
      unfold putK
      rw [valV_any, hc]
      rfl
    rw [e, if_pos hy, ← h, List.map_map]
    apply List.map_congr_left
    intro p _
    show (if p.1 = Sum.inl y then (p.1, v) else p).1 = p.1
    split <;> rfl
/-- [x for x in a if p x] -/
theorem comp_p {J : It} {ix : List Nat} {σ : L2.St} {H : Hp} {tt : TT} {Q : VK} (ns : List Int) (p : Int → Bool) (hn : ns.length ≤ 900)
    (hgo : ∀ i H2, Same H H2 → i < ns.length → J.go i H2) (hy : ∀ i H2 x H3, Same H H2 → i < ns.length → J.yld i H2 x H3 → H3 = H2 ∧ (ns.map V.int)[i]? = some x) (hstop : ∀ H2, Same H H2 → J.stop ns.length H2)
    (test : ∀ H2 n (R : Bool → Hp → Prop), Same H H2 → R (p n) H2 → tt (cSlots σ ix (.int n)) H2 R)
    (fin : ∀ (D : Addr) (H2 : Hp), Same H H2 → H D = none → H2 D = some (.lst ((ns.filter p).map V.int)) → Q (.ref D) H2) : cEnd J σ ix tt (tVar 0) H Q := by
  refine comp_filter (n := ns.length) (fun i z => (ns.map V.int)[i]? = some z) (fun z => match z with | .int n => p n | _ => false) (fun D i ys H3 => Same H H3 ∧ H D = none ∧ ys = ((ns.take i).filter p).map V.int) (small1000 (by omega))
    (fun D i ys H3 hi hP => hgo i H3 hP.1 hi) (fun D i ys H3 z H4 hi hP hyy => hy i H3 z H4 hP.1 hi hyy) (fun D ys H3 hP => hstop H3 hP.1)
    (fun D hD => ⟨same_new hD _, hD, rfl⟩) (fun D i ys H3 z hi hz hP R hR => ?_) (fun D i ys H3 z eD hi hz hk hP => ?_) (fun D i ys H3 z eD hi hz hk hP => ?_) (fun D ys H3 eD hP => ?_)
  · rw [List.getElem?_map] at hz
    obtain ⟨n, en, rfl⟩ := Option.map_eq_some_iff.mp hz
    exact test H3 n R hP.1 hR
  · obtain ⟨s3, nD, rfl⟩ := hP
    rw [List.getElem?_map] at hz
    obtain ⟨n, en, rfl⟩ := Option.map_eq_some_iff.mp hz
    refine ⟨same_put s3 nD, nD, ?_⟩
    have hk' : p n = true := hk
    rw [List.take_add_one, en, List.filter_append]
    simp [hk']
  · obtain ⟨s3, nD, rfl⟩ := hP
    rw [List.getElem?_map] at hz
    obtain ⟨n, en, rfl⟩ := Option.map_eq_some_iff.mp hz
    refine ⟨s3, nD, ?_⟩
    have hk' : p n = false := hk
    rw [List.take_add_one, en, List.filter_append]
    simp [hk']
  · obtain ⟨s3, nD, rfl⟩ := hP
    rw [List.take_of_length_le (Nat.le_refl _)] at eD
    exact fin D H3 s3 nD eD
section
variable {P : Program} {w : World} {K : PySem.W.Frag} {mg : Str → Option Value} {base : Heap} {f : Addr} {fd : FuncData}
theorem scBases : FnScope ["elders", "one", "other", "both", "older", "number", "elder"] ["elders", "one", "other"] (defScope sBases) := ⟨rfl, rfl, rfl, by decide +kernel, rfl, by decide +kernel, by decide +kernel⟩
theorem ok_bases (F : Fun K "bases" "bases" sBases f fd) (T : Txt mg) (DO : DefOk P w K mg base 2 "common" ["elders", "one", "other"] spCommon) : FnOk P w K mg base CX0 3 f fd ["elders", "one", "other"] spBases := by
  refine F.ok scBases (fun vs H Q E h => (by obtain ⟨_, _, _, _, _, _, rfl, _⟩ := h; rfl)) (fun cdv A outer s H vs Q E hr h => ?_)
  obtain ⟨d, n, m, ks, e, kvs, rfl, hd, hE, E1, hn, hm, h64, k⟩ := h
  have nd := scBases.nd
  have hu := hu_of hr
  refine ⟨_, pss_cons (ps_set (i := 3) nd rfl (Or.inl rfl) (pe_def DO hr (pa_c (pv 0) (pa_c (pv 1) (pa_c (pv 2) pa_nil)))))
    (pss_cons (ps_set (i := 4) nd rfl (Or.inr rfl) pe_dnewK)
    (pss_cons (ps_for PassesOwn.never rfl (pi_list (pv 3)) (pg_name (i := 5) nd rfl (Or.inl rfl))
      (pss_one (ps_for PassesOwn.never rfl (pi_list (pe_dget hu (pv 0) (pv 5) (fun _ _ => rfl))) (pg_name (i := 6) nd rfl (Or.inl rfl))
        (pss_one (ps_dput hu (pv 4) (pv 6) pe_bl rfl)))))
    (pss_one (ps_ret (pe_comp [4] ["older"] rfl (pi_list (pv 3)) (fun _ _ _ _ _ => pts_one (pt_cmp (pc_dnotin hu (pv 0) (pv 1)))) (fun _ _ _ _ _ => pv 0) ⟨rfl, .inl rfl, rfl, trivial⟩))))), ?_⟩
  refine ⟨_, rfl, _, rfl, _, rfl, d, n, m, ks, e, kvs, rfl, hd, hE, E1, hn, hm, h64, fun H1 q both s1 nq hq hR => ?_⟩
  have lb : both.length < 64 := Nat.lt_of_le_of_lt (isr_len hR fun x hx => rch_in E1 hn hx.1) h64
  intro oa noa
  have hd1 := s1 _ _ hd
  have hE1 := hE.same s1
  have nH : H oa = none := Same.free s1 noa
  have oq : q ≠ oa := ne_of_none hq noa
  refine ⟨_, rfl, q, rfl, ⟨_, SqL.of (by rw [upd_ne oq]; exact hq)⟩, for_list (xs := both.map V.int) (fun i σ H' => ∃ (kv : List (Key × V)) (olds : List Int) (o5 o6 : Option V), σ = [some (.ref d), some (.int n), some (.int m), some (.ref q), some (.ref oa), o5, o6] ∧ Same H1 H' ∧ H' oa = some (.dK kv) ∧ kv.map (·.1) = olds.map Sum.inl ∧ olds.Nodup ∧ (∀ x ∈ olds, x ∈ ks) ∧ ∀ x, x ∈ olds ↔ ∃ y ∈ both.take i, x ∈ e y)
    ⟨[], [], none, none, rfl, same_new noa _, upd_same, rfl, .nil, fun x z => by simp at z, fun x => by simp⟩ (fun i σ H' _ ⟨_, _, _, _, _, s', _⟩ => SqL.of (s' _ _ hq)) (fun i v σ H' hv hP => ?_) (fun σ H' hP => ?_)⟩
  · obtain ⟨kv, olds, o5, o6, rfl, s', ho, hkv, nd', hin, hol⟩ := hP
    rw [List.getElem?_map] at hv
    obtain ⟨y, hy, rfl⟩ := Option.map_eq_some_iff.mp hv
    have yb : y ∈ both := List.mem_of_getElem? hy
    have yk := rch_in E1 hn ((hR.2 y).mp yb).1
    obtain ⟨a, ea, ha⟩ := hE1.2 y yk
    have hg : DGet H' d (.int y) (some (.ref a)) := ea ▸ DGet.k (k := Sum.inl y) (s' _ _ hd1)
    refine ⟨_, rfl, _, rfl, d, .ref a, rfl, hg, a, rfl, ⟨_, SqL.of (s' _ _ ha)⟩, for_list (xs := (e y).map V.int) (fun j σ H' => ∃ (kv : List (Key × V)) (olds : List Int) (o6 : Option V), σ = [some (.ref d), some (.int n), some (.int m), some (.ref q), some (.ref oa), some (.int y), o6] ∧ Same H1 H' ∧ H' oa = some (.dK kv) ∧ kv.map (·.1) = olds.map Sum.inl ∧ olds.Nodup ∧ (∀ x ∈ olds, x ∈ ks) ∧ ∀ x, x ∈ olds ↔ (∃ y ∈ both.take i, x ∈ e y) ∨ x ∈ (e y).take j)
      ⟨kv, olds, o6, rfl, s', ho, hkv, nd', hin, fun x => by rw [hol x]; simp⟩ (fun j σ H' _ ⟨_, _, _, _, s', _⟩ => SqL.of (s' _ _ ha)) (fun j v σ H' hv hP => ?_) (fun σ H' hP => ?_)⟩
    · obtain ⟨kv, olds, o6, rfl, s', ho, hkv, nd', hin, hol⟩ := hP
      rw [List.getElem?_map] at hv
      obtain ⟨x, hx, rfl⟩ := Option.map_eq_some_iff.mp hv
      have xk := E1.cl y yk x (List.mem_of_getElem? hx)
      have lo : olds.length ≤ ks.length := nodup_len nd' hin
      have lk : kv.length = olds.length := by have := congrArg List.length hkv; simpa using this
      refine ⟨_, rfl, _, rfl, oa, _, rfl, DPut.k (k := Sum.inl x) ho (small1000 (by omega)), ?_⟩
      refine ⟨_, _, _, rfl, same_put s' noa, upd_same, put_keys hkv x _, ?_, fun z hz => ?_, fun z => ?_⟩
      · split
        · exact nd'
        · rename_i hnx
          rw [List.nodup_append]
          exact ⟨nd', by simp, fun a ha b hb => by rw [List.mem_singleton.mp hb]; exact fun z => hnx (z ▸ ha)⟩
      · split at hz
        · exact hin z hz
        · rcases List.mem_append.mp hz with c | c
          · exact hin z c
          · rw [List.mem_singleton.mp c]; exact xk
      · rw [List.take_add_one, hx, List.mem_append, ← or_assoc, ← hol z]
        simp only [Option.toList_some, List.mem_singleton]
        split
        · rename_i hxo
          exact ⟨.inl, fun c => c.elim id fun c => c ▸ hxo⟩
        · rw [List.mem_append, List.mem_singleton]
    · obtain ⟨kv, olds, o6, rfl, s', ho, hkv, nd', hin, hol⟩ := hP
      refine ⟨kv, olds, _, o6, rfl, s', ho, hkv, nd', hin, fun x => ?_⟩
      rw [hol x, List.length_map, List.take_of_length_le (Nat.le_refl _), List.take_add_one, hy]
      constructor
      · rintro (⟨z, hz, hx⟩ | hx)
        · exact ⟨z, List.mem_append_left _ hz, hx⟩
        · exact ⟨y, List.mem_append_right _ (by simp), hx⟩
      · rintro ⟨z, hz, hx⟩
        rcases List.mem_append.mp hz with c | c
        · exact .inl ⟨z, c, hx⟩
        · simp only [Option.toList_some, List.mem_singleton] at c
          subst c
          exact .inr hx
  · obtain ⟨kv, olds, o5, o6, rfl, s', ho, hkv, nd', hin, hol⟩ := hP
    have hol' : ∀ x, x ∈ olds ↔ ∃ y ∈ both, x ∈ e y := fun x => by
      have := hol x
      rw [List.length_map, List.take_of_length_le (Nat.le_refl _)] at this
      exact this
    have hq' := s' _ _ hq
    refine ⟨_, rfl, q, rfl, ⟨_, SqL.of hq'⟩, comp_p both (fun x => !decide (x ∈ olds)) (by omega) (fun i H3 s3 hi => ⟨_, .int both[i], SqL.of (s3 _ _ hq'), by simp [hi]⟩) (fun i H3 x H4 s3 hi hy => ⟨hy.1, hy.2 _ (SqL.of (s3 _ _ hq'))⟩) (fun H3 s3 => ⟨_, SqL.of (s3 _ _ hq'), by simp⟩) (fun H3 x R s3 hRR => ?_) (fun D H3 s3 nD hD => ?_)⟩
    · refine ⟨_, rfl, _, rfl, oa, _, rfl, DGet.k (k := Sum.inl x) (s3 _ _ ho), _, rfl, ?_⟩
      rw [keys_val hkv]
      exact hRR
    · exact k H3 D _ ((s1.trans s').trans s3) (Same.free (s1.trans s') nD) hD (base_elder E1 hn hR hol')
end
end Tw
set_option Elab.async false
set_option linter.all false
set_option maxRecDepth 100000
set_option maxHeartbeats 8000000
namespace Tw
open PySem PySem.Spec L2
theorem all_mk {l : PySem.W.OpenLaw} {w : World} {K : PySem.W.Frag} {h : Heap} {mg : Str → Option Value} {fa f1 f2 f3 f4 f5 f6 f7 f8 f9 f10 f11 f12 f13 : Addr} (X : K.In h) (G : h.Ns mainGlobals mg) (hfa : mg "law" = some (.ref fa))
    {od1 an1 od2 an2 od3 an3 od4 an4 od5 an5 od6 an6 od7 an7 od8 an8 od9 an9 od10 an10 od11 an11 od12 an12 od13 an13 : Option Addr} {sl1 sl2 sl3 sl4 sl5 sl6 sl7 sl8 sl9 sl10 sl11 sl12 sl13 : Array (Option Value)} {oc1 kV1 dc1 pm1 cd1 ct1 oc2 kV2 dc2 pm2 cd2 ct2 oc3 kV3 dc3 pm3 cd3 ct3 oc4 kV4 dc4 pm4 cd4 ct4 oc5 kV5 dc5 pm5 cd5 ct5 oc6 kV6 dc6 pm6 cd6 ct6 oc7 kV7 dc7 pm7 cd7 ct7 oc8 kV8 dc8 pm8 cd8 ct8 oc9 kV9 dc9 pm9 cd9 ct9 oc10 kV10 dc10 pm10 cd10 ct10 oc11 kV11 dc11 pm11 cd11 ct11 oc12 kV12 dc12 pm12 cd12 ct12 oc13 kV13 dc13 pm13 cd13 ct13 : Value}
    (a1 : PySem.W.nsIn K mainGlobals "reach" = some (some (.ref f1))) (l1 : K.lookup f1 = some ⟨oc1, od1, .func (PySem.W.fnOf "reach" "reach" (defArgs sReach) (defBody sReach) (defScope sReach) .none kV1 dc1 pm1 an1 cd1 ct1), sl1⟩) (c1 : PySem.W.codeIn K cd1 "reach" = true) (k1 : PySem.W.keepIn K (.ref f1) = true)
    (a2 : PySem.W.nsIn K mainGlobals "common" = some (some (.ref f2))) (l2 : K.lookup f2 = some ⟨oc2, od2, .func (PySem.W.fnOf "common" "common" (defArgs sCommon) (defBody sCommon) (defScope sCommon) .none kV2 dc2 pm2 an2 cd2 ct2), sl2⟩) (c2 : PySem.W.codeIn K cd2 "common" = true) (k2 : PySem.W.keepIn K (.ref f2) = true)
    (a3 : PySem.W.nsIn K mainGlobals "bases" = some (some (.ref f3))) (l3 : K.lookup f3 = some ⟨oc3, od3, .func (PySem.W.fnOf "bases" "bases" (defArgs sBases) (defBody sBases) (defScope sBases) .none kV3 dc3 pm3 an3 cd3 ct3), sl3⟩) (c3 : PySem.W.codeIn K cd3 "bases" = true) (k3 : PySem.W.keepIn K (.ref f3) = true)
    (a4 : PySem.W.nsIn K mainGlobals "_law_well" = some (some (.ref f4))) (l4 : K.lookup f4 = some ⟨oc4, od4, .func (PySem.W.fnOf "_law_well" "_law_well" (defArgs sWell) (defBody sWell) (defScope sWell) .none kV4 dc4 pm4 an4 cd4 ct4), sl4⟩) (c4 : PySem.W.codeIn K cd4 "_law_well" = true) (k4 : PySem.W.keepIn K (.ref f4) = true)
    (a5 : PySem.W.nsIn K mainGlobals "_law_pull" = some (some (.ref f5))) (l5 : K.lookup f5 = some ⟨oc5, od5, .func (PySem.W.fnOf "_law_pull" "_law_pull" (defArgs sPull) (defBody sPull) (defScope sPull) .none kV5 dc5 pm5 an5 cd5 ct5), sl5⟩) (c5 : PySem.W.codeIn K cd5 "_law_pull" = true) (k5 : PySem.W.keepIn K (.ref f5) = true)
    (a6 : PySem.W.nsIn K mainGlobals "_law_elders" = some (some (.ref f6))) (l6 : K.lookup f6 = some ⟨oc6, od6, .func (PySem.W.fnOf "_law_elders" "_law_elders" (defArgs sElders) (defBody sElders) (defScope sElders) .none kV6 dc6 pm6 an6 cd6 ct6), sl6⟩) (c6 : PySem.W.codeIn K cd6 "_law_elders" = true) (k6 : PySem.W.keepIn K (.ref f6) = true)
    (a7 : PySem.W.nsIn K mainGlobals "_law_behind" = some (some (.ref f7))) (l7 : K.lookup f7 = some ⟨oc7, od7, .func (PySem.W.fnOf "_law_behind" "_law_behind" (defArgs sBehind) (defBody sBehind) (defScope sBehind) .none kV7 dc7 pm7 an7 cd7 ct7), sl7⟩) (c7 : PySem.W.codeIn K cd7 "_law_behind" = true) (k7 : PySem.W.keepIn K (.ref f7) = true)
    (a8 : PySem.W.nsIn K mainGlobals "_law_copied" = some (some (.ref f8))) (l8 : K.lookup f8 = some ⟨oc8, od8, .func (PySem.W.fnOf "_law_copied" "_law_copied" (defArgs sCopied) (defBody sCopied) (defScope sCopied) .none kV8 dc8 pm8 an8 cd8 ct8), sl8⟩) (c8 : PySem.W.codeIn K cd8 "_law_copied" = true) (k8 : PySem.W.keepIn K (.ref f8) = true)
    (a9 : PySem.W.nsIn K mainGlobals "_law_whole" = some (some (.ref f9))) (l9 : K.lookup f9 = some ⟨oc9, od9, .func (PySem.W.fnOf "_law_whole" "_law_whole" (defArgs sWhole) (defBody sWhole) (defScope sWhole) .none kV9 dc9 pm9 an9 cd9 ct9), sl9⟩) (c9 : PySem.W.codeIn K cd9 "_law_whole" = true) (k9 : PySem.W.keepIn K (.ref f9) = true)
    (a10 : PySem.W.nsIn K mainGlobals "_law_list" = some (some (.ref f10))) (l10 : K.lookup f10 = some ⟨oc10, od10, .func (PySem.W.fnOf "_law_list" "_law_list" (defArgs sList) (defBody sList) (defScope sList) .none kV10 dc10 pm10 an10 cd10 ct10), sl10⟩) (c10 : PySem.W.codeIn K cd10 "_law_list" = true) (k10 : PySem.W.keepIn K (.ref f10) = true)
    (a11 : PySem.W.nsIn K mainGlobals "_law_right" = some (some (.ref f11))) (l11 : K.lookup f11 = some ⟨oc11, od11, .func (PySem.W.fnOf "_law_right" "_law_right" (defArgs sRight) (defBody sRight) (defScope sRight) .none kV11 dc11 pm11 an11 cd11 ct11), sl11⟩) (c11 : PySem.W.codeIn K cd11 "_law_right" = true) (k11 : PySem.W.keepIn K (.ref f11) = true)
    (a12 : PySem.W.nsIn K mainGlobals "_law_climbed" = some (some (.ref f12))) (l12 : K.lookup f12 = some ⟨oc12, od12, .func (PySem.W.fnOf "_law_climbed" "_law_climbed" (defArgs sClimbed) (defBody sClimbed) (defScope sClimbed) .none kV12 dc12 pm12 an12 cd12 ct12), sl12⟩) (c12 : PySem.W.codeIn K cd12 "_law_climbed" = true) (k12 : PySem.W.keepIn K (.ref f12) = true)
    (a13 : PySem.W.nsIn K mainGlobals "law" = some (some (.ref f13))) (l13 : K.lookup f13 = some ⟨oc13, od13, .func (PySem.W.fnOf "law" "law" (defArgs sLaw) (defBody sLaw) (defScope sLaw) .none kV13 dc13 pm13 an13 cd13 ct13), sl13⟩) (c13 : PySem.W.codeIn K cd13 "law" = true) (k13 : PySem.W.keepIn K (.ref f13) = true)
    (z1 : PySem.W.nsIn K mainGlobals "isinstance" = some none) (z2 : PySem.W.nsIn K mainGlobals "bool" = some none) (z3 : PySem.W.nsIn K mainGlobals "int" = some none) (z4 : PySem.W.nsIn K mainGlobals "list" = some none) (z5 : PySem.W.nsIn K mainGlobals "len" = some none) (z6 : PySem.W.nsIn K mainGlobals "abs" = some none) (z7 : PySem.W.nsIn K mainGlobals "max" = some none) (z8 : PySem.W.nsIn K mainGlobals "range" = some none) (z9 : PySem.W.nsIn K mainGlobals "sorted" = some none) (z10 : PySem.W.nsIn K mainGlobals "dict" = some none) (z11 : PySem.W.nsIn K mainGlobals "all" = some none) (z12 : PySem.W.nsIn K mainGlobals "set" = some none) :
    ∃ fd : FuncData, (∀ (s : Shared) (v : Value), BindsTo s fd ⟨[v], []⟩ [("_law_script", v)]) ∧ ∀ base : Heap, K.In base → base.Ns mainGlobals mg → FnOk l.prog w K mg base CX0 8 fa fd ["_law_script"] (spLaw K) := by
  have e := hfa.symm.trans (PySem.W.mg_of X G a13)
  cases e
  have T : Txt mg := ⟨PySem.W.mg_none_of X G z1, PySem.W.mg_none_of X G z2, PySem.W.mg_none_of X G z3, PySem.W.mg_none_of X G z4, PySem.W.mg_none_of X G z5, PySem.W.mg_none_of X G z6, PySem.W.mg_none_of X G z7, PySem.W.mg_none_of X G z8, PySem.W.mg_none_of X G z9, PySem.W.mg_none_of X G z10, PySem.W.mg_none_of X G z11, PySem.W.mg_none_of X G z12⟩
  have L1 : Laid K mg "reach" sReach ["elders", "number"] := laid_mk X G a1 l1 c1 k1 fun _ _ _ _ _ _ us hl => match us, hl with | [_, _], _ => rfl
  have L2 : Laid K mg "common" sCommon ["elders", "one", "other"] := laid_mk X G a2 l2 c2 k2 fun _ _ _ _ _ _ us hl => match us, hl with | [_, _, _], _ => rfl
  have L3 : Laid K mg "bases" sBases ["elders", "one", "other"] := laid_mk X G a3 l3 c3 k3 fun _ _ _ _ _ _ us hl => match us, hl with | [_, _, _], _ => rfl
  have L4 : Laid K mg "_law_well" sWell ["_law_script", "_law_k"] := laid_mk X G a4 l4 c4 k4 fun _ _ _ _ _ _ us hl => match us, hl with | [_, _], _ => rfl
  have L5 : Laid K mg "_law_pull" sPull ["_law_well_here", "_law_many"] := laid_mk X G a5 l5 c5 k5 fun _ _ _ _ _ _ us hl => match us, hl with | [_, _], _ => rfl
  have L6 : Laid K mg "_law_elders" sElders ["_law_script", "_law_most"] := laid_mk X G a6 l6 c6 k6 fun _ _ _ _ _ _ us hl => match us, hl with | [_, _], _ => rfl
  have L7 : Laid K mg "_law_behind" sBehind ["_law_rows", "_law_number"] := laid_mk X G a7 l7 c7 k7 fun _ _ _ _ _ _ us hl => match us, hl with | [_, _], _ => rfl
  have L8 : Laid K mg "_law_copied" sCopied ["_law_rows"] := laid_mk X G a8 l8 c8 k8 fun _ _ _ _ _ _ us hl => match us, hl with | [_], _ => rfl
  have L9 : Laid K mg "_law_whole" sWhole ["_law_found"] := laid_mk X G a9 l9 c9 k9 fun _ _ _ _ _ _ us hl => match us, hl with | [_], _ => rfl
  have L10 : Laid K mg "_law_list" sList ["_law_found", "_law_due"] := laid_mk X G a10 l10 c10 k10 fun _ _ _ _ _ _ us hl => match us, hl with | [_, _], _ => rfl
  have L11 : Laid K mg "_law_right" sRight ["_law_below", "_law_one", "_law_other", "_law_found"] := laid_mk X G a11 l11 c11 k11 fun _ _ _ _ _ _ us hl => match us, hl with | [_, _, _, _], _ => rfl
  have L12 : Laid K mg "_law_climbed" sClimbed ["_law_script"] := laid_mk X G a12 l12 c12 k12 fun _ _ _ _ _ _ us hl => match us, hl with | [_], _ => rfl
  refine ⟨PySem.W.fnOf "law" "law" (defArgs sLaw) (defBody sLaw) (defScope sLaw) .none kV13 dc13 pm13 an13 cd13 ct13, fun s v => .of_eq rfl, fun base kb _ => ?_⟩
  have DP : DefOk l.prog w K mg base 1 "_law_pull" ["_law_well_here", "_law_many"] spPull := L5.of fun _ _ F => ok_pull F
  have DW : DefOk l.prog w K mg base 1 "_law_well" ["_law_script", "_law_k"] (spWell K) := L4.of fun _ _ F => ok_well F T
  have DR : DefOk l.prog w K mg base 1 "reach" ["elders", "number"] spReach := L1.of fun _ _ F => ok_reach F T
  have DO : DefOk l.prog w K mg base 2 "common" ["elders", "one", "other"] spCommon := L2.of fun _ _ F => ok_common F T DR
  have DB : DefOk l.prog w K mg base 1 "_law_behind" ["_law_rows", "_law_number"] spBehind := L7.of fun _ _ F => ok_behind F T
  have DC : DefOk l.prog w K mg base 1 "_law_copied" ["_law_rows"] spCopied := L8.of fun _ _ F => ok_copied F T
  have DWh : DefOk l.prog w K mg base 1 "_law_whole" ["_law_found"] spWhole := L9.of fun _ _ F => ok_whole F T
  have DI : DefOk l.prog w K mg base 2 "_law_list" ["_law_found", "_law_due"] spList := L10.of fun _ _ F => ok_list F T DWh
  have DE : DefOk l.prog w K mg base 2 "_law_elders" ["_law_script", "_law_most"] (spElders K) := L6.of fun _ _ F => ok_elders F T DW DP
  have DG : DefOk l.prog w K mg base 3 "_law_right" ["_law_below", "_law_one", "_law_other", "_law_found"] spRight := L11.of fun _ _ F => ok_right F T DI
  have DS : DefOk l.prog w K mg base 3 "bases" ["elders", "one", "other"] spBases := L3.of fun _ _ F => ok_bases F T DO
  have DK : DefOk l.prog w K mg base 7 "_law_climbed" ["_law_script"] (spClimbed K) := L12.of fun _ _ F => ok_climbed (by omega) F T DW DP DI DS
  exact ok_law (by omega) (fun_mk (st := sLaw) l13 c13 k13) T DK DE DC DB DG DS
theorem walk {l : PySem.W.OpenLaw} {q : Program} {loose : List Str} {XP : (Str → Option Value) → Heap → Prop} {YP : World → Heap → Prop} {d : DefRec} {K : Params → PySem.W.Frag} (hn : l.most = some 63) (hdf : d.params.defaults = [])
    (hY : ∀ (w : World) (h : Heap), YP w h → (K w.params).In h)
    (F : ∀ (w : World) (mg : Str → Option Value) (fa : Addr) (h : Heap), (K w.params).In h → h.Ns mainGlobals mg → mg d.name = some (.ref fa) →
      ∃ fd : FuncData, (∀ (s : Shared) (u : Value), BindsTo s fd ⟨[u], []⟩ [("_law_script", u)]) ∧ ∀ base : Heap, (K w.params).In base → base.Ns mainGlobals mg → FnOk l.prog w (K w.params) mg base CX0 8 fa fd ["_law_script"] (spLaw (K w.params))) :
    PySem.W.WalkO q loose XP YP l.row.toRowW d [] (fun f vs => PySem.call f vs) :=
  L2.walk_of (n := 63) (k := 8) (x := "_law_script") (CX := fun _ => CX0) (sp := fun w => spLaw (K w.params)) hn (by decide) hdf ⟨rfl, by decide, by decide⟩ hY F (fun _ _ a ns hl _ hS => ⟨a, ns, rfl, hS, hl, fun _ => rfl⟩) fun _ _ _ _ _ z => z
end Tw
open PySem PySem.W PyProof.Rows
set_option maxRecDepth 100000 in
set_option maxHeartbeats 0 in
theorem PySem.Challenge.cw_twigmap_k82_bases_holds : PySem.Challenge.rw_twigmap_k82_bases.Holds := by
  w_on; o_law; k_head; (case hw => w_witness2)
  k_fill
  refine Tw.walk (l := PySem.Challenge.rw_twigmap_k82_bases) rfl rfl (fun w h Y => PySem.W.kIn_of Y) ?F
  case F =>
    intro w mg fa h KX G hmg
    refine' Tw.all_mk KX G hmg ?a1 ?l1 ?c1 ?k1 ?a2 ?l2 ?c2 ?k2 ?a3 ?l3 ?c3 ?k3 ?a4 ?l4 ?c4 ?k4 ?a5 ?l5 ?c5 ?k5 ?a6 ?l6 ?c6 ?k6 ?a7 ?l7 ?c7 ?k7 ?a8 ?l8 ?c8 ?k8 ?a9 ?l9 ?c9 ?k9 ?a10 ?l10 ?c10 ?k10 ?a11 ?l11 ?c11 ?k11 ?a12 ?l12 ?c12 ?k12 ?a13 ?l13 ?c13 ?k13 ?z1 ?z2 ?z3 ?z4 ?z5 ?z6 ?z7 ?z8 ?z9 ?z10 ?z11 ?z12
    (case a1 => k_is)
    (case l1 => k_is)
    (case c1 => k_is)
    (case k1 => k_is)
    (case a2 => k_is)
    (case l2 => k_is)
    (case c2 => k_is)
    (case k2 => k_is)
    (case a3 => k_is)
    (case l3 => k_is)
    (case c3 => k_is)
    (case k3 => k_is)
    (case a4 => k_is)
    (case l4 => k_is)
    (case c4 => k_is)
    (case k4 => k_is)
    (case a5 => k_is)
    (case l5 => k_is)
    (case c5 => k_is)
    (case k5 => k_is)
    (case a6 => k_is)
    (case l6 => k_is)
    (case c6 => k_is)
    (case k6 => k_is)
    (case a7 => k_is)
    (case l7 => k_is)
    (case c7 => k_is)
    (case k7 => k_is)
    (case a8 => k_is)
    (case l8 => k_is)
    (case c8 => k_is)
    (case k8 => k_is)
    (case a9 => k_is)
    (case l9 => k_is)
    (case c9 => k_is)
    (case k9 => k_is)
    (case a10 => k_is)
    (case l10 => k_is)
    (case c10 => k_is)
    (case k10 => k_is)
    (case a11 => k_is)
    (case l11 => k_is)
    (case c11 => k_is)
    (case k11 => k_is)
    (case a12 => k_is)
    (case l12 => k_is)
    (case c12 => k_is)
    (case k12 => k_is)
    (case a13 => k_is)
    (case l13 => k_is)
    (case c13 => k_is)
    (case k13 => k_is)
    (case z1 => k_is)
    (case z2 => k_is)
    (case z3 => k_is)
    (case z4 => k_is)
    (case z5 => k_is)
    (case z6 => k_is)
    (case z7 => k_is)
    (case z8 => k_is)
    (case z9 => k_is)
    (case z10 => k_is)
    (case z11 => k_is)
    (case z12 => k_is)
