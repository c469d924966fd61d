import PyProof.Rows.All
import Wide.All
import OpenK.AllK
import Wide.FinOn
import Lean
import PyProof.EqAt
import PyProof.EqKinds
import PyProof.TupleCall
import PyProof.NsDelKeeps
import PyProof.ExcBaseAll.ValueError
import KE.KIsAll
import PyProof.ExcArgsOwn
import PyProof.ExcAttrAll.ValueError
import PyProof.NeKinds
import PyProof.InstStoreFacts
import PyProof.ExcClass3
import PyProof.StrLawsTight
import PyProof.FitsReplace
import PyProof.MeetsStr
import PyProof.StrLawsJoin
import PyProof.JoinWalk
import KE.KIntText
import KE.IntTextLaws
import PyProof.StrLawsIn
import PyProof.Rows.StrStep
import PySem.Challenge.RW_twigmap_k17_many_read
set_option Elab.async false
set_option linter.all false
set_option maxRecDepth 100000
/-! THE HAND LAYER, for ints, bools, texts, own classes, LISTS and tuples (index, slices, in, append, pop ..), calls, loops. Paste it whole ahead of your own text; what your proof does not reach may be deleted. -/
namespace L2
open PySem PySem.Spec PyProof.Rows

/-- a key: an int or a str -/
abbrev Key := Sum Int Str
def keyIs : Key → Value → Bool
  | .inl k, v => Value.isInt k v
  | .inr x, v => Value.isStrOf x v
def keyH (w : World) : Key → Int
  | .inl k => hashInt k
  | .inr x => hashStr w x
theorem keyIs_shape : ∀ {k : Key} {v : Value}, keyIs k v = true → (∃ i t, k = Sum.inl i ∧ v = Value.int i t) ∨ (∃ x t, k = Sum.inr x ∧ v = Value.str x t)
  | .inl i, v, h => by
    obtain ⟨t, e⟩ := Value.isInt_shape (k := i) (v := v) h
    exact .inl ⟨i, t, rfl, e⟩
  | .inr x, v, h => by
    obtain ⟨t, e⟩ := Value.isStrOf_shape (x := x) (v := v) h
    exact .inr ⟨x, t, rfl, e⟩
theorem key_ll (a b : Int) : decide ((Sum.inl a : Key) = Sum.inl b) = (a == b) := by
  by_cases e : a = b
  · subst e; simp
  · have h : ¬ (Sum.inl a : Key) = Sum.inl b := fun q => e (Sum.inl.inj q)
    rw [decide_eq_false h]
    exact (beq_eq_false_iff_ne.mpr e).symm
theorem key_rr (a b : Str) : decide ((Sum.inr a : Key) = Sum.inr b) = decide (a = b) := by
  by_cases e : a = b
  · subst e; simp
  · have h : ¬ (Sum.inr a : Key) = Sum.inr b := fun q => e (Sum.inr.inj q)
    rw [decide_eq_false h, decide_eq_false e]
theorem key_lr (a : Int) (b : Str) : decide ((Sum.inl a : Key) = Sum.inr b) = false := decide_eq_false (fun q => nomatch q)
theorem key_rl (a : Str) (b : Int) : decide ((Sum.inr a : Key) = Sum.inl b) = false := decide_eq_false (fun q => nomatch q)

def mixKind (prog : Program) (w : World) : PySem.KeyKind prog w Key where
  is := keyIs
  hash := keyH w
  inj := fun v a b ha hb => by
    rcases keyIs_shape ha with ⟨i, t, rfl, rfl⟩ | ⟨x, t, rfl, rfl⟩
    · rcases keyIs_shape hb with ⟨j, u, rfl, e⟩ | ⟨y, u, rfl, e⟩
      · injection e with e1 _; rw [e1]
      · exact nomatch e
    · rcases keyIs_shape hb with ⟨j, u, rfl, e⟩ | ⟨y, u, rfl, e⟩
      · exact nomatch e
      · injection e with e1 _; rw [e1]
  byValue := fun k v h => by
    rcases keyIs_shape h with ⟨i, t, rfl, rfl⟩ | ⟨x, t, rfl, rfl⟩ <;> rfl
  pyHash := fun hv h => by
    rcases keyIs_shape hv with ⟨i, t, rfl, rfl⟩ | ⟨x, t, rfl, rfl⟩
    · exact wpAny_pyHash_int h
    · exact wpAny_pyHash_str h
  eqBool := fun hu hv h => by
    rcases keyIs_shape hu with ⟨i, t, rfl, rfl⟩ | ⟨x, t, rfl, rfl⟩
    · rcases keyIs_shape hv with ⟨j, u, rfl, rfl⟩ | ⟨y, u, rfl, rfl⟩
      · rw [key_ll] at h; exact wpAny_eqBool_int h
      · rw [key_lr] at h; exact SeqAt.EqAt.int_str i t y u _ _ _ _ h
    · rcases keyIs_shape hv with ⟨j, u, rfl, rfl⟩ | ⟨y, u, rfl, rfl⟩
      · rw [key_rl] at h; exact SeqAt.EqAt.str_int x t j u _ _ _ _ h
      · rw [key_rr] at h; exact wpAny_eqBool_str h
  «strs» := fun k x t v h => by
    rcases keyIs_shape h with ⟨i, u, rfl, e⟩ | ⟨y, u, rfl, e⟩
    · exact nomatch e
    · injection e with e1 _
      subst e1
      cases v <;> rfl

end L2

namespace L2
open PySem PySem.Spec PyProof.Rows

/-- a value, without the heap -/
inductive V where
  | non | bl (b : Bool) | int (i : Int) | str (x : Str) | byt (b : Array UInt8) | flt (b : UInt64) | ref (a : Addr) | ty (n : String)
  deriving DecidableEq

def RelV : V → Value → Prop
  | .non, u => u = Value.none
  | .bl b, u => u = Value.bool b
  | .int i, u => ∃ t, u = Value.int i t
  | .str x, u => ∃ t, u = Value.str x t
  | .byt b, u => ∃ t, u = Value.bytes b t
  | .flt b, u => ∃ t, u = Value.float b t
  | .ref a, u => u = Value.ref a
  | .ty n, u => u = Value.type n

abbrev Vals : List V → List Value → Prop := Paired RelV
theorem Vals.length {xs : List V} {us : List Value} (r : Vals xs us) : xs.length = us.length := Paired.length r
theorem Vals.get : ∀ {xs : List V} {us : List Value} {i : Nat} {x : V}, Vals xs us → xs[i]? = some x → ∃ u, us[i]? = some u ∧ RelV x u
  | _, _, _, _, .nil, e => by simp at e
  | _, _, 0, _, .cons r _, e => by simp at e; subst e; exact ⟨_, rfl, r⟩
  | _, _, i + 1, x, .cons _ t, e => by
    obtain ⟨u, h1, h2⟩ := Vals.get (i := i) (x := x) t (by simpa using e)
    exact ⟨u, by simpa using h1, h2⟩
theorem Vals.set {x : V} {u : Value} (r : RelV x u) : ∀ {xs : List V} {us : List Value} (i : Nat), Vals xs us → Vals (xs.set i x) (us.set i u)
  | _, _, _, .nil => .nil
  | _, _, 0, .cons _ t => .cons r t
  | _, _, i + 1, .cons q t => .cons q (Vals.set r i t)
theorem Vals.append : ∀ {xs ys : List V} {us ws : List Value}, Vals xs us → Vals ys ws → Vals (xs ++ ys) (us ++ ws)
  | _, _, _, _, .nil, s => s
  | _, _, _, _, .cons r t, s => .cons r (Vals.append t s)
theorem Vals.take : ∀ {xs : List V} {us : List Value} (n : Nat), Vals xs us → Vals (xs.take n) (us.take n)
  | _, _, 0, _ => .nil
  | _, _, _ + 1, .nil => .nil
  | _, _, n + 1, .cons r t => .cons r (Vals.take n t)
theorem Vals.drop : ∀ {xs : List V} {us : List Value} (n : Nat), Vals xs us → Vals (xs.drop n) (us.drop n)
  | _, _, 0, r => r
  | _, _, _ + 1, .nil => .nil
  | _, _, n + 1, .cons _ t => Vals.drop n t
def RelO : Option V → Option Value → Prop
  | some v, some u => RelV v u
  | none, none => True
  | _, _ => False
def KV {κ : Type} : List (κ × V) → List (κ × Value) → Prop := Paired fun (p : κ × V) (q : κ × Value) => p.1 = q.1 ∧ RelV p.2 q.2

/-- a key of a dict (00_mix): an int or a text -/
def kV : Key → V
  | .inl i => .int i
  | .inr x => .str x

/-- what stands at a tracked address -/
inductive HO where
  /-- a list -/
  | lst (xs : List V)
  /-- a tuple (never changes) -/
  | tup (xs : List V)
  /-- a dict whose keys are ints and texts; one whose keys are tuples of ints and texts (the empty one is both) -/
  | dK (kvs : List (Key × V)) | dT (kvs : List (List Key × V))
  /-- a set of ints: its members, its size -/
  | set (S : Int → Bool) (n : Nat)
  /-- an instance of the class at C, its dict at dx, its attributes -/
  | ins (C dx : Addr) (fs : List (Str × V))
  /-- the dict of the instance at x -/
  | own (x : Addr)
  /-- the dict of an exception -/
  | xd (fs : List (Str × V))
  /-- a bound method, f of x -/
  | met (f x : Addr)
  /-- a range object lo, lo + 1, .. below hi -/
  | rng (lo hi : Int)
  /-- a thing that is known to the object (the script; a dict while a loop walks it): read, never written while it is so -/
  | frz (o : Obj) (u : HO)
  /-- a code object's table -/
  | tbl (ps : Array Value)
  /-- any other thing, by what is true of its one object (a def of one's own: SetO a S n := HO.ext fun h => ..) -/
  | ext (φ : Heap → Prop)

abbrev Hp := Addr → Option HO
def upd (H : Hp) (a : Addr) (o : HO) : Hp := fun b => if b = a then some o else H b
theorem upd_same {H : Hp} {a : Addr} {o : HO} : upd H a o a = some o := by unfold upd; rw [if_pos rfl]
theorem upd_ne {H : Hp} {a b : Addr} {o : HO} (h : b ≠ a) : upd H a o b = H b := by unfold upd; rw [if_neg h]
/-- two objects of different content stand apart -/
theorem ne_of {H : Hp} {a b : Addr} {o u : HO} (h : H a = some o) (h' : H b = some u) (d : o ≠ u) : a ≠ b := by
  intro e; subst e; rw [h] at h'; exact d (Option.some.inj h')
theorem ne_of_none {H : Hp} {a b : Addr} {o : HO} (h : H a = some o) (h' : H b = none) : a ≠ b := by
  intro e; subst e; rw [h] at h'; cases h'

section
variable (P : Program) (w : World)
def ObjOk (H : Hp) (h : Heap) (a : Addr) : HO → Prop
  | .lst xs => xs.length ≤ sizeLine ∧ ∃ (its : List Value) (n : Nat), Vals xs its ∧ h.get? a = some { cls := .type "list", data := .seq its.toArray n }
  | .tup xs => xs.length ≤ sizeLine ∧ ∃ its : List Value, Vals xs its ∧ IsTup h a its.toArray
  | .dK kvs => kvs.length ≤ sizeLine ∧ (a == sysModules) = false ∧ ∃ vs, KV kvs vs ∧ h.DictOf (mixKind P w) a vs
  | .dT kvs => kvs.length ≤ sizeLine ∧ (a == sysModules) = false ∧ ∃ xs : List (List Key × Addr × Value),
      Paired (fun (p : List Key × V) (q : List Key × Addr × Value) => p.1 = q.1 ∧ H q.2.1 = some (.tup (p.1.map kV)) ∧ RelV p.2 q.2.2) kvs xs ∧
      ∃ o es ep, h.get? a = some o ∧ o.ExactDict ∧ o.data = .dict es ep ∧ es.toList = xs.map (entryOfKey (tupleKind (mixKind P w))) ∧ (xs.map (·.1)).Nodup
  | .set S n => h.SetOf (intKind P w) a S n
  | .ins C dx fs => H dx = some (.own a) ∧ fs.length ≤ 1000 ∧ dx ≠ a ∧ h.get? a = some (PySem.W.instObj C dx) ∧
      ∃ mA, h.Ns1 dx mA ∧ (∀ f, RelO (fs.lookup f) (mA f)) ∧ PySem.Within mA (fs.map (·.1))
  | .own _ => ∃ o, h.get? a = some o
  | .xd fs => ∃ mA, h.Ns1 a mA ∧ ∀ f, RelO (fs.lookup f) (mA f)
  | .rng lo hi => ∃ t u v, h.get? a = some { cls := .type "range", data := .fields #[.int lo t, .int hi u, .int 1 v] }
  | .frz o u => h.get? a = some o ∧ ObjOk H h a u
  | .tbl ps => h.get? a = some { cls := .none, data := .fields ps }
  | .met f x => h.get? a = some (PySem.W.methodObj (.ref f) (.ref x))
  | .ext φ => φ h ∧ (∃ o, h.get? a = some o) ∧ ∀ h1 h2 : Heap, φ h1 → (∀ o, h1.get? a = some o → h2.get? a = some o) → φ h2
/-- the abstract heap is held -/
def HOk (H : Hp) (h : Heap) : Prop := ∀ a o, H a = some o → ObjOk P w H h a o
end

section
variable {P : Program} {w : World} {H H' : Hp} {h h' : Heap} {a : Addr} {o : HO}
theorem ObjOk.lt (x : ObjOk P w H h a o) : a < h.objs.size := by
  cases o with
  | lst xs => obtain ⟨_, _, _, _, e⟩ := x; exact Heap.lt_size e
  | tup xs => obtain ⟨_, _, _, p⟩ := x; exact p.lt
  | dK kvs => obtain ⟨_, _, _, _, o, _, _, e, _⟩ := x; exact Heap.lt_size e
  | dT kvs => obtain ⟨_, _, _, _, o, _, _, e, _⟩ := x; exact Heap.lt_size e
  | set S n => obtain ⟨o, _, _, _, e, _⟩ := x; exact Heap.lt_size e
  | ins C dx fs => obtain ⟨_, _, _, e, _⟩ := x; exact Heap.lt_size e
  | own y => obtain ⟨_, e⟩ := x; exact Heap.lt_size e
  | xd fs => obtain ⟨_, ⟨_, _, _, e, _⟩, _⟩ := x; exact Heap.lt_size e
  | rng lo hi => obtain ⟨_, _, _, e⟩ := x; exact Heap.lt_size e
  | frz ob u => obtain ⟨e, _⟩ := x; exact Heap.lt_size e
  | tbl ps => exact Heap.lt_size (show h.get? a = some _ from x)
  | met f y => exact Heap.lt_size (show h.get? a = some _ from x)
  | ext φ => obtain ⟨_, ⟨_, e⟩, _⟩ := x; exact Heap.lt_size e
theorem Paired.mapP {α β : Type} {F G : α → β → Prop} : ∀ {l₁ : List α} {l₂ : List β}, Paired F l₁ l₂ → (∀ a b, F a b → G a b) → Paired G l₁ l₂
  | _, _, .nil, _ => .nil
  | _, _, .cons r t, f => .cons (f _ _ r) (Paired.mapP t f)
/-- what an object's description leans on: its own object, its own dict, the tuples -/
theorem ObjOk.stay (x : ObjOk P w H h a o) (k : ∀ b u, (b = a ∨ H b = some (.own a)) → h.get? b = some u → h'.get? b = some u)
    (ho : ∀ b, H b = some (.own a) → H' b = some (.own a)) (ht : ∀ b xs, H b = some (.tup xs) → H' b = some (.tup xs)) : ObjOk P w H' h' a o := by
  induction o with
  | lst xs => obtain ⟨z, its, n, r, e⟩ := x; exact ⟨z, its, n, r, k _ _ (.inl rfl) e⟩
  | tup xs => obtain ⟨z, its, r, ob, e, c⟩ := x; exact ⟨z, its, r, ob, k _ _ (.inl rfl) e, c⟩
  | dK kvs => obtain ⟨z, y, vs, r, ob, es, ep, e, c⟩ := x; exact ⟨z, y, vs, r, ob, es, ep, k _ _ (.inl rfl) e, c⟩
  | dT kvs =>
    obtain ⟨z, y, xs, r, ob, es, ep, e, c⟩ := x
    exact ⟨z, y, xs, Paired.mapP r fun p q z => ⟨z.1, ht _ _ z.2.1, z.2.2⟩, ob, es, ep, k _ _ (.inl rfl) e, c⟩
  | set S n => obtain ⟨ob, es, ep, t, e, c⟩ := x; exact ⟨ob, es, ep, t, k _ _ (.inl rfl) e, c⟩
  | ins C dx fs =>
    obtain ⟨d, z, ne, e, mA, ⟨od, es, ep, e2, c⟩, r⟩ := x
    exact ⟨ho _ d, z, ne, k _ _ (.inl rfl) e, mA, ⟨od, es, ep, k _ _ (.inr d) e2, c⟩, r⟩
  | own y => obtain ⟨ob, e⟩ := x; exact ⟨ob, k _ _ (.inl rfl) e⟩
  | xd fs => obtain ⟨mA, ⟨od, es, ep, e, c⟩, r⟩ := x; exact ⟨mA, ⟨od, es, ep, k _ _ (.inl rfl) e, c⟩, r⟩
  | rng lo hi => obtain ⟨t, u, v, e⟩ := x; exact ⟨t, u, v, k _ _ (.inl rfl) e⟩
  | frz ob u ih => obtain ⟨e, q⟩ := x; exact ⟨k _ _ (.inl rfl) e, ih q⟩
  | tbl ps =>
    have e : h.get? a = some { cls := .none, data := .fields ps } := x
    show h'.get? a = some { cls := .none, data := .fields ps }
    exact k a _ (.inl rfl) e
  | met f y =>
    have e : h.get? a = some (PySem.W.methodObj (.ref f) (.ref y)) := x
    show h'.get? a = some (PySem.W.methodObj (.ref f) (.ref y))
    exact k a _ (.inl rfl) e
  | ext φ => obtain ⟨p, ⟨o, e⟩, st⟩ := x; exact ⟨st _ _ p fun o q => k _ _ (.inl rfl) q, ⟨o, k _ _ (.inl rfl) e⟩, st⟩
theorem HOk.lt (x : HOk P w H h) (e : H a = some o) : a < h.objs.size := (x a o e).lt
theorem HOk.fresh (x : HOk P w H h) (e : h.objs.size ≤ a) : H a = none := by
  cases q : H a with
  | none => rfl
  | some u => exact absurd (Nat.lt_of_lt_of_le (x.lt q) e) (Nat.lt_irrefl _)
/-- every object of the heap is kept -/
theorem HOk.kept (x : HOk P w H h) (k : ∀ b u, h.get? b = some u → h'.get? b = some u) : HOk P w H h' := fun a o e =>
  (x a o e).stay (fun b u _ q => k b u q) (fun _ q => q) fun _ _ q => q
/-- a new object is laid and tracked -/
theorem HOk.laid (x : HOk P w H h) (k : ∀ b u, h.get? b = some u → h'.get? b = some u) (hp : h.objs.size ≤ a) (new : ObjOk P w (upd H a o) h' a o) : HOk P w (upd H a o) h' := fun b u e => by
  have hn := x.fresh hp
  by_cases hb : b = a
  · subst hb; rw [upd_same] at e; cases e; exact new
  · rw [upd_ne hb] at e
    exact (x b u e).stay (fun c v _ q => k c v q) (fun c q => by rw [upd_ne (ne_of_none q hn)]; exact q) fun c xs q => by rw [upd_ne (ne_of_none q hn)]; exact q
end

/-- what may be read as u: it is u, or a known u -/
def Rd (H : Hp) (a : Addr) (u : HO) : Prop := H a = some u ∨ ∃ o, H a = some (.frz o u)
theorem Rd.of {H : Hp} {a : Addr} {u : HO} (h : H a = some u) : Rd H a u := .inl h
theorem Rd.ok {P : Program} {w : World} {H : Hp} {h : Heap} {a : Addr} {u : HO} (r : Rd H a u) (x : HOk P w H h) : ObjOk P w H h a u := by
  rcases r with r | ⟨o, r⟩
  · exact x a u r
  · obtain ⟨_, q⟩ := x a _ r
    exact q
/-- what may be written -/
def Mut : Option HO → Prop
  | some (.lst _) => True
  | some (.dK _) => True
  | some (.dT _) => True
  | some (.set _ _) => True
  | some (.ins _ _ _) => True
  | some (.ext _) => True
  | _ => False
section
variable {P : Program} {w : World} {H : Hp} {h h' : Heap} {x e : Addr} {o' : HO}
/-- the object at e is changed: x itself, or the dict of the instance x -/
theorem HOk.write (ok : HOk P w H h) (mu : Mut (H x)) (he : e = x ∨ H e = some (.own x)) (k : ∀ b u, b ≠ e → h.get? b = some u → h'.get? b = some u) (heo : ∃ u, h'.get? e = some u)
    (new : ObjOk P w (upd H x o') h' x o') : HOk P w (upd H x o') h' := fun b u q => by
  have nown : ∀ c y, H c = some (.own y) → c ≠ x := fun c y r z => by subst z; rw [r] at mu; exact mu
  have ntup : ∀ c xs, H c = some (.tup xs) → c ≠ x := fun c xs r z => by subst z; rw [r] at mu; exact mu
  by_cases hb : b = x
  · subst hb; rw [upd_same] at q; cases q; exact new
  · rw [upd_ne hb] at q
    by_cases hbe : b = e
    · have q' : H b = some (.own x) := by
        rcases he with z | z
        · exact absurd (hbe.trans z) hb
        · rw [hbe]; exact z
      rw [q] at q'; cases q'
      obtain ⟨v, hv⟩ := heo
      exact ⟨v, by rw [hbe]; exact hv⟩
    · refine (ok b u q).stay (fun c v hc r => k c v ?_ r) (fun c r => by rw [upd_ne (nown c b r)]; exact r) fun c xs r => by rw [upd_ne (ntup c xs r)]; exact r
      rcases hc with rfl | hc
      · exact hbe
      · rintro rfl
        rcases he with z | z
        · exact nown c b hc z
        · rw [hc] at z; cases z; exact hb rfl
end

/-! ### kept unless tracked; of the frames at fs (the callers') the slots may change (an exception that passes writes there); of the records at ex (iterators) nothing is said -/
structure Un (fs ex : List Addr) (H H' : Hp) (h h' : Heap) : Prop where
  keep : ∀ b o, h.get? b = some o → H b = none → b ∉ fs → b ∉ ex → h'.get? b = some o
  slot : ∀ b o, h.get? b = some o → H b = none → b ∈ fs → b ∉ ex → ∃ sl, h'.get? b = some { o with slots := sl }
  free : ∀ b o, h.get? b = some o → H b = none → b ∉ ex → H' b = none
  there : ∀ b o, h.get? b = some o → b ∉ ex → ∃ o', h'.get? b = some o'
  tups : ∀ b xs, H b = some (.tup xs) → H' b = some (.tup xs)
  frzs : ∀ b o u, H b = some (.frz o u) → H' b = some (.frz o u)
  tbls : ∀ b ps, H b = some (.tbl ps) → ∃ more, H' b = some (.tbl (ps ++ more))
section
variable {fs fs' ex ex' : List Addr} {H H1 H2 : Hp} {h h1 h2 h' : Heap} {a x e : Addr} {o : HO}
theorem Un.any (u : Un fs ex H H1 h h1) {b : Addr} {ob : Obj} (q : h.get? b = some ob) (n : H b = none) (hx : b ∉ ex) : ∃ sl, h1.get? b = some { ob with slots := sl } := by
  by_cases hb : b ∈ fs
  · exact u.slot b ob q n hb hx
  · exact ⟨ob.slots, u.keep b ob q n hb hx⟩
theorem Un.trans (a : Un fs ex H H1 h h1) (b : Un fs ex H1 H2 h1 h2) : Un fs ex H H2 h h2 where
  keep := fun c ob q n hc hx => b.keep c ob (a.keep c ob q n hc hx) (a.free c ob q n hx) hc hx
  slot := fun c ob q n hc hx => by
    obtain ⟨sl, e1⟩ := a.slot c ob q n hc hx
    obtain ⟨sl', e2⟩ := b.slot c _ e1 (a.free c ob q n hx) hc hx
    exact ⟨sl', e2⟩
  free := fun c ob q n hx => by
    obtain ⟨o', e1⟩ := a.there c ob q hx
    exact b.free c o' e1 (a.free c ob q n hx) hx
  there := fun c ob q hx => by
    obtain ⟨o', e1⟩ := a.there c ob q hx
    exact b.there c o' e1 hx
  tups := fun c xs q => b.tups c xs (a.tups c xs q)
  frzs := fun c ob xs q => b.frzs c ob xs (a.frzs c ob xs q)
  tbls := fun c ps q => by
    obtain ⟨m1, e1⟩ := a.tbls c ps q
    obtain ⟨m2, e2⟩ := b.tbls c _ e1
    exact ⟨m1 ++ m2, by rw [e2, Array.append_assoc]⟩
theorem Un.kept (k : ∀ b u, h.get? b = some u → h'.get? b = some u) : Un fs ex H H h h' :=
  ⟨fun b ob q _ _ _ => k b ob q, fun b ob q _ _ _ => ⟨ob.slots, k b ob q⟩, fun _ _ _ n _ => n, fun b ob q _ => ⟨ob, k b ob q⟩, fun _ _ q => q, fun _ _ _ q => q, fun _ ps q => ⟨#[], by rw [q]; simp⟩⟩
theorem Un.refl : Un fs ex H H h h := Un.kept fun _ _ q => q
theorem Un.laid (k : ∀ b u, h.get? b = some u → h'.get? b = some u) (hp : h.objs.size ≤ a) (hn : H a = none) : Un fs ex H (upd H a o) h h' where
  keep := fun b u q _ _ _ => k b u q
  slot := fun b u q _ _ _ => ⟨u.slots, k b u q⟩
  free := fun b u q n _ => by rw [upd_ne (Nat.ne_of_lt (Nat.lt_of_lt_of_le (Heap.lt_size q) hp))]; exact n
  there := fun b u q _ => ⟨u, k b u q⟩
  tups := fun b xs q => by rw [upd_ne (ne_of_none q hn)]; exact q
  frzs := fun b u xs q => by rw [upd_ne (ne_of_none q hn)]; exact q
  tbls := fun b ps q => ⟨#[], by rw [upd_ne (ne_of_none q hn), q]; simp⟩
theorem Un.write (mu : Mut (H x)) (he : e = x ∨ H e = some (.own x)) (k : ∀ b u, b ≠ e → h.get? b = some u → h'.get? b = some u) (heo : ∃ u, h'.get? e = some u) : Un fs ex H (upd H x o) h h' := by
  have hx : ∀ b, H b = none → b ≠ x := fun b n z => by subst z; rw [n] at mu; exact mu
  have hb : ∀ b, H b = none → b ≠ e := fun b n z => by
    subst z
    rcases he with r | r
    · exact hx b n r
    · rw [n] at r; cases r
  have hm : ∀ b u, H b = some u → ¬ Mut (some u) → b ≠ x := fun b u q nm z => by subst z; rw [q] at mu; exact nm mu
  refine ⟨fun b u q n _ _ => k b u (hb b n) q, fun b u q n _ _ => ⟨u.slots, k b u (hb b n) q⟩, fun b u q n _ => by rw [upd_ne (hx b n)]; exact n, fun b u q _ => ?_,
    fun b xs q => by rw [upd_ne (hm b _ q fun z => z)]; exact q, fun b u xs q => by rw [upd_ne (hm b _ q fun z => z)]; exact q, fun b ps q => ⟨#[], by rw [upd_ne (hm b _ q fun z => z), q]; simp⟩⟩
  by_cases hbe : b = e
  · subst hbe; exact heo
  · exact ⟨u, k b u hbe q⟩
theorem Un.mono (u : Un fs ex H H1 h h1) (hs : ∀ b ∈ fs, b ∈ fs') (hx : ∀ b ∈ ex, b ∈ ex') : Un fs' ex' H H1 h h1 :=
  ⟨fun b ob q n hb he => u.keep b ob q n (fun z => hb (hs b z)) fun z => he (hx b z), fun _ _ q n _ he => u.any q n fun z => he (hx _ z), fun b ob q n he => u.free b ob q n fun z => he (hx b z), fun b ob q he => u.there b ob q fun z => he (hx b z), u.tups, u.frzs, u.tbls⟩
end

/-! ### the heap without what is tracked -/
def trk (h : Heap) (H : Hp) : List Addr := (List.range h.objs.size).filter fun a => (H a).isSome
def hidT (h : Heap) (H : Hp) : Heap := PySem.W.hideAll h (trk h H)
theorem hidT_size (h : Heap) (H : Hp) : (hidT h H).objs.size = h.objs.size := PySem.W.hideAll_size _ _
theorem hidT_get {h : Heap} {H : Hp} {b : Addr} {o : Obj} (e : h.get? b = some o) (n : H b = none) : (hidT h H).get? b = some o :=
  PySem.W.hideAll_get _ e fun hm => by
    have q : (H b).isSome = true := (List.mem_filter.mp hm).2
    rw [n] at q; simp at q
theorem of_hidT {h : Heap} {H : Hp} {b : Addr} {o : Obj} (e : (hidT h H).get? b = some o) : h.get? b = some o ∧ H b = none := by
  have e' : h.get? b = some o := PySem.W.of_hideAll (trk h H) e
  refine ⟨e', ?_⟩
  cases q : H b with
  | none => rfl
  | some x =>
    have hm : b ∈ trk h H := List.mem_filter.mpr ⟨List.mem_range.mpr (Heap.lt_size e'), by simp [q]⟩
    have z : (hidT h H).get? b = none := PySem.W.hideAll_none (trk h H) hm
    rw [z] at e; cases e

/-! ### OpenK's ledger, filled with every new object but one -/
def allNews (g h : Heap) (L : Addr) : List (Addr × Obj) := (List.range h.objs.size).filterMap fun a => if a = L ∨ (g.get? a).isSome = true then none else (h.get? a).map fun o => (a, o)
def rest (g h : Heap) (L d : Addr) : List (Addr × Obj) := (allNews g h L).filter fun p => decide (p.1 ≠ d)
end L2

namespace L2
open PySem PySem.Spec PyProof.Rows

/-- the module's facts, over the base: the heap at the law's entry without what is tracked there -/
structure Mod (K : PySem.W.Frag) (mg : Str → Option Value) (base : Heap) : Prop where
  kin : K.In base
  glob : base.Ns mainGlobals mg
  blt : ∃ mb, base.Ns builtinsNs mb ∧ ∀ x : Str, x ≠ "__name__" → mb x = bootBuiltins x
  nolimit : base.NoLimit

/-- the context: a def's body (or a comprehension's block) running. base: fixed through the whole law; s₀, H₀: the entry; outer: the frames whose slots others may change (a def's callers); stack: all frames that run;
   ex: iterators that were made ahead of the entry and are walked here (a comprehension's); fn: the names whose cells were made at the entry (a def: all; a comprehension's block: its own); calm: not within an except suite; pn: pins that every state bears; xe: what is wanted of an exception that leaves the code -/
structure Cx where
  prog : Program
  w : World
  K : PySem.W.Frag
  mg : Str → Option Value
  base : Heap
  A : Around
  N : List Str
  s₀ : Shared
  H₀ : Hp
  env : Env
  outer : List Env
  stack : List Env
  ex : List Addr
  fn : Str → Bool
  calm : Bool
  pn : List (Addr × Obj)
  xe : Value → Shared → Prop
/-- the callers' frames -/
def frs (l : List Env) : List Addr := l.filterMap (·.frame)
abbrev Cx.fs (X : Cx) : List Addr := frs X.outer

def Vis (sc : Scope) (x : Str) : Prop := sc.names.lookup x = some .local ∨ sc.names.lookup x = some .cell ∨ sc.names.lookup x = some .free
def Loc (sc : Scope) (x : Str) : Prop := sc.names.lookup x = some .local ∨ sc.names.lookup x = some .cell
def Look (env : Env) (h : Heap) (m : Str → Option Value) (x : Str) (u : Value) : Prop :=
  (env.kindOf x = some .local ∧ m x = some u) ∨ ((env.kindOf x = some .cell ∨ env.kindOf x = some .free) ∧ ∃ c, env.cells.lookup x = some c ∧ h.IsCell c (some u))

structure Cx.Ok (X : Cx) : Prop where
  mod : Mod X.K X.mg X.base
  kind : X.env.scope.kind = .function
  glob : X.env.globals = mainGlobals
  blt : X.env.builtins = builtinsNs
  above : X.s₀.heap.objs.size ≤ X.env.locals
  inj : ∀ x y c, X.env.cells.lookup x = some c → X.env.cells.lookup y = some c → x = y
  has : ∀ x, (X.env.kindOf x = some .cell ∨ X.env.kindOf x = some .free) → ∃ c, X.env.cells.lookup x = some c
  cab : ∀ x c, X.fn x = true → X.env.cells.lookup x = some c → X.s₀.heap.objs.size ≤ c
  hd : X.calm = true → X.A.handled = none
  frames : X.A.frames = some X.stack
  stk : X.stack = X.outer ∨ (X.stack = X.env :: X.outer ∧ X.env.frame = some X.env.locals)
  exf : ∀ b ∈ X.ex, b ≠ X.env.locals ∧ ∀ x c, X.env.cells.lookup x = some c → c ≠ b
  bs : ∀ b o, X.base.get? b = some o → X.s₀.heap.get? b = some o ∧ X.H₀ b = none
  bsz : X.base.objs.size ≤ X.s₀.heap.objs.size
  noex : ∀ b o, X.base.get? b = some o → b ∉ X.ex
  exfs : ∀ b ∈ X.ex, b ∉ X.fs
  funs : X.s₀.heap.FunFrames X.base X.outer
  frf : ∀ b ∈ X.fs, X.H₀ b = none

structure Inv (X : Cx) (pins : List (Addr × Obj)) (σ : List (Option V)) (H : Hp) (s : Shared) : Prop where
  ok : X.Ok
  os : s.os = X.s₀.os
  bare : AllBare s.gens
  base : Un X.fs X.ex X.H₀ H X.s₀.heap s.heap
  loc : ∃ m, s.heap.Ns X.env.locals m ∧ ∀ (i : Nat) (x : Str) (v : V), X.N[i]? = some x → σ[i]? = some (some v) → Vis X.env.scope x → ∃ u, RelV v u ∧ Look X.env s.heap m x u
  cell : ∀ x c, X.env.cells.lookup x = some c → ∃ v, s.heap.IsCell c v
  free : H X.env.locals = none
  freeC : ∀ x c, X.env.cells.lookup x = some c → H c = none
  pin : ∀ p ∈ X.pn ++ pins, s.heap.get? p.1 = some p.2 ∧ H p.1 = none ∧ p.1 ≠ X.env.locals ∧ p.1 ∉ X.fs ∧ ∀ v, p.2.data ≠ .cell v
  hok : HOk X.prog X.w H s.heap
  len : σ.length = X.N.length

section
variable {X : Cx} {pins : List (Addr × Obj)} {σ : List (Option V)} {H H' : Hp} {s : Shared} {h' : Heap}

theorem Cx.Ok.nofr (ok : X.Ok) {b : Addr} {o : Obj} (e : X.base.get? b = some o) : b ∉ X.fs := fun hb => by
  have := (ok.funs.mem hb).1
  rw [e] at this; cases this
theorem Inv.bs (I : Inv X pins σ H s) : ∀ b o, X.base.get? b = some o → s.heap.get? b = some o ∧ H b = none := fun b o e =>
  ⟨I.base.keep b o (I.ok.bs b o e).1 (I.ok.bs b o e).2 (I.ok.nofr e) (I.ok.noex b o e), I.base.free b o (I.ok.bs b o e).1 (I.ok.bs b o e).2 (I.ok.noex b o e)⟩
theorem Inv.bk (I : Inv X pins σ H s) : ∀ b o, X.base.get? b = some o → s.heap.get? b = some o := fun b o e => (I.bs b o e).1
theorem Inv.mod (I : Inv X pins σ H s) : Mod X.K X.mg X.base := I.ok.mod
theorem Inv.kIn (I : Inv X pins σ H s) : X.K.In s.heap := I.ok.mod.kin.keeps I.bk
theorem Inv.nolimit (I : Inv X pins σ H s) : s.heap.NoLimit := I.ok.mod.nolimit.keeps I.bk
/-- the frame over the base: for OpenK's rules (K.In X.base is I.mod.kin) -/
theorem Inv.fr (I : Inv X pins σ H s) : ∃ m, Fr X.base X.env.locals s.heap m :=
  let ⟨m, hn, _⟩ := I.loc
  ⟨m, hn, I.bk, Nat.le_trans I.ok.bsz I.ok.above⟩
theorem Inv.lt (I : Inv X pins σ H s) : X.env.locals < s.heap.objs.size := let ⟨_, hn, _⟩ := I.loc; hn.lt
theorem Inv.sz (I : Inv X pins σ H s) : X.s₀.heap.objs.size ≤ s.heap.objs.size := Nat.le_trans I.ok.above (Nat.le_of_lt I.lt)
theorem Inv.nofs (I : Inv X pins σ H s) {a : Addr} (h : s.heap.objs.size ≤ a) : a ∉ X.fs := fun hb => by
  obtain ⟨_, o, ho, _⟩ := I.ok.funs.mem hb
  exact absurd (Nat.lt_of_lt_of_le (Heap.lt_size ho) (Nat.le_trans I.sz h)) (Nat.lt_irrefl _)
theorem Inv.cne (I : Inv X pins σ H s) : ∀ x c, X.env.cells.lookup x = some c → c ≠ X.env.locals := fun x c e z => by
  obtain ⟨v, o, ho, hd⟩ := I.cell x c e
  obtain ⟨m, ⟨o', es, ep, ho', hd', _⟩, _⟩ := I.loc
  rw [z, ho'] at ho; cases ho; rw [hd'] at hd; cases hd
theorem Inv.funs (I : Inv X pins σ H s) : s.heap.FunFrames X.base X.outer := by
  have all : ∀ (l : List Env), (∀ b ∈ frs l, b ∈ X.fs) → X.s₀.heap.FunFrames X.base l → s.heap.FunFrames X.base l := by
    intro l
    induction l with
    | nil => intro _ _; trivial
    | cons env r ih =>
      intro hs hl
      obtain ⟨hk, ⟨L, o, hf, hn, ho, hd⟩, hr⟩ := hl
      have hL : L ∈ X.fs := hs L (by unfold frs; rw [List.filterMap_cons, hf]; exact List.mem_cons_self)
      obtain ⟨sl, e⟩ := I.base.slot L o ho (I.ok.frf L hL) hL fun z => I.ok.exfs L z hL
      exact ⟨hk, ⟨L, _, hf, hn, e, hd⟩, ih (fun b hb => hs b (by unfold frs; rw [List.filterMap_cons, hf]; exact List.mem_cons_of_mem _ hb)) hr⟩
  exact all X.outer (fun _ hb => hb) I.ok.funs

/-- the frames that run, for a call -/
theorem Inv.stack (I : Inv X pins σ H s) : s.heap.FunFrames X.base X.stack := by
  rcases I.ok.stk with e | ⟨e, hf⟩
  · rw [e]; exact I.funs
  · rw [e]
    obtain ⟨m, hn, _⟩ := I.loc
    refine .cons (by rw [I.ok.kind]; decide) hf hn ?_ I.funs
    exact Heap.get?_none_of_le (Nat.le_trans I.ok.bsz I.ok.above)
theorem Inv.stkSub (I : Inv X pins σ H s) : ∀ b ∈ frs X.stack, b ∈ X.env.locals :: X.fs := fun b hb => by
  rcases I.ok.stk with e | ⟨e, hf⟩
  · rw [e] at hb; exact List.mem_cons_of_mem _ hb
  · rw [e] at hb
    unfold frs at hb
    rw [List.filterMap_cons, hf] at hb
    exact hb
theorem Inv.stkFree (I : Inv X pins σ H s) : ∀ b ∈ frs X.stack, H b = none := fun b hb => by
  rcases List.mem_cons.mp (I.stkSub b hb) with e | hb
  · rw [e]; exact I.free
  · obtain ⟨_, o, ho, _⟩ := I.ok.funs.mem hb
    exact I.base.free b o ho (I.ok.frf b hb) fun z => I.ok.exfs b z hb

/-- THE STEP: the untracked objects but the frame and the records at ch are kept (the callers' frames up to slots), the frame's map is kept, the new abstract heap is held -/
theorem Inv.step {g' : Array GenState} {t' : Nat} {d' : Drawn} {ch : List Addr} (I : Inv X pins σ H s)
    (hch : ∀ b ∈ ch, (b ∈ X.ex ∨ X.s₀.heap.objs.size ≤ b) ∧ b ≠ X.env.locals ∧ (∀ x c, X.env.cells.lookup x = some c → c ≠ b) ∧ ∀ p ∈ X.pn ++ pins, p.1 ≠ b)
    (keep : ∀ b o, b ≠ X.env.locals → b ∉ X.fs → b ∉ ch → s.heap.get? b = some o → H b = none → h'.get? b = some o)
    (slot : ∀ b o, b ≠ X.env.locals → b ∈ X.fs → b ∉ ch → s.heap.get? b = some o → H b = none → ∃ sl, h'.get? b = some { o with slots := sl }) (free : ∀ b o, b ∉ ch → s.heap.get? b = some o → H b = none → H' b = none)
    (there : ∀ b o, b ∉ ch → s.heap.get? b = some o → ∃ o', h'.get? b = some o')
    (tups : ∀ b xs, H b = some (.tup xs) → H' b = some (.tup xs)) (frzs : ∀ b o u, H b = some (.frz o u) → H' b = some (.frz o u)) (tbls : ∀ b ps, H b = some (.tbl ps) → ∃ more, H' b = some (.tbl (ps ++ more)))
    (ns : ∀ m, s.heap.Ns X.env.locals m → h'.Ns X.env.locals m) (hok : HOk X.prog X.w H' h') (hg : AllBare g') :
    Inv X pins σ H' { s with heap := h', gens := g', drawn := d', toks := t' } := by
  have neL : ∀ b o, X.s₀.heap.get? b = some o → b ≠ X.env.locals := fun b o e => Nat.ne_of_lt (Nat.lt_of_lt_of_le (Heap.lt_size e) I.ok.above)
  have neC : ∀ b o, X.s₀.heap.get? b = some o → b ∉ X.ex → b ∉ ch := fun b o e hx hb => by
    rcases (hch b hb).1 with z | z
    · exact hx z
    · exact absurd (Nat.lt_of_lt_of_le (Heap.lt_size e) z) (Nat.lt_irrefl _)
  have cellK : ∀ x c, X.env.cells.lookup x = some c → ∀ v, s.heap.IsCell c v → h'.IsCell c v := fun x c e v ⟨o, ho, hd⟩ => by
    have nch : c ∉ ch := fun z => (hch c z).2.2.1 x c e rfl
    by_cases hc : c ∈ X.fs
    · obtain ⟨sl, q⟩ := slot c o (I.cne x c e) hc nch ho (I.freeC x c e)
      exact ⟨_, q, hd⟩
    · exact ⟨o, keep c o (I.cne x c e) hc nch ho (I.freeC x c e), hd⟩
  refine ⟨I.ok, I.os, hg, ⟨fun b o e n hb hx => ?_, fun b o e n hb hx => ?_, fun b o e n hx => ?_, fun b o e hx => ?_, fun b xs e => tups b xs (I.base.tups b xs e), fun b o xs e => frzs b o xs (I.base.frzs b o xs e), fun b ps e => ?_⟩, ?_, fun x c e => ?_, ?_, fun x c e => ?_, fun p hp => ?_, hok, I.len⟩
  · exact keep b o (neL b o e) hb (neC b o e hx) (I.base.keep b o e n hb hx) (I.base.free b o e n hx)
  · obtain ⟨sl, e1⟩ := I.base.slot b o e n hb hx
    obtain ⟨sl', e2⟩ := slot b _ (neL b o e) hb (neC b o e hx) e1 (I.base.free b o e n hx)
    exact ⟨sl', e2⟩
  · obtain ⟨o', e1⟩ := I.base.there b o e hx
    exact free b o' (neC b o e hx) e1 (I.base.free b o e n hx)
  · obtain ⟨o', e1⟩ := I.base.there b o e hx
    exact there b o' (neC b o e hx) e1
  · obtain ⟨m1, e1⟩ := I.base.tbls b ps e
    obtain ⟨m2, e2⟩ := tbls b _ e1
    exact ⟨m1 ++ m2, by rw [e2, Array.append_assoc]⟩
  · obtain ⟨m, hn, hl⟩ := I.loc
    refine ⟨m, ns m hn, fun i x v e1 e2 e3 => ?_⟩
    obtain ⟨u, r, l⟩ := hl i x v e1 e2 e3
    refine ⟨u, r, ?_⟩
    rcases l with l | ⟨k, c, e, z⟩
    · exact .inl l
    · exact .inr ⟨k, c, e, cellK x c e _ z⟩
  · obtain ⟨v, z⟩ := I.cell x c e
    exact ⟨v, cellK x c e v z⟩
  · obtain ⟨m, ⟨o, _, _, ho, _⟩, _⟩ := I.loc
    exact free _ o (fun z => (hch _ z).2.1 rfl) ho I.free
  · obtain ⟨v, o, ho, hd⟩ := I.cell x c e
    exact free c o (fun z => (hch c z).2.2.1 x c e rfl) ho (I.freeC x c e)
  · obtain ⟨e, n, ne, nf, d⟩ := I.pin p hp
    have nch : p.1 ∉ ch := fun z => (hch p.1 z).2.2.2 p hp rfl
    exact ⟨keep p.1 p.2 ne nf nch e n, free p.1 p.2 nch e n, ne, nf, d⟩
/-- .. where the frame's own object is kept too -/
theorem Inv.un {t' : Nat} (I : Inv X pins σ H s) (u : Un X.fs [] H H' s.heap h') (hok : HOk X.prog X.w H' h') : Inv X pins σ H' { s with heap := h', toks := t' } := by
  obtain ⟨m, ⟨o, es, ep, ho, r⟩, _⟩ := id I.loc
  obtain ⟨sl, hL⟩ := u.any ho I.free (by simp)
  exact I.step (g' := s.gens) (d' := s.drawn) (ch := []) (fun _ z => nomatch z) (fun b o _ hb _ e n => u.keep b o e n hb (by simp)) (fun b o _ hb _ e n => u.slot b o e n hb (by simp)) (fun b o _ e n => u.free b o e n (by simp)) (fun b o _ e => u.there b o e (by simp)) u.tups u.frzs u.tbls (fun m' hm => by
    obtain ⟨o', es', ep', ho', r'⟩ := hm
    rw [ho] at ho'; cases ho'
    exact ⟨_, es', ep', hL, r'⟩) hok I.bare
/-- behind a call (or a comprehension's block): the slots of this frame may have changed too, the records at ch may have turned -/
theorem Inv.call {g' : Array GenState} {t' : Nat} {d' : Drawn} {ch : List Addr} (I : Inv X pins σ H s) (u : Un (frs X.stack) ch H H' s.heap h') (hok : HOk X.prog X.w H' h') (hg : AllBare g')
    (hch : ∀ b ∈ ch, (b ∈ X.ex ∨ X.s₀.heap.objs.size ≤ b) ∧ b ≠ X.env.locals ∧ (∀ x c, X.env.cells.lookup x = some c → c ≠ b) ∧ ∀ p ∈ X.pn ++ pins, p.1 ≠ b) :
    Inv X pins σ H' { s with heap := h', gens := g', drawn := d', toks := t' } := by
  obtain ⟨m, ⟨o, es, ep, ho, r⟩, _⟩ := id I.loc
  obtain ⟨sl, hL⟩ := u.any ho I.free fun z => (hch _ z).2.1 rfl
  exact I.step (ch := ch) hch (fun b o hL hb hc e n => u.keep b o e n (fun z => (List.mem_cons.mp (I.stkSub b z)).elim hL hb) hc) (fun b o _ _ hc e n => u.any e n hc) (fun b o hc e n => u.free b o e n hc) (fun b o hc e => u.there b o e hc) u.tups u.frzs u.tbls (fun m' hm => by
    obtain ⟨o', es', ep', ho', r'⟩ := hm
    rw [ho] at ho'; cases ho'
    exact ⟨_, es', ep', hL, r'⟩) hok hg
/-- an untracked record of ours (an iterator) has turned -/
theorem Inv.turned {t' : Nat} {it : Addr} (I : Inv X pins σ H s) (k : ∀ b o, b ≠ it → s.heap.get? b = some o → h'.get? b = some o) (hn : H it = none) (hL : it ≠ X.env.locals)
    (h1 : it ∈ X.ex ∨ X.s₀.heap.objs.size ≤ it) (h2 : ∀ x c, X.env.cells.lookup x = some c → c ≠ it) (h3 : ∀ p ∈ X.pn ++ pins, p.1 ≠ it) : Inv X pins σ H { s with heap := h', toks := t' } := by
  have nit : ∀ b u, H b = some u → b ≠ it := fun b u e z => by rw [z, hn] at e; cases e
  refine I.step (g' := s.gens) (d' := s.drawn) (ch := [it]) (fun b hb => ?_) (fun b o _ _ hc e _ => k b o (fun z => hc (by simp [z])) e) (fun b o _ _ hc e _ => ⟨o.slots, k b o (fun z => hc (by simp [z])) e⟩) (fun _ _ _ _ n => n)
    (fun b o hc e => ⟨o, k b o (fun z => hc (by simp [z])) e⟩) (fun _ _ e => e) (fun _ _ _ e => e) (fun b ps e => ⟨#[], by rw [e]; simp⟩) (fun m hm => ?_) (fun b u e => ?_) I.bare
  · have e : b = it := by simpa using hb
    subst e
    exact ⟨h1, hL, h2, h3⟩
  · obtain ⟨o, es, ep, ho, r⟩ := hm
    exact ⟨o, es, ep, k _ o (Ne.symm hL) ho, r⟩
  · refine (I.hok b u e).stay (fun c v hc q => k c v ?_ q) (fun _ q => q) fun _ _ q => q
    rcases hc with z | z
    · rw [z]; exact nit b u e
    · exact nit c _ z
theorem Inv.tok (I : Inv X pins σ H s) (t : Nat) : Inv X pins σ H { s with toks := t } := I.un (h' := s.heap) (t' := t) Un.refl I.hok
/-- all objects kept -/
theorem Inv.kept {t' : Nat} (I : Inv X pins σ H s) (k : ∀ b u, s.heap.get? b = some u → h'.get? b = some u) : Inv X pins σ H { s with heap := h', toks := t' } := I.un (Un.kept k) (I.hok.kept k)
/-- a new object laid and tracked -/
theorem Inv.laid {a : Addr} {o : HO} {t' : Nat} (I : Inv X pins σ H s) (k : ∀ b u, s.heap.get? b = some u → h'.get? b = some u) (hp : s.heap.objs.size ≤ a) (new : ObjOk X.prog X.w (upd H a o) h' a o) :
    Inv X pins σ (upd H a o) { s with heap := h', toks := t' } := I.un (Un.laid k hp (I.hok.fresh hp)) (I.hok.laid k hp new)
/-- an object written -/
theorem Inv.write {x e : Addr} {o : HO} {t' : Nat} (I : Inv X pins σ H s) (mu : Mut (H x)) (he : e = x ∨ H e = some (.own x)) (k : ∀ b u, b ≠ e → s.heap.get? b = some u → h'.get? b = some u) (heo : ∃ u, h'.get? e = some u)
    (new : ObjOk X.prog X.w (upd H x o) h' x o) : Inv X pins σ (upd H x o) { s with heap := h', toks := t' } := I.un (Un.write mu he k heo) (I.hok.write mu he k heo new)
theorem Inv.pins_of {pins' : List (Addr × Obj)} (I : Inv X pins σ H s) (h : ∀ p ∈ pins', s.heap.get? p.1 = some p.2 ∧ H p.1 = none ∧ p.1 ≠ X.env.locals ∧ p.1 ∉ X.fs ∧ ∀ v, p.2.data ≠ .cell v) : Inv X pins' σ H s :=
  ⟨I.ok, I.os, I.bare, I.base, I.loc, I.cell, I.free, I.freeC, fun p hp => (List.mem_append.mp hp).elim (fun z => I.pin p (List.mem_append_left _ z)) (h p), I.hok, I.len⟩

theorem nodup_ix {N : List Str} (hN : N.Nodup) {i j : Nat} {x : Str} (a : N[i]? = some x) (b : N[j]? = some x) : i = j := by
  obtain ⟨h1, e1⟩ := List.getElem?_eq_some_iff.mp a
  obtain ⟨h2, e2⟩ := List.getElem?_eq_some_iff.mp b
  exact (List.getElem_inj hN).mp (e1.trans e2.symm)

/-- a name is stored; what changed -/
theorem store_ok2 {M : Model} {A : Around} {E : Value → Shared → Prop} {i : Nat} {x : Str} {v : V} {u : Value} {Q : Unit → Shared → Prop} (I : Inv X pins σ H s) (hN : X.N.Nodup) (hi : X.N[i]? = some x) (hx : Loc X.env.scope x) (r : RelV v u)
    (h : ∀ s', Inv X pins (σ.set i (some v)) H s' → (∃ a, Heap.SameBut a s.heap s'.heap ∧ (a = X.env.locals ∨ X.env.cells.lookup x = some a)) → Q () s') (hf : X.fn x = true ∨ X.env.scope.names.lookup x = some .local := by first | exact .inl rfl | exact .inr rfl | assumption) : wpAny M A (storeName X.env x u) Q E s := by
  obtain ⟨m, hn, hl⟩ := id I.loc
  have hcls : (X.env.scope.kind == .class || (X.env.scope.kind == .module && X.env.locals != X.env.globals)) = false := by rw [I.ok.kind]; rfl
  have hiσ : i < σ.length := by rw [I.len]; exact (List.getElem?_eq_some_iff.mp hi).1
  have cne := I.cne
  have tracked : ∀ {a : Addr} {h' : Heap}, (∃ o, s.heap.get? a = some o ∧ H a = none) → Heap.SameBut a s.heap h' → HOk X.prog X.w H h' := fun {a h'} ha hs b ob e => by
    obtain ⟨_, _, hfree⟩ := ha
    refine (I.hok b ob e).stay (fun c w' hc q => (hs.2 c ?_).trans q) (fun _ q => q) fun _ _ q => q
    rintro rfl
    rcases hc with rfl | hc
    · rw [hfree] at e; cases e
    · rw [hfree] at hc; cases hc
  rcases hx with hk | hk
  · refine wpAny_storeName_local hk hn (fun h' hn' hs => ?_) hcls
    obtain ⟨oL, _, _, hoL, _⟩ := id hn
    refine h _ ⟨I.ok, I.os, I.bare, ⟨fun b o e n hb hx => ?_, fun b o e n hb hx => ?_, I.base.free, fun b o e hx => ?_, I.base.tups, I.base.frzs, I.base.tbls⟩, ⟨_, hn', fun j y v' e1 e2 e3 => ?_⟩, fun y c e => ?_, I.free, I.freeC, fun p hp => ?_, tracked ⟨oL, hoL, I.free⟩ hs, by simpa using I.len⟩ ⟨_, hs, .inl rfl⟩
    · exact (hs.2 b (Nat.ne_of_lt (Nat.lt_of_lt_of_le (Heap.lt_size e) I.ok.above))).trans (I.base.keep b o e n hb hx)
    · obtain ⟨sl, e1⟩ := I.base.slot b o e n hb hx
      exact ⟨sl, (hs.2 b (Nat.ne_of_lt (Nat.lt_of_lt_of_le (Heap.lt_size e) I.ok.above))).trans e1⟩
    · obtain ⟨o', e1⟩ := I.base.there b o e hx
      exact ⟨o', (hs.2 b (Nat.ne_of_lt (Nat.lt_of_lt_of_le (Heap.lt_size e) I.ok.above))).trans e1⟩
    · by_cases hj : j = i
      · subst hj
        rw [hi] at e1; cases e1
        rw [List.getElem?_set_self hiσ] at e2
        cases e2
        exact ⟨u, r, .inl ⟨hk, by simp⟩⟩
      · rw [List.getElem?_set_ne (Ne.symm hj)] at e2
        obtain ⟨u', r', q⟩ := hl j y v' e1 e2 e3
        refine ⟨u', r', ?_⟩
        rcases q with ⟨k, e⟩ | ⟨k, c, e, z⟩
        · refine .inl ⟨k, ?_⟩
          have : y ≠ x := fun e => hj (nodup_ix hN e1 (e ▸ hi))
          simp [this, e]
        · exact .inr ⟨k, c, e, z.sameBut hs (cne y c e)⟩
    · obtain ⟨w', z⟩ := I.cell y c e
      exact ⟨w', z.sameBut hs (cne y c e)⟩
    · obtain ⟨e, n, ne, nf, d⟩ := I.pin p hp
      exact ⟨(hs.2 p.1 ne).trans e, n, ne, nf, d⟩
  · have hfn : X.fn x = true := by
      rcases hf with z | z
      · exact z
      · rw [z] at hk; cases hk
    obtain ⟨c, hc⟩ := I.ok.has x (.inl hk)
    obtain ⟨w', z⟩ := I.cell x c hc
    refine wpAny_storeName_cell I.ok.kind hk hc z (fun h' hc' hs => ?_)
    obtain ⟨oc, hoc, hocd⟩ := id z
    refine h { s with heap := h' } ⟨I.ok, I.os, I.bare, ⟨fun b o e n hb hx => ?_, fun b o e n hb hx => ?_, I.base.free, fun b o e hx => ?_, I.base.tups, I.base.frzs, I.base.tbls⟩, ⟨m, hn.sameBut hs (Ne.symm (cne x c hc)), fun j y v' e1 e2 e3 => ?_⟩, fun y c' e => ?_, I.free, I.freeC, fun p hp => ?_, tracked ⟨oc, hoc, I.freeC x c hc⟩ hs, by simpa using I.len⟩ ⟨c, hs, .inr hc⟩
    · exact (hs.2 b (Nat.ne_of_lt (Nat.lt_of_lt_of_le (Heap.lt_size e) (I.ok.cab x c hfn hc)))).trans (I.base.keep b o e n hb hx)
    · obtain ⟨sl, e1⟩ := I.base.slot b o e n hb hx
      exact ⟨sl, (hs.2 b (Nat.ne_of_lt (Nat.lt_of_lt_of_le (Heap.lt_size e) (I.ok.cab x c hfn hc)))).trans e1⟩
    · obtain ⟨o', e1⟩ := I.base.there b o e hx
      exact ⟨o', (hs.2 b (Nat.ne_of_lt (Nat.lt_of_lt_of_le (Heap.lt_size e) (I.ok.cab x c hfn hc)))).trans e1⟩
    · by_cases hj : j = i
      · subst hj
        rw [hi] at e1; cases e1
        rw [List.getElem?_set_self hiσ] at e2
        cases e2
        exact ⟨u, r, .inr ⟨.inl hk, c, hc, hc'⟩⟩
      · rw [List.getElem?_set_ne (Ne.symm hj)] at e2
        obtain ⟨u', r', q⟩ := hl j y v' e1 e2 e3
        refine ⟨u', r', ?_⟩
        rcases q with q | ⟨k, c', e, z'⟩
        · exact .inl q
        · refine .inr ⟨k, c', e, z'.sameBut hs ?_⟩
          rintro rfl
          exact hj (nodup_ix hN e1 (I.ok.inj _ _ _ e hc ▸ hi))
    · by_cases hcc : c' = c
      · subst hcc; exact ⟨_, hc'⟩
      · obtain ⟨w2, z2⟩ := I.cell y c' e
        exact ⟨w2, z2.sameBut hs hcc⟩
    · obtain ⟨e, n, ne, nf, d⟩ := I.pin p hp
      refine ⟨(hs.2 p.1 ?_).trans e, n, ne, nf, d⟩
      intro q
      rw [q, hoc] at e
      have q' : oc = p.2 := Option.some.inj e
      exact d w' (by rw [← q']; exact hocd)
theorem store_ok {M : Model} {A : Around} {E : Value → Shared → Prop} {i : Nat} {x : Str} {v : V} {u : Value} {Q : Unit → Shared → Prop} (I : Inv X pins σ H s) (hN : X.N.Nodup) (hi : X.N[i]? = some x) (hx : Loc X.env.scope x) (r : RelV v u)
    (h : ∀ s', Inv X pins (σ.set i (some v)) H s' → Q () s') (hf : X.fn x = true ∨ X.env.scope.names.lookup x = some .local := by first | exact .inl rfl | exact .inr rfl | assumption) : wpAny M A (storeName X.env x u) Q E s :=
  store_ok2 I hN hi hx r (fun s' I' _ => h s' I') hf
/-- behind a call or a block, the state as it is -/
theorem Inv.call' {s' : Shared} {ch : List Addr} (I : Inv X pins σ H s) (ho : s'.os = s.os) (u : Un (frs X.stack) ch H H' s.heap s'.heap) (hok : HOk X.prog X.w H' s'.heap) (hg : AllBare s'.gens)
    (hch : ∀ b ∈ ch, (b ∈ X.ex ∨ X.s₀.heap.objs.size ≤ b) ∧ b ≠ X.env.locals ∧ (∀ x c, X.env.cells.lookup x = some c → c ≠ b) ∧ ∀ p ∈ X.pn ++ pins, p.1 ≠ b) : Inv X pins σ H' s' := by
  obtain ⟨h', g', d', t', o'⟩ := s'
  have e : o' = s.os := ho
  subst e
  exact I.call (g' := g') (t' := t') (d' := d') u hok hg hch
end

/-! ### the judgements -/
/-- an exception: its class, its own dict's address (where it has one), the abstract heap behind it -/
abbrev XK := Value → Option Addr → Hp → Prop
abbrev St := List (Option V)
abbrev VK := V → Hp → Prop
/-- an expression's reading; a test's; an argument list's -/
abbrev TE := St → Hp → VK → Prop
abbrev TT := St → Hp → (Bool → Hp → Prop) → Prop
abbrev TA := St → Hp → (List V → Hp → Prop) → Prop
/-- what is wanted behind a statement -/
structure Ends where
  nx : St → Hp → Prop
  rt : VK
  bk : St → Hp → Prop := fun _ _ => False
  ct : St → Hp → Prop := fun _ _ => False
abbrev TS := Ends → St → Hp → Prop

def EP (X : Cx) (pins : List (Addr × Obj)) (σ : St) (Q : VK) (u : Value) (s' : Shared) : Prop := ∃ v H', Inv X pins σ H' s' ∧ RelV v u ∧ Q v H'
def TP (X : Cx) (pins : List (Addr × Obj)) (σ : St) (Q : Bool → Hp → Prop) (b : Bool) (s' : Shared) : Prop := ∃ H', Inv X pins σ H' s' ∧ Q b H'
def AP (X : Cx) (pins : List (Addr × Obj)) (σ : St) (Q : List V → Hp → Prop) (us : List Value) (s' : Shared) : Prop := ∃ vs H', Inv X pins σ H' s' ∧ Vals vs us ∧ Q vs H'
def SP (X : Cx) (pins : List (Addr × Obj)) (D : Ends) (f : Flow) (s' : Shared) : Prop :=
  match f with
  | .next => ∃ σ' H', Inv X pins σ' H' s' ∧ D.nx σ' H'
  | .brk => ∃ σ' H', Inv X pins σ' H' s' ∧ D.bk σ' H'
  | .cont => ∃ σ' H', Inv X pins σ' H' s' ∧ D.ct σ' H'
  | .ret u => ∃ v σ' H', Inv X pins σ' H' s' ∧ RelV v u ∧ D.rt v H'

def PE (X : Cx) (e : Expr) (t : TE) : Prop :=
  ∀ (pins : List (Addr × Obj)) (s : Shared) (σ : St) (H : Hp) (Q : VK), Inv X pins σ H s → t σ H Q → wpAny (model X.prog X.w) X.A (eval e X.env) (EP X pins σ Q) X.xe s
def PT (X : Cx) (e : Expr) (t : TT) : Prop :=
  ∀ (pins : List (Addr × Obj)) (s : Shared) (σ : St) (H : Hp) (Q : Bool → Hp → Prop), Inv X pins σ H s → t σ H Q → wpAny (model X.prog X.w) X.A (isTrue e X.env (eval e X.env)) (TP X pins σ Q) X.xe s
/-- a test whatever its 'whole' is (and, or) -/
def PW (X : Cx) (e : Expr) (t : TT) : Prop :=
  ∀ (whole : Sem Value) (pins : List (Addr × Obj)) (s : Shared) (σ : St) (H : Hp) (Q : Bool → Hp → Prop), Inv X pins σ H s → t σ H Q → wpAny (model X.prog X.w) X.A (isTrue e X.env whole) (TP X pins σ Q) X.xe s
theorem PW.pt {X : Cx} {e : Expr} {t : TT} (h : PW X e t) : PT X e t := h _
/-- an argument list (no star), from the left -/
def PA (X : Cx) (es : List Expr) (t : TA) : Prop :=
  ∀ (pos : Pos) (pins : List (Addr × Obj)) (s : Shared) (σ : St) (H : Hp) (Q : List V → Hp → Prop), Inv X pins σ H s → t σ H Q → wpAny (model X.prog X.w) X.A (spliced (backTo pos (starEach es X.env))) (AP X pins σ Q) X.xe s
def PS (X : Cx) (st : Stmt) (t : TS) : Prop :=
  ∀ (pins : List (Addr × Obj)) (s : Shared) (σ : St) (H : Hp) (D : Ends), Inv X pins σ H s → t D σ H → wpAny (model X.prog X.w) X.A (exec st X.env) (SP X pins D) X.xe s
def PSs (X : Cx) (st : List Stmt) (t : TS) : Prop :=
  ∀ (pins : List (Addr × Obj)) (s : Shared) (σ : St) (H : Hp) (D : Ends), Inv X pins σ H s → t D σ H → wpAny (model X.prog X.w) X.A (execs st X.env) (SP X pins D) X.xe s
/-- weaken the end -/
theorem thn {α : Type} {t : Sem α} {Q Q' : α → Shared → Prop} {M : Model} {A : Around} {E : Value → Shared → Prop} {s : Shared} (h : wpAny M A t Q E s) (hQ : ∀ a s, Q a s → Q' a s) : wpAny M A t Q' E s := wpAny_mono h hQ fun _ _ x => x
end L2

namespace L2
open PySem PySem.Spec PyProof.Rows
section
variable {X : Cx}

/-! ### names and constants -/
def tVar (i : Nat) : TE := fun σ H Q => ∃ v, σ[i]? = some (some v) ∧ Q v H
def tC (v : V) : TE := fun _ H Q => Q v H
theorem pe_var {i : Nat} {x : Str} {pos : Pos} (hN : X.N[i]? = some x) (hv : Vis X.env.scope x) (hd : (x == ("__debug__" : Str)) = false := by decide) (hcd : (x == ("__classdict__" : Str)) = false := by decide) : PE X (.Name x pos) (tVar i) := by
  intro pins s σ H Q I h
  obtain ⟨v, e, h⟩ := h
  obtain ⟨m, hn, hl⟩ := I.loc
  obtain ⟨u, r, l⟩ := hl i x v hN e hv
  have fin : EP X pins σ Q u s := ⟨v, H, I, r, h⟩
  rcases l with ⟨hk, hm⟩ | ⟨hk, c, hc, hcell⟩
  · exact wpAny_Name (wpAny_loadName_local I.ok.kind hk hn hm fin) hd
  · rcases hk with hk | hk
    · exact wpAny_Name (wpAny_loadName_cell I.ok.kind hk hc hcell fin) hd
    · exact wpAny_Name (wpAny_loadName_free I.ok.kind hk hc hcell fin hcd) hd
theorem pe_int {i j pos} : PE X (.Constant (.int i) j pos) (tC (.int i)) := fun _ _ _ H _ I h => wpAny_Constant_int ⟨.int i, H, I.tok _, ⟨_, rfl⟩, h⟩
theorem pe_bl {b j pos} : PE X (.Constant (.bool b) j pos) (tC (.bl b)) := fun _ _ _ H _ I h => Constant_bool ⟨.bl b, H, I, rfl, h⟩
theorem pe_non {j pos} : PE X (.Constant .none j pos) (tC .non) := fun _ _ _ H _ I h => Constant_none ⟨.non, H, I, rfl, h⟩
theorem pe_str {x j pos} : PE X (.Constant (.str x) j pos) (tC (.str x)) := fun _ _ _ H _ I h => Calls.Constant_str ⟨.str x, H, I.tok _, ⟨_, rfl⟩, h⟩

/-- a global name of the def -/
def Gl (X : Cx) (x : Str) : Prop := X.env.kindOf x = some .globalImplicit
theorem ld_glob {E : Value → Shared → Prop} {pins : List (Addr × Obj)} {s : Shared} {σ : St} {H : Hp} {x : Str} {u : Value} {pos : Pos} {Q : Value → Shared → Prop} (I : Inv X pins σ H s) (hg : Gl X x) (hm : X.mg x = some u) (h : Q u s)
    (hd : (x == ("__debug__" : Str)) = false := by decide) : wpAny (model X.prog X.w) X.A (eval (.Name x pos) X.env) Q E s :=
  Calls.Name_function_global I.ok.kind hg (Calls.loadGlobal_global (by rw [I.ok.glob]; exact I.mod.glob.keeps I.bk) hm h) hd
theorem ld_blt {E : Value → Shared → Prop} {pins : List (Addr × Obj)} {s : Shared} {σ : St} {H : Hp} {x : Str} {u : Value} {pos : Pos} {Q : Value → Shared → Prop} (I : Inv X pins σ H s) (hg : Gl X x) (hm : X.mg x = none) (hv : bootBuiltins x = some u) (h : Q u s)
    (hn : x ≠ "__name__" := by decide) (hd : (x == ("__debug__" : Str)) = false := by decide) : wpAny (model X.prog X.w) X.A (eval (.Name x pos) X.env) Q E s := by
  obtain ⟨mb, h1, h2⟩ := I.mod.blt
  exact Calls.Name_function_global I.ok.kind hg (Calls.loadGlobal_builtin (by rw [I.ok.glob]; exact I.mod.glob.keeps I.bk) hm (by rw [I.ok.blt]; exact h1.keeps I.bk) ((h2 x hn).trans hv) h) hd
/-- a module's constant, a class, a function, as a value -/
theorem pe_glob {x : Str} {v : V} {u : Value} {pos : Pos} (hg : Gl X x) (hm : X.mg x = some u) (r : RelV v u) (hd : (x == ("__debug__" : Str)) = false := by decide) : PE X (.Name x pos) (tC v) :=
  fun _ _ _ H _ I h => ld_glob I hg hm ⟨v, H, I, r, h⟩ hd
theorem pe_bltn {x : Str} {v : V} {u : Value} {pos : Pos} (hg : Gl X x) (hm : X.mg x = none) (hv : bootBuiltins x = some u) (r : RelV v u) (hn : x ≠ "__name__" := by decide) (hd : (x == ("__debug__" : Str)) = false := by decide) : PE X (.Name x pos) (tC v) :=
  fun _ _ _ H _ I h => ld_blt I hg hm hv ⟨v, H, I, r, h⟩ hn hd

/-! ### arithmetic -/
variable {a b : Expr} {ta tb : TE} {pos : Pos}
/-! ### comparisons -/
/-- a comparison as a value, as a test -/
def tB (t : TE) : TT := fun σ H Q => t σ H fun x H1 => ∃ c, x = .bl c ∧ Q c H1
/-- an expression whose value is a bool, as a test -/
theorem pt_val {e : Expr} {t : TE} (h : PE X e t) (he : ∀ whole, isTrue e X.env whole = (do let v ← whole; standAt e.pos; holding [v] (truthy v)) := by intro _; rfl) : PT X e (tB t) := by
  intro pins s σ H Q I hw
  refine isTrue_plain (thn (h pins s σ H _ I hw) fun v s1 ⟨x, H1, I1, r1, q1⟩ => ?_) (he _)
  obtain ⟨d, rfl, q⟩ := q1
  cases r1
  exact wpAny_truthy_bool ⟨H1, I1, q⟩

/-! ### and, or, not -/
variable {tA tB' : TT} {rest : List Expr}
def tAnd (t u : TT) : TT := fun σ H Q => t σ H fun c H1 => if c = true then u σ H1 Q else Q false H1
def tOr (t u : TT) : TT := fun σ H Q => t σ H fun c H1 => if c = true then Q true H1 else u σ H1 Q
def tNot (t : TT) : TT := fun σ H Q => t σ H fun c H1 => Q (!c) H1
theorem pw_and1 (ha : PT X a tA) : PW X (.BoolOp .And [a] pos) tA := by
  intro wh pins s σ H Q I h
  refine isTrue_and (thn (ha pins s σ H Q I h) fun c s1 e => ?_)
  cases c with
  | true => exact isTrue_and_nil e
  | false => exact e
theorem pw_or1 (ha : PT X a tA) : PW X (.BoolOp .Or [a] pos) tA := by
  intro wh pins s σ H Q I h
  refine isTrue_or (thn (ha pins s σ H Q I h) fun c s1 e => ?_)
  cases c with
  | false => exact isTrue_or_nil e
  | true => exact e
theorem pw_and (ha : PT X a tA) (hb : PW X (.BoolOp .And (b :: rest) pos) tB') : PW X (.BoolOp .And (a :: b :: rest) pos) (tAnd tA tB') := by
  intro wh pins s σ H Q I h
  refine isTrue_and (thn (ha pins s σ H _ I h) fun c s1 ⟨H1, I1, q1⟩ => ?_)
  cases c with
  | true => exact hb wh pins s1 σ H1 Q I1 q1
  | false => exact ⟨H1, I1, q1⟩
theorem pw_or (ha : PT X a tA) (hb : PW X (.BoolOp .Or (b :: rest) pos) tB') : PW X (.BoolOp .Or (a :: b :: rest) pos) (tOr tA tB') := by
  intro wh pins s σ H Q I h
  refine isTrue_or (thn (ha pins s σ H _ I h) fun c s1 ⟨H1, I1, q1⟩ => ?_)
  cases c with
  | true => exact ⟨H1, I1, q1⟩
  | false => exact hb wh pins s1 σ H1 Q I1 q1
theorem pt_not (ha : PT X a tA) : PT X (.UnaryOp .Not a pos) (tNot tA) := by
  intro pins s σ H Q I h
  exact isTrue_not (ha pins s σ H (fun c H1 => Q (!c) H1) I h)
/-- .. as values (bools) -/
def tAndV (ta tb : TE) : TE := fun σ H Q => ta σ H fun x H1 => ∃ c, x = .bl c ∧ if c = true then tb σ H1 Q else Q (.bl false) H1
def tOrV (ta tb : TE) : TE := fun σ H Q => ta σ H fun x H1 => ∃ c, x = .bl c ∧ if c = true then Q (.bl true) H1 else tb σ H1 Q
def tNotV (ta : TE) : TE := fun σ H Q => ta σ H fun x H1 => ∃ c, x = .bl c ∧ Q (.bl (!c)) H1
theorem pe_one {op} {t : TE} (h : PE X a t) : PE X (.BoolOp op [a] pos) t := fun pins s σ H Q I hw => BoolOp_one (h pins s σ H Q I hw)
theorem pe_and (ha : PE X a ta) (hb : PE X (.BoolOp .And (b :: rest) pos) tb) : PE X (.BoolOp .And (a :: b :: rest) pos) (tAndV ta tb) := by
  intro pins s σ H Q I h
  refine BoolOp_and (thn (ha pins s σ H _ I h) fun v s1 ⟨x, H1, I1, r1, q1⟩ => ?_)
  obtain ⟨c, rfl, q1⟩ := q1
  cases r1
  refine wpAny_truthy_bool ?_
  cases c with
  | true => exact hb pins s1 σ H1 Q I1 q1
  | false => exact ⟨.bl false, H1, I1, rfl, q1⟩
theorem pe_or (ha : PE X a ta) (hb : PE X (.BoolOp .Or (b :: rest) pos) tb) : PE X (.BoolOp .Or (a :: b :: rest) pos) (tOrV ta tb) := by
  intro pins s σ H Q I h
  refine BoolOp_or (thn (ha pins s σ H _ I h) fun v s1 ⟨x, H1, I1, r1, q1⟩ => ?_)
  obtain ⟨c, rfl, q1⟩ := q1
  cases r1
  refine wpAny_truthy_bool ?_
  cases c with
  | false => exact hb pins s1 σ H1 Q I1 q1
  | true => exact ⟨.bl true, H1, I1, rfl, q1⟩
theorem pe_not (ha : PE X a ta) : PE X (.UnaryOp .Not a pos) (tNotV ta) := by
  intro pins s σ H Q I h
  refine UnaryOp_ (thn (ha pins s σ H _ I h) fun v s1 ⟨x, H1, I1, r1, q1⟩ => ?_)
  obtain ⟨c, rfl, q1⟩ := q1
  cases r1
  exact not_of (wpAny_truthy_bool ⟨.bl (!c), H1, I1, rfl, q1⟩)
end
end L2

namespace L2
open PySem PySem.Spec PyProof.Rows

/-! ### a list, a tuple that is read: tracked, frozen, or an object of the module -/
def SqL (K : PySem.W.Frag) (H : Hp) (a : Addr) (xs : List V) : Prop :=
  Rd H a (.lst xs) ∨
    ∃ (o : Obj) (its : Array Value) (n : Nat), K.lookup a = some o ∧ o.cls = .type "list" ∧ o.dict = none ∧ o.data = .seq its n ∧ its.size ≤ sizeLine ∧ Vals xs its.toList
def SqT (K : PySem.W.Frag) (H : Hp) (a : Addr) (xs : List V) : Prop :=
  Rd H a (.tup xs) ∨
    ∃ (o : Obj) (its : Array Value) (n : Nat), K.lookup a = some o ∧ o.cls = .type "tuple" ∧ o.data = .seq its n ∧ its.size ≤ sizeLine ∧ Vals xs its.toList
def absV : Value → Option V
  | .none => some .non
  | .bool b => some (.bl b)
  | .int i _ => some (.int i)
  | .str x _ => some (.str x)
  | .bytes b _ => some (.byt b)
  | .float b _ => some (.flt b)
  | .ref a => some (.ref a)
  | .type n => some (.ty n)
  | _ => none
theorem RelV.abs {x : V} {u : Value} (r : RelV x u) : absV u = some x := by
  cases x with
  | non => cases r; rfl
  | bl _ => cases r; rfl
  | int _ => obtain ⟨t, rfl⟩ := r; rfl
  | str _ => obtain ⟨t, rfl⟩ := r; rfl
  | byt _ => obtain ⟨t, rfl⟩ := r; rfl
  | flt _ => obtain ⟨t, rfl⟩ := r; rfl
  | ref _ => cases r; rfl
  | ty _ => cases r; rfl
theorem RelV.inj {x y : V} {u : Value} (r : RelV x u) (q : RelV y u) : x = y := Option.some.inj (r.abs.symm.trans q.abs)
theorem Vals.inj : ∀ {xs ys : List V} {us : List Value}, Vals xs us → Vals ys us → xs = ys
  | _, _, _, .nil, .nil => rfl
  | _, _, _, .cons r t, .cons r' t' => by rw [r.inj r', Vals.inj t t']
section
variable {X : Cx} {pins : List (Addr × Obj)} {σ : St} {H : Hp} {s : Shared} {a : Addr} {xs ys : List V}
theorem SqL.of {K : PySem.W.Frag} (h : H a = some (.lst xs)) : SqL K H a xs := .inl (.inl h)
theorem SqT.of {K : PySem.W.Frag} (h : H a = some (.tup xs)) : SqT K H a xs := .inl (.inl h)
theorem Inv.list (I : Inv X pins σ H s) (h : SqL X.K H a xs) : ∃ its : List Value, Vals xs its ∧ PlainL s.heap a its.toArray ∧ xs.length ≤ sizeLine := by
  rcases h with h | ⟨o, its, n, hk, hc, hd, hs, hz, r⟩
  · obtain ⟨z, its, n, r, e⟩ := h.ok I.hok
    exact ⟨its, r, ⟨_, n, e, rfl, rfl, rfl⟩, z⟩
  · refine ⟨its.toList, r, ⟨o, n, I.kIn a o hk, hc, hd, by simpa using hs⟩, ?_⟩
    have e := r.length
    simp only [Array.length_toList] at e
    omega
theorem Inv.tuple (I : Inv X pins σ H s) (h : SqT X.K H a xs) : ∃ its : List Value, Vals xs its ∧ IsTup s.heap a its.toArray ∧ xs.length ≤ sizeLine := by
  rcases h with h | ⟨o, its, n, hk, hc, hs, hz, r⟩
  · obtain ⟨z, its, r, p⟩ := h.ok I.hok
    exact ⟨its, r, p, z⟩
  · refine ⟨its.toList, r, ⟨o, I.kIn a o hk, hc, n, by simpa using hs⟩, ?_⟩
    have e := r.length
    simp only [Array.length_toList] at e
    omega
theorem Inv.list_inj (I : Inv X pins σ H s) (h : SqL X.K H a xs) (h' : SqL X.K H a ys) : xs = ys := by
  obtain ⟨its, r, ⟨o, n, e, _, _, d⟩, _⟩ := I.list h
  obtain ⟨its', r', ⟨o', n', e', _, _, d'⟩, _⟩ := I.list h'
  rw [e] at e'; cases e'
  rw [d] at d'
  injection d' with d1 _
  have : its = its' := by simpa using congrArg Array.toList d1
  subst this
  exact r.inj r'
theorem Inv.tuple_inj (I : Inv X pins σ H s) (h : SqT X.K H a xs) (h' : SqT X.K H a ys) : xs = ys := by
  obtain ⟨its, r, ⟨o, e, _, n, d⟩, _⟩ := I.tuple h
  obtain ⟨its', r', ⟨o', e', _, n', d'⟩, _⟩ := I.tuple h'
  rw [e] at e'; cases e'
  rw [d] at d'
  injection d' with d1 _
  have : its = its' := by simpa using congrArg Array.toList d1
  subst this
  exact r.inj r'
end

/-! ### another wish about exceptions -/
abbrev Cx.wish (X : Cx) (E : Value → Shared → Prop) : Cx := { X with xe := E }
/-- no exception leaves -/
abbrev Cx.nox (X : Cx) : Cx := X.wish fun _ _ => False
theorem Cx.Ok.wish {X : Cx} (ok : X.Ok) (E : Value → Shared → Prop) : (X.wish E).Ok :=
  ⟨ok.mod, ok.kind, ok.glob, ok.blt, ok.above, ok.inj, ok.has, ok.cab, ok.hd, ok.frames, ok.stk, ok.exf, ok.bs, ok.bsz, ok.noex, ok.exfs, ok.funs, ok.frf⟩
theorem Cx.Ok.unwish {X : Cx} {E : Value → Shared → Prop} (ok : (X.wish E).Ok) : X.Ok :=
  ⟨ok.mod, ok.kind, ok.glob, ok.blt, ok.above, ok.inj, ok.has, ok.cab, ok.hd, ok.frames, ok.stk, ok.exf, ok.bs, ok.bsz, ok.noex, ok.exfs, ok.funs, ok.frf⟩
section
variable {X : Cx} {pins : List (Addr × Obj)} {σ : St} {H : Hp} {s : Shared} {E : Value → Shared → Prop}
theorem Inv.wish (I : Inv X pins σ H s) (E : Value → Shared → Prop) : Inv (X.wish E) pins σ H s := ⟨I.ok.wish E, I.os, I.bare, I.base, I.loc, I.cell, I.free, I.freeC, I.pin, I.hok, I.len⟩
theorem Inv.unwish (I : Inv (X.wish E) pins σ H s) : Inv X pins σ H s := ⟨I.ok.unwish, I.os, I.bare, I.base, I.loc, I.cell, I.free, I.freeC, I.pin, I.hok, I.len⟩
theorem SP.unwish {D : Ends} {f : Flow} {s' : Shared} (h : SP (X.wish E) pins D f s') : SP X pins D f s' := by
  cases f with
  | next => obtain ⟨σ', H', I, q⟩ := h; exact ⟨σ', H', I.unwish, q⟩
  | brk => obtain ⟨σ', H', I, q⟩ := h; exact ⟨σ', H', I.unwish, q⟩
  | cont => obtain ⟨σ', H', I, q⟩ := h; exact ⟨σ', H', I.unwish, q⟩
  | ret u => obtain ⟨v, σ', H', I, r, q⟩ := h; exact ⟨v, σ', H', I.unwish, r, q⟩
theorem PE.nox {e : Expr} {t : TE} (h : PE X.nox e t) : PE X e t := fun pins s σ H Q I hw =>
  wpAny_mono (h pins s σ H Q (I.wish _) hw) (fun _ _ ⟨v, H', I', r, q⟩ => ⟨v, H', I'.unwish, r, q⟩) fun _ _ z => False.elim z
theorem PT.nox {e : Expr} {t : TT} (h : PT X.nox e t) : PT X e t := fun pins s σ H Q I hw =>
  wpAny_mono (h pins s σ H Q (I.wish _) hw) (fun _ _ ⟨H', I', q⟩ => ⟨H', I'.unwish, q⟩) fun _ _ z => False.elim z
theorem PSs.nox {st : List Stmt} {t : TS} (h : PSs X.nox st t) : PSs X st t := fun pins s σ H D I hw =>
  wpAny_mono (h pins s σ H D (I.wish _) hw) (fun _ _ q => q.unwish) fun _ _ z => False.elim z
end

/-! ### blocks and small statements -/
section
variable {X : Cx} {st : Stmt} {rest : List Stmt} {t u : TS} {e : Expr} {te : TE} {pos : Pos}
def tNext : TS := fun D σ H => D.nx σ H
def tSeq (t u : TS) : TS := fun D σ H => t { D with nx := u D } σ H
theorem pss_nil : PSs X [] tNext := fun _ _ σ H _ I h => wpAny_execs_nil ⟨σ, H, I, h⟩
theorem pss_cons (h1 : PS X st t) (h2 : PSs X rest u) : PSs X (st :: rest) (tSeq t u) := by
  intro pins s σ H D I h
  refine wpAny_execs_cons (thn (h1 pins s σ H { D with nx := u D } I h) fun f s1 q => ?_)
  cases f with
  | next =>
    obtain ⟨σ', H', I', q⟩ := q
    exact h2 pins s1 σ' H' D I' q
  | ret v => exact q
  | brk => exact q
  | cont => exact q
theorem pss_one (h1 : PS X st t) : PSs X [st] t := by
  intro pins s σ H D I h
  refine wpAny_execs_cons (thn (h1 pins s σ H D I h) fun f s1 q => ?_)
  cases f with
  | next => exact wpAny_execs_nil q
  | ret v => exact q
  | brk => exact q
  | cont => exact q
/-- in a def's body nothing is shown -/
theorem Inv.quiet {pins : List (Addr × Obj)} {σ : St} {H : Hp} {s : Shared} (I : Inv X pins σ H s) : interactive X.env = false := by simp [interactive, I.ok.kind]
/-- an expression whose value is dropped -/
def tDrop (te : TE) : TS := fun D σ H => te σ H fun _ H1 => D.nx σ H1
theorem ps_expr (he : PE X e te) (hs : swapsWith e none pos.line X.env = pure false := by rfl) : PS X (.Expr e pos) (tDrop te) := by
  intro pins s σ H D I h
  exact wpAny_Expr_any (thn (he pins s σ H _ I h) fun v s1 ⟨x, H1, I1, r1, q1⟩ => ⟨σ, H1, I1, q1⟩) I.quiet hs
def tRet (te : TE) : TS := fun D σ H => te σ H D.rt
theorem ps_ret (he : PE X e te) : PS X (.Return (some e) pos) (tRet te) := by
  intro pins s σ H D I h
  exact wpAny_Return_some (thn (he pins s σ H _ I h) fun v s1 ⟨x, H1, I1, r1, q1⟩ => ⟨x, σ, H1, I1, r1, q1⟩)
def tIfS (c : TT) (t u : TS) : TS := fun D σ H => c σ H fun b H1 => if b = true then t D σ H1 else u D σ H1
theorem ps_if {c : Expr} {a b : List Stmt} {tc : TT} (hc : PT X c tc) (ha : PSs X a t) (hb : PSs X b u) : PS X (.If c a b pos) (tIfS tc t u) := by
  intro pins s σ H D I h
  refine wpAny_If (thn (hc pins s σ H _ I h) fun d s1 ⟨H1, I1, q1⟩ => ?_)
  cases d with
  | true => exact ha pins s1 σ H1 D I1 q1
  | false => exact hb pins s1 σ H1 D I1 q1
end

/-! ### targets -/
abbrev TG := V → St → Hp → (St → Hp → Prop) → Prop
abbrev TGs := List V → St → Hp → (St → Hp → Prop) → Prop
def PG (X : Cx) (target : Expr) (t : TG) : Prop :=
  ∀ (pins : List (Addr × Obj)) (s : Shared) (σ : St) (H : Hp) (v : V) (u : Value) (Q : St → Hp → Prop), Inv X pins σ H s → RelV v u → t v σ H Q →
    wpAny (model X.prog X.w) X.A (assign target X.env u) (fun _ s' => ∃ σ' H', Inv X pins σ' H' s' ∧ Q σ' H') X.xe s
/-- several targets, one after another -/
def PGs (X : Cx) (ts : List Expr) (t : TGs) : Prop :=
  ∀ (pins : List (Addr × Obj)) (s : Shared) (σ : St) (H : Hp) (vs : List V) (us : List Value) (Q : St → Hp → Prop), Inv X pins σ H s → Vals vs us → t vs σ H Q →
    wpAny (model X.prog X.w) X.A (assignInOrder ((assignEach ts X.env).map (·.2)) us) (fun _ s' => ∃ σ' H', Inv X pins σ' H' s' ∧ Q σ' H') X.xe s
/-- o[i] = v, by values -/
abbrev TSet := V → V → V → Hp → (Hp → Prop) → Prop
def PSet (X : Cx) (t : TSet) : Prop :=
  ∀ (pins : List (Addr × Obj)) (s : Shared) (σ : St) (H : Hp) (o i v : V) (ov iv u : Value) (Q : Hp → Prop), Inv X pins σ H s → RelV o ov → RelV i iv → RelV v u → t o i v H Q →
    wpAny (model X.prog X.w) X.A (setItem ov iv u) (fun _ s' => ∃ H', Inv X pins σ H' s' ∧ Q H') X.xe s
/-- a op= b, by values -/
abbrev TIp := V → V → Hp → VK → Prop
def PIp (X : Cx) (op : Operator) (t : TIp) : Prop :=
  ∀ (pins : List (Addr × Obj)) (s : Shared) (σ : St) (H : Hp) (x y : V) (v u : Value) (Q : VK), Inv X pins σ H s → RelV x v → RelV y u → t x y H Q →
    wpAny (model X.prog X.w) X.A (inplaceOp op v u) (EP X pins σ Q) X.xe s
section
variable {X : Cx} {pos : Pos}
def gName (i : Nat) : TG := fun v σ H Q => Q (σ.set i (some v)) H
theorem pg_name {i : Nat} {x : Str} (hN : X.N.Nodup) (hi : X.N[i]? = some x) (hx : Loc X.env.scope x) (hf : X.fn x = true ∨ X.env.scope.names.lookup x = some .local := by first | exact .inl rfl | exact .inr rfl | assumption) : PG X (.Name x pos) (gName i) := by
  intro pins s σ H v u Q I r h
  exact wpAny_assign_Name (store_ok I hN hi hx r (fun s' I' => ⟨_, H, I', h⟩) hf)
def gNil : TGs := fun vs σ H Q => vs = [] ∧ Q σ H
def gCons (t : TG) (u : TGs) : TGs := fun vs σ H Q => ∃ v r, vs = v :: r ∧ t v σ H fun σ' H' => u r σ' H' Q
theorem pgs_nil : PGs X [] gNil := by
  intro pins s σ H vs us Q I r h
  obtain ⟨e, h⟩ := h
  subst e
  cases r
  exact assignInOrder_nil ⟨σ, H, I, h⟩
theorem pgs_cons {e : Expr} {es : List Expr} {t : TG} {u : TGs} (h1 : PG X e t) (h2 : PGs X es u)
    (hs : (assignEach (e :: es) X.env).map (·.2) = assign e X.env :: (assignEach es X.env).map (·.2) := by rfl) : PGs X (e :: es) (gCons t u) := by
  intro pins s σ H vs us Q I r h
  obtain ⟨v, vr, e1, h⟩ := h
  subst e1
  cases r with
  | cons r rr =>
    rw [hs]
    refine assignInOrder_cons (thn (h1 pins s σ H _ _ _ I r h) fun _ s1 ⟨σ1, H1, I1, q1⟩ => ?_)
    exact h2 pins s1 σ1 H1 _ _ Q I1 rr q1
/-- (a, b, ..) = a tuple of that length -/
def gTup (K : PySem.W.Frag) (n : Nat) (t : TGs) : TG := fun v σ H Q => ∃ a xs, v = .ref a ∧ SqT K H a xs ∧ xs.length = n ∧ t xs σ H Q
theorem pg_tup {es : List Expr} {k : Nat} {t : TGs} {n : Nat} (hc : X.calm = true) (h : PGs X es t)
    (hn : (assignEach es X.env).length = n := by rfl) (hst : (assignEach es X.env).findIdx? (·.1) = none := by rfl) : PG X (.Tuple es k pos) (gTup X.K n t) := by
  intro pins s σ H v u Q I r hw
  obtain ⟨a, xs, e1, hq, hl, hw⟩ := hw
  subst e1
  cases r
  obtain ⟨its, rv, ht, hz⟩ := I.tuple hq
  refine assign_Tuple_tuple (I.ok.hd hc) ht (by simp [hn, ← hl, rv.length]) hst fun h' hx => ?_
  have I1 : Inv X pins σ H { s with heap := h' } := I.kept (t' := s.toks) fun b o e => hx b o (Nat.ne_of_lt (Heap.lt_size e)) e
  exact h pins _ σ H xs _ Q I1 (by simpa using rv) hw
/-- o[i] = .. -/
def gSub (to ti : TE) (t : TSet) : TG := fun v σ H Q => to σ H fun o H1 => ti σ H1 fun i H2 => t o i v H2 fun H3 => Q σ H3
theorem pg_sub {o i : Expr} {to ti : TE} {t : TSet} (ho : PE X o to) (hi : PE X i ti) (hs : PSet X t)
    (ha : ∀ v, assign (.Subscript o i pos) X.env v = (do
      let ov ← holding [v] (eval o X.env)
      let iv ← holding [v, ov] (eval i X.env)
      standAt pos
      holding [v, ov, iv] (setItem ov iv v)
      release [v, ov, iv] []) := by intro _; rfl) : PG X (.Subscript o i pos) (gSub to ti t) := by
  intro pins s σ H v u Q I r h
  rw [ha]
  refine wpAny_bind (wpAny_holding (thn (ho pins s σ H _ I h) fun ov s1 ⟨x, H1, I1, r1, q1⟩ => ?_))
  refine wpAny_bind (wpAny_holding (thn (hi pins s1 σ H1 _ I1 q1) fun iv s2 ⟨y, H2, I2, r2, q2⟩ => ?_))
  refine wpAny_bind (wpAny_standAt (wpAny_bind (wpAny_holding (thn (hs pins s2 σ H2 x y v ov iv u _ I2 r1 r2 r q2) fun _ s3 ⟨H3, I3, q3⟩ => ?_))))
  exact wpAny_release ⟨σ, H3, I3, q3⟩
/-- target = value -/
def tAsg (te : TE) (g : TG) : TS := fun D σ H => te σ H fun x H1 => g x σ H1 D.nx
theorem ps_asg {tg e : Expr} {te : TE} {g : TG} (he : PE X e te) (hg : PG X tg g) (hs : swapsWithSole [tg] e pos.line X.env = pure false := by rfl) (hw : swappedStores [tg] e X.env = pure none := by rfl)
    (h1 : (assignEach [tg] X.env).map (·.2) = [assign tg X.env] := by rfl) : PS X (.Assign [tg] e pos) (tAsg te g) := by
  intro pins s σ H D I h
  refine wpAny_Assign_stores (thn (he pins s σ H _ I h) fun v s1 ⟨x, H1, I1, r1, q1⟩ => ?_) hs hw
  rw [h1]
  exact thn (hg pins s1 σ H1 x v _ I1 r1 q1) fun _ s2 q => q
/-- name = value -/
theorem ps_set {i : Nat} {x : Str} {e : Expr} {te : TE} {pos' : Pos} (hN : X.N.Nodup) (hi : X.N[i]? = some x) (hx : Loc X.env.scope x) (he : PE X e te) (hs : swapsWith e (some (.Name x pos')) pos.line X.env = pure false := by rfl) (hf : X.fn x = true ∨ X.env.scope.names.lookup x = some .local := by first | exact .inl rfl | exact .inr rfl | assumption) :
    PS X (.Assign [.Name x pos'] e pos) (tAsg te (gName i)) := by
  intro pins s σ H D I h
  refine wpAny_Assign_Name (thn (he pins s σ H _ I h) fun v s1 ⟨y, H1, I1, r1, q1⟩ => ?_) hs
  exact store_ok I1 hN hi hx r1 (fun s2 I2 => ⟨_, H1, I2, q1⟩) hf
/-- name op= e -/
def tAug (i : Nat) (te : TE) (ti : TIp) : TS := fun D σ H => ∃ x, σ[i]? = some (some x) ∧ te σ H fun y H1 => ti x y H1 fun z H2 => D.nx (σ.set i (some z)) H2
theorem ps_aug {i : Nat} {x : Str} {e : Expr} {te : TE} {op : Operator} {ti : TIp} {pos' : Pos} (hN : X.N.Nodup) (hi : X.N[i]? = some x) (hx : Loc X.env.scope x) (he : PE X e te) (ho : PIp X op ti) (hf : X.fn x = true ∨ X.env.scope.names.lookup x = some .local := by first | exact .inl rfl | exact .inr rfl | assumption) :
    PS X (.AugAssign (.Name x pos') op e pos) (tAug i te ti) := by
  intro pins s σ H D I h
  obtain ⟨v, e1, h⟩ := h
  obtain ⟨m, hn, hl⟩ := I.loc
  have vis : Vis X.env.scope x := by rcases hx with k | k; exact .inl k; exact .inr (.inl k)
  obtain ⟨u, r, l⟩ := hl i x v hi e1 vis
  refine wpAny_AugAssign_Name ?_
  have go : wpAny (model X.prog X.w) X.A (eval e X.env) (fun w s₂ => wpAny (model X.prog X.w) X.A (inplaceOp op u w) (fun r s₃ => wpAny (model X.prog X.w) X.A (storeName X.env x r) (fun _ => SP X pins D .next) X.xe s₃) X.xe s₂) X.xe s := by
    refine thn (he pins s σ H _ I h) fun w s1 ⟨y, H1, I1, r1, q1⟩ => ?_
    refine thn (ho pins s1 σ H1 v y u w _ I1 r r1 q1) fun z s2 ⟨zv, H2, I2, r2, q2⟩ => ?_
    exact store_ok I2 hN hi hx r2 (fun s3 I3 => ⟨_, H2, I3, q2⟩) hf
  rcases l with ⟨hk, hm⟩ | ⟨hk, c, hc, hcell⟩
  · exact wpAny_loadName_local I.ok.kind hk hn hm go
  · rcases hk with hk | hk
    · exact wpAny_loadName_cell I.ok.kind hk hc hcell go
    · rcases hx with k | k
      · have : X.env.scope.names.lookup x = some .free := hk
        rw [k] at this; cases this
      · have : X.env.scope.names.lookup x = some .free := hk
        rw [k] at this; cases this
/-- ints -/
def ipI (f : Int → Int → Int) : TIp := fun x y H Q => ∃ i j, x = .int i ∧ y = .int j ∧ Q (.int (f i j)) H
theorem ip_add : PIp X .Add (ipI fun i j => i + j) := by
  intro pins s σ H x y v u Q I r1 r2 h
  obtain ⟨i, j, e1, e2, q⟩ := h
  subst e1; subst e2
  obtain ⟨t, rfl⟩ := r1
  obtain ⟨t', rfl⟩ := r2
  exact iadd_int ⟨.int _, H, I.tok _, ⟨_, rfl⟩, q⟩
end

/-! ### while -/
section
variable {X : Cx} {pos : Pos}
/-- the invariant W with its measure -/
def tWhile (c : TT) (tb : TS) : TS := fun D σ H => ∃ W : Nat → St → Hp → Prop, (∃ m, W m σ H) ∧ ∀ m σ H, W m σ H →
  c σ H fun b H1 => if b = true then ∃ N : St → Hp → Prop, (∀ σ' H', N σ' H' → ∃ m', m' < m ∧ W m' σ' H') ∧ tb { D with nx := N, ct := N, bk := D.nx } σ H1 else D.nx σ H1
theorem ps_while {c : Expr} {body : List Stmt} {tc : TT} {tb : TS} (hp : PassesOwn (model X.prog X.w) X.A X.env X.xe) (hc : PT X c tc) (hb : PSs X body tb) : PS X (.While c body [] pos) (tWhile tc tb) := by
  intro pins s σ H D I h
  obtain ⟨W, ⟨m0, w0⟩, turn⟩ := h
  refine wpAny_While (codeAny_whileLoop (fun n s' => ∃ σ' H', Inv X pins σ' H' s' ∧ W n σ' H') ?_ m0 ⟨σ, H, I, w0⟩)
  rintro n s1 ⟨σ1, H1, I1, w1⟩
  refine wpAny_passesOwn hp (thn (hc pins s1 σ1 H1 _ I1 (turn n σ1 H1 w1)) fun b s2 ⟨H2, I2, q2⟩ => ?_)
  cases b with
  | true =>
    obtain ⟨N, hN, q2⟩ := q2
    rw [if_pos rfl]
    refine wpAny_passesOwn hp (thn (hb pins s2 σ1 H2 _ I2 q2) fun f s3 q3 => ?_)
    cases f with
    | next =>
      obtain ⟨σ3, H3, I3, n3⟩ := q3
      obtain ⟨m', hm, w3⟩ := hN σ3 H3 n3
      exact ⟨m', hm, σ3, H3, I3, w3⟩
    | cont =>
      obtain ⟨σ3, H3, I3, n3⟩ := q3
      obtain ⟨m', hm, w3⟩ := hN σ3 H3 n3
      exact ⟨m', hm, σ3, H3, I3, w3⟩
    | brk => exact q3
    | ret v => exact q3
  | false =>
    rw [if_neg Bool.false_ne_true]
    exact wpAny_execs_nil ⟨σ1, H2, I2, q2⟩
end

/-! ### what a loop or a comprehension walks -/
/-- at turn i: it yields x (the heap may grow), or it stops -/
structure It where
  go : Nat → Hp → Prop
  yld : Nat → Hp → V → Hp → Prop
  stop : Nat → Hp → Prop
/-- the iterator's own objects may turn: they are not the frame's, not pinned, younger than the entry (or a comprehension's own) -/
def FpOk (X : Cx) (pins : List (Addr × Obj)) (H : Hp) (b : Addr) : Prop :=
  H b = none ∧ b ≠ X.env.locals ∧ b ∉ X.fs ∧ (b ∈ X.ex ∨ X.s₀.heap.objs.size ≤ b) ∧ (∀ x c, X.env.cells.lookup x = some c → c ≠ b) ∧ ∀ p ∈ X.pn ++ pins, p.1 ≠ b
theorem Inv.fpOk {X : Cx} {pins : List (Addr × Obj)} {σ : St} {H H' : Hp} {s : Shared} {b : Addr} (I : Inv X pins σ H s) (hb : s.heap.objs.size ≤ b) (hn : H' b = none) : FpOk X pins H' b := by
  refine ⟨hn, Nat.ne_of_gt (Nat.lt_of_lt_of_le I.lt hb), I.nofs hb, .inr (Nat.le_trans I.sz hb), fun x c e z => ?_, fun p hp z => ?_⟩
  · obtain ⟨v, q⟩ := I.cell x c e
    exact absurd (Nat.lt_of_lt_of_le q.lt (by rw [z]; exact hb)) (Nat.lt_irrefl _)
  · exact absurd (Nat.lt_of_lt_of_le (Heap.lt_size (I.pin p hp).1) (by rw [z]; exact hb)) (Nat.lt_irrefl _)
structure Turn (P : Program) (w : World) (K : PySem.W.Frag) (tg : Expr) (J : It) (fp : List Addr) (it : Addr) (tn : Nat → Heap → Prop) : Prop where
  mem : it ∈ fp
  obj : ∀ i h, tn i h → ∀ b ∈ fp, ∃ o, h.get? b = some o ∧ ∀ v, o.data ≠ .cell v
  keep : ∀ i h h', tn i h → (∀ b ∈ fp, ∀ o, h.get? b = some o → h'.get? b = some o) → tn i h'
  item : ∀ (X : Cx), X.prog = P → X.w = w → X.K = K → X.calm = true → ∀ (i : Nat) (pins : List (Addr × Obj)) (s : Shared) (σ : St) (H : Hp) (E : Value → Shared → Prop), Inv X pins σ H s → (∀ b ∈ fp, FpOk X pins H b) → tn i s.heap → J.go i H →
    wpAny (model P w) X.A (pyNext (.ref it)) (fun r s1 => ∃ u, r = some u ∧
      wpAny (model P w) X.A (letOwnedTupleGo tg (.ref it) u) (fun _ s2 => ∃ x H', Inv X pins σ H' s2 ∧ RelV x u ∧ J.yld i H x H' ∧ tn (i + 1) s2.heap ∧ ∀ b ∈ fp, H' b = none) E s1) E s
  done : ∀ (X : Cx), X.prog = P → X.w = w → X.K = K → X.calm = true → ∀ (i : Nat) (pins : List (Addr × Obj)) (s : Shared) (σ : St) (H : Hp) (E : Value → Shared → Prop), Inv X pins σ H s → (∀ b ∈ fp, FpOk X pins H b) → tn i s.heap → J.stop i H →
    wpAny (model P w) X.A (pyNext (.ref it)) (fun r s1 => r = none ∧ Inv X pins σ H s1) E s
  self : ∀ (A : Around) (i : Nat) (s : Shared) (Q : Value → Shared → Prop) (E : Value → Shared → Prop), tn i s.heap → Q (.ref it) s → wpAny (model P w) A (pyIter (.ref it)) Q E s
abbrev TI := St → Hp → (It → Hp → Prop) → Prop
/-- an iterator has come -/
def PIE (X : Cx) (pins : List (Addr × Obj)) (σ : St) (tg : Expr) (R : It → Hp → Prop) (itv : Value) (s2 : Shared) : Prop :=
  ∃ (it : Addr) (fp : List Addr) (tn : Nat → Heap → Prop) (J : It) (H' : Hp), itv = .ref it ∧ Inv X pins σ H' s2 ∧ Turn X.prog X.w X.K tg J fp it tn ∧ tn 0 s2.heap ∧ (∀ b ∈ fp, FpOk X pins H' b) ∧ R J H'
def PI (X : Cx) (tg iter : Expr) (wi : TI) : Prop :=
  ∀ (pins : List (Addr × Obj)) (s : Shared) (σ : St) (H : Hp) (R : It → Hp → Prop), Inv X pins σ H s → wi σ H R →
    wpAny (model X.prog X.w) X.A (eval iter X.env) (fun v s1 => wpAny (model X.prog X.w) X.A (pyIter v) (PIE X pins σ tg R) X.xe s1) X.xe s

/-- the step ahead of the store is nothing for an iterator that keeps no tuple -/
theorem go_of {M : Model} {A : Around} {E : Value → Shared → Prop} {s : Shared} {tg : Expr} {it : Addr} {u : Value} {o : Obj} {n : String} {vs : Array Value} {Q : Unit → Shared → Prop} (ho : s.heap.get? it = some o) (hc : o.cls = .type n) (hd : o.data = .fields vs)
    (hn : ["enumerate", "zip", "dict_itemiterator", "dict_reverseitemiterator", "odict_iterator", "itertools.zip_longest", "itertools.pairwise"].contains n = false) (hQ : Q () s) : wpAny M A (letOwnedTupleGo tg (.ref it) u) Q E s := by
  unfold letOwnedTupleGo
  cases tg <;> first
    | exact wpAny_pure hQ
    | (cases u <;> first
        | exact wpAny_pure hQ
        | (refine wpAny_bind (wpAny_load ho ?_)
           rw [hc, hd]
           show wpAny M A (if (["enumerate", "zip", "dict_itemiterator", "dict_reverseitemiterator", "odict_iterator", "itertools.zip_longest", "itertools.pairwise"].contains n && vs[0]? == some (rawInt _)) = true then _ else _) Q E s
           rw [if_neg (by intro h; rw [hn, Bool.false_and] at h; cases h)]
           exact wpAny_pure hQ))

/-- the list at a, as it stands at each turn (a loop may append to it) -/
def Itl (K : PySem.W.Frag) (a : Addr) : It :=
  ⟨fun i H => ∃ xs x, SqL K H a xs ∧ xs[i]? = some x, fun i H x H' => H' = H ∧ ∀ xs, SqL K H a xs → xs[i]? = some x, fun i H => ∃ xs, SqL K H a xs ∧ xs.length ≤ i⟩
def Itt (K : PySem.W.Frag) (a : Addr) : It :=
  ⟨fun i H => ∃ xs x, SqT K H a xs ∧ xs[i]? = some x, fun i H x H' => H' = H ∧ ∀ xs, SqT K H a xs → xs[i]? = some x, fun i H => ∃ xs, SqT K H a xs ∧ xs.length ≤ i⟩
/-- lo, lo + 1, .. (n of them) -/
def Itr (lo : Int) (n : Nat) : It := ⟨fun i _ => i < n, fun i H x H' => H' = H ∧ x = .int (lo + i), fun i _ => n ≤ i⟩
theorem turn_list {P : Program} {w : World} {K : PySem.W.Frag} {tg : Expr} (a it : Addr) : Turn P w K tg (Itl K a) [it] it (fun i h => h.IsListIter it a i) where
  mem := by simp
  obj := fun i h st b hb => by
    have e : b = it := by simpa using hb
    subst e
    obtain ⟨o, e, c, d⟩ := st
    exact ⟨o, e, fun v z => by rw [d] at z; cases z⟩
  keep := fun i h h' st k => st.at fun o e => k it (by simp) o e
  item := by
    intro X hP hw hK hc i pins s σ H E I hf st hg
    subst hP hw hK
    obtain ⟨xs, x, hq, hx⟩ := hg
    obtain ⟨its, rv, p, hz⟩ := I.list hq
    obtain ⟨u, hu, ru⟩ := rv.get hx
    obtain ⟨f0, f1, f2, f3, f4, f5⟩ := hf it (by simp)
    refine wpAny_pyNext_list_item st p.isList (x := u) (by simpa using hu) fun h' st' sb => ?_
    have I1 : Inv X pins σ H { s with heap := h' } := I.turned (t' := s.toks) (fun b o hb e => (sb.2 b hb).trans e) f0 f1 f3 f4 f5
    obtain ⟨o, e, c, d⟩ := id st'
    exact ⟨u, rfl, go_of (s := { s with heap := h' }) e c d (by decide) ⟨x, H, I1, ru, ⟨rfl, fun ys hy => by rw [I.list_inj hy hq]; exact hx⟩, st', fun b hb => (hf b hb).1⟩⟩
  done := by
    intro X hP hw hK hc i pins s σ H E I hf st hg
    subst hP hw hK
    obtain ⟨xs, hq, hx⟩ := hg
    obtain ⟨its, rv, p, hz⟩ := I.list hq
    obtain ⟨f0, f1, f2, f3, f4, f5⟩ := hf it (by simp)
    have hl := rv.length
    exact wpAny_pyNext_list_end (I.ok.hd hc) st p.isList (by simp; omega) fun h' eb => ⟨rfl, I.turned (t' := s.toks) (fun b o hb e => eb b o hb e) f0 f1 f3 f4 f5⟩
  self := fun _ _ _ _ _ st h => wpAny_pyIter_listiter st h
theorem turn_tuple {P : Program} {w : World} {K : PySem.W.Frag} {tg : Expr} (a it : Addr) : Turn P w K tg (Itt K a) [it] it (fun i h => h.IsTupleIter it a i) where
  mem := by simp
  obj := fun i h st b hb => by
    have e : b = it := by simpa using hb
    subst e
    obtain ⟨o, e, c, d⟩ := st
    exact ⟨o, e, fun v z => by rw [d] at z; cases z⟩
  keep := fun i h h' st k => st.at fun o e => k it (by simp) o e
  item := by
    intro X hP hw hK hc i pins s σ H E I hf st hg
    subst hP hw hK
    obtain ⟨xs, x, hq, hx⟩ := hg
    obtain ⟨its, rv, p, hz⟩ := I.tuple hq
    obtain ⟨u, hu, ru⟩ := rv.get hx
    obtain ⟨f0, f1, f2, f3, f4, f5⟩ := hf it (by simp)
    refine wpAny_pyNext_tuple_item st (show s.heap.IsTuple a its.toArray from p) (x := u) (by simpa using hu) fun h' st' sb => ?_
    have I1 : Inv X pins σ H { s with heap := h' } := I.turned (t' := s.toks) (fun b o hb e => (sb.2 b hb).trans e) f0 f1 f3 f4 f5
    obtain ⟨o, e, c, d⟩ := id st'
    exact ⟨u, rfl, go_of (s := { s with heap := h' }) e c d (by decide) ⟨x, H, I1, ru, ⟨rfl, fun ys hy => by rw [I.tuple_inj hy hq]; exact hx⟩, st', fun b hb => (hf b hb).1⟩⟩
  done := by
    intro X hP hw hK hc i pins s σ H E I hf st hg
    subst hP hw hK
    obtain ⟨xs, hq, hx⟩ := hg
    obtain ⟨its, rv, p, hz⟩ := I.tuple hq
    obtain ⟨f0, f1, f2, f3, f4, f5⟩ := hf it (by simp)
    have hl := rv.length
    exact wpAny_pyNext_tuple_end (I.ok.hd hc) st (show s.heap.IsTuple a its.toArray from p) (by simp; omega) fun h' eb => ⟨rfl, I.turned (t' := s.toks) (fun b o hb e => eb b o hb e) f0 f1 f3 f4 f5⟩
  self := fun _ _ _ _ _ st h => wpAny_pyIter_tupleiter st h
theorem turn_range {P : Program} {w : World} {K : PySem.W.Frag} {tg : Expr} (it : Addr) (lo : Int) (n : Nat) : Turn P w K tg (Itr lo n) [it] it (fun i h => IsRangeIter h it (lo + (i : Nat) * 1) ((n : Int) - (i : Nat)) 1) where
  mem := by simp
  obj := fun i h st b hb => by
    have e : b = it := by simpa using hb
    subst e
    exact ⟨_, st, fun v z => by
      have z' : Data.fields _ = Data.cell v := z
      cases z'⟩
  keep := fun i h h' st k => k it (by simp) _ st
  item := by
    intro X hP hw hK hc i pins s σ H E I hf st hg
    subst hP hw hK
    obtain ⟨f0, f1, f2, f3, f4, f5⟩ := hf it (by simp)
    have W := Walks.range (prog := X.prog) (w := X.w) (I.ok.hd hc) it lo 1 n
    refine W.item i s _ _ hg st fun v h' tk hv st' kk => ?_
    obtain ⟨t, rfl⟩ := hv
    have I1 : Inv X pins σ H { s with heap := h', toks := tk } := I.turned (fun b o hb e => kk b o (by simpa using hb) e) f0 f1 f3 f4 f5
    refine ⟨_, rfl, go_of (s := { s with heap := h', toks := tk }) (n := "range_iterator") st' rfl rfl (by decide) ⟨.int (lo + i), H, I1, ⟨t, ?_⟩, ⟨rfl, rfl⟩, st', fun b hb => (hf b hb).1⟩⟩
    rw [Int.mul_one]
  done := by
    intro X hP hw hK hc i pins s σ H E I hf st hg
    subst hP hw hK
    obtain ⟨f0, f1, f2, f3, f4, f5⟩ := hf it (by simp)
    exact wpAny_pyNext_range_end (I.ok.hd hc) st (by have : n ≤ i := hg; omega) fun h' eb => ⟨rfl, I.turned (t' := s.toks) (fun b o hb e => eb b o hb e) f0 f1 f3 f4 f5⟩
  self := fun _ _ _ _ _ st h => wpAny_pyIter_rangeiter st h
end L2

namespace L2
open PySem PySem.Spec PyProof.Rows
section
variable {X : Cx} {tg : Expr}
def iList (K : PySem.W.Frag) (tl : TE) : TI := fun σ H R => tl σ H fun x H1 => ∃ a, x = .ref a ∧ (∃ xs, SqL K H1 a xs) ∧ R (Itl K a) H1
def iTup (K : PySem.W.Frag) (tl : TE) : TI := fun σ H R => tl σ H fun x H1 => ∃ a, x = .ref a ∧ (∃ xs, SqT K H1 a xs) ∧ R (Itt K a) H1
theorem pi_list {l : Expr} {tl : TE} (hl : PE X l tl) : PI X tg l (iList X.K tl) := by
  intro pins s σ H R I h
  refine thn (hl pins s σ H _ I h) fun v s1 ⟨x, H1, I1, r1, q1⟩ => ?_
  obtain ⟨a, e, ⟨xs, hq⟩, q⟩ := q1
  subst e
  cases r1
  obtain ⟨its, rv, p, hz⟩ := I1.list hq
  refine wpAny_pyIter_list p.isList ?_
  refine ⟨s1.heap.objs.size, [s1.heap.objs.size], _, _, H1, rfl, I1.kept (t' := s1.toks) fun b o e => Heap.get?_push_of_some _ e, turn_list a _, ⟨_, Heap.get?_push_size _ rfl, rfl, rfl⟩, fun b hb => ?_, q⟩
  have e : b = s1.heap.objs.size := by simpa using hb
  subst e
  exact I1.fpOk (Nat.le_refl _) (I1.hok.fresh (Nat.le_refl _))
theorem pi_tup {l : Expr} {tl : TE} (hl : PE X l tl) : PI X tg l (iTup X.K tl) := by
  intro pins s σ H R I h
  refine thn (hl pins s σ H _ I h) fun v s1 ⟨x, H1, I1, r1, q1⟩ => ?_
  obtain ⟨a, e, ⟨xs, hq⟩, q⟩ := q1
  subst e
  cases r1
  obtain ⟨its, rv, p, hz⟩ := I1.tuple hq
  refine wpAny_pyIter_tuple (show s1.heap.IsTuple a its.toArray from p) ?_
  refine ⟨s1.heap.objs.size, [s1.heap.objs.size], _, _, H1, rfl, I1.kept (t' := s1.toks) fun b o e => Heap.get?_push_of_some _ e, turn_tuple a _, ⟨_, Heap.get?_push_size _ rfl, rfl, rfl⟩, fun b hb => ?_, q⟩
  have e : b = s1.heap.objs.size := by simpa using hb
  subst e
  exact I1.fpOk (Nat.le_refl _) (I1.hok.fresh (Nat.le_refl _))
/-- a range object just made, walked -/
theorem range_it {pins : List (Addr × Obj)} {σ : St} {H : Hp} {s : Shared} {R : It → Hp → Prop} {E : Value → Shared → Prop} {lo hi : Int} {t u v : Tok} {tk : Nat} (I : Inv X pins σ H s) (h1 : -(2 ^ 62) ≤ lo) (h2 : lo < 2 ^ 62) (h3 : -(2 ^ 62) ≤ hi) (h4 : hi < 2 ^ 62)
    (q : R (Itr lo (hi - lo).toNat) H) : wpAny (model X.prog X.w) X.A (pyIter (.ref s.heap.objs.size)) (PIE X pins σ tg R) E { s with heap := s.heap.push { cls := .type "range", data := .fields #[.int lo t, .int hi u, .int 1 v] }, toks := tk } := by
  refine wpAny_pyIter_range (IsRange.new ..) (small_one h1 h2 h3 h4) ?_
  have I1 : Inv X pins σ H { s with heap := s.heap.push { cls := .type "range", data := .fields #[.int lo t, .int hi u, .int 1 v] }, toks := tk } := I.kept fun b o e => Heap.get?_push_of_some _ e
  refine ⟨(s.heap.push { cls := .type "range", data := .fields #[.int lo t, .int hi u, .int 1 v] }).objs.size, [(s.heap.push { cls := .type "range", data := .fields #[.int lo t, .int hi u, .int 1 v] }).objs.size], _, _, H, rfl,
    I1.kept (t' := tk) fun b o e => Heap.get?_push_of_some _ e, turn_range _ lo (hi - lo).toNat, ?_, fun b hb => ?_, q⟩
  · have e1 : lo + ((0 : Nat) : Int) * 1 = lo := by simp
    have e2 : (((hi - lo).toNat : Nat) : Int) - ((0 : Nat) : Int) = Builtin.Range.rangeSize lo hi 1 := by rw [rangeSize_one]; split <;> omega
    show IsRangeIter _ _ (lo + ((0 : Nat) : Int) * 1) ((((hi - lo).toNat : Nat) : Int) - ((0 : Nat) : Int)) 1
    rw [e1, e2]
    exact Heap.get?_push_size _ rfl
  · have e : b = (s.heap.push { cls := .type "range", data := .fields #[.int lo t, .int hi u, .int 1 v] }).objs.size := by simpa using hb
    subst e
    exact I1.fpOk (Nat.le_refl _) (I1.hok.fresh (Nat.le_refl _))
def iRng1 (ta : TA) : TI := fun σ H R => ta σ H fun vs H1 => ∃ j : Int, vs = [.int j] ∧ -(2 ^ 62) ≤ j ∧ j < 2 ^ 62 ∧ R (Itr 0 j.toNat) H1
def iRng2 (ta : TA) : TI := fun σ H R => ta σ H fun vs H1 => ∃ i j : Int, vs = [.int i, .int j] ∧ (-(2 ^ 62) ≤ i ∧ i < 2 ^ 62 ∧ -(2 ^ 62) ≤ j ∧ j < 2 ^ 62) ∧ R (Itr i (j - i).toNat) H1
theorem pi_range1 {a : Expr} {ta : TA} {p pos : Pos} (hg : Gl X "range") (hm : X.mg "range" = none) (ha : PA X [a] ta) (hs : starEach [a] X.env = [(false, eval a X.env)] := by rfl) : PI X tg (.Call (.Name "range" p) [a] [] pos) (iRng1 ta) := by
  intro pins s σ H R I h
  refine Call_ (ld_blt I hg hm boot_range (PyProof.Rows.callWith_type1 (thn (ha pos pins s σ H _ I h) fun us s1 ⟨vs, H1, I1, r1, q1⟩ => ?_) hs rfl))
  obtain ⟨j, e, q1, q2, q⟩ := q1
  subst e
  cases r1 with
  | cons r rr =>
    cases rr
    obtain ⟨t, rfl⟩ := r
    exact call_range_1 (range_it I1 (by omega) (by omega) q1 q2 (by simpa using q))
theorem pi_range2 {a b : Expr} {ta : TA} {p pos : Pos} (hg : Gl X "range") (hm : X.mg "range" = none) (ha : PA X [a, b] ta) (hs : starEach [a, b] X.env = [(false, eval a X.env), (false, eval b X.env)] := by rfl) (hs2 : starEach [b] X.env = [(false, eval b X.env)] := by rfl) :
    PI X tg (.Call (.Name "range" p) [a, b] [] pos) (iRng2 ta) := by
  intro pins s σ H R I h
  refine Call_ (ld_blt I hg hm boot_range (PyProof.Rows.callWith_type1 (thn (ha pos pins s σ H _ I h) fun us s1 ⟨vs, H1, I1, r1, q1⟩ => ?_) (by rw [hs, hs2]) (by rw [hs2]; rfl)))
  obtain ⟨i, j, e, ⟨q1, q2, q3, q4⟩, q⟩ := q1
  subst e
  cases r1 with
  | cons r rr =>
    cases rr with
    | cons r' rr =>
      cases rr
      obtain ⟨t, rfl⟩ := r
      obtain ⟨t', rfl⟩ := r'
      exact call_range_2 (range_it I1 q1 q2 q3 q4 q)

/-! ### for -/
/-- W: the invariant by the turn and a measure; N: what the body is to reach -/
def tFor (wi : TI) (g : TG) (tb : TS) : TS := fun D σ H => wi σ H fun J H1 => ∃ W : Nat → Nat → St → Hp → Prop, (∃ m, W 0 m σ H1) ∧ ∀ i m σ H, W i m σ H →
  (J.stop i H ∧ D.nx σ H) ∨ (J.go i H ∧ ∃ N : St → Hp → Prop, (∀ σ' H', N σ' H' → ∃ m', m' < m ∧ W (i + 1) m' σ' H') ∧ ∀ x H', J.yld i H x H' → g x σ H' fun σ2 H2 => tb { D with nx := N, ct := N, bk := D.nx } σ2 H2)
/-- the records at fp as they stand -/
def pinsAt (fp : List Addr) (h : Heap) : List (Addr × Obj) := fp.filterMap fun b => (h.get? b).map fun o => (b, o)
theorem mem_pinsAt {fp : List Addr} {h : Heap} {b : Addr} {o : Obj} (hb : b ∈ fp) (e : h.get? b = some o) : (b, o) ∈ pinsAt fp h := List.mem_filterMap.mpr ⟨b, hb, by rw [e]; rfl⟩
theorem of_pinsAt {fp : List Addr} {h : Heap} {p : Addr × Obj} (hp : p ∈ pinsAt fp h) : p.1 ∈ fp ∧ h.get? p.1 = some p.2 := by
  obtain ⟨b, hb, e⟩ := List.mem_filterMap.mp hp
  cases q : h.get? b with
  | none => rw [q] at e; cases e
  | some o =>
    rw [q] at e
    have e' : (b, o) = p := Option.some.inj e
    subst e'
    exact ⟨hb, q⟩
theorem Inv.pinned {pins : List (Addr × Obj)} {σ : St} {H : Hp} {s : Shared} {fp : List Addr} (I : Inv X pins σ H s) (hf : ∀ b ∈ fp, FpOk X pins H b) (ho : ∀ b ∈ fp, ∃ o, s.heap.get? b = some o ∧ ∀ v, o.data ≠ .cell v) : Inv X (pins ++ pinsAt fp s.heap) σ H s :=
  I.pins_of fun p hp => (List.mem_append.mp hp).elim (fun z => I.pin p (List.mem_append_right _ z)) fun z => by
    obtain ⟨hb, e⟩ := of_pinsAt z
    obtain ⟨f0, f1, f2, _⟩ := hf p.1 hb
    obtain ⟨o, e', d⟩ := ho p.1 hb
    rw [e] at e'; cases e'
    exact ⟨e, f0, f1, f2, d⟩
theorem Inv.unpinned {pins pl : List (Addr × Obj)} {σ : St} {H : Hp} {s : Shared} (I : Inv X (pins ++ pl) σ H s) : Inv X pins σ H s := I.pins_of fun p hp => I.pin p (List.mem_append_right _ (List.mem_append_left _ hp))
theorem ps_for {iter : Expr} {body : List Stmt} {wi : TI} {g : TG} {tb : TS} {pos : Pos} (hp : PassesOwn (model X.prog X.w) X.A X.env X.xe) (hc : X.calm = true) (hi : PI X tg iter wi) (hg : PG X tg g) (hb : PSs X body tb)
    (hs : ∀ x, foldedSetIterable iter X.env x = pure x := by intro _; rfl) : PS X (.For tg iter body [] pos) (tFor wi g tb) := by
  intro pins s σ H D I h
  refine wpAny_For (thn (hi pins s σ H _ I h) fun v s1 h1 => thn h1 fun itv s2 h2 => ?_) hs
  obtain ⟨it, fp, tn, J, H2, e, I2, T, st2, f2, W, ⟨m0, w0⟩, turn⟩ := h2
  subst e
  -- what stays true of the iterator's objects through the loop
  have stat : ∀ {H' : Hp}, (∀ b ∈ fp, H' b = none) → ∀ b ∈ fp, FpOk X pins H' b := fun hn b hb => ⟨hn b hb, (f2 b hb).2⟩
  refine codeAny_forLoop_any (fun n s' => ∃ i σ' H', Inv X pins σ' H' s' ∧ tn i s'.heap ∧ (∀ b ∈ fp, H' b = none) ∧ W i n σ' H') ?_ m0 ⟨0, σ, H2, I2, st2, fun b hb => (f2 b hb).1, w0⟩
  rintro n s3 ⟨i, σ3, H3, I3, st3, fr3, w3⟩
  rcases turn i n σ3 H3 w3 with ⟨stop, qn⟩ | ⟨go, N, hN, step⟩
  · refine wpAny_passesOwn hp (thn (T.done X rfl rfl rfl hc i pins s3 σ3 H3 X.xe I3 (stat fr3) st3 stop) fun r s4 ⟨hr, I4⟩ => ?_)
    subst hr
    exact wpAny_execs_nil ⟨σ3, H3, I4, qn⟩
  · refine wpAny_passesOwn hp (thn (T.item X rfl rfl rfl hc i pins s3 σ3 H3 X.xe I3 (stat fr3) st3 go) fun r s4 ⟨u, hr, h4⟩ => ?_)
    subst hr
    refine wpAny_passesOwn hp (thn h4 fun _ s5 ⟨x, H5, I5, r5, y5, st5, fr5⟩ => ?_)
    have I5' := I5.pinned (stat fr5) (T.obj _ _ st5)
    refine wpAny_passesOwn hp (thn (hg _ s5 σ3 H5 x u _ I5' r5 (step x H5 y5)) fun _ s6 ⟨σ6, H6, I6, q6⟩ => ?_)
    refine wpAny_passesOwn hp (thn (hb _ s6 σ6 H6 _ I6 q6) fun f s7 q7 => ?_)
    have again : ∀ {σ7 : St} {H7 : Hp}, Inv X (pins ++ pinsAt fp s5.heap) σ7 H7 s7 → N σ7 H7 → ∃ m, m < n ∧ ∃ i σ' H', Inv X pins σ' H' s7 ∧ tn i s7.heap ∧ (∀ b ∈ fp, H' b = none) ∧ W i m σ' H' := fun {σ7 H7} I7 n7 => by
      obtain ⟨m', hm, w7⟩ := hN σ7 H7 n7
      refine ⟨m', hm, i + 1, σ7, H7, I7.unpinned, T.keep _ _ _ st5 fun b hb o e => (I7.pin (b, o) (List.mem_append_right _ (List.mem_append_right _ (mem_pinsAt hb e)))).1, fun b hb => ?_, w7⟩
      obtain ⟨o, e, d⟩ := T.obj _ _ st5 b hb
      exact (I7.pin (b, o) (List.mem_append_right _ (List.mem_append_right _ (mem_pinsAt hb e)))).2.1
    cases f with
    | next => obtain ⟨σ7, H7, I7, n7⟩ := q7; exact again I7 n7
    | cont => obtain ⟨σ7, H7, I7, n7⟩ := q7; exact again I7 n7
    | brk => obtain ⟨σ7, H7, I7, q7⟩ := q7; exact ⟨σ7, H7, I7.unpinned, q7⟩
    | ret v => obtain ⟨x7, σ7, H7, I7, r7, q7⟩ := q7; exact ⟨x7, σ7, H7, I7.unpinned, r7, q7⟩
end

/-! ### the forms one uses -/
theorem for_range {lo : Int} {n : Nat} {g : TG} {tb : TS} {D : Ends} {σ : St} {H : Hp} (Pv : Nat → St → Hp → Prop) (h0 : Pv 0 σ H)
    (hs : ∀ i σ H, i < n → Pv i σ H → g (.int (lo + i)) σ H fun σ2 H2 => tb { D with nx := Pv (i + 1), ct := Pv (i + 1), bk := D.nx } σ2 H2) (hd : ∀ σ H, Pv n σ H → D.nx σ H) :
    ∃ W : Nat → Nat → St → Hp → Prop, (∃ m, W 0 m σ H) ∧ ∀ i m σ H, W i m σ H →
      ((Itr lo n).stop i H ∧ D.nx σ H) ∨ ((Itr lo n).go i H ∧ ∃ N : St → Hp → Prop, (∀ σ' H', N σ' H' → ∃ m', m' < m ∧ W (i + 1) m' σ' H') ∧ ∀ x H', (Itr lo n).yld i H x H' → g x σ H' fun σ2 H2 => tb { D with nx := N, ct := N, bk := D.nx } σ2 H2) := by
  refine ⟨fun i m σ H => m = n - i ∧ i ≤ n ∧ Pv i σ H, ⟨n, by simp, Nat.zero_le _, h0⟩, ?_⟩
  rintro i m σ H ⟨rfl, hi, p⟩
  by_cases hlt : i < n
  · refine .inr ⟨hlt, Pv (i + 1), fun σ' H' p' => ⟨n - (i + 1), by omega, rfl, hlt, p'⟩, fun x H' y => ?_⟩
    obtain ⟨e, y⟩ := y
    subst e y
    exact hs i σ _ hlt p
  · have e : i = n := by omega
    subst e
    exact .inl ⟨Nat.le_refl _, hd σ H p⟩
end L2

namespace L2
open PySem PySem.Spec PyProof.Rows

abbrev R2 := V → V → Hp → VK → Prop
/-- a two-place operation on values: f is binaryOp op, inplaceOp op or compareOp op -/
def OpR (X : Cx) (f : Value → Value → Sem Value) (r : R2) : Prop :=
  ∀ (pins : List (Addr × Obj)) (s : Shared) (σ : St) (H : Hp) (x y : V) (v u : Value) (Q : VK), Inv X pins σ H s → RelV x v → RelV y u → r x y H Q →
    wpAny (model X.prog X.w) X.A (f v u) (EP X pins σ Q) X.xe s
/-- a one-place operation -/
def UnR (X : Cx) (f : Value → Sem Value) (r : V → Hp → VK → Prop) : Prop :=
  ∀ (pins : List (Addr × Obj)) (s : Shared) (σ : St) (H : Hp) (x : V) (v : Value) (Q : VK), Inv X pins σ H s → RelV x v → r x H Q →
    wpAny (model X.prog X.w) X.A (f v) (EP X pins σ Q) X.xe s
/-- a call of a value that is known (a builtin, a type) with values -/
def CallR (X : Cx) (f : Value) (r : List V → Hp → VK → Prop) : Prop :=
  ∀ (pins : List (Addr × Obj)) (s : Shared) (σ : St) (H : Hp) (xs : List V) (us : List Value) (Q : VK), Inv X pins σ H s → Vals xs us → r xs H Q →
    wpAny (model X.prog X.w) X.A (call f us) (EP X pins σ Q) X.xe s
def tOp (r : R2) (ta tb : TE) : TE := fun σ H Q => ta σ H fun x H1 => tb σ H1 fun y H2 => r x y H2 Q
def tUn (r : V → Hp → VK → Prop) (ta : TE) : TE := fun σ H Q => ta σ H fun x H1 => r x H1 Q
/-- ints in, under C, and a value out -/
def rI (C : Int → Int → Prop) (g : Int → Int → V) : R2 := fun x y H Q => ∃ i j, x = .int i ∧ y = .int j ∧ C i j ∧ Q (g i j) H
def rI0 (g : Int → Int → V) : R2 := fun x y H Q => ∃ i j, x = .int i ∧ y = .int j ∧ Q (g i j) H
def rU (g : Int → V) : V → Hp → VK → Prop := fun x H Q => ∃ i, x = .int i ∧ Q (g i) H

section
variable {X : Cx} {a b c : Expr} {ta tb tc : TE} {pos : Pos}

theorem binT (ha : PE X a ta) (hb : PE X b tb) {pins : List (Addr × Obj)} {s : Shared} {σ : St} {H : Hp} {R : V → V → Hp → Prop} (I : Inv X pins σ H s)
    (h : ta σ H fun x H1 => tb σ H1 fun y H2 => R x y H2) {Q : Value → Shared → Prop} {f : Value → Value → Sem Value}
    (hf : ∀ v u s2 x y H2, Inv X pins σ H2 s2 → RelV x v → RelV y u → R x y H2 → wpAny (model X.prog X.w) X.A (f v u) Q X.xe s2) :
    wpAny (model X.prog X.w) X.A (eval a X.env) (fun v s₁ => wpAny (model X.prog X.w) X.A (eval b X.env) (fun u s₂ => wpAny (model X.prog X.w) X.A (f v u) Q X.xe s₂) X.xe s₁) X.xe s := by
  refine thn (ha pins s σ H _ I h) fun v s1 ⟨x, H1, I1, r1, q1⟩ => ?_
  refine thn (hb pins s1 σ H1 _ I1 q1) fun u s2 ⟨y, H2, I2, r2, q2⟩ => ?_
  exact hf v u s2 x y H2 I2 r1 r2 q2

theorem pe_op {op : Operator} {r : R2} (ho : OpR X (binaryOp op) r) (ha : PE X a ta) (hb : PE X b tb) : PE X (.BinOp a op b pos) (tOp r ta tb) := by
  intro pins s σ H Q I h
  exact wpAny_BinOp (binT ha hb I h fun v u s2 x y H2 I2 rx ry q => ho pins s2 σ H2 x y v u Q I2 rx ry q)
theorem pe_un {op : UnaryOp} {r : V → Hp → VK → Prop} (ho : UnR X (unaryOp op) r) (ha : PE X a ta) : PE X (.UnaryOp op a pos) (tUn r ta) := by
  intro pins s σ H Q I h
  exact UnaryOp_ (thn (ha pins s σ H _ I h) fun v s1 ⟨x, H1, I1, r1, q1⟩ => ho pins s1 σ H1 x v Q I1 r1 q1)
/-! ### ints -/
theorem opI {f : Value → Value → Sem Value} {C : Int → Int → Prop} {g : Int → Int → Int}
    (rule : ∀ (i j : Int) (t u : Tok) (s : Shared) (Q : Value → Shared → Prop) (E : Value → Shared → Prop), C i j → Q (.int (g i j) s.toks) { s with toks := s.toks + 1 } → wpAny (model X.prog X.w) X.A (f (.int i t) (.int j u)) Q E s) :
    OpR X f (rI C fun i j => .int (g i j)) := by
  intro pins s σ H x y v u Q I rx ry h
  obtain ⟨i, j, rfl, rfl, hc, q⟩ := h
  obtain ⟨t, rfl⟩ := rx
  obtain ⟨t', rfl⟩ := ry
  exact rule i j t t' s _ _ hc ⟨.int (g i j), H, I.tok _, ⟨_, rfl⟩, q⟩
theorem opI0 {f : Value → Value → Sem Value} {g : Int → Int → Int}
    (rule : ∀ (i j : Int) (t u : Tok) (s : Shared) (Q : Value → Shared → Prop) (E : Value → Shared → Prop), Q (.int (g i j) s.toks) { s with toks := s.toks + 1 } → wpAny (model X.prog X.w) X.A (f (.int i t) (.int j u)) Q E s) :
    OpR X f (rI0 fun i j => .int (g i j)) := by
  intro pins s σ H x y v u Q I rx ry h
  obtain ⟨i, j, rfl, rfl, q⟩ := h
  obtain ⟨t, rfl⟩ := rx
  obtain ⟨t', rfl⟩ := ry
  exact rule i j t t' s _ _ ⟨.int (g i j), H, I.tok _, ⟨_, rfl⟩, q⟩
theorem opB0 {f : Value → Value → Sem Value} {g : Int → Int → Bool}
    (rule : ∀ (i j : Int) (t u : Tok) (s : Shared) (Q : Value → Shared → Prop) (E : Value → Shared → Prop), Q (.bool (g i j)) s → wpAny (model X.prog X.w) X.A (f (.int i t) (.int j u)) Q E s) :
    OpR X f (rI0 fun i j => .bl (g i j)) := by
  intro pins s σ H x y v u Q I rx ry h
  obtain ⟨i, j, rfl, rfl, q⟩ := h
  obtain ⟨t, rfl⟩ := rx
  obtain ⟨t', rfl⟩ := ry
  exact rule i j t t' s _ _ ⟨.bl (g i j), H, I, rfl, q⟩

def CDiv (i j : Int) : Prop := 0 < j ∧ j < 1073741824
def CPow (i j : Int) : Prop := 0 ≤ j ∧ j ≤ 1000000 ∧ i.natAbs < 2 ^ 64
def CMul (i j : Int) : Prop := (-(2 ^ 64) < i ∧ i < 2 ^ 64) ∨ (-(2 ^ 64) < j ∧ j < 2 ^ 64)
theorem CMul.ok {i j : Int} (h : CMul i j) : IntMulOk i j := by
  rcases h with ⟨h1, h2⟩ | ⟨h1, h2⟩
  · exact .of_left (intBits_le_64 h1 h2)
  · exact .of_right (intBits_le_64 h1 h2)
theorem op_add : OpR X (binaryOp .Add) (rI0 fun i j => .int (i + j)) := opI0 fun _ _ _ _ _ _ _ q => add_int q
theorem op_sub : OpR X (binaryOp .Sub) (rI0 fun i j => .int (i - j)) := opI0 fun _ _ _ _ _ _ _ q => sub_int q
theorem op_mul : OpR X (binaryOp .Mult) (rI CMul fun i j => .int (i * j)) := opI fun _ _ _ _ _ _ _ hc q => mul_int q hc.ok
/-- // by a positive divisor -/
theorem op_fdiv : OpR X (binaryOp .FloorDiv) (rI CDiv fun i j => .int (i / j)) := opI fun i j _ _ _ _ _ hc q => by
  have h1 : (0 : Int) < j := hc.1
  have h2 : j < 1073741824 := hc.2
  exact floordiv_int (by omega) (by rw [Int.fdiv_eq_ediv_of_nonneg i (by omega)]; exact q) (.inl (PyProof.noPylong_small (by omega)))
/-- % by a positive divisor of any size -/
theorem op_mod : OpR X (binaryOp .Mod) (rI (fun _ j => 0 < j) fun i j => .int (i % j)) := opI fun i j _ _ _ _ _ hc q => by
  have h1 : (0 : Int) < j := hc
  exact mod_int' (by omega) (by rw [Int.fmod_eq_emod_of_nonneg i (by omega)]; exact q)
theorem op_pow : OpR X (binaryOp .Pow) (rI CPow fun i j => .int (i ^ j.toNat)) := opI fun _ _ _ _ _ _ _ hc q => pow_int_small hc.1 hc.2.1 hc.2.2 q
theorem unI {f : Value → Sem Value} {g : Int → Int}
    (rule : ∀ (i : Int) (t : Tok) (s : Shared) (Q : Value → Shared → Prop) (E : Value → Shared → Prop), Q (.int (g i) s.toks) { s with toks := s.toks + 1 } → wpAny (model X.prog X.w) X.A (f (.int i t)) Q E s) :
    UnR X f (rU fun i => .int (g i)) := by
  intro pins s σ H x v Q I rx h
  obtain ⟨i, rfl, q⟩ := h
  obtain ⟨t, rfl⟩ := rx
  exact rule i t s _ _ ⟨.int (g i), H, I.tok _, ⟨_, rfl⟩, q⟩
theorem un_neg : UnR X (unaryOp .USub) (rU fun i => .int (-i)) := unI fun _ _ _ _ _ q => neg_int q
/-! ### bools among ints: n += (a < b) -/
end

/-! ### comparisons -/
/-- the scalars that == tells apart as data does -/
def scal : V → V → Bool
  | .non, .non => true | .non, .int _ => true | .int _, .non => true | .non, .bl _ => true | .bl _, .non => true | .non, .str _ => true | .str _, .non => true
  | .int _, .int _ => true | .bl _, .bl _ => true | .str _, .str _ => true | .byt _, .byt _ => true
  | .int _, .str _ => true | .str _, .int _ => true | .bl _, .str _ => true | .str _, .bl _ => true
  | _, _ => false
def rEq : R2 := fun x y H Q => scal x y = true ∧ Q (.bl (decide (x = y))) H
def rNe : R2 := fun x y H Q => scal x y = true ∧ Q (.bl (!decide (x = y))) H

theorem dec_int {i j : Int} : decide (V.int i = V.int j) = (i == j) := by
  rw [Bool.eq_iff_iff]
  simp
theorem dec_bl {i j : Bool} : decide (V.bl i = V.bl j) = (i == j) := by
  rw [Bool.eq_iff_iff]
  simp
theorem dec_str {i j : Str} : decide (V.str i = V.str j) = (i == j) := by
  rw [Bool.eq_iff_iff]
  simp
theorem dec_byt {i j : Array UInt8} : decide (V.byt i = V.byt j) = (i.toList == j.toList) := by
  rw [Bool.eq_iff_iff]
  cases i
  cases j
  simp

section
variable {X : Cx} {a b c : Expr} {ta tb tc : TE} {pos : Pos}
theorem fin_bl {pins : List (Addr × Obj)} {σ : St} {H : Hp} {s : Shared} {Q : VK} {k k' : Bool} (I : Inv X pins σ H s) (q : Q (.bl k) H) (e : k = k') : EP X pins σ Q (.bool k') s := by
  subst e
  exact ⟨.bl k, H, I, rfl, q⟩
theorem op_eq : OpR X (compareOp .Eq) rEq := by
  intro pins s σ H x y v u Q I rx ry h
  obtain ⟨hs, q⟩ := h
  cases x with
  | non =>
    cases rx
    cases y with
    | non => cases ry; exact PySem.EqNone.eq_none_none (fin_bl I q (by simp))
    | bl j => cases ry; exact PySem.EqNone.eq_none_bool (fin_bl I q (by simp))
    | int j => obtain ⟨t', rfl⟩ := ry; exact PySem.EqNone.eq_none_int (fin_bl I q (by simp))
    | str j => obtain ⟨t', rfl⟩ := ry; exact PySem.EqNone.eq_none_str (fin_bl I q (by simp))
    | _ => exact absurd (show false = true from hs) Bool.false_ne_true
  | bl i =>
    cases rx
    cases y with
    | non => cases ry; exact PySem.EqNone.eq_bool_none (fin_bl I q (by simp))
    | bl j => cases ry; exact eq_bool (fin_bl I q dec_bl)
    | str j => obtain ⟨t', rfl⟩ := ry; exact PySem.EqMixed.eq_bool_str (fin_bl I q (by simp))
    | _ => exact absurd (show false = true from hs) Bool.false_ne_true
  | int i =>
    obtain ⟨t, rfl⟩ := rx
    cases y with
    | non => cases ry; exact PySem.EqNone.eq_int_none (fin_bl I q (by simp))
    | int j => obtain ⟨t', rfl⟩ := ry; exact eq_int (fin_bl I q dec_int)
    | str j => obtain ⟨t', rfl⟩ := ry; exact PySem.EqMixed.eq_int_str (fin_bl I q (by simp))
    | _ => exact absurd (show false = true from hs) Bool.false_ne_true
  | str i =>
    obtain ⟨t, rfl⟩ := rx
    cases y with
    | non => cases ry; exact PySem.EqNone.eq_str_none (fin_bl I q (by simp))
    | bl j => cases ry; exact PySem.EqMixed.eq_str_bool (fin_bl I q (by simp))
    | int j => obtain ⟨t', rfl⟩ := ry; exact PySem.EqMixed.eq_str_int (fin_bl I q (by simp))
    | str j => obtain ⟨t', rfl⟩ := ry; exact eq_str (fin_bl I q dec_str)
    | _ => exact absurd (show false = true from hs) Bool.false_ne_true
  | byt i =>
    obtain ⟨t, rfl⟩ := rx
    cases y with
    | byt j => obtain ⟨t', rfl⟩ := ry; exact PySem.W.eq_bytes (fin_bl I q dec_byt)
    | _ => exact absurd (show false = true from hs) Bool.false_ne_true
  | _ => cases y <;> exact absurd (show false = true from hs) Bool.false_ne_true
theorem op_ne : OpR X (compareOp .NotEq) rNe := by
  intro pins s σ H x y v u Q I rx ry h
  obtain ⟨hs, q⟩ := h
  cases x with
  | non =>
    cases rx
    cases y with
    | non => cases ry; exact PySem.EqNone.ne_none_none (fin_bl I q (by simp))
    | bl j => cases ry; exact PySem.EqNone.ne_none_bool (fin_bl I q (by simp))
    | int j => obtain ⟨t', rfl⟩ := ry; exact PySem.EqNone.ne_none_int (fin_bl I q (by simp))
    | str j => obtain ⟨t', rfl⟩ := ry; exact PySem.EqNone.ne_none_str (fin_bl I q (by simp))
    | _ => exact absurd (show false = true from hs) Bool.false_ne_true
  | bl i =>
    cases rx
    cases y with
    | non => cases ry; exact PySem.EqNone.ne_bool_none (fin_bl I q (by simp))
    | bl j => cases ry; exact ne_bool (fin_bl I q (congrArg not dec_bl))
    | str j => obtain ⟨t', rfl⟩ := ry; exact PySem.EqMixed.ne_bool_str (fin_bl I q (by simp))
    | _ => exact absurd (show false = true from hs) Bool.false_ne_true
  | int i =>
    obtain ⟨t, rfl⟩ := rx
    cases y with
    | non => cases ry; exact PySem.EqNone.ne_int_none (fin_bl I q (by simp))
    | int j => obtain ⟨t', rfl⟩ := ry; exact ne_int (fin_bl I q (congrArg not dec_int))
    | str j => obtain ⟨t', rfl⟩ := ry; exact PySem.EqMixed.ne_int_str (fin_bl I q (by simp))
    | _ => exact absurd (show false = true from hs) Bool.false_ne_true
  | str i =>
    obtain ⟨t, rfl⟩ := rx
    cases y with
    | non => cases ry; exact PySem.EqNone.ne_str_none (fin_bl I q (by simp))
    | bl j => cases ry; exact PySem.EqMixed.ne_str_bool (fin_bl I q (by simp))
    | int j => obtain ⟨t', rfl⟩ := ry; exact PySem.EqMixed.ne_str_int (fin_bl I q (by simp))
    | str j => obtain ⟨t', rfl⟩ := ry; exact ne_str (fin_bl I q (congrArg not dec_str))
    | _ => exact absurd (show false = true from hs) Bool.false_ne_true
  | byt i =>
    obtain ⟨t, rfl⟩ := rx
    cases y with
    | byt j => obtain ⟨t', rfl⟩ := ry; exact PySem.W.ne_bytes (fin_bl I q (congrArg not dec_byt))
    | _ => exact absurd (show false = true from hs) Bool.false_ne_true
  | _ => cases y <;> exact absurd (show false = true from hs) Bool.false_ne_true

theorem op_lt : OpR X (compareOp .Lt) (rI0 fun i j => .bl (decide (i < j))) := opB0 fun _ _ _ _ _ _ _ q => lt_int q
theorem op_gt : OpR X (compareOp .Gt) (rI0 fun i j => .bl (decide (j < i))) := opB0 fun _ _ _ _ _ _ _ q => gt_int q
theorem op_ge : OpR X (compareOp .GtE) (rI0 fun i j => .bl (decide (j ≤ i))) := opB0 fun _ _ _ _ _ _ _ q => ge_int q
theorem op_lt_str : OpR X (compareOp .Lt) (fun x y H Q => ∃ i j, x = .str i ∧ y = .str j ∧ Q (.bl (decide (i.cps.toList < j.cps.toList))) H) := by
  intro pins s σ H x y v u Q I rx ry h
  obtain ⟨i, j, rfl, rfl, q⟩ := h
  obtain ⟨t, rfl⟩ := rx
  obtain ⟨t', rfl⟩ := ry
  exact lt_str (fin_bl I q rfl)
/-- the one string within the other -/
theorem op_in_str : OpR X (compareOp .In) (fun x y H Q => ∃ i j, x = .str i ∧ y = .str j ∧ Q (.bl (!(Builtin.Str.occurrences j i 0 j.length 1).isEmpty)) H) := by
  intro pins s σ H x y v u Q I rx ry h
  obtain ⟨i, j, rfl, rfl, q⟩ := h
  obtain ⟨t, rfl⟩ := rx
  obtain ⟨t', rfl⟩ := ry
  exact in_str (fin_bl I q rfl)

/-- is None, is not None: the right side a value none -/
theorem op_isN : OpR X (compareOp .Is) (fun x y H Q => y = .non ∧ Q (.bl (decide (x = .non))) H) := by
  intro pins s σ H x y v u Q I rx ry h
  obtain ⟨rfl, q⟩ := h
  cases ry
  refine is_none_gen (fin_bl I q ?_)
  cases x <;> first
    | (cases rx; rfl)
    | (obtain ⟨t, rfl⟩ := rx; rfl)
/-- two rules for one operation: by cases -/
theorem OpR.or {f : Value → Value → Sem Value} {r r' : R2} (h : OpR X f r) (h' : OpR X f r') : OpR X f (fun x y H Q => r x y H Q ∨ r' x y H Q) := by
  intro pins s σ H x y v u Q I rx ry q
  rcases q with q | q
  · exact h pins s σ H x y v u Q I rx ry q
  · exact h' pins s σ H x y v u Q I rx ry q

theorem nomark (b : Expr) {op : CmpOp} (h : op ≠ .In := by decide) (h2 : op ≠ .NotIn := by decide) : behindInMarks op b = false := by
  have e1 : (op == CmpOp.In) = false := by cases op <;> first | rfl | exact absurd rfl h
  have e2 : (op == CmpOp.NotIn) = false := by cases op <;> first | rfl | exact absurd rfl h2
  cases b <;> simp [behindInMarks, e1, e2]
/-- a comparison as a value; hm: nomark b, or (for in, not in) by with_unfolding_all rfl -/
theorem pe_cmpR {op : CmpOp} {r : R2} (ho : OpR X (compareOp op) r) (ha : PE X a ta) (hb : PE X b tb) (hm : behindInMarks op b = false) : PE X (.Compare a [op] [b] pos) (tOp r ta tb) := by
  intro pins s σ H Q I h
  exact wpAny_Compare1 (binT ha hb I h fun v u s2 x y H2 I2 rx ry q => ho pins s2 σ H2 x y v u Q I2 rx ry q) hm
/-- a reading of a value as a test -/
def tTest (t : TE) : TT := fun σ H Q => t σ H fun x H' => ∃ k, x = .bl k ∧ Q k H'
theorem pt_cmpR {op : CmpOp} {r : R2} (ho : OpR X (compareOp op) r) (ha : PE X a ta) (hb : PE X b tb) (hm : behindInMarks op b = false) : PT X (.Compare a [op] [b] pos) (tTest (tOp r ta tb)) := by
  intro pins s σ H Q I h
  refine wpAny_isTrue_Compare1 (thn (ha pins s σ H _ I h) fun v s1 ⟨x, H1, I1, r1, q1⟩ => thn (hb pins s1 σ H1 _ I1 q1) fun u s2 ⟨y, H2, I2, r2, q2⟩ =>
    thn (ho pins s2 σ H2 x y v u _ I2 r1 r2 q2) fun c s3 ⟨z, H3, I3, r3, k, e, q3⟩ => ?_) hm
  subst e
  cases r3
  exact wpAny_truthy_bool ⟨H3, I3, q3⟩
/-- a op1 b op2 c -/
def tChain (r r' : R2) (ta tb tc : TE) : TE := fun σ H Q => ta σ H fun x H1 => tb σ H1 fun y H2 => r x y H2 fun z H3 => ∃ k, z = .bl k ∧
  (if k = true then tc σ H3 fun w' H4 => r' y w' H4 Q else Q (.bl false) H3)
theorem pe_chain {op op' : CmpOp} {r r' : R2} (ho : OpR X (compareOp op) r) (ho' : OpR X (compareOp op') r') (ha : PE X a ta) (hb : PE X b tb) (hc : PE X c tc)
    (hm : lastMarks [op, op'] [b, c] = false := by with_unfolding_all rfl) : PE X (.Compare a [op, op'] [b, c] pos) (tChain r r' ta tb tc) := by
  intro pins s σ H Q I h
  refine Compare_chain (thn (ha pins s σ H _ I h) fun v s1 ⟨x, H1, I1, r1, q1⟩ => chain_link (thn (hb pins s1 σ H1 _ I1 q1) fun u s2 ⟨y, H2, I2, r2, q2⟩ =>
    thn (ho pins s2 σ H2 x y v u _ I2 r1 r2 q2) fun d s3 ⟨z, H3, I3, r3, k, e, q3⟩ => ?_)) hm
  subst e
  cases r3
  refine wpAny_truthy_bool ?_
  cases k with
  | false => exact ite_ff ⟨.bl false, H3, I3, rfl, q3⟩
  | true => exact ite_tt (chain_last (thn (hc pins s3 σ H3 _ I3 q3) fun w' s4 ⟨z', H4, I4, r4, q4⟩ => ho' pins s4 σ H4 y z' u w' Q I4 r2 r4 q4))
/-! ### truth -/
theorem line63 : (sizeLine : Nat) < 2 ^ 63 := by rw [sizeLine_eq]; decide
/-! ### strs and bytes -/
theorem op_add_str : OpR X (binaryOp .Add) (fun x y H Q => ∃ i j, x = .str i ∧ y = .str j ∧ i.length + j.length ≤ sizeLine ∧ Q (.str (i ++ j)) H) := by
  intro pins s σ H x y v u Q I rx ry h
  obtain ⟨i, j, rfl, rfl, hz, q⟩ := h
  obtain ⟨t, rfl⟩ := rx
  obtain ⟨t', rfl⟩ := ry
  exact add_str (fun t' tk => ⟨.str (i ++ j), H, I.tok _, ⟨_, rfl⟩, q⟩) hz
/-! ### scalar builtins, by CallR -/
theorem vals1 {x : V} {us : List Value} (r : Vals [x] us) : ∃ u, us = [u] ∧ RelV x u := by
  cases r with
  | cons r1 r2 => cases r2; exact ⟨_, rfl, r1⟩
theorem vals2 {x y : V} {us : List Value} (r : Vals [x, y] us) : ∃ u w', us = [u, w'] ∧ RelV x u ∧ RelV y w' := by
  cases r with
  | cons r1 r2 =>
    cases r2 with
    | cons r3 r4 => cases r4; exact ⟨_, _, rfl, r1, r3⟩
theorem call_abs : CallR X (.builtin "abs") (fun xs H Q => ∃ i, xs = [.int i] ∧ Q (.int (if i < 0 then -i else i)) H) := by
  intro pins s σ H xs us Q I r h
  obtain ⟨i, rfl, q⟩ := h
  obtain ⟨u, rfl, t, rfl⟩ := vals1 r
  exact call_abs_int fun u tk => ⟨.int (if i < 0 then -i else i), H, I.tok _, ⟨_, rfl⟩, q⟩
theorem call_max2 (hc : X.calm = true) : CallR X (.builtin "max") (fun xs H Q => ∃ i j, xs = [.int i, .int j] ∧ Q (.int (if j > i then j else i)) H) := by
  intro pins s σ H xs us Q I r h
  obtain ⟨i, j, rfl, q⟩ := h
  obtain ⟨u, w', rfl, ⟨t, rfl⟩, ⟨t', rfl⟩⟩ := vals2 r
  refine max_two_ints (I.ok.hd hc) fun h' tk k => ⟨_, H, I.kept k, ?_, q⟩
  by_cases hj : j > i
  · rw [if_pos hj, if_pos hj]; exact ⟨_, rfl⟩
  · rw [if_neg hj, if_neg hj]; exact ⟨_, rfl⟩
theorem call_min2 (hc : X.calm = true) : CallR X (.builtin "min") (fun xs H Q => ∃ i j, xs = [.int i, .int j] ∧ Q (.int (if j < i then j else i)) H) := by
  intro pins s σ H xs us Q I r h
  obtain ⟨i, j, rfl, q⟩ := h
  obtain ⟨u, w', rfl, ⟨t, rfl⟩, ⟨t', rfl⟩⟩ := vals2 r
  refine min_two_ints (I.ok.hd hc) fun h' tk k => ⟨_, H, I.kept k, ?_, q⟩
  by_cases hj : j < i
  · rw [if_pos hj, if_pos hj]; exact ⟨_, rfl⟩
  · rw [if_neg hj, if_neg hj]; exact ⟨_, rfl⟩
theorem call_int1 : CallR X (.type "int") (fun xs H Q => (∃ i, xs = [.int i] ∧ Q (.int i) H) ∨ ∃ k, xs = [.bl k] ∧ Q (.int (if k then 1 else 0)) H) := by
  intro pins s σ H xs us Q I r h
  rcases h with ⟨i, rfl, q⟩ | ⟨k, rfl, q⟩
  · obtain ⟨u, rfl, t, rfl⟩ := vals1 r
    exact call_int_int ⟨.int i, H, I, ⟨_, rfl⟩, q⟩
  · obtain ⟨u, rfl, r1⟩ := vals1 r
    cases r1
    exact call_int_bool ⟨.int (if k then 1 else 0), H, I.tok _, ⟨_, rfl⟩, q⟩
theorem call_str_int : CallR X (.type "str") (fun xs H Q => ∃ i, xs = [.int i] ∧ i.natAbs.log2 < 1920 ∧ Q (.str (toString i)) H) := by
  intro pins s σ H xs us Q I r h
  obtain ⟨i, rfl, hz, q⟩ := h
  obtain ⟨u, rfl, t, rfl⟩ := vals1 r
  exact PySem.P.str_of_int hz ⟨.str _, H, I.tok _, ⟨_, rfl⟩, q⟩
end
end L2

namespace L2
open PySem PySem.Spec PyProof.Rows

/-! ### an instance, its attributes a map -/
structure ObjM (h : Heap) (x dx C : Addr) (mA : Str → Option Value) : Prop where
  obj : h.get? x = some (PySem.W.instObj C dx)
  ns : h.Ns1 dx mA
  ne : dx ≠ x

theorem lookIn_ns {h : Heap} {dx : Addr} {mA : Str → Option Value} (n : h.Ns1 dx mA) : ∃ od, h.get? dx = some od ∧ ∀ name, PySem.W.lookIn name od = some (mA name) := by
  obtain ⟨o, es, ep, ho, hd, hk, _, hm⟩ := n
  refine ⟨o, ho, fun name => ?_⟩
  have e := hm name
  unfold nsFind findBy at e
  rw [← Array.find?_toList] at e
  unfold PySem.W.lookIn
  rw [hd]
  dsimp only
  split
  · rename_i y q
    rw [q] at e
    exact congrArg some e
  · rename_i q
    rw [q] at e
    have a : es.toList.any (·.refKey) = false := by
      rw [List.any_eq_false]
      intro y hy
      obtain ⟨z, t, hkey⟩ := hk y (Array.mem_toList_iff.mp hy)
      simp [DictEntry.refKey, hkey]
    have a' : ¬ es.toList.any (·.refKey) = true := by rw [a]; exact Bool.false_ne_true
    rw [if_neg a']
    exact congrArg some e

theorem ObjM.look {h : Heap} {x dx C : Addr} {mA : Str → Option Value} (I : ObjM h x dx C mA) : ∃ od, PySem.W.InstAt h x (PySem.W.instObj C dx) C (some od) ∧ ∀ name, PySem.W.lookIn name od = some (mA name) :=
  let ⟨od, ho, hl⟩ := lookIn_ns I.ns
  ⟨od, ⟨I.obj, rfl, rfl, ho⟩, hl⟩

section
variable {prog : Program} {w : World} {A : Around} {E : Value → Shared → Prop} {s : Shared} {K : PySem.W.Frag} {x dx C f : Addr} {mA : Str → Option Value} {name : Str} {v : Value}

end

/-! ### the attributes as a list of pairs -/
theorem RelO.some_of {v : V} {o : Option Value} (r : RelO (some v) o) : ∃ u, o = some u ∧ RelV v u := by
  cases o with
  | none => exact (show False from r).elim
  | some u => exact ⟨u, rfl, r⟩
theorem handed_of {v : V} {u : Value} (r : RelV v u) : PySem.W.handedIn u = true := by
  cases v with
  | non => cases (show u = Value.none from r); rfl
  | bl b => cases (show u = Value.bool b from r); rfl
  | int i => obtain ⟨t, e⟩ := (show ∃ t, u = Value.int i t from r); cases e; rfl
  | str x => obtain ⟨t, e⟩ := (show ∃ t, u = Value.str x t from r); cases e; rfl
  | byt b => obtain ⟨t, e⟩ := (show ∃ t, u = Value.bytes b t from r); cases e; rfl
  | flt b => obtain ⟨t, e⟩ := (show ∃ t, u = Value.float b t from r); cases e; rfl
  | ref a => cases (show u = Value.ref a from r); rfl
  | ty n => cases (show u = Value.type n from r); rfl

section
variable {P : Program} {w : World} {H H' : Hp} {h h' : Heap} {a C dx : Addr} {fs fs' : List (Str × V)}
theorem ins_get (hok : HOk P w H h) (e : H a = some (.ins C dx fs)) : ∃ mA, ObjM h a dx C mA ∧ (∀ f, RelO (fs.lookup f) (mA f)) ∧ PySem.Within mA (fs.map (·.1)) ∧ fs.length ≤ 1000 ∧ H dx = some (.own a) := by
  obtain ⟨d, z, ne, ob, mA, n, r, q⟩ := (show ObjOk P w H h a (.ins C dx fs) from hok a _ e)
  exact ⟨mA, ⟨ob, n, ne⟩, r, q, z, d⟩
end

/-! ### what of the text a class must have -/
structure Cls (K : PySem.W.Frag) (C : Addr) : Prop where
  pg : PySem.W.plainGet K C Str.empty = true
  hd : PySem.W.hasDictIn K C = true
  po : PySem.W.plainOver K C = true
  sa : PySem.W.findIn K (.ref C) "__setattr__" = some (some (.builtin "object.__setattr__"))
theorem Cls.get {K : PySem.W.Frag} {C : Addr} (c : Cls K C) (f : Str) : PySem.W.plainGet K C f = true := c.pg
section
variable {X : Cx} {pins : List (Addr × Obj)} {σ : St} {H : Hp} {s : Shared} {a C dx : Addr} {fs : List (Str × V)} {f : Str} {v : V} {A : Around} {E : Value → Shared → Prop}

/-- a new instance, tracked, without attributes -/
theorem Inv.made (I : Inv X pins σ H s) : Inv X pins σ (upd (upd H s.heap.objs.size (.own (s.heap.objs.size + 1))) (s.heap.objs.size + 1) (.ins C s.heap.objs.size []))
    { s with heap := (s.heap.push PySem.W.emptyDict).push (PySem.W.instObj C s.heap.objs.size) } := by
  have e1 : (s.heap.push PySem.W.emptyDict).get? s.heap.objs.size = some PySem.W.emptyDict := Heap.get?_push_size s.heap rfl
  have e2 : ((s.heap.push PySem.W.emptyDict).push (PySem.W.instObj C s.heap.objs.size)).get? (s.heap.objs.size + 1) = some (PySem.W.instObj C s.heap.objs.size) := by
    have := Heap.get?_push_size (s.heap.push PySem.W.emptyDict) (o := PySem.W.instObj C s.heap.objs.size) rfl
    rwa [Heap.size_push] at this
  have e3 : (s.heap.push PySem.W.emptyDict).Ns s.heap.objs.size (fun _ => none) := ⟨PySem.W.emptyDict, #[], _, e1, rfl, (fun e he => absurd he (by simp)), fun _ => rfl⟩
  have I1 := I.laid (a := s.heap.objs.size) (o := .own (s.heap.objs.size + 1)) (h' := s.heap.push PySem.W.emptyDict) (t' := s.toks) (fun b u q => Heap.get?_push_of_some _ q) (Nat.le_refl _) ⟨_, e1⟩
  refine I1.laid (a := s.heap.objs.size + 1) (o := .ins C s.heap.objs.size []) (t' := s.toks) (fun b u q => Heap.get?_push_of_some _ q) (Nat.le_of_eq (Heap.size_push _ _)) ?_
  have ne : s.heap.objs.size ≠ s.heap.objs.size + 1 := Nat.ne_of_lt (Nat.lt_succ_self _)
  refine ⟨by rw [upd_ne ne, upd_same], Nat.zero_le _, ne, e2, fun _ => none, (Heap.Ns1.of_empty e3).at fun o q => Heap.get?_push_of_some _ q, fun _ => True.intro, fun y hy => absurd rfl hy⟩

/-- e.f where nothing but the object is asked: through attributeBase (super) and the last hold -/
theorem attr_of {prog : Program} {w : World} {env : Env} {e : Expr} {f : Str} {pos : Pos} {s : Shared} {Q : Value → Shared → Prop} (hb : attributeBase e f env (eval e env) = eval e env)
    (h : wpAny (model prog w) A (eval e env) (fun o s₁ => wpAny (model prog w) A (getAttr o f true) Q E s₁) E s) : wpAny (model prog w) A (eval (.Attribute e f pos) env) Q E s :=
  Attribute_any_ h (by rw [arm_eval_Attribute, hb])
end

/-! ### readings and rules -/
section
variable {X : Cx} {o e value : Expr} {f : Str} {pos pos' tpos : Pos} {ta tv : TE}
end

/-! ### isinstance -/
section
variable {X : Cx} {pins : List (Addr × Obj)} {σ : St} {H : Hp} {s : Shared} {A : Around} {E : Value → Shared → Prop} {Q : Value → Shared → Prop} {c : Value} {b : Bool}
/-- the type of a value, as the fragment's deciders take it; for an instance its class -/
inductive TyOf (K : PySem.W.Frag) (H : Hp) : V → Value → Prop where
  | non : TyOf K H .non (.type "NoneType")
  | bl (x : Bool) : TyOf K H (.bl x) (.type "bool")
  | int (i : Int) : TyOf K H (.int i) (.type "int")
  | str (x : Str) : TyOf K H (.str x) (.type "str")
  | flt (x : UInt64) : TyOf K H (.flt x) (.type "float")
  | lst {a : Addr} {xs : List V} (e : H a = some (.lst xs)) : TyOf K H (.ref a) (.type "list")
  | frz {a : Addr} {o : Obj} {xs : List V} (e : H a = some (.frz o (.lst xs))) : TyOf K H (.ref a) (.type "list")
  | tup {a : Addr} {xs : List V} (e : H a = some (.tup xs)) : TyOf K H (.ref a) (.type "tuple")
  | dK {a : Addr} {kvs : List (Key × V)} (e : H a = some (.dK kvs)) : TyOf K H (.ref a) (.type "dict")
  | dT {a : Addr} {kvs : List (List Key × V)} (e : H a = some (.dT kvs)) : TyOf K H (.ref a) (.type "dict")
  | ins {a C dx : Addr} {fs : List (Str × V)} (e : H a = some (.ins C dx fs)) (cl : Cls K C) (ha : PySem.W.findIn K (.ref C) "__class__" = some (some (.builtin "object.__class__")))
      (hn : PySem.W.specialIn K (.builtin "object.__class__") "__get__" = some (some (.builtin "getset_descriptor.__get__"))) (htk : PySem.W.takesIn K (.builtin "object.__class__") = some true)
      (hm : PySem.W.mroIn K C (.type "object") = some true) : TyOf K H (.ref a) (.ref C)
/-- isinstance(x, c) for one class c, a built-in or an own one: kitOne's answer -/
theorem isinst_ok {x : V} {u t : Value} (I : Inv X pins σ H s) (rx : RelV x u) (ty : TyOf X.K H x t) (e : PySem.W.kitOne X.K t c = some b) (h : ∀ tk, Q (.bool b) { s with toks := tk }) :
    wpAny (model X.prog X.w) A (call (.builtin "isinstance") [u, c]) Q E s := by
  cases ty with
  | non => cases (show u = Value.none from rx); exact PySem.W.kia_one PySem.W.kitx_none I.kIn True.intro e (fun z => nomatch z) h
  | bl y => cases (show u = Value.bool y from rx); exact PySem.W.kia_one PySem.W.kitx_bool I.kIn True.intro e (fun z => nomatch z) h
  | int i => obtain ⟨t, q⟩ := (show ∃ t, u = Value.int i t from rx); cases q; exact PySem.W.kia_one PySem.W.kitx_int I.kIn True.intro e (fun z => nomatch z) h
  | str y => obtain ⟨t, q⟩ := (show ∃ t, u = Value.str y t from rx); cases q; exact PySem.W.kia_one PySem.W.kitx_str I.kIn True.intro e (fun z => nomatch z) h
  | flt y => obtain ⟨t, q⟩ := (show ∃ t, u = Value.float y t from rx); cases q; exact PySem.W.kia_one PySem.W.kitx_float I.kIn True.intro e (fun z => nomatch z) h
  | @lst a xs ea =>
    cases (show u = Value.ref a from rx)
    obtain ⟨_, _, n, _, h1⟩ := (show ObjOk X.prog X.w H s.heap a (.lst xs) from I.hok a _ ea)
    exact PySem.W.kia_one PySem.W.kitx_list I.kIn ⟨_, h1, rfl⟩ e (fun z => nomatch z) h
  | @frz a ob xs ea =>
    cases (show u = Value.ref a from rx)
    obtain ⟨_, _, _, n, _, h1⟩ := (show ObjOk X.prog X.w H s.heap a (.frz ob (.lst xs)) from I.hok a _ ea)
    exact PySem.W.kia_one PySem.W.kitx_list I.kIn ⟨_, h1, rfl⟩ e (fun z => nomatch z) h
  | @tup a xs ea =>
    cases (show u = Value.ref a from rx)
    obtain ⟨_, _, _, p⟩ := (show ObjOk X.prog X.w H s.heap a (.tup xs) from I.hok a _ ea)
    obtain ⟨o, h1, h2, _⟩ := p
    exact PySem.W.kia_one PySem.W.kitx_tuple I.kIn ⟨o, h1, h2⟩ e (fun z => nomatch z) h
  | @dK a kvs ea =>
    cases (show u = Value.ref a from rx)
    obtain ⟨_, _, vs, _, p⟩ := (show ObjOk X.prog X.w H s.heap a (.dK kvs) from I.hok a _ ea)
    obtain ⟨o, es, ep, h1, h2, _⟩ := p
    exact PySem.W.kia_one PySem.W.kitx_dict I.kIn ⟨o, h1, h2.1⟩ e (fun z => nomatch z) h
  | @dT a kvs ea =>
    cases (show u = Value.ref a from rx)
    obtain ⟨_, _, xs, _, o, es, ep, h1, h2, _⟩ := (show ObjOk X.prog X.w H s.heap a (.dT kvs) from I.hok a _ ea)
    exact PySem.W.kia_one PySem.W.kitx_dict I.kIn ⟨o, h1, h2.1⟩ e (fun z => nomatch z) h
  | @ins a C dx fs ea cl ha hn htk hm =>
    cases (show u = Value.ref a from rx)
    obtain ⟨mA, O, _⟩ := ins_get I.hok ea
    obtain ⟨od, J, _⟩ := O.look
    exact PySem.W.kia_one (PySem.W.kitx_own (cl.get _) cl.hd ha hn htk hm) I.kIn J e (fun z => nomatch z) h
end
end L2

namespace L2
open PySem PySem.Spec PyProof.Rows

/-! ### room -/
structure Room (k : Nat) (A : Around) : Prop where
  hd : A.handled = none
  dp : A.depth + 3 * k + 5 < recursionLimit
  un : A.units + 16 * k + 200 < cLine
theorem Room.mono {j k : Nat} {A : Around} (r : Room k A) (h : j ≤ k) : Room j A := ⟨r.hd, by have := r.dp; omega, by have := r.un; omega⟩
theorem Room.deeper {k : Nat} {A : Around} (r : Room (k + 1) A) (env : Env) : Room k (A.deeper env) :=
  ⟨r.hd, by have := r.dp; show A.depth + 1 + 3 * k + 5 < _; omega, by have := r.un; show A.units + 3 + 16 * k + 200 < _; omega⟩
theorem Room.in1 {k : Nat} {A : Around} (r : Room (k + 1) A) : Room k A.in1 :=
  ⟨r.hd, by have := r.dp; show A.depth + 3 * k + 5 < _; omega, by have := r.un; show A.units + 1 + 16 * k + 200 < _; omega⟩
theorem make_depth {A : Around} {C : Addr} {us : List Value} {kw : List (Str × Value)} : (A.under (.builtin "type.__call__" ⟨.ref C :: us, kw⟩)).depth = A.depth + 1 := by
  first | rfl | simp [Around.under, Code.weight, Code.isCreation, Code.isGuard, Code.isCaller, Code.frames, Code.isFrame, guardIds]
theorem make_units {A : Around} {C : Addr} {us : List Value} {kw : List (Str × Value)} : (A.under (.builtin "type.__call__" ⟨.ref C :: us, kw⟩)).units = A.units + 1 := by
  first | rfl | simp [Around.under, Code.cUnits, Code.frames, Code.isFrame]
theorem Room.make {k : Nat} {A : Around} (r : Room (k + 1) A) (C : Addr) (us : List Value) (kw : List (Str × Value)) : Room k (A.under (.builtin "type.__call__" ⟨.ref C :: us, kw⟩)) :=
  ⟨r.hd, by have := r.dp; rw [make_depth]; omega, by have := r.un; rw [make_units]; omega⟩
theorem Room.depth {k : Nat} {A : Around} (r : Room k A) : A.depth < recursionLimit := by have := r.dp; omega
theorem Room.units {k : Nat} {A : Around} (r : Room k A) : A.units + 64 < cLine := by have := r.un; omega
/-! ### argument lists and displays -/
def tNil : TA := fun _ H Q => Q [] H
def tCons (ta : TE) (tr : TA) : TA := fun σ H Q => ta σ H fun x H1 => tr σ H1 fun xs H2 => Q (x :: xs) H2
section
variable {X : Cx} {e : Expr} {es : List Expr} {te : TE} {t : TA} {pos : Pos}
theorem pa_nil : PA X [] tNil := fun _ _ _ _ H Q I h => Calls.spliced_nil ⟨[], H, I, .nil, h⟩
theorem pa_cons (ha : PE X e te) (hr : PA X es t) (hs : starEach (e :: es) X.env = (false, eval e X.env) :: starEach es X.env := by rfl) : PA X (e :: es) (tCons te t) := by
  intro pos pins s σ H Q I h
  rw [hs]
  show wpAny _ _ (spliced ((false, eval e X.env) :: backTo pos (starEach es X.env))) _ _ s
  refine Calls.spliced_cons (thn (ha pins s σ H _ I h) fun u s1 ⟨x, H1, I1, r1, q1⟩ => ?_)
  exact thn (hr pos pins s1 σ H1 _ I1 q1) fun us s2 ⟨xs, H2, I2, r2, q2⟩ => ⟨x :: xs, H2, I2, .cons r1 r2, q2⟩

/-- a tuple, a list of written items -/
def tTup (t : TA) : TE := fun σ H Q => t σ H fun xs H1 => xs.length ≤ sizeLine ∧ ∀ p, H1 p = none → Q (.ref p) (upd H1 p (.tup xs))
def tLst (t : TA) : TE := fun σ H Q => t σ H fun xs H1 => xs.length ≤ sizeLine ∧ ∀ p, H1 p = none → Q (.ref p) (upd H1 p (.lst xs))
theorem pe_tup {x1} (h : PA X es t) : PE X (.Tuple es x1 pos) (tTup t) := by
  intro pins s σ H Q I hq
  refine wpAny_Tuple_spliced (thn (h pos pins s σ H _ I hq) fun us s1 ⟨xs, H1, I1, r, z, q⟩ => ⟨by rw [← r.length]; exact z, ?_⟩)
  have hf : H1 s1.heap.objs.size = none := I1.hok.fresh (Nat.le_refl _)
  refine ⟨.ref s1.heap.objs.size, upd H1 s1.heap.objs.size (.tup xs), I1.laid (t' := s1.toks) (fun b u e => Heap.get?_push_of_some _ e) (Nat.le_refl _) ?_, rfl, q _ hf⟩
  exact ⟨z, us, r, ⟨_, Heap.get?_push_size _ rfl, rfl, _, rfl⟩⟩
theorem pe_lst (h : PA X es t) : PE X (.List es pos) (tLst t) := by
  intro pins s σ H Q I hq
  refine wpAny_List_spliced (thn (h pos pins s σ H _ I hq) fun us s1 ⟨xs, H1, I1, r, z, q⟩ => ⟨by rw [← r.length]; exact z, ?_⟩)
  have hf : H1 s1.heap.objs.size = none := I1.hok.fresh (Nat.le_refl _)
  refine ⟨.ref s1.heap.objs.size, upd H1 s1.heap.objs.size (.lst xs), I1.laid (t' := s1.toks) (fun b u e => Heap.get?_push_of_some _ e) (Nat.le_refl _) ?_, rfl, q _ hf⟩
  exact ⟨z, us, 0, r, Heap.get?_push_size _ rfl⟩
end

/-! ### what a def promises -/
/-- a def's promise: the bound arguments in the parameters' order, the heap, the wanted end, the wanted exception -/
abbrev Sp := List V → Hp → VK → XK → Prop
/-- how an exception lies behind a call (file 08 gives it): the callers' frames, abstract heap and state ahead of the call, the wish, the exception, the state -/
abbrev CXT := List Env → Hp → Shared → XK → Value → Shared → Prop

/-- the state at a call -/
structure Env0 (P : Program) (w : World) (K : PySem.W.Frag) (mg : Str → Option Value) (base : Heap) (A : Around) (outer : List Env) (s : Shared) (H : Hp) : Prop where
  frames : A.frames = some outer
  mod : Mod K mg base
  bs : ∀ b o, base.get? b = some o → s.heap.get? b = some o ∧ H b = none
  bsz : base.objs.size ≤ s.heap.objs.size
  funs : s.heap.FunFrames base outer
  frf : ∀ b ∈ frs outer, H b = none
  hok : HOk P w H s.heap
  bare : AllBare s.gens
/-- a call's end -/
def CE (outer : List Env) (P : Program) (w : World) (H : Hp) (s : Shared) (Q : VK) (u : Value) (s' : Shared) : Prop :=
  ∃ v H', s'.os = s.os ∧ AllBare s'.gens ∧ Un (frs outer) [] H H' s.heap s'.heap ∧ HOk P w H' s'.heap ∧ RelV v u ∧ Q v H'
def CR (CX : CXT) (outer : List Env) (P : Program) (w : World) (H : Hp) (s : Shared) (Q : VK) (E : XK) (r : Result) (s' : Shared) : Prop :=
  match r with
  | .ok (.ret u) => CE outer P w H s Q u s'
  | .ok _ => False
  | .error e => CX outer H s E e s'
structure FnOk (P : Program) (w : World) (K : PySem.W.Frag) (mg : Str → Option Value) (base : Heap) (CX : CXT) (k : Nat) (f : Addr) (fd : FuncData) (ps : List Str) (sp : Sp) : Prop where
  len : ∀ vs H Q E, sp vs H Q E → vs.length = ps.length
  run : ∀ (A : Around) (outer : List Env) (s : Shared) (H : Hp) (args : Args) (us : List Value) (vs : List V) (Q : VK) (E : XK), Room k A → Env0 P w K mg base A outer s H → BindsTo s fd args (ps.zip us) → Vals vs us → sp vs H Q E →
    codeAny (model P w) A (.call (.ref f) args) (CR CX outer P w H s Q E) s
theorem FnOk.mono {P : Program} {w : World} {K : PySem.W.Frag} {mg : Str → Option Value} {base : Heap} {CX : CXT} {j k : Nat} {f : Addr} {fd : FuncData} {ps : List Str} {sp : Sp} (F : FnOk P w K mg base CX j f fd ps sp) (h : j ≤ k) :
    FnOk P w K mg base CX k f fd ps sp := ⟨F.len, fun A outer s H args us vs Q E hr => F.run A outer s H args us vs Q E (hr.mono h)⟩
/-- a weaker promise -/
theorem FnOk.imp {P : Program} {w : World} {K : PySem.W.Frag} {mg : Str → Option Value} {base : Heap} {CX : CXT} {k : Nat} {f : Addr} {fd : FuncData} {ps : List Str} {sp sp' : Sp} (F : FnOk P w K mg base CX k f fd ps sp)
    (h : ∀ vs H Q E, sp' vs H Q E → sp vs H Q E) : FnOk P w K mg base CX k f fd ps sp' :=
  ⟨fun vs H Q E q => F.len vs H Q E (h _ _ _ _ q), fun A outer s H args us vs Q E hr he hb hv hs => F.run A outer s H args us vs Q E hr he hb hv (h _ _ _ _ hs)⟩

theorem Env0.make {P : Program} {w : World} {K : PySem.W.Frag} {mg : Str → Option Value} {base : Heap} {A : Around} {outer : List Env} {s : Shared} {H : Hp} (e : Env0 P w K mg base A outer s H) (C : Addr) (us : List Value) (kw : List (Str × Value)) :
    Env0 P w K mg base (A.under (.builtin "type.__call__" ⟨.ref C :: us, kw⟩)) outer s H := ⟨by first | exact e.frames | (simpa [Around.under, Code.envs, Code.isFrame, pushEnvs] using e.frames), e.mod, e.bs, e.bsz, e.funs, e.frf, e.hok, e.bare⟩
theorem Env0.in1 {P : Program} {w : World} {K : PySem.W.Frag} {mg : Str → Option Value} {base : Heap} {A : Around} {outer : List Env} {s : Shared} {H : Hp} (e : Env0 P w K mg base A outer s H) :
    Env0 P w K mg base A.in1 outer s H := ⟨e.frames, e.mod, e.bs, e.bsz, e.funs, e.frf, e.hok, e.bare⟩

section
variable {X : Cx} {pins : List (Addr × Obj)} {σ : St} {H : Hp} {s s' : Shared}
/-- from a body: what a callee wants -/
theorem Inv.env0 (I : Inv X pins σ H s) : Env0 X.prog X.w X.K X.mg X.base X.A X.stack s H :=
  ⟨I.ok.frames, I.ok.mod, I.bs, Nat.le_trans I.ok.bsz I.sz, I.stack, I.stkFree, I.hok, I.bare⟩
/-- behind a call -/
theorem Inv.after {Q : VK} {u : Value} (I : Inv X pins σ H s) (h : CE X.stack X.prog X.w H s Q u s') : EP X pins σ Q u s' := by
  obtain ⟨v, H', os, bare, un, hok, r, q⟩ := h
  obtain ⟨hh, g, d, t, os'⟩ := s'
  obtain rfl : os' = s.os := os
  exact ⟨v, H', I.call (h' := hh) (g' := g) (d' := d) (t' := t) (ch := []) un hok bare (fun b z => absurd z (by simp)), r, q⟩
end

/-! ### calls -/
/-- f(..): the written arguments, then the defaults dvs; E: what is wanted of an exception -/
def tCall (sp : Sp) (dvs : List V) (E : XK) (t : TA) : TE := fun σ H Q => t σ H fun vs H1 => sp (vs ++ dvs) H1 Q E
/-- how the parameters are bound: us the positional arguments, kw the keywords' values by name, ds the defaults that fill up -/
def Binds (K : PySem.W.Frag) (fd : FuncData) (ps : List Str) (ds : List Value) : Prop :=
  ∀ (s : Shared) (us : List Value), K.In s.heap → (us ++ ds).length = ps.length → BindsTo s fd ⟨us, []⟩ (ps.zip (us ++ ds))
/-- every parameter is given -/
theorem Binds.all {K : PySem.W.Frag} {fd : FuncData} {ps : List Str} (h : ∀ us : List Value, us.length = ps.length → bindArgs fd ⟨us, []⟩ = pure (ps.zip us)) : Binds K fd ps [] := fun s us _ hl => by
  rw [List.append_nil] at hl ⊢
  exact .of_eq (h us hl)

/-- an exception of a callee reaches what this body wants of exceptions -/
def Passes (CX : CXT) (X : Cx) (E : XK) : Prop := ∀ (pins : List (Addr × Obj)) (σ : St) (H : Hp) (s : Shared) (e : Value) (s' : Shared), Inv X pins σ H s → CX X.stack H s E e s' → X.xe e s'

section
variable {X : Cx} {CX : CXT} {k : Nat} {f C : Addr} {fd : FuncData} {ps : List Str} {sp : Sp} {dvs : List V} {ds : List Value} {E : XK} {x m : Str} {p pos apos : Pos} {e o : Expr} {es : List Expr} {ta : TE} {t : TA}

/-- the callee runs -/
theorem run_fn {pins : List (Addr × Obj)} {σ : St} {H : Hp} {s : Shared} {Q : VK} {us : List Value} {vs : List V} (F : FnOk X.prog X.w X.K X.mg X.base CX k f fd ps sp) (hr : Room k X.A) (hb : Binds X.K fd ps ds) (hd : Vals dvs ds) (hx : Passes CX X E)
    (I : Inv X pins σ H s) (r : Vals vs us) (h : sp (vs ++ dvs) H Q E) : wpAny (model X.prog X.w) X.A (call (.ref f) us) (EP X pins σ Q) X.xe s := by
  have r2 : Vals (vs ++ dvs) (us ++ ds) := r.append hd
  have hl : (us ++ ds).length = ps.length := by rw [← r2.length]; exact F.len _ _ _ _ h
  refine wpAny_call (codeAny_mono (F.run X.A X.stack s H ⟨us, []⟩ (us ++ ds) (vs ++ dvs) Q E hr I.env0 (hb s us I.kIn hl) r2 h) fun r s' hq => ?_)
  cases r with
  | error e => exact hx pins σ H s e s' I hq
  | ok fl =>
    cases fl with
    | ret u => exact I.after hq
    | next => exact False.elim hq
    | brk => exact False.elim hq
    | cont => exact False.elim hq

theorem pe_call (F : FnOk X.prog X.w X.K X.mg X.base CX k f fd ps sp) (hr : Room k X.A) (hg : Gl X x) (hm : X.mg x = some (.ref f)) (hk : PySem.W.keepIn X.K (.ref f) = true) (hb : Binds X.K fd ps ds) (hd : Vals dvs ds) (hx : Passes CX X E)
    (ha : PA X (e :: es) t) (hdb : (x == ("__debug__" : Str)) = false := by decide) (he : starEach (e :: es) X.env = (false, eval e X.env) :: starEach es X.env := by rfl) (hpl : (backTo pos (starEach es X.env)).any (·.1) = false := by rfl) :
    PE X (.Call (.Name x p) (e :: es) [] pos) (tCall sp dvs E t) := by
  intro pins s σ H Q I h
  refine wpAny_Call_Name_kw (ld_glob I hg hm ?_ hdb)
  refine PySem.W.callWith_K (h₀ := X.base) I.ok.mod.kin hk (thn (ha pos pins s σ H _ I h) fun us s1 ⟨vs, H1, I1, r, q⟩ => ⟨I1.kIn, ?_⟩) he hpl
  exact run_fn F hr hb hd hx I1 r q
end

/-! ### keywords -/
section
variable {X : Cx} {CX : CXT} {k : Nat} {f C : Addr} {fd : FuncData} {ps ks : List Str} {sp : Sp} {E : XK} {x m : Str} {p pos apos kpos : Pos} {e o : Expr} {es : List Expr} {kws : List Keyword} {te ta : TE} {t tk : TA} {nm : Option Str}
variable {g : List Value → List Value → List Value} {gV : List V → List V → List V}
end

/-! ### a def's body keeps its promise -/
/-- names: the parameters first -/
structure FnScope (N P : List Str) (sc : Scope) : Prop where
  kind : sc.kind = .function
  co : sc.isCoroutine = false
  gen : sc.isGenerator = false
  nd : N.Nodup
  pre : N.take P.length = P
  par : ∀ x ∈ P, sc.names.lookup x = some .local ∨ sc.names.lookup x = some .cell
  nofree : ∀ y ∈ sc.names, y.2 ≠ .free

theorem bindL_out {kindOf : Str → Option NameKind} {x : Str} : ∀ {binds : List (Str × Value)} {m : Str → Option Value}, (∀ v, (x, v) ∉ binds) → bindL kindOf binds m x = m x
  | [], _, _ => rfl
  | (n, v) :: r, m, h => by
    unfold bindL
    rw [bindL_out fun w hw => h w (List.mem_cons_of_mem _ hw)]
    split
    · have : x ≠ n := by rintro rfl; exact h v List.mem_cons_self
      simp [this]
    · rfl
theorem bindC_out {kindOf : Str → Option NameKind} {x : Str} : ∀ {binds : List (Str × Value)} {m : Str → Option Value}, (∀ v, (x, v) ∉ binds) → bindC kindOf binds m x = m x
  | [], _, _ => rfl
  | (n, v) :: r, m, h => by
    unfold bindC
    rw [bindC_out fun w hw => h w (List.mem_cons_of_mem _ hw)]
    split
    · rfl
    · have : x ≠ n := by rintro rfl; exact h v List.mem_cons_self
      simp [this]
theorem bindL_get {kindOf : Str → Option NameKind} {x : Str} {v : Value} : ∀ {P : List Str} {vs : List Value} {i : Nat} {m : Str → Option Value}, P.Nodup → P[i]? = some x → vs[i]? = some v → kindOf x = some .local →
    bindL kindOf (P.zip vs) m x = some v
  | [], _, _, _, _, h, _, _ => by simp at h
  | _ :: _, [], _, _, _, _, h, _ => by simp at h
  | p :: P, w :: vs, 0, m, nd, h1, h2, hk => by
    simp at h1 h2; subst h1; subst h2
    show bindL kindOf ((p, w) :: P.zip vs) m p = _
    unfold bindL
    rw [bindL_out fun v hv => (List.nodup_cons.mp nd).1 (List.of_mem_zip hv).1, if_pos hk]
    simp
  | p :: P, w :: vs, i + 1, m, nd, h1, h2, hk => by
    show bindL kindOf ((p, w) :: P.zip vs) m x = _
    unfold bindL
    exact bindL_get (i := i) (List.nodup_cons.mp nd).2 (by simpa using h1) (by simpa using h2) hk
theorem bindC_get {kindOf : Str → Option NameKind} {x : Str} {v : Value} : ∀ {P : List Str} {vs : List Value} {i : Nat} {m : Str → Option Value}, P.Nodup → P[i]? = some x → vs[i]? = some v → kindOf x ≠ some .local →
    bindC kindOf (P.zip vs) m x = some v
  | [], _, _, _, _, h, _, _ => by simp at h
  | _ :: _, [], _, _, _, _, h, _ => by simp at h
  | p :: P, w :: vs, 0, m, nd, h1, h2, hk => by
    simp at h1 h2; subst h1; subst h2
    show bindC kindOf ((p, w) :: P.zip vs) m p = _
    unfold bindC
    rw [bindC_out fun v hv => (List.nodup_cons.mp nd).1 (List.of_mem_zip hv).1, if_neg hk]
    simp
  | p :: P, w :: vs, i + 1, m, nd, h1, h2, hk => by
    show bindC kindOf ((p, w) :: P.zip vs) m x = _
    unfold bindC
    exact bindC_get (i := i) (List.nodup_cons.mp nd).2 (by simpa using h1) (by simpa using h2) hk

/-- the names' values at the entry -/
def start (N : List Str) (vs : List V) : St := vs.map some ++ List.replicate (N.length - vs.length) none

/-- the context of a def's body, at its entry; an exception leaves the frame, then lies as CX says -/
def cxOf (CX : CXT) (P : Program) (w : World) (K : PySem.W.Frag) (mg : Str → Option Value) (base : Heap) (N : List Str) (qual : Str) (scope : Scope) (f : Addr) (cd : Value) (A : Around) (outer : List Env) (s : Shared) (H : Hp) (E : XK) : Cx where
  prog := P
  w := w
  K := K
  mg := mg
  base := base
  A := A.deeper (envOfC qual scope s.heap.objs.size f cd)
  N := N
  s₀ := s
  H₀ := H
  env := envOfC qual scope s.heap.objs.size f cd
  outer := outer
  stack := envOfC qual scope s.heap.objs.size f cd :: outer
  ex := []
  calm := true
  fn := fun _ => true
  pn := []
  xe := fun e s' => wpAny (model P w) (A.deeper (envOfC qual scope s.heap.objs.size f cd)) (leaving (envOfC qual scope s.heap.objs.size f cd) e) (fun _ s'' => CX outer H s E e s'') (fun e' s'' => CX outer H s E e' s'') s'

theorem cell_has {sc : Scope} {n : Nat} {x : Str} (h : sc.names.lookup x = some .cell) : ∃ c, (cellsFrom n sc.names []).lookup x = some c := by
  have q := PySem.W.cellsFrom_some sc.names n [] (.inl h)
  exact Option.isSome_iff_exists.mp q

theorem inv_start {CX : CXT} {P : Program} {w : World} {K : PySem.W.Frag} {mg : Str → Option Value} {base : Heap} {N ps : List Str} {qual : Str} {scope : Scope} {f : Addr} {cd : Value} {A : Around} {outer : List Env} {s s1 : Shared} {H : Hp} {E : XK} {us : List Value} {vs : List V}
    (S : FnScope N ps scope) (hd : A.handled = none) (e0 : Env0 P w K mg base A outer s H) (hl : vs.length = ps.length) (r : Vals vs us)
    (x : InCallC s s.heap.objs.size (bindL (envOfC qual scope s.heap.objs.size f cd).kindOf (ps.zip us) fun _ => none) (cellsFrom (s.heap.objs.size + 1) scope.names []) (bindC (envOfC qual scope s.heap.objs.size f cd).kindOf (ps.zip us) fun _ => none) s1) :
    Inv (cxOf CX P w K mg base N qual scope f cd A outer s H E) [] (start N vs) H s1 := by
  have hpl : ps.length ≤ N.length := by have := congrArg List.length S.pre; rw [List.length_take] at this; omega
  obtain ⟨h1, tk, rfl, hk⟩ := x.done
  have noA : ∀ b : Addr, b ∉ (cxOf CX P w K mg base N qual scope f cd A outer s H E).ex := fun b z => absurd (show b ∈ ([] : List Addr) from z) (by simp)
  refine ⟨⟨e0.mod, S.kind, rfl, rfl, Nat.le_refl _, fun y z c h1 h2 => ?_, fun y hy => ?_, fun y c _ h => ?_, fun _ => hd, Around.frames_deeper e0.frames, .inr ⟨rfl, rfl⟩, fun b z => absurd z (noA b), e0.bs, e0.bsz, fun b _ _ => noA b, fun b z => absurd z (noA b), e0.funs, e0.frf⟩,
    rfl, e0.bare, Un.kept hk, ⟨_, x.toInCall.ns, fun i y v h1 h2 h3 => ?_⟩, fun y c h => ⟨_, x.cell y c h⟩, e0.hok.fresh (Nat.le_refl _), fun y c h => ?_, fun p hp => absurd (show p ∈ ([] : List (Addr × Obj)) from hp) (by simp), e0.hok.kept hk, ?_⟩
  · exact name_of_addr x.apart (PySem.mem_of_lookup h1) (PySem.mem_of_lookup h2)
  · have hy : scope.names.lookup y = some .cell ∨ scope.names.lookup y = some .free := hy
    rcases hy with hy | hy
    · exact cell_has hy
    · exact absurd rfl (S.nofree _ (PySem.mem_of_lookup hy))
  · exact Nat.le_of_lt (x.above y c (PySem.mem_of_lookup h))
  · have hi : i < vs.length := by
      unfold start at h2
      by_cases hi : i < vs.length
      · exact hi
      · rw [List.getElem?_append_right (by simpa using hi)] at h2
        rw [List.getElem?_replicate] at h2
        split at h2 <;> cases h2
    have ha : vs[i]? = some v := by
      unfold start at h2
      rw [List.getElem?_append_left (by simpa using hi), List.getElem?_map] at h2
      cases e : vs[i]? with
      | none => rw [e] at h2; cases h2
      | some a => rw [e] at h2; cases h2; rfl
    obtain ⟨u, hu, rv⟩ := r.get ha
    have hp : ps[i]? = some y := by
      rw [← S.pre, List.getElem?_take_of_lt (by omega)]; exact h1
    have ndP : ps.Nodup := by rw [← S.pre]; exact S.nd.sublist (List.take_sublist _ _)
    refine ⟨u, rv, ?_⟩
    rcases S.par y (List.mem_of_getElem? hp) with k | k
    · exact .inl ⟨k, bindL_get ndP hp hu k⟩
    · obtain ⟨c, e⟩ := cell_has (n := s.heap.objs.size + 1) k
      refine .inr ⟨.inl k, c, e, ?_⟩
      have q := x.cell y c e
      rw [bindC_get ndP hp hu (by show scope.names.lookup y ≠ _; rw [k]; decide)] at q
      exact q
  · exact e0.hok.fresh (Nat.le_of_lt (x.above y c (PySem.mem_of_lookup h)))
  · unfold start
    show _ = N.length
    rw [List.length_append, List.length_map, List.length_replicate]
    omega

/-- THE RULE: a def (or a method) of the text, by its body. The body's reading t is chosen for each entry; it is run at the parameters' values -/
theorem fn_of {CX : CXT} {P : Program} {w : World} {K : PySem.W.Frag} {mg : Str → Option Value} {base : Heap} {k : Nat} {f : Addr} {name qual : Str} {params : Arguments} {body : List Stmt} {scope : Scope} {dV kV doc pm cdv ct oc : Value} {an od : Option Addr}
    {osl : Array (Option Value)} {N ps : List Str} {sp : Sp} (lk : K.lookup f = some ⟨oc, od, .func (PySem.W.fnOf name qual params body scope dV kV doc pm an cdv ct), osl⟩) (hcd : PySem.W.codeIn K cdv qual = true) (S : FnScope N ps scope)
    (len : ∀ vs H Q E, sp vs H Q E → vs.length = ps.length)
    (hbody : ∀ (A : Around) (outer : List Env) (s : Shared) (H : Hp) (vs : List V) (Q : VK) (E : XK), Room k (A.deeper (envOfC qual scope s.heap.objs.size f cdv)) → sp vs H Q E →
      ∃ t, PSs (cxOf CX P w K mg base N qual scope f cdv A outer s H E) body t ∧ t { nx := fun _ H' => Q .non H', rt := Q } (start N vs) H) :
    FnOk P w K mg base CX (k + 1) f (PySem.W.fnOf name qual params body scope dV kV doc pm an cdv ct) ps sp := by
  refine ⟨len, fun A outer s H args us vs Q E hr e0 hb r hsp => ?_⟩
  have hl := len _ _ _ _ hsp
  have KX : K.In s.heap := e0.mod.kin.keeps fun b o e => (e0.bs b o e).1
  have lim : s.heap.NoLimit := e0.mod.nolimit.keeps fun b o e => (e0.bs b o e).1
  have hkind : ∀ y ∈ ps.zip us, scope.names.lookup y.1 = some .local ∨ (scope.names.lookup y.1 = some .cell ∧ ((cellsFrom (s.heap.objs.size + 1) scope.names []).lookup y.1).isSome = true) := fun ⟨n, v⟩ hy => by
    rcases S.par n (List.of_mem_zip hy).1 with q | q
    · exact .inl q
    · exact .inr ⟨q, PySem.W.cellsFrom_some _ _ _ (.inl q)⟩
  refine codeAny_call_function hr.depth (KX _ _ lk) rfl S.co S.gen rfl (PySem.W.codeRec_of KX hcd) (hb _ _ _ _ ?_)
  refine wpAny_newFunctionEnv_cells S.kind hkind fun env he s1 x => ?_
  subst he
  refine ⟨lim.keeps x.toInCall.keep, codeAny_func ?_⟩
  obtain ⟨t, ht, hq⟩ := hbody A outer s H vs Q E (hr.deeper _) hsp
  have I : Inv (cxOf CX P w K mg base N qual scope f cdv A outer s H E) [] (start N vs) H s1 := inv_start S hr.hd e0 hl r x
  refine wpAny_mono (ht [] s1 (start N vs) H _ I hq) (fun fl s' hs => ?_) fun e s' hs => hs
  have fin : ∀ {σ' : St} {H' : Hp} {v : V} {u : Value}, Inv (cxOf CX P w K mg base N qual scope f cdv A outer s H E) [] σ' H' s' → RelV v u → Q v H' → CE outer P w H s Q u s' :=
    fun {σ' H' v u} J rv q => ⟨v, H', J.os, J.bare, J.base, J.hok, rv, q⟩
  cases fl with
  | ret u =>
    obtain ⟨v, σ', H', J, rv, q⟩ := hs
    exact fin J rv q
  | next =>
    obtain ⟨σ', H', J, q⟩ := hs
    exact fin (v := V.non) (u := Value.none) J rfl q
  | brk =>
    obtain ⟨_, _, _, q⟩ := hs
    exact False.elim q
  | cont =>
    obtain ⟨_, _, _, q⟩ := hs
    exact False.elim q
end L2

namespace L2
open PySem PySem.Spec PyProof.Rows
section
variable {X : Cx} {x : Str} {p pos : Pos} {e : Expr} {es : List Expr} {t : TA} {id T : String} {r : List V → Hp → VK → Prop}

def tCB (r : List V → Hp → VK → Prop) (t : TA) : TE := fun σ H Q => t σ H fun vs H1 => r vs H1 Q
/-- f(e, ..), f a built-in function -/
theorem pe_callB (hc : CallR X (.builtin id) r) (hg : Gl X x) (hm : X.mg x = none) (hv : bootBuiltins x = some (.builtin id)) (ha : PA X (e :: es) t) (hn : x ≠ "__name__" := by decide) (hdb : (x == ("__debug__" : Str)) = false := by decide)
    (he : starEach (e :: es) X.env = (false, eval e X.env) :: starEach es X.env := by rfl) (hpl : (backTo pos (starEach es X.env)).any (·.1) = false := by rfl) : PE X (.Call (.Name x p) (e :: es) [] pos) (tCB r t) := by
  intro pins s σ H Q I h
  refine wpAny_Call_Name_kw (ld_blt I hg hm hv ?_ hn hdb)
  exact PyProof.Rows.callWith_builtin1 (thn (ha pos pins s σ H _ I h) fun us s1 ⟨vs, H1, I1, r1, q1⟩ => hc pins s1 σ H1 vs us Q I1 r1 q1) he hpl
/-- T(e, ..), T a built-in type -/
theorem pe_callTy (hc : CallR X (.type T) r) (hg : Gl X x) (hm : X.mg x = none) (hv : bootBuiltins x = some (.type T)) (ha : PA X (e :: es) t) (hn : x ≠ "__name__" := by decide) (hdb : (x == ("__debug__" : Str)) = false := by decide)
    (he : starEach (e :: es) X.env = (false, eval e X.env) :: starEach es X.env := by rfl) (hpl : (backTo pos (starEach es X.env)).any (·.1) = false := by rfl) : PE X (.Call (.Name x p) (e :: es) [] pos) (tCB r t) := by
  intro pins s σ H Q I h
  refine wpAny_Call_Name_kw (ld_blt I hg hm hv ?_ hn hdb)
  exact PyProof.Rows.callWith_type1 (thn (ha pos pins s σ H _ I h) fun us s1 ⟨vs, H1, I1, r1, q1⟩ => hc pins s1 σ H1 vs us Q I1 r1 q1) he hpl
end
end L2

namespace HT
open PySem PyProof.Rows

section
open PySem.SeqAt
open PySem.AutoSeq1 (wpAny_loadPart')
open PySem.MeetsSeq PySem.MeetsSeq2 PySem.MeetsSeq3

end

section
variable {prog : Program} {w : World} {A : Around} {E : Value → Shared → Prop} {s : Shared}

/-- t + u, t not empty -/
theorem cat_tup {t b : Addr} {vs ws : List Value} {Q : Value → Shared → Prop} (ht : IsTup s.heap t vs.toArray) (hb : IsTup s.heap b ws.toArray) (hv : vs ≠ [])
    (h1 : ws = [] → Q (.ref t) s) (h2 : ws ≠ [] → Q (.ref s.heap.objs.size) { s with heap := s.heap.push { cls := .type "tuple", data := .seq (vs ++ ws).toArray } })
    (hsz : vs.length + ws.length ≤ sizeLine) : wpAny (model prog w) A (binaryOp .Add (.ref t) (.ref b)) Q E s := by
  obtain ⟨⟨cls, dd, data, sl⟩, ho, hc, n, hd⟩ := id ht
  obtain ⟨⟨cls2, dd2, data2, sl2⟩, ho2, hc2, n2, hd2⟩ := id hb
  simp only at hc hd hc2 hd2
  subst hc hd hc2 hd2
  have e : vs.toArray ++ ws.toArray = (vs ++ ws).toArray := by simp
  by_cases hw : ws = []
  · exact concat_meets ⟨_, ho, rfl⟩ ⟨_, ho2, rfl⟩ noFill_tuple_add seq_tuple_add PySem.F.slot_tuple_add PySem.F.entry_tuple_add (PySem.F.args_tuple_add_2 _ _)
      (tuple_addW1 t b vs.toArray ws.toArray n n2 dd dd2 sl sl2 (by simpa using hv) (by simp [hw])) ⟨ho, ho2, h1 hw⟩
  · refine concat_meets ⟨_, ho, rfl⟩ ⟨_, ho2, rfl⟩ noFill_tuple_add seq_tuple_add PySem.F.slot_tuple_add PySem.F.entry_tuple_add (PySem.F.args_tuple_add_2 _ _)
      (tuple_addW2 t b vs.toArray ws.toArray n n2 dd dd2 sl sl2 (by simpa using hv) (by simpa using hw) (by rw [List.size_toArray, List.size_toArray]; exact hsz)) ⟨ho, ho2, ?_⟩
    rw [e]
    exact h2 hw

/-! ### t[a:b], not the whole -/
/-- a slice's bound as a place among n (d where it is left out) -/
def sIx (n d : Nat) : Option Int → Nat
  | none => d
  | some v => if v < 0 then (v + (n : Int)).toNat else min v.toNat n
theorem sIx_none (n d : Nat) : sIx n d none = d := rfl
theorem sIx_le (n d : Nat) (hd : d ≤ n) (o : Option Int) : sIx n d o ≤ n := by
  cases o with
  | none => exact hd
  | some v =>
    show (if v < 0 then (v + (n : Int)).toNat else min v.toNat n) ≤ n
    by_cases hv : v < 0
    · rw [if_pos hv]; omega
    · rw [if_neg hv]; exact Nat.min_le_right _ _
theorem clip_eq (v : Int) (n d : Nat) : (if v < 0 then max (v + (n : Int)) 0 else min v (n : Int)) = ((sIx n d (some v) : Nat) : Int) := by
  show (if v < 0 then max (v + (n : Int)) 0 else min v (n : Int)) = (((if v < 0 then (v + (n : Int)).toNat else min v.toNat n) : Nat) : Int)
  by_cases hv : v < 0
  · simp only [if_pos hv]; omega
  · simp only [if_neg hv]; omega
theorem adjust_gen (lo hi : Option Int) (n : Nat) : Builtin.Slice.sliceAdjust lo hi 1 (n : Int) = (((sIx n 0 lo : Nat) : Int), ((sIx n n hi : Nat) : Int)) := by
  have h1 : ¬ ((1 : Int) < 0) := by omega
  unfold Builtin.Slice.sliceAdjust
  simp only [h1, if_false]
  refine Prod.ext ?_ ?_
  · cases lo with
    | none => rfl
    | some v => exact clip_eq v n 0
  · cases hi with
    | none => rfl
    | some v => exact clip_eq v n n
theorem places_gen (i j : Nat) : Builtin.Slice.slicePlaces (i : Int) (j : Int) 1 = j - i := by
  unfold Builtin.Slice.slicePlaces
  have h1 : (1 : Int) > 0 := by omega
  simp only [h1, if_true, Int.ediv_one]
  split <;> omega
theorem slicePart_ {v : Value} {o : Option Int} {Q : Option Int → Shared → Prop} (p : IsPart v o) (h : Q o s) : wpAny (model prog w) A (Builtin.Slice.slicePartIndex v) Q E s := by
  cases p with
  | none => exact slicePart_none h
  | int i t => exact slicePart_int h
theorem sliceApplied_gen {sl : Addr} {vl vu : Value} {lo hi : Option Int} {n : Nat} {Q : Int × Int × Nat → Shared → Prop} (hs : s.heap.IsSliceOf sl vl vu .none) (pl : IsPart vl lo) (pu : IsPart vu hi)
    (h : Q (((sIx n 0 lo : Nat) : Int), 1, sIx n n hi - sIx n 0 lo) s) : wpAny (model prog w) A (Builtin.Slice.sliceApplied (.ref sl) (pure (n : Int))) Q E s := by
  obtain ⟨os, hos, hcs, hds⟩ := id hs
  unfold Builtin.Slice.sliceApplied Builtin.Slice.sliceFields
  refine wpAny_bind (wpAny_bind (wpAny_field hos hds (x := vl) rfl (wpAny_bind (wpAny_field hos hds (x := vu) rfl (wpAny_bind (wpAny_field hos hds (x := .none) rfl (wpAny_pure ?_)))))))
  refine wpAny_bind (slicePart_none ?_)
  show wpAny _ _ (if ((1 : Int) == 0) = true then _ else _) _ _ s
  rw [if_neg (by decide)]
  refine wpAny_bind (slicePart_ pl (wpAny_bind (slicePart_ pu (wpAny_bind (wpAny_pure ?_)))))
  show wpAny _ _ (match Builtin.Slice.sliceAdjust lo hi 1 (n : Int) with | (lo, hi) => pure (lo, (1 : Int), Builtin.Slice.slicePlaces lo hi 1)) _ _ s
  rw [adjust_gen lo hi n]
  show wpAny _ _ (pure (((sIx n 0 lo : Nat) : Int), (1 : Int), Builtin.Slice.slicePlaces ((sIx n 0 lo : Nat) : Int) ((sIx n n hi : Nat) : Int) 1)) _ _ s
  rw [places_gen]
  exact wpAny_pure h
theorem pick_gen (xs : Array Value) (i k : Nat) : ((List.range k).filterMap fun (m : Nat) => xs[((i : Int) + (m : Int) * 1).toNat]?).toArray = ((xs.toList.drop i).take k).toArray := by
  have e : (fun (m : Nat) => xs[((i : Int) + (m : Int) * 1).toNat]?) = fun m => xs[i + m]? := by
    funext m
    have : ((i : Int) + (m : Int) * 1).toNat = i + m := by omega
    rw [this]
  rw [e]
  have := pick_run xs i k
  rw [List.filterMap_map] at this
  have e2 : ((fun x => xs[x]?) ∘ fun x => i + x) = fun m => xs[i + m]? := rfl
  rw [e2] at this
  rw [this]

theorem getItem_tuple_cut {t sl : Addr} {items : Array Value} {vl vu : Value} {lo hi : Option Int} {Q : Value → Shared → Prop} (ht : IsTup s.heap t items) (hs : s.heap.IsSliceOf sl vl vu .none) (pl : IsPart vl lo) (pu : IsPart vu hi)
    (hw : ¬ (sIx items.size 0 lo = 0 ∧ sIx items.size items.size hi = items.size))
    (h : Q (.ref s.heap.objs.size) { s with heap := s.heap.push { cls := .type "tuple", data := .seq ((items.toList.drop (sIx items.size 0 lo)).take (sIx items.size items.size hi - sIx items.size 0 lo)).toArray } })
    (hsz : items.size ≤ sizeLine) : wpAny (model prog w) A (getItem (.ref t) (.ref sl)) Q E s := by
  have htake : sizeOk (.seq ((items.toList.drop (sIx items.size 0 lo)).take (sIx items.size items.size hi - sIx items.size 0 lo)).toArray) := by
    show ((items.toList.drop (sIx items.size 0 lo)).take (sIx items.size items.size hi - sIx items.size 0 lo)).toArray.size ≤ sizeLine
    rw [List.size_toArray, List.length_take, List.length_drop, Array.length_toList]
    omega
  have hj : sIx items.size items.size hi ≤ items.size := sIx_le _ _ (Nat.le_refl _) hi
  obtain ⟨os, hos, hcs, hds⟩ := id hs
  have hTs : s.TypeIs (.ref sl) "slice" := ⟨os, hos, hcs⟩
  unfold getItem
  try with_reducible refine wpAny_holding ?_
  first | refine wpAny_bind (wpAny_pure ?_) | skip
  refine wpAny_bind (wpAny_sequenceKey ht.typeIs (by decide) ?_)
  refine wpAny_bind (wpAny_callSpecial?_slot (name := Str.ofString "__getitem__") ht.typeIs PyProof.Rows.slot_tuple_getitem
    (wpAny_call_entry PyProof.Rows.slot_tuple_getitem ht.typeIs entry_tuple_getitem ?_ (args_tuple_getitem _ _)))
  show wpAny _ _ (Builtin.Tuple.tupleItemsOf (.ref t) >>= _) _ _ s
  refine wpAny_bind (tupleItemsOf_ ht ?_)
  refine wpAny_bind (wpAny_typeOf hTs ?_)
  rw [if_pos (by decide)]
  refine wpAny_bind (sliceApplied_gen hs pl pu ?_)
  have hno : ¬ ((((sIx items.size 0 lo : Nat) : Int) == 0 && (1 : Int) == 1 && (sIx items.size items.size hi - sIx items.size 0 lo) == items.size) = true) := by
    intro q
    rw [Bool.and_eq_true, Bool.and_eq_true] at q
    have q1 : ((sIx items.size 0 lo : Nat) : Int) = 0 := eq_of_beq q.1.1
    have q2 : sIx items.size items.size hi - sIx items.size 0 lo = items.size := eq_of_beq q.2
    exact hw ⟨by omega, by omega⟩
  show wpAny _ _ (if (((sIx items.size 0 lo : Nat) : Int) == 0 && (1 : Int) == 1 && (sIx items.size items.size hi - sIx items.size 0 lo) == items.size) = true then _ else _) _ _ s
  rw [if_neg hno, pick_gen]
  first
    | exact wpAny_bind (m := Builtin.Tuple.tupleExact _) (wpAny_newObj_type (wpAny_pure ⟨_, rfl, wpAny_pure h⟩) htake)
    | exact wpAny_bind (m := Builtin.Tuple.tupleExact _) (wpAny_newObj_type (wpAny_bind (wpAny_pure (wpAny_pure ⟨_, rfl, wpAny_pure h⟩))) htake)
    | exact wpAny_bind (wpAny_bind (m := Builtin.Tuple.tupleExact _) (wpAny_newObj_type (wpAny_pure (wpAny_pure ⟨_, rfl, wpAny_pure h⟩)) htake))
    | exact wpAny_bind (wpAny_bind (m := Builtin.Tuple.tupleExact _) (wpAny_newObj_type (wpAny_pure ⟨_, rfl, wpAny_pure h⟩) htake))
end
end HT

namespace L2
open PySem PySem.Spec PyProof.Rows

/-! ### the parts of a slice -/
abbrev TO := St → Hp → (Option Int → Hp → Prop) → Prop
/-- a slice's part (left out, or an int) -/
def PO (X : Cx) (e : Option Expr) (t : TO) : Prop :=
  ∀ (pins : List (Addr × Obj)) (s : Shared) (σ : St) (H : Hp) (Q : Option Int → Hp → Prop), Inv X pins σ H s → t σ H Q →
    wpAny (model X.prog X.w) X.A (evalPart e X.env) (fun u s' => ∃ o H', Inv X pins σ H' s' ∧ IsPart u o ∧ Q o H') X.xe s
def tNoPart : TO := fun _ H Q => Q none H
def tPart (t : TE) : TO := fun σ H Q => t σ H fun x H1 => ∃ i, x = .int i ∧ Q (some i) H1

section
variable {X : Cx} {e : Expr} {te : TE} {lo hi : Option Expr} {tl th : TO} {pos p2 : Pos}

theorem po_none : PO X none tNoPart := by
  intro pins s σ H Q I h
  rw [evalPart_none]
  exact wpAny_pure ⟨none, H, I, .none, h⟩
theorem po_some (h : PE X e te) : PO X (some e) (tPart te) := by
  intro pins s σ H Q I hw
  rw [evalPart_some]
  refine thn (h pins s σ H _ I hw) fun u s1 ⟨x, H1, I1, r1, q1⟩ => ?_
  obtain ⟨i, rfl, q⟩ := q1
  obtain ⟨t, rfl⟩ := r1
  exact ⟨some i, H1, I1, .int i t, q⟩

/-- what a slice of a value is, by values: the slice object stands at sl -/
def SlR (X : Cx) (r : V → Option Int → Option Int → Hp → VK → Prop) : Prop :=
  ∀ (pins : List (Addr × Obj)) (s : Shared) (σ : St) (H : Hp) (x : V) (v vl vu : Value) (lo hi : Option Int) (sl : Addr) (Q : VK), Inv X pins σ H s → RelV x v → s.heap.IsSliceOf sl vl vu .none → IsPart vl lo → IsPart vu hi → r x lo hi H Q →
    ∃ T id, typeLookup (.type T) "__getitem__" = pure (some (.builtin id)) ∧ s.TypeIs v T ∧ wpAny (model X.prog X.w) X.A (getItem v (.ref sl)) (EP X pins σ Q) X.xe s
theorem SlR.or {r r' : V → Option Int → Option Int → Hp → VK → Prop} (h : SlR X r) (h' : SlR X r') : SlR X (fun x lo hi H Q => r x lo hi H Q ∨ r' x lo hi H Q) := by
  intro pins s σ H x v vl vu lo hi sl Q I rx hs pl pu q
  rcases q with q | q
  · exact h pins s σ H x v vl vu lo hi sl Q I rx hs pl pu q
  · exact h' pins s σ H x v vl vu lo hi sl Q I rx hs pl pu q
def tSl (r : V → Option Int → Option Int → Hp → VK → Prop) (te : TE) (tl th : TO) : TE := fun σ H Q => te σ H fun x H1 => tl σ H1 fun l H2 => th σ H2 fun u H3 => r x l u H3 Q
/-- a[lo:hi], any a -/
theorem pe_slice {r : V → Option Int → Option Int → Hp → VK → Prop} (hr : SlR X r) (he : PE X e te) (hl : PO X lo tl) (hu : PO X hi th) : PE X (.Subscript e (.Slice lo hi none p2) pos) (tSl r te tl th) := by
  intro pins s σ H Q I h
  refine Subscript_ (thn (he pins s σ H _ I h) fun v s1 ⟨x, H1, I1, r1, q1⟩ => ?_)
  refine wpAny_Slice (thn (hl pins s1 σ H1 _ I1 q1) fun vl s2 ⟨l, H2, I2, pl, q2⟩ => thn (hu pins s2 σ H2 _ I2 q2) fun vu s3 ⟨u, H3, I3, pu, q3⟩ => ?_)
  rw [evalPart_none]
  refine wpAny_pure ?_
  have I4 : Inv X pins σ H3 { s3 with heap := s3.heap.push { cls := .type "slice", data := .fields #[vl, vu, .none] } } := I3.kept (t' := s3.toks) fun b ob q => Heap.get?_push_of_some _ q
  obtain ⟨T, id, hT, ht, hg⟩ := hr pins { s3 with heap := s3.heap.push { cls := .type "slice", data := .fields #[vl, vu, .none] } } σ H3 x v vl vu l u s3.heap.objs.size Q I4 r1 (Heap.IsSliceOf.new ..) pl pu q3
  show wpAny (model X.prog X.w) X.A (subscriptTail e (.Slice lo hi none p2) v (.ref s3.heap.objs.size)) (EP X pins σ Q) X.xe { s3 with heap := s3.heap.push { cls := .type "slice", data := .fields #[vl, vu, .none] } }
  exact tail_any (ops := [.ref s3.heap.objs.size, v]) ht hT hg (by with_unfolding_all rfl)

/-- the items of xs[lo:hi] -/
def cutV (xs : List V) (lo hi : Option Int) : List V := (xs.drop (HT.sIx xs.length 0 lo)).take (HT.sIx xs.length xs.length hi - HT.sIx xs.length 0 lo)
theorem cutV_length (xs : List V) (lo hi : Option Int) : (cutV xs lo hi).length ≤ xs.length := by
  unfold cutV
  rw [List.length_take, List.length_drop]
  omega
/-- t[lo:hi], not the whole of it (the whole would be t itself) -/
def rSlT (K : PySem.W.Frag) : V → Option Int → Option Int → Hp → VK → Prop := fun x lo hi H Q => ∃ a xs, x = .ref a ∧ SqT K H a xs ∧
  ¬ (HT.sIx xs.length 0 lo = 0 ∧ HT.sIx xs.length xs.length hi = xs.length) ∧ ∀ p, H p = none → Q (.ref p) (upd H p (.tup (cutV xs lo hi)))
theorem sl_tup : SlR X (rSlT X.K) := by
  intro pins s σ H x v vl vu lo hi sl Q I rx hs pl pu h
  obtain ⟨a, xs, rfl, hx, hw, q⟩ := h
  cases rx
  obtain ⟨its, r, ht, hz⟩ := I.tuple hx
  have hlen : its.toArray.size = xs.length := by rw [List.size_toArray]; exact r.length.symm
  refine ⟨"tuple", _, PyProof.Rows.slot_tuple_getitem.lookup, ht.typeIs, ?_⟩
  refine HT.getItem_tuple_cut ht hs pl pu (by rw [hlen]; exact hw) ?_ (by rw [hlen]; exact hz)
  rw [hlen]
  refine ⟨.ref s.heap.objs.size, _, I.laid (t' := s.toks) (o := .tup (cutV xs lo hi)) (fun b ob q => Heap.get?_push_of_some _ q) (Nat.le_refl _) ?_, rfl, q _ (I.hok.fresh (Nat.le_refl _))⟩
  exact ⟨Nat.le_trans (cutV_length xs lo hi) hz, _, (r.drop (HT.sIx xs.length 0 lo)).take (HT.sIx xs.length xs.length hi - HT.sIx xs.length 0 lo), IsTup.new _ _⟩

/-! ### t < u, t + u -/
/-- t + u, t not empty: u empty gives t itself -/
def rCatT (K : PySem.W.Frag) : R2 := fun x y H Q => ∃ a b xs ys, x = .ref a ∧ y = .ref b ∧ SqT K H a xs ∧ SqT K H b ys ∧ xs ≠ [] ∧ xs.length + ys.length ≤ sizeLine ∧
  (ys = [] → Q (.ref a) H) ∧ (ys ≠ [] → ∀ p, H p = none → Q (.ref p) (upd H p (.tup (xs ++ ys))))
theorem Vals.nil_iff {xs : List V} {us : List Value} (r : Vals xs us) : us = [] ↔ xs = [] := by
  cases r with
  | nil => simp
  | cons _ _ => simp
theorem op_catT : OpR X (binaryOp .Add) (rCatT X.K) := by
  intro pins s σ H x y v u Q I rx ry h
  obtain ⟨a, b, xs, ys, rfl, rfl, ha, hb, hx, hz, q1, q2⟩ := h
  cases rx
  cases ry
  obtain ⟨its, r1, p1, _⟩ := I.tuple ha
  obtain ⟨its2, r2, p2, _⟩ := I.tuple hb
  refine HT.cat_tup p1 p2 (fun z => hx (r1.nil_iff.mp z)) (fun z => ⟨.ref a, H, I, rfl, q1 (r2.nil_iff.mp z)⟩) (fun z => ?_) (by rw [← r1.length, ← r2.length]; exact hz)
  refine ⟨.ref s.heap.objs.size, _, I.laid (t' := s.toks) (o := .tup (xs ++ ys)) (fun b ob q => Heap.get?_push_of_some _ q) (Nat.le_refl _) ?_, rfl, q2 (fun w => z (r2.nil_iff.mpr w)) _ (I.hok.fresh (Nat.le_refl _))⟩
  exact ⟨by rw [List.length_append]; exact hz, _, r1.append r2, IsTup.new _ _⟩
end
end L2

namespace L2
open PySem PySem.Spec PyProof.Rows

/-! ### places -/
/-- the place that an index of any sign means -/
def ixN (n : Nat) (i : Int) : Option Nat := if 0 ≤ i then (if i < n then some i.toNat else none) else if -(n : Int) ≤ i then some (i + n).toNat else none
def atI {α : Type} (xs : List α) (i : Int) : Option α := (ixN xs.length i).bind fun j => xs[j]?
theorem ixN_seq {n : Nat} {i : Int} {j : Nat} (h : ixN n i = some j) : seqIndex? i n = some j ∧ j < n ∧ -(n : Int) ≤ i ∧ i < n := by
  unfold ixN at h
  by_cases h0 : 0 ≤ i
  · rw [if_pos h0] at h
    by_cases h1 : i < n
    · rw [if_pos h1] at h
      have e : i.toNat = j := Option.some.inj h
      exact ⟨by rw [seqIndex_of h0 h1, e], by omega, by omega, h1⟩
    · rw [if_neg h1] at h; cases h
  · rw [if_neg h0] at h
    by_cases h1 : -(n : Int) ≤ i
    · rw [if_pos h1] at h
      have e : (i + n).toNat = j := Option.some.inj h
      exact ⟨by rw [seqIndex_neg (by omega) h1, e], by omega, h1, by omega⟩
    · rw [if_neg h1] at h; cases h
theorem atI_get {α : Type} {xs : List α} {i : Int} {v : α} (h : atI xs i = some v) : ∃ j, seqIndex? i xs.length = some j ∧ xs[j]? = some v ∧ j < xs.length ∧ -(xs.length : Int) ≤ i ∧ i < xs.length := by
  unfold atI at h
  cases e : ixN xs.length i with
  | none => rw [e] at h; cases h
  | some j =>
    rw [e] at h
    obtain ⟨h1, h2, h3, h4⟩ := ixN_seq e
    exact ⟨j, h1, h, h2, h3, h4⟩
theorem atI_nat {α : Type} {xs : List α} {j : Nat} {v : α} (h : xs[j]? = some v) : atI xs (j : Int) = some v := by
  have hj : j < xs.length := (List.getElem?_eq_some_iff.mp h).1
  have e : ixN xs.length (j : Int) = some j := by
    unfold ixN
    rw [if_pos (by omega), if_pos (by omega)]; simp
  unfold atI; rw [e]; exact h
theorem atI_last {α : Type} (xs : List α) (v : α) : atI (xs ++ [v]) (-1) = some v := by
  have hl : (xs ++ [v]).length = xs.length + 1 := by simp
  have e : ixN (xs ++ [v]).length (-1) = some xs.length := by
    unfold ixN
    rw [hl, if_neg (by decide), if_pos (by omega)]
    congr 1
    omega
  unfold atI
  rw [e]
  show (xs ++ [v])[xs.length]? = some v
  simp

/-! ### what may be subscripted -/
/-- what stands as an index of a plain subscript -/
def PlainIx (b : Expr) : Prop := ∀ o i, subscripted b false o i = operate [o, i] (getItem o i)
/-- a subscript by values -/
def IxR (X : Cx) (r : R2) : Prop :=
  ∀ (value slice : Expr) (pins : List (Addr × Obj)) (s : Shared) (σ : St) (H : Hp) (x y : V) (v u : Value) (Q : VK), Inv X pins σ H s → RelV x v → RelV y u → r x y H Q →
    subscripted slice false v u = operate [v, u] (getItem v u) → wpAny (model X.prog X.w) X.A (subscriptTail value slice v u) (EP X pins σ Q) X.xe s
/-- a call of a builtin's method by values: the receiver, the arguments -/
def MtR (X : Cx) (id : String) (r : V → List V → Hp → VK → Prop) : Prop :=
  ∀ (pins : List (Addr × Obj)) (s : Shared) (σ : St) (H : Hp) (x : V) (xs : List V) (v : Value) (us : List Value) (Q : VK), Inv X pins σ H s → RelV x v → Vals xs us → r x xs H Q →
    wpAny (model X.prog X.w) X.A (call (.builtin id) (v :: us)) (EP X pins σ Q) X.xe s
section
variable {X : Cx} {a b : Expr} {ta tb : TE} {pos : Pos}
theorem IxR.or {r r' : R2} (h : IxR X r) (h' : IxR X r') : IxR X (fun x y H Q => r x y H Q ∨ r' x y H Q) := by
  intro value slice pins s σ H x y v u Q I rx ry q hs
  rcases q with q | q
  · exact h value slice pins s σ H x y v u Q I rx ry q hs
  · exact h' value slice pins s σ H x y v u Q I rx ry q hs
theorem MtR.or {id : String} {r r' : V → List V → Hp → VK → Prop} (h : MtR X id r) (h' : MtR X id r') : MtR X id (fun x xs H Q => r x xs H Q ∨ r' x xs H Q) := by
  intro pins s σ H x xs v us Q I rx rs q
  rcases q with q | q
  · exact h pins s σ H x xs v us Q I rx rs q
  · exact h' pins s σ H x xs v us Q I rx rs q
/-- a[b] -/
theorem pe_ix {r : R2} (hr : IxR X r) (ha : PE X a ta) (hb : PE X b tb) (hs : PlainIx b) : PE X (.Subscript a b pos) (tOp r ta tb) := by
  intro pins s σ H Q I h
  exact Subscript_ (binT ha hb I h fun v u s2 x y H2 I2 rx ry q => hr a b pins s2 σ H2 x y v u Q I2 rx ry q (hs _ _))

def rIxL (K : PySem.W.Frag) : R2 := fun x y H Q => ∃ p xs i v, x = .ref p ∧ y = .int i ∧ SqL K H p xs ∧ atI xs i = some v ∧ Q v H
def rIxT (K : PySem.W.Frag) : R2 := fun x y H Q => ∃ p xs i v, x = .ref p ∧ y = .int i ∧ SqT K H p xs ∧ atI xs i = some v ∧ Q v H
def rIxS : R2 := fun x y H Q => ∃ z i c, x = .str z ∧ y = .int i ∧ z.length ≤ sizeLine ∧ atI z.cps.toList i = some c ∧ Q (.str ⟨#[c]⟩) H
theorem ix_list : IxR X (rIxL X.K) := by
  intro value slice pins s σ H x y v u Q I rx ry h hs
  obtain ⟨p, xs, i, z, rfl, rfl, hq, he, q⟩ := h
  cases rx
  obtain ⟨t, rfl⟩ := ry
  obtain ⟨its, r, pl, hz⟩ := I.list hq
  obtain ⟨j, h1, h2, h3, h4, h5⟩ := atI_get he
  obtain ⟨w, ew, rw'⟩ := r.get h2
  have hl := r.length
  have hn := line63
  have fin : EP X pins σ Q w s := ⟨z, H, I, rw', q⟩
  by_cases h0 : 0 ≤ i
  · have hj : i.toNat = j := by
      rw [seqIndex_of h0 h5] at h1
      exact Option.some.inj h1
    exact item_listR pl.isList h0 (by omega) (by rw [hj]; simpa using ew) fin hs
  · have hj : (i + (its.toArray.size : Int)).toNat = j := by
      rw [seqIndex_neg (by omega) h4] at h1
      rw [List.size_toArray, ← hl]
      exact Option.some.inj h1
    exact subscriptTail_builtinR (x := w) pl.isList.typeIs slot_list_getitem.lookup
      (wpAny_getItem_list_neg (Q := fun r s' => r = w ∧ EP X pins σ Q r s') pl.isList (by omega) (by rw [List.size_toArray] <;> omega) (by omega) (by rw [hj]; simpa using ew) ⟨rfl, fin⟩) hs
theorem ix_tup : IxR X (rIxT X.K) := by
  intro value slice pins s σ H x y v u Q I rx ry h hs
  obtain ⟨p, xs, i, z, rfl, rfl, hq, he, q⟩ := h
  cases rx
  obtain ⟨t, rfl⟩ := ry
  obtain ⟨its, r, pl, hz⟩ := I.tuple hq
  obtain ⟨j, h1, h2, h3, h4, h5⟩ := atI_get he
  obtain ⟨w, ew, rw'⟩ := r.get h2
  have hl := r.length
  have hn := line63
  have fin : EP X pins σ Q w s := ⟨z, H, I, rw', q⟩
  exact subscriptTail_builtinR (x := w) pl.typeIs slot_tuple_getitem.lookup
    (getItem_tuple (j := j) (Q := fun r s' => r = w ∧ EP X pins σ Q r s') pl (by omega) (by omega) (by rw [List.size_toArray, ← hl]; exact h1) (by simpa using ew) ⟨rfl, fin⟩) hs
theorem ix_str : IxR X rIxS := by
  intro value slice pins s σ H x y v u Q I rx ry h hs
  obtain ⟨z, i, c, rfl, rfl, hz, he, q⟩ := h
  obtain ⟨t, rfl⟩ := rx
  obtain ⟨t', rfl⟩ := ry
  obtain ⟨j, h1, h2, h3, h4, h5⟩ := atI_get he
  have hl : z.cps.toList.length = z.length := by simp [Str.length]
  rw [hl] at h1 h4 h5
  have hn := line63
  exact tail_any (typeIs_str s z t) slot_str_getitem.lookup (getItem_str (c := c) (by
    have e1 : decide (i < -(2 ^ 63 : Int)) = false := decide_eq_false (by omega)
    have e2 : decide (i ≥ 2 ^ 63) = false := decide_eq_false (by omega)
    rw [e1, e2, Bool.or_false]) (by rw [h1]; simpa using h2) ⟨.str ⟨#[c]⟩, H, I.tok _, ⟨_, rfl⟩, q⟩) hs
/-! ### xs[i] = v, any sign -/
/-- the list's object behind a store -/
theorem mapSeq_set (its : List Value) (n j : Nat) (u : Value) : Obj.mapSeq (·.setIfInBounds j u) { cls := .type "list", data := .seq its.toArray n } = { cls := .type "list", data := .seq (its.set j u).toArray n } := by
  simp [Obj.mapSeq]
theorem Inv.lst {pins : List (Addr × Obj)} {σ : St} {H : Hp} {s : Shared} {p : Addr} {xs : List V} (I : Inv X pins σ H s) (h : H p = some (.lst xs)) :
    ∃ (its : List Value) (n : Nat), Vals xs its ∧ s.heap.get? p = some { cls := .type "list", data := .seq its.toArray n } ∧ xs.length ≤ sizeLine := by
  obtain ⟨z, its, n, r, e⟩ := I.hok p _ h
  exact ⟨its, n, r, e, z⟩
/-- the list at p is written by an update of its object -/
theorem Inv.lstUpd {pins : List (Addr × Obj)} {σ : St} {H : Hp} {s : Shared} {p : Addr} {xs ys : List V} {its its' : List Value} {n n' : Nat} {f : Obj → Obj} (I : Inv X pins σ H s) (h : H p = some (.lst xs))
    (ho : s.heap.get? p = some { cls := .type "list", data := .seq its.toArray n }) (hf : f { cls := .type "list", data := .seq its.toArray n } = { cls := .type "list", data := .seq its'.toArray n' }) (r : Vals ys its') (hz : ys.length ≤ sizeLine) (t : Nat) :
    Inv X pins σ (upd H p (.lst ys)) { s with heap := s.heap.update p f, toks := t } := by
  have e : (s.heap.update p f).get? p = some { cls := .type "list", data := .seq its'.toArray n' } := by
    rw [Heap.get?_update_self f ho (by rw [hf] <;> rfl), hf]
  refine I.write (x := p) (e := p) (by rw [h]; trivial) (.inl rfl) (fun b u hb q => (Heap.get?_update_other _ _ (Ne.symm hb)).trans q) ⟨_, e⟩ ?_
  exact ⟨hz, its', n', r, e⟩
def rSetL : V → V → V → Hp → (Hp → Prop) → Prop := fun o i v H Q => ∃ p xs k j, o = .ref p ∧ i = .int k ∧ H p = some (.lst xs) ∧ ixN xs.length k = some j ∧ Q (upd H p (.lst (xs.set j v)))
theorem set_list : PSet X rSetL := by
  intro pins s σ H o i v ov iv u Q I ro ri rv h
  obtain ⟨p, xs, k, j, rfl, rfl, hp, hj, q⟩ := h
  cases ro
  obtain ⟨t, rfl⟩ := ri
  obtain ⟨its, n, r, ho, hz⟩ := I.lst hp
  obtain ⟨h1, h2, h3, h4⟩ := ixN_seq hj
  have hl := r.length
  have hn := line63
  have I' : Inv X pins σ (upd H p (.lst (xs.set j v))) { s with heap := s.heap.update p (Obj.mapSeq (·.setIfInBounds j u)) } :=
    I.lstUpd hp ho (mapSeq_set its n j u) (r.set rv j) (by rw [List.length_set]; exact hz) s.toks
  by_cases h0 : 0 ≤ k
  · have hk : k.toNat = j := by
      rw [seqIndex_of h0 h4] at h1
      exact Option.some.inj h1
    exact PySem.W.ki_setAt ho h0 (by omega) (by rw [List.size_toArray, ← hl]; exact h4) (by rw [hk]; exact ⟨_, I', q⟩)
  · have hk : (k + (its.toArray.size : Int)).toNat = j := by
      rw [seqIndex_neg (by omega) h3] at h1
      rw [List.size_toArray, ← hl]
      exact Option.some.inj h1
    exact PySem.W.ki_setBack ho (by omega) (by rw [List.size_toArray, ← hl]; exact h3) (by omega) (by rw [hk]; exact ⟨_, I', q⟩)

/-! ### slices -/
/-! ### in, not in: flat items -/
def flatV : V → Bool
  | .non => true
  | .bl _ => true
  | .int _ => true
  | .str _ => true
  | _ => false
/-- == of flat values -/
def eqV : V → V → Bool
  | .non, .non => true
  | .bl a, .bl b => a == b
  | .bl a, .int b => (if a then 1 else 0) == b
  | .int a, .bl b => a == (if b then 1 else 0)
  | .int a, .int b => a == b
  | .str a, .str b => a == b
  | _, _ => false
theorem eqAt_V {A : Around} {s : Shared} {y x : V} {u v : Value} (ry : RelV y u) (rx : RelV x v) (fy : flatV y = true) (fx : flatV x = true) : SeqAt.EqAt A s u v (eqV y x) := by
  cases y with
  | non =>
    cases ry
    cases x with
    | non => cases rx; exact SeqAt.EqAt.same _
    | bl b => cases rx; exact SeqAt.EqAt.none_bool b
    | int b => obtain ⟨t, rfl⟩ := rx; exact SeqAt.EqAt.none_int b t
    | str b => obtain ⟨t, rfl⟩ := rx; exact SeqAt.EqAt.none_str b t
    | _ => exact absurd (show false = true from fx) Bool.false_ne_true
  | bl a =>
    cases ry
    cases x with
    | non => cases rx; exact SeqAt.EqAt.bool_none a
    | bl b => cases rx; exact SeqAt.EqAt.bool_bool a b
    | int b => obtain ⟨t, rfl⟩ := rx; exact SeqAt.EqAt.bool_int a b t
    | str b => obtain ⟨t, rfl⟩ := rx; exact SeqAt.EqAt.bool_str a b t
    | _ => exact absurd (show false = true from fx) Bool.false_ne_true
  | int a =>
    obtain ⟨t', rfl⟩ := ry
    cases x with
    | non => cases rx; exact SeqAt.EqAt.int_none a t'
    | bl b => cases rx; exact SeqAt.EqAt.int_bool a t' b
    | int b => obtain ⟨t, rfl⟩ := rx; exact SeqAt.EqAt.int_int a t' b t
    | str b => obtain ⟨t, rfl⟩ := rx; exact SeqAt.EqAt.int_str a t' b t
    | _ => exact absurd (show false = true from fx) Bool.false_ne_true
  | str a =>
    obtain ⟨t', rfl⟩ := ry
    cases x with
    | non => cases rx; exact SeqAt.EqAt.str_none a t'
    | bl b => cases rx; exact SeqAt.EqAt.str_bool a t' b
    | int b => obtain ⟨t, rfl⟩ := rx; exact SeqAt.EqAt.str_int a t' b t
    | str b => obtain ⟨t, rfl⟩ := rx; exact SeqAt.EqAt.str_str a t' b t
    | _ => exact absurd (show false = true from fx) Bool.false_ne_true
  | _ => exact absurd (show false = true from fy) Bool.false_ne_true
/-- the items' answers, read off the values (a value's own answer does not lean on its token) -/
def eqU (x : V) (u : Value) : Bool := match u with
  | .none => eqV .non x
  | .bool b => eqV (.bl b) x
  | .int i _ => eqV (.int i) x
  | .str z _ => eqV (.str z) x
  | _ => false
theorem eqU_of {x y : V} {u : Value} (r : RelV y u) (f : flatV y = true) : eqU x u = eqV y x := by
  cases y with
  | non => cases r; rfl
  | bl b => cases r; rfl
  | int i => obtain ⟨t, rfl⟩ := r; rfl
  | str z => obtain ⟨t, rfl⟩ := r; rfl
  | _ => exact absurd (show false = true from f) Bool.false_ne_true
theorem any_eqU {x : V} : ∀ {xs : List V} {us : List Value}, Vals xs us → xs.all flatV = true → us.any (eqU x) = xs.any fun y => eqV y x
  | _, _, .nil, _ => rfl
  | y :: xs, u :: us, .cons r t, f => by
    rw [List.all_cons, Bool.and_eq_true] at f
    rw [List.any_cons, List.any_cons, eqU_of r f.1, any_eqU t f.2]
theorem mem_eqAt {A : Around} {s : Shared} {x : V} {v : Value} (rx : RelV x v) (fx : flatV x = true) : ∀ {xs : List V} {us : List Value}, Vals xs us → xs.all flatV = true → ∀ u ∈ us, SeqAt.EqAt A s u v (eqU x u)
  | _, _, .nil, _ => fun u hu => by cases hu
  | y :: xs, u :: us, .cons r t, f => fun u' hu => by
    rw [List.all_cons, Bool.and_eq_true] at f
    rcases List.mem_cons.mp hu with rfl | hu
    · rw [eqU_of r f.1]; exact eqAt_V r rx f.1 fx
    · exact mem_eqAt rx fx t f.2 u' hu
def inV (x : V) (xs : List V) : Bool := xs.any fun y => eqV y x
/-- x in a list or tuple of flat items -/
def rIn (K : PySem.W.Frag) (neg : Bool) : R2 := fun x y H Q => ∃ p xs, y = .ref p ∧ (SqL K H p xs ∨ SqT K H p xs) ∧ flatV x = true ∧ xs.all flatV = true ∧ Q (.bl (if neg then !inV x xs else inV x xs)) H
theorem op_in_seq : OpR X (compareOp .In) (rIn X.K false) := by
  intro pins s σ H x y v u Q I rx ry h
  obtain ⟨p, xs, rfl, hq, fx, fs, q⟩ := h
  cases ry
  rcases hq with hq | hq
  · obtain ⟨its, r, pl, hz⟩ := I.list hq
    refine SeqAt.in_listAt (eqU x) pl.isList (fun w hw => mem_eqAt rx fx r fs w (by simpa using hw)) ⟨.bl _, H, I, rfl, ?_⟩
    rw [show its.toArray.any (eqU x) = its.any (eqU x) by simp, any_eqU r fs]
    exact q
  · obtain ⟨its, r, pl, hz⟩ := I.tuple hq
    refine SeqAt.in_tupleAt (eqU x) pl (fun w hw => mem_eqAt rx fx r fs w (by simpa using hw)) ⟨.bl _, H, I, rfl, ?_⟩
    rw [show its.toArray.any (eqU x) = its.any (eqU x) by simp, any_eqU r fs]
    exact q
theorem op_notIn_seq : OpR X (compareOp .NotIn) (rIn X.K true) := by
  intro pins s σ H x y v u Q I rx ry h
  obtain ⟨p, xs, rfl, hq, fx, fs, q⟩ := h
  cases ry
  rcases hq with hq | hq
  · obtain ⟨its, r, pl, hz⟩ := I.list hq
    refine SeqAt.notIn_listAt (eqU x) pl.isList (fun w hw => mem_eqAt rx fx r fs w (by simpa using hw)) ⟨.bl _, H, I, rfl, ?_⟩
    rw [show its.toArray.any (eqU x) = its.any (eqU x) by simp, any_eqU r fs]
    exact q
  · obtain ⟨its, r, pl, hz⟩ := I.tuple hq
    refine SeqAt.notIn_tupleAt (eqU x) pl (fun w hw => mem_eqAt rx fx r fs w (by simpa using hw)) ⟨.bl _, H, I, rfl, ?_⟩
    rw [show its.toArray.any (eqU x) = its.any (eqU x) by simp, any_eqU r fs]
    exact q
/-! ### len, list(x), tuple(x) of any list or tuple that is read -/
theorem call_len_seq : CallR X (.builtin "len") (fun xs H Q => ∃ p ys, xs = [.ref p] ∧ (SqL X.K H p ys ∨ SqT X.K H p ys) ∧ Q (.int ys.length) H) := by
  intro pins s σ H xs us Q I r h
  obtain ⟨p, ys, rfl, hq, q⟩ := h
  obtain ⟨u, rfl, rx⟩ := vals1 r
  cases rx
  have hn := line63
  rcases hq with hq | hq
  · obtain ⟨its, r', pl, hz⟩ := I.list hq
    have hlen := r'.length
    exact Calls.call_len_list pl.isList (by simp only [List.size_toArray] <;> omega) ⟨.int ys.length, H, I.tok _, ⟨s.toks + 1, by rw [List.size_toArray, hlen]⟩, q⟩
  · obtain ⟨its, r', pl, hz⟩ := I.tuple hq
    have hlen := r'.length
    exact len_tuple pl (by simp only [List.size_toArray] <;> omega) ⟨.int ys.length, H, I.tok _, ⟨s.toks + 1, by rw [List.size_toArray, hlen]⟩, q⟩
theorem call_len_str : CallR X (.builtin "len") (fun xs H Q => ∃ z, xs = [.str z] ∧ z.length ≤ sizeLine ∧ Q (.int z.length) H) := by
  intro pins s σ H xs us Q I r h
  obtain ⟨z, rfl, hz, q⟩ := h
  obtain ⟨u, rfl, t, rfl⟩ := vals1 r
  have hn := line63
  exact len_str (by omega) ⟨.int z.length, H, I.tok _, ⟨_, rfl⟩, q⟩
theorem CallR.or {f : Value} {r r' : List V → Hp → VK → Prop} (h : CallR X f r) (h' : CallR X f r') : CallR X f (fun xs H Q => r xs H Q ∨ r' xs H Q) := by
  intro pins s σ H xs us Q I rs q
  rcases q with q | q
  · exact h pins s σ H xs us Q I rs q
  · exact h' pins s σ H xs us Q I rs q
theorem call_list_of : CallR X (.type "list") (fun xs H Q => ∃ p ys, xs = [.ref p] ∧ (SqL X.K H p ys ∨ SqT X.K H p ys) ∧ ∀ l, H l = none → Q (.ref l) (upd H l (.lst ys))) := by
  intro pins s σ H xs us Q I r h
  obtain ⟨p, ys, rfl, hq, q⟩ := h
  obtain ⟨u, rfl, rx⟩ := vals1 r
  cases rx
  have fin : ∀ (its : List Value), Vals ys its → ys.length ≤ sizeLine → ∀ (h' : Heap) (c' : Nat), (∀ b o', s.heap.get? b = some o' → h'.get? b = some o') →
      h'.get? s.heap.objs.size = some { cls := .type "list", dict := none, data := .seq its.toArray c', slots := #[] } → EP X pins σ Q (.ref s.heap.objs.size) { s with heap := h' } := fun its r' hz h' c' kp e =>
    ⟨.ref s.heap.objs.size, _, I.laid (t' := s.toks) kp (Nat.le_refl _) (show ObjOk X.prog X.w _ h' _ (.lst ys) from ⟨hz, its, c', r', e⟩), rfl, q _ (I.hok.fresh (Nat.le_refl _))⟩
  rcases hq with hq | hq
  · obtain ⟨its, r', pl, hz⟩ := I.list hq
    have hlen := r'.length
    obtain ⟨o, ho, hc, n, hd⟩ := pl.isList
    exact call_list_seq p (.inl rfl) ho hc hd (fun h' c' kp e => fin its r' hz h' c' kp e) (by simp only [List.size_toArray] <;> omega)
  · obtain ⟨its, r', pl, hz⟩ := I.tuple hq
    have hlen := r'.length
    obtain ⟨o, ho, hc, n, hd⟩ := pl
    exact call_list_seq p (.inr rfl) ho hc hd (fun h' c' kp e => fin its r' hz h' c' kp e) (by simp only [List.size_toArray] <;> omega)
theorem call_tuple_of : CallR X (.type "tuple") (fun xs H Q => ∃ p ys, xs = [.ref p] ∧ ((SqL X.K H p ys ∧ ∀ l, H l = none → Q (.ref l) (upd H l (.tup ys))) ∨ (SqT X.K H p ys ∧ Q (.ref p) H))) := by
  intro pins s σ H xs us Q I r h
  obtain ⟨p, ys, rfl, h⟩ := h
  obtain ⟨u, rfl, rx⟩ := vals1 r
  cases rx
  rcases h with ⟨hq, q⟩ | ⟨hq, q⟩
  · obtain ⟨its, r', pl, hz⟩ := I.list hq
    have hlen := r'.length
    refine call_tuple_list pl.isList (fun h' kp => ?_) (by simp only [List.size_toArray] <;> omega)
    have I1 : Inv X pins σ H { s with heap := h' } := I.kept (t' := s.toks) kp
    have I2 : Inv X pins σ (upd H h'.objs.size (.tup ys)) { s with heap := h'.push { cls := .type "tuple", data := .seq its.toArray } } :=
      I1.laid (t' := s.toks) (fun b o e => Heap.get?_push_of_some _ e) (Nat.le_refl _) (show ObjOk X.prog X.w _ _ _ (.tup ys) from ⟨hz, its, r', IsTup.new _ _⟩)
    exact ⟨.ref h'.objs.size, _, I2, rfl, q _ (I1.hok.fresh (Nat.le_refl _))⟩
  · obtain ⟨its, r', pl, hz⟩ := I.tuple hq
    exact call_tuple_same pl ⟨.ref p, H, I, rfl, q⟩

/-! ### the call of a builtin's method: o.m(..) -/
/-- the value is of that builtin type -/
def tyV (K : PySem.W.Frag) (T : String) (x : V) (H : Hp) : Prop := match x with
  | .str _ => T = "str"
  | .int _ => T = "int"
  | .ref p => (T = "list" ∧ ∃ xs, SqL K H p xs) ∨ (T = "tuple" ∧ ∃ o, K.lookup p = some o ∧ o.cls = .type "tuple" ∧ o.dict = none) ∨
      (T = "dict" ∧ ((∃ kvs, H p = some (.dK kvs)) ∨ ∃ kvs, H p = some (.dT kvs))) ∨ (T = "set" ∧ ∃ S n, H p = some (.set S n))
  | _ => False
theorem tyV_is {pins : List (Addr × Obj)} {σ : St} {H : Hp} {s : Shared} {T : String} {x : V} {v : Value} (I : Inv X pins σ H s) (r : RelV x v) (ty : tyV X.K T x H) :
    s.TypeIs v T ∧ ∀ a, v = .ref a → ∃ ob, s.heap.get? a = some ob ∧ ob.dict = none := by
  cases x with
  | str z =>
    obtain ⟨t, rfl⟩ := r
    cases (show T = "str" from ty)
    exact ⟨typeIs_str s z t, fun _ e => nomatch e⟩
  | int i =>
    obtain ⟨t, rfl⟩ := r
    cases (show T = "int" from ty)
    exact ⟨typeIs_int s i t, fun _ e => nomatch e⟩
  | ref p =>
    cases r
    rcases ty with ⟨rfl, xs, hq⟩ | ⟨rfl, o, hk, hc, hd⟩ | ⟨rfl, hk⟩ | ⟨rfl, S, n, hk⟩
    · obtain ⟨its, _, pl, _⟩ := I.list hq
      refine ⟨pl.isList.typeIs, fun a e => ?_⟩
      cases e
      obtain ⟨o, n, e, c, hd, _⟩ := pl
      exact ⟨o, e, hd⟩
    · refine ⟨⟨o, I.kIn p o hk, hc⟩, fun a e => ?_⟩
      cases e
      exact ⟨o, I.kIn _ o hk, hd⟩
    · have z : ∃ o, s.heap.get? p = some o ∧ o.ExactDict := by
        rcases hk with ⟨kvs, hk⟩ | ⟨kvs, hk⟩
        · obtain ⟨_, _, _, _, o, _, _, e, ex, _⟩ := I.hok p _ hk
          exact ⟨o, e, ex⟩
        · obtain ⟨_, _, _, _, o, _, _, e, ex, _⟩ := I.hok p _ hk
          exact ⟨o, e, ex⟩
      obtain ⟨o, e, ex⟩ := z
      refine ⟨⟨o, e, ex.1⟩, fun a e2 => ?_⟩
      cases e2
      exact ⟨o, e, ex.2.1⟩
    · obtain ⟨o, _, _, _, e, ex, _⟩ := I.hok p _ hk
      refine ⟨⟨o, e, ex.1⟩, fun a e2 => ?_⟩
      cases e2
      exact ⟨o, e, ex.2.1⟩
  | _ => exact False.elim ty
def tBM0 (K : PySem.W.Frag) (T : String) (r : V → List V → Hp → VK → Prop) (to : TE) : TE := fun σ H Q => to σ H fun x H1 => tyV K T x H1 ∧ r x [] H1 Q
def tBM (K : PySem.W.Frag) (T : String) (r : V → List V → Hp → VK → Prop) (to : TE) (t : TA) : TE := fun σ H Q => to σ H fun x H1 => tyV K T x H1 ∧ t σ H1 fun xs H2 => r x xs H2 Q
variable {o e : Expr} {es : List Expr} {to : TE} {t : TA} {name : Str} {apos cpos : Pos} {T id : String} {r : V → List V → Hp → VK → Prop}
theorem pe_bm0 (pa : PlainAttrs T) (slot : Slot T name id) (hty : typeOf (.builtin id) = pure (.type "method_descriptor")) (hm : MtR X id r) (ho : PE X o to)
    (hbase : attributeBase o name X.env (eval o X.env) = eval o X.env := by rfl) (hline : (apos.endLine == cpos.line) = true := by rfl) : PE X (.Call (.Attribute o name apos) [] [] cpos) (tBM0 X.K T r to) := by
  intro pins s σ H Q I h
  refine wpAny_Call_method0_late hbase hline (thn (ho pins s σ H _ I h) fun v s1 ⟨x, H1, I1, r1, ty, q1⟩ => ?_)
  obtain ⟨h1, h2⟩ := tyV_is I1 r1 ty
  exact ⟨T, id, pa, slot, hty, h1, h2, Calls.callWith_builtin rfl (PySem.evalArgs_none (hm pins s1 σ H1 x [] v [] Q I1 r1 .nil q1))⟩
theorem pe_bm (pa : PlainAttrs T) (slot : Slot T name id) (hty : typeOf (.builtin id) = pure (.type "method_descriptor")) (hm : MtR X id r) (ho : PE X o to) (ha : PA X (e :: es) t)
    (hbase : attributeBase o name X.env (eval o X.env) = eval o X.env := by rfl)
    (hfew : ((backTo cpos (starEach (e :: es) X.env)).all (fun x => !x.1) && (backToKw cpos (keywordEach [] X.env)).all (fun x => x.1.isSome)
      && decide ((e :: es).length + ([] : List Keyword).length + (if ([] : List Keyword).isEmpty then 0 else 1) < 30)) = true := by rfl)
    (hline : (apos.endLine == cpos.line) = true := by rfl) (hs : starEach (e :: es) X.env = (false, eval e X.env) :: starEach es X.env := by rfl) (hplain : (backTo cpos (starEach es X.env)).any (·.1) = false := by rfl) :
    PE X (.Call (.Attribute o name apos) (e :: es) [] cpos) (tBM X.K T r to t) := by
  intro pins s σ H Q I h
  refine wpAny_Call_method_late hbase hfew hline rfl (thn (ho pins s σ H _ I h) fun v s1 ⟨x, H1, I1, r1, ty, q1⟩ => ?_)
  obtain ⟨h1, h2⟩ := tyV_is I1 r1 ty
  refine ⟨T, id, pa, slot, hty, h1, h2, ?_⟩
  have hA := ha cpos pins s1 σ H1 _ I1 q1
  rw [hs] at hA ⊢
  refine Calls.callWith_builtin (by show (false || (backTo cpos (starEach es X.env)).any (·.1)) = false; rw [hplain] <;> rfl) (Calls.evalArgs_plain ?_)
  exact thn hA fun us s2 ⟨vs, H2, I2, r2, q2⟩ => hm pins s2 σ H2 x vs v us Q I2 r1 r2 q2
/- xs.append(e), list.index on a module's tuple .. are MtR facts of 06m -/
end
end L2

namespace L2
open PySem PySem.Spec PyProof.Rows

def MtM (X : Cx) (id : String) (r : V → List V → Hp → VK → Prop) : Prop :=
  ∀ (pins : List (Addr × Obj)) (s : Shared) (σ : St) (H : Hp) (x : V) (xs : List V) (v : Value) (us : List Value) (Q : VK), Inv X pins σ H s → RelV x v → Vals xs us → r x xs H Q →
    wpAny (model X.prog X.w) X.A (call (.builtin id) (v :: us)) (EP X pins σ Q) X.xe s

/-! ### lists of values -/
theorem Vals.one : ∀ {x : V} {us : List Value}, Vals [x] us → ∃ u, us = [u] ∧ RelV x u
  | _, _, .cons r .nil => ⟨_, rfl, r⟩
theorem Vals.two : ∀ {x y : V} {us : List Value}, Vals [x, y] us → ∃ u v, us = [u, v] ∧ RelV x u ∧ RelV y v
  | _, _, _, .cons r (.cons q .nil) => ⟨_, _, rfl, r, q⟩
theorem Vals.zero : ∀ {us : List Value}, Vals [] us → us = []
  | _, .nil => rfl
theorem Vals.dropLast {xs : List V} {us : List Value} (h : Vals xs us) : Vals xs.dropLast us.dropLast := by
  induction h with
  | nil => exact .nil
  | cons r t ih =>
    cases t with
    | nil => exact .nil
    | cons q t' => exact .cons r ih
theorem Vals.reverse {xs : List V} {us : List Value} (h : Vals xs us) : Vals xs.reverse us.reverse := by
  induction h with
  | nil => exact .nil
  | cons r t ih => rw [List.reverse_cons, List.reverse_cons]; exact Vals.append ih (.cons r .nil)
section
variable {X : Cx} {pins : List (Addr × Obj)} {σ : St} {H : Hp} {s : Shared} {l b : Addr} {xs ys zs : List V}

/-! ### the two steps: a tracked list is rewritten, a new list is laid -/
theorem Inv.lset {its its' : List Value} {n : Nat} {f : Array Value → Array Value} {t' : Nat} (I : Inv X pins σ H s) (hH : H l = some (.lst xs))
    (e : s.heap.get? l = some { cls := .type "list", data := .seq its.toArray n }) (hf : f its.toArray = its'.toArray) (hv : Vals ys its') (hz : ys.length ≤ sizeLine) :
    Inv X pins σ (upd H l (.lst ys)) { s with heap := s.heap.update l (Obj.mapSeq f), toks := t' } := by
  have q := PySem.IsL.update e f
  rw [hf] at q
  refine I.write (x := l) (e := l) (by rw [hH]; exact trivial) (.inl rfl) (fun b' u hb hu => (Heap.get?_update_other s.heap (Obj.mapSeq f) (Ne.symm hb)).trans hu) ⟨_, q⟩ ?_
  exact ⟨hz, its', _, hv, q⟩
theorem Inv.lnew {its : List Value} {t' : Nat} (I : Inv X pins σ H s) (hv : Vals ys its) (hz : ys.length ≤ sizeLine) :
    Inv X pins σ (upd H s.heap.objs.size (.lst ys)) { s with heap := s.heap.push { cls := .type "list", data := .seq its.toArray }, toks := t' } :=
  I.laid (fun _ _ q => Heap.get?_push_of_some _ q) (Nat.le_refl _) ⟨hz, its, 0, hv, Heap.get?_push_size _ rfl⟩
theorem Inv.fresh (I : Inv X pins σ H s) : H s.heap.objs.size = none := I.hok.fresh (Nat.le_refl _)
theorem Inv.lstM (I : Inv X pins σ H s) (hH : H l = some (.lst xs)) : xs.length ≤ sizeLine ∧ ∃ (its : List Value) (n : Nat), Vals xs its ∧ xs.length = its.length ∧ s.heap.get? l = some { cls := .type "list", data := .seq its.toArray n } := by
  obtain ⟨z, its, n, r, e⟩ := I.hok l _ hH
  exact ⟨z, its, n, r, r.length, e⟩

end

section
variable {X : Cx}

/-! ### methods -/
def rAppend : V → List V → Hp → VK → Prop := fun x vs H Q => ∃ l xs y, x = .ref l ∧ vs = [y] ∧ H l = some (.lst xs) ∧ xs.length < sizeLine ∧ Q .non (upd H l (.lst (xs ++ [y])))
theorem mt_append : MtM X "list.append" rAppend := by
  intro pins s σ H x vs v us Q I rx rv h
  obtain ⟨l, xs, y, rfl, rfl, hH, hz, q⟩ := h
  cases rx
  obtain ⟨u, rfl, ru⟩ := rv.one
  obtain ⟨z, its, n, r, hl, e⟩ := I.lstM hH
  refine call_meets F.slot_list_append ⟨_, e, rfl⟩ F.entry_list_append (F.args_list_append_2 _ _) (PySem.list_append l its.toArray n u (by rw [List.size_toArray]; omega)) ⟨e, ?_⟩
  refine ⟨.non, _, I.lset (its' := its ++ [u]) hH e (by simp) (r.append (.cons ru .nil)) ?_, rfl, q⟩
  rw [List.length_append, List.length_singleton]
  omega

def rClear : V → List V → Hp → VK → Prop := fun x vs H Q => ∃ l xs, x = .ref l ∧ vs = [] ∧ H l = some (.lst xs) ∧ Q .non (upd H l (.lst []))
theorem mt_clear : MtM X "list.clear" rClear := by
  intro pins s σ H x vs v us Q I rx rv h
  obtain ⟨l, xs, rfl, rfl, hH, q⟩ := h
  cases rx
  have hus := rv.zero
  subst hus
  obtain ⟨z, its, n, r, hl, e⟩ := I.lstM hH
  refine call_meets F.slot_list_clear ⟨_, e, rfl⟩ F.entry_list_clear (F.args_list_clear_1 _) (AutoSeq1.list_clear_list_0 l its.toArray n (by rw [List.size_toArray]; omega)) ⟨e, ?_⟩
  exact ⟨.non, _, I.lset (its' := []) (ys := []) hH e rfl .nil (Nat.zero_le _), rfl, q⟩

/-! ### list + list, list += list, list * int -/
def rCat : R2 := fun x y H Q => ∃ l b xs zs, x = .ref l ∧ y = .ref b ∧ H l = some (.lst xs) ∧ H b = some (.lst zs) ∧ xs.length + zs.length ≤ sizeLine ∧ ∀ p, H p = none → Q (.ref p) (upd H p (.lst (xs ++ zs)))
theorem op_cat : OpR X (binaryOp .Add) rCat := by
  intro pins s σ H x y v u Q I rx ry h
  obtain ⟨l, b, xs, zs, rfl, rfl, hH, hB, hz, q⟩ := h
  cases rx
  cases ry
  obtain ⟨z, its, n, r, hl, e⟩ := I.lstM hH
  obtain ⟨z2, its2, n2, r2, hl2, e2⟩ := I.lstM hB
  refine PySem.P.add_list e e2 ?_ (by rw [List.size_toArray, List.size_toArray]; omega)
  have ea : its.toArray ++ its2.toArray = (its ++ its2).toArray := by simp
  rw [ea]
  exact ⟨.ref _, _, I.lnew (t' := s.toks) (r.append r2) (by rw [List.length_append]; omega), rfl, q _ I.fresh⟩
/-! ### del xs[i] -/
end

/-! ### xs[a:b] = ys -/
section
variable {prog : Program} {w : World} {A : Around} {E : Value → Shared → Prop} {s : Shared}
set_option maxRecDepth 100000 in
end

section
variable {X : Cx}
end
end L2

namespace Att
open PySem PySem.W PySem.Calls PyProof.Rows

/-! ### the script -/
theorem ints_of_wellAll {P : Params} {h : Heap} : ∀ (ns : List Int) (vs : List Value), WellAll P h vs (ns.map WData.int) → IntsAre vs ns := by
  intro ns
  induction ns with
  | nil =>
    intro vs w
    rw [List.map_nil] at w
    cases w
    exact .nil
  | cons n ns ih =>
    intro vs w
    rw [List.map_cons] at w
    cases w with
    | cons a b =>
      cases a
      exact .cons _ _ (ih _ b)

theorem script_of {l : OpenLaw} {n : Nat} (hn : l.most = some n) {P : Params} {h : Heap} {args : List WData} {vals : List Value}
    (hpre : l.row.toRowW.claim.pre args = true) (hwl : WellAll P h vals args) :
    ∃ a vs ns, vals = [Value.ref a] ∧ args = [WData.list (ns.map WData.int)] ∧ h.get? a = some { cls := .type "list", data := .seq vs.toArray } ∧ IntsAre vs ns ∧ ns.length ≤ n := by
  have hsh : WShape.hasAll [] args [.list .int] = true := (pre_splitW hpre).1
  have hc : l.pre.holds [] { args := args } = true := (pre_splitW hpre).2
  obtain ⟨d, r, rfl, h1, h2⟩ := hasAllW_cons hsh
  obtain rfl := hasAllW_nil h2
  obtain ⟨xs, rfl, h3⟩ := hasW_list h1
  obtain ⟨ns, rfl⟩ := items_int h3
  have hlen : ns.length ≤ n := by
    unfold OpenLaw.pre at hc
    have h4 : (WTm.not (.lt (.lit (.int (n : Int))) (.len (.arg 0)))).holds [] { args := [.list (ns.map .int)] } = true := by
      have h4 := (holds_andW hc).1
      rw [hn] at h4
      exact h4
    have h5 := condW_of h4 (w_not (w_lt w_lit (w_len_list (w_arg rfl))))
    rw [List.length_map] at h5
    refine Nat.le_of_not_lt fun q => ?_
    have q' : (n : Int) < ((ns.length : Nat) : Int) := by omega
    first
      | (rw [decide_eq_true q'] at h5; exact absurd h5 (by decide))
      | (simp at h5; omega)
  cases hwl with
  | cons w1 w2 =>
    cases w2
    cases w1 with
    | list ho hall => exact ⟨_, _, ns, rfl, rfl, ho, ints_of_wellAll ns _ hall, hlen⟩

theorem post_true (l : OpenLaw) (args : List WData) : l.row.toRowW.claim.post args (.bool true) args = true :=
  postW_of (r := l.row.toRowW) (X := (true == true))
    (show WShape.has [] (.bool true) .bool = true by first | rfl | decide | simp [WShape.has, WShape.arms, WShape.armsAll])
    (show (WTm.eq .res (.lit (.bool true))).value [] { args := args, res := some (.bool true), after := args } = some (.bool (true == true)) from w_eq_bool (w_res rfl) w_lit) rfl

/-! ### the attachment: holds_open's last premise (the goal 'hc' behind k_head) from a wpAny of the law's body -/
/-- the same from a codeAny of the CALL (for a layer whose function contracts speak of calls) -/
theorem attach_call {l : OpenLaw} {n : Nat} {q : Program} {loose : List Str} {XP : (Str → Option Value) → Heap → Prop} {YP : World → Heap → Prop} {d : DefRec}
    (hn : l.most = some n) (hdf : d.params.defaults = [])
    (call : ∀ (w : World) (s₀ s₁ : Shared) (mg mb : Str → Option Value) (fa : Addr) (o : Obj) (pm cd doc : Value) (a : Addr) (vs : List Value) (ns : List Int),
      Ground q loose [] XP w s₀ mg mb s₁.heap → YP w s₁.heap →
      s₁.heap.get? fa = some o → o.data = .func (docDef d.name d.params d.body d.scope pm cd doc) → s₁.heap.CodeRec cd d.name → mg d.name = some (.ref fa) →
      s₁.heap.get? a = some { cls := .type "list", data := .seq vs.toArray } → IntsAre vs ns → ns.length ≤ n → s₁.gens = #[] →
      codeAny (model l.prog w) callerA (.call (.ref fa) ⟨[.ref a], []⟩) (fun r s' => r = .ok (.ret (.bool true)) ∧ OldK s₁.heap s'.heap ∧ s'.os = s₁.os ∧ AllBare s'.gens) s₁) :
    WalkO q loose XP YP l.row.toRowW d [] (fun f vs => PySem.call f vs) := by
  intro w s₀ s₁ mg mb G Y fa o pm cd doc dV kV ho hd hcd hD hmg hg args vals as hpre hlay hrd hwl hlo
  obtain rfl : dV = .none := Dflts.none hD hdf
  obtain rfl : kV = .none := Dflts.noKw hD
  obtain ⟨a, vs, ns, rfl, rfl, hobj, hints, hlen⟩ := script_of hn hpre hwl
  refine enter_call (codeAny_mono (call w s₀ s₁ mg mb fa o pm cd doc a vs ns G Y ho (fd_plain hd) hcd hmg hobj hints hlen hg) fun r s' hq => ?_)
  obtain ⟨rfl, h2, h3, h4⟩ := hq
  exact ⟨.inl ⟨.bool true, .bool true, [], rfl, fun _ => rfl, .bool true, post_true l _, fun _ => ⟨List.Pairwise.nil, fun _ hm => (nomatch hm)⟩⟩, h2, h3, h4⟩

/-! ### rules over ANY heap (no ledger) from facts about the written part K: the library's own take a ledger (News) for what they write -/
section
variable {prog : Program} {w : World} {A : Around} {E : Value → Shared → Prop} {s : Shared} {K : Frag}

/-! the whole heap as the ledger: makes every rule that writes through a ledger a rule over any heap -/
def ledger (h : Heap) (L d : Addr) : List (Addr × Obj) := (List.range h.objs.size).filterMap fun a => if a = L ∨ a = d then none else (h.get? a).map fun o => (a, o)
end
end Att

namespace L2
open PySem PySem.Spec PyProof.Rows

theorem vals_ints : ∀ {vs : List Value} {ns : List Int}, IntsAre vs ns → Vals (ns.map V.int) vs
  | _, _, .nil => .nil
  | _, _, .cons n t h => .cons ⟨t, rfl⟩ (vals_ints h)

/-- nothing is tracked but the script, known to the object (or it is an object of the module) -/
def Only (H : Hp) : Prop := ∀ b, H b = none ∨ ∃ o xs, H b = some (.frz o (.lst xs))

/-- THE HEAD: the law's promise, at the heap behind the top. F, the promise of the law's def, may use that base is part of the heap (so K.In base, base.Ns mainGlobals mg stand in Mod) -/
theorem law_call {P : Program} {w : World} {K : PySem.W.Frag} {mg mb : Str → Option Value} {CX : CXT} {k : Nat} {fa a : Addr} {fd : FuncData} {x : Str} {sp : Sp} {s₁ : Shared} {vs : List Value} {ns : List Int}
    (KX : K.In s₁.heap) (hns : s₁.heap.Ns mainGlobals mg) (hb : s₁.heap.Ns builtinsNs mb) (hbb : ∀ x : Str, x ≠ "__name__" → mb x = bootBuiltins x) (hlim : s₁.heap.NoLimit) (hg : s₁.gens = #[])
    (ha : s₁.heap.get? a = some { cls := .type "list", data := .seq vs.toArray }) (hi : IntsAre vs ns) (hl : ns.length ≤ sizeLine) (hr : Room k callerA)
    (F : ∀ base : Heap, K.In base → base.Ns mainGlobals mg → FnOk P w K mg base CX k fa fd [x] sp) (hbind : ∀ (s : Shared) (u : Value), BindsTo s fd ⟨[u], []⟩ [(x, u)])
    (hsp : ∀ H : Hp, Only H → SqL K H a (ns.map V.int) → sp [.ref a] H (fun v _ => v = .bl true) fun _ _ _ => False)
    (hCX : ∀ H e s', CX [] H s₁ (fun _ _ _ => False) e s' → False) :
    codeAny (model P w) callerA (.call (.ref fa) ⟨[.ref a], []⟩) (fun r s' => r = .ok (.ret (.bool true)) ∧ OldK s₁.heap s'.heap ∧ s'.os = s₁.os ∧ AllBare s'.gens) s₁ := by
  have rv := vals_ints hi
  have lenV := hi.length
  -- from an abstract heap in which nothing but the script may be tracked
  have core : ∀ H : Hp, Only H → SqL K H a (ns.map V.int) → HOk P w H s₁.heap → (∀ b, H b ≠ none → b = a) → (H a ≠ none → K.lookup a = none) →
      codeAny (model P w) callerA (.call (.ref fa) ⟨[.ref a], []⟩) (fun r s' => r = .ok (.ret (.bool true)) ∧ OldK s₁.heap s'.heap ∧ s'.os = s₁.os ∧ AllBare s'.gens) s₁ := by
    intro H hO hS hok hA hK
    have base_of : ∀ {b : Addr} {o : Obj}, s₁.heap.get? b = some o → H b = none → (hidT s₁.heap H).get? b = some o := fun e n => hidT_get e n
    have noA : ∀ {b : Addr} {o : Obj} {es : Array DictEntry} {ep : Nat}, s₁.heap.get? b = some o → o.data = .dict es ep → H b = none := fun {b o es ep} e d => by
      cases q : H b with
      | none => rfl
      | some u =>
        have e' : b = a := hA b (by rw [q]; simp)
        subst e'
        rw [ha] at e; cases e
        have d' : Data.seq vs.toArray _ = Data.dict es ep := d
        cases d'
    have nsK : ∀ {b : Addr} {m : Str → Option Value}, s₁.heap.Ns b m → (hidT s₁.heap H).Ns b m := fun {b m} ⟨o, es, ep, e, d, r⟩ => ⟨o, es, ep, base_of e (noA e d), d, r⟩
    have hKb : K.In (hidT s₁.heap H) := fun b o e => base_of (KX b o e) (by
      cases q : H b with
      | none => rfl
      | some u =>
        have e' : b = a := hA b (by rw [q]; simp)
        subst e'
        rw [hK (by rw [q]; simp)] at e; cases e)
    have hM : Mod K mg (hidT s₁.heap H) := ⟨hKb, nsK hns, ⟨mb, nsK hb, hbb⟩, let ⟨mc, h1, h2⟩ := hlim; ⟨mc, nsK h1, h2⟩⟩
    have e0 : Env0 P w K mg (hidT s₁.heap H) callerA [] s₁ H := ⟨rfl, hM, fun b o e => of_hidT e, Nat.le_of_eq (hidT_size _ _), trivial, fun b hb => absurd (show b ∈ ([] : List Addr) from hb) (by simp), hok, .of_eq hg⟩
    refine codeAny_mono ((F _ hKb (nsK hns)).run callerA [] s₁ H ⟨[.ref a], []⟩ [.ref a] [.ref a] _ _ hr e0 (hbind s₁ (.ref a)) (.cons rfl .nil) (hsp H hO hS)) fun r s' h => ?_
    cases r with
    | error e => exact (hCX H e s' h).elim
    | ok fl =>
      cases fl with
      | next => exact False.elim h
      | brk => exact False.elim h
      | cont => exact False.elim h
      | ret u =>
        obtain ⟨v, H', os, bare, un, hok', r', q⟩ := h
        have q' : v = .bl true := q
        subst q'
        obtain rfl : u = Value.bool true := r'
        refine ⟨rfl, OldK.of_keep fun b o e => ?_, os, bare⟩
        cases q : H b with
        | none => exact un.keep b o e q (by intro z; exact absurd (show b ∈ ([] : List Addr) from z) (by simp)) (by simp)
        | some u =>
          rcases hO b with z | ⟨ob, xs, z⟩
          · rw [q] at z; cases z
          · have z2 := un.frzs b ob _ z
            obtain ⟨e1, _⟩ := hok b _ z
            obtain ⟨e2, _⟩ := hok' b _ z2
            rw [e] at e1; cases e1
            exact e2
  cases hk : K.lookup a with
  | some o =>
    -- the script is one of the module's own objects
    have e := KX a o hk
    rw [ha] at e
    cases e
    refine core (fun _ => none) (fun _ => .inl rfl) (.inr ⟨_, vs.toArray, _, hk, rfl, rfl, rfl, by rw [List.size_toArray, lenV]; exact hl, by simpa using rv⟩) (fun b u z => by have z' : (none : Option HO) = some u := z; cases z') (fun b z => absurd rfl z) fun z => absurd rfl z
  | none =>
    refine core (fun b => if b = a then some (.frz { cls := .type "list", data := .seq vs.toArray } (.lst (ns.map V.int))) else none) (fun b => ?_) (.inl (.inr ⟨{ cls := .type "list", data := .seq vs.toArray }, if_pos rfl⟩)) (fun b u z => ?_) (fun b z => ?_) fun _ => hk
    · by_cases hb : b = a
      · exact .inr ⟨_, _, if_pos hb⟩
      · exact .inl (if_neg hb)
    · by_cases hb : b = a
      · have z' := (if_pos hb).symm.trans z
        cases z'
        subst hb
        exact ⟨ha, by rw [List.length_map]; exact hl, vs, _, rv, ha⟩
      · have z' := (if_neg hb).symm.trans z
        cases z'
    · by_cases hb : b = a
      · exact hb
      · exact absurd (if_neg hb) z
end L2

namespace L2
open PySem PySem.Spec PyProof.Rows

abbrev KOf {K : PySem.W.Frag} {h : Heap} (_ : K.In h) : PySem.W.Frag := K

/-- the goal that k_head leaves (case hc), from the law's promise. F gives the function object fd (K's own) once, then the promise over every base -/
theorem walk_of {l : PySem.W.OpenLaw} {n k : Nat} {q : Program} {loose : List Str} {XP : (Str → Option Value) → Heap → Prop} {YP : World → Heap → Prop} {d : DefRec} {K : Params → PySem.W.Frag} {CX : World → CXT} {sp : World → Sp} {x : Str}
    (hn : l.most = some n) (hn2 : n ≤ sizeLine) (hdf : d.params.defaults = []) (hr : Room k callerA)
    (hY : ∀ (w : World) (h : Heap), YP w h → (K w.params).In h)
    (F : ∀ (w : World) (mg : Str → Option Value) (fa : Addr) (h : Heap), (K w.params).In h → h.Ns mainGlobals mg → mg d.name = some (.ref fa) →
      ∃ fd : FuncData, (∀ (s : Shared) (u : Value), BindsTo s fd ⟨[u], []⟩ [(x, u)]) ∧
        ∀ base : Heap, (K w.params).In base → base.Ns mainGlobals mg → FnOk l.prog w (K w.params) mg base (CX w) k fa fd [x] (sp w))
    (hsp : ∀ (w : World) (H : Hp) (a : Addr) (ns : List Int), ns.length ≤ n → Only H → SqL (K w.params) H a (ns.map V.int) → sp w [.ref a] H (fun v _ => v = .bl true) fun _ _ _ => False)
    (hCX : ∀ (w : World) (H : Hp) (s : Shared) (e : Value) (s' : Shared), CX w [] H s (fun _ _ _ => False) e s' → False) :
    PySem.W.WalkO q loose XP YP l.row.toRowW d [] (fun f vs => PySem.call f vs) := by
  refine Att.attach_call hn hdf fun w s₀ s₁ mg mb fa o pm cd doc a vs ns G Y ho hd hcd hmg hobj hints hlen hg => ?_
  have KX := hY w _ Y
  obtain ⟨fd, hb, hF⟩ := F w mg fa _ KX G.T.g hmg
  exact law_call KX G.T.g G.T.b G.T.builtins G.T.nolimit hg hobj hints (Nat.le_trans hlen hn2) hr hF hb (fun H hO hS => hsp w H a ns hlen hO hS) fun H e s' => hCX w H s₁ e s'
end L2

/- THE LAST THEOREM (shape; LID, My.* are yours):
   My.Adr: a structure of the addresses that your layer names (classes, functions); My.Txt K t: a structure (Prop) of the equations over K;
   My.txt_mk : {K} {implicit addresses ..} (e1 : nsIn K mainGlobals "law" = some (some (.ref f))) (e2 : K.lookup f = some ⟨oc, od, .func (fnOf "law" "law" params body scope dV kV doc pm an cdv ct), sl⟩) (e3 : codeIn K cdv "law" = true) .. : ∃ t, My.Txt K t

set_option maxRecDepth 100000 in
set_option maxHeartbeats 0 in
theorem PySem.Challenge.cw_LID_holds : PySem.Challenge.rw_LID.Holds := by
  w_on; o_law; k_head; (case hw => w_witness2)
  k_fill
  refine L2.walk_of (l := PySem.Challenge.rw_LID) (n := 63) (k := 40) (x := "script") (CX := fun w => ..) (sp := fun _ => My.sp_law) rfl (by decide) rfl ⟨rfl, by decide, by decide⟩ (fun w h Y => PySem.W.kIn_of Y) ?F ?S ?C
  case F =>
    intro w mg fa h KX G hmg
    have T : ∃ t, My.Txt (L2.KOf KX) t := by
      dsimp only [L2.KOf]                          -- K must stand as «<heap const> w.params» for k_is
      refine' My.txt_mk ?e1 ?e2 ?e3 ..
      (case e1 => PySem.W.k_is)                    -- in the order: a name -> its address -> its object -> its parts
      (case e2 => PySem.W.k_is)
      ..
    obtain ⟨t, T⟩ := T
    have e0 := hmg.symm.trans (PySem.W.mg_of KX G T.law)
    cases e0                                       -- fa is the law's own address
    exact ⟨_, fun s u => .of_eq rfl, fun base kb nb => My.law_fn T kb nb⟩     -- if «.of_eq rfl» comes too early: refine' ⟨_, ?b, fun base kb nb => My.law_fn T kb nb⟩; exact fun s u => .of_eq rfl
  case S => exact fun w H a ns hl hO hS => ..
  case C => exact ..
(the tactic k_is has no namespace: write k_is) -/

/-! SHORT WORDS over the layer: a def of the text, its body, what a loop and a test want. -/
namespace L2
open PySem PySem.Spec PyProof.Rows

/-! ### the text by places -/
def defArgs (s : Stmt) : Arguments := match s with
  | .FunctionDef _ a _ _ _ _ _ _ _ _ => a
  | _ => { posonlyargs := [], args := [], vararg := none, kwonlyargs := [], kw_defaults := [], kwarg := none, defaults := [] }
def defBody (s : Stmt) : List Stmt := match s with
  | .FunctionDef _ _ b _ _ _ _ _ _ _ => b
  | _ => []
def defScope (s : Stmt) : Scope := match s with
  | .FunctionDef _ _ _ _ _ _ sc _ _ _ => sc
  | _ => { kind := .function, names := [], isGenerator := false, isCoroutine := false }

/-! ### no exception leaves a def -/
abbrev CX0 : CXT := fun _ _ _ _ _ _ => False
abbrev E0 : XK := fun _ _ _ => False
theorem pass0 {X : Cx} : Passes CX0 X E0 := fun _ _ _ _ _ _ _ h => h.elim

/-! ### a def (or method) of the text as it stands behind the top -/
structure Fun (K : PySem.W.Frag) (x qual : Str) (st : Stmt) (f : Addr) (fd : FuncData) : Prop where
  ex : ∃ (oc : Value) (od : Option Addr) (kV doc pm : Value) (an : Option Addr) (cdv ct : Value) (osl : Array (Option Value)),
    fd = PySem.W.fnOf x qual (defArgs st) (defBody st) (defScope st) .none kV doc pm an cdv ct ∧ K.lookup f = some ⟨oc, od, .func fd, osl⟩ ∧ PySem.W.codeIn K cdv qual = true
  kp : PySem.W.keepIn K (.ref f) = true
section
variable {P : Program} {w : World} {K : PySem.W.Frag} {mg : Str → Option Value} {base : Heap}
/-- THE RULE for a def: its body as a term of rules, and the reading of that term -/
theorem Fun.ok {x qual : Str} {st : Stmt} {f : Addr} {fd : FuncData} {N ps : List Str} {k : Nat} {sp : Sp} (F : Fun K x qual st f fd) (S : FnScope N ps (defScope st)) (len : ∀ vs H Q E, sp vs H Q E → vs.length = ps.length)
    (hbody : ∀ (cdv : Value) (A : Around) (outer : List Env) (s : Shared) (H : Hp) (vs : List V) (Q : VK) (E : XK), Room k (A.deeper (envOfC qual (defScope st) s.heap.objs.size f cdv)) → sp vs H Q E →
      ∃ t, PSs (cxOf CX0 P w K mg base N qual (defScope st) f cdv A outer s H E).nox (defBody st) t ∧ t { nx := fun _ H' => Q .non H', rt := Q } (start N vs) H) : FnOk P w K mg base CX0 (k + 1) f fd ps sp := by
  obtain ⟨oc, od, kV, doc, pm, an, cdv, ct, osl, rfl, lk, hcd⟩ := F.ex
  refine fn_of lk hcd S len fun A outer s H vs Q E hr hsp => ?_
  obtain ⟨t, h, q⟩ := hbody cdv A outer s H vs Q E hr hsp
  exact ⟨t, h.nox, q⟩
/-- how its arguments bind (no defaults): h is «fun _ _ _ _ _ _ us hl => match us, hl with | [_, _], _ => rfl», one _ a parameter -/
theorem Fun.binds {x qual : Str} {st : Stmt} {f : Addr} {fd : FuncData} {ps : List Str} (F : Fun K x qual st f fd)
    (h : ∀ (kV doc pm : Value) (an : Option Addr) (cdv ct : Value) (us : List Value), us.length = ps.length → bindArgs (PySem.W.fnOf x qual (defArgs st) (defBody st) (defScope st) .none kV doc pm an cdv ct) ⟨us, []⟩ = pure (ps.zip us)) : Binds K fd ps [] := by
  obtain ⟨oc, od, kV, doc, pm, an, cdv, ct, osl, rfl, lk, hcd⟩ := F.ex
  exact .all (h kV doc pm an cdv ct)
theorem fun_mk {x qual : Str} {st : Stmt} {f : Addr} {oc : Value} {od an : Option Addr} {osl : Array (Option Value)} {kV doc pm cdv ct : Value} (l : K.lookup f = some ⟨oc, od, .func (PySem.W.fnOf x qual (defArgs st) (defBody st) (defScope st) .none kV doc pm an cdv ct), osl⟩)
    (c : PySem.W.codeIn K cdv qual = true) (k : PySem.W.keepIn K (.ref f) = true) : Fun K x qual st f (PySem.W.fnOf x qual (defArgs st) (defBody st) (defScope st) .none kV doc pm an cdv ct) := ⟨⟨oc, od, kV, doc, pm, an, cdv, ct, osl, rfl, l, c⟩, k⟩
end
theorem small1000 {n : Nat} (h : n ≤ 1000) : n < sizeLine := Nat.lt_of_le_of_lt h (by decide)

/-! ### expressions in short: the name that stands in the i-th slot -/
section
variable {X : Cx}
theorem pv (i : Nat) {x : Str} {pos : Pos} (hN : X.N[i]? = some x := by rfl) (hv : Vis X.env.scope x := by first | exact Or.inl rfl | exact Or.inr (Or.inl rfl) | exact Or.inr (Or.inr rfl)) (hd : (x == ("__debug__" : Str)) = false := by decide)
    (hcd : (x == ("__classdict__" : Str)) = false := by decide) : PE X (.Name x pos) (tVar i) := pe_var hN hv hd hcd
end

/-! ### tests -/
theorem iteF {A B : Prop} (h : B) : if false = true then A else B := by
  rw [if_neg Bool.false_ne_true]
  exact h
theorem iteT {A B : Prop} (h : A) : if true = true then A else B := by
  rw [if_pos rfl]
  exact h
theorem ite2 {c A B : Prop} [Decidable c] (h1 : c → A) (h2 : ¬ c → B) : if c then A else B := by
  by_cases h : c
  · rw [if_pos h]
    exact h1 h
  · rw [if_neg h]
    exact h2 h
/-! ### heaps -/
/-- all that was tracked is as it was -/
def Same (H H' : Hp) : Prop := ∀ b o, H b = some o → H' b = some o
theorem Same.refl (H : Hp) : Same H H := fun _ _ h => h
theorem Same.trans {H H1 H2 : Hp} (a : Same H H1) (b : Same H1 H2) : Same H H2 := fun c o h => b c o (a c o h)
theorem Same.free {H H' : Hp} (e : Same H H') {l : Addr} (h : H' l = Option.none) : H l = Option.none := by
  cases q : H l with
  | none => rfl
  | some o =>
    rw [e l o q] at h
    cases h
theorem Same.seq {K : PySem.W.Frag} {H H' : Hp} {a : Addr} {xs : List V} (e : Same H H') (h : SqL K H a xs) : SqL K H' a xs := by
  rcases h with (h | ⟨o, h⟩) | h
  · exact .inl (.inl (e _ _ h))
  · exact .inl (.inr ⟨o, e _ _ h⟩)
  · exact .inr h

end L2
set_option Elab.async false
set_option linter.all false
set_option maxRecDepth 100000
set_option maxHeartbeats 4000000
namespace L2
open PySem PySem.Spec PyProof.Rows

section
variable {prog : Program} {w : World} {A : Around} {R : Result → Shared → Prop} {s : Shared}
/-- the comprehension's loop, the step ahead of the store kept -/
theorem compLoop_go {elt target iter : Expr} {ifs : List Expr} {scope : Scope} {pos : Pos} {it acc : Value} {env : Env} (I : Nat → Shared → Prop)
    (turn : ∀ n s, I n s → wpAny (model prog w) A (pyNext it) (fun r s₁ => match r with
      | none => R (.ok .next) s₁
      | some v => wpAny (model prog w) A (letOwnedTupleGo target it v) (fun _ s₀ => wpAny (model prog w) A (assign target env v) (fun _ s₂ =>
          wpAny (model prog w) A (forIn ifs true fun c r => if r = true then do let ok ← isTrue c env (eval c env); pure (ForInStep.yield ok) else pure (ForInStep.yield r)) (fun ok s₃ =>
            if ok = true then wpAny (model prog w) A (eval elt env) (fun x s₄ =>
              wpAny (model prog w) A (call (.builtin "list.append") [acc, x]) (fun _ s₅ => ∃ m, m < n ∧ I m s₅) (notedBy (model prog w) A env fun e s' => R (.error e) s') s₄) (notedBy (model prog w) A env fun e s' => R (.error e) s') s₃
            else ∃ m, m < n ∧ I m s₃) (notedBy (model prog w) A env fun e s' => R (.error e) s') s₂) (notedBy (model prog w) A env fun e s' => R (.error e) s') s₀) (notedBy (model prog w) A env fun e s' => R (.error e) s') s₁) (notedBy (model prog w) A env fun e s' => R (.error e) s') s)
    (n : Nat) (h : I n s) :
    codeAny (model prog w) A (.compLoop (.ListComp elt [⟨target, iter, ifs, 0⟩] scope pos) 0 it acc env) R s := by
  refine codeAny_loop rfl I (fun n s hI => ?_) n h
  show wpAny _ A ((compTurn (.ListComp elt [⟨target, iter, ifs, 0⟩] scope pos) 0 it acc env).onRaise (fun x => do noteFrame x env; theTreesLotGoes x)) _ _ s
  refine wpAny_noted ?_
  rw [compTurn_list]
  refine wpAny_bind (wpAny_standAt (wpAny_bind (wpAny_mono (turn n s hI) (fun r s₁ h₁ => ?_) fun _ _ h' => h')))
  cases r with
  | none => exact wpAny_pure h₁
  | some v =>
    refine wpAny_bind (wpAny_mono h₁ (fun _ s₀ h₀ => ?_) fun _ _ h' => h')
    refine wpAny_bind (wpAny_mono h₀ (fun _ s₂ h₂ => wpAny_bind (wpAny_mono h₂ (fun ok s₃ h₃ => ?_) fun _ _ h' => h')) fun _ _ h' => h')
    cases ok with
    | false => exact wpAny_pure ⟨rfl, h₃⟩
    | true =>
      exact wpAny_bind (wpAny_bind (wpAny_mono h₃ (fun x s₄ h₄ => wpAny_bind (wpAny_mono h₄ (fun _ s₅ h₅ => wpAny_pure (wpAny_pure ⟨rfl, h₅⟩)) fun _ _ h' => h')) fun _ _ h' => h'))
end

/-- the closure that a comprehension takes -/
def closL (env : Env) (l : List (Str × NameKind)) : List (Str × Addr) → List (Str × Addr) := fun cs => l.foldl (fun cs p => if p.2 == .free then (p.1, (env.cells.lookup p.1).getD 0) :: cs else cs) cs
def FreeIn (env : Env) (l : List (Str × NameKind)) : Prop := ∀ p ∈ l, p.2 = .free → ∃ c, env.cells.lookup p.1 = some c
theorem closure_eq {env : Env} {scope : Scope} (h : FreeIn env scope.names) : closureFor scope env = pure (closL env scope.names []) := by
  have all : ∀ (l : List (Str × NameKind)) (cs : List (Str × Addr)), FreeIn env l → (forIn l cs fun x r => if (x.2 == .free) = true then do let a ← cellOf env x.1; pure (ForInStep.yield ((x.1, a) :: r)) else pure (ForInStep.yield r) : Sem (List (Str × Addr))) = pure (closL env l cs) := by
    intro l
    induction l with
    | nil => intro cs _; rfl
    | cons p r ih =>
      intro cs hf
      have e : closL env (p :: r) cs = closL env r (if p.2 == .free then (p.1, (env.cells.lookup p.1).getD 0) :: cs else cs) := rfl
      rw [List.forIn_cons, e]
      cases hk : (p.2 == NameKind.free) with
      | true =>
        obtain ⟨c, hc⟩ := hf p List.mem_cons_self (eq_of_beq hk)
        have hcell : cellOf env p.1 = pure c := by unfold cellOf; rw [hc]
        simp only [if_true, hcell, pure_bind]
        rw [ih _ fun q hq => hf q (List.mem_cons_of_mem _ hq), hc]
        rfl
      | false =>
        simp only [Bool.false_eq_true, if_false, pure_bind]
        exact ih _ fun q hq => hf q (List.mem_cons_of_mem _ hq)
  have := all scope.names [] h
  simpa [closureFor] using this
theorem clos_sub {env : Env} : ∀ {l : List (Str × NameKind)} {cs : List (Str × Addr)} {x : Str} {c : Addr}, FreeIn env l → (closL env l cs).lookup x = some c → cs.lookup x = some c ∨ env.cells.lookup x = some c
  | [], _, _, _, _, h => .inl h
  | p :: r, cs, x, c, hf, h => by
    have h' : (closL env r (if p.2 == .free then (p.1, (env.cells.lookup p.1).getD 0) :: cs else cs)).lookup x = some c := h
    rcases clos_sub (fun q hq => hf q (List.mem_cons_of_mem _ hq)) h' with q | q
    · cases hk : (p.2 == NameKind.free) with
      | true =>
        rw [hk, if_pos rfl, List.lookup_cons] at q
        cases e : x == p.1 with
        | true =>
          rw [e] at q
          obtain ⟨d, hd⟩ := hf p List.mem_cons_self (eq_of_beq hk)
          refine .inr ?_
          rw [eq_of_beq e, hd]
          rw [hd] at q
          exact q
        | false =>
          rw [e] at q
          exact .inl q
      | false =>
        rw [hk, if_neg Bool.false_ne_true] at q
        exact .inl q
    · exact .inr q
theorem clos_mono {env : Env} {x : Str} : ∀ {l : List (Str × NameKind)} {cs : List (Str × Addr)}, (cs.lookup x).isSome = true → ((closL env l cs).lookup x).isSome = true
  | [], _, h => h
  | p :: r, cs, h => by
    show ((closL env r (if p.2 == .free then (p.1, (env.cells.lookup p.1).getD 0) :: cs else cs)).lookup x).isSome = true
    refine clos_mono ?_
    cases hk : (p.2 == NameKind.free) with
    | true =>
      rw [if_pos rfl, List.lookup_cons]
      cases e : x == p.1 with
      | true => rfl
      | false => exact h
    | false => rw [if_neg Bool.false_ne_true]; exact h
theorem clos_has {env : Env} {x : Str} : ∀ {l : List (Str × NameKind)} {cs : List (Str × Addr)}, (x, NameKind.free) ∈ l → ((closL env l cs).lookup x).isSome = true
  | [], _, h => by cases h
  | p :: r, cs, h => by
    show ((closL env r (if p.2 == .free then (p.1, (env.cells.lookup p.1).getD 0) :: cs else cs)).lookup x).isSome = true
    rcases List.mem_cons.mp h with e | h
    · subst e
      refine clos_mono ?_
      show (List.lookup x ((x, (env.cells.lookup x).getD 0) :: cs)).isSome = true
      rw [List.lookup_cons, beq_self_eq_true]
      rfl
    · exact clos_has h
def SubCells (env : Env) (cl : List (Str × Addr)) : Prop := ∀ x c, cl.lookup x = some c → env.cells.lookup x = some c
theorem SubCells.get {env : Env} {cl : List (Str × Addr)} {x : Str} {c : Addr} (h : SubCells env cl) (e : cl.lookup x = some c) : env.cells.lookup x = some c := h x c e
theorem sub_clos {env : Env} {l : List (Str × NameKind)} (h : FreeIn env l) : SubCells env (closL env l []) := fun x c e => by
  rcases clos_sub h e with q | q
  · cases q
  · exact q
/-- a free name of the block is a cell of it, or still free -/
theorem relabel_free {env : Env} : ∀ {names : List (Str × NameKind)} {x : Str}, names.lookup x = some .free →
    (names.map fun (n, k) => if (k == NameKind.free && env.scope.kind == .function && env.kindOf n == some .cell) then (n, NameKind.cell) else (n, k)).lookup x = some .cell ∨
    (names.map fun (n, k) => if (k == NameKind.free && env.scope.kind == .function && env.kindOf n == some .cell) then (n, NameKind.cell) else (n, k)).lookup x = some .free
  | [], _, h => by simp at h
  | (n, k) :: r, x, h => by
    rw [List.lookup_cons] at h
    simp only [List.map_cons]
    cases hx : x == n with
    | true =>
      rw [hx] at h
      cases h
      split
      · exact .inl (by rw [List.lookup_cons, hx])
      · exact .inr (by rw [List.lookup_cons, hx])
    | false =>
      rw [hx] at h
      have ih := relabel_free (env := env) h
      split
      · rw [List.lookup_cons, hx]; exact ih
      · rw [List.lookup_cons, hx]; exact ih
theorem relabel_back {env : Env} : ∀ {names : List (Str × NameKind)} {x : Str}, (∀ y ∈ names, y.2 ≠ .cell) →
    ((names.map fun (n, k) => if (k == NameKind.free && env.scope.kind == .function && env.kindOf n == some .cell) then (n, NameKind.cell) else (n, k)).lookup x = some .cell ∨
    (names.map fun (n, k) => if (k == NameKind.free && env.scope.kind == .function && env.kindOf n == some .cell) then (n, NameKind.cell) else (n, k)).lookup x = some .free) → (x, NameKind.free) ∈ names
  | [], _, _, h => by simp at h
  | (n, k) :: r, x, hc, h => by
    have hr : ∀ y ∈ r, y.2 ≠ .cell := fun y hy => hc y (List.mem_cons_of_mem _ hy)
    simp only [List.map_cons] at h
    cases hx : x == n with
    | true =>
      have en := eq_of_beq hx
      subst en
      by_cases hk : k = .free
      · subst hk; exact List.mem_cons_self
      · have hb : (k == NameKind.free) = false := by simpa using hk
        simp only [hb, Bool.false_and, Bool.false_eq_true, if_false, List.lookup_cons, beq_self_eq_true] at h
        rcases h with h | h
        · exact absurd (Option.some.inj h) (hc _ List.mem_cons_self)
        · exact absurd (Option.some.inj h) hk
    | false =>
      refine List.mem_cons_of_mem _ (relabel_back (env := env) hr ?_)
      split at h
      · simpa only [List.lookup_cons, hx] using h
      · simpa only [List.lookup_cons, hx] using h
def FreeOk (X : Cx) (scope : Scope) : List Nat → List Str → Prop
  | [], [] => True
  | i :: is, y :: ys => X.N[i]? = some y ∧ (X.env.kindOf y = some .cell ∨ X.env.kindOf y = some .free) ∧ scope.names.lookup y = some .free ∧ FreeOk X scope is ys
  | _, _ => False
theorem FreeOk.len {X : Cx} {scope : Scope} : ∀ {is : List Nat} {ys : List Str}, FreeOk X scope is ys → is.length = ys.length
  | [], [], _ => rfl
  | _ :: _, _ :: _, h => congrArg (· + 1) h.2.2.2.len
theorem FreeOk.get {X : Cx} {scope : Scope} : ∀ {is : List Nat} {ys : List Str} {j : Nat} {y : Str}, FreeOk X scope is ys → ys[j]? = some y →
    ∃ i, is[j]? = some i ∧ X.N[i]? = some y ∧ (X.env.kindOf y = some .cell ∨ X.env.kindOf y = some .free) ∧ scope.names.lookup y = some .free
  | [], [], _, _, _, h => by simp at h
  | i :: _, z :: _, 0, y, f, h => by
    simp at h
    subst h
    exact ⟨i, rfl, f.1, f.2.1, f.2.2.1⟩
  | _ :: is, _ :: ys, j + 1, y, f, h => by
    obtain ⟨i, e, r⟩ := FreeOk.get (j := j) f.2.2.2 (by simpa using h)
    exact ⟨i, by simpa using e, r⟩

/-- the context of a comprehension's block -/
def cxComp (X : Cx) (N : List Str) (scope : Scope) (cl : List (Str × Addr)) (C : Addr) (s : Shared) (H : Hp) (fp : List Addr) (E : Value → Shared → Prop) : Cx where
  prog := X.prog
  w := X.w
  K := X.K
  mg := X.mg
  base := X.base
  A := X.A
  N := N
  s₀ := s
  H₀ := H
  env := compEnvC scope cl C X.env
  outer := X.stack
  stack := X.stack
  ex := fp
  fn := fun _ => false
  calm := X.calm
  pn := []
  xe := E

def cSlots0 (σ : St) (ix : List Nat) : St := none :: ix.map fun i => (σ[i]?).join
def cSlots (σ : St) (ix : List Nat) (x : V) : St := some x :: ix.map fun i => (σ[i]?).join

def PTs (X : Cx) (ifs : List Expr) (tt : TT) : Prop :=
  ∀ (pins : List (Addr × Obj)) (s : Shared) (σ : St) (H : Hp) (Q : Bool → Hp → Prop), Inv X pins σ H s → tt σ H Q →
    wpAny (model X.prog X.w) X.A (forIn ifs true fun c r => if r = true then do let ok ← isTrue c X.env (eval c X.env); pure (ForInStep.yield ok) else pure (ForInStep.yield r)) (TP X pins σ Q) X.xe s
def tTrue : TT := fun _ H Q => Q true H
theorem pts_nil {X : Cx} : PTs X [] tTrue := fun _ _ _ H _ I h => wpAny_tests_nil ⟨H, I, h⟩
/-- the comprehension's end: D its list; W the invariant by the turn and a measure -/
def cEnd (J : It) (σ : St) (ix : List Nat) (tt : TT) (te : TE) (H1 : Hp) (Q : VK) : Prop :=
  ∀ D, H1 D = none → ∃ W : Nat → Nat → Hp → Prop, (∃ m, W 0 m (upd H1 D (.lst []))) ∧ ∀ i m H, W i m H →
    (J.stop i H ∧ Q (.ref D) H) ∨ (J.go i H ∧ ∀ x H', J.yld i H x H' → tt (cSlots σ ix x) H' fun c H2 =>
      if c = true then te (cSlots σ ix x) H2 fun y H3 => ∃ ys m', H3 D = some (.lst ys) ∧ ys.length < sizeLine ∧ m' < m ∧ W (i + 1) m' (upd H3 D (.lst (ys ++ [y])))
      else ∃ m', m' < m ∧ W (i + 1) m' H2)
def tComp (wi : TI) (ix : List Nat) (tt : TT) (te : TE) : TE := fun σ H Q => wi σ H fun J H1 => cEnd J σ ix tt te H1 Q

section
variable {X : Cx} {pins : List (Addr × Obj)} {σ : St} {H : Hp} {s : Shared}

theorem slots_get {ix : List Nat} {j : Nat} {v : V} (h : (ix.map fun i => (σ[i]?).join)[j]? = some (some v)) : ∃ i, ix[j]? = some i ∧ σ[i]? = some (some v) := by
  rw [List.getElem?_map] at h
  cases e : ix[j]? with
  | none => rw [e] at h; cases h
  | some i =>
    rw [e] at h
    have h' : (σ[i]?).join = some v := Option.some.inj h
    refine ⟨i, rfl, ?_⟩
    cases q : σ[i]? with
    | none => rw [q] at h'; cases h'
    | some o =>
      rw [q] at h'
      cases o with
      | none => cases h'
      | some z => cases h'; rfl

theorem inv_comp {x : Str} {ys : List Str} {ix : List Nat} {scope : Scope} {cl : List (Str × Addr)} {fp : List Addr} {E : Value → Shared → Prop} {h₁ : Heap} {D C n : Nat} {tk : Nat} {m : Str → Option Value}
    (I : Inv X pins σ H s) (hf : ∀ b ∈ fp, FpOk X pins H b ∧ b < s.heap.objs.size) (sub : SubCells X.env cl) (hkind : scope.kind = .function)
    (hhas : ∀ y, ((relabel scope X.env).names.lookup y = some .cell ∨ (relabel scope X.env).names.lookup y = some .free) → ∃ c, cl.lookup y = some c) (fo : FreeOk X scope ix ys)
    (hD : s.heap.objs.size ≤ D) (hC : s.heap.objs.size ≤ C) (hDC : D ≠ C) (hns : h₁.Ns C m) (k : ∀ b o, s.heap.get? b = some o → h₁.get? b = some o)
    (hd : h₁.get? D = some { cls := .type "list", data := .seq ([] : List Value).toArray n }) :
    Inv (cxComp X (x :: ys) scope cl C s H fp E) [] (cSlots0 σ ix) (upd H D (.lst [])) { s with heap := h₁, toks := tk } := by
  have lt_of_cell : ∀ y c, cl.lookup y = some c → c < s.heap.objs.size := fun y c e => by
    obtain ⟨v, q⟩ := I.cell y c (sub.get e)
    exact q.lt
  refine ⟨⟨I.ok.mod, hkind, I.ok.glob, I.ok.blt, hC, fun y z c h1 h2 => I.ok.inj y z c (sub.get h1) (sub.get h2), hhas, fun y c h _ => absurd h (by simp [cxComp]), I.ok.hd, I.ok.frames, .inl rfl, fun b hb => ⟨?_, fun y c e => ?_⟩, I.bs, Nat.le_trans I.ok.bsz I.sz, fun b o e hb => ?_, fun b hb z => ?_, I.stack, I.stkFree⟩,
    rfl, I.bare, Un.laid k hD (I.hok.fresh hD), ⟨m, hns, fun j y v e1 e2 e3 => ?_⟩, fun y c e => ?_, ?_, fun y c e => ?_, fun p hp => absurd (show p ∈ ([] : List (Addr × Obj)) from hp) (by simp), I.hok.laid k hD ?_, ?_⟩
  · exact Nat.ne_of_lt (Nat.lt_of_lt_of_le (hf b hb).2 hC)
  · exact (hf b hb).1.2.2.2.2.1 y c (sub.get e)
  · obtain ⟨_, _, _, z, _⟩ := (hf b hb).1
    rcases z with z | z
    · exact I.ok.noex b o e z
    · exact absurd (Nat.lt_of_lt_of_le (Heap.lt_size (I.ok.bs b o e).1) z) (Nat.lt_irrefl _)
  · obtain ⟨_, z1, z2, _⟩ := (hf b hb).1
    rcases List.mem_cons.mp (I.stkSub b z) with q | q
    · exact z1 q
    · exact z2 q
  · cases j with
    | zero => simp [cSlots0] at e2
    | succ j =>
      have e1' : ys[j]? = some y := by simpa [cxComp] using e1
      have e2' : (ix.map fun i => (σ[i]?).join)[j]? = some (some v) := by simpa [cSlots0] using e2
      obtain ⟨i, q1, q2⟩ := slots_get e2'
      obtain ⟨i', p1, p2, p3, p4'⟩ := fo.get e1'
      rw [q1] at p1
      cases p1
      have p4 : (relabel scope X.env).names.lookup y = some .cell ∨ (relabel scope X.env).names.lookup y = some .free := relabel_free p4'
      obtain ⟨c, p5⟩ := hhas y p4
      obtain ⟨m0, hn0, hl⟩ := I.loc
      obtain ⟨u, r, l⟩ := hl i y v p2 q2 (.inr p3)
      refine ⟨u, r, .inr ⟨p4, c, p5, ?_⟩⟩
      rcases l with ⟨l1, _⟩ | ⟨_, c', l2, l3⟩
      · rcases p3 with p3 | p3
        · rw [l1] at p3; cases p3
        · rw [l1] at p3; cases p3
      · rw [sub.get p5] at l2
        cases l2
        obtain ⟨o, ho, hd'⟩ := l3
        exact ⟨o, k _ _ ho, hd'⟩
  · obtain ⟨v, o, ho, hd'⟩ := I.cell y c (sub.get e)
    exact ⟨v, o, k _ _ ho, hd'⟩
  · show upd H D (.lst []) C = none
    rw [upd_ne (Ne.symm hDC)]
    exact I.hok.fresh hC
  · show upd H D (.lst []) c = none
    rw [upd_ne (Nat.ne_of_lt (Nat.lt_of_lt_of_le (lt_of_cell y c e) hD))]
    exact I.freeC y c (sub.get e)
  · exact ⟨Nat.zero_le _, [], n, .nil, hd⟩
  · show (cSlots0 σ ix).length = (x :: ys).length
    unfold cSlots0
    rw [List.length_cons, List.length_map, fo.len, List.length_cons]

theorem comp_block {elt iter : Expr} {x : Str} {px : Pos} {ifs : List Expr} {scope : Scope} {cl : List (Str × Addr)} {pos : Pos} {ix : List Nat} {ys : List Str} {tt : TT} {te : TE} {it : Addr} {fp : List Addr} {tn : Nat → Heap → Prop} {J : It} {Q : VK} {E : Value → Shared → Prop}
    {RR : Value → Addr → Result → Shared → Prop}
    (hc : X.calm = true) (ht : ∀ C s H fp E, PTs (cxComp X (x :: ys) scope cl C s H fp E) ifs tt) (he : ∀ C s H fp E, PE (cxComp X (x :: ys) scope cl C s H fp E) elt te)
    (sub : SubCells X.env cl) (hkind : scope.kind = .function) (hnd : (x :: ys).Nodup) (hx : scope.names.lookup x = some .local) (hcell : ∀ y ∈ scope.names, y.2 ≠ .cell)
    (hhas : ∀ y, ((relabel scope X.env).names.lookup y = some .cell ∨ (relabel scope X.env).names.lookup y = some .free) → ∃ c, cl.lookup y = some c) (fo : FreeOk X scope ix ys)
    (I : Inv X pins σ H s) (T : Turn X.prog X.w X.K (.Name x px) J fp it tn) (st : tn 0 s.heap) (hf : ∀ b ∈ fp, FpOk X pins H b) (q : cEnd J σ ix tt te H Q)
    (hRR : ∀ D C s' H' m, s.heap.objs.size ≤ C → Inv X pins σ H' s' → FpOk X pins H' C → s'.heap.Ns C m → Q (.ref D) H' → RR (.ref D) C (.ok .next) s') :
    wpAny (model X.prog X.w) X.A (newList []) (fun acc s₃ => wpAny (model X.prog X.w) X.A (newFunctionEnv scope X.env.globals cl [] X.env.qual none .none (some X.env)) (fun cenv s₄ =>
      codeAny (model X.prog X.w) X.A (.compStart (.ListComp elt [⟨.Name x px, iter, ifs, 0⟩] scope pos) 0 (.ref it) acc { cenv with scope := relabel scope X.env }) (RR acc cenv.locals) s₄) E s₃) E s := by
  refine wpAny_newObj_type (wpAny_newFunctionEnv hcell (by intro y hy; simp at hy) (fun h₁ hns₁ hsb₁ => ?_) hkind)
  dsimp only at hns₁ hsb₁ ⊢
  generalize hH2 : s.heap.push { cls := .type "list", dict := none, data := .seq ([] : List Value).toArray } = H2 at hns₁ hsb₁ ⊢
  have hC : H2.objs.size = s.heap.objs.size + 1 := by rw [← hH2, Heap.size_push]
  have hDC : s.heap.objs.size ≠ H2.objs.size := by rw [hC]; exact Nat.ne_of_lt (Nat.lt_succ_self _)
  have hCle : s.heap.objs.size ≤ H2.objs.size := by rw [hC]; exact Nat.le_succ _
  have below : ∀ b, b < s.heap.objs.size → b ≠ H2.objs.size ∧ b ≠ s.heap.objs.size := fun b hb => ⟨by rw [hC]; exact Nat.ne_of_lt (Nat.lt_succ_of_lt hb), Nat.ne_of_lt hb⟩
  have old : ∀ b o, s.heap.get? b = some o → h₁.get? b = some o := fun b o e => hsb₁.extBut b o (below b (Heap.lt_size e)).1 (Heap.get?_push_of_some _ (hH2 ▸ Heap.get?_push_of_some _ e))
  have hacc : ∃ n, h₁.get? s.heap.objs.size = some { cls := .type "list", data := .seq ([] : List Value).toArray n } := ⟨_, hsb₁.extBut _ _ hDC (Heap.get?_push_of_some _ (hH2 ▸ Heap.get?_push_size _ rfl))⟩
  obtain ⟨nD, hacc⟩ := hacc
  have hf' : ∀ b ∈ fp, FpOk X pins H b ∧ b < s.heap.objs.size := fun b hb => ⟨hf b hb, by obtain ⟨o, e, _⟩ := T.obj 0 _ st b hb; exact Heap.lt_size e⟩
  have hDn : H s.heap.objs.size = none := I.hok.fresh (Nat.le_refl _)
  obtain ⟨W, ⟨m0, w0⟩, turn⟩ := q _ hDn
  generalize hE : notedBy (model X.prog X.w) X.A (compEnvC scope cl H2.objs.size X.env) (fun e s' => RR (.ref s.heap.objs.size) H2.objs.size (.error e) s') = EE
  have hlx : (relabel scope X.env).names.lookup x = some .local := lookup_relabel_local hx
  have I0 : Inv (cxComp X (x :: ys) scope cl H2.objs.size s H fp EE) [] (cSlots0 σ ix) (upd H s.heap.objs.size (.lst [])) { s with heap := h₁, toks := s.toks + ([] : List (Str × Value)).length } :=
    inv_comp I hf' sub hkind hhas fo (Nat.le_refl _) hCle hDC hns₁ old hacc
  have st1 : tn 0 h₁ := T.keep _ _ _ st fun b _ o e => old b o e
  have fr1 : ∀ b ∈ fp, upd H s.heap.objs.size (.lst []) b = none := fun b hb => by rw [upd_ne (below b (hf' b hb).2).2]; exact (hf b hb).1
  have stat : ∀ {H' : Hp}, (∀ b ∈ fp, H' b = none) → ∀ b ∈ fp, FpOk (cxComp X (x :: ys) scope cl H2.objs.size s H fp EE) [] H' b := fun hn b hb =>
    ⟨hn b hb, (I0.ok.exf b hb).1, I0.ok.exfs b hb, .inl hb, (I0.ok.exf b hb).2, fun p hp => absurd (show p ∈ ([] : List (Addr × Obj)) from hp) (by simp)⟩
  have loop : ∀ s₃ : Shared, s₃ = { s with heap := h₁, toks := s.toks + ([] : List (Str × Value)).length } →
      codeAny (model X.prog X.w) X.A (.compLoop (.ListComp elt [⟨.Name x px, iter, ifs, 0⟩] scope pos) 0 (.ref it) (.ref s.heap.objs.size) (compEnvC scope cl H2.objs.size X.env)) (RR (.ref s.heap.objs.size) H2.objs.size) s₃ := by
    rintro s₃ rfl
    refine compLoop_go (fun n s' => ∃ i σ' H', Inv (cxComp X (x :: ys) scope cl H2.objs.size s H fp EE) [] σ' H' s' ∧ (∃ o, σ' = o :: ix.map fun i => (σ[i]?).join) ∧ tn i s'.heap ∧ (∀ b ∈ fp, H' b = none) ∧ W i n H') ?_ m0 ⟨0, _, _, I0, ⟨none, rfl⟩, st1, fr1, w0⟩
    rintro n s3 ⟨i, σ3, H3, I3, ⟨o3, hσ3⟩, st3, fr3, w3⟩
    rw [hE]
    rcases turn i n H3 w3 with ⟨stop, qn⟩ | ⟨go, step⟩
    · refine thn (T.done (cxComp X (x :: ys) scope cl H2.objs.size s H fp EE) rfl rfl rfl hc i [] s3 σ3 H3 EE I3 (stat fr3) st3 stop) fun r s4 ⟨hr, I4⟩ => ?_
      subst hr
      obtain ⟨m4, hn4, _⟩ := I4.loc
      have Ix : Inv X pins σ H3 s4 := I.call' (s' := s4) (ch := fp) I4.os I4.base I4.hok I4.bare fun b hb => by
        obtain ⟨_, z1, _, z3, z4, z5⟩ := hf b hb
        exact ⟨z3, z1, z4, z5⟩
      exact hRR _ _ s4 H3 m4 hCle Ix (I.fpOk hCle I4.free) hn4 qn
    · refine thn (T.item (cxComp X (x :: ys) scope cl H2.objs.size s H fp EE) rfl rfl rfl hc i [] s3 σ3 H3 EE I3 (stat fr3) st3 go) fun r s4 ⟨u, hr, h4⟩ => ?_
      subst hr
      refine thn h4 fun _ s5 ⟨xv, H5, I5, r5, y5, st5, fr5⟩ => ?_
      have I5' := I5.pinned (stat fr5) (T.obj _ _ st5)
      have again : ∀ {σ7 : St} {H7 : Hp} {s7 : Shared} {m' : Nat}, Inv (cxComp X (x :: ys) scope cl H2.objs.size s H fp EE) ([] ++ pinsAt fp s5.heap) σ7 H7 s7 → (∃ o, σ7 = o :: ix.map fun i => (σ[i]?).join) → m' < n → W (i + 1) m' H7 →
          ∃ m, m < n ∧ ∃ i σ' H', Inv (cxComp X (x :: ys) scope cl H2.objs.size s H fp EE) [] σ' H' s7 ∧ (∃ o, σ' = o :: ix.map fun i => (σ[i]?).join) ∧ tn i s7.heap ∧ (∀ b ∈ fp, H' b = none) ∧ W i m H' := fun {σ7 H7 s7 m'} I7 e7 hm w7 => by
        refine ⟨m', hm, i + 1, σ7, H7, I7.unpinned, e7, T.keep _ _ _ st5 fun b hb o e => (I7.pin (b, o) (List.mem_append_right _ (List.mem_append_right _ (mem_pinsAt hb e)))).1, fun b hb => ?_, w7⟩
        obtain ⟨o, e, d⟩ := T.obj _ _ st5 b hb
        exact (I7.pin (b, o) (List.mem_append_right _ (List.mem_append_right _ (mem_pinsAt hb e)))).2.1
      have hg : PG (cxComp X (x :: ys) scope cl H2.objs.size s H fp EE) (.Name x px) (gName 0) := pg_name hnd rfl (.inl hlx) (.inr hlx)
      refine thn (hg _ s5 σ3 H5 xv u (fun σ6 H6 => σ6 = cSlots σ ix xv ∧ H6 = H5) I5' r5 ⟨by rw [hσ3]; rfl, rfl⟩) fun _ s6 ⟨σ6, H6, I6, e6, e6'⟩ => ?_
      subst e6 e6'
      refine thn (ht _ _ _ _ _ _ s6 _ _ _ I6 (step xv _ y5)) fun ok s7 ⟨H7, I7, q7⟩ => ?_
      cases ok with
      | false =>
        rw [if_neg Bool.false_ne_true] at q7 ⊢
        obtain ⟨m', hm, w7⟩ := q7
        exact again I7 ⟨_, rfl⟩ hm w7
      | true =>
        rw [if_pos rfl] at q7 ⊢
        refine thn (he _ _ _ _ _ _ s7 _ _ _ I7 q7) fun y s8 ⟨yv, H8, I8, r8, ys8, m', e8, z8, hm, w8⟩ => ?_
        refine thn (mt_append _ s8 _ H8 (.ref s.heap.objs.size) [yv] (.ref s.heap.objs.size) [y] (fun _ H9 => W (i + 1) m' H9) I8 rfl (.cons r8 .nil) ⟨_, ys8, yv, rfl, rfl, e8, z8, w8⟩) fun _ s9 ⟨_, H9, I9, _, w9⟩ => ?_
        exact again I9 ⟨_, rfl⟩ hm w9
  exact codeAny_compStart_list (loop _ rfl) (T.self _ 0 _ _ _ st1 (loop _ rfl))

def kindsOk (env : Env) (l : List (Str × NameKind)) : Bool := l.all fun p => !(p.2 == .free) || env.kindOf p.1 == some .cell || env.kindOf p.1 == some .free
theorem kinds_free {X : Cx} {l : List (Str × NameKind)} (ok : X.Ok) (h : kindsOk X.env l = true) : FreeIn X.env l := fun p hp hk => by
  have q := List.all_eq_true.mp h p hp
  rw [hk] at q
  have q' : (X.env.kindOf p.1 == some .cell || X.env.kindOf p.1 == some .free) = true := by simpa using q
  rcases Bool.or_eq_true_iff.mp q' with q | q
  · exact ok.has p.1 (.inl (eq_of_beq q))
  · exact ok.has p.1 (.inr (eq_of_beq q))
/-- what a block's scope must be: its own names local, no cells of its own -/
def blockOk (scope : Scope) (x : Str) : Bool := scope.kind == .function && scope.names.lookup x == some .local && scope.names.all (fun p => !(p.2 == .cell)) && scope.names.all (fun p => !(p.2 == .local) || scope.names.lookup p.1 == some .local)
structure BlockOk (scope : Scope) (x : Str) : Prop where
  kind : scope.kind = .function
  own : scope.names.lookup x = some .local
  cell : ∀ y ∈ scope.names, y.2 ≠ .cell
  names : ∀ y ∈ scope.names, y.2 = .local → scope.names.lookup y.1 = some .local
theorem block_of {scope : Scope} {x : Str} (h : blockOk scope x = true) : BlockOk scope x := by
  unfold blockOk at h
  rw [Bool.and_eq_true, Bool.and_eq_true, Bool.and_eq_true] at h
  obtain ⟨⟨⟨h1, h2⟩, h3⟩, h4⟩ := h
  refine ⟨eq_of_beq h1, eq_of_beq h2, fun y hy z => ?_, fun y hy z => ?_⟩
  · have := List.all_eq_true.mp h3 y hy
    rw [z] at this
    cases this
  · have := List.all_eq_true.mp h4 y hy
    rw [z] at this
    have q : (scope.names.lookup y.1 == some NameKind.local) = true := by simpa using this
    exact eq_of_beq q
theorem has_of {scope : Scope} {env : Env} (hcell : ∀ y ∈ scope.names, y.2 ≠ .cell) (y : Str) (h : (relabel scope env).names.lookup y = some .cell ∨ (relabel scope env).names.lookup y = some .free) : ∃ c, (closL env scope.names []).lookup y = some c :=
  Option.isSome_iff_exists.mp (clos_has (relabel_back hcell h))

theorem pe_comp {elt iter : Expr} {x : Str} {px : Pos} {ifs : List Expr} {scope : Scope} {pos : Pos} {wi : TI} {tt : TT} {te : TE} (ix : List Nat) (ys : List Str)
    (hc : X.calm = true) (hi : PI X (.Name x px) iter wi) (ht : ∀ C s H fp E, PTs (cxComp X (x :: ys) scope (closL X.env scope.names []) C s H fp E) ifs tt) (he : ∀ C s H fp E, PE (cxComp X (x :: ys) scope (closL X.env scope.names []) C s H fp E) elt te)
    (fo : FreeOk X scope ix ys) (hk : kindsOk X.env scope.names = true := by rfl) (hb : blockOk scope x = true := by rfl) (hnd : (x :: ys).Nodup := by decide +kernel)
    (hs : ∀ x, foldedSetIterable iter X.env x = pure x := by intro _; rfl) :
    PE X (.ListComp elt [⟨.Name x px, iter, ifs, 0⟩] scope pos) (tComp wi ix tt te) := by
  intro pins s σ H Q I h
  have B := block_of hb
  have F := kinds_free I.ok hk
  rw [eval_ListComp]
  refine wpAny_comprehension_free (use := none) rfl hs (closure_eq F) B.kind B.names (thn (hi pins s σ H _ I h) fun v s1 h1 => thn h1 fun itv s2 h2 => ?_)
  obtain ⟨it, fp, tn, J, H2, e, I2, T, st2, f2, q2⟩ := h2
  subst e
  refine comp_block (RR := fun acc C => compPost (model X.prog X.w) X.A X.xe none (EP X pins σ Q) acc C) hc ht he (sub_clos F) B.kind hnd B.own B.cell (has_of B.cell) fo I2 T st2 f2 q2 ?_
  intro D C s' H' m hC Ix fC hn q
  refine ⟨m, hn, fun h' sb => ⟨.ref D, H', ?_, rfl, q⟩⟩
  obtain ⟨f0, f1, _, f3, f4, f5⟩ := fC
  exact Ix.turned (t' := s'.toks) (fun b o hb e => (sb.2 b hb).trans e) f0 f1 f3 f4 f5

end
end L2
set_option Elab.async false
set_option linter.all false
set_option maxRecDepth 100000
set_option maxHeartbeats 4000000
namespace L2
open PySem PySem.Spec PyProof.Rows

section
variable {X : Cx}
/-! ### isinstance(x, T), T a built-in type's name -/
def rIsi (K : PySem.W.Frag) : List V → Hp → VK → Prop := fun xs H Q => ∃ x n t b, xs = [x, .ty n] ∧ TyOf K H x t ∧ PySem.W.kitOne K t (.type n) = some b ∧ Q (.bl b) H
theorem tw_isinst : CallR X (.builtin "isinstance") (rIsi X.K) := by
  intro pins s σ H xs us Q I r h
  obtain ⟨x, n, t, b, rfl, ty, e, q⟩ := h
  obtain ⟨u, w', rfl, rx, rn⟩ := vals2 r
  cases (show w' = Value.type n from rn)
  exact isinst_ok I rx ty e fun tk => ⟨.bl b, H, I.tok tk, rfl, q⟩
theorem kit_ib {K : PySem.W.Frag} : PySem.W.kitOne K (.type "int") (.type "bool") = some false := by kernel_rfl
theorem kit_ii {K : PySem.W.Frag} : PySem.W.kitOne K (.type "int") (.type "int") = some true := by kernel_rfl
theorem kit_si {K : PySem.W.Frag} : PySem.W.kitOne K (.type "str") (.type "int") = some false := by kernel_rfl
theorem kit_is' {K : PySem.W.Frag} : PySem.W.kitOne K (.type "int") (.type "str") = some false := by kernel_rfl
theorem kit_ss {K : PySem.W.Frag} : PySem.W.kitOne K (.type "str") (.type "str") = some true := by kernel_rfl
theorem kit_it {K : PySem.W.Frag} : PySem.W.kitOne K (.type "int") (.type "tuple") = some false := by kernel_rfl
theorem kit_st {K : PySem.W.Frag} : PySem.W.kitOne K (.type "str") (.type "tuple") = some false := by kernel_rfl
theorem kit_tt {K : PySem.W.Frag} : PySem.W.kitOne K (.type "tuple") (.type "tuple") = some true := by kernel_rfl
theorem tb_isinstance : bootBuiltins "isinstance" = some (.builtin "isinstance") := by decide +kernel
theorem tb_all : bootBuiltins "all" = some (.builtin "all") := by decide +kernel
theorem tb_max : bootBuiltins "max" = some (.builtin "max") := by decide +kernel
theorem tb_min : bootBuiltins "min" = some (.builtin "min") := by decide +kernel
theorem tb_abs : bootBuiltins "abs" = some (.builtin "abs") := by decide +kernel
theorem tb_len : bootBuiltins "len" = some (.builtin "len") := by decide +kernel
theorem tb_bool : bootBuiltins "bool" = some (.type "bool") := by decide +kernel
theorem tb_int : bootBuiltins "int" = some (.type "int") := by decide +kernel
theorem tb_str : bootBuiltins "str" = some (.type "str") := by decide +kernel
theorem tb_tuple : bootBuiltins "tuple" = some (.type "tuple") := by decide +kernel
theorem tb_list : bootBuiltins "list" = some (.type "list") := by decide +kernel

/-! ### operators -/
theorem tw_le_str : OpR X (compareOp .LtE) (fun x y H Q => ∃ i j, x = .str i ∧ y = .str j ∧ Q (.bl (!decide (j.cps.toList < i.cps.toList))) H) := by
  intro pins s σ H x y v u Q I rx ry h
  obtain ⟨i, j, rfl, rfl, q⟩ := h
  obtain ⟨t, rfl⟩ := rx
  obtain ⟨t', rfl⟩ := ry
  exact PySem.P.le_str (fin_bl I q (by simp))
def CDivL (i j : Int) : Prop := 0 < j ∧ j.natAbs.log2 < 9000
theorem tw_fdiv : OpR X (binaryOp .FloorDiv) (rI CDivL fun i j => .int (i / j)) := opI fun i j _ _ _ _ _ hc q => by
  have h1 : (0 : Int) < j := hc.1
  exact floordiv_int (by omega) (by rw [Int.fdiv_eq_ediv_of_nonneg i (by omega)]; exact q) (.inl (PyProof.noPylong_of_log2 hc.2))

/-! ### xs.insert(i, y), 0 ≤ i -/
/-! ### all of a list of bools -/
theorem tw_all (hc : X.calm = true) : CallR X (.builtin "all") (fun xs H Q => ∃ (p : Addr) (bs : List Bool), xs = [.ref p] ∧ SqL X.K H p (bs.map V.bl) ∧ Q (.bl (bs.all id)) H) := by
  intro pins s σ H xs us Q I r h
  obtain ⟨p, bs, rfl, hq, q⟩ := h
  obtain ⟨u, rfl, rx⟩ := vals1 r
  cases rx
  obtain ⟨its, rv, pl, hz⟩ := I.list hq
  have hl := rv.length
  have hlt : p < s.heap.objs.size := by obtain ⟨_, e, _⟩ := pl.isList; exact Heap.lt_size e
  have hne : p ≠ s.heap.objs.size := Nat.ne_of_lt hlt
  have hh := I.ok.hd hc
  have tr : ∀ (i : Nat) (v : Value), its.toArray[i]? = some v → v = .bool (bs.getD i true) := fun i v hv => by
    have hv' : its[i]? = some v := by simpa using hv
    have hi : i < its.length := (List.getElem?_eq_some_iff.mp hv').1
    have hb : i < bs.length := by rw [List.length_map] at hl; omega
    obtain ⟨u, e1, e2⟩ := rv.get (i := i) (x := .bl bs[i]) (by rw [List.getElem?_map, List.getElem?_eq_getElem hb]; rfl)
    rw [hv'] at e1
    cases e1
    rw [show v = Value.bool bs[i] from e2, List.getD_eq_getElem?_getD, List.getElem?_eq_getElem hb]
    rfl
  refine call_all_walk (wpAny_pyIter_list pl.isList ?_)
  refine ⟨_, _, _, _, _, _, (fun i => bs.getD i true), rfl, Walks.list (A := X.A.in1) hh s.heap.objs.size p hne its.toArray, ⟨⟨_, Heap.get?_push_size _ rfl, rfl, rfl⟩, pl.isList.push _⟩, fun i v s' Q' E' hP hQ => ?_, fun h' tk hk => ?_⟩
  · rw [tr i v hP]
    exact wpAny_truthy_bool hQ
  · have e : (List.range its.toArray.size).all (fun i => bs.getD i true) = bs.all id := by
      rw [List.size_toArray, ← hl, List.length_map]
      have e2 : bs.all id = ((List.range bs.length).map fun i => bs.getD i true).all id := by rw [range_getD]
      rw [e2, List.all_map]
      rfl
    rw [e]
    refine ⟨.bl (bs.all id), H, I.kept (t' := tk) fun b o eb => hk b o ?_ (Heap.get?_push_of_some _ eb), rfl, q⟩
    intro hm
    exact absurd (Heap.lt_size eb) (by rw [List.mem_singleton.mp hm]; exact Nat.lt_irrefl _)
end

/-! ### max of a list of ints, with a default -/
section
variable {prog : Program} {w : World} {A : Around} {R : Result → Shared → Prop}
end
section
variable {X : Cx}
end

/-! ### the signs of a text -/
def Its (x : Str) : It := ⟨fun i _ => i < x.cps.size, fun i H v H' => H' = H ∧ ∃ c, x.cps[i]? = some c ∧ v = .str ⟨#[c]⟩, fun i _ => i = x.cps.size⟩
theorem turn_strOf {P : Program} {w : World} {K : PySem.W.Frag} {tg : Expr} (ty : String) (hty : ["enumerate", "zip", "dict_itemiterator", "dict_reverseitemiterator", "odict_iterator", "itertools.zip_longest", "itertools.pairwise"].contains ty = false) (x : Str) (t : Tok) (it : Addr)
    (W : ∀ A : Around, A.handled = none → Walks P w A it [it] [it] x.cps.size (SignAt x) (fun i h => h.IsStrIter it ty x t i))
    (self : ∀ (A : Around) (i : Nat) (s : Shared) (Q : Value → Shared → Prop) (E : Value → Shared → Prop), s.heap.IsStrIter it ty x t i → Q (.ref it) s → wpAny (model P w) A (pyIter (.ref it)) Q E s) :
    Turn P w K tg (Its x) [it] it (fun i h => h.IsStrIter it ty x t i) where
  mem := by simp
  obj := fun i h st b hb => by
    have e : b = it := by simpa using hb
    subst e
    obtain ⟨o, e, c, d⟩ := st
    exact ⟨o, e, fun v z => by rw [d] at z; cases z⟩
  keep := fun i h h' ⟨o, e, r⟩ k => ⟨o, k it (by simp) o e, r⟩
  item := by
    intro X hP hw hK hc i pins s σ H E I hf st hg
    subst hP hw hK
    obtain ⟨f0, f1, f2, f3, f4, f5⟩ := hf it (by simp)
    refine (W X.A (I.ok.hd hc)).item i s _ _ hg st fun v h' tk hv st' kk => ?_
    obtain ⟨c, u, hx, rfl⟩ := hv
    have I1 : Inv X pins σ H { s with heap := h', toks := tk } := I.turned (fun b o hb e => kk b o (by simpa using hb) e) f0 f1 f3 f4 f5
    obtain ⟨o, e, cl, d⟩ := id st'
    exact ⟨_, rfl, go_of (s := { s with heap := h', toks := tk }) e cl d hty ⟨.str ⟨#[c]⟩, H, I1, ⟨u, rfl⟩, ⟨rfl, c, hx, rfl⟩, st', fun b hb => (hf b hb).1⟩⟩
  done := by
    intro X hP hw hK hc i pins s σ H E I hf st hg
    subst hP hw hK
    obtain ⟨f0, f1, f2, f3, f4, f5⟩ := hf it (by simp)
    have hi : i = x.cps.size := hg
    subst hi
    exact (W X.A (I.ok.hd hc)).done s _ _ st fun h' tk kk => ⟨rfl, I.turned (fun b o hb e => kk b o (by simpa using hb) e) f0 f1 f3 f4 f5⟩
  self := self
section
variable {X : Cx} {tg : Expr}
def iStr (tl : TE) : TI := fun σ H R => tl σ H fun v H1 => ∃ x, v = .str x ∧ R (Its x) H1
theorem pi_str {l : Expr} {tl : TE} (hl : PE X l tl) : PI X tg l (iStr tl) := by
  intro pins s σ H R I h
  refine thn (hl pins s σ H _ I h) fun v s1 ⟨z, H1, I1, r1, x, e, q⟩ => ?_
  subst e
  obtain ⟨t, rfl⟩ := r1
  have fp : ∀ b ∈ [s1.heap.objs.size], FpOk X pins H1 b := fun b hb => by
    rw [List.mem_singleton.mp hb]
    exact I1.fpOk (Nat.le_refl _) (I1.hok.fresh (Nat.le_refl _))
  cases ha : x.cps.all (· < 128)
  · exact wpAny_pyIter_wide ha ⟨s1.heap.objs.size, [s1.heap.objs.size], _, _, H1, rfl, I1.kept (t' := s1.toks) fun b o e => Heap.get?_push_of_some _ e,
      turn_strOf "str_iterator" (by decide) x t _ (fun A hA => Walks.strWide hA _ x t) (fun A i s Q E st h => wpAny_pyIter_striter_wide st h), ⟨_, Heap.get?_push_size _ rfl, rfl, rfl⟩, fp, q⟩
  · exact wpAny_pyIter_ascii ha ⟨s1.heap.objs.size, [s1.heap.objs.size], _, _, H1, rfl, I1.kept (t' := s1.toks) fun b o e => Heap.get?_push_of_some _ e,
      turn_strOf "str_ascii_iterator" (by decide) x t _ (fun A hA => Walks.strAscii hA _ x t) (fun A i s Q E st h => wpAny_pyIter_striter_ascii st h), ⟨_, Heap.get?_push_size _ rfl, rfl, rfl⟩, fp, q⟩
end

/-! ### the forms of a comprehension that one uses: D its list, after i items it holds ys -/
section
variable {σ : St} {H : Hp} {ix : List Nat} {te : TE} {Q : VK} {K : PySem.W.Frag}
theorem comp_map {J : It} {n : Nat} (item : Nat → V → Prop) (Pv : Addr → Nat → List V → Hp → Prop) (hn : n < sizeLine)
    (hgo : ∀ D i ys H, i < n → Pv D i ys H → J.go i H) (hy : ∀ D i ys H x H', i < n → Pv D i ys H → J.yld i H x H' → H' = H ∧ item i x) (hstop : ∀ D ys H, Pv D n ys H → J.stop n H)
    (h0 : ∀ D, H D = none → Pv D 0 [] (upd H D (.lst [])))
    (step : ∀ D i ys H x, H D = some (.lst ys) → ys.length ≤ i → i < n → item i x → Pv D i ys H → ∀ R : VK, (∀ y H3, H3 D = some (.lst ys) → Pv D (i + 1) (ys ++ [y]) (upd H3 D (.lst (ys ++ [y]))) → R y H3) → te (cSlots σ ix x) H R)
    (fin : ∀ D ys H, H D = some (.lst ys) → Pv D n ys H → Q (.ref D) H) : cEnd J σ ix tTrue te H Q := by
  intro D hD
  refine ⟨fun i m H => m = n - i ∧ i ≤ n ∧ ∃ ys, H D = some (.lst ys) ∧ ys.length ≤ i ∧ Pv D i ys H, ⟨n, rfl, Nat.zero_le _, [], upd_same, Nat.le_refl _, h0 D hD⟩, ?_⟩
  rintro i m H ⟨rfl, hi, ys, e, hl, p⟩
  by_cases hlt : i < n
  · refine .inr ⟨hgo D i ys H hlt p, fun x H' y => ?_⟩
    obtain ⟨rfl, it⟩ := hy D i ys H x H' hlt p y
    unfold tTrue
    dsimp only
    rw [if_pos rfl]
    refine step D i ys _ x e hl hlt it p _ fun y H3 e3 p3 => ?_
    exact ⟨ys, n - (i + 1), e3, by omega, by omega, rfl, hlt, ys ++ [y], upd_same, by rw [List.length_append, List.length_singleton]; omega, p3⟩
  · have e' : i = n := by omega
    subst e'
    exact .inl ⟨hstop D ys H p, fin D ys H e p⟩
end
end L2
set_option Elab.async false
set_option linter.all false
set_option maxRecDepth 100000
set_option maxHeartbeats 4000000
namespace L2
open PySem PySem.Spec PyProof.Rows

/-! ### an exception that flies: what stands but the frames stays -/
theorem ObjOk.there {P : Program} {w : World} {H : Hp} {h : Heap} {a : Addr} : ∀ {o : HO}, ObjOk P w H h a o → ∃ ob, h.get? a = some ob := by
  intro o x
  induction o with
  | lst xs => obtain ⟨z, its, n, r, e⟩ := x; exact ⟨_, e⟩
  | tup xs => obtain ⟨z, its, r, ob, e, c⟩ := x; exact ⟨_, e⟩
  | dK kvs => obtain ⟨z, y, vs, r, ob, es, ep, e, c⟩ := x; exact ⟨_, e⟩
  | dT kvs => obtain ⟨z, y, xs, r, ob, es, ep, e, c⟩ := x; exact ⟨_, e⟩
  | set S n => obtain ⟨ob, es, ep, t, e, c⟩ := x; exact ⟨_, e⟩
  | ins C dx fs => obtain ⟨d, z, ne, e, _⟩ := x; exact ⟨_, e⟩
  | own y => exact x
  | xd fs => obtain ⟨mA, ⟨od, es, ep, e, c⟩, r⟩ := x; exact ⟨_, e⟩
  | rng lo hi => obtain ⟨t, u, v, e⟩ := x; exact ⟨_, e⟩
  | frz ob u ih => exact ⟨_, x.1⟩
  | tbl ps => exact ⟨_, x⟩
  | met f y => exact ⟨_, x⟩
  | ext φ => exact x.2.1
theorem HOk.there {P : Program} {w : World} {H : Hp} {h : Heap} {a : Addr} (x : HOk P w H h) (n : H a ≠ none) : ∃ ob, h.get? a = some ob := by
  cases e : H a with
  | none => exact absurd e n
  | some o => exact ObjOk.there (x a o e)
theorem HOk.keptT {P : Program} {w : World} {H : Hp} {h h' : Heap} (x : HOk P w H h) (k : ∀ b u, h.get? b = some u → H b ≠ none → h'.get? b = some u) : HOk P w H h' := fun a o e =>
  (x a o e).stay (fun b u hb q => k b u q (by
    rcases hb with rfl | hb
    · rw [e]; exact fun z => nomatch z
    · rw [hb]; exact fun z => nomatch z)) (fun _ q => q) fun _ _ q => q
structure Flown (P : Program) (w : World) (outer : List Env) (H : Hp) (s : Shared) (ea : Addr) (cls : Value) (H' : Hp) (s' : Shared) : Prop where
  ex : ∃ (a0 : Value) (B : Heap), Heap.FlyingW B outer ea cls a0 s'.heap ∧ (∀ b o, s'.heap.get? b = some o → H' b ≠ none → B.get? b = some o) ∧ (∀ b o, s.heap.get? b = some o → H b = none → b ∉ frs outer → B.get? b = some o) ∧ (∀ b o, s.heap.get? b = some o → b ∉ frs outer → ∃ o', B.get? b = some o')
  os : s'.os = s.os
  bare : AllBare s'.gens
  un : Un (frs outer) [] H H' s.heap s'.heap
  hok : HOk P w H' s'.heap
  new : s.heap.get? ea = none
  free : H' ea = none
/-- how an exception lies behind a call: E of its class and the abstract heap -/
def CXw (P : Program) (w : World) : CXT := fun outer H s E e s' => ∃ ea cls H', e = .ref ea ∧ Flown P w outer H s ea cls H' s' ∧ E cls none H'
section
variable {X : Cx} {pins : List (Addr × Obj)} {σ : St} {H H' : Hp} {s s' : Shared} {E : XK}
theorem Inv.noloc (I : Inv X pins σ H s) : X.s₀.heap.get? X.env.locals = none := Heap.get?_none_of_le I.ok.above
theorem frames_nf (I : Inv X pins σ H s) : ∀ b ∈ frs X.stack, ∀ o, s.heap.get? b = some o → ∀ vs, o.data ≠ .fields vs := fun b hb o q vs z => by
  obtain ⟨_, o', e, d⟩ := I.stack.mem hb
  rw [q] at e
  cases e
  exact d vs z

/-! ### raise C(), C without an __init__ of its own -/
end
end L2
set_option Elab.async false
set_option linter.all false
set_option maxRecDepth 100000
set_option maxHeartbeats 4000000
namespace L2
open PySem PySem.Spec PySem.W PyProof.Rows
/-- an object of the class at C stands there -/
def IsOf (x C : Addr) (h : Heap) : Prop := ∃ o, h.get? x = some o ∧ o.cls = .ref C
theorem IsOf.ty {x C : Addr} {h : Heap} (I : IsOf x C h) (M : Model) : Looks M h (typeOf (.ref x)) (.ref C) := by
  obtain ⟨o, e, c⟩ := I
  rw [← c]
  exact Looks.andThen (Looks.ld e) Looks.now
/-- what the written part says of an own exception class -/
structure ExcC (K : Frag) (C : Addr) : Prop where
  ga : findIn K (.ref C) "__getattribute__" = some (some (.builtin "BaseException.__getattribute__"))
  hk : findIn K (.ref C) "__getattr__" = some none
  mB : mroIn K C (.type "BaseException") = some true
  mO : mroIn K C (.type "object") = some true
  ca : findIn K (.ref C) "__class__" = some (some (.builtin "object.__class__"))
  hn : specialIn K (.builtin "object.__class__") "__get__" = some (some (.builtin "getset_descriptor.__get__"))
  tk : takesIn K (.builtin "object.__class__") = some true
section
variable {prog : Program} {w : World} {A : Around} {E : Value → Shared → Prop} {s : Shared} {K : Frag} {x C : Addr}
theorem exc_check {nv : Value} {Q : Unit → Shared → Prop} (X : K.In s.heap) (I : IsOf x C s.heap) (hm : mroIn K C (.type "BaseException") = some true) (hq : Q () s) :
    wpAny (model prog w) A (checkBuiltinCall "BaseException.__getattribute__" ⟨[.ref x, nv], []⟩) Q E s := by
  obtain ⟨hh, g, d, t, os⟩ := s
  have k1 : builtinKind "BaseException.__getattribute__" = some .slot := by decide +kernel
  have k2 : splitId "BaseException.__getattribute__" = some ("BaseException", "__getattribute__") := by decide +kernel
  have la := I.ty (model prog w)
  have lb := looks_mroIn (M := model prog w) X hm
  have lc := F.args_bexc_ga (.ref x) nv
  simp only [checkBuiltinCall, k1, k2]
  refine wpAny_bind ?_
  unfold isInstance
  repeat lk
  exact hq
theorem exc_entry {name : Str} {tk : Tok} {r : Builtin.ObjectAttr.Found} {Q : Fin → Shared → Prop} (X : K.In s.heap) (I : IsOf x C s.heap) (fd : Looks (model prog w) s.heap (Builtin.ObjectAttr.find (.ref x) (.ref C) name) r)
    (h : match r with
      | .value v => Q (.done (.ret v)) s
      | .bind g a => wpAny (model prog w) A (call g [a, .ref x, .ref C]) (fun v s' => Q (.done (.ret v)) s') E s
      | .missing => False) : wpAny (model prog w) A (Builtin.«object.__getattribute__» ⟨[.ref x, .str name tk], []⟩) Q E s := by
  obtain ⟨hh, g, d, t, os⟩ := s
  have la := I.ty (model prog w)
  unfold Builtin.«object.__getattribute__»
  refine wpAny_bind (wpAny_pure ?_)
  refine wpAny_bind (wpAny_pure ?_)
  refine wpAny_bind (la.at ?_)
  refine wpAny_bind (fd.at ?_)
  cases r with
  | value v => exact wpAny_pure h
  | bind g a =>
    show wpAny _ _ (holding [a] (call g [a, .ref x, .ref C]) >>= ret) _ _ _
    exact wpAny_bind (wpAny_holding (wpAny_mono h (fun v s' z => wpAny_pure z) fun _ _ z => z))
  | missing => exact h.elim
theorem exc_attr {name : Str} {r : Builtin.ObjectAttr.Found} {expr fill : Bool} {tk : Tok} {Q : Value → Shared → Prop} (X : K.In s.heap) (I : IsOf x C s.heap) (e : ExcC K C) (fd : Looks (model prog w) s.heap (Builtin.ObjectAttr.find (.ref x) (.ref C) name) r)
    (h : match r with
      | .value v => handedIn v = true ∧ Q v s
      | .bind g a => wpAny (model prog w) A.in1 (call g [a, .ref x, .ref C]) (fun v s' => handedIn v = true ∧ Q v s') (fun _ _ => False) s
      | .missing => False) : wpAny (model prog w) A (getAttrBy (.ref x) (.str name tk) fill expr) Q E s := by
  have FA := F.excAttr_ValueError
  have la := I.ty (model prog w)
  have lb := looks_findIn (M := model prog w) X e.ga
  have lc := looks_findIn (M := model prog w) X e.hk
  have ne : (Value.builtin "BaseException.__getattribute__" == Value.builtin "object.__getattribute__") = false := by decide +kernel
  obtain ⟨hh, g, d, t, os⟩ := s
  unfold getAttrBy
  refine wpAny_holding (wpAny_bind (la.at (wpAny_bind (lb.at ?_))))
  show wpAny _ _ (if (true && (Value.builtin "BaseException.__getattribute__" == Value.builtin "object.__getattribute__")) = true then _ else getAttrByItsOwn (.ref x) (.str name tk) (.ref C) (.builtin "BaseException.__getattribute__") fill expr) _ _ _
  rw [ne, if_neg (by decide)]
  unfold getAttrByItsOwn hookBefore
  refine wpAny_bind (lc.at ?_)
  refine wpAny_bind (wpAny_attempt (wpAny_holding ?_))
  unfold callGetattribute
  rw [if_neg (by cases expr <;> decide)]
  unfold boundAndCalled
  rw [FA.ga.bind (.ref x)]
  refine wpAny_bind (wpAny_pure ?_)
  refine wpAny_call (codeAny_call_builtin FA.ga.plain F.entry_bexc_ga (exc_check X I e.mB (exc_entry X I fd ?_)))
  cases r with
  | value v => exact handed_on h.1 h.2
  | bind g a => exact wpAny_mono h (fun v s' z => handed_on z.1 z.2) fun _ _ z => z.elim
  | missing => exact h.elim
theorem exc_cls {R : Result → Shared → Prop} {tp : Value} (X : K.In s.heap) (I : IsOf x C s.heap) (e : ExcC K C) (h : R (.ok (.ret (.ref C))) s) :
    codeAny (model prog w) A (.call (.builtin "getset_descriptor.__get__") ⟨[.builtin "object.__class__", .ref x, tp], []⟩) R s := by
  obtain ⟨hh, gs, dr, tt, oss⟩ := s
  have la := I.ty (model prog w)
  have lb := looks_mroIn (M := model prog w) X e.mO
  refine codeAny_call_builtin KF.slot_gs.plain KF.entry_gs ?_
  refine KF.slot_gs.check _ _ _ _ _ _ _ _ KF.type_class (KF.args_gs _ _ _) ?_
  unfold Builtin.«getset_descriptor.__get__»
  unfold Builtin.Getset_descriptor.descrGet
  rw [dga_obj]
  refine wpAny_bind (wpAny_pure ?_)
  unfold Builtin.Getset_descriptor.descrGetter
  unfold Builtin.Getset_descriptor.descrCheckInstance
  unfold Builtin.Getset_descriptor.descrNameAndClass
  unfold isInstance
  simp only [KF.owner_class]
  repeat lk
  refine ⟨Code.quiet_builtin _ (by decide +kernel), ?_⟩
  refine codeAny_builtin KF.entry_class ?_
  unfold Builtin.«object.__class__»
  unfold shownTypeOf
  repeat lk
  exact h
theorem exc_find (X : K.In s.heap) (e : ExcC K C) (M : Model) : Looks M s.heap (Builtin.ObjectAttr.find (.ref x) (.ref C) "__class__") (.bind (.builtin "getset_descriptor.__get__") (.builtin "object.__class__")) := by
  have la := looks_findIn (M := M) X e.ca
  have lb := looks_specialIn (M := M) X e.hn
  have lc := looks_takesIn (M := M) X e.tk
  refine Looks.andThen la (Looks.andThen lb ?_)
  exact Looks.andThen (show Looks M s.heap (Builtin.ObjectAttr.dataDescriptor? (some (.builtin "object.__class__")) (some (.builtin "getset_descriptor.__get__"))) (some (_, _)) from Looks.andThen lc Looks.now) (Looks.tag Looks.now)
end
theorem ExcC.cls {K : Frag} {C : Addr} (e : ExcC K C) : ∃ cl d cd sl, K.lookup C = some ⟨cl, d, .cls cd, sl⟩ := by
  obtain ⟨cd, h, _⟩ := Option.bind_eq_some_iff.mp e.mB
  unfold clsIn at h
  split at h
  · rename_i c' d' cd' sl' ho
    exact ⟨c', d', cd', sl', ho⟩
  · cases h
theorem kitx_exc {K : Frag} {x C : Addr} (e : ExcC K C) : KitX K (.ref x) (.ref C) (IsOf x C) where
  ty := fun M _ _ I => I.ty M
  it := fun _ _ X _ => by
    obtain ⟨cl, d, cd, sl, ho⟩ := e.cls
    intro A' Q' E' s' k q
    unfold isType loadHead
    have z := k _ _ (X _ _ ho)
    exact wpAny_bind (wpAny_loadPart z (wpAny_pure q))
  ne := fun h tp dd its n sl X htp => by
    obtain ⟨cl, d, cd, sl', ho⟩ := e.cls
    cases q : (Value.ref C == Value.ref tp) with
    | false => rfl
    | true =>
      have e2 : C = tp := Value.ref.inj (eq_of_beq q)
      rw [← e2, X _ _ ho] at htp
      cases htp
  ca := fun {prog w A E Q s} X I k => by
    unfold getAttr? getAttrBy?
    refine wpAny_bind (wpAny_mkText (wpAny_bind (wpAny_attempt ?_)))
    refine exc_attr (s := { s with toks := s.toks + 1 }) X I e (exc_find (s := { s with toks := s.toks + 1 }) X e _) ?_
    exact wpAny_call (exc_cls (s := { s with toks := s.toks + 1 }) X I e ⟨rfl, wpAny_pure k⟩)
end L2
set_option Elab.async false
set_option linter.all false
set_option maxRecDepth 100000
set_option maxHeartbeats 4000000
namespace L2
open PySem PySem.Spec PyProof.Rows

/-- the context of an except suite -/
def Cx.held (X : Cx) (ea : Addr) (E : Value → Shared → Prop) : Cx := { X with A := X.A.mark (some (.ref ea)), calm := false, xe := E }
section
variable {X : Cx} {pins : List (Addr × Obj)} {σ : St} {H H' : Hp} {s s' : Shared} {ea : Addr} {E : Value → Shared → Prop}
theorem Inv.held (I : Inv X pins σ H s) (ea : Addr) (E : Value → Shared → Prop) : Inv (X.held ea E) pins σ H s :=
  ⟨⟨I.ok.mod, I.ok.kind, I.ok.glob, I.ok.blt, I.ok.above, I.ok.inj, I.ok.has, I.ok.cab, fun z => absurd z Bool.false_ne_true, I.ok.frames, I.ok.stk, I.ok.exf, I.ok.bs, I.ok.bsz, I.ok.noex, I.ok.exfs, I.ok.funs, I.ok.frf⟩,
    I.os, I.bare, I.base, I.loc, I.cell, I.free, I.freeC, I.pin, I.hok, I.len⟩
theorem Inv.unheld (ok : X.Ok) (I : Inv (X.held ea E) pins σ H s) : Inv X pins σ H s := ⟨ok, I.os, I.bare, I.base, I.loc, I.cell, I.free, I.freeC, I.pin, I.hok, I.len⟩
/-- a thing that stands already is tracked from here on -/
theorem Inv.track {a : Addr} {o : HO} (I : Inv X pins σ H s) (h0 : X.s₀.heap.get? a = none) (hl : a ≠ X.env.locals) (hc : ∀ x c, X.env.cells.lookup x = some c → c ≠ a) (hp : ∀ p ∈ X.pn ++ pins, p.1 ≠ a) (hn : H a = none)
    (new : ObjOk X.prog X.w (upd H a o) s.heap a o) : Inv X pins σ (upd H a o) s := by
  have nt : ∀ {b : Addr} {u : HO}, H b = some u → b ≠ a := fun {b u} e z => by rw [z, hn] at e; cases e
  refine ⟨I.ok, I.os, I.bare, ⟨I.base.keep, I.base.slot, fun b ob q n hx => ?_, I.base.there, fun b xs q => ?_, fun b ob u q => ?_, fun b ps q => ?_⟩, I.loc, I.cell, ?_, fun x c e => ?_, fun p hp' => ?_, fun b u e => ?_, I.len⟩
  · rw [upd_ne (fun z => by rw [z, h0] at q; cases q)]
    exact I.base.free b ob q n hx
  · have e := I.base.tups b xs q
    rw [upd_ne (nt e)]; exact e
  · have e := I.base.frzs b ob u q
    rw [upd_ne (nt e)]; exact e
  · obtain ⟨more, e⟩ := I.base.tbls b ps q
    exact ⟨more, by rw [upd_ne (nt e)]; exact e⟩
  · rw [upd_ne (Ne.symm hl)]; exact I.free
  · rw [upd_ne (hc x c e)]; exact I.freeC x c e
  · obtain ⟨e, n, r⟩ := I.pin p hp'
    exact ⟨e, by rw [upd_ne (hp p hp')]; exact n, r⟩
  · by_cases hb : b = a
    · subst hb
      rw [upd_same] at e
      cases e
      exact new
    · rw [upd_ne hb] at e
      exact (I.hok b u e).stay (fun _ _ _ q => q) (fun c q => by rw [upd_ne (nt q)]; exact q) fun c xs q => by rw [upd_ne (nt q)]; exact q
/-- a name of the frame goes: its slot is forgotten -/
theorem Inv.goes {i : Nat} {n : Str} {M : Model} {A : Around} {Q : Unit → Shared → Prop} {pos : Pos} (I : Inv X pins σ H s) (hN : X.N.Nodup) (hi : X.N[i]? = some n) (hx : X.env.scope.names.lookup n = some .local)
    (h : ∀ s', Inv X pins (σ.set i none) H s' → Q () s') : wpAny M A (do bindName X.env n .none; unbindBehindTheSuite X.env n pos) Q E s := by
  obtain ⟨m, hn, hl⟩ := id I.loc
  have hcls : (X.env.scope.kind == .class || (X.env.scope.kind == .module && X.env.locals != X.env.globals)) = false := by rw [I.ok.kind]; rfl
  have hiσ : i < σ.length := by rw [I.len]; exact (List.getElem?_eq_some_iff.mp hi).1
  refine wpAny_nameGoes_keeps hx hn hcls fun h' v hn' hs => h _ ?_
  obtain ⟨oL, _, _, hoL, _⟩ := id hn
  have neL : ∀ b o, X.s₀.heap.get? b = some o → b ≠ X.env.locals := fun b o e => Nat.ne_of_lt (Nat.lt_of_lt_of_le (Heap.lt_size e) I.ok.above)
  refine ⟨I.ok, I.os, I.bare, ⟨fun b o e n hb hx => ?_, fun b o e n hb hx => ?_, I.base.free, fun b o e hx => ?_, I.base.tups, I.base.frzs, I.base.tbls⟩, ⟨_, hn', fun j y v' e1 e2 e3 => ?_⟩, fun y c e => ?_, I.free, I.freeC, fun p hp => ?_, fun b ob e => ?_, by simpa using I.len⟩
  · exact (hs.2 b (neL b o e)).trans (I.base.keep b o e n hb hx)
  · obtain ⟨sl, e1⟩ := I.base.slot b o e n hb hx
    exact ⟨sl, (hs.2 b (neL b o e)).trans e1⟩
  · obtain ⟨o', e1⟩ := I.base.there b o e hx
    exact ⟨o', (hs.2 b (neL b o e)).trans e1⟩
  · by_cases hj : j = i
    · subst hj
      rw [List.getElem?_set_self hiσ] at e2
      cases e2
    · rw [List.getElem?_set_ne (Ne.symm hj)] at e2
      obtain ⟨u', r', q⟩ := hl j y v' e1 e2 e3
      refine ⟨u', r', ?_⟩
      rcases q with ⟨k, e⟩ | ⟨k, c, e, z⟩
      · refine .inl ⟨k, ?_⟩
        have : y ≠ n := fun e => hj (nodup_ix hN e1 (e ▸ hi))
        simp [this, e]
      · exact .inr ⟨k, c, e, z.sameBut hs (I.cne y c e)⟩
  · obtain ⟨w', z⟩ := I.cell y c e
    exact ⟨w', z.sameBut hs (I.cne y c e)⟩
  · obtain ⟨e, n, ne, nf, d⟩ := I.pin p hp
    exact ⟨(hs.2 p.1 ne).trans e, n, ne, nf, d⟩
  · refine (I.hok b ob e).stay (fun c w' hc q => (hs.2 c ?_).trans q) (fun _ q => q) fun _ _ q => q
    rintro rfl
    rcases hc with rfl | hc
    · rw [I.free] at e; cases e
    · rw [I.free] at hc; cases hc
end
section
variable {prog : Program} {w : World} {A : Around} {E : Value → Shared → Prop} {s : Shared} {K : PySem.W.Frag} {x C CB : Addr}
theorem exc_matches {b : Bool} {Q : Bool → Shared → Prop} (X : K.In s.heap) (I : IsOf x C s.heap) (ht : PySem.W.typeIn K (.ref CB) = some (.type "type")) (hB : PySem.W.mroIn K CB (.type "BaseException") = some true)
    (hC : PySem.W.mroIn K C (.ref CB) = some b) (h : Q b s) : wpAny (model prog w) A (excMatches (.ref x) (.ref CB)) Q E s := by
  obtain ⟨hh, g, d, t, os⟩ := s
  have L0 := I.ty (model prog w)
  have L1 := PySem.W.looks_mroIn (M := model prog w) X hB
  have L2 := PySem.W.looks_mroIn (M := model prog w) X hC
  have L3 := PySem.W.looks_typeIn (M := model prog w) X ht
  have f := tc_notTuple
  have L4 : PySem.W.Looks (model prog w) hh (isType (.ref CB)) true := by
    obtain ⟨cdD, hcD, _⟩ := Option.bind_eq_some_iff.mp hB
    unfold PySem.W.clsIn at hcD
    split at hcD
    · rename_i c' d' cd' sl' ho
      intro A' Q' E' s' k q
      unfold isType loadHead
      exact wpAny_bind (wpAny_loadPart (k _ _ (X _ _ ho)) (wpAny_pure q))
    · cases hcD
  unfold excMatches isInstance isExcClass
  refine wpAny_bind (wpAny_bind (L3.at ?_))
  rw [f]
  refine wpAny_pure ?_
  rw [if_neg Bool.false_ne_true]
  refine wpAny_bind (wpAny_pure ?_)
  simp only [List.forIn_cons, List.forIn_nil]
  cases b with
  | true =>
    repeat (first | lk | wp_step)
    all_goals first | exact h | trace_state
  | false =>
    repeat (first | lk | wp_step)
    all_goals first | exact h | trace_state
end

/-! ### try: f(..) / except Y as n: suite -/
end L2
set_option linter.all false
namespace Tw
open PySem

/-- a key, as a tree -/
inductive KT where
  | int (i : Int)
  | str (x : Str)
  | tup (l : List KT)

mutual
def KT.depth : KT → Nat
  | .int _ => 0
  | .str _ => 0
  | .tup l => 1 + depthL l
def depthL : List KT → Nat
  | [] => 0
  | t :: r => max t.depth (depthL r)
end
mutual
def KT.size : KT → Nat
  | .int _ => 1
  | .str _ => 1
  | .tup l => 1 + sizeL l
def sizeL : List KT → Nat
  | [] => 0
  | t :: r => t.size + sizeL r
end
def signOk (c : Nat) : Bool := decide (32 ≤ c) && decide (c ≤ 126)
def textOk (x : Str) : Bool := decide (x.length ≤ 40) && x.cps.toList.all signOk
mutual
def KT.fits : KT → Nat → Bool
  | .int i, _ => decide (i.natAbs < 10 ^ 60)
  | .str x, _ => textOk x
  | .tup l, r => decide (0 < r) && (decide (l.length ≤ 4) && fitsL l (r - 1))
def fitsL : List KT → Nat → Bool
  | [], _ => true
  | t :: l, r => t.fits r && fitsL l r
end

theorem fitsL_all (r : Nat) : ∀ l : List KT, fitsL l r = l.all fun t => t.fits r
  | [] => by simp [fitsL]
  | t :: l => by rw [fitsL, List.all_cons, fitsL_all r l]

def KT.things : KT → List KT
  | .tup l => l
  | _ => []
def below (l : List KT) : List KT := l.flatMap KT.things
end Tw
set_option linter.all false
namespace Tw
open PySem

/-! ### keys alike; Python's own order; the keys' order -/
mutual
def KT.eqb : KT → KT → Bool
  | .int i, .int j => i == j
  | .str x, .str y => x == y
  | .tup l, .tup m => eqbL l m
  | _, _ => false
def eqbL : List KT → List KT → Bool
  | [], [] => true
  | a :: l, b :: m => a.eqb b && eqbL l m
  | _, _ => false
end
def KT.kind : KT → Nat
  | .int _ => 0
  | .str _ => 1
  | .tup _ => 2
mutual
def KT.lt : KT → KT → Bool
  | .int i, .int j => decide (i < j)
  | .int _, .str _ => true
  | .int _, .tup _ => true
  | .str _, .int _ => false
  | .str x, .str y => decide (x.cps.toList < y.cps.toList)
  | .str _, .tup _ => true
  | .tup _, .int _ => false
  | .tup _, .str _ => false
  | .tup l, .tup m => ltL l m
def ltL : List KT → List KT → Bool
  | [], [] => false
  | [], _ :: _ => true
  | _ :: _, [] => false
  | a :: l, b :: m => if a.eqb b = true then ltL l m else a.lt b
end
mutual
def KT.st : KT → KT
  | .int i => .tup [.int 0, .int i]
  | .str x => .tup [.int 1, .str x]
  | .tup l => .tup [.int 2, .tup (stL l)]
def stL : List KT → List KT
  | [] => []
  | t :: l => t.st :: stL l
end
mutual
theorem eqb_self : ∀ a : KT, a.eqb a = true
  | .int i => by rw [KT.eqb]; exact beq_self_eq_true i
  | .str x => by rw [KT.eqb]; exact beq_self_eq_true x
  | .tup l => by rw [KT.eqb]; exact eqbL_self l
theorem eqbL_self : ∀ l : List KT, eqbL l l = true
  | [] => by rw [eqbL]
  | a :: l => by rw [eqbL, eqb_self a, eqbL_self l]; rfl
end
/-! ### the laws' own way, from place to place -/
/-! ### keys near one another -/
theorem text_of {x : Str} (h : textOk x = true) : x.cps.size ≤ 40 ∧ x.cps.toList.all signOk = true := by
  unfold textOk at h
  rw [Bool.and_eq_true] at h
  exact ⟨of_decide_eq_true h.1, h.2⟩
end Tw
set_option linter.all false
namespace Tw
open PySem
/-- a thing of any kind, as a tree; odd: what is no number, text or tuple, by its type's name -/
inductive TG where
  | int (i : Int)
  | str (x : Str)
  | tup (l : List TG)
  | odd (n : String)
mutual
def TG.fits : TG → Nat → Bool
  | .int i, _ => decide (i.natAbs < 10 ^ 60)
  | .str x, _ => textOk x
  | .tup l, r => decide (0 < r) && (decide (l.length ≤ 4) && gfitsL l (r - 1))
  | .odd _, _ => false
def gfitsL : List TG → Nat → Bool
  | [], _ => true
  | t :: l, r => t.fits r && gfitsL l r
end
/-! no text in it is long, no tuple in it is wide -/
end Tw
set_option Elab.async false
set_option linter.all false
set_option maxRecDepth 100000
set_option maxHeartbeats 4000000
namespace Tw
open PySem PySem.Spec L2

/-- a def of the text with its promise -/
structure DefOk (P : Program) (w : World) (K : PySem.W.Frag) (mg : Str → Option Value) (base : Heap) (k : Nat) (x : Str) (ps : List Str) (sp : Sp) : Prop where
  ex : ∃ f fd, FnOk P w K mg base CX0 k f fd ps sp ∧ Binds K fd ps [] ∧ PySem.W.keepIn K (.ref f) = true ∧ mg x = some (.ref f)
theorem pe_def {X : Cx} {k : Nat} {x : Str} {ps : List Str} {sp : Sp} {e : Expr} {es : List Expr} {t : TA} {p pos : Pos} (D : DefOk X.prog X.w X.K X.mg X.base k x ps sp) (hr : Room k X.A) (ha : PA X (e :: es) t) (hg : Gl X x := by rfl)
    (hdb : (x == ("__debug__" : Str)) = false := by decide) (he : starEach (e :: es) X.env = (false, eval e X.env) :: starEach es X.env := by rfl) (hpl : (backTo pos (starEach es X.env)).any (·.1) = false := by rfl) :
    PE X (.Call (.Name x p) (e :: es) [] pos) (tCall sp [] E0 t) := by
  obtain ⟨f, fd, F, b, kp, m⟩ := D.ex
  exact pe_call F hr hg m kp b .nil pass0 ha hdb he hpl

/-! ### keys on the heap -/
mutual
def KeyAt (H : Hp) : KT → V → Prop
  | .int i, v => v = .int i
  | .str x, v => v = .str x
  | .tup l, v => ∃ a vs, v = .ref a ∧ H a = some (.tup vs) ∧ KeysAt H l vs
def KeysAt (H : Hp) : List KT → List V → Prop
  | [], vs => vs = []
  | t :: l, vs => ∃ v r, vs = v :: r ∧ KeyAt H t v ∧ KeysAt H l r
end
/-- the tuples stay -/
def Tups (H H' : Hp) : Prop := ∀ b xs, H b = some (.tup xs) → H' b = some (.tup xs)
mutual
theorem KeyAt.mono {H H' : Hp} (m : Tups H H') : ∀ (t : KT) (v : V), KeyAt H t v → KeyAt H' t v
  | .int _, _, h => by rw [KeyAt] at h ⊢; exact h
  | .str _, _, h => by rw [KeyAt] at h ⊢; exact h
  | .tup l, _, h => by
    rw [KeyAt] at h ⊢
    obtain ⟨a, vs, e, h1, h2⟩ := h
    exact ⟨a, vs, e, m a vs h1, KeysAt.mono m l vs h2⟩
theorem KeysAt.mono {H H' : Hp} (m : Tups H H') : ∀ (l : List KT) (vs : List V), KeysAt H l vs → KeysAt H' l vs
  | [], _, h => by rw [KeysAt] at h ⊢; exact h
  | t :: l, _, h => by
    rw [KeysAt] at h ⊢
    obtain ⟨v, r, e, h1, h2⟩ := h
    exact ⟨v, r, e, KeyAt.mono m t v h1, KeysAt.mono m l r h2⟩
end
theorem KeysAt.nil {H : Hp} : KeysAt H [] [] := by rw [KeysAt]
theorem KeysAt.cons {H : Hp} {t : KT} {l : List KT} {v : V} {r : List V} (h : KeyAt H t v) (hr : KeysAt H l r) : KeysAt H (t :: l) (v :: r) := by
  rw [KeysAt]
  exact ⟨v, r, rfl, h, hr⟩
theorem KeyAt.tup {H : Hp} {a : Addr} {vs : List V} {l : List KT} (e : H a = some (.tup vs)) (h : KeysAt H l vs) : KeyAt H (.tup l) (.ref a) := by
  rw [KeyAt]
  exact ⟨a, vs, rfl, e, h⟩
theorem KeyAt.int {H : Hp} (i : Int) : KeyAt H (.int i) (.int i) := by rw [KeyAt]
theorem KeyAt.str {H : Hp} (x : Str) : KeyAt H (.str x) (.str x) := by rw [KeyAt]
theorem KeysAt.append {H : Hp} : ∀ {l m : List KT} {vs ws : List V}, KeysAt H l vs → KeysAt H m ws → KeysAt H (l ++ m) (vs ++ ws)
  | [], m, vs, ws, h, g => by rw [KeysAt] at h; subst h; exact g
  | t :: l, m, vs, ws, h, g => by
    rw [KeysAt] at h
    obtain ⟨v, r, rfl, h1, h2⟩ := h
    exact .cons h1 (h2.append g)
theorem KeysAt.length {H : Hp} : ∀ {l : List KT} {vs : List V}, KeysAt H l vs → l.length = vs.length
  | [], vs, h => by rw [KeysAt] at h; subst h; rfl
  | t :: l, vs, h => by
    rw [KeysAt] at h
    obtain ⟨v, r, rfl, _, h2⟩ := h
    rw [List.length_cons, List.length_cons, h2.length]
theorem KeysAt.get {H : Hp} : ∀ {l : List KT} {vs : List V} {i : Nat} {v : V}, KeysAt H l vs → vs[i]? = some v → ∃ t, l[i]? = some t ∧ KeyAt H t v
  | [], vs, i, v, h, e => by rw [KeysAt] at h; subst h; simp at e
  | t :: l, vs, 0, v, h, e => by
    rw [KeysAt] at h
    obtain ⟨v', r, rfl, h1, _⟩ := h
    simp at e
    subst e
    exact ⟨t, rfl, h1⟩
  | t :: l, vs, i + 1, v, h, e => by
    rw [KeysAt] at h
    obtain ⟨v', r, rfl, _, h2⟩ := h
    obtain ⟨t', e1, e2⟩ := h2.get (i := i) (by simpa using e)
    exact ⟨t', by simpa using e1, e2⟩
theorem KeysAt.take {H : Hp} : ∀ {l : List KT} {vs : List V} (n : Nat), KeysAt H l vs → KeysAt H (l.take n) (vs.take n)
  | l, vs, 0, _ => by simp only [List.take_zero]; exact .nil
  | [], vs, n + 1, h => by rw [KeysAt] at h; subst h; exact .nil
  | t :: l, vs, n + 1, h => by
    rw [KeysAt] at h
    obtain ⟨v', r, rfl, h1, h2⟩ := h
    exact .cons h1 (h2.take n)
theorem KeysAt.drop {H : Hp} : ∀ {l : List KT} {vs : List V} (n : Nat), KeysAt H l vs → KeysAt H (l.drop n) (vs.drop n)
  | l, vs, 0, h => h
  | [], vs, n + 1, h => by rw [KeysAt] at h; subst h; exact .nil
  | t :: l, vs, n + 1, h => by
    rw [KeysAt] at h
    obtain ⟨v', r, rfl, h1, h2⟩ := h
    exact h2.drop n
def KT.ty : KT → Value
  | .int _ => .type "int"
  | .str _ => .type "str"
  | .tup _ => .type "tuple"
theorem KeyAt.ty {H : Hp} {K : PySem.W.Frag} {t : KT} {v : V} (h : KeyAt H t v) : TyOf K H v t.ty := by
  cases t with
  | int i => rw [KeyAt] at h; subst h; exact .int i
  | str x => rw [KeyAt] at h; subst h; exact .str x
  | tup l => rw [KeyAt] at h; obtain ⟨a, vs, rfl, e, _⟩ := h; exact .tup e

/-! ### what stays -/
/-- all but p -/
def SameX (p : Addr) (H H' : Hp) : Prop := ∀ b o, H b = some o → b ≠ p → H' b = some o
theorem SameX.refl (p : Addr) (H : Hp) : SameX p H H := fun _ _ h _ => h
theorem SameX.trans {p : Addr} {H H1 H2 : Hp} (a : SameX p H H1) (b : SameX p H1 H2) : SameX p H H2 := fun c o h n => b c o (a c o h n) n
theorem SameX.upd {p : Addr} {H H' : Hp} {o : HO} (a : SameX p H H') : SameX p H (L2.upd H' p o) := fun c u h n => by rw [upd_ne n]; exact a c u h n
theorem SameX.of {p : Addr} {H H' : Hp} (a : Same H H') : SameX p H H' := fun c o h _ => a c o h
theorem SameX.tups {p : Addr} {H H' : Hp} {xs : List V} (a : SameX p H H') (h : H p = some (.lst xs)) : Tups H H' := fun b ys e => a b _ e (ne_of e h (by intro z; cases z))
theorem Same.tups {H H' : Hp} (a : Same H H') : Tups H H' := fun b ys e => a b _ e
theorem same_new {H : Hp} {p : Addr} (h : H p = none) (o : HO) : Same H (L2.upd H p o) := fun b u q => by rw [upd_ne (ne_of_none q h)]; exact q
theorem Tups.trans {H H1 H2 : Hp} (a : Tups H H1) (b : Tups H1 H2) : Tups H H2 := fun c xs h => b c xs (a c xs h)

/-! ### the well of draws: a list of four ints -/
structure WellAt (H : Hp) (p : Addr) : Prop where
  ex : ∃ a b c d : Int, H p = some (.lst [.int a, .int b, .int c, .int d]) ∧ 0 ≤ a ∧ a < 2147483647 ∧ 0 ≤ c ∧ 0 ≤ d
theorem WellAt.stay {H H' : Hp} {p q : Addr} (w : WellAt H p) (s : SameX q H H') (n : p ≠ q) : WellAt H' p := by
  obtain ⟨a, b, c, d, e, r⟩ := w.ex
  exact ⟨a, b, c, d, s p _ e n, r⟩
theorem WellAt.same {H H' : Hp} {p : Addr} (w : WellAt H p) (s : Same H H') : WellAt H' p := by
  obtain ⟨a, b, c, d, e, r⟩ := w.ex
  exact ⟨a, b, c, d, s p _ e, r⟩
theorem WellAt.some {H : Hp} {p : Addr} (w : WellAt H p) : ∃ xs, H p = Option.some (.lst xs) := by
  obtain ⟨a, b, c, d, e, r⟩ := w.ex
  exact ⟨_, e⟩
theorem SameX.tupsW {p : Addr} {H H' : Hp} (a : SameX p H H') (w : WellAt H p) : Tups H H' := by
  obtain ⟨xs, e⟩ := w.some
  exact a.tups e

/-! ### the promises -/
def small (m : Int) : Prop := 0 < m ∧ m.natAbs.log2 < 9000
def spWell (K : PySem.W.Frag) : Sp := fun vs H Q _ => ∃ (a : Addr) (ns : List Int) (k : Int), vs = [.ref a, .int k] ∧ SqL K H a (ns.map V.int) ∧ ns.length ≤ 63 ∧ 0 ≤ k ∧ k ≤ 1000 ∧
  ∀ (p : Addr) (H' : Hp), H p = none → Same H H' → WellAt H' p → Q (.ref p) H'
def spPull : Sp := fun vs H Q _ => ∃ (p : Addr) (m : Int), vs = [.ref p, .int m] ∧ WellAt H p ∧ small m ∧ ∀ (r : Int) (H' : Hp), 0 ≤ r → r < m → WellAt H' p → SameX p H H' → Q (.int r) H'
def spText : Sp := fun vs H Q _ => ∃ (p : Addr), vs = [.ref p] ∧ WellAt H p ∧ ∀ (x : Str) (H' : Hp), textOk x = true → WellAt H' p → SameX p H H' → Q (.str x) H'
def spKey (n : Nat) : Sp := fun vs H Q _ => ∃ (p : Addr) (r : Nat), vs = [.ref p, .int (r : Int)] ∧ WellAt H p ∧ r < n ∧ ∀ (v : V) (t : KT) (H' : Hp), KeyAt H' t v → t.fits r = true → WellAt H' p → SameX p H H' → Q v H'
def spLaw (K : PySem.W.Frag) : Sp := fun vs H Q _ => ∃ (a : Addr) (ns : List Int), vs = [.ref a] ∧ SqL K H a (ns.map V.int) ∧ ns.length ≤ 63 ∧ ∀ H', Q (.bl true) H'

/-! ### small facts -/
theorem nn {n : Nat} (h : n ≤ 1000) : n ≤ sizeLine := Nat.le_of_lt (small1000 h)
theorem at2 {x y : V} {i : Int} (h0 : 0 ≤ i) (h1 : i < 2) : ∃ v, atI [x, y] i = some v ∧ (v = x ∨ v = y) := by
  rcases (show i = 0 ∨ i = 1 by omega) with e | e
  · subst e; exact ⟨x, rfl, .inl rfl⟩
  · subst e; exact ⟨y, rfl, .inr rfl⟩
theorem atI_in {α : Type} {xs : List α} {i : Int} (h0 : 0 ≤ i) (h1 : i < (xs.length : Int)) : ∃ v, atI xs i = some v ∧ v ∈ xs := by
  have hk : i.toNat < xs.length := by omega
  have e : i = ((i.toNat : Nat) : Int) := by omega
  rw [e]
  exact ⟨xs[i.toNat], atI_nat (List.getElem?_eq_getElem hk), List.getElem_mem hk⟩
theorem small_lit {m : Int} (h0 : 0 < m) (h1 : m.natAbs < 2 ^ 250) : small m := by
  refine ⟨h0, ?_⟩
  have : m.natAbs.log2 < 250 := (Nat.log2_lt (by omega)).mpr h1
  omega
theorem vint_inj {i j : Int} (h : V.int i = V.int j) : i = j := by injection h
theorem signs_le (c : Nat) : ((!decide ([c] < [32])) && !decide ([126] < [c])) = signOk c := by
  unfold signOk
  have a : ([c] < [32]) ↔ c < 32 := by simp [List.cons_lt_cons_iff]
  have b : ([126] < [c]) ↔ 126 < c := by simp [List.cons_lt_cons_iff]
  rw [Bool.eq_iff_iff]
  simp only [Bool.and_eq_true, Bool.not_eq_true', decide_eq_false_iff_not, decide_eq_true_eq, a, b]
  omega
end Tw
set_option Elab.async false
set_option linter.all false
set_option maxRecDepth 100000
set_option maxHeartbeats 4000000
namespace Tw
open PySem PySem.Spec L2 PyProof.Rows

/-! ### keys as values -/
mutual
def KVal (h : Heap) : KT → Value → Prop
  | .int i, v => ∃ t, v = .int i t
  | .str x, v => ∃ t, v = .str x t
  | .tup l, v => ∃ (a : Addr) (its : List Value), v = .ref a ∧ IsTup h a its.toArray ∧ KVals h l its
def KVals (h : Heap) : List KT → List Value → Prop
  | [], vs => vs = []
  | t :: l, vs => ∃ v r, vs = v :: r ∧ KVal h t v ∧ KVals h l r
end
section
variable {X : Cx} {pins : List (Addr × Obj)} {σ : L2.St} {H : Hp} {s : Shared}
mutual
theorem kval_of (I : Inv X pins σ H s) : ∀ (t : KT) (x : V) (v : Value), KeyAt H t x → RelV x v → KVal s.heap t v
  | .int i, x, v, h, r => by
    rw [KeyAt] at h
    subst h
    rw [KVal]
    exact r
  | .str y, x, v, h, r => by
    rw [KeyAt] at h
    subst h
    rw [KVal]
    exact r
  | .tup l, x, v, h, r => by
    rw [KeyAt] at h
    obtain ⟨a, vs, rfl, e, hk⟩ := h
    obtain ⟨its, rv, pl, _⟩ := I.tuple (SqT.of e)
    rw [KVal]
    exact ⟨a, its, r, pl, kvals_of I l vs its hk rv⟩
theorem kvals_of (I : Inv X pins σ H s) : ∀ (l : List KT) (vs : List V) (us : List Value), KeysAt H l vs → Vals vs us → KVals s.heap l us
  | [], vs, us, h, r => by
    rw [KeysAt] at h
    subst h
    rw [KVals]
    cases r
    rfl
  | t :: l, vs, us, h, r => by
    rw [KeysAt] at h
    obtain ⟨v, q, rfl, h1, h2⟩ := h
    cases r with
    | cons r1 r2 =>
      rw [KVals]
      exact ⟨_, _, rfl, kval_of I t v _ h1 r1, kvals_of I l q _ h2 r2⟩
end
end
theorem isTup_inj {h : Heap} {a : Addr} {its its' : List Value} (x : IsTup h a its.toArray) (y : IsTup h a its'.toArray) : its = its' := by
  obtain ⟨o, e, _, n, d⟩ := x
  obtain ⟨o', e', _, n', d'⟩ := y
  rw [e] at e'
  cases e'
  rw [d] at d'
  injection d' with d1 _
  simpa using congrArg Array.toList d1
mutual
theorem KVal.inj {h : Heap} : ∀ (a b : KT) (v : Value), KVal h a v → KVal h b v → a.eqb b = true
  | .int i, b, v, x, y => by
    rw [KVal] at x
    obtain ⟨t, rfl⟩ := x
    cases b with
    | int j => rw [KVal] at y; obtain ⟨u, e⟩ := y; injection e with e _; rw [KT.eqb, e]; exact beq_self_eq_true j
    | str z => rw [KVal] at y; obtain ⟨u, e⟩ := y; cases e
    | tup m => rw [KVal] at y; obtain ⟨_, _, e, _⟩ := y; cases e
  | .str w, b, v, x, y => by
    rw [KVal] at x
    obtain ⟨t, rfl⟩ := x
    cases b with
    | int j => rw [KVal] at y; obtain ⟨u, e⟩ := y; cases e
    | str z => rw [KVal] at y; obtain ⟨u, e⟩ := y; injection e with e _; rw [KT.eqb, e]; exact beq_self_eq_true z
    | tup m => rw [KVal] at y; obtain ⟨_, _, e, _⟩ := y; cases e
  | .tup l, b, v, x, y => by
    rw [KVal] at x
    obtain ⟨p, its, rfl, px, kx⟩ := x
    cases b with
    | int j => rw [KVal] at y; obtain ⟨u, e⟩ := y; cases e
    | str z => rw [KVal] at y; obtain ⟨u, e⟩ := y; cases e
    | tup m =>
      rw [KVal] at y
      obtain ⟨q, its', e, py, ky⟩ := y
      cases e
      cases isTup_inj px py
      rw [KT.eqb]
      exact KVals.inj l m its kx ky
theorem KVals.inj {h : Heap} : ∀ (l m : List KT) (us : List Value), KVals h l us → KVals h m us → eqbL l m = true
  | [], m, us, x, y => by
    rw [KVals] at x
    subst x
    cases m with
    | nil => rw [eqbL]
    | cons b m => rw [KVals] at y; obtain ⟨_, _, e, _⟩ := y; cases e
  | a :: l, m, us, x, y => by
    rw [KVals] at x
    obtain ⟨v, r, rfl, x1, x2⟩ := x
    cases m with
    | nil => rw [KVals] at y; cases y
    | cons b m =>
      rw [KVals] at y
      obtain ⟨v', r', e, y1, y2⟩ := y
      injection e with e1 e2
      subst e1 e2
      rw [eqbL, KVal.inj a b v x1 y1, KVals.inj l m r x2 y2]
      rfl
end
theorem KVals.length {h : Heap} : ∀ {l : List KT} {us : List Value}, KVals h l us → l.length = us.length
  | [], us, x => by rw [KVals] at x; subst x; rfl
  | a :: l, us, x => by
    rw [KVals] at x
    obtain ⟨v, r, rfl, _, x2⟩ := x
    rw [List.length_cons, List.length_cons, x2.length]
theorem KVals.get {h : Heap} : ∀ {l : List KT} {us : List Value} {j : Nat} {u : Value}, KVals h l us → us[j]? = some u → ∃ t, l[j]? = some t ∧ KVal h t u
  | [], us, j, u, x, e => by rw [KVals] at x; subst x; simp at e
  | a :: l, us, 0, u, x, e => by
    rw [KVals] at x
    obtain ⟨v, r, rfl, x1, _⟩ := x
    simp at e
    subst e
    exact ⟨a, rfl, x1⟩
  | a :: l, us, j + 1, u, x, e => by
    rw [KVals] at x
    obtain ⟨v, r, rfl, _, x2⟩ := x
    obtain ⟨t, e1, e2⟩ := x2.get (j := j) (by simpa using e)
    exact ⟨t, by simpa using e1, e2⟩
theorem depth_in : ∀ {l : List KT} {t : KT}, t ∈ l → t.depth ≤ depthL l
  | [], _, h => by cases h
  | u :: l, t, h => by
    rw [depthL]
    rcases List.mem_cons.mp h with e | h
    · subst e; omega
    · have := depth_in h; omega
theorem eqbL_range : ∀ (l m : List KT), ((List.range (min l.length m.length)).all (fun j => (l.getD j (.int 0)).eqb (m.getD j (.int 0))) && l.length == m.length) = eqbL l m
  | [], [] => by simp [eqbL]
  | [], _ :: _ => by simp [eqbL]
  | _ :: _, [] => by simp [eqbL]
  | a :: l, b :: m => by
    have ih := eqbL_range l m
    have e : min (a :: l).length (b :: m).length = min l.length m.length + 1 := by simp only [List.length_cons]; omega
    rw [e, List.range_succ_eq_map, List.all_cons, List.all_map, eqbL, ← ih, Bool.and_assoc]
    simp [Function.comp_def]

/-! ### == -/
theorem eqAt_key {s : Shared} : ∀ (n : Nat) (a b : KT) (A : Around) (v u : Value), a.depth ≤ n → KVal s.heap a v → KVal s.heap b u → A.units + a.depth < cLine → SeqAt.EqAt A s v u (a.eqb b)
  | n, .int i, b, A, v, u, _, x, y, hu => by
    rw [KVal] at x
    obtain ⟨t, rfl⟩ := x
    have hu' : A.units < cLine := by omega
    cases b with
    | int j => rw [KVal] at y; obtain ⟨t', rfl⟩ := y; rw [KT.eqb]; exact SeqAt.EqAt.int_int i t j t'
    | str z => rw [KVal] at y; obtain ⟨t', rfl⟩ := y; rw [show (KT.int i).eqb (.str z) = false by simp [KT.eqb]]; exact SeqAt.EqAt.int_str i t z t'
    | tup m => rw [KVal] at y; obtain ⟨p, its, rfl, py, _⟩ := y; rw [show (KT.int i).eqb (.tup m) = false by simp [KT.eqb]]; exact SeqAt.EqAt.int_tuple i t py hu'
  | n, .str w, b, A, v, u, _, x, y, hu => by
    rw [KVal] at x
    obtain ⟨t, rfl⟩ := x
    have hu' : A.units < cLine := by omega
    cases b with
    | int j => rw [KVal] at y; obtain ⟨t', rfl⟩ := y; rw [show (KT.str w).eqb (.int j) = false by simp [KT.eqb]]; exact SeqAt.EqAt.str_int w t j t'
    | str z => rw [KVal] at y; obtain ⟨t', rfl⟩ := y; rw [KT.eqb]; exact SeqAt.EqAt.str_str w t z t'
    | tup m => rw [KVal] at y; obtain ⟨p, its, rfl, py, _⟩ := y; rw [show (KT.str w).eqb (.tup m) = false by simp [KT.eqb]]; exact SeqAt.EqAt.str_tuple w t py hu'
  | 0, .tup l, b, A, v, u, hn, x, y, hu => by
    rw [KT.depth] at hn
    omega
  | n + 1, .tup l, b, A, v, u, hn, x, y, hu => by
    have x' := x
    rw [KVal] at x
    obtain ⟨p, its, rfl, px, kx⟩ := x
    rw [KT.depth] at hn hu
    have hu' : A.units < cLine := by omega
    cases b with
    | int j => rw [KVal] at y; obtain ⟨t', rfl⟩ := y; rw [show (KT.tup l).eqb (.int j) = false by simp [KT.eqb]]; exact SeqAt.EqAt.tuple_int j t' px hu'
    | str z => rw [KVal] at y; obtain ⟨t', rfl⟩ := y; rw [show (KT.tup l).eqb (.str z) = false by simp [KT.eqb]]; exact SeqAt.EqAt.tuple_str z t' px hu'
    | tup m =>
      have y' := y
      rw [KVal] at y
      obtain ⟨q, its', rfl, py, ky⟩ := y
      by_cases hpq : p = q
      · subst hpq
        rw [KVal.inj _ _ _ x' y']
        exact SeqAt.EqAt.same _
      · have lx := kx.length
        have ly := ky.length
        have rc := SeqAt.RcAt.tuples (A := A) (s := s) (e := fun j => (l.getD j (.int 0)).eqb (m.getD j (.int 0))) px py hu' (fun j h1 h2 => by
          have h1' : j < its.length := by simpa using h1
          have h2' : j < its'.length := by simpa using h2
          obtain ⟨t1, e1, k1⟩ := kx.get (j := j) (u := its[j]) (by simp [h1'])
          obtain ⟨t2, e2, k2⟩ := ky.get (j := j) (u := its'[j]) (by simp [h2'])
          have d1 := depth_in (List.mem_of_getElem? e1)
          have g1 : l.getD j (.int 0) = t1 := by rw [List.getD_eq_getElem?_getD, e1]; rfl
          have g2 : m.getD j (.int 0) = t2 := by rw [List.getD_eq_getElem?_getD, e2]; rfl
          have := eqAt_key n t1 t2 A.in1 its[j] its'[j] (by omega) k1 k2 (by show A.units + 1 + t1.depth < cLine; omega)
          show SeqAt.EqAt A.in1 s _ _ ((l.getD j (.int 0)).eqb (m.getD j (.int 0)))
          rw [g1, g2]
          simpa using this)
        have er : ((List.range (min its.toArray.size its'.toArray.size)).all (fun j => (l.getD j (.int 0)).eqb (m.getD j (.int 0))) && its.toArray.size == its'.toArray.size) = (KT.tup l).eqb (.tup m) := by
          rw [List.size_toArray, List.size_toArray, ← lx, ← ly, KT.eqb]
          exact eqbL_range l m
        rw [er] at rc
        exact .of_refs hpq rc
theorem neAt_key {s : Shared} (a b : KT) (A : Around) (v u : Value) (x : KVal s.heap a v) (y : KVal s.heap b u) (hu : A.units + a.depth < cLine) : SeqAt.RcNeAt A s v u (!a.eqb b) := by
  have hu' : A.units < cLine := by omega
  cases a with
  | int i =>
    rw [KVal] at x
    obtain ⟨t, rfl⟩ := x
    cases b with
    | int j => rw [KVal] at y; obtain ⟨t', rfl⟩ := y; rw [KT.eqb]; exact SeqAt.RcNeAt.int_int i t j t'
    | str z => rw [KVal] at y; obtain ⟨t', rfl⟩ := y; rw [show (KT.int i).eqb (.str z) = false by simp [KT.eqb]]; exact SeqAt.RcNeAt.int_str i t z t'
    | tup m => rw [KVal] at y; obtain ⟨p, its, rfl, py, _⟩ := y; rw [show (KT.int i).eqb (.tup m) = false by simp [KT.eqb]]; exact SeqAt.RcNeAt.int_tuple i t py hu'
  | str w =>
    rw [KVal] at x
    obtain ⟨t, rfl⟩ := x
    cases b with
    | int j => rw [KVal] at y; obtain ⟨t', rfl⟩ := y; rw [show (KT.str w).eqb (.int j) = false by simp [KT.eqb]]; exact SeqAt.RcNeAt.str_int w t j t'
    | str z => rw [KVal] at y; obtain ⟨t', rfl⟩ := y; rw [KT.eqb]; exact SeqAt.RcNeAt.str_str w t z t'
    | tup m => rw [KVal] at y; obtain ⟨p, its, rfl, py, _⟩ := y; rw [show (KT.str w).eqb (.tup m) = false by simp [KT.eqb]]; exact SeqAt.RcNeAt.str_tuple w t py hu'
  | tup l =>
    rw [KVal] at x
    obtain ⟨p, its, rfl, px, kx⟩ := x
    rw [KT.depth] at hu
    cases b with
    | int j => rw [KVal] at y; obtain ⟨t', rfl⟩ := y; rw [show (KT.tup l).eqb (.int j) = false by simp [KT.eqb]]; exact SeqAt.RcNeAt.tuple_int j t' px hu'
    | str z => rw [KVal] at y; obtain ⟨t', rfl⟩ := y; rw [show (KT.tup l).eqb (.str z) = false by simp [KT.eqb]]; exact SeqAt.RcNeAt.tuple_str z t' px hu'
    | tup m =>
      rw [KVal] at y
      obtain ⟨q, its', rfl, py, ky⟩ := y
      have lx := kx.length
      have ly := ky.length
      have rc := SeqAt.RcNeAt.tuples (A := A) (s := s) (e := fun j => (l.getD j (.int 0)).eqb (m.getD j (.int 0))) px py hu' (fun j h1 h2 => by
        have h1' : j < its.length := by simpa using h1
        have h2' : j < its'.length := by simpa using h2
        obtain ⟨t1, e1, k1⟩ := kx.get (j := j) (u := its[j]) (by simp [h1'])
        obtain ⟨t2, e2, k2⟩ := ky.get (j := j) (u := its'[j]) (by simp [h2'])
        have d1 := depth_in (List.mem_of_getElem? e1)
        have g1 : l.getD j (.int 0) = t1 := by rw [List.getD_eq_getElem?_getD, e1]; rfl
        have g2 : m.getD j (.int 0) = t2 := by rw [List.getD_eq_getElem?_getD, e2]; rfl
        have := eqAt_key t1.depth t1 t2 A.in1 its[j] its'[j] (Nat.le_refl _) k1 k2 (by show A.units + 1 + t1.depth < cLine; omega)
        show SeqAt.EqAt A.in1 s _ _ ((l.getD j (.int 0)).eqb (m.getD j (.int 0)))
        rw [g1, g2]
        simpa using this)
      have er : ((List.range (min its.toArray.size its'.toArray.size)).all (fun j => (l.getD j (.int 0)).eqb (m.getD j (.int 0))) && its.toArray.size == its'.toArray.size) = (KT.tup l).eqb (.tup m) := by
        rw [List.size_toArray, List.size_toArray, ← lx, ← ly, KT.eqb]
        exact eqbL_range l m
      rw [er] at rc
      exact rc

/-! ### < -/
section
open PySem.SeqAt
open PySem.AutoSeq1 (wpAny_loadPart')
open PySem.MeetsSeq PySem.MeetsSeq2 PySem.MeetsSeq3
end
section
variable {X : Cx}
theorem Room.key {k : Nat} {A : Around} (r : Room k A) {n : Nat} (h : n ≤ 200) : A.units + n < cLine := by have := r.un; omega
def rNeK : R2 := fun x y H Q => ∃ a b, KeyAt H a x ∧ KeyAt H b y ∧ a.depth ≤ 200 ∧ Q (.bl (!a.eqb b)) H
theorem op_neK {k : Nat} (hr : Room k X.A) : OpR X (compareOp .NotEq) rNeK := by
  intro pins s σ H x y v u Q I rx ry h
  obtain ⟨a, b, ha, hb, hd, q⟩ := h
  exact neAt_key a b X.A v u (kval_of I a x v ha rx) (kval_of I b y u hb ry) (Room.key hr hd) X.prog X.w X.xe _ ⟨.bl _, H, I, rfl, q⟩
/-- t + u, t empty -/
def rCatT0 (K : PySem.W.Frag) : R2 := fun x y H Q => ∃ a b ys, x = .ref a ∧ y = .ref b ∧ SqT K H a [] ∧ SqT K H b ys ∧ Q (.ref b) H
theorem op_catT0 : OpR X (binaryOp .Add) (rCatT0 X.K) := by
  intro pins s σ H x y v u Q I rx ry h
  obtain ⟨a, b, ys, rfl, rfl, ha, hb, q⟩ := h
  cases rx
  cases ry
  obtain ⟨its, r1, p1, _⟩ := I.tuple ha
  obtain ⟨its2, r2, p2, _⟩ := I.tuple hb
  have e1 : its = [] := r1.nil_iff.mpr rfl
  subst e1
  obtain ⟨⟨cls, dd, data, sl⟩, ho, hc, n, hd⟩ := id p1
  obtain ⟨⟨cls2, dd2, data2, sl2⟩, ho2, hc2, n2, hd2⟩ := id p2
  simp only at hc hd hc2 hd2
  subst hc hd hc2 hd2
  exact concat_meets ⟨_, ho, rfl⟩ ⟨_, ho2, rfl⟩ noFill_tuple_add seq_tuple_add PySem.F.slot_tuple_add PySem.F.entry_tuple_add (PySem.F.args_tuple_add_2 _ _)
    (tuple_addW0 a b _ its2.toArray n n2 dd dd2 sl sl2 rfl) ⟨ho, ho2, ⟨.ref b, H, I, rfl, q⟩⟩
/-- x[:-1] of a text -/
def rSlS : V → Option Int → Option Int → Hp → VK → Prop := fun x lo hi H Q => ∃ z, x = .str z ∧ z.length ≤ sizeLine ∧ Q (.str (Txt.slice z lo hi)) H
theorem sl_str : SlR X rSlS := by
  intro pins s σ H x v vl vu lo hi sl Q I rx hs pl pu h
  obtain ⟨z, rfl, hz, q⟩ := h
  obtain ⟨t, rfl⟩ := rx
  refine ⟨"str", _, PySem.F.slot_str_getitem.lookup, typeIs_str _ _ _, ?_⟩
  have post : ∀ (l u : Option (Int × Tok)), l.map (·.1) = lo → u.map (·.1) = hi → (sliceMade z t l u none).post (EP X pins σ Q) s := fun l u e1 e2 => by
    subst e1 e2
    exact post_val_or_str ⟨Nat.le_trans (Txt.slice_le z _ _) hz, fun t' k => ⟨.str _, H, I.tok k, ⟨t', rfl⟩, q⟩⟩
  cases pl with
  | none =>
    cases pu with
    | none => exact wpAny_getItem_str_slice (l := none) (u := none) (st := none) hs rfl (post none none rfl rfl)
    | int j uj => exact wpAny_getItem_str_slice (l := none) (u := some (j, uj)) (st := none) hs rfl (post none (some (j, uj)) rfl rfl)
  | int i ui =>
    cases pu with
    | none => exact wpAny_getItem_str_slice (l := some (i, ui)) (u := none) (st := none) hs rfl (post (some (i, ui)) none rfl rfl)
    | int j uj => exact wpAny_getItem_str_slice (l := some (i, ui)) (u := some (j, uj)) (st := none) hs rfl (post (some (i, ui)) (some (j, uj)) rfl rfl)
end
end Tw
set_option Elab.async false
set_option linter.all false
set_option maxRecDepth 100000
set_option maxHeartbeats 4000000
namespace L2
open PySem PySem.Spec PyProof.Rows
section
variable {X : Cx}
/-! ### more rules -/
theorem Inv.big {pins : List (Addr × Obj)} {σ : St} {H : Hp} {s : Shared} (I : Inv X pins σ H s) : sysModules < s.heap.objs.size := by
  have h : mainGlobals < s.heap.objs.size := (I.mod.glob.keeps I.bk).lt
  exact Nat.lt_trans (by decide) h
theorem op_gt_str : OpR X (compareOp .Gt) (fun x y H Q => ∃ i j, x = .str i ∧ y = .str j ∧ Q (.bl (decide (j.cps.toList < i.cps.toList))) H) := by
  intro pins s σ H x y v u Q I rx ry h
  obtain ⟨i, j, rfl, rfl, q⟩ := h
  obtain ⟨t, rfl⟩ := rx
  obtain ⟨t', rfl⟩ := ry
  exact PySem.P.gt_str (fin_bl I q (by simp))
/-! ### isinstance of an exception that was caught -/
def cV : V → Value
  | .ty n => .type n
  | .ref a => .ref a
  | _ => .none
def isC : V → Bool
  | .ty _ => true
  | .ref _ => true
  | _ => false
theorem rel_cV {c : V} {u : Value} (r : RelV c u) (h : isC c = true) : u = cV c := by
  cases c with
  | ty n => exact r
  | ref a => exact r
  | _ => cases h
/-- a def that lets no exception out where none is wished -/
theorem FnOk.calm {P : Program} {w : World} {K : PySem.W.Frag} {mg : Str → Option Value} {base : Heap} {k : Nat} {f : Addr} {fd : FuncData} {ps : List Str} {sp : Sp} (F : FnOk P w K mg base (CXw P w) k f fd ps sp) :
    FnOk P w K mg base CX0 k f fd ps (fun vs H Q _ => sp vs H Q fun _ _ _ => False) :=
  ⟨fun vs H Q E h => F.len vs H Q _ h, fun A outer s H args us vs Q E hr he hb hv h => codeAny_mono (F.run A outer s H args us vs Q _ hr he hb hv h) fun r s' q => by
    cases r with
    | ok fl =>
      cases fl with
      | ret u => exact q
      | next => exact q
      | brk => exact q
      | cont => exact q
    | error e => obtain ⟨ea, cls, H', _, _, z⟩ := q; exact z.elim⟩
end
end L2
set_option Elab.async false
set_option linter.all false
set_option maxRecDepth 100000
set_option maxHeartbeats 4000000
namespace L2
open PySem PySem.Spec PyProof.Rows
/-! ### exceptions with a field of their own -/
def ExcD (g : Array Value → Prop) (x C : Addr) (od : Option Addr) (h : Heap) : Prop := ∃ o vs, h.get? x = some o ∧ o.cls = .ref C ∧ o.data = .fields vs ∧ o.dict = od ∧ g vs
/-- not raised yet; any -/
def gNew : Array Value → Prop := fun vs => vs[1]? = some .none
def gAny : Array Value → Prop := fun _ => True
def XO (g : Array Value → Prop) (x C : Addr) (od : Option Addr) : HO := .ext (ExcD g x C od)
theorem ExcD.is {g : Array Value → Prop} {x C : Addr} {od : Option Addr} {h : Heap} (e : ExcD g x C od h) : IsOf x C h := let ⟨o, _, a, b, _⟩ := e; ⟨o, a, b⟩
theorem xo_ok {P : Program} {w : World} {H : Hp} {h : Heap} {g : Array Value → Prop} {x C : Addr} {od : Option Addr} (e : ExcD g x C od h) : ObjOk P w H h x (XO g x C od) := by
  obtain ⟨o, vs, a, b, c, d⟩ := id e
  exact ⟨e, ⟨o, a⟩, fun h1 h2 ⟨o1, vs1, a1, b1, c1, d1⟩ k => ⟨o1, vs1, k o1 a1, b1, c1, d1⟩⟩
abbrev bmV : List Value := [.type "ValueError", .type "Exception", .type "BaseException", .type "object"]
/-- own classes, then those of ValueError -/
def ownThenV : List Value → Bool
  | .ref _ :: r => ownThenV r
  | l => l == bmV
theorem ownV_refuse (self : Value) : ∀ {l : List Value}, ownThenV l = true → PySem.refuseLoop self "__setattr__" l = pure ()
  | .ref c :: r, e => (refuseLoop_ref _ _ _ _).trans (ownV_refuse self (l := r) e)
  | .type n :: r, e => by rw [show (Value.type n :: r) = bmV from beq_iff_eq.mp e]; exact PySem.F.store_ValueError.passes self
  | [], e => by cases e
  | .none :: r, e | .bool _ :: r, e | .int _ _ :: r, e | .str _ _ :: r, e | .bytes _ _ :: r, e | .float _ _ :: r, e | .builtin _ :: r, e => by cases (beq_iff_eq.mp e)
def overV (K : PySem.W.Frag) (C : Addr) : Bool := (PySem.W.clsIn K C).any fun cd => ownThenV cd.mro
/-- made by ValueError's __new__ -/
def newV (K : PySem.W.Frag) (C : Addr) : Bool :=
  match K.lookup C with
  | some ⟨.type t, _, .cls cd, sl⟩ =>
    (match sl.toList, cd.mro with
    | [_, _, _, _, some (.builtin made), _], .ref D :: up => t == "type" && (D == C && (made == "ValueError.__new__" && (PySem.W.tailIn K bmV up && !cd.hasDel)))
    | _, _ => false)
  | _ => false
/-- what the written part says of an exception class whose __init__ sets the field f -/
structure ExcF (K : PySem.W.Frag) (C fI : Addr) (f : Str) : Prop where
  exc : ExcC K C
  made : newV K C = true
  init : PySem.W.findIn K (.ref C) "__init__" = some (some (.ref fI))
  fn : PySem.W.isFn K (.ref fI) = true
  kp : PySem.W.keepIn K (.ref C) = true
  sa : PySem.W.findIn K (.ref C) "__setattr__" = some (some (.builtin "object.__setattr__"))
  no : PySem.W.findIn K (.ref C) f = some none
  hd : PySem.W.hasDictIn K C = true
  over : overV K C = true

section
variable {g : Array Value → Prop} {X : Cx} {pins : List (Addr × Obj)} {σ : St} {H : Hp} {s : Shared} {a C fI : Addr} {f : Str} {v : V} {A : Around} {E : Value → Shared → Prop}
/-- self.f = v, the first one -/
theorem excset_ok {y : V} {u : Value} {Q : Unit → Shared → Prop} (I : Inv X pins σ H s) (e : H a = some (XO g a C none)) (c : ExcF X.K C fI f) (ry : RelV y u)
    (h : ∀ dx s', H dx = none → dx ≠ a → Inv X pins σ (upd (upd H dx (.xd [(f, y)])) a (XO g a C (some dx))) s' → Q () s') : wpAny (model X.prog X.w) A (setAttr (.ref a) f u) Q E s := by
  obtain ⟨o, vs, hx, hc, hda, hdi, hgv⟩ := (I.hok a _ e).1
  obtain ⟨oc, od, oda, osl⟩ := o
  dsimp only at hc hda hdi
  subst hc hda hdi
  have J : PySem.W.InstAt s.heap a ⟨.ref C, none, .fields vs, osl⟩ C none := ⟨hx, rfl, rfl, True.intro⟩
  refine PySem.W.set_plain I.kIn J c.sa ?_
  have SF := PySem.F.store_ValueError
  obtain ⟨cd, hcd, ho⟩ := PySem.W.any_some c.over
  have sub : PySem.W.Looks (model X.prog X.w) s.heap (isInstance (.ref a) (.type "object")) true := J.type.andThen (PySem.W.looks_mroIn I.kIn c.exc.mO)
  refine codeAny_call_builtin SF.slot.plain SF.entry (@PySem.W.check_slot (model X.prog X.w) _ _ { s with toks := s.toks + 1 } "object.__setattr__" "object" "__setattr__" (.ref a) [.str f s.toks, u] [] _ SF.kind SF.split sub (SF.args (.ref a) (.str f s.toks) u) ?_)
  have hm : PySem.W.Looks (model X.prog X.w) s.heap (mroOf (.ref C)) cd.mro := (PySem.W.looks_clsIn I.kIn hcd).andThen .now
  rw [PySem.W.osa_eq, PySem.refuse_eq]
  refine wpAny_bind (wpAny_bind (PySem.W.Looks.here (s := { s with toks := s.toks + 1 }) J.type (wpAny_bind (PySem.W.Looks.here (s := { s with toks := s.toks + 1 }) hm ?_))))
  rw [ownV_refuse _ ho]
  refine wpAny_pure (wpAny_bind (PySem.W.Looks.here (s := { s with toks := s.toks + 1 }) J.type (wpAny_bind (PySem.W.Looks.here (s := { s with toks := s.toks + 1 }) (PySem.W.looks_findIn I.kIn c.no) (wpAny_bind (wpAny_pure ?_))))))
  obtain ⟨cd2, hcd2, hd2⟩ := PySem.W.any_some c.hd
  refine wpAny_bind (wpAny_pure (wpAny_bind (wpAny_bind (wpAny_loadPart hx (wpAny_bind (PySem.W.Looks.here (s := { s with toks := s.toks + 1 }) (PySem.W.looks_clsIn I.kIn hcd2) ?_))))))
  rw [hd2]
  dsimp only
  have hsz : s.heap.get? s.heap.objs.size = none := Heap.get?_none_of_le (Nat.le_refl _)
  have hda : a ≠ s.heap.objs.size := Nat.ne_of_lt (Heap.lt_size hx)
  have hHd : H s.heap.objs.size = none := I.hok.fresh (Nat.le_refl _)
  rw [if_neg (by simp), if_neg (by simp [typeHasDict])]
  have hx1 := Heap.get?_push_of_some { cls := .type "dict", data := .dict #[] } hx
  refine wpAny_bind (wpAny_alloc' (wpAny_bind (wpAny_update' hx1 (wpAny_pure ?_))))
  generalize eh : ((s.heap.push { cls := .type "dict", data := .dict #[] }).update a fun o => { cls := o.cls, dict := some s.heap.objs.size, data := o.data, slots := o.slots }) = h2
  have ga : h2.get? a = some ⟨.ref C, some s.heap.objs.size, .fields vs, osl⟩ := by
    rw [← eh]
    exact Heap.get?_update_self _ hx1 rfl
  have gd : h2.get? s.heap.objs.size = some { cls := .type "dict", data := .dict #[] } := by
    rw [← eh]
    exact (Heap.get?_update_ne _ _ _ _ hda.symm).trans (Heap.get?_push_at rfl rfl)
  have go : ∀ b o, b ≠ a → s.heap.get? b = some o → h2.get? b = some o := fun b o n q => by
    rw [← eh]
    exact (Heap.get?_update_ne _ _ _ _ n).trans (Heap.get?_push_of_some _ q)
  have hnd : h2.Ns s.heap.objs.size (fun _ => none) := ⟨_, #[], _, gd, rfl, fun e he => absurd he (by simp), fun _ => rfl⟩
  show wpAny _ _ (Builtin.ObjectAttr.storeInDict s.heap.objs.size (.str f s.toks) f u) _ _ _
  unfold Builtin.ObjectAttr.storeInDict Builtin.ObjectAttr.newKeyGuard
  refine wpAny_bind (wpAny_pure (wpAny_bind (wpAny_nsSet1 (Heap.Ns1.of_empty hnd) fun h' hn' hs => ?_)))
  obtain ⟨oD, esD, epD, hoD, hdD, hcD⟩ := hn'.count (Within.cons f u Within.nil)
  refine wpAny_bind (wpAny_lookBehind hoD (by rw [hdD]; exact pastItsLine_dict (Nat.le_trans hcD (by rw [List.length_cons, List.length_nil, sizeLine_eq]; omega))) ?_)
  have ga' : h'.get? a = some ⟨.ref C, some s.heap.objs.size, .fields vs, osl⟩ := (hs.2 a hda).trans ga
  have go' : ∀ b o, b ≠ a → s.heap.get? b = some o → h'.get? b = some o := fun b o n q => (hs.2 b (Nat.ne_of_lt (Heap.lt_size q))).trans (go b o n q)
  have nt : ∀ {b : Addr} {o : HO}, H b = some o → b ≠ s.heap.objs.size := fun {b o} q z => by rw [z, hHd] at q; cases q
  have na : ∀ {b : Addr}, H b = none → b ≠ a := fun {b} q z => by rw [z, e] at q; cases q
  refine wpAny_pure (h s.heap.objs.size _ hHd hda.symm (I.call' (s' := { s with heap := h', toks := _ }) (ch := []) rfl ⟨fun b o q n _ _ => go' b o (na n) q, fun b o q n _ _ => ⟨o.slots, go' b o (na n) q⟩, fun b o q n _ => ?_, fun b o q _ => ?_, fun b xs q => ?_, fun b o u q => ?_, fun b ps q => ?_⟩ (fun b ob q => ?_) I.bare (fun b hb => absurd hb (by simp))))
  · rw [upd_ne (na n), upd_ne (Nat.ne_of_lt (Heap.lt_size q))]; exact n
  · by_cases z : b = a
    · rw [z]; exact ⟨_, ga'⟩
    · exact ⟨o, go' b o z q⟩
  · rw [upd_ne (fun z => by rw [z, e] at q; cases q), upd_ne (nt q)]; exact q
  · rw [upd_ne (fun z => by rw [z, e] at q; cases q), upd_ne (nt q)]; exact q
  · exact ⟨#[], by rw [upd_ne (fun z => by rw [z, e] at q; cases q), upd_ne (nt q), q]; simp⟩
  · by_cases z : b = a
    · rw [z, upd_same] at q
      cases q
      rw [z]
      exact xo_ok ⟨_, _, ga', rfl, rfl, rfl, hgv⟩
    · rw [upd_ne z] at q
      by_cases z2 : b = s.heap.objs.size
      · rw [z2, upd_same] at q
        cases q
        rw [z2]
        refine ⟨_, hn', fun g => ?_⟩
        show RelO (List.lookup g [(f, y)]) (if g = f then some u else none)
        by_cases hg : g = f
        · rw [hg, if_pos rfl]; simp only [List.lookup, beq_self_eq_true]; exact ry
        · rw [if_neg hg]; simp only [List.lookup, beq_eq_false_iff_ne.mpr hg]; exact True.intro
      · rw [upd_ne z2] at q
        have oc : ∀ {c : Addr}, H c = some (.own b) → c ≠ a := fun {c} hc z => by rw [z, e] at hc; cases hc
        refine (I.hok b ob q).stay (fun c u hc r => go' c u ?_ r) (fun c hc => ?_) (fun c xs hc => ?_)
        · rcases hc with rfl | hc
          · exact z
          · exact oc hc
        · rw [upd_ne (oc hc), upd_ne (nt hc)]; exact hc
        · rw [upd_ne (fun z => by rw [z, e] at hc; cases hc), upd_ne (nt hc)]; exact hc
/-- e.f -/
theorem excget_ok {b : Bool} {dx : Addr} {fs : List (Str × V)} {Q : Value → Shared → Prop} (I : Inv X pins σ H s) (e : H a = some (XO g a C (some dx))) (d : H dx = some (.xd fs)) (c : ExcF X.K C fI f) (l : fs.lookup f = some v)
    (h : ∀ u s', Inv X pins σ H s' → RelV v u → Q u s') : wpAny (model X.prog X.w) A (getAttr (.ref a) f b) Q E s := by
  obtain ⟨o, vs, hx, hc, hda, hdi, hgv⟩ := id (I.hok a _ e).1
  obtain ⟨mA, hns, hrel⟩ := I.hok dx _ d
  obtain ⟨u, hu, ru⟩ := RelO.some_of (v := v) (o := mA f) (by rw [← l]; exact hrel f)
  obtain ⟨od, hod, hlk⟩ := lookIn_ns hns
  have J : PySem.W.InstAt s.heap a o C (some od) := ⟨hx, hc, by unfold PySem.W.notCls; rw [hda], by rw [hdi]; exact hod⟩
  obtain ⟨cd, hcd, hhd⟩ := PySem.W.any_some c.hd
  have L : PySem.W.Looks (model X.prog X.w) s.heap (Builtin.ObjectAttr.inOwnDict f (.ref a)) (some u) := PySem.W.looks_own I.kIn J hcd (by unfold PySem.W.ownOf; rw [hhd, if_pos rfl]; show PySem.W.lookIn f od = _; rw [hlk, hu])
  have F : PySem.W.Looks (model X.prog X.w) s.heap (Builtin.ObjectAttr.find (.ref a) (.ref C) f) (.value u) := by
    refine PySem.W.Looks.andThen (PySem.W.looks_findIn I.kIn c.no) (PySem.W.Looks.andThen .now (PySem.W.Looks.andThen .now ?_))
    exact PySem.W.Looks.andThen L (PySem.W.Looks.tag PySem.W.Looks.now)
  refine wpAny_bind (wpAny_mkText ?_)
  refine exc_attr (s := { s with toks := s.toks + 1 }) I.kIn (I.hok a _ e).1.is c.exc F ⟨handed_of ru, h u _ (I.tok _) ru⟩
end
/-! ### C(..), C an exception with an __init__ of its own, some own classes under ValueError -/
section
variable {prog : Program} {w : World} {A : Around} {E : Value → Shared → Prop} {s : Shared} {K : PySem.W.Frag} {C fI : Addr} {f : Str}
/-- the heap behind __new__ -/
abbrev bornV (h : Heap) (C : Addr) (us : List Value) : Heap := (h.push { cls := .type "tuple", data := .seq us.toArray }).push { cls := .ref C, data := .fields #[.ref h.objs.size, .none, .none, .none, .bool false, .none] }
theorem exc_born {us : List Value} {Q : Value → Shared → Prop} (X : K.In s.heap) (c : ExcF K C fI f) (hus : us.length ≤ sizeLine)
    (h : wpAny (model prog w) (A.under (.builtin "type.__call__" ⟨.ref C :: us, []⟩)) (call (.ref fI) (.ref (s.heap.objs.size + 1) :: us)) (fun r s' => r = .none ∧ Q (.ref (s.heap.objs.size + 1)) s') E { s with heap := bornV s.heap C us }) :
    wpAny (model prog w) A (call (.ref C) us) Q E s := by
  obtain ⟨hh, g, d, t, os⟩ := s
  have n := c.made
  unfold newV at n
  split at n
  next tt dd cd sl ho =>
    split at n
    next k0 k1 k2 k3 made k5 D up hs hm =>
      simp only [Bool.and_eq_true, beq_iff_eq, Bool.not_eq_true'] at n
      obtain ⟨rfl, rfl, rfl, ht, hdel⟩ := n
      obtain ⟨nm, bs, mro, ns, qn, hd, sn, sub, ab, col, del⟩ := cd
      dsimp only at hm hdel
      subst hm hdel
      obtain ⟨sll⟩ := sl
      dsimp only at hs
      subst hs
      have hC : hh.get? D = some (excClassObj nm qn D ns bs up hd sn sub ab col dd k0 k1 k2 k3 k5 "ValueError.__new__") := X _ _ ho
      have T : OwnTail hh bmV up := PySem.W.tail_of_in X ht
      have FB := PySem.F.excBase_ValueError
      have f1 := tc_lookup
      have f2 := tc_bind (.ref D)
      have hT : (⟨hh, g, d, t, os⟩ : Shared).TypeIs (.ref D) "type" := ⟨_, hC, rfl⟩
      refine wpAny_call (codeAny_of_tree (show wpAny _ _ (callAny (.ref D) _) _ _ _ from ?_))
      repeat (any_goals (first | assumption | with_reducible refine wpAny_loadPart_at hC ?_ | wp_step))
      refine ⟨rfl, codeAny_call_builtin_at (Code.quiet_builtin _ (by decide +kernel)) entry_typeCall (wpAny_check_type_call_sub hC ?_)⟩
      repeat (first | with_reducible refine wpAny_loadPart_at hC ?_ | with_reducible refine wpAny_madeBy_exc hC ?_ | wp_step)
      refine codeAny_call_builtin_code (Code.quiet_builtin _ FB.quiet) (wpAny_check_new_subU FB FB.hasB T hC (codeAny_exc_new_subU FB FB.hasB FB T hC ?_ hus))
      show wpAny _ _ _ _ _ _
      have e1 : (bornV hh D us).get? (hh.objs.size + 1) = some { cls := .ref D, data := .fields #[.ref hh.objs.size, .none, .none, .none, .bool false, .none] } := by heap_get
      have kk : ∀ b o, hh.get? b = some o → (bornV hh D us).get? b = some o := fun b o q => Heap.get?_push_of_some _ (Heap.get?_push_of_some _ q)
      have hC1 := kk _ _ hC
      have hin : (Value.ref D :: up).contains (.ref D) = true := by simp
      unfold isInstance
      show wpAny _ _ _ _ _ ⟨bornV hh D us, g, d, t, os⟩
      repeat (first | with_reducible refine wpAny_loadPart_at e1 ?_ | wp_step)
      refine wpAny_isSubtype_exc (C := D) (h := bornV hh D us) hC1 ?_
      rw [hin]
      repeat wp_step
      have X1 : K.In (bornV hh D us) := fun b o q => kk b o (X b o q)
      show wpAny _ _ (typeLookup (.ref D) _) _ _ _
      refine (PySem.W.looks_findIn X1 c.init).at ?_
      refine wpAny_holding (wpAny_bind ((PySem.W.bind_fn X1 _ (beq_iff_eq.mp c.fn)).at ?_))
      refine wpAny_bind (wpAny_mono h (fun r s' hr => ?_) fun _ _ z => z)
      obtain ⟨rfl, hQ⟩ := hr
      wp_walk
      exact hQ
    next => cases n
  next => cases n
end
/-! ### the rules -/
/-- an exception of the class at C stands there -/
def IsX (H : Hp) (ea C : Addr) : Prop := ∃ φ, H ea = some (.ext φ) ∧ ∀ h, φ h → IsOf ea C h
theorem isx_x {g : Array Value → Prop} {H : Hp} {ea C : Addr} {od : Option Addr} (e : H ea = some (XO g ea C od)) : IsX H ea C := ⟨_, e, fun _ h => h.is⟩
theorem IsX.mono {H H' : Hp} {ea C : Addr} (x : IsX H ea C) (s : Same H H') : IsX H' ea C := let ⟨φ, e, k⟩ := x; ⟨φ, s _ _ e, k⟩
def rIsiO (K : PySem.W.Frag) : List V → Hp → VK → Prop := fun xs H Q => ∃ ea C c b, xs = [.ref ea, c] ∧ IsX H ea C ∧ ExcC K C ∧ isC c = true ∧ PySem.W.kitOne K (.ref C) (cV c) = some b ∧ Q (.bl b) H
/-- self.f = v of a new exception -/
def sFldX (K : PySem.W.Frag) (ta tv : TE) (f : Str) : TS := fun D σ H => tv σ H fun y H1 => ta σ H1 fun x H2 => ∃ g a C fI, x = .ref a ∧ H2 a = some (XO g a C none) ∧ ExcF K C fI f ∧ ∀ dx, H2 dx = none → dx ≠ a → D.nx σ (upd (upd H2 dx (.xd [(f, y)])) a (XO g a C (some dx)))
/-- e.f -/
def tFldX (K : PySem.W.Frag) (ta : TE) (f : Str) : TE := fun σ H Q => ta σ H fun x H1 => ∃ g a C dx fs v fI, x = .ref a ∧ H1 a = some (XO g a C (some dx)) ∧ H1 dx = some (.xd fs) ∧ ExcF K C fI f ∧ fs.lookup f = some v ∧ Q v H1
def spInitX (K : PySem.W.Frag) (C fI : Addr) (f : Str) : Sp := fun vs H Q _ => ExcF K C fI f ∧ ∃ ea y, vs = [.ref ea, y] ∧ H ea = some (XO gNew ea C none) ∧ ∀ dx, H dx = none → dx ≠ ea → Q .non (upd (upd H dx (.xd [(f, y)])) ea (XO gNew ea C (some dx)))
section
variable {X : Cx}
theorem isi_o : CallR X (.builtin "isinstance") (rIsiO X.K) := by
  intro pins s σ H xs us Q I r h
  obtain ⟨ea, C, c, b, rfl, ⟨φ, e, of⟩, EC, hc, hk, q⟩ := h
  obtain ⟨u, w', rfl, ru, rw'⟩ := vals2 r
  cases (show u = Value.ref ea from ru)
  rw [rel_cV rw' hc]
  exact PySem.W.kia_one (kitx_exc EC) I.kIn (of _ (I.hok ea _ e).1) hk (fun z => nomatch z) fun tk => ⟨.bl b, H, I.tok tk, rfl, q⟩
variable {C fI : Addr} {f : Str} {e o value : Expr} {es : List Expr} {ta tv : TE} {t : TA} {pos pos' p : Pos} {x : Str}
theorem ps_fldX (ha : PE X o ta) (hv : PE X value tv) (hs : swapsWith value (some (.Attribute o f pos')) pos.line X.env = pure false) : PS X (.Assign [.Attribute o f pos'] value pos) (sFldX X.K ta tv f) := by
  intro pins s σ H D I h
  refine plainObj_wpAny_Assign_Attribute (thn (hv pins s σ H _ I h) fun u s1 ⟨y, H1, I1, ry, q⟩ => thn (ha pins s1 σ H1 _ I1 q) fun ov s2 ⟨x, H2, I2, rx, g, a, C, fI, ex, ea, c, q2⟩ => ?_) hs
  subst ex
  obtain rfl : ov = Value.ref a := rx
  exact excset_ok I2 ea c ry fun dx s' hd hn I3 => ⟨σ, _, I3, q2 dx hd hn⟩
theorem pe_fldX (he : PE X e ta) (hb : attributeBase e f X.env (eval e X.env) = eval e X.env) : PE X (.Attribute e f pos) (tFldX X.K ta f) := by
  intro pins s σ H Q I h
  refine attr_of hb (thn (he pins s σ H _ I h) fun u s1 ⟨x, H1, I1, rx, g, a, C, dx, fs, v, fI, ex, ea, ed, c, l, q⟩ => ?_)
  subst ex
  obtain rfl : u = Value.ref a := rx
  exact excget_ok I1 ea ed c l fun u s' I2 ru => ⟨v, H1, I2, ru, q⟩
/-- a new thing, tracked -/
theorem Inv.newx {pins : List (Addr × Obj)} {σ : St} {H : Hp} {s : Shared} {h' : Heap} {ea : Addr} (I : Inv X pins σ H s) (keeps : ∀ b o, s.heap.get? b = some o → h'.get? b = some o) (n : s.heap.get? ea = none) (hx : ExcD gNew ea C none h') : Inv X pins σ (upd H ea (XO gNew ea C none)) { s with heap := h' } := by
  have hn : H ea = none := by
    cases z : H ea with
    | none => rfl
    | some o =>
      obtain ⟨o', q⟩ := I.hok.there (a := ea) (by rw [z]; exact fun y => nomatch y)
      rw [n] at q
      cases q
  have nt : ∀ {b : Addr} {o : HO}, H b = some o → b ≠ ea := fun {b o} q z => by rw [z, hn] at q; cases q
  refine I.call' (s' := { s with heap := h' }) (ch := []) rfl ⟨fun b o q _ _ _ => keeps b o q, fun b o q _ _ _ => ⟨o.slots, keeps b o q⟩, fun b o q z _ => ?_, fun b o q _ => ⟨o, keeps b o q⟩, fun b xs q => ?_, fun b o u q => ?_, fun b ps q => ⟨#[], ?_⟩⟩ (fun b ob q => ?_) I.bare (fun b hb => absurd hb (by simp))
  · rw [upd_ne (fun y => by rw [y, n] at q; cases q)]; exact z
  · rw [upd_ne (nt q)]; exact q
  · rw [upd_ne (nt q)]; exact q
  · rw [upd_ne (nt q), q]; simp
  · by_cases z : b = ea
    · rw [z, upd_same] at q
      cases q
      rw [z]
      exact xo_ok hx
    · rw [upd_ne z] at q
      exact (I.hok b ob q).stay (fun c u _ r => keeps c u r) (fun c hc => by rw [upd_ne (nt hc)]; exact hc) (fun c xs hc => by rw [upd_ne (nt hc)]; exact hc)
end
end L2
set_option Elab.async false
set_option linter.all false
set_option maxRecDepth 100000
set_option maxHeartbeats 4000000
namespace L2
open PySem PySem.Spec PyProof.Rows
/-! ### try: y = f(..) / except Y as n: suite -/
end L2
set_option linter.all false
namespace Tw
open PySem
/-! ### the keys' order is a strict one in which all keys stand -/
end Tw
set_option Elab.async false
set_option linter.all false
set_option maxRecDepth 100000
set_option maxHeartbeats 8000000
namespace L2
open PySem PySem.Spec PyProof.Rows
section
variable {P : Program} {w : World} {K : PySem.W.Frag} {mg : Str → Option Value} {base : Heap}
end
theorem po_fn {P : Program} {w : World} {K : PySem.W.Frag} {mg : Str → Option Value} {base : Heap} {CX : CXT} {N : List Str} {qual : Str} {scope : Scope} {f : Addr} {cdv : Value} {A : Around} {outer : List Env} {s : Shared} {H : Hp} {E : XK} :
    PassesOwn (model (cxOf CX P w K mg base N qual scope f cdv A outer s H E).prog (cxOf CX P w K mg base N qual scope f cdv A outer s H E).w) (cxOf CX P w K mg base N qual scope f cdv A outer s H E).A (cxOf CX P w K mg base N qual scope f cdv A outer s H E).env (cxOf CX P w K mg base N qual scope f cdv A outer s H E).xe := by
  show PassesOwn (model P w) (A.deeper (envOfC qual scope s.heap.objs.size f cdv)) (envOfC qual scope s.heap.objs.size f cdv) _
  passes_own
def starless : Expr → Bool
  | .Starred _ _ => false
  | _ => true
theorem star_plain {e : Expr} {es : List Expr} {env : Env} (h : starless e = true) : starEach (e :: es) env = (false, eval e env) :: starEach es env := by
  cases e <;> first | rfl | cases h
theorem pa_c {X : Cx} {e : Expr} {es : List Expr} {te : TE} {t : TA} (ha : PE X e te) (hr : PA X es t) (h : starless e = true := by rfl) : PA X (e :: es) (tCons te t) := pa_cons ha hr (star_plain h)
theorem pa3 {X : Cx} {e0 e1 e2 : Expr} {t0 t1 t2 : TE} (g0 : PE X e0 t0) (g1 : PE X e1 t1) (g2 : PE X e2 t2) (h : [e0, e1, e2].all starless = true := by rfl) : PA X [e0, e1, e2] (tCons t0 (tCons t1 (tCons t2 tNil))) :=
  (pa_cons g0 (pa_cons g1 (pa_cons g2 pa_nil (star_plain (List.all_eq_true.mp h e2 (by simp)))) (star_plain (List.all_eq_true.mp h e1 (by simp)))) (star_plain (List.all_eq_true.mp h e0 (by simp))))
theorem pa4 {X : Cx} {e0 e1 e2 e3 : Expr} {t0 t1 t2 t3 : TE} (g0 : PE X e0 t0) (g1 : PE X e1 t1) (g2 : PE X e2 t2) (g3 : PE X e3 t3) (h : [e0, e1, e2, e3].all starless = true := by rfl) : PA X [e0, e1, e2, e3] (tCons t0 (tCons t1 (tCons t2 (tCons t3 tNil)))) :=
  (pa_cons g0 (pa_cons g1 (pa_cons g2 (pa_cons g3 pa_nil (star_plain (List.all_eq_true.mp h e3 (by simp)))) (star_plain (List.all_eq_true.mp h e2 (by simp)))) (star_plain (List.all_eq_true.mp h e1 (by simp)))) (star_plain (List.all_eq_true.mp h e0 (by simp))))
theorem pa5 {X : Cx} {e0 e1 e2 e3 e4 : Expr} {t0 t1 t2 t3 t4 : TE} (g0 : PE X e0 t0) (g1 : PE X e1 t1) (g2 : PE X e2 t2) (g3 : PE X e3 t3) (g4 : PE X e4 t4) (h : [e0, e1, e2, e3, e4].all starless = true := by rfl) : PA X [e0, e1, e2, e3, e4] (tCons t0 (tCons t1 (tCons t2 (tCons t3 (tCons t4 tNil))))) :=
  (pa_cons g0 (pa_cons g1 (pa_cons g2 (pa_cons g3 (pa_cons g4 pa_nil (star_plain (List.all_eq_true.mp h e4 (by simp)))) (star_plain (List.all_eq_true.mp h e3 (by simp)))) (star_plain (List.all_eq_true.mp h e2 (by simp)))) (star_plain (List.all_eq_true.mp h e1 (by simp)))) (star_plain (List.all_eq_true.mp h e0 (by simp))))
theorem pa6 {X : Cx} {e0 e1 e2 e3 e4 e5 : Expr} {t0 t1 t2 t3 t4 t5 : TE} (g0 : PE X e0 t0) (g1 : PE X e1 t1) (g2 : PE X e2 t2) (g3 : PE X e3 t3) (g4 : PE X e4 t4) (g5 : PE X e5 t5) (h : [e0, e1, e2, e3, e4, e5].all starless = true := by rfl) : PA X [e0, e1, e2, e3, e4, e5] (tCons t0 (tCons t1 (tCons t2 (tCons t3 (tCons t4 (tCons t5 tNil)))))) :=
  (pa_cons g0 (pa_cons g1 (pa_cons g2 (pa_cons g3 (pa_cons g4 (pa_cons g5 pa_nil (star_plain (List.all_eq_true.mp h e5 (by simp)))) (star_plain (List.all_eq_true.mp h e4 (by simp)))) (star_plain (List.all_eq_true.mp h e3 (by simp)))) (star_plain (List.all_eq_true.mp h e2 (by simp)))) (star_plain (List.all_eq_true.mp h e1 (by simp)))) (star_plain (List.all_eq_true.mp h e0 (by simp))))
end L2
namespace Tw
open PySem PySem.Spec L2
structure DefX (P : Program) (w : World) (K : PySem.W.Frag) (mg : Str → Option Value) (base : Heap) (k : Nat) (x : Str) (ps : List Str) (sp : Sp) : Prop where
  ex : ∃ f fd, FnOk P w K mg base (CXw P w) k f fd ps sp ∧ Binds K fd ps [] ∧ PySem.W.keepIn K (.ref f) = true ∧ mg x = some (.ref f)
theorem DefX.calm {P : Program} {w : World} {K : PySem.W.Frag} {mg : Str → Option Value} {base : Heap} {k : Nat} {x : Str} {ps : List Str} {sp : Sp} (D : DefX P w K mg base k x ps sp) : DefOk P w K mg base k x ps (fun vs H Q _ => sp vs H Q fun _ _ _ => False) := by
  obtain ⟨f, fd, F, b, kp, m⟩ := D.ex
  exact ⟨f, fd, F.calm, b, kp, m⟩
end Tw
set_option Elab.async false
set_option linter.all false
set_option maxRecDepth 100000
set_option maxHeartbeats 4000000
namespace L2
open PySem PySem.Spec PyProof.Rows
/-! ### an exception that flies and keeps its dict -/
theorem mapF_dict (f : Array Value → Array Value) (o : Obj) : (Obj.mapFields f o).dict = o.dict := by
  obtain ⟨c, d, da, sl⟩ := o
  cases da <;> rfl
/-- its fields, its newest row of the trace, and what that row says of the frame -/
def Trail (h B : Heap) (e : Addr) (cls : Value) (od : Option Addr) (fl : Value) : Prop :=
  ∃ oe vs T oT ts, (h.get? e = some oe ∧ oe.cls = cls ∧ oe.dict = od ∧ oe.data = .fields vs ∧ vs[1]? = some (.ref T)) ∧ B.get? T = none ∧ T ≠ e ∧ h.get? T = some oT ∧ oT.data = .fields ts ∧ ts[3]? = some fl
def Fly (B : Heap) (l : List Env) (e : Addr) (cls : Value) (od : Option Addr) (fl : Value) (h : Heap) : Prop := B.StaysIn h ∧ B.get? e = none ∧ h.FunFrames B l ∧ Trail h B e cls od fl
theorem Fly.at {B h : Heap} {l : List Env} {e C : Addr} {od : Option Addr} {fl : Value} (x : Fly B l e (.ref C) od fl h) : ExcD gAny e C od h := by
  obtain ⟨_, _, _, oe, vs, T, oT, ts, ⟨a, b, c, d, _⟩, _⟩ := x
  exact ⟨oe, vs, a, b, d, c, trivial⟩
section
variable {M : Model} {A : Around} {E : Value → Shared → Prop} {s : Shared} {B : Heap} {env : Env} {outer l : List Env} {L e : Addr} {cls : Value} {od : Option Addr} {Q : Unit → Shared → Prop}
theorem fly_entry {oe : Obj} {vs : Array Value} {first : Value} {nx : Bool} (fr : A.frames = some (env :: outer)) (ff : s.heap.FunFrames B (env :: outer)) (eL : env.frame = some L) (ge : s.heap.get? e = some oe) (sb : B.StaysIn s.heap) (eB : B.get? e = none)
    (dd : oe.data = .fields vs) (two : 1 < vs.size) (h : ∀ h', Fly B (env :: outer) e oe.cls oe.dict (rawInt L) h' → s.heap.UpToSlots h' → Q () { s with heap := h' }) :
    wpAny M A (frameOf env >>= fun a => entryPlaceOf L nx >>= fun pl => EntryCells.newEntry first a .none (rawInt L) .none pl >>= fun b => setField (.ref e) 1 b) Q E s := by
  have en : e ∉ (env :: outer).filterMap (·.frame) := fun z => by
    obtain ⟨_, o, g1, g2⟩ := ff.mem z
    rw [ge] at g1
    cases g1
    exact g2 vs dd
  refine wpAny_bind (wpAny_frameOf_fun fr ff eL fun h1 k1 => wpAny_bind (wpAny_entryPlaceOf fun pl kp => ?_))
  unfold EntryCells.newEntry newFields
  refine wpAny_bind (wpAny_newObj_type ?_ (kp.sizeOk5 _ _ _ _ _))
  have t3 : ([first, Value.ref L, .none, rawInt L, .none] ++ (if pl.isEmpty then List.replicate 6 Value.none else pl)).toArray[3]? = some (rawInt L) := by
    first | (simp; done) | (rcases kp with rfl | ⟨_, _, _, _, _, _, _, rfl⟩ <;> simp)
  generalize ([first, Value.ref L, .none, rawInt L, .none] ++ (if pl.isEmpty then List.replicate 6 Value.none else pl)).toArray = ts at t3 ⊢
  have g1 : h1.get? e = some oe := (k1.2.1 e en).trans ge
  have sb1 : B.StaysIn h1 := fun b o q => (k1.2.1 b fun z => by rw [(ff.mem z).1] at q; cases q).trans (sb b o q)
  have eT : h1.objs.size ≠ e := fun z => Nat.lt_irrefl _ (by have := Heap.lt_size g1; rw [← z] at this; exact this)
  have g2 := Heap.get?_push_of_some (h := h1) ({ cls := .type "traceback", dict := none, data := .fields ts } : Obj) g1
  have d3 := Obj.data_mapFields dd (·.setIfInBounds 1 (Value.ref h1.objs.size))
  have g3 := Heap.get?_update_self (Obj.mapFields (·.setIfInBounds 1 (Value.ref h1.objs.size))) g2 (Obj.isFreed_of_fields d3)
  have gT := (Heap.get?_update_other (h1.push ({ cls := .type "traceback", dict := none, data := .fields ts } : Obj)) (Obj.mapFields (·.setIfInBounds 1 (Value.ref h1.objs.size))) eT.symm).trans (Heap.get?_push_size h1 rfl)
  have stay : ∀ b o, b ≠ e → h1.get? b = some o → ((h1.push ({ cls := .type "traceback", dict := none, data := .fields ts } : Obj)).update e (Obj.mapFields (·.setIfInBounds 1 (Value.ref h1.objs.size)))).get? b = some o := fun b o n q =>
    (Heap.get?_update_other _ _ n.symm).trans (Heap.get?_push_of_some _ q)
  have notE : ∀ b o, s.heap.get? b = some o → (∀ ws, o.data ≠ .fields ws) → b ≠ e := fun b o q nf z => by
    rw [z, ge] at q
    cases q
    exact nf vs dd
  refine wpAny_setField g2 dd two (h _ ⟨fun b o q => stay b o (fun z => by rw [z, eB] at q; cases q) (sb1 b o q), eB, ff.of_keeps fun b o q nf => ?_, _, _, h1.objs.size, _, _, ⟨g3, Obj.cls_mapFields _ _, mapF_dict _ _, d3, by simp [two]⟩, sb1.fresh, eT, gT, rfl, t3⟩ fun b o q nf => ?_)
  · obtain ⟨sl, z⟩ := k1.2.2 b o q
    exact ⟨_, stay b _ (notE b o q nf) z, rfl⟩
  · obtain ⟨sl, z⟩ := k1.2.2 b o q
    exact ⟨sl, stay b _ (notE b o q nf) z⟩
theorem fly_none {fl : Value} (x : Fly B l e cls od fl s.heap) (h : ∀ h', Fly B l e cls od .none h' → s.heap.UpToSlots h' → Q () { s with heap := h' }) : wpAny M A (setFlight (.ref e) none) Q E s := by
  obtain ⟨sb, eB, ff, oe, vs, T, oT, ts, ⟨ge, c1, c2, dd, v1⟩, TB, Te, gT, dT, t3⟩ := x
  have n3 : 3 < ts.size := (Array.getElem?_eq_some_iff.mp t3).1
  have far : ∀ b, b ≠ T → (s.heap.update T (Obj.mapFields (·.setIfInBounds 3 ((none : Option Addr).elim Value.none fun f => rawInt f)))).get? b = s.heap.get? b := fun b n => Heap.get?_update_other _ _ n.symm
  have notT : ∀ b o, s.heap.get? b = some o → (∀ ws, o.data ≠ .fields ws) → b ≠ T := fun b o q nf z => by
    rw [z, gT] at q
    cases q
    exact nf ts dT
  unfold setFlight
  refine wpAny_bind (wpAny_field ge dd v1 ?_)
  rw [if_pos (show (Value.ref T != Value.none) = true by simp)]
  refine wpAny_setField gT dT n3 (h _ ⟨fun b o q => (far b fun z => by rw [z, TB] at q; cases q).trans (sb b o q), eB, ff.of_keeps fun b o q nf => ⟨o, (far b (notT b o q nf)).trans q, rfl⟩, ?_⟩ fun b o q nf => ⟨o.slots, (far b (notT b o q nf)).trans q⟩)
  exact ⟨oe, vs, T, _, _, ⟨(far e Te.symm).trans ge, c1, c2, dd, v1⟩, TB, Te, Heap.get?_update_self _ gT (Obj.isFreed_of_fields (Obj.data_mapFields dT _)), Obj.data_mapFields dT _, by simp [n3]⟩
/-- the first frame that notes it -/
theorem fly_first {oe : Obj} {vs : Array Value} (fr : A.frames = some (env :: outer)) (ff : s.heap.FunFrames B (env :: outer)) (eL : env.frame = some L) (ge : s.heap.get? e = some oe) (sb : B.StaysIn s.heap) (eB : B.get? e = none)
    (dd : oe.data = .fields vs) (v1 : vs[1]? = some .none) (h : ∀ h', Fly B (env :: outer) e oe.cls oe.dict (rawInt L) h' → s.heap.UpToSlots h' → Q () { s with heap := h' }) : wpAny M A (noteFrame (.ref e) env) Q E s := by
  unfold noteFrame
  simp only [eL]
  refine wpAny_bind (wpAny_field ge dd v1 ?_)
  rw [if_neg (by decide)]
  exact fly_entry fr ff eL ge sb eB dd (Array.getElem?_eq_some_iff.mp v1).1 h
/-- each further one -/
theorem fly_next (fr : A.frames = some (env :: outer)) (eL : env.frame = some L) (x : Fly B (env :: outer) e cls od .none s.heap) (h : ∀ h', Fly B (env :: outer) e cls od (rawInt L) h' → s.heap.UpToSlots h' → Q () { s with heap := h' }) :
    wpAny M A (noteFrame (.ref e) env) Q E s := by
  obtain ⟨sb, eB, ff, oe, vs, T, oT, ts, ⟨ge, c1, c2, dd, v1⟩, TB, Te, gT, dT, t3⟩ := x
  subst c1 c2
  have n3 : 3 < ts.size := (Array.getElem?_eq_some_iff.mp t3).1
  have far : ∀ b, b ≠ T → (s.heap.update T (Obj.mapFields (·.setIfInBounds 3 Value.none))).get? b = s.heap.get? b := fun b n => Heap.get?_update_other _ _ n.symm
  have notT : ∀ b o, s.heap.get? b = some o → (∀ ws, o.data ≠ .fields ws) → b ≠ T := fun b o q nf z => by
    rw [z, gT] at q
    cases q
    exact nf ts dT
  unfold noteFrame
  simp only [eL]
  refine wpAny_bind (wpAny_field ge dd v1 ?_)
  rw [if_pos (show (Value.ref T != Value.none) = true by simp)]
  refine wpAny_bind (wpAny_field gT dT t3 ?_)
  rw [if_neg (show ¬ ((Value.none == rawInt L) = true) by simp [rawInt])]
  refine wpAny_bind (wpAny_setField gT dT n3 ?_)
  refine fly_entry (s := { s with heap := _ }) fr (ff.of_keeps fun b o q nf => ⟨o, (far b (notT b o q nf)).trans q, rfl⟩) eL ((far e Te.symm).trans ge) (fun b o q => (far b fun z => by rw [z, TB] at q; cases q).trans (sb b o q)) eB dd (Array.getElem?_eq_some_iff.mp v1).1 fun h' f' u' => h h' f' fun b o q nf => ?_
  exact u' b o ((far b (notT b o q nf)).trans q) nf
theorem Fly.less {fl : Value} {h : Heap} (x : Fly B (env :: outer) e cls od fl h) : Fly B outer e cls od fl h := by
  obtain ⟨a, b, ⟨_, _, c⟩, d⟩ := x
  exact ⟨a, b, c, d⟩
theorem fly_leaves (fr : A.frames = some (env :: outer)) (eL : env.frame = some L) (x : Fly B (env :: outer) e cls od .none s.heap) (h : ∀ h', Fly B outer e cls od .none h' → s.heap.UpToSlots h' → Q () { s with heap := h' }) : wpAny M A (leaving env (.ref e)) Q E s := by
  unfold leaving
  exact wpAny_bind (fly_next fr eL x fun h1 f1 u1 => fly_none (s := { s with heap := h1 }) f1 fun h2 f2 u2 => h h2 f2.less (u1.trans u2))
theorem fly_begins {oe : Obj} {vs : Array Value} (fr : A.frames = some (env :: outer)) (ff : s.heap.FunFrames B (env :: outer)) (eL : env.frame = some L) (ge : s.heap.get? e = some oe) (sb : B.StaysIn s.heap) (eB : B.get? e = none)
    (dd : oe.data = .fields vs) (v1 : vs[1]? = some .none) (h : ∀ h', Fly B outer e oe.cls oe.dict .none h' → s.heap.UpToSlots h' → Q () { s with heap := h' }) : wpAny M A (leaving env (.ref e)) Q E s := by
  unfold leaving
  exact wpAny_bind (fly_first fr ff eL ge sb eB dd v1 fun h1 f1 u1 => fly_none (s := { s with heap := h1 }) f1 fun h2 f2 u2 => h h2 f2.less (u1.trans u2))
end
end L2
set_option Elab.async false
set_option linter.all false
set_option maxRecDepth 100000
set_option maxHeartbeats 4000000
namespace L2
open PySem PySem.Spec PyProof.Rows
/-! ### raise of an instance -/
theorem raise_made {prog : Program} {w : World} {A : Around} {E : Value → Shared → Prop} {s : Shared} {env : Env} {K : PySem.W.Frag} {C : Addr} {x : Sem Value} {Q : Flow → Shared → Prop} (hh : A.handled = none) (mB : PySem.W.mroIn K C (.type "BaseException") = some true)
    (ht : PySem.W.typeIn K (.ref C) = some (.type "type"))
    (h : wpAny (model prog w) A x (fun v s1 => ∃ e od, v = .ref e ∧ K.In s1.heap ∧ ExcD gNew e C od s1.heap ∧ E (.ref e) s1) E s) : wpAny (model prog w) A (raiseStmt env (some x) none) Q E s := by
  unfold raiseStmt
  refine wpAny_bind (wpAny_mono h (fun v s1 h1 => ?_) fun _ _ z => z)
  obtain ⟨e, od, rfl, KX, ⟨⟨oc, od', oda, osl⟩, vs, ge, c1, c2, c3, v1⟩, hE⟩ := h1
  dsimp only at c1 c2 c3
  subst c1 c2 c3
  obtain ⟨hp, g, d, tk, os⟩ := s1
  have L0 : PySem.W.Looks (model prog w) hp (typeOf (.ref e)) (.ref C) := IsOf.ty ⟨_, ge, rfl⟩ _
  have L1 := PySem.W.looks_mroIn (M := model prog w) KX mB
  have L3 := PySem.W.looks_typeIn (M := model prog w) KX ht
  have ge' : hp.get? e = some ⟨.ref C, od', .fields vs, osl⟩ := ge
  unfold excFromValue isExcClass isInstance isType raisedInstance setFlight
  repeat (first | with_reducible refine wpAny_loadPart_at ge' ?_ | with_reducible refine L1.at ?_ | with_reducible refine L0.at ?_ | with_reducible refine L3.at ?_ | wp_step)
  rw [show vs[1]? = some Value.none from v1]
  repeat wp_step
  all_goals first | exact wpAny_raiseNew_none hh hE | trace_state
/-! ### how it lies behind a call -/
structure FlownD (P : Program) (w : World) (outer : List Env) (H : Hp) (s : Shared) (ea : Addr) (cls : Value) (od : Option Addr) (H' : Hp) (s' : Shared) : Prop where
  ex : ∃ B : Heap, Fly B outer ea cls od .none s'.heap ∧ (∀ b o, s'.heap.get? b = some o → H' b ≠ none → B.get? b = some o) ∧ (∀ b o, s.heap.get? b = some o → H b = none → b ∉ frs outer → B.get? b = some o) ∧ (∀ b o, s.heap.get? b = some o → b ∉ frs outer → ∃ o', B.get? b = some o')
  os : s'.os = s.os
  bare : AllBare s'.gens
  un : Un (frs outer) [] H H' s.heap s'.heap
  hok : HOk P w H' s'.heap
  new : s.heap.get? ea = none
  free : H' ea = none
def CXd (P : Program) (w : World) : CXT := fun outer H s E e s' => ∃ ea cls od H', e = .ref ea ∧ FlownD P w outer H s ea cls od H' s' ∧ E cls od H'
structure FnD (X : Cx) (E : XK) : Prop where
  stack : X.stack = X.env :: X.outer
  frame : X.env.frame = some X.env.locals
  ex : X.ex = []
  calm : X.calm = true
  xe : ∀ e s', wpAny (model X.prog X.w) X.A (leaving X.env e) (fun _ s'' => CXd X.prog X.w X.outer X.H₀ X.s₀ E e s'') (fun e' s'' => CXd X.prog X.w X.outer X.H₀ X.s₀ E e' s'') s' → X.xe e s'
theorem fnd_of {P : Program} {w : World} {K : PySem.W.Frag} {mg : Str → Option Value} {base : Heap} {N : List Str} {qual : Str} {scope : Scope} {f : Addr} {cdv : Value} {A : Around} {outer : List Env} {s : Shared} {H : Hp} {E : XK} :
    FnD (cxOf (CXd P w) P w K mg base N qual scope f cdv A outer s H E) E := ⟨rfl, rfl, rfl, rfl, fun _ _ h => h⟩
section
variable {X : Cx} {pins : List (Addr × Obj)} {σ : St} {H H' : Hp} {s s' : Shared} {E : XK}
theorem FnD.frs (F : FnD X E) : frs X.stack = X.env.locals :: X.fs := by
  rw [F.stack]
  show List.filterMap _ (X.env :: X.outer) = _
  rw [List.filterMap_cons, F.frame]
  rfl
theorem FnD.off (F : FnD X E) (I : Inv X pins σ H s) {b : Addr} {o : Obj} (q : X.s₀.heap.get? b = some o) (n : b ∉ L2.frs X.outer) : b ∉ L2.frs X.stack := fun z => by
  rw [F.frs] at z
  rcases List.mem_cons.mp z with z | z
  · rw [z, I.noloc] at q; cases q
  · exact n z
theorem FnD.on (F : FnD X E) {b : Addr} (n : b ∈ L2.frs X.outer) : b ∈ L2.frs X.stack := by
  rw [F.frs]
  exact List.mem_cons_of_mem _ n
/-- from the entry to behind the flight -/
theorem fly_un {B h3 : Heap} {ea : Addr} (F : FnD X E) (J : Inv X pins σ H s) (st : B.StaysIn h3) (inB : ∀ b o, b ≠ ea → s.heap.get? b = some o → b ∉ L2.frs X.stack → B.get? b = some o) (sm : s.heap.UpToSlots h3) (new : X.s₀.heap.get? ea = none) :
    Un (L2.frs X.outer) [] X.H₀ H X.s₀.heap h3 := by
  have bb := J.base
  rw [F.ex] at bb
  have ne : ∀ {b : Addr} {o : Obj}, X.s₀.heap.get? b = some o → b ≠ ea := fun q z => by rw [z, new] at q; cases q
  have nf : ∀ {b : Addr} {o : Obj}, b ∈ L2.frs X.stack → s.heap.get? b = some o → ∀ vs, o.data ≠ .fields vs := fun hb q => frames_nf J _ hb _ q
  refine ⟨fun b o q n hb _ => st b o (inB b o (ne q) (bb.keep b o q n hb (by simp)) (F.off J q hb)), fun b o q n hb _ => ?_, bb.free, fun b o q _ => ?_, bb.tups, bb.frzs, bb.tbls⟩
  · obtain ⟨sl, e1⟩ := bb.slot b o q n hb (by simp)
    obtain ⟨sl2, e2⟩ := sm b _ e1 (nf (F.on hb) e1)
    exact ⟨sl2, e2⟩
  · obtain ⟨o', q'⟩ := bb.there b o q (by simp)
    by_cases hb : b ∈ L2.frs X.stack
    · obtain ⟨sl, e1⟩ := sm b o' q' (nf hb q')
      exact ⟨_, e1⟩
    · exact ⟨o', st b o' (inB b o' (ne q) q' hb)⟩
/-- a thing is not told of any more -/
theorem Inv.untrack {a : Addr} {φ : Heap → Prop} (I : Inv X pins σ (upd H a (.ext φ)) s) (hn : H a = none) : Inv X pins σ H s := by
  have nt : ∀ {b : Addr} {u : HO}, H b = some u → b ≠ a := fun {b u} e z => by rw [z, hn] at e; cases e
  have dn : ∀ {b : Addr}, upd H a (.ext φ) b = none → H b = none := fun {b} e => by
    by_cases z : b = a
    · rw [z]; exact hn
    · rw [upd_ne z] at e; exact e
  have dt : ∀ {b : Addr} {u : HO}, upd H a (.ext φ) b = some u → (∀ ψ, u ≠ .ext ψ) → H b = some u := fun {b u} e k => by
    by_cases z : b = a
    · rw [z, upd_same] at e
      exact absurd (Option.some.inj e).symm (k φ)
    · rw [upd_ne z] at e; exact e
  refine ⟨I.ok, I.os, I.bare, ⟨I.base.keep, I.base.slot, fun b ob q n hx => dn (I.base.free b ob q n hx), I.base.there, fun b xs q => dt (I.base.tups b xs q) (fun _ z => nomatch z), fun b ob u q => dt (I.base.frzs b ob u q) (fun _ z => nomatch z), fun b ps q => ?_⟩, I.loc, I.cell, dn I.free, fun x c e => dn (I.freeC x c e), fun p hp' => ?_, fun b u e => ?_, I.len⟩
  · obtain ⟨more, e⟩ := I.base.tbls b ps q
    exact ⟨more, dt e (fun _ z => nomatch z)⟩
  · obtain ⟨e, n, r⟩ := I.pin p hp'
    exact ⟨e, dn n, r⟩
  · have e2 : upd H a (.ext φ) b = some u := by rw [upd_ne (nt e)]; exact e
    exact (I.hok b u e2).stay (fun _ _ _ q => q) (fun c q => dt q (fun _ z => nomatch z)) fun c xs q => dt q (fun _ z => nomatch z)
/-- raised here, it leaves this frame -/
theorem fly_out {ea C : Addr} {od : Option Addr} (F : FnD X E) (J : Inv X pins σ H s) (new : X.s₀.heap.get? ea = none) (hn : H ea = none) (hx : ExcD gNew ea C od s.heap) (hE : E (.ref C) od H) : X.xe (.ref ea) s := by
  obtain ⟨oe, vs, ge, c1, c2, c3, v1⟩ := hx
  have fr : X.A.frames = some (X.env :: X.outer) := by rw [J.ok.frames, F.stack]
  have ff : s.heap.FunFrames (PySem.W.hideAll s.heap (ea :: L2.frs X.stack)) (X.env :: X.outer) := by
    have := PySem.W.funFrames_hide (as := ea :: L2.frs X.stack) J.stack (fun env he a ha => List.mem_cons_of_mem _ (List.mem_filterMap.mpr ⟨env, he, ha⟩))
    rw [F.stack] at this ⊢
    exact this
  have inB : ∀ b o, b ≠ ea → s.heap.get? b = some o → b ∉ L2.frs X.stack → (PySem.W.hideAll s.heap (ea :: L2.frs X.stack)).get? b = some o := fun b o n q hb => PySem.W.hideAll_get _ q (fun z => by
    rcases List.mem_cons.mp z with z | z
    · exact n z
    · exact hb z)
  have inT : ∀ b o, s.heap.get? b = some o → H b ≠ none → (PySem.W.hideAll s.heap (ea :: L2.frs X.stack)).get? b = some o := fun b o q n => inB b o (fun z => n (by rw [z]; exact hn)) q fun z => n (J.stkFree b z)
  have eB : (PySem.W.hideAll s.heap (ea :: L2.frs X.stack)).get? ea = none := PySem.W.hideAll_none _ (by simp)
  refine F.xe _ _ (fly_begins fr ff F.frame ge (fun b o q => PySem.W.of_hideAll _ q) eB c2 v1 fun h3 fl sm => ?_)
  rw [c1, c3] at fl
  refine ⟨ea, _, od, H, rfl, ⟨⟨_, fl, fun b o q n => ?_, fun b o q n hb => ?_, fun b o q hb => ?_⟩, J.os, J.bare, fly_un F J fl.1 inB sm new, J.hok.keptT fun b o q n => fl.1 b o (inT b o q n), new, hn⟩, hE⟩
  · obtain ⟨o', q'⟩ := J.hok.there n
    have q2 := fl.1 b o' (inT b o' q' n)
    have q3 : h3.get? b = some o := q
    rw [q2] at q3
    rw [← Option.some.inj q3]
    exact inT b o' q' n
  · have bb := J.base
    rw [F.ex] at bb
    exact inB b o (fun z => by rw [z, new] at q; cases q) (bb.keep b o q n hb (by simp)) (F.off J q hb)
  · obtain ⟨o', q'⟩ := J.base.there b o q (by rw [F.ex]; simp)
    exact ⟨o', inB b o' (fun z => by rw [z, new] at q; cases q) q' (F.off J q hb)⟩
/-- an exception of a callee leaves this frame too -/
theorem passes_d {E1 : XK} (F : FnD X E) (hE : ∀ cls o H, E1 cls o H → E cls o H) : Passes (CXd X.prog X.w) X E1 := by
  intro pins σ H s e s' I h
  obtain ⟨ea, cls, od, H', rfl, W, q⟩ := h
  obtain ⟨B, fl, inT, inB, inA⟩ := W.ex
  have fr : X.A.frames = some (X.env :: X.outer) := by rw [I.ok.frames, F.stack]
  refine F.xe _ _ (fly_leaves fr F.frame (by rw [← F.stack]; exact fl) fun h2 fl2 sm => ?_)
  have bb := I.base
  rw [F.ex] at bb
  have nf : ∀ {b : Addr} {o : Obj}, b ∈ L2.frs X.stack → s.heap.get? b = some o → ∀ vs, o.data ≠ .fields vs := fun hb q => frames_nf I _ hb _ q
  have toB : ∀ b o, X.s₀.heap.get? b = some o → X.H₀ b = none → b ∉ L2.frs X.outer → B.get? b = some o := fun b o q n hb => inB b o (bb.keep b o q n hb (by simp)) (bb.free b o q n (by simp)) (F.off I q hb)
  have sl2 : ∀ b o, s.heap.get? b = some o → b ∈ L2.frs X.stack → ∃ sl, h2.get? b = some { o with slots := sl } := fun b o q hb => by
    obtain ⟨sl, e1⟩ := W.un.slot b o q (I.stkFree b hb) hb (by simp)
    obtain ⟨sl2, e2⟩ := sm b _ e1 (fun vs z => nf hb q vs z)
    exact ⟨sl2, e2⟩
  have u : Un (L2.frs X.outer) [] X.H₀ H' X.s₀.heap h2 := by
    refine ⟨fun b o q n hb _ => fl2.1 b o (toB b o q n hb), fun b o q n hb _ => ?_, fun b o q n _ => ?_, fun b o q _ => ?_, fun b xs q => W.un.tups b xs (bb.tups b xs q), fun b o u q => W.un.frzs b o u (bb.frzs b o u q), fun b ps q => ?_⟩
    · obtain ⟨sl, e1⟩ := bb.slot b o q n hb (by simp)
      obtain ⟨sl3, e3⟩ := sl2 b _ e1 (F.on hb)
      exact ⟨sl3, e3⟩
    · obtain ⟨o', q'⟩ := bb.there b o q (by simp)
      exact W.un.free b o' q' (bb.free b o q n (by simp)) (by simp)
    · obtain ⟨o', q'⟩ := bb.there b o q (by simp)
      by_cases hb : b ∈ L2.frs X.stack
      · obtain ⟨sl, e1⟩ := sl2 b o' q' hb
        exact ⟨_, e1⟩
      · obtain ⟨o2, e2⟩ := inA b o' q' hb
        exact ⟨o2, fl2.1 b o2 e2⟩
    · obtain ⟨m1, e1⟩ := bb.tbls b ps q
      obtain ⟨m2, e2⟩ := W.un.tbls b _ e1
      exact ⟨m1 ++ m2, by rw [e2, Array.append_assoc]⟩
  refine ⟨ea, cls, od, H', rfl, ⟨⟨B, fl2, fun b o q2 n => ?_, toB, fun b o q2 hb => ?_⟩, W.os.trans I.os, W.bare, u, W.hok.keptT fun b o q2 n => fl2.1 b o (inT b o q2 n), ?_, W.free⟩, hE _ _ _ q⟩
  · obtain ⟨o', q'⟩ := W.hok.there n
    have q3 := fl2.1 b o' (inT b o' q' n)
    have q4 : h2.get? b = some o := q2
    rw [q3] at q4
    rw [← Option.some.inj q4]
    exact inT b o' q' n
  · obtain ⟨o', q'⟩ := bb.there b o q2 (by simp)
    exact inA b o' q' (F.off I q2 hb)
  · cases z : X.s₀.heap.get? ea with
    | none => rfl
    | some o =>
      obtain ⟨o', q'⟩ := bb.there ea o z (by simp)
      rw [W.new] at q'
      cases q'
/-! ### raise C(y) -/
def sRaiseX (C : Addr) (f : Str) (E : XK) (t : TA) : TS := fun _ σ H => t σ H fun vs H1 => ∃ y, vs = [y] ∧ ∀ dx, H1 dx = none → E (.ref C) (some dx) (upd H1 dx (.xd [(f, y)]))
theorem ps_raiseX {k : Nat} {C fI : Addr} {f x : Str} {fd : FuncData} {ps : List Str} {e : Expr} {es : List Expr} {t : TA} {p cpos pos : Pos} (F : FnD X E) (c : ExcF X.K C fI f) (ht : PySem.W.typeIn X.K (.ref C) = some (.type "type"))
    (FI : FnOk X.prog X.w X.K X.mg X.base CX0 k fI fd ps (spInitX X.K C fI f)) (hr : Room (k + 1) X.A) (hg : Gl X x) (hm : X.mg x = some (.ref C)) (hb : Binds X.K fd ps [])
    (ha : PA X (e :: es) t) (hdb : (x == ("__debug__" : Str)) = false := by decide) (he : starEach (e :: es) X.env = (false, eval e X.env) :: starEach es X.env := by rfl) (hpl : (backTo cpos (starEach es X.env)).any (·.1) = false := by rfl) :
    PS X (.Raise (some (.Call (.Name x p) (e :: es) [] cpos)) none pos) (sRaiseX C f E t) := by
  intro pins s σ H D I h
  have hh := I.ok.hd F.calm
  rw [arm_exec_Raise]
  refine wpAny_bind (wpAny_standAt ?_)
  refine raise_made hh c.exc.mB ht (wpAny_bind (wpAny_mono ?_ (fun v s3 h3 => wpAny_bind (wpAny_standAt (wpAny_pure h3))) fun _ _ z => z))
  refine wpAny_Call_Name_kw (ld_glob I hg hm ?_ hdb)
  refine PySem.W.callWith_K (h₀ := X.base) I.ok.mod.kin c.kp (thn (ha cpos pins s σ H _ I h) fun us s1 ⟨vs, H1, I1, r, y, ey, q⟩ => ⟨I1.kIn, ?_⟩) he hpl
  subst ey
  obtain ⟨u, rfl, ry⟩ : ∃ u, us = [u] ∧ RelV y u := by
    cases r with
    | cons ry r0 => cases r0; exact ⟨_, rfl, ry⟩
  refine exc_born I1.kIn c (by show 1 ≤ sizeLine; rw [sizeLine_eq]; omega) ?_
  have kk : ∀ b o, s1.heap.get? b = some o → (bornV s1.heap C [u]).get? b = some o := fun b o q => Heap.get?_push_of_some _ (Heap.get?_push_of_some _ q)
  have e1 : (bornV s1.heap C [u]).get? (s1.heap.objs.size + 1) = some { cls := .ref C, data := .fields #[.ref s1.heap.objs.size, .none, .none, .none, .bool false, .none] } := by heap_get
  have e0 : s1.heap.get? (s1.heap.objs.size + 1) = none := Heap.get?_none_of_le (Nat.le_succ _)
  have h0 : H1 (s1.heap.objs.size + 1) = none := I1.hok.fresh (Nat.le_succ _)
  have new0 : X.s₀.heap.get? (s1.heap.objs.size + 1) = none := by
    cases z : X.s₀.heap.get? (s1.heap.objs.size + 1) with
    | none => rfl
    | some o =>
      obtain ⟨o', q'⟩ := I1.base.there _ o z (by rw [F.ex]; simp)
      rw [e0] at q'
      cases q'
  have J := I1.newx (C := C) (ea := s1.heap.objs.size + 1) (h' := bornV s1.heap C [u]) kk e0 ⟨_, _, e1, rfl, rfl, rfl, rfl⟩
  generalize hea : s1.heap.objs.size + 1 = ea at *
  have r2 : Vals [V.ref ea, y] [Value.ref ea, u] := .cons rfl (.cons ry .nil)
  have hsp : spInitX X.K C fI f [V.ref ea, y] (upd H1 ea (XO gNew ea C none)) (fun v H2 => v = .non ∧ ∃ dx, H2 = upd (upd H1 dx (.xd [(f, y)])) ea (XO gNew ea C (some dx)) ∧ H1 dx = none ∧ dx ≠ ea) E0 := by
    refine ⟨c, _, y, rfl, upd_same, fun dx hd hne => ⟨rfl, dx, ?_, ?_, hne⟩⟩
    · funext b
      by_cases z : b = ea
      · rw [z, upd_same, upd_same]
      · rw [upd_ne z, upd_ne z]
        by_cases z2 : b = dx
        · rw [z2, upd_same, upd_same]
        · rw [upd_ne z2, upd_ne z2, upd_ne z]
    · rw [upd_ne hne] at hd; exact hd
  have hl : ([Value.ref ea, u] ++ ([] : List Value)).length = ps.length := by
    have e := r2.length
    rw [FI.len _ _ _ _ hsp] at e
    exact e.symm
  refine wpAny_call (codeAny_mono (FI.run _ X.stack _ _ ⟨[Value.ref ea, u], []⟩ _ _ _ E0 (hr.make C [u] []) (J.env0.make C [u] []) (hb _ [Value.ref ea, u] J.kIn hl) r2 hsp) fun r s' hq' => ?_)
  cases r with
  | error e => exact (pass0 pins σ _ _ e s' J hq')
  | ok fl =>
    cases fl with
    | ret u2 =>
      obtain ⟨v, H', I3, rv, ev, dx, eH, nd, ne⟩ := J.after hq'
      subst ev eH
      refine ⟨rv, ea, some dx, rfl, I3.kIn, (I3.hok ea _ upd_same).1, ?_⟩
      have hn : upd H1 dx (.xd [(f, y)]) ea = none := by rw [upd_ne (Ne.symm ne)]; exact h0
      exact fly_out F (I3.untrack hn) new0 hn (I3.hok ea _ upd_same).1 (q dx nd)
    | next => exact False.elim hq'
    | brk => exact False.elim hq'
    | cont => exact False.elim hq'
end
/-! ### try: y = f(..) / except Y as n: suite, the exception keeps its dict -/
def eTryD (K : PySem.W.Frag) (CB : Addr) (i : Nat) (ts : TS) (D : Ends) (σ : St) : XK := fun cls od H2 => ∃ C, cls = .ref C ∧ PySem.W.mroIn K C (.ref CB) = some true ∧ ∀ ea, H2 ea = none →
  ts { nx := fun σ' H' => D.nx (σ'.set i none) H', rt := D.rt, bk := fun σ' H' => D.bk (σ'.set i none) H', ct := fun σ' H' => D.ct (σ'.set i none) H' } (σ.set i (some (.ref ea))) (upd H2 ea (XO gAny ea C od))
def tTryD (K : PySem.W.Frag) (CB : Addr) (sp : Sp) (t : TA) (j i : Nat) (ts : TS) : TS := fun D σ H => t σ H fun vs H1 => sp (vs ++ []) H1 (fun v H2 => D.nx (σ.set j (some v)) H2) (eTryD K CB i ts D σ)
theorem landD {X : Cx} {pins : List (Addr × Obj)} {σ : St} {H H' : Hp} {s s' : Shared} {ea : Addr} {od : Option Addr} {B h2 : Heap} {cls : Value} (I : Inv X pins σ H s) (W : FlownD X.prog X.w X.stack H s ea cls od H' s') (inT : ∀ b o, s'.heap.get? b = some o → H' b ≠ none → B.get? b = some o)
    (inB : ∀ b o, s.heap.get? b = some o → H b = none → b ∉ frs X.stack → B.get? b = some o) (inA : ∀ b o, s.heap.get? b = some o → b ∉ frs X.stack → ∃ o', B.get? b = some o') (st : B.StaysIn h2) (sm : s'.heap.UpToSlots h2) :
    Inv X pins σ H' { s' with heap := h2 } := by
  have sl2 : ∀ b o, s.heap.get? b = some o → b ∈ frs X.stack → ∃ sl, h2.get? b = some { o with slots := sl } := fun b o q hb => by
    obtain ⟨sl, e1⟩ := W.un.slot b o q (I.stkFree b hb) hb (by simp)
    obtain ⟨sl2, e2⟩ := sm b _ e1 (fun vs z => frames_nf I b hb o q vs z)
    exact ⟨sl2, e2⟩
  refine I.call' (s' := { s' with heap := h2 }) W.os ⟨fun b o q n hb _ => st b o (inB b o q n hb), fun b o q n hb _ => sl2 b o q hb, W.un.free, fun b o q _ => ?_, W.un.tups, W.un.frzs, W.un.tbls⟩ (W.hok.keptT fun b o q n => st b o (inT b o q n)) W.bare (fun b hb => absurd hb (by simp))
  by_cases hb : b ∈ frs X.stack
  · obtain ⟨sl, e1⟩ := sl2 b o q hb
    exact ⟨_, e1⟩
  · obtain ⟨o', e1⟩ := inA b o q hb
    exact ⟨o', st b o' e1⟩
theorem ps_tryD {X : Cx} {k : Nat} {f CB : Addr} {fd : FuncData} {ps : List Str} {sp : Sp} {x y n : Str} {p pos1 pos2 py ph pos : Pos} {e : Expr} {es : List Expr} {t : TA} {j i : Nat} {n0 : Str} {p0 : Pos} {b₀ : Stmt} {suite : List Stmt} {ts : TS}
    (F : FnOk X.prog X.w X.K X.mg X.base (CXd X.prog X.w) k f fd ps sp) (hr : Room k X.A) (hg : Gl X x) (hm : X.mg x = some (.ref f)) (hk : PySem.W.keepIn X.K (.ref f) = true) (hb : Binds X.K fd ps [])
    (ha : ∀ E', PA (X.wish E') (e :: es) t) (hst : X.stack = X.env :: X.outer) (hfm : X.env.frame = some X.env.locals) (hex : X.ex = [])
    (hy : Gl X y) (hyC : X.mg y = some (.ref CB)) (hN : X.N.Nodup) (hi : X.N[i]? = some n) (hn : X.env.scope.names.lookup n = some .local)
    (ht : PySem.W.typeIn X.K (.ref CB) = some (.type "type")) (hB : PySem.W.mroIn X.K CB (.type "BaseException") = some true) (hs : ∀ ea E', PSs (X.held ea E') (b₀ :: suite) ts) (hj : X.N[j]? = some n0) (hn0 : X.env.scope.names.lookup n0 = some .local)
    (hdb : (x == ("__debug__" : Str)) = false := by decide) (hdy : (y == ("__debug__" : Str)) = false := by decide) (he : starEach (e :: es) X.env = (false, eval e X.env) :: starEach es X.env := by rfl) (hpl : (backTo pos1 (starEach es X.env)).any (·.1) = false := by rfl)
    (hsw : swapsWith (.Call (.Name x p) (e :: es) [] pos1) (some (.Name n0 p0)) pos2.line X.env = pure false := by rfl) :
    PS X (.Try [.Assign [.Name n0 p0] (.Call (.Name x p) (e :: es) [] pos1) pos2] [.ExceptHandler (some (.Name y py)) (some n) (b₀ :: suite) ph] [] [] pos) (tTryD X.K CB sp t j i ts) := by
  intro pins s σ H D I h
  refine wpAny_Try_except ?_
  have hfr : X.A.frames = some (X.env :: X.outer) := by rw [I.ok.frames, hst]
  have lands : ∀ (H1 : Hp) (s1 : Shared) (ev : Value) (s' : Shared), Inv X pins σ H1 s1 → CXd X.prog X.w X.stack H1 s1 (eTryD X.K CB i ts D σ) ev s' →
      wpAny (model X.prog X.w) X.A (noteFrame ev X.env) (fun _ s₂ => wpAny (model X.prog X.w) X.A (setFlight ev none) (fun _ s₃ => wpAny (model X.prog X.w) X.A (handleBy ev X.env [.ExceptHandler (some (.Name y py)) (some n) (b₀ :: suite) ph]) (SP X pins D) X.xe s₃) X.xe s₂) X.xe s' := by
    intro H1 s1 ev s' I1 hx
    obtain ⟨ea, cls, od, H', rfl, W, C, rfl, mC, q⟩ := hx
    obtain ⟨B, fl, inT, inB, inA⟩ := W.ex
    have fl' : Fly B (X.env :: X.outer) ea (.ref C) od .none s'.heap := by rw [← hst]; exact fl
    refine fly_next hfr hfm fl' fun h4 held4 sm4 => ?_
    refine fly_none (s := { s' with heap := h4 }) held4 fun h5 fl5 sm5 => ?_
    have J5 : Inv X pins σ H' { s' with heap := h5 } := landD I1 W inT inB inA fl5.1 (sm4.trans sm5)
    refine wpAny_handleBy_cons (codeAny_handlers_test ?_) (by intro q; cases q)
    refine ld_glob (J5.held ea (fun _ _ => False)) hy hyC ?_ hdy
    refine exc_matches (s := { s' with heap := h5 }) J5.kIn fl5.at.is ht hB mC ?_
    refine codeAny_handlers_suite_as ?_
    refine fly_none (s := { s' with heap := h5 }) fl5 fun h6 fl6 sm6 => ?_
    have J6 : Inv X pins σ H' { s' with heap := h6 } := landD I1 W inT inB inA fl6.1 ((sm4.trans sm5).trans sm6)
    have n0 : X.s₀.heap.get? ea = none := by
      cases z : X.s₀.heap.get? ea with
      | none => rfl
      | some o =>
        obtain ⟨o', q'⟩ := I1.base.there ea o z (by rw [hex]; simp)
        rw [W.new] at q'
        cases q'
    have n1 : ea ≠ X.env.locals := fun z => by
      obtain ⟨m, ⟨o, _, _, ho, _⟩, _⟩ := I1.loc
      rw [← z, W.new] at ho
      cases ho
    have n2 : ∀ x c, X.env.cells.lookup x = some c → c ≠ ea := fun x c e z => by
      obtain ⟨v, o, ho, _⟩ := I1.cell x c e
      rw [z, W.new] at ho
      cases ho
    have n3 : ∀ p ∈ X.pn ++ pins, p.1 ≠ ea := fun p hp z => by
      have ho := (I1.pin p hp).1
      rw [z, W.new] at ho
      cases ho
    have K6 : Inv X pins σ (upd H' ea (XO gAny ea C od)) { s' with heap := h6 } := J6.track n0 n1 n2 n3 W.free (xo_ok fl6.at)
    refine store_ok K6 hN hi (.inl hn) (v := .ref ea) rfl (fun s7 I7 => ?_) (.inr hn)
    refine wpAny_mono (hs ea _ pins s7 _ _ _ (I7.held ea _) (q ea W.free)) (fun fl s8 h8 => ?_) fun _ _ z => z
    cases fl with
    | next =>
      obtain ⟨σ8, H8, J8, q8⟩ := h8
      exact (J8.unheld I1.ok).goes hN hi hn fun s9 I9 => ⟨_, H8, I9, q8⟩
    | brk =>
      obtain ⟨σ8, H8, J8, q8⟩ := h8
      exact (J8.unheld I1.ok).goes hN hi hn fun s9 I9 => ⟨_, H8, I9, q8⟩
    | cont =>
      obtain ⟨σ8, H8, J8, q8⟩ := h8
      exact (J8.unheld I1.ok).goes hN hi hn fun s9 I9 => ⟨_, H8, I9, q8⟩
    | ret u =>
      obtain ⟨v8, σ8, H8, J8, r8, q8⟩ := h8
      exact (J8.unheld I1.ok).goes hN hi hn fun s9 I9 => ⟨v8, _, H8, I9, r8, q8⟩
  refine wpAny_execs_cons (wpAny_Assign_Name ?_ hsw)
  have I' := I.wish (fun ev s' => wpAny (model X.prog X.w) X.A (noteFrame ev X.env) (fun _ s₂ => wpAny (model X.prog X.w) X.A (setFlight ev none) (fun _ s₃ => wpAny (model X.prog X.w) X.A (handleBy ev X.env [.ExceptHandler (some (.Name y py)) (some n) (b₀ :: suite) ph]) (SP X pins D) X.xe s₃) X.xe s₂) X.xe s')
  refine wpAny_Call_Name_kw (ld_glob I hg hm ?_ hdb)
  refine PySem.W.callWith_K (h₀ := X.base) I.ok.mod.kin hk (thn (ha _ pos1 pins s σ H _ I' h) fun us s1 ⟨vs, H1, I1, r, q⟩ => ⟨I1.kIn, ?_⟩) he hpl
  have r2 : Vals (vs ++ []) (us ++ []) := r.append .nil
  have hl : (us ++ []).length = ps.length := by rw [← r2.length]; exact F.len _ _ _ _ q
  refine wpAny_call (codeAny_mono (F.run X.A X.stack s1 H1 ⟨us, []⟩ (us ++ []) (vs ++ []) _ _ hr I1.env0 (hb s1 us I1.kIn hl) r2 q) fun rr s' hq => ?_)
  cases rr with
  | error ev => exact lands H1 s1 ev s' I1.unwish hq
  | ok fl =>
    cases fl with
    | ret u =>
      obtain ⟨v, H2, J, rv, q2⟩ := I1.unwish.after hq
      exact store_ok J hN hj (.inl hn0) rv (fun s2 I2 => wpAny_execs_nil (wpAny_execs_nil ⟨_, H2, I2, q2⟩)) (.inr hn0)
    | next => exact False.elim hq
    | brk => exact False.elim hq
    | cont => exact False.elim hq
section
variable {P : Program} {w : World} {K : PySem.W.Frag} {mg : Str → Option Value} {base : Heap}
theorem Fun.okD {x qual : Str} {st : Stmt} {f : Addr} {fd : FuncData} {N ps : List Str} {k : Nat} {sp : Sp} (F : Fun K x qual st f fd) (S : FnScope N ps (defScope st)) (len : ∀ vs H Q E, sp vs H Q E → vs.length = ps.length)
    (hbody : ∀ (cdv : Value) (A : Around) (outer : List Env) (s : Shared) (H : Hp) (vs : List V) (Q : VK) (E : XK), Room k (A.deeper (envOfC qual (defScope st) s.heap.objs.size f cdv)) → sp vs H Q E →
      ∃ t, PSs (cxOf (CXd P w) P w K mg base N qual (defScope st) f cdv A outer s H E) (defBody st) t ∧ t { nx := fun _ H' => Q .non H', rt := Q } (start N vs) H) : FnOk P w K mg base (CXd P w) (k + 1) f fd ps sp := by
  obtain ⟨oc, od, kV, doc, pm, an, cdv, ct, osl, rfl, lk, hcd⟩ := F.ex
  exact fn_of lk hcd S len fun A outer s H vs Q E hr hsp => hbody cdv A outer s H vs Q E hr hsp
end
end L2
set_option linter.all false
namespace Tw
open PySem

/-! ### the text of a key, as codes -/
def esc (c : Nat) : List Nat := if c = 34 ∨ c = 92 then [92, c] else [c]
def numT (i : Int) : List Nat := (toString i).toList.map Char.toNat
mutual
def KT.shown : KT → List Nat
  | .int i => numT i
  | .str x => 34 :: (x.cps.toList.flatMap esc ++ [34])
  | .tup l => 40 :: (shownL l ++ [41])
def shownL : List KT → List Nat
  | [] => []
  | t :: l => t.shown ++ (shownR l)
def shownR : List KT → List Nat
  | [] => []
  | t :: l => 32 :: (t.shown ++ shownR l)
end
theorem shownR_eq : ∀ l : List KT, shownR l = l.flatMap fun t => 32 :: t.shown
  | [] => by rw [shownR]; rfl
  | t :: l => by rw [shownR, shownR_eq l]; simp

def isDig (c : Nat) : Bool := decide (48 ≤ c) && decide (c ≤ 57)
theorem numT_nat (m : Nat) : numT (m : Int) = (Nat.toDigits 10 m).map Char.toNat := by
  show (Nat.repr m).toList.map Char.toNat = _
  rw [Nat.toList_repr]
theorem numT_neg (m : Nat) : numT (-((m + 1 : Nat) : Int)) = 45 :: (Nat.toDigits 10 (m + 1)).map Char.toNat := by
  have e : (-((m + 1 : Nat) : Int)) = Int.negSucc m := rfl
  rw [e]
  show ("-" ++ Nat.repr (m + 1)).toList.map Char.toNat = _
  rw [String.toList_append, List.map_append, Nat.toList_repr]
  rfl
theorem dig_char {c : Char} (h : c.isDigit = true) : isDig c.toNat = true := by
  unfold Char.isDigit at h
  rw [Bool.and_eq_true] at h
  have h1 : (48 : UInt32) ≤ c.val := by simpa using h.1
  have h2 : c.val ≤ (57 : UInt32) := by simpa using h.2
  have g1 : 48 ≤ c.val.toNat := UInt32.le_iff_toNat_le.mp h1
  have g2 : c.val.toNat ≤ 57 := UInt32.le_iff_toNat_le.mp h2
  unfold isDig
  rw [Bool.and_eq_true]
  exact ⟨decide_eq_true g1, decide_eq_true g2⟩
theorem digs_all (m : Nat) : ((Nat.toDigits 10 m).map Char.toNat).all isDig = true := by
  rw [List.all_map]
  exact List.all_eq_true.mpr fun c hc => dig_char (Nat.isDigit_of_mem_toDigits (by decide) (by decide) hc)
theorem digs_len {m k : Nat} (hk : 0 < k) (h : m < 10 ^ k) : (Nat.toDigits 10 m).length ≤ k := by
  induction k generalizing m with
  | zero => omega
  | succ k ih =>
    by_cases hm : m < 10
    · rw [Nat.toDigits_of_lt_base hm]; simp
    · have hr : m % 10 < 10 := Nat.mod_lt m (by decide)
      have t : Nat.toDigits 10 (m / 10) ++ Nat.toDigits 10 (m % 10) = Nat.toDigits 10 (10 * (m / 10) + m % 10) := Nat.toDigits_append_toDigits (by decide) (by omega) hr
      rw [Nat.div_add_mod] at t
      have hk0 : 0 < k := by
        rcases Nat.eq_zero_or_pos k with e | e
        · subst e; simp at h; omega
        · exact e
      have h2 : m / 10 < 10 ^ k := by rw [Nat.pow_succ] at h; omega
      have := ih hk0 h2
      rw [← t, List.length_append, Nat.toDigits_of_lt_base hr, List.length_singleton]
      omega
theorem digs_zero : (Nat.toDigits 10 0).map Char.toNat = [48] := by decide

/-- what a text's sign at a place is -/
def sg (T : List Nat) (i : Nat) : Str := ⟨(T[i]?).toList.toArray⟩
theorem sg_some {T : List Nat} {i c : Nat} (h : T[i]? = some c) : sg T i = ⟨#[c]⟩ := by unfold sg; rw [h]; rfl
theorem sg_none {T : List Nat} {i : Nat} (h : T[i]? = none) : sg T i = ⟨#[]⟩ := by unfold sg; rw [h]; rfl
theorem drop_get {T : List Nat} {i c : Nat} {r : List Nat} (h : T.drop i = c :: r) : T[i]? = some c := by
  have : (T.drop i)[0]? = some c := by rw [h]; rfl
  rw [List.getElem?_drop] at this
  simpa using this
theorem drop_none {T : List Nat} {i : Nat} (h : T.drop i = []) : T[i]? = none := by
  have : T.length ≤ i := List.drop_eq_nil_iff.mp h
  exact List.getElem?_eq_none this
theorem drop_step {T : List Nat} {i c : Nat} {r : List Nat} (h : T.drop i = c :: r) : T.drop (i + 1) = r := by
  rw [← List.drop_drop, h]; rfl
theorem drop_more {T a b : List Nat} {i : Nat} (h : T.drop i = a ++ b) : T.drop (i + a.length) = b := by
  rw [← List.drop_drop, h, List.drop_left]
theorem sg_str {c d : Nat} : ((⟨#[c]⟩ : Str) = ⟨#[d]⟩) ↔ c = d := by
  constructor
  · intro h; injection h with h; simpa using h
  · intro h; rw [h]
theorem shown_head (t : KT) {r : Nat} (h : t.fits r = true) : ∃ c q, t.shown = c :: q ∧ c ≠ 41 ∧ c ≠ 32 ∧ (c = 34 ↔ ∃ x, t = .str x) ∧ (c = 40 ↔ ∃ l, t = .tup l) := by
  cases t with
  | int i =>
    rw [KT.shown]
    have key : ∃ c q, numT i = c :: q ∧ (c = 45 ∨ isDig c = true) := by
      rcases (show i < 0 ∨ 0 ≤ i by omega) with hi | hi
      · obtain ⟨m, rfl⟩ : ∃ m : Nat, i = -((m + 1 : Nat) : Int) := ⟨(-i).toNat - 1, by omega⟩
        rw [numT_neg]
        exact ⟨45, _, rfl, .inl rfl⟩
      · obtain ⟨m, rfl⟩ := Int.eq_ofNat_of_zero_le hi
        show ∃ c q, numT (m : Int) = c :: q ∧ _
        rw [numT_nat]
        have a := digs_all m
        cases e : (Nat.toDigits 10 m).map Char.toNat with
        | nil =>
          have : (Nat.toDigits 10 m).length = 0 := by rw [List.map_eq_nil_iff.mp e]; rfl
          have h2 := Nat.length_toDigits_pos (b := 10) (n := m)
          omega
        | cons c q =>
          rw [e, List.all_cons, Bool.and_eq_true] at a
          exact ⟨c, q, rfl, .inr a.1⟩
    obtain ⟨c, q, e, hc⟩ := key
    have hb : c = 45 ∨ (48 ≤ c ∧ c ≤ 57) := by
      rcases hc with hc | hc
      · exact .inl hc
      · unfold isDig at hc
        rw [Bool.and_eq_true] at hc
        exact .inr ⟨of_decide_eq_true hc.1, of_decide_eq_true hc.2⟩
    refine ⟨c, q, e, by omega, by omega, ⟨fun z => (by omega), fun ⟨x, z⟩ => (by cases z)⟩, ⟨fun z => (by omega), fun ⟨x, z⟩ => (by cases z)⟩⟩
  | str x => rw [KT.shown]; exact ⟨34, _, rfl, by decide, by decide, ⟨fun _ => ⟨x, rfl⟩, fun _ => rfl⟩, ⟨fun z => (by cases z), fun ⟨l, z⟩ => (by cases z)⟩⟩
  | tup l => rw [KT.shown]; exact ⟨40, _, rfl, by decide, by decide, ⟨fun z => (by cases z), fun ⟨x, z⟩ => (by cases z)⟩, ⟨fun _ => ⟨l, rfl⟩, fun _ => rfl⟩⟩
theorem esc_cases (c : Nat) : (esc c = [92, c] ∧ (c = 34 ∨ c = 92)) ∨ (esc c = [c] ∧ c ≠ 34 ∧ c ≠ 92) := by
  unfold esc
  by_cases h : c = 34 ∨ c = 92
  · rw [if_pos h]; exact .inl ⟨rfl, h⟩
  · rw [if_neg h]
    exact .inr ⟨rfl, fun z => h (.inl z), fun z => h (.inr z)⟩
end Tw
set_option linter.all false
set_option maxRecDepth 100000
namespace Tw
open PySem
/-! ### the law's own reader -/
inductive Wd where
  | wanted | opened | minus | text | freed | figures | behind
  deriving DecidableEq
/-- the word, the count, the open tuples with how many things each has, the innermost one first -/
structure Au where
  w : Wd
  n : Nat
  inn : List Nat
def up : List Nat → List Nat
  | [] => []
  | k :: r => (k + 1) :: r
def dig1 (c : Nat) : Bool := decide (49 ≤ c) && decide (c ≤ 57)
def auBegun (inn : List Nat) (c : Nat) : Option Au :=
  if c = 34 then some ⟨.text, 0, up inn⟩
  else if c = 40 ∧ inn.length < 3 then some ⟨.opened, 0, 0 :: up inn⟩
  else if c = 45 then some ⟨.minus, 0, up inn⟩
  else if c = 48 then some ⟨.behind, 0, up inn⟩
  else if dig1 c then some ⟨.figures, 1, up inn⟩ else none
def auWithin (w : Wd) (n : Nat) (inn : List Nat) (c : Nat) : Option Au :=
  if w = .minus ∧ dig1 c = true then some ⟨.figures, 1, inn⟩
  else if w = .freed ∧ (c = 34 ∨ c = 92) then some ⟨.text, n + 1, inn⟩
  else if w = .text ∧ c = 34 then some ⟨.behind, 0, inn⟩
  else if w ≠ .text ∨ n = 40 ∨ c < 32 ∨ 126 < c then none
  else if c = 92 then some ⟨.freed, n, inn⟩
  else some ⟨.text, n + 1, inn⟩
def auBehind (many : Bool) (inn : List Nat) (c : Nat) : Option Au :=
  if c = 41 ∧ inn ≠ [] then some ⟨.behind, 0, inn.tail⟩
  else if c = 32 ∧ (inn = [] ∧ many = true ∨ inn ≠ [] ∧ inn.headD 0 < 4) then some ⟨.wanted, 0, inn⟩ else none
def auStep (many : Bool) (s : Au) (c : Nat) : Option Au :=
  match s.w with
  | .minus => auWithin .minus s.n s.inn c
  | .text => auWithin .text s.n s.inn c
  | .freed => auWithin .freed s.n s.inn c
  | .opened => if c = 41 then some ⟨.behind, 0, s.inn.tail⟩ else auBegun s.inn c
  | .wanted => auBegun s.inn c
  | .figures => if isDig c = true ∧ s.n < 60 then some ⟨.figures, s.n + 1, s.inn⟩ else auBehind many s.inn c
  | .behind => auBehind many s.inn c
def auEnds (s : Au) : Bool := (decide (s.w = .figures) || decide (s.w = .behind)) && decide (s.inn = [])
def sh (k : Nat) (o : Option Nat) : Option Nat := o.map (· + k)
def ver (many : Bool) : Au → List Nat → Option Nat
  | s, [] => if auEnds s then none else some 0
  | s, c :: l => match auStep many s c with
    | none => some 0
    | some s' => sh 1 (ver many s' l)
theorem sh_sh (a b : Nat) (o : Option Nat) : sh a (sh b o) = sh (b + a) o := by cases o <;> simp [sh, Nat.add_assoc]
theorem sh_0 (o : Option Nat) : sh 0 o = o := by cases o <;> simp [sh]
theorem sh_some (a b : Nat) : sh a (some b) = some (b + a) := rfl
section
variable {many : Bool} {inn : List Nat} {n c : Nat} {l rest : List Nat}
theorem ver_some {s s' : Au} (h : auStep many s c = some s') : ver many s (c :: l) = sh 1 (ver many s' l) := by rw [ver, h]
theorem ver_no {s : Au} (h : auStep many s c = none) : ver many s (c :: l) = some 0 := by rw [ver, h]
/-! #### figures -/
theorem ver_figs : ∀ (ds : List Nat) (n : Nat), (∀ d ∈ ds, isDig d = true) → n + ds.length ≤ 60 → ver many ⟨.figures, n, inn⟩ (ds ++ rest) = sh ds.length (ver many ⟨.figures, n + ds.length, inn⟩ rest)
  | [], n, _, _ => by simp [sh_0]
  | d :: ds, n, hd, hn => by
    simp only [List.length_cons] at hn ⊢
    have h1 : auStep many ⟨.figures, n, inn⟩ d = some ⟨.figures, n + 1, inn⟩ := by
      simp only [auStep]
      rw [if_pos ⟨hd d List.mem_cons_self, by omega⟩]
    rw [List.cons_append, ver_some h1, ver_figs ds (n + 1) (fun e he => hd e (List.mem_cons_of_mem _ he)) (by omega), sh_sh]
    rw [show n + 1 + ds.length = n + (ds.length + 1) by omega]
def noDig (l : List Nat) : Prop := ∀ c r, l = c :: r → isDig c = false
theorem ver_figend (h : 60 ≤ n ∨ noDig rest) : ver many ⟨.figures, n, inn⟩ rest = ver many ⟨.behind, 0, inn⟩ rest := by
  cases rest with
  | nil => simp [ver, auEnds]
  | cons c r =>
    have e : auStep many ⟨.figures, n, inn⟩ c = auStep many ⟨.behind, 0, inn⟩ c := by
      simp only [auStep]
      rw [if_neg]
      rintro ⟨h1, h2⟩
      rcases h with h | h
      · omega
      · rw [h c r rfl] at h1; cases h1
    rw [ver, ver, e]
end
/-- a key's text stands at the beginning, of k signs; the law's reader stands behind it -/
structure Good (l : List Nat) (r : Nat) (t : KT) (k : Nat) : Prop where
  le : k ≤ l.length
  tk : l.take k = t.shown
  fits : t.fits r = true
  ver : ∀ many inn, inn.length + r = 3 → ver many ⟨.wanted, 0, inn⟩ l = sh k (ver many ⟨.behind, 0, up inn⟩ (l.drop k))
def Bad (l : List Nat) (r f : Nat) : Prop := ∀ many inn, inn.length + r = 3 → ver many ⟨.wanted, 0, inn⟩ l = some f
theorem isDig_1 {c : Nat} (h : dig1 c = true) : isDig c = true ∧ c ≠ 48 := by
  unfold dig1 at h
  unfold isDig
  rw [Bool.and_eq_true] at h ⊢
  have h1 := of_decide_eq_true h.1
  have h2 := of_decide_eq_true h.2
  exact ⟨⟨decide_eq_true (by omega), decide_eq_true h2⟩, by omega⟩
theorem dig1_of {c : Nat} (h : isDig c = true) (n : c ≠ 48) : dig1 c = true := by
  unfold isDig at h
  unfold dig1
  rw [Bool.and_eq_true] at h ⊢
  have h1 := of_decide_eq_true h.1
  have h2 := of_decide_eq_true h.2
  exact ⟨decide_eq_true (by omega), decide_eq_true h2⟩
theorem begun_dig {c : Nat} {inn : List Nat} (h : dig1 c = true) : auBegun inn c = some ⟨.figures, 1, up inn⟩ := by
  have h1 := isDig_1 h
  have h2 := h1.1
  unfold isDig at h2
  rw [Bool.and_eq_true] at h2
  have g1 := of_decide_eq_true h2.1
  have g2 := of_decide_eq_true h2.2
  unfold auBegun
  rw [if_neg (by omega), if_neg (by omega), if_neg (by omega), if_neg h1.2, if_pos h]
/-- the number that figures write -/
theorem dig_num : ∀ (q : List Nat) (c : Nat), dig1 c = true → (∀ d ∈ q, isDig d = true) → ∃ m : Nat, m ≠ 0 ∧ (Nat.toDigits 10 m).map Char.toNat = c :: q ∧ m < 10 ^ (q.length + 1) := by
  have dc : ∀ d : Nat, d < 10 → (Nat.digitChar d).toNat = 48 + d := by decide
  intro q c hc hq
  generalize hk : q.length = k
  induction k generalizing q with
  | zero =>
    have : q = [] := List.eq_nil_of_length_eq_zero hk
    subst this
    have h1 := isDig_1 hc
    have h2 := h1.1
    unfold isDig at h2
    rw [Bool.and_eq_true] at h2
    have g1 := of_decide_eq_true h2.1
    have g2 := of_decide_eq_true h2.2
    refine ⟨c - 48, by omega, ?_, by simp; omega⟩
    rw [Nat.toDigits_of_lt_base (by omega)]
    show [(Nat.digitChar (c - 48)).toNat] = [c]
    rw [dc _ (by omega)]
    congr 1
    omega
  | succ k ih =>
    have hne : q ≠ [] := fun z => by rw [z] at hk; cases hk
    obtain ⟨q', d, rfl⟩ : ∃ q' d, q = q' ++ [d] := ⟨q.dropLast, q.getLast hne, (List.dropLast_concat_getLast hne).symm⟩
    have hk' : q'.length = k := by rw [List.length_append] at hk; simpa using hk
    obtain ⟨m, m0, em, lm⟩ := ih q' (fun e he => hq e (List.mem_append_left _ he)) hk'
    have hd := hq d (List.mem_append_right _ (List.mem_singleton.mpr rfl))
    unfold isDig at hd
    rw [Bool.and_eq_true] at hd
    have g1 := of_decide_eq_true hd.1
    have g2 := of_decide_eq_true hd.2
    refine ⟨10 * m + (d - 48), by omega, ?_, ?_⟩
    · rw [← Nat.toDigits_append_toDigits (by decide) (by omega) (by omega), List.map_append, em, Nat.toDigits_of_lt_base (by omega)]
      show c :: q' ++ [(Nat.digitChar (d - 48)).toNat] = _
      rw [dc _ (by omega), show 48 + (d - 48) = d by omega]
      rfl
    · rw [Nat.pow_succ]; omega
section
variable {l rest q : List Nat} {r c : Nat}
theorem good_pos (hc : dig1 c = true) (hq : ∀ d ∈ q, isDig d = true) (hn : q.length ≤ 59) (e : l = c :: (q ++ rest)) (he : 59 ≤ q.length ∨ noDig rest) : ∃ n : Int, Good l r (.int n) (q.length + 1) ∧ numT n = c :: q ∧ n.natAbs < 10 ^ 60 := by
  obtain ⟨m, m0, em, lm⟩ := dig_num q c hc hq
  have l60 : m < 10 ^ 60 := Nat.lt_of_lt_of_le lm (Nat.pow_le_pow_right (by decide) (by omega))
  have en : numT (m : Int) = c :: q := (numT_nat m).trans em
  refine ⟨(m : Int), ⟨by rw [e]; simp, ?_, ?_, fun many inn _ => ?_⟩, en, by simpa using l60⟩
  · rw [e, KT.shown, en, List.take_succ_cons, List.take_left]
  · rw [KT.fits]; exact decide_eq_true (by simpa using l60)
  · have h1 : auStep many ⟨.wanted, 0, inn⟩ c = some ⟨.figures, 1, up inn⟩ := begun_dig hc
    rw [e, ver_some h1, ver_figs q 1 hq (by omega), sh_sh, List.drop_succ_cons, List.drop_left, ver_figend (he.imp (fun h => by omega) id)]
theorem good_neg (hc : dig1 c = true) (hq : ∀ d ∈ q, isDig d = true) (hn : q.length ≤ 59) (e : l = 45 :: c :: (q ++ rest)) (he : 59 ≤ q.length ∨ noDig rest) : ∃ n : Int, Good l r (.int n) (q.length + 2) ∧ numT n = 45 :: c :: q ∧ n.natAbs < 10 ^ 60 := by
  obtain ⟨m, m0, em, lm⟩ := dig_num q c hc hq
  have l60 : m < 10 ^ 60 := Nat.lt_of_lt_of_le lm (Nat.pow_le_pow_right (by decide) (by omega))
  obtain ⟨j, rfl⟩ : ∃ j, m = j + 1 := ⟨m - 1, by omega⟩
  have en : numT (-((j + 1 : Nat) : Int)) = 45 :: c :: q := by rw [numT_neg, em]
  have ab : (-((j + 1 : Nat) : Int)).natAbs = j + 1 := by omega
  refine ⟨-((j + 1 : Nat) : Int), ⟨by rw [e]; simp, ?_, ?_, fun many inn _ => ?_⟩, en, by rw [ab]; exact l60⟩
  · rw [e, KT.shown, en, List.take_succ_cons, List.take_succ_cons, List.take_left]
  · rw [KT.fits]; exact decide_eq_true (by rw [ab]; exact l60)
  · have h0 : auStep many ⟨.wanted, 0, inn⟩ 45 = some ⟨.minus, 0, up inn⟩ := by simp [auStep, auBegun]
    have h1 : auStep many ⟨.minus, 0, up inn⟩ c = some ⟨.figures, 1, up inn⟩ := by simp [auStep, auWithin, hc]
    rw [e, ver_some h0, ver_some h1, ver_figs q 1 hq (by omega), sh_sh, sh_sh, List.drop_succ_cons, List.drop_succ_cons, List.drop_left, ver_figend (he.imp (fun h => by omega) id)]
theorem good_zero (e : l = 48 :: rest) : Good l r (.int 0) 1 := by
  refine ⟨by rw [e]; simp, ?_, ?_, fun many inn _ => ?_⟩
  · rw [e, KT.shown, show numT 0 = [48] from (numT_nat 0).trans digs_zero]; rfl
  · rw [KT.fits]; decide
  · have h0 : auStep many ⟨.wanted, 0, inn⟩ 48 = some ⟨.behind, 0, up inn⟩ := by simp [auStep, auBegun]
    rw [e, ver_some h0]; rfl
theorem bad_nil : Bad [] r 0 := fun many inn _ => by simp [ver, auEnds]
theorem bad_0 (e : l = c :: rest) (h34 : c ≠ 34) (h40 : c = 40 → r = 0) (h45 : c ≠ 45) (hd : isDig c = false) : Bad l r 0 := fun many inn hi => by
  have d1 : dig1 c = false := by
    cases z : dig1 c with
    | false => rfl
    | true => rw [(isDig_1 z).1] at hd; cases hd
  have n48 : c ≠ 48 := fun z => by rw [z] at hd; exact absurd hd (by decide)
  have h0 : auStep many ⟨.wanted, 0, inn⟩ c = none := by
    show auBegun inn c = none
    unfold auBegun
    rw [if_neg h34, if_neg (by rintro ⟨a, b⟩; have := h40 a; omega), if_neg h45, if_neg n48, if_neg (by rw [d1]; exact Bool.false_ne_true)]
  rw [e, ver_no h0]
theorem bad_1 (e : l = 45 :: rest) (h : ∀ c q, rest = c :: q → dig1 c = false) : Bad l r 1 := fun many inn _ => by
  have h0 : auStep many ⟨.wanted, 0, inn⟩ 45 = some ⟨.minus, 0, up inn⟩ := by simp [auStep, auBegun]
  rw [e, ver_some h0]
  cases rest with
  | nil => simp [ver, auEnds, sh]
  | cons c q =>
    have h1 : auStep many ⟨.minus, 0, up inn⟩ c = none := by simp [auStep, auWithin, h c q rfl]
    rw [ver_no h1]; rfl
end
/-! #### texts -/
section
variable {l rest : List Nat} {r c : Nat} {many : Bool} {inn : List Nat}
theorem ver_sign {n : Nat} (hc : signOk c = true) (hn : n < 40) : ver many ⟨.text, n, inn⟩ (esc c ++ rest) = sh (esc c).length (ver many ⟨.text, n + 1, inn⟩ rest) := by
  have hc' := hc
  unfold signOk at hc'
  rcases esc_cases c with ⟨e, he⟩ | ⟨e, n34, n92⟩
  · rw [e]
    have h0 : auStep many ⟨.text, n, inn⟩ 92 = some ⟨.freed, n, inn⟩ := by
      show auWithin _ _ _ _ = _
      unfold auWithin
      rw [if_neg (by simp), if_neg (by simp), if_neg (by simp), if_neg (by simp; omega), if_pos rfl]
    have h1 : auStep many ⟨.freed, n, inn⟩ c = some ⟨.text, n + 1, inn⟩ := by
      show auWithin _ _ _ _ = _
      unfold auWithin
      rw [if_neg (by simp), if_pos ⟨rfl, he⟩]
    rw [List.cons_append, List.cons_append, List.nil_append, ver_some h0, ver_some h1, sh_sh]
    rfl
  · rw [e]
    rw [Bool.and_eq_true] at hc'
    have g1 := of_decide_eq_true hc'.1
    have g2 := of_decide_eq_true hc'.2
    have h0 : auStep many ⟨.text, n, inn⟩ c = some ⟨.text, n + 1, inn⟩ := by
      show auWithin _ _ _ _ = _
      unfold auWithin
      rw [if_neg (by simp), if_neg (by simp), if_neg (by simp [n34]), if_neg (by simp; omega), if_neg n92]
    rw [List.cons_append, List.nil_append, ver_some h0]
    rfl
theorem ver_texts : ∀ (Y : List Nat) (n : Nat), (∀ c ∈ Y, signOk c = true) → n + Y.length ≤ 40 → ver many ⟨.text, n, inn⟩ (Y.flatMap esc ++ rest) = sh (Y.flatMap esc).length (ver many ⟨.text, n + Y.length, inn⟩ rest)
  | [], n, _, _ => by simp [sh_0]
  | c :: Y, n, h, hn => by
    simp only [List.length_cons] at hn ⊢
    rw [List.flatMap_cons, List.append_assoc, ver_sign (h c List.mem_cons_self) (by omega), ver_texts Y (n + 1) (fun d hd => h d (List.mem_cons_of_mem _ hd)) (by omega), sh_sh, List.length_append]
    rw [show n + 1 + Y.length = n + (Y.length + 1) by omega, Nat.add_comm (esc c).length]
theorem ver_quote : ver many ⟨.wanted, 0, inn⟩ (34 :: rest) = sh 1 (ver many ⟨.text, 0, up inn⟩ rest) := ver_some (by simp [auStep, auBegun])
theorem ver_closed {n : Nat} : ver many ⟨.text, n, inn⟩ (34 :: rest) = sh 1 (ver many ⟨.behind, 0, inn⟩ rest) := ver_some (by simp [auStep, auWithin])
end
/-- what a text's inside reads, behind its first sign -/
structure TGood (l : List Nat) (y : Str) (k : Nat) : Prop where
  le : k ≤ l.length
  tk : l.take k = y.cps.toList.flatMap esc ++ [34]
  ok : textOk y = true
  ver : ∀ many inn, ver many ⟨.text, 0, inn⟩ l = sh k (ver many ⟨.behind, 0, inn⟩ (l.drop k))
def TBad (l : List Nat) (f : Nat) : Prop := ∀ many inn, ver many ⟨.text, 0, inn⟩ l = some f
section
variable {l rest : List Nat} {r : Nat}
theorem good_text {y : Str} {k : Nat} (h : TGood l y k) : Good (34 :: l) r (.str y) (k + 1) := by
  refine ⟨by simp [h.le], ?_, by rw [KT.fits]; exact h.ok, fun many inn _ => ?_⟩
  · rw [List.take_succ_cons, h.tk, KT.shown]
  · rw [ver_quote, h.ver, sh_sh, List.drop_succ_cons]
theorem bad_text {f : Nat} (h : TBad l f) : Bad (34 :: l) r (f + 1) := fun many inn _ => by rw [ver_quote, h]; rfl
theorem tgood_of {Y : List Nat} (hY : ∀ c ∈ Y, signOk c = true) (h40 : Y.length ≤ 40) (e : l = Y.flatMap esc ++ 34 :: rest) : TGood l ⟨Y.toArray⟩ ((Y.flatMap esc).length + 1) := by
  refine ⟨by rw [e]; simp, ?_, ?_, fun many inn => ?_⟩
  · rw [e, show Y.flatMap esc ++ 34 :: rest = (Y.flatMap esc ++ [34]) ++ rest by simp]
    exact List.take_left' (by simp)
  · unfold textOk
    rw [Bool.and_eq_true]
    exact ⟨decide_eq_true (show Y.toArray.size ≤ 40 by simpa using h40), List.all_eq_true.mpr (by simpa using hY)⟩
  · rw [e, ver_texts Y 0 hY (by omega), ver_closed, sh_sh]
    congr 1
    · omega
    · rw [show Y.flatMap esc ++ 34 :: rest = (Y.flatMap esc ++ [34]) ++ rest by simp, List.drop_left' (by simp)]
theorem tbad_of {Y : List Nat} {g : Nat} (hY : ∀ c ∈ Y, signOk c = true) (h40 : Y.length ≤ 40) (e : l = Y.flatMap esc ++ rest) (h : ∀ many inn, ver many ⟨.text, Y.length, inn⟩ rest = some g) : TBad l ((Y.flatMap esc).length + g) := fun many inn => by
  rw [e, ver_texts Y 0 hY (by omega), Nat.zero_add, h, sh_some, Nat.add_comm]
theorem ver_tooMany {many : Bool} {inn : List Nat} (h : ∀ c q, rest = c :: q → c ≠ 34) : ver many ⟨.text, 40, inn⟩ rest = some 0 := by
  cases rest with
  | nil => simp [ver, auEnds]
  | cons c q => exact ver_no (by simp [auStep, auWithin, h c q rfl])
theorem ver_noSign {many : Bool} {inn : List Nat} {n : Nat} (h : ∀ c q, rest = c :: q → c ≠ 34 ∧ signOk c = false) : ver many ⟨.text, n, inn⟩ rest = some 0 := by
  cases rest with
  | nil => simp [ver, auEnds]
  | cons c q =>
    obtain ⟨h1, h2⟩ := h c q rfl
    refine ver_no ?_
    show auWithin _ _ _ _ = _
    unfold auWithin
    rw [if_neg (by simp), if_neg (by simp), if_neg (by simp [h1]), if_pos]
    unfold signOk at h2
    by_cases a : c < 32
    · exact .inr (.inr (.inl a))
    · by_cases b : 126 < c
      · exact .inr (.inr (.inr b))
      · rw [decide_eq_true (by omega), decide_eq_true (by omega)] at h2
        cases h2
theorem ver_noFree {many : Bool} {inn q : List Nat} {n : Nat} (hn : n < 40) (e : rest = 92 :: q) (h : ∀ c p, q = c :: p → c ≠ 34 ∧ c ≠ 92) : ver many ⟨.text, n, inn⟩ rest = some 1 := by
  have h0 : auStep many ⟨.text, n, inn⟩ 92 = some ⟨.freed, n, inn⟩ := by
    show auWithin _ _ _ _ = _
    unfold auWithin
    rw [if_neg (by simp), if_neg (by simp), if_neg (by simp), if_neg (by simp; omega), if_pos rfl]
  rw [e, ver_some h0]
  cases q with
  | nil => simp [ver, auEnds, sh]
  | cons c p =>
    obtain ⟨h1, h2⟩ := h c p rfl
    rw [ver_no (by simp [auStep, auWithin, h1, h2])]
    rfl
end
/-! #### tuples -/
/-- m things stand there, the reader stands behind the last -/
structure Some' (l : List Nat) (r : Nat) (ts : List KT) (k : Nat) : Prop where
  le : k ≤ l.length
  tk : l.take k = shownL ts
  fits : fitsL ts r = true
  ne : ts ≠ []
  four : ts.length ≤ 4
  ver : ∀ many inn, inn.length + (r + 1) = 3 → ver many ⟨.wanted, 0, 0 :: inn⟩ l = sh k (ver many ⟨.behind, 0, ts.length :: inn⟩ (l.drop k))
structure PGood (l : List Nat) (r : Nat) (ts : List KT) (k : Nat) : Prop where
  le : k ≤ l.length
  tk : l.take k = shownL ts ++ [41]
  fits : fitsL ts r = true
  four : ts.length ≤ 4
  ver : ∀ many inn, inn.length + (r + 1) = 3 → ver many ⟨.opened, 0, 0 :: inn⟩ l = sh k (ver many ⟨.behind, 0, inn⟩ (l.drop k))
def PBad (l : List Nat) (r f : Nat) : Prop := ∀ many inn, inn.length + (r + 1) = 3 → ver many ⟨.opened, 0, 0 :: inn⟩ l = some f
theorem shownL_snoc : ∀ (ts : List KT) (t : KT), ts ≠ [] → shownL (ts ++ [t]) = shownL ts ++ 32 :: t.shown
  | [], t, h => absurd rfl h
  | a :: ts, t, _ => by
    rw [List.cons_append, shownL, shownL, shownR_eq, shownR_eq, List.flatMap_append, List.append_assoc]
    simp
section
variable {l rest : List Nat} {r : Nat}
theorem up_len (inn : List Nat) : (up inn).length = inn.length := by cases inn <;> rfl
theorem good_tup {ts : List KT} {k : Nat} (h : PGood l r ts k) : Good (40 :: l) (r + 1) (.tup ts) (k + 1) := by
  refine ⟨by simp [h.le], ?_, ?_, fun many inn hi => ?_⟩
  · rw [List.take_succ_cons, h.tk, KT.shown]
  · rw [KT.fits]; simp [h.four, h.fits]
  · have h0 : auStep many ⟨.wanted, 0, inn⟩ 40 = some ⟨.opened, 0, 0 :: up inn⟩ := by
      show auBegun _ _ = _
      unfold auBegun
      rw [if_neg (by decide), if_pos ⟨rfl, by show inn.length < 3; omega⟩]
    rw [ver_some h0, h.ver many (up inn) (by rw [up_len]; omega), sh_sh, List.drop_succ_cons]
theorem bad_tup {f : Nat} (h : PBad l r f) : Bad (40 :: l) (r + 1) (f + 1) := fun many inn hi => by
  have h0 : auStep many ⟨.wanted, 0, inn⟩ 40 = some ⟨.opened, 0, 0 :: up inn⟩ := by
    show auBegun _ _ = _
    unfold auBegun
    rw [if_neg (by decide), if_pos ⟨rfl, by show inn.length < 3; omega⟩]
  rw [ver_some h0, h many (up inn) (by rw [up_len]; omega)]
  rfl
theorem pgood_nil (e : l = 41 :: rest) : PGood l r [] 1 := by
  refine ⟨by rw [e]; simp, by rw [e, shownL]; rfl, by rw [fitsL], by simp, fun many inn _ => ?_⟩
  rw [e]
  exact ver_some (by simp [auStep])
theorem opened_is {many : Bool} {inn : List Nat} (h : ∀ c q, l = c :: q → c ≠ 41) : ver many ⟨.opened, 0, inn⟩ l = ver many ⟨.wanted, 0, inn⟩ l := by
  cases l with
  | nil => simp [ver, auEnds]
  | cons c q =>
    have e : auStep many ⟨.opened, 0, inn⟩ c = auStep many ⟨.wanted, 0, inn⟩ c := by simp [auStep, h c q rfl]
    rw [ver, ver, e]
theorem first_bad {f : Nat} (h41 : ∀ c q, l = c :: q → c ≠ 41) (h : Bad l r f) : PBad l r f := fun many inn hi => by
  rw [opened_is h41]
  exact h many (0 :: inn) (by simp; omega)
theorem first_good {t : KT} {k : Nat} (h : Good l r t k) : Some' l r [t] k := by
  refine ⟨h.le, by rw [h.tk, shownL, shownR]; simp, by rw [fitsL, h.fits, fitsL]; rfl, by simp, by simp, fun many inn hi => ?_⟩
  exact h.ver many (0 :: inn) (by simp; omega)
theorem close_good {ts : List KT} {k : Nat} (h41 : ∀ c q, l = c :: q → c ≠ 41) (h : Some' l r ts k) (e : l.drop k = 41 :: rest) : PGood l r ts (k + 1) := by
  have lk : k < l.length := by
    rcases Nat.lt_or_ge k l.length with a | a
    · exact a
    · rw [List.drop_eq_nil_of_le a] at e; cases e
  have gk : l[k]? = some 41 := drop_get e
  refine ⟨lk, ?_, h.fits, h.four, fun many inn hi => ?_⟩
  · rw [List.take_add_one, h.tk, gk]; rfl
  · have h0 : auStep many ⟨.behind, 0, ts.length :: inn⟩ 41 = some ⟨.behind, 0, inn⟩ := by simp [auStep, auBehind]
    rw [opened_is h41, h.ver many inn hi, e, ver_some h0, sh_sh, drop_step e, Nat.add_comm]
theorem next_bad {ts : List KT} {k : Nat} (h41 : ∀ c q, l = c :: q → c ≠ 41) (h : Some' l r ts k) (e : ∀ c q, l.drop k = c :: q → c ≠ 41 ∧ (c ≠ 32 ∨ ts.length = 4)) : PBad l r k := fun many inn hi => by
  rw [opened_is h41, h.ver many inn hi]
  have : ver many ⟨.behind, 0, ts.length :: inn⟩ (l.drop k) = some 0 := by
    cases z : l.drop k with
    | nil => simp [ver, auEnds]
    | cons c q =>
      obtain ⟨h1, h2⟩ := e c q z
      refine ver_no ?_
      show auBehind _ _ _ = _
      unfold auBehind
      rw [if_neg (by simp [h1]), if_neg]
      rintro ⟨a, b⟩
      rcases h2 with h2 | h2
      · exact h2 a
      · simp at b; omega
  rw [this]
  show some (0 + k) = some k
  rw [Nat.zero_add]
theorem more_ver {ts : List KT} {k : Nat} (h : Some' l r ts k) (e : l.drop k = 32 :: rest) (h4 : ts.length < 4) {many : Bool} {inn : List Nat} (hi : inn.length + (r + 1) = 3) :
    ver many ⟨.wanted, 0, 0 :: inn⟩ l = sh (k + 1) (ver many ⟨.wanted, 0, ts.length :: inn⟩ rest) := by
  have h0 : auStep many ⟨.behind, 0, ts.length :: inn⟩ 32 = some ⟨.wanted, 0, ts.length :: inn⟩ := by simp [auStep, auBehind, h4]
  rw [h.ver many inn hi, e, ver_some h0, sh_sh, Nat.add_comm]
theorem more_bad {ts : List KT} {k f : Nat} (h41 : ∀ c q, l = c :: q → c ≠ 41) (h : Some' l r ts k) (e : l.drop k = 32 :: rest) (h4 : ts.length < 4) (b : Bad rest r f) : PBad l r (k + 1 + f) := fun many inn hi => by
  rw [opened_is h41, more_ver h e h4 hi, b many _ (by simp; omega), sh_some, Nat.add_comm]
theorem more_good {ts : List KT} {k k2 : Nat} {t : KT} (h : Some' l r ts k) (e : l.drop k = 32 :: rest) (h4 : ts.length < 4) (g : Good rest r t k2) : Some' l r (ts ++ [t]) (k + 1 + k2) := by
  have lk : k < l.length := by
    rcases Nat.lt_or_ge k l.length with a | a
    · exact a
    · rw [List.drop_eq_nil_of_le a] at e; cases e
  have dr : l.drop (k + 1) = rest := drop_step e
  have ll : l = l.take k ++ 32 :: rest := by rw [← e, List.take_append_drop]
  have lt : (l.take k).length = k := by rw [List.length_take]; omega
  have rl : rest.length = l.length - (k + 1) := by rw [← dr, List.length_drop]
  refine ⟨by have := g.le; omega, ?_, ?_, by simp, by simp; omega, fun many inn hi => ?_⟩
  · rw [shownL_snoc ts t h.ne, ← h.tk, ← g.tk]
    have e2 : l.take (k + 1 + k2) = (l.take k ++ 32 :: rest).take ((l.take k).length + (k2 + 1)) := by rw [← ll, lt]; congr 1; omega
    rw [e2, List.take_length_add_append, List.take_succ_cons]
  · rw [fitsL_all, List.all_append, ← fitsL_all, h.fits]; simp [g.fits]
  · rw [more_ver h e h4 hi, g.ver many _ (by simp; omega), sh_sh]
    show sh (k2 + (k + 1)) (ver many ⟨.behind, 0, (ts.length + 1) :: inn⟩ (rest.drop k2)) = _
    rw [← dr, List.drop_drop, List.length_append, List.length_singleton]
    congr 1
    omega
end
end Tw
set_option Elab.async false
set_option linter.all false
set_option maxRecDepth 100000
set_option maxHeartbeats 4000000
namespace PySem
/-! ### the count of made things never falls -/
end PySem
set_option Elab.async false
set_option linter.all false
set_option maxRecDepth 100000
set_option maxHeartbeats 4000000
namespace PySem
open Builtin Builtin.Str
theorem glue_list (z : Str) : ∀ (r : List Str) (a : Array Nat), (r.foldl (fun acc p => acc ++ z.cps ++ p.cps) a).toList = a.toList ++ r.flatMap fun p => z.cps.toList ++ p.cps.toList
  | [], a => by simp
  | p :: r, a => by rw [List.foldl_cons, glue_list z r]; simp [List.append_assoc]
end PySem
namespace L2
open PySem PySem.Spec PyProof.Rows
/-- a reading where something was made before -/
def PEt (X : Cx) (e : Expr) (t : TE) : Prop := ∀ (pins : List (Addr × Obj)) (s : Shared) (σ : St) (H : Hp) (Q : VK), 0 < s.toks → Inv X pins σ H s → t σ H Q → wpAny (model X.prog X.w) X.A (eval e X.env) (EP X pins σ Q) X.xe s
theorem PE.t {X : Cx} {e : Expr} {t : TE} (h : PE X e t) : PEt X e t := fun pins s σ H Q _ I q => h pins s σ H Q I q
section
variable {X : Cx}
end
end L2
set_option Elab.async false
set_option linter.all false
set_option maxRecDepth 100000
set_option maxHeartbeats 4000000
namespace L2
open PySem PySem.Spec PyProof.Rows
section
variable {P : Program} {w : World} {K : PySem.W.Frag} {mg : Str → Option Value} {base : Heap}
end
section
variable {X : Cx} {k : Nat} {f : Addr} {fd : FuncData} {ps : List Str} {sp : Sp} {x : Str} {p pos : Pos} {e : Expr} {es : List Expr} {t : TA}
end
end L2
set_option Elab.async false
set_option linter.all false
set_option maxRecDepth 100000
set_option maxHeartbeats 8000000
namespace Tw
open PySem PySem.Spec L2
def top (i : Nat) : Stmt := PySem.Challenge.pw_twigmap_k17_many_read.main.body.getD i (.Pass ⟨0, 0, 0, 0⟩)
abbrev sSign : Stmt := top 8
abbrev sReadMany : Stmt := top 10
abbrev sKeyAt : Stmt := top 11
abbrev sNumberAt : Stmt := top 12
abbrev sTextAt : Stmt := top 13
abbrev sMeantAt : Stmt := top 14
abbrev sTupleAt : Stmt := top 15
abbrev sSignAt : Stmt := top 16
abbrev sFigure : Stmt := top 17
abbrev sWell : Stmt := top 19
abbrev sPull : Stmt := top 20
abbrev sGreat : Stmt := top 21
abbrev sText : Stmt := top 22
abbrev sKey : Stmt := top 23
abbrev sShown : Stmt := top 24
abbrev sBegun : Stmt := top 25
abbrev sWithin : Stmt := top 26
abbrev sStep : Stmt := top 27
abbrev sFails : Stmt := top 28
abbrev sOdd : Stmt := top 29
abbrev sSpoilt : Stmt := top 30
abbrev sFree : Stmt := top 31
abbrev sIsKey : Stmt := top 32
abbrev sTold : Stmt := top 33
abbrev sOne : Stmt := top 34
abbrev sLaw : Stmt := top 35

/-- what the module says of names -/
structure Txt (mg : Str → Option Value) : Prop where
  isi : mg "isinstance" = none
  bool : mg "bool" = none
  int : mg "int" = none
  str : mg "str" = none
  tuple : mg "tuple" = none
  list : mg "list" = none
  len : mg "len" = none
  all : mg "all" = none
  abs : mg "abs" = none
  max : mg "max" = none
  min : mg "min" = none
  range : mg "range" = none
  ValueError : mg "ValueError" = none
  figures : ∃ t, mg "MOST_FIGURES" = some (.int 60 t)
  signs : ∃ t, mg "MOST_SIGNS" = some (.int 40 t)
  things : ∃ t, mg "MOST_THINGS" = some (.int 4 t)
  deep : ∃ t, mg "MOST_DEEP" = some (.int 3 t)

section
variable {P : Program} {w : World} {K : PySem.W.Frag} {mg : Str → Option Value} {base : Heap} {f : Addr} {fd : FuncData}

/-! ### _law_pull -/
theorem scPull : FnScope ["_law_well_here", "_law_many", "_law_found", "_law_first", "_law_second"] ["_law_well_here", "_law_many"] (defScope sPull) := ⟨rfl, rfl, rfl, by decide +kernel, rfl, by decide +kernel, by decide +kernel⟩
theorem ok_pull (F : Fun K "_law_pull" "_law_pull" sPull f fd) : FnOk P w K mg base CX0 1 f fd ["_law_well_here", "_law_many"] spPull := by
  refine F.ok scPull (fun vs H Q E h => ?_) (fun cdv A outer s H vs Q E hr h => ?_)
  · obtain ⟨p, m, rfl, _⟩ := h
    rfl
  obtain ⟨p, m, rfl, W, ⟨hm, hlog⟩, k⟩ := h
  obtain ⟨a, b, c, d, hw, ha0, ha1, hc, hd⟩ := W.ex
  have nd := scPull.nd
  refine ⟨_, pss_cons (ps_if (pt_cmpR op_eq (pe_ix ix_list (pv 0) pe_int (fun _ _ => rfl)) pe_int (nomark _)) (pss_one (ps_ret pe_int)) pss_nil)
    (pss_cons (ps_asg (pe_op op_sub (pe_ix ix_list (pv 0) pe_int (fun _ _ => rfl)) pe_int) (pg_sub (pv 0) pe_int set_list))
    (pss_cons (ps_if (pt_cmpR op_gt (pe_ix ix_list (pv 0) pe_int (fun _ _ => rfl)) pe_int (nomark _))
      (pss_cons (ps_set (i := 2) nd rfl (Or.inl rfl) (pe_op op_mod (pe_ix ix_list (pv 0) pe_int (fun _ _ => rfl)) (pv 1)))
      (pss_cons (ps_asg (pe_op tw_fdiv (pe_ix ix_list (pv 0) pe_int (fun _ _ => rfl)) (pv 1)) (pg_sub (pv 0) pe_int set_list))
      (pss_one (ps_ret (pv 2))))) pss_nil)
    (pss_cons (ps_asg (pe_op op_add (pe_ix ix_list (pv 0) pe_int (fun _ _ => rfl)) pe_int) (pg_sub (pv 0) pe_int set_list))
    (pss_cons (ps_set (i := 3) nd rfl (Or.inl rfl) (pe_op op_mod (pe_op op_mul (pe_op op_add (pe_ix ix_list (pv 0) pe_int (fun _ _ => rfl)) pe_int) (pe_op op_add pe_int (pe_op op_mul pe_int (pe_ix ix_list (pv 0) pe_int (fun _ _ => rfl))))) pe_int))
    (pss_cons (ps_set (i := 4) nd rfl (Or.inl rfl) (pe_op op_mod (pe_op op_mul (pe_op op_add (pe_op op_fdiv (pv 3) pe_int) pe_int) (pe_op op_add (pe_op op_mod (pv 3) pe_int) pe_int)) pe_int))
    (pss_one (ps_ret (pe_op op_mod (pe_op op_fdiv (pv 4) pe_int) (pv 1))))))))), ?_⟩
  refine ⟨_, rfl, p, _, _, _, rfl, rfl, SqL.of hw, rfl, rfl, _, rfl, ?_⟩
  refine ite2 (fun _ => ?_) (fun c0 => ?_)
  · exact k 0 H (Int.le_refl 0) hm W (SameX.refl p H)
  have d0 : d ≠ 0 := fun e => c0 (decide_eq_true (by rw [e]))
  refine ⟨_, rfl, p, _, _, _, rfl, rfl, SqL.of hw, rfl, _, _, rfl, rfl, _, rfl, p, _, _, _, rfl, rfl, hw, rfl, ?_⟩
  refine ⟨_, rfl, p, _, _, _, rfl, rfl, SqL.of upd_same, rfl, _, _, rfl, rfl, _, rfl, ?_⟩
  refine ite2 (fun c1 => ?_) (fun c1 => ?_)
  · refine ⟨_, rfl, p, _, _, _, rfl, rfl, SqL.of upd_same, rfl, _, rfl, _, _, rfl, rfl, hm, ?_⟩
    refine ⟨_, rfl, p, _, _, _, rfl, rfl, SqL.of upd_same, rfl, _, rfl, _, _, rfl, rfl, ⟨hm, hlog⟩, _, rfl, p, _, _, _, rfl, rfl, upd_same, rfl, ?_⟩
    refine ⟨_, rfl, ?_⟩
    refine k (c % m) _ (Int.emod_nonneg _ (by omega)) (Int.emod_lt_of_pos _ hm) ⟨a, b, c / m, d - 1, upd_same, ha0, ha1, Int.ediv_nonneg hc (by omega), by omega⟩ (SameX.refl p H).upd.upd
  · refine ⟨_, rfl, p, _, _, _, rfl, rfl, SqL.of upd_same, rfl, _, _, rfl, rfl, _, rfl, p, _, _, _, rfl, rfl, upd_same, rfl, ?_⟩
    refine ⟨_, rfl, p, _, _, _, rfl, rfl, SqL.of upd_same, rfl, _, _, rfl, rfl, _, rfl, p, _, _, _, rfl, rfl, SqL.of upd_same, rfl, _, _, rfl, rfl, .inl ⟨by decide, by decide⟩, _, _, rfl, rfl, _, _, rfl, rfl, .inl ⟨by omega, by omega⟩, _, _, rfl, rfl, (by show (0 : Int) < 2147483629; decide), ?_⟩
    generalize hx : (a + 1) * (48271 + 7919 * (b + 1)) % 2147483629 = x
    have x0 : 0 ≤ x := by rw [← hx]; exact Int.emod_nonneg _ (by decide)
    have x1 : x < 2147483629 := by rw [← hx]; exact Int.emod_lt_of_pos _ (by decide)
    refine ⟨_, rfl, _, _, rfl, rfl, ⟨by decide, by decide⟩, _, _, rfl, rfl, _, rfl, _, _, rfl, rfl, (by show (0 : Int) < 1009; decide), _, _, rfl, rfl, _, _, rfl, rfl, .inl ⟨by omega, by omega⟩, _, _, rfl, rfl, (by show (0 : Int) < 1000000007; decide), ?_⟩
    refine ⟨_, rfl, _, _, rfl, rfl, ⟨by decide, by decide⟩, _, rfl, _, _, rfl, rfl, hm, ?_⟩
    exact k _ _ (Int.emod_nonneg _ (by omega)) (Int.emod_lt_of_pos _ hm) ⟨a, b + 1, c, d - 1, upd_same, ha0, ha1, hc, by omega⟩ (SameX.refl p H).upd.upd

/-! ### _law_great -/
theorem scGreat : FnScope ["_law_well_here", "_law_bound", "_law_found", "_law_j"] ["_law_well_here", "_law_bound"] (defScope sGreat) := ⟨rfl, rfl, rfl, by decide +kernel, rfl, by decide +kernel, by decide +kernel⟩
theorem ok_great (F : Fun K "_law_great" "_law_great" sGreat f fd) (T : Txt mg) (DP : DefOk P w K mg base 1 "_law_pull" ["_law_well_here", "_law_many"] spPull) : FnOk P w K mg base CX0 2 f fd ["_law_well_here", "_law_bound"] spPull := by
  refine F.ok scGreat (fun vs H Q E h => ?_) (fun cdv A outer s H vs Q E hr h => ?_)
  · obtain ⟨p, m, rfl, _⟩ := h
    rfl
  obtain ⟨p, m, rfl, W, hm, k⟩ := h
  obtain ⟨a, b, c, d, hw, _⟩ := W.ex
  have nd := scGreat.nd
  refine ⟨_, pss_cons (ps_if (pt_cmpR op_gt (pe_ix ix_list (pv 0) pe_int (fun _ _ => rfl)) pe_int (nomark _)) (pss_one (ps_ret (pe_def DP hr (pa_cons (pv 0) (pa_cons (pv 1) pa_nil))))) pss_nil)
    (pss_cons (ps_set (i := 2) nd rfl (Or.inl rfl) pe_int)
    (pss_cons (ps_for PassesOwn.never rfl (pi_range1 rfl T.range (pa_cons pe_int pa_nil)) (pg_name (i := 3) nd rfl (Or.inl rfl))
      (pss_one (ps_set (i := 2) nd rfl (Or.inl rfl) (pe_op op_add (pe_op op_mul (pv 2) pe_int) (pe_def DP hr (pa_cons (pv 0) (pa_cons pe_int pa_nil)))))))
    (pss_one (ps_ret (pe_op op_mod (pv 2) (pv 1)))))), ?_⟩
  refine ⟨_, rfl, p, _, _, _, rfl, rfl, SqL.of hw, rfl, _, _, rfl, rfl, _, rfl, ?_⟩
  refine ite2 (fun _ => ?_) (fun _ => ?_)
  · exact ⟨_, rfl, _, rfl, p, m, rfl, W, hm, k⟩
  refine ⟨8, rfl, by decide, by decide, for_range (n := 8) (fun i σ H2 => ∃ (z : Int) (j : Option V), σ = [some (.ref p), some (.int m), some (.int z), j] ∧ WellAt H2 p ∧ SameX p H H2) ⟨0, none, rfl, W, SameX.refl p H⟩ ?_ ?_⟩
  · rintro i σ H2 hi ⟨z, j, rfl, W2, s2⟩
    refine ⟨_, rfl, _, _, rfl, rfl, .inr ⟨by decide, by decide⟩, _, rfl, p, 62500000, rfl, W2, small_lit (by decide) (by decide), fun r H3 _ _ W3 s3 => ?_⟩
    exact ⟨_, _, rfl, rfl, _, _, rfl, W3, s2.trans s3⟩
  · rintro σ H2 ⟨z, j, rfl, W2, s2⟩
    refine ⟨_, rfl, _, rfl, _, _, rfl, rfl, hm.1, ?_⟩
    exact k _ _ (Int.emod_nonneg _ (by have := hm.1; omega)) (Int.emod_lt_of_pos _ hm.1) W2 s2
end
def signsS : Str := " \"\\~!#$&'()*+,-./0123456789:;<=>?@ABCDEFGHIJKLMNOPQRSTUVWXYZ[]^_`abcdefghijklmnopqrstuvwxyz{|}"
theorem signs_len : signsS.cps.toList.length = 94 := by decide +kernel
theorem signs_size : signsS.length = 94 := by decide +kernel
theorem signs_ok : signsS.cps.toList.all signOk = true := by decide +kernel
theorem sign_at {i : Int} (h0 : 0 ≤ i) (h1 : i < 94) : ∃ c, atI signsS.cps.toList i = some c ∧ signOk c = true := by
  obtain ⟨c, e, m⟩ := atI_in (xs := signsS.cps.toList) h0 (by rw [signs_len]; exact h1)
  exact ⟨c, e, List.all_eq_true.mp signs_ok c m⟩
/-- a text of at most i signs, all of them right -/
def TextN (x : Str) (i : Nat) : Prop := x.cps.size ≤ i ∧ x.cps.toList.all signOk = true
theorem TextN.ok {x : Str} {i : Nat} (h : TextN x i) (hi : i ≤ 40) : textOk x = true := by
  unfold textOk
  rw [Bool.and_eq_true]
  exact ⟨decide_eq_true (Nat.le_trans h.1 hi), h.2⟩
theorem TextN.more {x : Str} {i c : Nat} (h : TextN x i) (hc : signOk c = true) : TextN (x ++ (⟨#[c]⟩ : Str)) (i + 1) := by
  have e : (x ++ (⟨#[c]⟩ : Str)).cps = x.cps ++ #[c] := rfl
  refine ⟨?_, ?_⟩
  · rw [e, Array.size_append]; exact Nat.succ_le_succ h.1
  · rw [e, Array.toList_append, List.all_append, h.2]; simp [hc]

section
variable {P : Program} {w : World} {K : PySem.W.Frag} {mg : Str → Option Value} {base : Heap} {f : Addr} {fd : FuncData}
/-! ### _law_text -/
abbrev nText : List Str := ["_law_well_here", "_law_signs", "_law_text_here", "_law_few", "_law_j", "_law_sign"]
theorem scText : FnScope nText ["_law_well_here"] (defScope sText) := ⟨rfl, rfl, rfl, by decide +kernel, rfl, by decide +kernel, by decide +kernel⟩
theorem ok_text (F : Fun K "_law_text" "_law_text" sText f fd) (T : Txt mg) (DP : DefOk P w K mg base 1 "_law_pull" ["_law_well_here", "_law_many"] spPull) : FnOk P w K mg base CX0 2 f fd ["_law_well_here"] spText := by
  refine F.ok scText (fun vs H Q E h => ?_) (fun cdv A outer s H vs Q E hr h => ?_)
  · obtain ⟨p, rfl, _⟩ := h
    rfl
  obtain ⟨p, rfl, W, k⟩ := h
  have nd := scText.nd
  refine ⟨_, pss_cons (ps_set (i := 1) nd rfl (Or.inl rfl) pe_str) (pss_cons (ps_set (i := 2) nd rfl (Or.inl rfl) pe_str)
    (pss_cons (ps_set (i := 3) nd rfl (Or.inl rfl) (pe_def DP hr (pa_cons (pv 0) (pa_cons pe_int pa_nil))))
    (pss_cons (ps_for PassesOwn.never rfl (pi_range1 rfl T.range (pa_cons (pe_def DP hr (pa_cons (pv 0) (pa_cons (pe_ix ix_list (pe_lst (pa_cons pe_int (pa_cons pe_int pa_nil))) (pe_def DP hr (pa_cons (pv 0) (pa_cons pe_int pa_nil))) (fun _ _ => rfl)) pa_nil))) pa_nil)) (pg_name (i := 4) nd rfl (Or.inl rfl))
      (pss_cons (ps_set (i := 5) nd rfl (Or.inl rfl) pe_str)
      (pss_cons (ps_if (pw_or (pt_cmpR op_gt (pv 3) pe_int (nomark _)) (pw_or1 (pt_cmpR op_eq (pe_def DP hr (pa_cons (pv 0) (pa_cons pe_int pa_nil))) pe_int (nomark _)))).pt
        (pss_one (ps_set (i := 5) nd rfl (Or.inl rfl) (pe_ix ix_str (pv 1) (pe_def DP hr (pa_cons (pv 0) (pa_cons (pe_ix ix_list (pe_lst (pa_cons pe_int (pa_cons pe_int pa_nil))) (pe_op op_fdiv (pv 3) pe_int) (fun _ _ => rfl)) pa_nil))) (fun _ _ => rfl)))) pss_nil)
      (pss_one (ps_set (i := 2) nd rfl (Or.inl rfl) (pe_op op_add_str (pv 2) (pv 5)))))))
    (pss_one (ps_ret (pv 2)))))), ?_⟩
  refine ⟨_, rfl, p, 3, rfl, W, small_lit (by decide) (by decide), fun pl H1 pl0 pl1 W1 s1 => ?_⟩
  refine ⟨_, rfl, (by show 2 ≤ sizeLine; decide), fun l hl => ?_⟩
  have W1' : WellAt (upd H1 l (.lst [.int 4, .int 41])) p := W1.same (same_new hl _)
  refine ⟨_, rfl, p, 2, rfl, W1', small_lit (by decide) (by decide), fun r H2 r0 r1 W2 s2 => ?_⟩
  have npl : l ≠ p := by
    obtain ⟨xs, e⟩ := W1.some
    exact (ne_of_none e hl).symm
  have hl2 : H2 l = some (.lst [.int 4, .int 41]) := s2 l _ upd_same npl
  obtain ⟨v, hv, hv'⟩ := at2 (x := V.int 4) (y := V.int 41) r0 r1
  have hb : ∃ z : Int, v = .int z ∧ 0 < z ∧ z ≤ 41 := by
    rcases hv' with e | e
    · exact ⟨4, e, by decide, by decide⟩
    · exact ⟨41, e, by decide, by decide⟩
  obtain ⟨z, rfl, z0, z1⟩ := hb
  refine ⟨l, _, _, _, rfl, rfl, SqL.of hl2, hv, p, z, rfl, W2, small_lit z0 (by omega), fun n H3 n0 n1 W3 s3 => ?_⟩
  have sA : SameX p H H3 := (s1.trans (SameX.of (same_new hl _))).trans (s2.trans s3)
  refine ⟨n, rfl, by omega, by omega, for_range (n := n.toNat) (fun i σ H4 => ∃ (x : Str) (j g : Option V), σ = [some (.ref p), some (.str signsS), some (.str x), some (.int pl), j, g] ∧ TextN x i ∧ WellAt H4 p ∧ SameX p H H4)
    ⟨"", none, none, rfl, ⟨by decide, by decide⟩, W3, sA⟩ ?_ ?_⟩
  · rintro i σ H4 hi ⟨x, j, g, rfl, hx, W4, s4⟩
    have fin : ∀ (c : Nat) (H5 : Hp), signOk c = true → WellAt H5 p → SameX p H H5 → ∃ (y : Str) (j g : Option V), [some (V.ref p), some (.str signsS), some (.str (x ++ (⟨#[c]⟩ : Str))), some (.int pl), some (.int (0 + (i : Int))), some (.str ⟨#[c]⟩)] = [some (.ref p), some (.str signsS), some (.str y), some (.int pl), j, g] ∧ TextN y (i + 1) ∧ WellAt H5 p ∧ SameX p H H5 :=
      fun c H5 hc W5 s5 => ⟨_, _, _, rfl, hx.more hc, W5, s5⟩
    have hlen : ∀ c : Nat, x.length + (⟨#[c]⟩ : Str).length ≤ sizeLine := fun c => by
      have h1 : x.length ≤ i := hx.1
      have h2 : (⟨#[c]⟩ : Str).length = 1 := rfl
      rw [h2]
      exact nn (by omega)
    have yes : ∀ H5, WellAt H5 p → SameX p H H5 → ∃ (v : Int), 0 < v ∧ v ≤ 94 ∧ atI [V.int 94, V.int 5] (pl / 2) = some (.int v) := fun H5 _ _ => by
      obtain ⟨v, e, h⟩ := at2 (x := V.int 94) (y := V.int 5) (i := pl / 2) (by omega) (by omega)
      rcases h with rfl | rfl
      · exact ⟨94, by decide, by decide, e⟩
      · exact ⟨5, by decide, by decide, e⟩
    refine ⟨_, rfl, _, _, rfl, rfl, _, rfl, ?_⟩
    refine ite2 (fun _ => ?_) (fun _ => ?_)
    · refine iteT ?_
      refine ⟨_, rfl, _, rfl, (by show 2 ≤ sizeLine; decide), fun l2 hl2 => ?_⟩
      obtain ⟨v, v0, v1, ev⟩ := yes H4 W4 s4
      refine ⟨_, rfl, _, _, rfl, rfl, ⟨by decide, by decide⟩, l2, _, _, _, rfl, rfl, SqL.of upd_same, ev, p, v, rfl, W4.same (same_new hl2 _), small_lit v0 (by omega), fun u H5 u0 u1 W5 s5 => ?_⟩
      obtain ⟨c, ec, hc⟩ := sign_at u0 (by omega)
      refine ⟨signsS, _, c, rfl, rfl, (by rw [signs_size]; exact nn (by decide)), ec, ?_⟩
      exact ⟨_, rfl, _, rfl, _, _, rfl, rfl, hlen c, fin c H5 hc W5 ((s4.trans (SameX.of (same_new hl2 _))).trans s5)⟩
    · refine ⟨_, rfl, p, 8, rfl, W4, small_lit (by decide) (by decide), fun y H6 _ _ W6 s6 => ⟨rfl, _, rfl, ?_⟩⟩
      refine ite2 (fun _ => ?_) (fun _ => ?_)
      · refine ⟨_, rfl, _, rfl, (by show 2 ≤ sizeLine; decide), fun l2 hl2 => ?_⟩
        obtain ⟨v, v0, v1, ev⟩ := yes H6 W6 (s4.trans s6)
        refine ⟨_, rfl, _, _, rfl, rfl, ⟨by decide, by decide⟩, l2, _, _, _, rfl, rfl, SqL.of upd_same, ev, p, v, rfl, W6.same (same_new hl2 _), small_lit v0 (by omega), fun u H5 u0 u1 W5 s5 => ?_⟩
        obtain ⟨c, ec, hc⟩ := sign_at u0 (by omega)
        refine ⟨signsS, _, c, rfl, rfl, (by rw [signs_size]; exact nn (by decide)), ec, ?_⟩
        exact ⟨_, rfl, _, rfl, _, _, rfl, rfl, hlen c, fin c H5 hc W5 (((s4.trans s6).trans (SameX.of (same_new hl2 _))).trans s5)⟩
      · exact ⟨_, rfl, _, rfl, _, _, rfl, rfl, hlen 97, fin 97 H6 (by decide) W6 (s4.trans s6)⟩
  · rintro σ H4 ⟨x, j, g, rfl, hx, W4, s4⟩
    exact ⟨_, rfl, k x H4 (hx.ok (by omega)) W4 s4⟩

/-! ### _law_key -/
theorem scKey : FnScope ["_law_well_here", "_law_room", "_law_way"] ["_law_well_here", "_law_room"] (defScope sKey) := ⟨rfl, rfl, rfl, by decide +kernel, rfl, by decide +kernel, by decide +kernel⟩
theorem key_none {k : Nat} : FnOk P w K mg base CX0 k f fd ["_law_well_here", "_law_room"] (spKey 0) := by
  have no : ∀ vs H Q E, ¬ spKey 0 vs H Q E := fun vs H Q E h => by
    obtain ⟨p, r, _, _, h1, _⟩ := h
    omega
  exact ⟨fun vs H Q E h => absurd h (no vs H Q E), fun A outer s H args us vs Q E _ _ _ _ h => absurd h (no vs H Q E)⟩
theorem ok_key {n : Nat} (F : Fun K "_law_key" "_law_key" sKey f fd) (T : Txt mg) (DP : DefOk P w K mg base 1 "_law_pull" ["_law_well_here", "_law_many"] spPull) (DG : DefOk P w K mg base 2 "_law_great" ["_law_well_here", "_law_bound"] spPull)
    (DT : DefOk P w K mg base 2 "_law_text" ["_law_well_here"] spText) (DK : DefOk P w K mg base (n + 2) "_law_key" ["_law_well_here", "_law_room"] (spKey n)) : FnOk P w K mg base CX0 (n + 3) f fd ["_law_well_here", "_law_room"] (spKey (n + 1)) := by
  refine F.ok scKey (fun vs H Q E h => ?_) (fun cdv A outer s H vs Q E hr h => ?_)
  · obtain ⟨p, r, rfl, _⟩ := h
    rfl
  obtain ⟨p, r, rfl, W, hn, k⟩ := h
  have nd := scKey.nd
  have hr1 := hr.mono (show 1 ≤ n + 2 by omega)
  have hr2 := hr.mono (show 2 ≤ n + 2 by omega)
  refine ⟨_, pss_cons (ps_set (i := 2) nd rfl (Or.inl rfl) (pe_def DP hr1 (pa_cons (pv 0) (pa_cons pe_int pa_nil))))
    (pss_cons (ps_if (pt_cmpR op_lt (pv 2) pe_int (nomark _)) (pss_one (ps_ret (pe_op op_sub (pe_def DP hr1 (pa_cons (pv 0) (pa_cons pe_int pa_nil))) pe_int))) pss_nil)
    (pss_cons (ps_if (pt_cmpR op_eq (pv 2) pe_int (nomark _)) (pss_one (ps_ret (pe_op op_add (pe_op op_sub (pe_def DG hr2 (pa_cons (pv 0) (pa_cons (pe_op op_sub (pe_op op_mul pe_int (pe_op op_pow pe_int pe_int)) pe_int) pa_nil))) (pe_op op_pow pe_int pe_int)) pe_int))) pss_nil)
    (pss_cons (ps_if (pw_or (pt_cmpR op_lt (pv 2) pe_int (nomark _)) (pw_or1 (pt_cmpR op_eq (pv 1) pe_int (nomark _)))).pt (pss_one (ps_ret (pe_def DT hr2 (pa_cons (pv 0) pa_nil)))) pss_nil)
    (pss_one (ps_ret (pe_callTy call_tuple_of rfl T.tuple tb_tuple (pa_cons (pe_comp [0, 1] ["_law_well_here", "_law_room"] rfl (pi_range1 rfl T.range (pa_cons (pe_def DP hr1 (pa_cons (pv 0) (pa_cons pe_int pa_nil))) pa_nil)) (fun _ _ _ _ _ => pts_nil)
      (fun _ _ _ _ _ => pe_def DK hr (pa_cons (pv 1) (pa_cons (pe_op op_sub (pv 2) pe_int) pa_nil))) ⟨rfl, .inl rfl, rfl, rfl, .inl rfl, rfl, trivial⟩) pa_nil))))))), ?_⟩
  refine ⟨_, rfl, p, 8, rfl, W, small_lit (by decide) (by decide), fun y H1 y0 y1 W1 s1 => ?_⟩
  refine ⟨_, rfl, _, _, rfl, rfl, _, rfl, ?_⟩
  refine ite2 (fun _ => ?_) (fun c1 => ?_)
  · refine ⟨_, rfl, p, 41, rfl, W1, small_lit (by decide) (by decide), fun u H2 u0 u1 W2 s2 => ⟨_, _, rfl, rfl, ?_⟩⟩
    refine k (.int (u - 20)) (.int (u - 20)) H2 (KeyAt.int _) ?_ W2 (s1.trans s2)
    rw [KT.fits]
    have e : (10 : Nat) ^ 60 > 1000 := by decide
    exact decide_eq_true (by omega)
  refine ⟨_, rfl, rfl, _, rfl, ?_⟩
  refine ite2 (fun _ => ?_) (fun c2 => ?_)
  · refine ⟨_, rfl, _, _, rfl, rfl, ⟨by decide, by decide, by decide⟩, _, _, rfl, rfl, .inl ⟨by decide, by decide⟩, _, _, rfl, rfl, p, _, rfl, W1, small_lit (by decide +kernel) (by decide +kernel), fun u H2 u0 u1 W2 s2 => ?_⟩
    refine ⟨_, _, rfl, rfl, ⟨by decide, by decide, by decide⟩, _, _, rfl, rfl, _, _, rfl, rfl, ?_⟩
    refine k _ (.int _) H2 (KeyAt.int _) ?_ W2 (s1.trans s2)
    have e : ((10 : Int) ^ (60 : Int).toNat) = ((10 ^ 60 : Nat) : Int) := by decide +kernel
    rw [e] at u1
    rw [KT.fits, e]
    generalize (10 ^ 60 : Nat) = N at *
    exact decide_eq_true (by omega)
  have txt : spText ([.ref p] ++ []) H1 Q E0 := ⟨p, rfl, W1, fun x H2 hx W2 s2 => k (.str x) (.str x) H2 (KeyAt.str x) (by rw [KT.fits]; exact hx) W2 (s1.trans s2)⟩
  refine ⟨_, rfl, _, _, rfl, rfl, _, rfl, ?_⟩
  refine ite2 (fun _ => ?_) (fun _ => ?_)
  · exact iteT ⟨_, rfl, txt⟩
  refine ⟨_, rfl, rfl, _, rfl, ?_⟩
  refine ite2 (fun _ => ?_) (fun c3 => ?_)
  · exact ⟨_, rfl, txt⟩
  have r0 : r ≠ 0 := fun e => c3 (decide_eq_true (by rw [e]; rfl))
  refine ⟨_, rfl, p, 5, rfl, W1, small_lit (by decide) (by decide), fun u H2 u0 u1 W2 s2 => ⟨u, rfl, by omega, by omega, ?_⟩⟩
  have sB : SameX p H H2 := s1.trans s2
  refine comp_map (n := u.toNat) (fun i x => x = .int (0 + (i : Int))) (fun D i ys H3 => WellAt H3 p ∧ SameX p H H3 ∧ D ≠ p ∧ H D = none ∧ ∃ ts, KeysAt H3 ts ys ∧ ts.length = i ∧ fitsL ts (r - 1) = true) (small1000 (by omega))
    (fun D i ys H3 hi _ => hi) (fun D i ys H3 x H4 hi _ hy => hy) (fun D ys H3 _ => Nat.le_refl _) (fun D hD => ?_) (fun D i ys H3 x eD hl hi hx hP R hR => ?_) (fun D ys H3 eD hP => ?_)
  · have nD : D ≠ p := by
      obtain ⟨xs, e⟩ := W2.some
      exact (ne_of_none e hD).symm
    have nH : H D = none := by
      cases e : H D with
      | none => rfl
      | some o => rw [sB D o e nD] at hD; cases hD
    exact ⟨W2.same (same_new hD _), sB.trans (SameX.of (same_new hD _)), nD, nH, [], .nil, rfl, by rw [fitsL]⟩
  · obtain ⟨W3, s3, nD, nH, ts, hk, hlen, hf⟩ := hP
    have er : (r : Int) - 1 = ((r - 1 : Nat) : Int) := by omega
    refine ⟨_, rfl, _, rfl, _, _, rfl, rfl, p, r - 1, congrArg (fun z => [V.ref p, V.int z]) er, W3, by omega, fun v t H4 hv ht W4 s4 => ?_⟩
    have eD4 := s4 D _ eD nD
    have sD : SameX D H4 (upd H4 D (.lst (ys ++ [v]))) := (SameX.refl D H4).upd
    have tD : Tups H4 (upd H4 D (.lst (ys ++ [v]))) := sD.tups eD4
    refine hR v H4 eD4 ⟨W4.stay sD nD.symm, fun b o e n => ?_, nD, nH, ts ++ [t], ((KeysAt.mono (s4.tupsW W3) _ _ hk).append (.cons hv .nil)).mono tD _ _, by simp [hlen], ?_⟩
    · rw [upd_ne (ne_of_none e nH)]
      exact (s3.trans s4) b o e n
    · rw [fitsL_all] at hf ⊢
      rw [List.all_append, hf]
      simp [ht]
  · obtain ⟨W3, s3, nD, nH, ts, hk, hlen, hf⟩ := hP
    refine ⟨D, ys, rfl, .inl ⟨SqL.of eD, fun l hl => ?_⟩⟩
    have sl := same_new hl (.tup ys)
    refine k (.ref l) (.tup ts) _ (.tup upd_same (hk.mono (Same.tups sl) _ _)) ?_ (W3.same sl) (s3.trans (SameX.of sl))
    rw [KT.fits, hf, Bool.and_true, Bool.and_eq_true]
    exact ⟨decide_eq_true (by omega), decide_eq_true (by omega)⟩
end
section
variable {P : Program} {w : World} {K : PySem.W.Frag} {mg : Str → Option Value} {base : Heap} {f : Addr} {fd : FuncData}
/-! ### _law_well -/
abbrev nWell : List Str := ["_law_script", "_law_k", "_law_left", "_law_cell", "_law_digits"]
theorem scWell : FnScope nWell ["_law_script", "_law_k"] (defScope sWell) := ⟨rfl, rfl, rfl, by decide +kernel, rfl, by decide +kernel, by decide +kernel⟩
theorem ok_well (F : Fun K "_law_well" "_law_well" sWell f fd) (T : Txt mg) : FnOk P w K mg base CX0 1 f fd ["_law_script", "_law_k"] (spWell K) := by
  refine F.ok scWell (fun vs H Q E h => ?_) (fun cdv A outer s H vs Q E hr h => ?_)
  · obtain ⟨a, ns, k, rfl, _⟩ := h
    rfl
  obtain ⟨a, ns, k, rfl, hS, hn, k0, k1, q⟩ := h
  have nd := scWell.nd
  refine ⟨_, pss_cons (ps_set (i := 2) nd rfl (Or.inl rfl) (pe_ix ix_list (pe_lst (pa_cons pe_int (pa_cons pe_int pa_nil))) (pe_callTy call_int1 rfl T.int tb_int (pa_cons (pe_cmpR op_eq (pv 1) pe_int (nomark _)) pa_nil)) (fun _ _ => rfl)))
    (pss_cons (ps_set (i := 3) nd rfl (Or.inl rfl) (pe_ix ix_list (pe_op op_cat (pe_callTy call_list_of rfl T.list tb_list (pa_cons (pv 0) pa_nil)) (pe_lst (pa_cons pe_int pa_nil))) (pe_op op_mod (pv 1) (pe_callB (call_max2 rfl) rfl T.max tb_max (pa_cons pe_int (pa_cons (pe_callB call_len_seq rfl T.len tb_len (pa_cons (pv 0) pa_nil)) pa_nil)))) (fun _ _ => rfl)))
    (pss_cons (ps_set (i := 4) nd rfl (Or.inl rfl) (pe_op op_mul (pe_callB call_abs rfl T.abs tb_abs (pa_cons (pv 3) pa_nil)) (pe_callTy call_int1 rfl T.int tb_int (pa_cons (pe_and (pe_cmpR op_ge (pe_callB call_abs rfl T.abs tb_abs (pa_cons (pv 3) pa_nil)) (pe_op op_pow pe_int pe_int) (nomark _)) (pe_one (pe_cmpR op_lt (pv 1) (pe_callB call_len_seq rfl T.len tb_len (pa_cons (pv 0) pa_nil)) (nomark _)))) pa_nil))))
    (pss_one (ps_ret (pe_lst (pa_cons (pe_op op_mod (pv 3) pe_int) (pa_cons (pe_op op_mul pe_int (pv 1)) (pa_cons (pv 4) (pa_cons (pv 2) pa_nil))))))))), ?_⟩
  refine ⟨(by show 2 ≤ sizeLine; decide), fun l1 hl1 => ?_⟩
  have g1 := same_new hl1 (.lst [V.int 240, V.int 2400])
  refine ⟨_, rfl, rfl, .inr ⟨_, rfl, ?_⟩⟩
  obtain ⟨lv, elv, hlv⟩ : ∃ z : Int, atI [V.int 240, V.int 2400] (if decide (V.int k = V.int 0) = true then 1 else 0) = some (.int z) ∧ 0 ≤ z := by
    split
    · exact ⟨2400, rfl, by decide⟩
    · exact ⟨240, rfl, by decide⟩
  refine ⟨l1, _, _, _, rfl, rfl, SqL.of upd_same, elv, ?_⟩
  refine ⟨_, rfl, a, _, rfl, .inl (g1.seq hS), fun l2 hl2 => ?_⟩
  have g2 := g1.trans (same_new hl2 (.lst (ns.map V.int)))
  refine ⟨(by show 1 ≤ sizeLine; decide), fun l3 hl3 => ?_⟩
  have g3 := g2.trans (same_new hl3 (.lst [V.int 0]))
  have n23 : l2 ≠ l3 := ne_of_none upd_same hl3
  refine ⟨l2, l3, _, _, rfl, rfl, (by rw [upd_ne n23]; exact upd_same), upd_same, (by rw [List.length_map]; exact nn (by show ns.length + 1 ≤ 1000; omega)), fun l4 hl4 => ?_⟩
  have g4 := g3.trans (same_new hl4 (.lst (ns.map V.int ++ [V.int 0])))
  refine ⟨_, rfl, _, rfl, a, _, rfl, .inl (g4.seq hS), _, _, rfl, ?_⟩
  have hlm : (ns.map V.int).length = ns.length := List.length_map _
  generalize hM : (if (((ns.map V.int).length : Nat) : Int) > 1 then (((ns.map V.int).length : Nat) : Int) else 1) = M
  have M1 : 1 ≤ M ∧ M ≤ (ns.length : Int) + 1 := by
    rw [hlm] at hM
    rw [← hM]
    split <;> omega
  refine ⟨_, _, rfl, rfl, by omega, ?_⟩
  have i0 : 0 ≤ k % M := Int.emod_nonneg _ (by omega)
  have i1 : k % M < M := Int.emod_lt_of_pos _ (by omega)
  obtain ⟨cv, ecv, mcv⟩ := atI_in (xs := ns.map V.int ++ [V.int 0]) i0 (by rw [List.length_append, List.length_map, List.length_singleton]; omega)
  obtain ⟨cell, rfl⟩ : ∃ z : Int, cv = .int z := by
    rcases List.mem_append.mp mcv with m | m
    · obtain ⟨z, _, e⟩ := List.mem_map.mp m
      exact ⟨z, e.symm⟩
    · exact ⟨0, List.mem_singleton.mp m⟩
  refine ⟨l4, _, _, _, rfl, rfl, SqL.of upd_same, ecv, ?_⟩
  -- digits
  have dig : ∀ b : Bool, 0 ≤ (if cell < 0 then -cell else cell) * (if b = true then 1 else 0) := fun b => by
    cases b
    · simp
    · simp; split <;> omega
  have cm : ∀ (x : Int) (b : Bool), CMul x (if b = true then 1 else 0) := fun x b => .inr (by cases b <;> exact ⟨by decide, by decide⟩)
  have done : ∀ (z : Int) (H5 : Hp), 0 ≤ z → Same H H5 → ∀ l5, H5 l5 = none → Q (.ref l5) (upd H5 l5 (.lst [.int (cell % 2147483647), .int (1000 * k), .int z, .int lv])) := fun z H5 z0 s5 l5 hl5 =>
    q l5 _ (s5.free hl5) (s5.trans (same_new hl5 _)) ⟨_, _, _, _, upd_same, Int.emod_nonneg _ (by decide), Int.emod_lt_of_pos _ (by decide), z0, hlv⟩
  refine ⟨_, rfl, _, rfl, _, rfl, _, rfl, _, _, rfl, rfl, ⟨by decide, by decide, by decide⟩, _, _, rfl, rfl, _, rfl, ?_⟩
  refine ite2 (fun _ => ?_) (fun _ => ?_)
  · refine ⟨_, rfl, _, rfl, a, _, rfl, .inl (g4.seq hS), _, _, rfl, rfl, .inr ⟨_, rfl, _, _, rfl, rfl, cm _ _, ?_⟩⟩
    refine ⟨_, rfl, _, _, rfl, rfl, (by show (0 : Int) < 2147483647; decide), _, rfl, _, _, rfl, rfl, .inl ⟨by decide, by decide⟩, _, rfl, _, rfl, (by show 4 ≤ sizeLine; decide), fun l5 hl5 => ?_⟩
    exact done _ _ (dig _) g4 l5 hl5
  · refine .inr ⟨_, rfl, _, _, rfl, rfl, cm _ false, ?_⟩
    refine ⟨_, rfl, _, _, rfl, rfl, (by show (0 : Int) < 2147483647; decide), _, rfl, _, _, rfl, rfl, .inl ⟨by decide, by decide⟩, _, rfl, _, rfl, (by show 4 ≤ sizeLine; decide), fun l5 hl5 => ?_⟩
    exact done _ _ (dig false) g4 l5 hl5

end
/-- a def as the top has laid it -/
structure Laid (K : PySem.W.Frag) (mg : Str → Option Value) (x : Str) (st : Stmt) (ps : List Str) : Prop where
  ex : ∃ f fd, Fun K x x st f fd ∧ Binds K fd ps [] ∧ mg x = some (.ref f)
theorem Laid.of {P : Program} {w : World} {K : PySem.W.Frag} {mg : Str → Option Value} {base : Heap} {x : Str} {st : Stmt} {ps : List Str} {k : Nat} {sp : Sp} (L : Laid K mg x st ps) (h : ∀ f fd, Fun K x x st f fd → FnOk P w K mg base CX0 k f fd ps sp) : DefOk P w K mg base k x ps sp := by
  obtain ⟨f, fd, F, b, m⟩ := L.ex
  exact ⟨f, fd, h f fd F, b, F.kp, m⟩
theorem laid_mk {K : PySem.W.Frag} {h : Heap} {mg : Str → Option Value} {x : Str} {st : Stmt} {ps : List Str} {f : Addr} {od an : Option Addr} {sl : Array (Option Value)} {oc kV dc pm cd ct : Value} (X : K.In h) (G : h.Ns mainGlobals mg)
    (a : PySem.W.nsIn K mainGlobals x = some (some (.ref f))) (l : K.lookup f = some ⟨oc, od, .func (PySem.W.fnOf x x (defArgs st) (defBody st) (defScope st) .none kV dc pm an cd ct), sl⟩) (c : PySem.W.codeIn K cd x = true) (k : PySem.W.keepIn K (.ref f) = true)
    (hb : ∀ (kV doc pm : Value) (an : Option Addr) (cdv ct : Value) (us : List Value), us.length = ps.length → bindArgs (PySem.W.fnOf x x (defArgs st) (defBody st) (defScope st) .none kV doc pm an cdv ct) ⟨us, []⟩ = pure (ps.zip us)) : Laid K mg x st ps :=
  ⟨f, _, fun_mk (st := st) l c k, (fun_mk (st := st) l c k).binds hb, PySem.W.mg_of X G a⟩
section
variable {P : Program} {w : World} {K : PySem.W.Frag} {mg : Str → Option Value} {base : Heap}
theorem all_key (T : Txt mg) (L : Laid K mg "_law_key" sKey ["_law_well_here", "_law_room"]) (DP : DefOk P w K mg base 1 "_law_pull" ["_law_well_here", "_law_many"] spPull) (DG : DefOk P w K mg base 2 "_law_great" ["_law_well_here", "_law_bound"] spPull)
    (DT : DefOk P w K mg base 2 "_law_text" ["_law_well_here"] spText) : ∀ n : Nat, DefOk P w K mg base (n + 2) "_law_key" ["_law_well_here", "_law_room"] (spKey n)
  | 0 => L.of fun _ _ _ => key_none
  | n + 1 => L.of fun _ _ F => ok_key F T DP DG DT (all_key T L DP DG DT n)
end
end Tw
set_option Elab.async false
set_option linter.all false
set_option maxRecDepth 100000
set_option maxHeartbeats 4000000
namespace L2
open PySem PySem.Spec PyProof.Rows
section
variable {X : Cx}
theorem vals_strs : ∀ {ts : List Str} {us : List Value}, Vals (ts.map V.str) us → ∃ l : List (Str × Tok), us = strValues l ∧ l.map (·.1) = ts
  | [], _, h => by cases h; exact ⟨[], rfl, rfl⟩
  | t :: ts, u :: us, h => by
    cases h with
    | cons r hr =>
      obtain ⟨k, rfl⟩ := r
      obtain ⟨l, rfl, e⟩ := vals_strs hr
      exact ⟨(t, k) :: l, rfl, by rw [List.map_cons, e]⟩
/-- sep.join(xs) -/
def rJoin (K : PySem.W.Frag) : V → List V → Hp → VK → Prop := fun x xs H Q => ∃ sep p ts, x = .str sep ∧ xs = [.ref p] ∧ SqL K H p (ts.map V.str) ∧ (ts.map (·.length)).sum + ts.length * sep.length ≤ 16777216 ∧ Q (.str (Builtin.Str.glued sep ts)) H
theorem mt_join : MtR X "str.join" (rJoin X.K) := by
  intro pins s σ H x xs v us Q I rx rv h
  obtain ⟨sep, p, ts, rfl, rfl, hq, hz, q⟩ := h
  obtain ⟨t, rfl⟩ := rx
  obtain ⟨u, rfl, ru⟩ := vals1 rv
  cases ru
  obtain ⟨its, r, pl, _⟩ := I.list hq
  obtain ⟨l, rfl, e⟩ := vals_strs r
  have hl : Builtin.Str.tooLong ((l.map (·.1)).toArray.foldl (· + ·.length + sep.length) 0) = false := by
    rw [e, StrLaws.joinTotal]
    unfold Builtin.Str.tooLong sizeLine
    exact decide_eq_false (by omega)
  have gl : (Builtin.Str.glued sep ts).length ≤ sizeLine := by
    rw [PySem.size_glued, sizeLine_eq]
    have h1 : (ts.length - 1) * sep.length ≤ ts.length * sep.length := Nat.mul_le_mul_right _ (Nat.sub_le _ _)
    omega
  refine call_meets PySem.F.slot_str_join (typeIs_str _ _ _) PySem.F.entry_str_join (PySem.F.args_str_join_2 _ _) (PySem.meets_str_join_list sep t p l hl) ⟨pl.isList, ?_⟩
  match l, e with
  | [], e =>
    subst e
    exact ⟨gl, ⟨.str _, H, I.tok _, ⟨_, rfl⟩, q⟩⟩
  | [a], e =>
    subst e
    exact ⟨.str _, H, I, ⟨_, rfl⟩, q⟩
  | a :: b :: r, e =>
    subst e
    exact ⟨gl, ⟨.str _, H, I.tok _, ⟨_, rfl⟩, q⟩⟩
/-- int(text) -/
theorem call_int_text : CallR X (.type "int") (fun xs H Q => ∃ x n, xs = [.str x] ∧ PySem.intText? x = some n ∧ x.length ≤ 640 ∧ Q (.int n) H) := by
  intro pins s σ H xs us Q I r h
  obtain ⟨x, n, rfl, hn, hl, q⟩ := h
  obtain ⟨u, rfl, t, rfl⟩ := vals1 r
  exact PySem.W.KIN.call_text hn hl ⟨.int n, H, I.tok _, ⟨_, rfl⟩, q⟩
end
end L2
namespace Tw
open PySem PySem.Spec L2
theorem slice_nat (x : Str) {a b : Nat} (hab : a ≤ b) : (Txt.slice x (some (a : Int)) (some (b : Int))).cps.toList = (x.cps.toList.drop a).take (b - a) := by
  have e : (Builtin.Str.strSliceIndices (some (a : Int)) (some (b : Int)) 1 x.length) = Builtin.Str.strSliceIndices (some ((min a x.length : Nat) : Int)) (some ((min b x.length : Nat) : Int)) 1 x.length := by
    have h1 : ¬ ((a : Int) < 0) := by omega
    have h2 : ¬ ((b : Int) < 0) := by omega
    have h3 : ¬ (((min a x.length : Nat) : Int) < 0) := by omega
    have h4 : ¬ (((min b x.length : Nat) : Int) < 0) := by omega
    have e1 : max (0 : Int) (min (a : Int) (x.length : Int)) = max (0 : Int) (min ((min a x.length : Nat) : Int) (x.length : Int)) := by omega
    have e2 : max (0 : Int) (min (b : Int) (x.length : Int)) = max (0 : Int) (min ((min b x.length : Nat) : Int) (x.length : Int)) := by omega
    simp only [Builtin.Str.strSliceIndices, h1, h2, h3, h4, if_false, show ((1 : Int) > 0) = True from by simp, if_true, e1, e2]
  have p := StrLaws.sliced_plain x (a := min a x.length) (b := min b x.length) (by omega) (by omega)
  have hx : x.cps.toList.length = x.length := by simp [Str.length]
  have fin : (x.cps.toList.drop (min a x.length)).take (min b x.length - min a x.length) = (x.cps.toList.drop a).take (b - a) := by
    rcases Nat.lt_or_ge a x.length with h | h
    · rw [Nat.min_eq_left (Nat.le_of_lt h), List.take_eq_take_iff, List.length_drop, hx]
      omega
    · rw [Nat.min_eq_right h, Nat.min_eq_right (by omega), Nat.sub_self, List.take_zero, List.drop_eq_nil_of_le (by omega), List.take_nil]
  unfold Txt.slice
  split
  · rename_i h
    have hlen : (Builtin.Str.strSliceIndices (some (a : Int)) (some (b : Int)) 1 x.length).length = x.length := by simpa using h
    rw [e, StrLaws.strSliceIndices_plain (by omega) (by omega), List.length_map, List.length_range] at hlen
    rw [← fin]
    have h0 : min b x.length - min a x.length = x.length := hlen
    rcases Nat.eq_zero_or_pos x.length with z | z
    · have : x.cps.toList = [] := List.eq_nil_of_length_eq_zero (by omega)
      rw [this]; simp
    · have ha : min a x.length = 0 := by omega
      rw [h0, ha, List.drop_zero, List.take_of_length_le (by omega)]
  · rw [e, p, ← fin]
theorem slice_sg (x : Str) (i : Nat) : Txt.slice x (some (i : Int)) (some ((i : Int) + 1)) = sg x.cps.toList i := by
  apply PySem.Str.ext'
  have e := slice_nat x (a := i) (b := i + 1) (by omega)
  have e1 : ((i + 1 : Nat) : Int) = (i : Int) + 1 := by omega
  rw [e1, Nat.add_sub_cancel_left] at e
  have : (Txt.slice x (some (i : Int)) (some ((i : Int) + 1))).cps = ((x.cps.toList.drop i).take 1).toArray := by rw [← e]
  rw [this]
  unfold sg
  rw [List.take_one, List.head?_drop]
theorem num_reads' {i : Int} (h : i.natAbs < 10 ^ 60) {x : Str} (hx : x.cps.toList = numT i) : PySem.intText? x = some i ∧ x.length ≤ 640 := by
  have dg : ∀ m : Nat, PySem.NumText.AllDigits ((Nat.toDigits 10 m).map Char.toNat) := fun m c hc => by
    have := List.all_eq_true.mp (digs_all m) c hc
    unfold isDig at this
    rw [Bool.and_eq_true] at this
    exact ⟨of_decide_eq_true this.1, of_decide_eq_true this.2⟩
  have ne : ∀ m : Nat, (Nat.toDigits 10 m).map Char.toNat ≠ [] := fun m z => by
    have h2 := Nat.length_toDigits_pos (b := 10) (n := m)
    rw [List.map_eq_nil_iff.mp z] at h2
    simp at h2
  have hl0 : x.length = x.cps.toList.length := by simp [Str.length]
  rcases (show i < 0 ∨ 0 ≤ i by omega) with hi | hi
  · obtain ⟨m, rfl⟩ : ∃ m : Nat, i = -((m + 1 : Nat) : Int) := ⟨(-i).toNat - 1, by omega⟩
    rw [numT_neg] at hx
    have len := digs_len (m := m + 1) (k := 60) (by decide) (by omega)
    have lx : x.length ≤ 61 := by rw [hl0, hx, List.length_cons, List.length_map]; omega
    refine ⟨?_, by omega⟩
    rw [PySem.intText_neg hx (dg _) (ne _) (by omega), PySem.W.KIN.val_back]
  · obtain ⟨m, rfl⟩ := Int.eq_ofNat_of_zero_le hi
    have hx' : x.cps.toList = (Nat.toDigits 10 m).map Char.toNat := hx.trans (numT_nat m)
    have len := digs_len (m := m) (k := 60) (by decide) (by simpa using h)
    have lx : x.length ≤ 60 := by rw [hl0, hx', List.length_map]; omega
    refine ⟨?_, by omega⟩
    rw [PySem.intText_digits (by rw [hx']; exact dg _) (by rw [hx']; exact ne _) (by omega), hx', PySem.W.KIN.val_back]
end Tw
set_option Elab.async false
set_option linter.all false
set_option maxRecDepth 100000
set_option maxHeartbeats 8000000
namespace Tw
open PySem PySem.Spec L2
/-! ### the texts of keys -/
def lenB : Nat → Nat
  | 0 => 82
  | r + 1 => 4 * lenB r + 6
theorem lenB_ge (r : Nat) : 82 ≤ lenB r := by
  induction r with
  | zero => exact Nat.le_refl _
  | succ r ih => show 82 ≤ 4 * lenB r + 6; omega
theorem numT_len {i : Int} (h : i.natAbs < 10 ^ 60) : (numT i).length ≤ 61 := by
  rcases (show i < 0 ∨ 0 ≤ i by omega) with hi | hi
  · obtain ⟨m, rfl⟩ : ∃ m : Nat, i = -((m + 1 : Nat) : Int) := ⟨(-i).toNat - 1, by omega⟩
    rw [numT_neg]
    have len := digs_len (m := m + 1) (k := 60) (by decide) (by omega)
    rw [List.length_cons, List.length_map]; omega
  · obtain ⟨m, rfl⟩ := Int.eq_ofNat_of_zero_le hi
    have len := digs_len (m := m) (k := 60) (by decide) (by simpa using h)
    rw [numT_nat, List.length_map]; omega
theorem esc_len : ∀ l : List Nat, (l.flatMap esc).length ≤ 2 * l.length
  | [] => Nat.le_refl _
  | c :: l => by
    rw [List.flatMap_cons, List.length_append, List.length_cons]
    have := esc_len l
    rcases esc_cases c with ⟨e, _⟩ | ⟨e, _⟩ <;> rw [e] <;> simp only [List.length_cons, List.length_nil] <;> omega
mutual
theorem shown_len : ∀ (t : KT) (r : Nat), t.fits r = true → t.shown.length ≤ lenB r
  | .int i, r, h => by
    rw [KT.fits] at h
    have := numT_len (of_decide_eq_true h)
    have := lenB_ge r
    rw [KT.shown]; omega
  | .str x, r, h => by
    rw [KT.fits] at h
    have h1 := (text_of h).1
    have h2 := esc_len x.cps.toList
    have h3 : x.cps.toList.length = x.cps.size := by simp
    have := lenB_ge r
    rw [KT.shown, List.length_cons, List.length_append, List.length_singleton]
    omega
  | .tup l, 0, h => by rw [KT.fits] at h; simp at h
  | .tup l, r + 1, h => by
    rw [KT.fits, Bool.and_eq_true, Bool.and_eq_true] at h
    have l4 := of_decide_eq_true h.2.1
    have := shownL_len l r h.2.2
    rw [KT.shown, List.length_cons, List.length_append, List.length_singleton]
    show _ ≤ 4 * lenB r + 6
    have : l.length * (lenB r + 1) ≤ 4 * (lenB r + 1) := Nat.mul_le_mul_right _ l4
    omega
theorem shownL_len : ∀ (l : List KT) (r : Nat), fitsL l r = true → (shownL l).length + 1 ≤ l.length * (lenB r + 1) + 1
  | [], r, _ => by rw [shownL]; simp
  | t :: l, r, h => by
    rw [fitsL, Bool.and_eq_true] at h
    have h1 := shown_len t r h.1
    have h2 := shownR_len l r h.2
    rw [shownL, List.length_append, List.length_cons, Nat.succ_mul]
    omega
theorem shownR_len : ∀ (l : List KT) (r : Nat), fitsL l r = true → (shownR l).length ≤ l.length * (lenB r + 1)
  | [], r, _ => by rw [shownR]; simp
  | t :: l, r, h => by
    rw [fitsL, Bool.and_eq_true] at h
    have h1 := shown_len t r h.1
    have h2 := shownR_len l r h.2
    rw [shownR, List.length_cons, List.length_append, List.length_cons, Nat.succ_mul]
    omega
end
theorem shownL_eq (t : KT) (l : List KT) : shownL (t :: l) = t.shown ++ l.flatMap fun u => 32 :: u.shown := by rw [shownL, shownR_eq]
def shS (t : KT) : Str := ⟨t.shown.toArray⟩
theorem glued_shown (l : List KT) : Builtin.Str.glued (Str.ofString " ") (l.map shS) = ⟨(shownL l).toArray⟩ := by
  have sp : (Str.ofString " ").cps.toList = [32] := by decide +kernel
  apply PySem.Str.ext'
  cases l with
  | nil => rw [shownL]; rfl
  | cons t l =>
    rw [shownL_eq]
    have e := glue_list (Str.ofString " ") (l.map shS) (shS t).cps
    have e2 : ((l.map shS).flatMap fun p => (Str.ofString " ").cps.toList ++ p.cps.toList) = l.flatMap fun u => 32 :: u.shown := by
      rw [sp, List.flatMap_map]
      rfl
    rw [e2] at e
    show ((l.map shS).foldl (fun acc p => acc ++ (Str.ofString " ").cps ++ p.cps) (shS t).cps) = _
    have e3 : (shS t).cps.toList = t.shown := rfl
    rw [e3] at e
    rw [← e]
theorem str_eq {x : Str} {l : List Nat} (h : x.cps.toList = l) : x = ⟨l.toArray⟩ := by
  apply PySem.Str.ext'
  rw [← h]
theorem num_str (i : Int) : Str.ofString (toString i) = ⟨(numT i).toArray⟩ := str_eq (PyProof.Rows.signs_ofString _)
/-! ### the promises -/
def figS (y : Str) : Bool := (!decide (y.cps.toList < [48])) && !decide ([57] < y.cps.toList)
def sgnS (y : Str) : Bool := (!decide (y.cps.toList < [32])) && !decide ([126] < y.cps.toList)
theorem figS_one (c : Nat) : figS ⟨#[c]⟩ = isDig c := by
  unfold figS isDig
  have a : ([c] < [48]) ↔ c < 48 := by simp [List.cons_lt_cons_iff]
  have b : ([57] < [c]) ↔ 57 < c := by simp [List.cons_lt_cons_iff]
  rw [Bool.eq_iff_iff]
  simp only [Bool.and_eq_true, Bool.not_eq_true', decide_eq_false_iff_not, decide_eq_true_eq, a, b]
  omega
theorem figS_nil : figS ⟨#[]⟩ = false := by decide
def spFig : Sp := fun vs H Q _ => ∃ y : Str, vs = [.str y] ∧ Q (.bl (figS y)) H
def spSgn : Sp := fun vs H Q _ => ∃ y : Str, vs = [.str y] ∧ Q (.bl (sgnS y)) H
def spSignAt : Sp := fun vs H Q _ => ∃ (x : Str) (i : Nat), vs = [.str x, .int (i : Int)] ∧ x.length ≤ sizeLine ∧ Q (.str (sg x.cps.toList i)) H
def spShow (n : Nat) : Sp := fun vs H Q _ => ∃ (v : V) (t : KT) (r : Nat), vs = [v] ∧ KeyAt H t v ∧ t.fits r = true ∧ r < n ∧ n ≤ 5 ∧ ∀ H', Same H H' → Q (.str (shS t)) H'
section
variable {P : Program} {w : World} {K : PySem.W.Frag} {mg : Str → Option Value} {base : Heap} {f : Addr} {fd : FuncData}
theorem scSgn : FnScope ["sign"] ["sign"] (defScope sSign) := ⟨rfl, rfl, rfl, by decide +kernel, rfl, by decide +kernel, by decide +kernel⟩
theorem ok_sgn (F : Fun K "is_sign" "is_sign" sSign f fd) : FnOk P w K mg base CX0 1 f fd ["sign"] spSgn := by
  refine F.ok scSgn (fun vs H Q E h => ?_) (fun cdv A outer s H vs Q E hr h => ?_)
  · obtain ⟨c, rfl, _⟩ := h
    rfl
  obtain ⟨y, rfl, q⟩ := h
  refine ⟨_, pss_one (ps_ret (pe_chain tw_le_str tw_le_str pe_str (pv 0) pe_str)), ?_⟩
  have e1 : (Str.ofString " ").cps.toList = [32] := by decide +kernel
  have e2 : (Str.ofString "~").cps.toList = [126] := by decide +kernel
  unfold sgnS at q
  rw [← e1, ← e2] at q
  refine ⟨_, rfl, _, _, rfl, rfl, _, rfl, ?_⟩
  refine ite2 (fun h1 => ?_) (fun h1 => ?_)
  · refine ⟨_, _, rfl, rfl, ?_⟩
    rw [h1, Bool.true_and] at q
    exact q
  · rw [Bool.eq_false_iff.mpr h1, Bool.false_and] at q
    exact q
theorem scFig : FnScope ["sign"] ["sign"] (defScope sFigure) := ⟨rfl, rfl, rfl, by decide +kernel, rfl, by decide +kernel, by decide +kernel⟩
theorem ok_fig (F : Fun K "is_figure" "is_figure" sFigure f fd) : FnOk P w K mg base CX0 1 f fd ["sign"] spFig := by
  refine F.ok scFig (fun vs H Q E h => ?_) (fun cdv A outer s H vs Q E hr h => ?_)
  · obtain ⟨c, rfl, _⟩ := h
    rfl
  obtain ⟨y, rfl, q⟩ := h
  refine ⟨_, pss_one (ps_ret (pe_chain tw_le_str tw_le_str pe_str (pv 0) pe_str)), ?_⟩
  have e1 : (Str.ofString "0").cps.toList = [48] := by decide +kernel
  have e2 : (Str.ofString "9").cps.toList = [57] := by decide +kernel
  unfold figS at q
  rw [← e1, ← e2] at q
  refine ⟨_, rfl, _, _, rfl, rfl, _, rfl, ?_⟩
  refine ite2 (fun h1 => ?_) (fun h1 => ?_)
  · refine ⟨_, _, rfl, rfl, ?_⟩
    rw [h1, Bool.true_and] at q
    exact q
  · rw [Bool.eq_false_iff.mpr h1, Bool.false_and] at q
    exact q
theorem scSignAt : FnScope ["text", "at"] ["text", "at"] (defScope sSignAt) := ⟨rfl, rfl, rfl, by decide +kernel, rfl, by decide +kernel, by decide +kernel⟩
theorem ok_signat (F : Fun K "sign_at" "sign_at" sSignAt f fd) : FnOk P w K mg base CX0 1 f fd ["text", "at"] spSignAt := by
  refine F.ok scSignAt (fun vs H Q E h => ?_) (fun cdv A outer s H vs Q E hr h => ?_)
  · obtain ⟨x, i, rfl, _⟩ := h
    rfl
  obtain ⟨x, i, rfl, hl, q⟩ := h
  refine ⟨_, pss_one (ps_ret (pe_slice sl_str (pv 0) (po_some (pv 1)) (po_some (pe_op op_add (pv 1) pe_int)))), ?_⟩
  rw [← slice_sg] at q
  exact ⟨_, rfl, _, rfl, _, rfl, _, rfl, _, _, rfl, rfl, _, rfl, x, rfl, hl, q⟩
end
end Tw
set_option Elab.async false
set_option linter.all false
set_option maxRecDepth 100000
set_option maxHeartbeats 8000000
namespace L2
open PySem PySem.Spec
theorem for_str {x : Str} {g : TG} {tb : TS} {D : Ends} {σ : St} {H : Hp} (Pv : Nat → St → Hp → Prop) (h0 : Pv 0 σ H)
    (hs : ∀ i c σ H, x.cps.toList[i]? = some c → Pv i σ H → g (.str ⟨#[c]⟩) σ H fun σ2 H2 => tb { D with nx := Pv (i + 1), ct := Pv (i + 1), bk := D.nx } σ2 H2) (hd : ∀ σ H, Pv x.cps.size σ H → D.nx σ H) :
    ∃ W : Nat → Nat → St → Hp → Prop, (∃ m, W 0 m σ H) ∧ ∀ i m σ H, W i m σ H →
      ((Its x).stop i H ∧ D.nx σ H) ∨ ((Its x).go i H ∧ ∃ N : St → Hp → Prop, (∀ σ' H', N σ' H' → ∃ m', m' < m ∧ W (i + 1) m' σ' H') ∧ ∀ y H', (Its x).yld i H y H' → g y σ H' fun σ2 H2 => tb { D with nx := N, ct := N, bk := D.nx } σ2 H2) := by
  refine ⟨fun i m σ H => m = x.cps.size - i ∧ i ≤ x.cps.size ∧ Pv i σ H, ⟨x.cps.size, by simp, Nat.zero_le _, h0⟩, ?_⟩
  rintro i m σ H ⟨rfl, hi, p⟩
  by_cases hlt : i < x.cps.size
  · refine .inr ⟨hlt, Pv (i + 1), fun σ' H' p' => ⟨x.cps.size - (i + 1), by omega, rfl, hlt, p'⟩, fun y H' hy => ?_⟩
    obtain ⟨e, c, hc, rfl⟩ := hy
    subst e
    exact hs i c σ _ (by simpa using hc) p
  · have e : i = x.cps.size := by omega
    subst e
    exact .inl ⟨rfl, hd σ H p⟩
end L2
namespace Tw
open PySem PySem.Spec L2
theorem lenB_le {r : Nat} (h : r ≤ 4) : lenB r ≤ 22000 := by
  rcases (show r = 0 ∨ r = 1 ∨ r = 2 ∨ r = 3 ∨ r = 4 by omega) with rfl | rfl | rfl | rfl | rfl <;> decide
theorem few_log {i : Int} (h : i.natAbs < 10 ^ 60) : i.natAbs.log2 < 1920 := by
  by_cases z : i.natAbs = 0
  · rw [z]; decide
  · have : i.natAbs.log2 < 200 := (Nat.log2_lt z).mpr (Nat.lt_trans h (by decide +kernel))
    omega
theorem app_str (a b c : List Nat) : (⟨a.toArray⟩ : Str) ++ ⟨b.toArray⟩ ++ ⟨c.toArray⟩ = ⟨(a ++ (b ++ c)).toArray⟩ := by
  apply PySem.Str.ext'
  show a.toArray ++ b.toArray ++ c.toArray = _
  simp
theorem len_arr (l : List Nat) : (⟨l.toArray⟩ : Str).length = l.length := by simp [Str.length]
theorem lit_q : Str.ofString "\"" = ⟨[34].toArray⟩ := str_eq (by decide +kernel)
theorem lit_o : Str.ofString "(" = ⟨[40].toArray⟩ := str_eq (by decide +kernel)
theorem lit_c : Str.ofString ")" = ⟨[41].toArray⟩ := str_eq (by decide +kernel)
theorem shS_str (x : Str) : (Str.ofString "\"") ++ ⟨(x.cps.toList.flatMap esc).toArray⟩ ++ (Str.ofString "\"") = shS (.str x) := by
  rw [lit_q, app_str]
  unfold shS
  rw [KT.shown]
  rfl
theorem shS_tup (l : List KT) : (Str.ofString "(") ++ ⟨(shownL l).toArray⟩ ++ (Str.ofString ")") = shS (.tup l) := by
  rw [lit_o, lit_c, app_str]
  unfold shS
  rw [KT.shown]
  rfl
theorem shS_int (i : Int) : Str.ofString (toString i) = shS (.int i) := by
  rw [num_str]
  unfold shS
  rw [KT.shown]
theorem shS_len (t : KT) : (shS t).length = t.shown.length := len_arr _
theorem sum_le {ts : List KT} {B : Nat} (h : ∀ t ∈ ts, t.shown.length ≤ B) : ((ts.map shS).map (·.length)).sum ≤ ts.length * B := by
  induction ts with
  | nil => simp
  | cons t ts ih =>
    have h1 := h t List.mem_cons_self
    have h2 := ih fun u hu => h u (List.mem_cons_of_mem _ hu)
    rw [List.map_cons, List.map_cons, List.sum_cons, shS_len, List.length_cons, Nat.succ_mul]
    omega
section
variable {P : Program} {w : World} {K : PySem.W.Frag} {mg : Str → Option Value} {base : Heap} {f : Addr} {fd : FuncData}
theorem sp_noneS {sp : Sp} {k : Nat} {ps : List Str} (no : ∀ vs H Q E, ¬ sp vs H Q E) : FnOk P w K mg base CX0 k f fd ps sp :=
  ⟨fun vs H Q E h => absurd h (no vs H Q E), fun A outer s H args us vs Q E _ _ _ _ h => absurd h (no vs H Q E)⟩
end
end Tw
set_option Elab.async false
set_option linter.all false
set_option maxRecDepth 100000
set_option maxHeartbeats 8000000
namespace Tw
open PySem PySem.Spec L2
theorem lit_b : Str.ofString "\\" = ⟨#[92]⟩ := str_eq (by decide +kernel)
theorem lit_q1 : Str.ofString "\"" = ⟨#[34]⟩ := lit_q
theorem esc_step (l : List Nat) (c : Nat) : (⟨((l ++ [c]).flatMap esc).toArray⟩ : Str) = if c = 34 ∨ c = 92 then (⟨(l.flatMap esc).toArray⟩ : Str) ++ ⟨#[92]⟩ ++ ⟨#[c]⟩ else (⟨(l.flatMap esc).toArray⟩ : Str) ++ ⟨#[c]⟩ := by
  apply PySem.Str.ext'
  rw [List.flatMap_append]
  split
  · rename_i h
    have : [c].flatMap esc = [92, c] := by unfold esc; simp [h]
    rw [this]
    show _ = (l.flatMap esc).toArray ++ #[92] ++ #[c]
    simp
  · rename_i h
    have : [c].flatMap esc = [c] := by unfold esc; simp [h]
    rw [this]
    show _ = (l.flatMap esc).toArray ++ #[c]
    simp
section
variable {P : Program} {w : World} {K : PySem.W.Frag} {mg : Str → Option Value} {base : Heap} {f : Addr} {fd : FuncData}
/-! ### _law_shown -/
abbrev nShown : List Str := ["_law_key_here", "_law_text_here", "_law_sign"]
theorem scShown : FnScope nShown ["_law_key_here"] (defScope sShown) := ⟨rfl, rfl, rfl, by decide +kernel, rfl, by decide +kernel, by decide +kernel⟩
theorem ok_shown {n : Nat} (F : Fun K "_law_shown" "_law_shown" sShown f fd) (T : Txt mg) (DS : DefOk P w K mg base (n + 1) "_law_shown" ["_law_key_here"] (spShow n)) : FnOk P w K mg base CX0 (n + 2) f fd ["_law_key_here"] (spShow (n + 1)) := by
  refine F.ok scShown (fun vs H Q E h => ?_) (fun cdv A outer s H vs Q E hr h => ?_)
  · obtain ⟨v, t, r, rfl, _⟩ := h
    rfl
  obtain ⟨v, t, r, rfl, hv, hf, hn, h5, k⟩ := h
  have nd := scShown.nd
  have hr1 := hr.mono (show 1 ≤ n + 1 by omega)
  refine ⟨_, pss_cons (ps_if (pt_val (pe_callB tw_isinst rfl T.isi tb_isinstance (pa_cons (pv 0) (pa_cons (pe_bltn (v := .ty "tuple") rfl T.tuple tb_tuple rfl) pa_nil))))
      (pss_one (ps_ret (pe_op op_add_str (pe_op op_add_str pe_str (pe_bm PySem.F.plainAttrs_str PySem.F.slot_str_join PySem.F.type_str_join mt_join pe_str (pa_cons (pe_comp [] [] rfl (pi_tup (pv 0)) (fun _ _ _ _ _ => pts_nil) (fun _ _ _ _ _ => pe_def DS hr (pa_cons (pv 0) pa_nil)) trivial) pa_nil))) pe_str))) pss_nil)
    (pss_cons (ps_if (pt_val (pe_callB tw_isinst rfl T.isi tb_isinstance (pa_cons (pv 0) (pa_cons (pe_bltn (v := .ty "int") rfl T.int tb_int rfl) pa_nil)))) (pss_one (ps_ret (pe_callTy call_str_int rfl T.str tb_str (pa_cons (pv 0) pa_nil)))) pss_nil)
    (pss_cons (ps_set (i := 1) nd rfl (Or.inl rfl) pe_str)
    (pss_cons (ps_for PassesOwn.never rfl (pi_str (pv 0)) (pg_name (i := 2) nd rfl (Or.inl rfl))
      (pss_cons (ps_if (PW.pt (pw_or (pt_cmpR op_eq (pv 2) pe_str (nomark _)) (pw_or1 (pt_cmpR op_eq (pv 2) pe_str (nomark _))))) (pss_one (ps_set (i := 1) nd rfl (Or.inl rfl) (pe_op op_add_str (pv 1) pe_str))) pss_nil)
      (pss_one (ps_set (i := 1) nd rfl (Or.inl rfl) (pe_op op_add_str (pv 1) (pv 2))))))
    (pss_one (ps_ret (pe_op op_add_str (pe_op op_add_str pe_str (pv 1)) pe_str)))))), ?_⟩
  have k0 := k H (Same.refl H)
  have B := lenB_le (r := r) (by omega)
  have sl := shown_len t r hf
  cases t with
  | int i =>
    have ev : v = .int i := by rw [KeyAt] at hv; exact hv
    subst ev
    rw [KT.fits] at hf
    refine ⟨_, rfl, _, _, _, _, rfl, .int i, kit_it, _, rfl, iteF ?_⟩
    refine ⟨_, rfl, _, _, _, _, rfl, .int i, kit_ii, _, rfl, iteT ?_⟩
    refine ⟨_, rfl, i, rfl, few_log (of_decide_eq_true hf), ?_⟩
    rw [← shS_int] at k0
    exact k0
  | str x =>
    have ev : v = .str x := by rw [KeyAt] at hv; exact hv
    subst ev
    rw [KT.fits] at hf
    have hx : x.length ≤ 40 := (text_of hf).1
    have h3 : x.cps.toList.length = x.length := by simp [Str.length]
    refine ⟨_, rfl, _, _, _, _, rfl, .str x, kit_st, _, rfl, iteF ?_⟩
    refine ⟨_, rfl, _, _, _, _, rfl, .str x, kit_si, _, rfl, iteF ?_⟩
    refine ⟨_, rfl, x, rfl, for_str (x := x) (fun i σ H4 => ∃ j : Option V, σ = [some (.str x), some (.str ⟨((x.cps.toList.take i).flatMap esc).toArray⟩), j] ∧ H4 = H) ⟨none, ?_, rfl⟩ ?_ ?_⟩
    · have e : (⟨((x.cps.toList.take 0).flatMap esc).toArray⟩ : Str) = Str.ofString "" := rfl
      rw [e]
      rfl
    · rintro i c σ H4 hc ⟨j, rfl, rfl⟩
      have el := esc_len (x.cps.toList.take i)
      have tl : (x.cps.toList.take i).length ≤ 40 := by rw [List.length_take]; omega
      have st := esc_step (x.cps.toList.take i) c
      have tk : x.cps.toList.take (i + 1) = x.cps.toList.take i ++ [c] := by rw [List.take_add_one, hc]; rfl
      have one : (⟨#[c]⟩ : Str).length = 1 := rfl
      have oneb : (⟨#[92]⟩ : Str).length = 1 := rfl
      have e_yes : c = 34 ∨ c = 92 → (⟨((x.cps.toList.take i).flatMap esc).toArray⟩ : Str) ++ Str.ofString "\\" ++ ⟨#[c]⟩ = ⟨((x.cps.toList.take (i + 1)).flatMap esc).toArray⟩ := fun h => by
        rw [lit_b, tk, st, if_pos h]
      have e_no : ¬ (c = 34 ∨ c = 92) → (⟨((x.cps.toList.take i).flatMap esc).toArray⟩ : Str) ++ ⟨#[c]⟩ = ⟨((x.cps.toList.take (i + 1)).flatMap esc).toArray⟩ := fun h => by
        rw [tk, st, if_neg h]
      have lb : (Str.ofString "\\").length = 1 := by decide +kernel
      have fl : (⟨((x.cps.toList.take i).flatMap esc).toArray⟩ : Str).length ≤ 80 := by rw [len_arr]; omega
      have fl2 : ((⟨((x.cps.toList.take i).flatMap esc).toArray⟩ : Str) ++ Str.ofString "\\").length ≤ 81 := by rw [PySem.Str.length_append, lb]; omega
      generalize (⟨((x.cps.toList.take i).flatMap esc).toArray⟩ : Str) = y at *
      refine ⟨_, rfl, rfl, _, rfl, ?_⟩
      refine ite2 (fun c1 => ?_) (fun c1 => ?_)
      · have e1 : V.str ⟨#[c]⟩ = V.str (Str.ofString "\"") := of_decide_eq_true c1
        have c34 : c = 34 := by injection e1 with e1; rw [lit_q1] at e1; exact sg_str.mp e1
        refine iteT ?_
        refine ⟨_, rfl, _, _, rfl, rfl, nn (by omega), _, rfl, _, rfl, _, _, rfl, rfl, nn (by rw [one]; omega), some (.str ⟨#[c]⟩), ?_, rfl⟩
        exact congrArg (fun z => [some (V.str x), some (V.str z), some (V.str ⟨#[c]⟩)]) (e_yes (.inl c34))
      · have n34 : c ≠ 34 := fun z => c1 (decide_eq_true (by rw [lit_q1, z]))
        refine ⟨_, rfl, rfl, _, rfl, ?_⟩
        refine ite2 (fun c2 => ?_) (fun c2 => ?_)
        · have e1 : V.str ⟨#[c]⟩ = V.str (Str.ofString "\\") := of_decide_eq_true c2
          have c92 : c = 92 := by injection e1 with e1; rw [lit_b] at e1; exact sg_str.mp e1
          refine ⟨_, rfl, _, _, rfl, rfl, nn (by omega), _, rfl, _, rfl, _, _, rfl, rfl, nn (by rw [one]; omega), some (.str ⟨#[c]⟩), ?_, rfl⟩
          exact congrArg (fun z => [some (V.str x), some (V.str z), some (V.str ⟨#[c]⟩)]) (e_yes (.inr c92))
        · have n92 : c ≠ 92 := fun z => c2 (decide_eq_true (by rw [lit_b, z]))
          refine ⟨_, rfl, _, rfl, _, _, rfl, rfl, nn (by rw [one]; omega), some (.str ⟨#[c]⟩), ?_, rfl⟩
          exact congrArg (fun z => [some (V.str x), some (V.str z), some (V.str ⟨#[c]⟩)]) (e_no (fun z => z.elim n34 n92))
    · rintro σ H4 ⟨j, rfl, rfl⟩
      have et : x.cps.toList.take x.cps.size = x.cps.toList := List.take_of_length_le (by simp)
      have el := esc_len x.cps.toList
      rw [et]
      refine ⟨_, rfl, _, _, rfl, rfl, ?_, _, _, rfl, rfl, ?_, ?_⟩
      · rw [lit_q, len_arr, len_arr]; exact nn (by simp only [List.length_cons, List.length_nil]; omega)
      · rw [lit_q]
        show ((⟨[34].toArray⟩ : Str) ++ ⟨(x.cps.toList.flatMap esc).toArray⟩).length + _ ≤ _
        rw [PySem.Str.length_append, len_arr, len_arr]; exact nn (by simp only [List.length_cons, List.length_nil]; omega)
      · rw [← shS_str] at k0
        exact k0
  | tup l =>
    have hv' := hv
    rw [KeyAt] at hv'
    obtain ⟨a, vs, rfl, ea, hvs⟩ := hv'
    have hl := hvs.length
    rw [KT.fits, Bool.and_eq_true, Bool.and_eq_true] at hf
    obtain ⟨f0, f1, f2⟩ := hf
    have r0 := of_decide_eq_true f0
    have l4 := of_decide_eq_true f1
    have ty : TyOf K H (.ref a) (.type "tuple") := .tup ea
    have fl : ∀ t ∈ l, t.fits (r - 1) = true := fun t ht => by rw [fitsL_all] at f2; exact List.all_eq_true.mp f2 t ht
    have B1 := lenB_le (r := r - 1) (by omega)
    refine ⟨_, rfl, _, _, _, _, rfl, ty, kit_tt, _, rfl, iteT ?_⟩
    refine ⟨rfl, _, rfl, a, rfl, ⟨vs, SqT.of ea⟩, ?_⟩
    refine comp_map (n := vs.length) (fun i z => vs[i]? = some z) (fun D i ys H3 => Same H H3 ∧ H D = none ∧ ys = ((l.take i).map shS).map V.str) (small1000 (by omega))
      (fun D i ys H3 hi hP => ⟨vs, vs[i], SqT.of (hP.1 _ _ ea), by simp [hi]⟩) (fun D i ys H3 z H4 hi hP hy => ⟨hy.1, hy.2 vs (SqT.of (hP.1 _ _ ea))⟩) (fun D ys H3 hP => ⟨vs, SqT.of (hP.1 _ _ ea), Nat.le_refl _⟩)
      (fun D hD => ⟨same_new hD _, hD, rfl⟩) (fun D i ys H3 z eD hl' hi hz hP R hR => ?_) (fun D ys H3 eD hP => ?_)
    · obtain ⟨s3, nD, rfl⟩ := hP
      obtain ⟨t, et, kt⟩ := hvs.get hz
      refine ⟨_, rfl, z, t, r - 1, rfl, kt.mono (Same.tups s3) _ _, fl t (List.mem_of_getElem? et), by omega, by omega, fun H4 s4 => ?_⟩
      refine hR _ H4 (s4 D _ eD) ⟨fun b o e => by rw [upd_ne (ne_of_none e nD)]; exact s4 b o (s3 b o e), nD, ?_⟩
      rw [List.take_add_one, et]
      simp
    · obtain ⟨s3, nD, rfl⟩ := hP
      have et : l.take vs.length = l := List.take_of_length_le (by omega)
      rw [et] at eD
      have sm := sum_le (ts := l) (B := 22000) fun t ht => Nat.le_trans (shown_len t _ (fl t ht)) B1
      have sp1 : (Str.ofString " ").length = 1 := by decide +kernel
      have m4 : l.length * 22000 ≤ 4 * 22000 := Nat.mul_le_mul_right _ l4
      have kk := k H3 s3
      rw [← shS_tup, ← glued_shown] at kk
      have gl : (Builtin.Str.glued (Str.ofString " ") (l.map shS)).length + 2 ≤ 22000 := by
        rw [KT.shown, List.length_cons, List.length_append, List.length_singleton] at sl
        rw [glued_shown, len_arr]
        omega
      refine ⟨Str.ofString " ", D, l.map shS, rfl, rfl, SqL.of eD, by rw [List.length_map, sp1]; omega, _, _, rfl, rfl, ?_, _, _, rfl, rfl, ?_, kk⟩
      · rw [lit_o, len_arr, sizeLine_eq]; simp only [List.length_cons, List.length_nil]; omega
      · have la : (Str.ofString "(").length = 1 := by decide +kernel
        have lc : (Str.ofString ")").length = 1 := by decide +kernel
        show ((Str.ofString "(") ++ Builtin.Str.glued (Str.ofString " ") (l.map shS)).length + (Str.ofString ")").length ≤ _
        rw [PySem.Str.length_append, la, lc, sizeLine_eq]; omega
theorem all_shown (T : Txt mg) (L : Laid K mg "_law_shown" sShown ["_law_key_here"]) : ∀ n : Nat, DefOk P w K mg base (n + 1) "_law_shown" ["_law_key_here"] (spShow n)
  | 0 => L.of fun _ _ _ => sp_noneS fun vs H Q E h => by obtain ⟨v, t, r, _, _, _, h1, _⟩ := h; omega
  | n + 1 => L.of fun _ _ F => ok_shown F T (all_shown T L n)
end
end Tw
set_option Elab.async false
set_option linter.all false
set_option maxRecDepth 100000
set_option maxHeartbeats 8000000
namespace L2
open PySem PySem.Spec
/-! ### the written part's word on exception classes, in one truth -/
def xC (K : PySem.W.Frag) (C : Addr) : Bool :=
  (PySem.W.findIn K (.ref C) "__getattribute__" == some (some (.builtin "BaseException.__getattribute__"))) && ((PySem.W.findIn K (.ref C) "__getattr__" == some none) && ((PySem.W.mroIn K C (.type "BaseException") == some true) && ((PySem.W.mroIn K C (.type "object") == some true) &&
  ((PySem.W.findIn K (.ref C) "__class__" == some (some (.builtin "object.__class__"))) && ((PySem.W.specialIn K (.builtin "object.__class__") "__get__" == some (some (.builtin "getset_descriptor.__get__"))) && (PySem.W.takesIn K (.builtin "object.__class__") == some true))))))
theorem xC_of {K : PySem.W.Frag} {C : Addr} (h : xC K C = true) : ExcC K C := by
  unfold xC at h
  simp only [Bool.and_eq_true, beq_iff_eq] at h
  obtain ⟨a, b, c, d, e, f, g⟩ := h
  exact ⟨a, b, c, d, e, f, g⟩
def xF (K : PySem.W.Frag) (C fI : Addr) (f : Str) : Bool :=
  xC K C && (newV K C && ((PySem.W.findIn K (.ref C) "__init__" == some (some (.ref fI))) && (PySem.W.isFn K (.ref fI) && (PySem.W.keepIn K (.ref C) && ((PySem.W.findIn K (.ref C) "__setattr__" == some (some (.builtin "object.__setattr__"))) &&
  ((PySem.W.findIn K (.ref C) f == some none) && (PySem.W.hasDictIn K C && overV K C)))))))
theorem xF_of {K : PySem.W.Frag} {C fI : Addr} {f : Str} (h : xF K C fI f = true) : ExcF K C fI f := by
  unfold xF at h
  simp only [Bool.and_eq_true, beq_iff_eq] at h
  obtain ⟨a, b, c, d, e, f, g, i, j⟩ := h
  exact ⟨xC_of a, b, c, d, e, f, g, i, j⟩
/-- a class with a field, ready to be made -/
structure XCl (P : Program) (w : World) (K : PySem.W.Frag) (mg : Str → Option Value) (base : Heap) (x : Str) (C : Addr) (f : Str) : Prop where
  ex : ∃ fI fd, ExcF K C fI f ∧ FnOk P w K mg base CX0 1 fI fd ["self", f] (spInitX K C fI f) ∧ Binds K fd ["self", f] []
  at_ : mg x = some (.ref C)
def clsDef (st : Stmt) (i : Nat) : Stmt := match st with
  | .ClassDef _ _ _ b _ _ _ _ _ _ _ => b.getD i (.Pass ⟨0, 0, 0, 0⟩)
  | _ => .Pass ⟨0, 0, 0, 0⟩
end L2
namespace Tw
open PySem PySem.Spec L2
section
variable {P : Program} {w : World} {K : PySem.W.Frag} {mg : Str → Option Value} {base : Heap} {f : Addr} {fd : FuncData}
abbrev iNoText : Stmt := clsDef (top 2) 0
theorem sciNoText : FnScope ["self", "at"] ["self", "at"] (defScope iNoText) := ⟨rfl, rfl, rfl, by decide +kernel, rfl, by decide +kernel, by decide +kernel⟩
theorem ok_iNoText {C : Addr} (F : Fun K "__init__" "NoText.__init__" iNoText f fd) : FnOk P w K mg base CX0 1 f fd ["self", "at"] (spInitX K C f "at") := by
  refine F.ok sciNoText (fun vs H Q E h => (by obtain ⟨_, _, _, rfl, _⟩ := h; rfl)) (fun cdv A outer s H vs Q E hr h => ?_)
  obtain ⟨c, ea, y, rfl, e, k⟩ := h
  exact ⟨_, pss_one (ps_fldX (pv 0) (pv 1) rfl), ⟨_, rfl, _, rfl, gNew, ea, _, _, rfl, e, c, k⟩⟩
end
end Tw
set_option Elab.async false
set_option linter.all false
set_option maxRecDepth 100000
set_option maxHeartbeats 8000000
namespace Tw
open PySem PySem.Spec L2
/-- a def whose exceptions keep their field -/
structure DefD (P : Program) (w : World) (K : PySem.W.Frag) (mg : Str → Option Value) (base : Heap) (k : Nat) (x : Str) (ps : List Str) (sp : Sp) : Prop where
  ex : ∃ f fd, FnOk P w K mg base (CXd P w) k f fd ps sp ∧ Binds K fd ps [] ∧ PySem.W.keepIn K (.ref f) = true ∧ mg x = some (.ref f)
theorem Laid.ofD {P : Program} {w : World} {K : PySem.W.Frag} {mg : Str → Option Value} {base : Heap} {x : Str} {st : Stmt} {ps : List Str} {k : Nat} {sp : Sp} (L : Laid K mg x st ps) (h : ∀ f fd, Fun K x x st f fd → FnOk P w K mg base (CXd P w) k f fd ps sp) : DefD P w K mg base k x ps sp := by
  obtain ⟨f, fd, F, b, m⟩ := L.ex
  exact ⟨f, fd, h f fd F, b, F.kp, m⟩
theorem pe_defD {X : Cx} {E : XK} {k : Nat} {x : Str} {ps : List Str} {sp : Sp} {e : Expr} {es : List Expr} {t : TA} {p pos : Pos} (F : FnD X E) (D : DefD X.prog X.w X.K X.mg X.base k x ps sp) (hr : Room k X.A) (ha : PA X (e :: es) t) (hg : Gl X x := by rfl)
    (hdb : (x == ("__debug__" : Str)) = false := by decide) (he : starEach (e :: es) X.env = (false, eval e X.env) :: starEach es X.env := by rfl) (hpl : (backTo pos (starEach es X.env)).any (·.1) = false := by rfl) :
    PE X (.Call (.Name x p) (e :: es) [] pos) (tCall sp [] E t) := by
  obtain ⟨f, fd, FF, b, kp, m⟩ := D.ex
  exact pe_call FF hr hg m kp b .nil (passes_d F fun _ _ _ h => h) ha hdb he hpl
/-- NoText, ready to be raised -/
structure NT (P : Program) (w : World) (K : PySem.W.Frag) (mg : Str → Option Value) (base : Heap) (C : Addr) : Prop where
  cl : XCl P w K mg base "NoText" C "at"
  ty : PySem.W.typeIn K (.ref C) = some (.type "type")
theorem ps_noText {X : Cx} {E : XK} {C : Addr} {e : Expr} {es : List Expr} {t : TA} {p cpos pos : Pos} (F : FnD X E) (N : NT X.prog X.w X.K X.mg X.base C) (hr : Room 2 X.A) (ha : PA X (e :: es) t) (hg : Gl X "NoText" := by rfl)
    (he : starEach (e :: es) X.env = (false, eval e X.env) :: starEach es X.env := by rfl) (hpl : (backTo cpos (starEach es X.env)).any (·.1) = false := by rfl) : PS X (.Raise (some (.Call (.Name "NoText" p) (e :: es) [] cpos)) none pos) (sRaiseX C "at" E t) := by
  obtain ⟨fI, fd, c, G, b⟩ := N.cl.ex
  exact ps_raiseX F c N.ty G hr hg N.cl.at_ b ha (by decide) he hpl
/-- refused at a place -/
def Rf (C : Addr) (at_ : Nat) (E : XK) (H : Hp) : Prop := ∀ dx H', Same H H' → H' dx = some (.xd [("at", .int (at_ : Int))]) → E (.ref C) (some dx) H'
theorem Rf.go {C : Addr} {a : Nat} {E : XK} {H H1 : Hp} (r : Rf C a E H) (s : Same H H1) {dx : Addr} (h : H1 dx = none) : E (.ref C) (some dx) (upd H1 dx (.xd [("at", .int (a : Int))])) := r dx _ (s.trans (same_new h _)) upd_same
theorem Rf.mono {C : Addr} {a : Nat} {E : XK} {H H1 : Hp} (r : Rf C a E H) (s : Same H H1) : Rf C a E H1 := fun dx H' s' e => r dx H' (s.trans s') e
theorem sgnS_one (c : Nat) : sgnS ⟨#[c]⟩ = signOk c := signs_le c
theorem sgnS_nil : sgnS ⟨#[]⟩ = false := by decide
theorem lit_0 : Str.ofString "0" = ⟨#[48]⟩ := str_eq (by decide +kernel)
theorem lit_m : Str.ofString "-" = ⟨#[45]⟩ := str_eq (by decide +kernel)
theorem lit_sp : Str.ofString " " = ⟨#[32]⟩ := str_eq (by decide +kernel)
theorem lit_cl : Str.ofString ")" = ⟨#[41]⟩ := str_eq (by decide +kernel)
theorem lit_op : Str.ofString "(" = ⟨#[40]⟩ := str_eq (by decide +kernel)
theorem vstr {c d : Nat} : (V.str ⟨#[c]⟩ = V.str ⟨#[d]⟩) ↔ c = d := ⟨fun h => by injection h with h; exact sg_str.mp h, fun h => by rw [h]⟩
theorem vnil {d : Nat} : V.str ⟨#[]⟩ ≠ V.str ⟨#[d]⟩ := fun h => by injection h with h; injection h with h; cases h
/-- the sign at a place is c, or there is none -/
theorem sg_cases (T : List Nat) (i : Nat) : (T.drop i = [] ∧ sg T i = ⟨#[]⟩) ∨ ∃ c r, T.drop i = c :: r ∧ sg T i = ⟨#[c]⟩ ∧ T.drop (i + 1) = r ∧ T[i]? = some c := by
  cases h : T.drop i with
  | nil => exact .inl ⟨rfl, sg_none (drop_none h)⟩
  | cons c r => exact .inr ⟨c, r, rfl, sg_some (drop_get h), drop_step h, drop_get h⟩
/-- the sign at a place held against one sign -/
def isC' (T : List Nat) (i d : Nat) : Bool := decide (V.str (sg T i) = V.str ⟨#[d]⟩)
theorem isC_iff {T : List Nat} {i d : Nat} : isC' T i d = true ↔ ∃ r, T.drop i = d :: r := by
  unfold isC'
  rw [decide_eq_true_eq]
  rcases sg_cases T i with ⟨e, h⟩ | ⟨c, r, e, h, _⟩
  · rw [h, e]
    exact ⟨fun z => absurd z vnil, fun ⟨r, z⟩ => by cases z⟩
  · rw [h, e, vstr]
    exact ⟨fun z => ⟨r, by rw [z]⟩, fun ⟨r, z⟩ => by injection z⟩
theorem isC_no {T : List Nat} {i d : Nat} (h : isC' T i d = false) : ∀ c q, T.drop i = c :: q → c ≠ d := fun c q e z => by
  have : isC' T i d = true := isC_iff.mpr ⟨q, by rw [e, z]⟩
  rw [h] at this
  cases this
def spMeant (C : Addr) : Sp := fun vs H Q E => ∃ (x : Str) (i n : Nat), vs = [.str x, .int (i : Int)] ∧ x.length ≤ sizeLine ∧ n < 40 ∧ (∀ c q, x.cps.toList.drop i = c :: q → c ≠ 34) ∧
  (∀ c rest H', Same H H' → x.cps.toList.drop i = esc c ++ rest → signOk c = true → Q (.int ((i + (esc c).length - 1 : Nat) : Int)) H') ∧
  (∀ g, (∀ many inn, ver many ⟨.text, n, inn⟩ (x.cps.toList.drop i) = some g) → Rf C (i + g) E H)
section
variable {P : Program} {w : World} {K : PySem.W.Frag} {mg : Str → Option Value} {base : Heap} {f : Addr} {fd : FuncData} {C : Addr}
theorem scMeant : FnScope ["text", "at", "sign"] ["text", "at"] (defScope sMeantAt) := ⟨rfl, rfl, rfl, by decide +kernel, rfl, by decide +kernel, by decide +kernel⟩
theorem ok_meant (F : Fun K "meant_at" "meant_at" sMeantAt f fd) (N : NT P w K mg base C) (DA : DefOk P w K mg base 1 "sign_at" ["text", "at"] spSignAt) (DG : DefOk P w K mg base 1 "is_sign" ["sign"] spSgn) : FnOk P w K mg base (CXd P w) 3 f fd ["text", "at"] (spMeant C) := by
  refine F.okD scMeant (fun vs H Q E h => ?_) (fun cdv A outer s H vs Q E hr h => ?_)
  · obtain ⟨x, i, n, rfl, _⟩ := h
    rfl
  obtain ⟨x, i, n, rfl, hl, hn, h34, k, b⟩ := h
  have nd := scMeant.nd
  have hr1 := hr.mono (show 1 ≤ 2 by decide)
  refine ⟨_, pss_cons (ps_set (i := 2) nd rfl (Or.inl rfl) (pe_def DA hr1 (pa_c (pv 0) (pa_c (pv 1) pa_nil))))
    (pss_cons (ps_if (pt_cmpR op_eq (pv 2) pe_str (nomark _))
      (pss_cons (ps_if (pt_cmpR op_notIn_seq (pe_def DA hr1 (pa_c (pv 0) (pa_c (pe_op op_add (pv 1) pe_int) pa_nil))) (pe_tup (pa_c pe_str (pa_c pe_str pa_nil))) rfl) (pss_one (ps_noText fnd_of N hr (pa_c (pe_op op_add (pv 1) pe_int) pa_nil))) pss_nil)
      (pss_one (ps_ret (pe_op op_add (pv 1) pe_int)))) pss_nil)
    (pss_cons (ps_if (pt_not (pt_val (pe_def DG hr1 (pa_c (pv 2) pa_nil)))) (pss_one (ps_noText fnd_of N hr (pa_c (pv 1) pa_nil))) pss_nil)
    (pss_one (ps_ret (pv 1))))), ?_⟩
  refine ⟨_, rfl, _, rfl, x, i, rfl, hl, ?_⟩
  refine ⟨_, rfl, rfl, _, rfl, ?_⟩
  rw [lit_b]
  have ei : (i : Int) + 1 = ((i + 1 : Nat) : Int) := by omega
  cases c92 : isC' x.cps.toList i 92 with
  | true =>
    obtain ⟨r, hd⟩ := isC_iff.mp c92
    have hd1 := drop_step hd
    refine ite2 (fun _ => ?_) (fun z => absurd c92 z)
    refine ⟨_, rfl, _, rfl, _, _, rfl, rfl, x, i + 1, congrArg (fun z => [V.str x, V.int z]) ei, hl, ?_⟩
    refine ⟨(by show 2 ≤ sizeLine; decide), fun p hp => ⟨p, _, rfl, .inr (SqT.of upd_same), rfl, rfl, _, rfl, ?_⟩⟩
    have g1 := same_new hp (.tup [.str (Str.ofString "\""), .str ⟨#[92]⟩])
    have inn : inV (.str (sg x.cps.toList (i + 1))) [.str (Str.ofString "\""), .str ⟨#[92]⟩] = (isC' x.cps.toList (i + 1) 34 || isC' x.cps.toList (i + 1) 92) := by
      rw [lit_q1]
      unfold isC'
      rw [Bool.eq_iff_iff]
      simp only [inV, eqV, List.any_cons, List.any_nil, Bool.or_false, Bool.or_eq_true, beq_iff_eq, decide_eq_true_eq, V.str.injEq]
      exact ⟨fun z => z.imp Eq.symm Eq.symm, fun z => z.imp Eq.symm Eq.symm⟩
    rw [if_pos rfl, inn]
    have fail : (∀ c q, r = c :: q → c ≠ 34 ∧ c ≠ 92) → Rf C (i + 1) E H := fun hno => b 1 fun many inn => ver_noFree hn hd hno
    have good : ∀ c q, r = c :: q → (c = 34 ∨ c = 92) → Q (.int ((i + 1 : Nat) : Int)) (upd H p (.tup [.str (Str.ofString "\""), .str ⟨#[92]⟩])) := fun c q e hc => by
      have es : esc c = [92, c] := by unfold esc; rw [if_pos hc]
      have so : signOk c = true := by rcases hc with rfl | rfl <;> decide
      have := k c q _ g1 (by rw [hd, e, es]; rfl) so
      rw [es] at this
      exact this
    cases c34 : isC' x.cps.toList (i + 1) 34 with
    | true =>
      obtain ⟨q, e⟩ := isC_iff.mp c34
      rw [hd1] at e
      refine iteF ⟨_, rfl, _, _, rfl, rfl, ?_⟩
      exact good 34 q e (.inl rfl)
    | false =>
      cases d92 : isC' x.cps.toList (i + 1) 92 with
      | true =>
        obtain ⟨q, e⟩ := isC_iff.mp d92
        rw [hd1] at e
        refine iteF ⟨_, rfl, _, _, rfl, rfl, ?_⟩
        exact good 92 q e (.inr rfl)
      | false =>
        refine iteT ⟨_, rfl, _, _, rfl, rfl, _, rfl, fun dx hdx => ?_⟩
        have a1 := isC_no c34
        have a2 := isC_no d92
        rw [hd1] at a1 a2
        exact (fail fun c q e => ⟨a1 c q e, a2 c q e⟩).go g1 hdx
  | false =>
    refine ite2 (fun z => ?_) (fun _ => ?_)
    · exact absurd (show isC' x.cps.toList i 92 = true from z) (by rw [c92]; exact Bool.false_ne_true)
    refine ⟨_, rfl, _, rfl, _, rfl, ?_⟩
    have n92 := isC_no c92
    rcases sg_cases x.cps.toList i with ⟨e, es⟩ | ⟨c, r, e, es, _⟩
    · rw [es, sgnS_nil]
      refine iteT ⟨_, rfl, _, rfl, fun dx hdx => ?_⟩
      exact (b 0 fun many inn => ver_noSign fun c q z => by rw [e] at z; cases z).go (Same.refl H) hdx
    · rw [es, sgnS_one]
      cases so : signOk c with
      | true =>
        refine iteF ⟨_, rfl, ?_⟩
        have ec : esc c = [c] := by
          unfold esc
          rw [if_neg]
          rintro (z | z)
          · exact h34 c r e z
          · exact n92 c r e z
        have := k c r H (Same.refl H) (by rw [e, ec]; rfl) so
        rw [ec] at this
        exact this
      | false =>
        refine iteT ⟨_, rfl, _, rfl, fun dx hdx => ?_⟩
        refine (b 0 fun many inn => ver_noSign fun c' q z => ?_).go (Same.refl H) hdx
        rw [e] at z
        injection z with z1 z2
        rw [← z1]
        exact ⟨h34 c r e, so⟩
end
end Tw
set_option Elab.async false
set_option linter.all false
set_option maxRecDepth 100000
set_option maxHeartbeats 8000000
namespace Tw
open PySem PySem.Spec L2
theorem digs_seg {T rest : List Nat} {a e c : Nat} (hd : T.drop a = c :: rest) (h : ∀ j, a ≤ j → j < e → ∃ d, T[j]? = some d ∧ isDig d = true) (hlt : a < e) : ∃ q, T.drop a = c :: (q ++ T.drop e) ∧ q.length = e - a - 1 ∧ ∀ d ∈ q, isDig d = true := by
  have dr : T.drop (a + 1) = rest := drop_step hd
  obtain ⟨d, g, _⟩ := h (e - 1) (by omega) (by omega)
  have lt := (List.getElem?_eq_some_iff.mp g).1
  have rl : rest.length = T.length - (a + 1) := by rw [← dr, List.length_drop]
  refine ⟨rest.take (e - a - 1), ?_, by rw [List.length_take]; omega, fun d' hd' => ?_⟩
  · have e1 : T.drop e = rest.drop (e - a - 1) := by rw [← dr, List.drop_drop]; congr 1; omega
    rw [hd, e1, List.take_append_drop]
  · obtain ⟨j, hj, rfl⟩ := List.mem_iff_getElem.mp hd'
    rw [List.length_take] at hj
    obtain ⟨d2, g2, i2⟩ := h (a + 1 + j) (by omega) (by omega)
    have e2 : rest[j]? = some d2 := by rw [← dr, List.getElem?_drop]; exact g2
    have e3 := (List.getElem?_eq_some_iff.mp e2).2
    rw [List.getElem_take, e3]
    exact i2
def spNum (C : Addr) : Sp := fun vs H Q E => ∃ (x : Str) (i r : Nat), vs = [.str x, .int (i : Int)] ∧ x.length ≤ sizeLine ∧ (∀ c q, x.cps.toList.drop i = c :: q → c ≠ 34 ∧ (c = 40 → r = 0)) ∧
  (∀ n k p H', Same H H' → Good (x.cps.toList.drop i) r (.int n) k → H' p = some (.tup [.int n, .int ((i + k : Nat) : Int)]) → Q (.ref p) H') ∧ (∀ g, Bad (x.cps.toList.drop i) r g → Rf C (i + g) E H)
section
variable {P : Program} {w : World} {K : PySem.W.Frag} {mg : Str → Option Value} {base : Heap} {f : Addr} {fd : FuncData} {C : Addr}
abbrev nNum : List Str := ["text", "at", "first", "end"]
theorem scNum : FnScope nNum ["text", "at"] (defScope sNumberAt) := ⟨rfl, rfl, rfl, by decide +kernel, rfl, by decide +kernel, by decide +kernel⟩
theorem ok_num (F : Fun K "number_at" "number_at" sNumberAt f fd) (T : Txt mg) (N : NT P w K mg base C) (DA : DefOk P w K mg base 1 "sign_at" ["text", "at"] spSignAt) (DF : DefOk P w K mg base 1 "is_figure" ["sign"] spFig) : FnOk P w K mg base (CXd P w) 3 f fd ["text", "at"] (spNum C) := by
  refine F.okD scNum (fun vs H Q E h => ?_) (fun cdv A outer s H vs Q E hr h => ?_)
  · obtain ⟨x, i, r, rfl, _⟩ := h
    rfl
  obtain ⟨x, i, r, rfl, hl, hh, k, b⟩ := h
  have nd := scNum.nd
  have hr1 := hr.mono (show 1 ≤ 2 by decide)
  obtain ⟨t1, m1⟩ := T.figures
  have tail : ∃ tt, PSs (cxOf (CXd P w) P w K mg base nNum "number_at" (defScope sNumberAt) f cdv A outer s H E) ((defBody sNumberAt).drop 3) tt ∧
      ∀ (fst : Nat) (sgn : List Nat), i ≤ fst → sgn.length = fst - i → x.cps.toList.drop i = sgn ++ x.cps.toList.drop fst →
        (∀ c q rest, dig1 c = true → (∀ d ∈ q, isDig d = true) → q.length ≤ 59 → x.cps.toList.drop fst = c :: (q ++ rest) → (59 ≤ q.length ∨ noDig rest) → ∃ n : Int, Good (x.cps.toList.drop i) r (.int n) (q.length + 1 + (fst - i)) ∧ numT n = sgn ++ c :: q ∧ n.natAbs < 10 ^ 60) →
        ((∀ c q, x.cps.toList.drop fst = c :: q → dig1 c = false) → Rf C fst E H) →
        tt { nx := fun _ H' => Q .non H', rt := Q } [some (.str x), some (.int (i : Int)), some (.int (fst : Int)), none] H := by
    refine ⟨_, pss_cons (ps_if (PW.pt (pw_or (pt_not (pt_val (pe_def DF hr1 (pa_c (pe_def DA hr1 (pa_c (pv 0) (pa_c (pv 2) pa_nil))) pa_nil)))) (pw_or1 (pt_cmpR op_eq (pe_ix ix_str (pv 0) (pv 2) (fun _ _ => rfl)) pe_str (nomark _))))) (pss_one (ps_noText fnd_of N hr (pa_c (pv 2) pa_nil))) pss_nil)
      (pss_cons (ps_set (i := 3) nd rfl (Or.inl rfl) (pe_op op_add (pv 2) pe_int))
      (pss_cons (ps_while po_fn (PW.pt (pw_and (pt_cmpR op_lt (pv 3) (pe_op op_add (pv 2) (pe_glob (v := .int 60) rfl m1 ⟨_, rfl⟩)) (nomark _)) (pw_and1 (pt_val (pe_def DF hr1 (pa_c (pe_def DA hr1 (pa_c (pv 0) (pa_c (pv 3) pa_nil))) pa_nil))))))
        (pss_one (ps_aug (i := 3) nd rfl (Or.inl rfl) pe_int ip_add)))
      (pss_one (ps_ret (pe_tup (pa_c (pe_callTy call_int_text rfl T.int tb_int (pa_c (pe_slice sl_str (pv 0) (po_some (pv 1)) (po_some (pv 3))) pa_nil)) (pa_c (pv 3) pa_nil))))))), ?_⟩
    intro fst sgn hle hsl hsp hG hB
    refine ⟨_, rfl, _, rfl, x, fst, rfl, hl, _, rfl, ?_⟩
    rcases sg_cases x.cps.toList fst with ⟨e, es⟩ | ⟨c, rest, e, es, _, g0⟩
    · rw [es, figS_nil]
      refine ⟨_, rfl, iteT (iteT ⟨_, rfl, _, rfl, fun dx hdx => ?_⟩)⟩
      exact (hB fun c q z => by rw [e] at z; cases z).go (Same.refl H) hdx
    rw [es, figS_one]
    cases dc : isDig c with
    | false =>
      refine ⟨_, rfl, iteT (iteT ⟨_, rfl, _, rfl, fun dx hdx => ?_⟩)⟩
      refine (hB fun c' q z => ?_).go (Same.refl H) hdx
      rw [e] at z
      injection z with z1 z2
      rw [← z1]
      cases z3 : dig1 c with
      | false => rfl
      | true => rw [(isDig_1 z3).1] at dc; cases dc
    | true =>
    refine ⟨_, rfl, iteF ?_⟩
    refine ⟨_, rfl, _, rfl, x, (fst : Int), c, rfl, rfl, hl, atI_nat g0, rfl, _, rfl, ?_⟩
    rw [lit_0]
    by_cases c48 : c = 48
    · refine ite2 (fun _ => ?_) (fun z => absurd (decide_eq_true (vstr.mpr c48)) z)
      refine ⟨_, rfl, _, rfl, fun dx hdx => ?_⟩
      refine (hB fun c' q z => ?_).go (Same.refl H) hdx
      rw [e] at z
      injection z with z1 z2
      rw [← z1, c48]
      rfl
    refine ite2 (fun z => absurd (vstr.mp (of_decide_eq_true z)) c48) (fun _ => ?_)
    have d1 := dig1_of dc c48
    refine ⟨_, rfl, _, _, rfl, rfl, ?_⟩
    refine ⟨fun m σ H' => ∃ e : Nat, σ = [some (.str x), some (.int (i : Int)), some (.int (fst : Int)), some (.int (e : Int))] ∧ H' = H ∧ fst < e ∧ e ≤ fst + 60 ∧ (∀ j, fst ≤ j → j < e → ∃ d, x.cps.toList[j]? = some d ∧ isDig d = true) ∧ m = fst + 60 - e,
      ⟨_, fst + 1, rfl, rfl, by omega, by omega, fun j h1 h2 => ⟨c, by rw [show j = fst by omega]; exact g0, dc⟩, rfl⟩, ?_⟩
    rintro m σ H' ⟨en, rfl, rfl, h1, h2, hdg, rfl⟩
    obtain ⟨q, hq1, hq2, hq3⟩ := digs_seg e hdg h1
    have last : (en = fst + 60 ∨ noDig (x.cps.toList.drop en)) → (tTup (tCons (tCB (fun xs H Q => ∃ x n, xs = [V.str x] ∧ PySem.intText? x = some n ∧ x.length ≤ 640 ∧ Q (.int n) H) (tCons (tSl rSlS (tVar 0) (tPart (tVar 1)) (tPart (tVar 3))) tNil)) (tCons (tVar 3) tNil)))
        [some (.str x), some (.int (i : Int)), some (.int (fst : Int)), some (.int (en : Int))] H' Q := fun ee => by
      obtain ⟨n, gd, nt, n60⟩ := hG c q _ d1 hq3 (by omega) hq1 (ee.imp (fun z => by omega) id)
      have sl : (Txt.slice x (some (i : Int)) (some (en : Int))).cps.toList = numT n := by
        rw [slice_nat x (by omega), hsp, hq1, nt, ← List.cons_append, ← List.append_assoc]
        exact List.take_left' (by rw [List.length_append, List.length_cons, hsl, hq2]; omega)
      obtain ⟨r1, r2⟩ := num_reads' n60 sl
      refine ⟨_, rfl, _, rfl, _, rfl, _, rfl, _, rfl, x, rfl, hl, _, n, rfl, r1, r2, _, rfl, (by show 2 ≤ sizeLine; decide), fun p hp => ?_⟩
      refine k n _ p _ (same_new hp _) gd ?_
      have e4 : i + (q.length + 1 + (fst - i)) = en := by omega
      rw [e4]
      exact upd_same
    refine ⟨_, rfl, _, rfl, _, _, rfl, rfl, _, _, rfl, rfl, _, rfl, ?_⟩
    rcases Nat.lt_or_ge en (fst + 60) with hlt | hge
    · refine ite2 (fun _ => ?_) (fun z => absurd (decide_eq_true (by omega)) z)
      refine ⟨_, rfl, _, rfl, x, en, rfl, hl, _, rfl, ?_⟩
      rcases sg_cases x.cps.toList en with ⟨e5, es5⟩ | ⟨c5, r5, e5, es5, _, g5⟩
      · rw [es5, figS_nil]
        exact ⟨_, rfl, iteF (last (.inr fun c q z => by rw [e5] at z; cases z))⟩
      · rw [es5, figS_one]
        cases d5 : isDig c5 with
        | false =>
          refine ⟨_, rfl, iteF (last (.inr fun c q z => ?_))⟩
          rw [e5] at z
          injection z with z1 z2
          rw [← z1]
          exact d5
        | true =>
          refine ⟨_, rfl, iteT ⟨fun σ' H'' => ∃ m', m' < fst + 60 - en ∧ ∃ e' : Nat, σ' = [some (.str x), some (.int (i : Int)), some (.int (fst : Int)), some (.int (e' : Int))] ∧ H'' = H' ∧ fst < e' ∧ e' ≤ fst + 60 ∧ (∀ j, fst ≤ j → j < e' → ∃ d, x.cps.toList[j]? = some d ∧ isDig d = true) ∧ m' = fst + 60 - e', fun _ _ h => h, ?_⟩⟩
          refine ⟨_, rfl, _, _, rfl, rfl, fst + 60 - (en + 1), by omega, en + 1, rfl, rfl, by omega, by omega, fun j h3 h4 => ?_, rfl⟩
          rcases Nat.lt_or_ge j en with h5 | h5
          · exact hdg j h3 h5
          · exact ⟨c5, by rw [show j = en by omega]; exact g5, d5⟩
    · refine ite2 (fun z => ?_) (fun _ => iteF (last (.inl (by omega))))
      have := of_decide_eq_true z
      omega
  obtain ⟨tt, htt, hfin⟩ := tail
  refine ⟨_, pss_cons (ps_if (pt_cmpR op_eq (pe_def DA hr1 (pa_c (pv 0) (pa_c (pv 1) pa_nil))) pe_str (nomark _)) (pss_one (ps_ret (pe_tup (pa_c pe_int (pa_c (pe_op op_add (pv 1) pe_int) pa_nil))))) pss_nil)
    (pss_cons (ps_set (i := 2) nd rfl (Or.inl rfl) (pv 1))
    (pss_cons (ps_if (pt_cmpR op_eq (pe_def DA hr1 (pa_c (pv 0) (pa_c (pv 1) pa_nil))) pe_str (nomark _)) (pss_one (ps_set (i := 2) nd rfl (Or.inl rfl) (pe_op op_add (pv 1) pe_int))) pss_nil) htt)), ?_⟩
  refine ⟨_, rfl, _, rfl, x, i, rfl, hl, rfl, _, rfl, ?_⟩
  rw [lit_0]
  cases c48 : isC' x.cps.toList i 48 with
  | true =>
    obtain ⟨rest, hd⟩ := isC_iff.mp c48
    refine ite2 (fun _ => ?_) (fun z => absurd c48 z)
    refine ⟨_, rfl, _, _, rfl, rfl, (by show 2 ≤ sizeLine; decide), fun p hp => ?_⟩
    exact k 0 1 p _ (same_new hp _) (good_zero hd) upd_same
  | false =>
  refine ite2 (fun z => absurd (show isC' x.cps.toList i 48 = true from z) (by rw [c48]; exact Bool.false_ne_true)) (fun _ => ?_)
  refine ⟨_, rfl, ?_⟩
  refine ⟨_, rfl, _, rfl, x, i, rfl, hl, rfl, _, rfl, ?_⟩
  rw [lit_m]
  cases c45 : isC' x.cps.toList i 45 with
  | true =>
    obtain ⟨rest, hd⟩ := isC_iff.mp c45
    have dr := drop_step hd
    refine ite2 (fun _ => ?_) (fun z => absurd c45 z)
    refine ⟨_, rfl, _, _, rfl, rfl, ?_⟩
    refine hfin (i + 1) [45] (by omega) (by simp) (by rw [dr, hd]; rfl) (fun c q rs d1 hq h59 ed hend => ?_) (fun hno => ?_)
    · obtain ⟨n, g1, g2, g3⟩ := good_neg (l := x.cps.toList.drop i) (r := r) d1 hq h59 (by rw [hd, ← dr, ed]) hend
      refine ⟨n, ?_, g2, g3⟩
      rw [show q.length + 1 + (i + 1 - i) = q.length + 2 by omega]
      exact g1
    · exact b 1 (bad_1 hd (by rw [← dr]; exact hno))
  | false =>
  refine ite2 (fun z => absurd (show isC' x.cps.toList i 45 = true from z) (by rw [c45]; exact Bool.false_ne_true)) (fun _ => ?_)
  refine hfin i [] (Nat.le_refl _) (by simp) rfl (fun c q rs d1 hq h59 ed hend => ?_) (fun hno => ?_)
  · obtain ⟨n, g1, g2, g3⟩ := good_pos (r := r) d1 hq h59 ed hend
    exact ⟨n, by rw [Nat.sub_self]; exact g1, g2, g3⟩
  · refine b 0 ?_
    cases z : x.cps.toList.drop i with
    | nil => exact bad_nil
    | cons c q =>
      have h1 := hh c q z
      refine bad_0 rfl h1.1 h1.2 (isC_no c45 c q z) ?_
      have d1 := hno c q z
      have n48 := isC_no c48 c q z
      cases z2 : isDig c with
      | false => rfl
      | true => rw [dig1_of z2 n48] at d1; cases d1
end
end Tw
set_option Elab.async false
set_option linter.all false
set_option maxRecDepth 100000
set_option maxHeartbeats 8000000
namespace Tw
open PySem PySem.Spec L2
def spTextAt (C : Addr) : Sp := fun vs H Q E => ∃ (x : Str) (i : Nat), vs = [.str x, .int (i : Int)] ∧ x.length ≤ sizeLine ∧
  (∀ y k p H', Same H H' → TGood (x.cps.toList.drop i) y k → H' p = some (.tup [.str y, .int ((i + k : Nat) : Int)]) → Q (.ref p) H') ∧ (∀ g, TBad (x.cps.toList.drop i) g → Rf C (i + g) E H)
theorem glued_signs (Y : List Nat) : Builtin.Str.glued (Str.ofString "") (Y.map fun c => (⟨#[c]⟩ : Str)) = ⟨Y.toArray⟩ := by
  have sp : (Str.ofString "").cps.toList = [] := by decide +kernel
  apply PySem.Str.ext'
  cases Y with
  | nil => rfl
  | cons c l =>
    have e := glue_list (Str.ofString "") (l.map fun c => (⟨#[c]⟩ : Str)) #[c]
    have e2 : ((l.map fun c => (⟨#[c]⟩ : Str)).flatMap fun p => (Str.ofString "").cps.toList ++ p.cps.toList) = l := by
      rw [sp, List.flatMap_map]
      induction l with
      | nil => rfl
      | cons d l ih => rw [List.flatMap_cons]; simp only [List.nil_append] at ih ⊢; rw [ih (by rw [glue_list, sp, List.flatMap_map])]; rfl
    rw [e2] at e
    show ((l.map fun c => (⟨#[c]⟩ : Str)).foldl (fun acc p => acc ++ (Str.ofString "").cps ++ p.cps) #[c]) = _
    have : (c :: l).toArray = ((l.map fun c => (⟨#[c]⟩ : Str)).foldl (fun acc p => acc ++ (Str.ofString "").cps ++ p.cps) #[c]).toList.toArray := by rw [e]; rfl
    rw [this]
theorem sum_ones (Y : List Nat) : ((Y.map fun c => (⟨#[c]⟩ : Str)).map (·.length)).sum = Y.length := by
  induction Y with
  | nil => rfl
  | cons c l ih => rw [List.map_cons, List.map_cons, List.sum_cons, ih, List.length_cons]; show 1 + l.length = _; omega
section
variable {P : Program} {w : World} {K : PySem.W.Frag} {mg : Str → Option Value} {base : Heap} {f : Addr} {fd : FuncData} {C : Addr}
abbrev nTextAt : List Str := ["text", "at", "signs", "place"]
theorem scTextAt : FnScope nTextAt ["text", "at"] (defScope sTextAt) := ⟨rfl, rfl, rfl, by decide +kernel, rfl, by decide +kernel, by decide +kernel⟩
theorem ok_textat (F : Fun K "text_at" "text_at" sTextAt f fd) (T : Txt mg) (N : NT P w K mg base C) (DA : DefOk P w K mg base 1 "sign_at" ["text", "at"] spSignAt) (DM : DefD P w K mg base 3 "meant_at" ["text", "at"] (spMeant C)) : FnOk P w K mg base (CXd P w) 4 f fd ["text", "at"] (spTextAt C) := by
  refine F.okD scTextAt (fun vs H Q E h => ?_) (fun cdv A outer s H vs Q E hr h => ?_)
  · obtain ⟨x, i, rfl, _⟩ := h
    rfl
  obtain ⟨x, i, rfl, hl, k, b⟩ := h
  have nd := scTextAt.nd
  have hr1 := hr.mono (show 1 ≤ 3 by decide)
  have hr2 := hr.mono (show 2 ≤ 3 by decide)
  obtain ⟨t1, m1⟩ := T.signs
  refine ⟨_, pss_cons (ps_set (i := 2) nd rfl (Or.inl rfl) (pe_lst pa_nil))
    (pss_cons (ps_set (i := 3) nd rfl (Or.inl rfl) (pv 1))
    (pss_cons (ps_while po_fn (pt_cmpR op_ne (pe_def DA hr1 (pa_c (pv 0) (pa_c (pv 3) pa_nil))) pe_str (nomark _))
      (pss_cons (ps_if (pt_cmpR op_eq (pe_callB call_len_seq rfl T.len tb_len (pa_c (pv 2) pa_nil)) (pe_glob (v := .int 40) rfl m1 ⟨_, rfl⟩) (nomark _)) (pss_one (ps_noText fnd_of N hr2 (pa_c (pv 3) pa_nil))) pss_nil)
      (pss_cons (ps_set (i := 3) nd rfl (Or.inl rfl) (pe_defD fnd_of DM hr (pa_c (pv 0) (pa_c (pv 3) pa_nil))))
      (pss_cons (ps_expr (pe_bm PySem.F.plainAttrs_list PySem.F.slot_list_append PySem.F.type_list_append mt_append (pv 2) (pa_c (pe_ix ix_str (pv 0) (pv 3) (fun _ _ => rfl)) pa_nil)))
      (pss_one (ps_aug (i := 3) nd rfl (Or.inl rfl) pe_int ip_add))))))
    (pss_one (ps_ret (pe_tup (pa_c (pe_bm PySem.F.plainAttrs_str PySem.F.slot_str_join PySem.F.type_str_join mt_join pe_str (pa_c (pv 2) pa_nil)) (pa_c (pe_op op_add (pv 3) pe_int) pa_nil))))))), ?_⟩
  refine ⟨(by show 0 ≤ sizeLine; decide), fun L hL => ?_⟩
  refine ⟨_, rfl, ?_⟩
  refine ⟨fun m σ H' => ∃ (Y : List Nat) (pl : Nat), σ = [some (.str x), some (.int (i : Int)), some (.ref L), some (.int (pl : Int))] ∧ Same H H' ∧ H' L = some (.lst (Y.map fun c => V.str ⟨#[c]⟩)) ∧
      x.cps.toList.drop i = Y.flatMap esc ++ x.cps.toList.drop pl ∧ pl = i + (Y.flatMap esc).length ∧ (∀ c ∈ Y, signOk c = true) ∧ Y.length ≤ 40 ∧ m = 40 - Y.length,
    ⟨_, [], i, rfl, same_new hL _, upd_same, rfl, rfl, by simp, by simp, rfl⟩, ?_⟩
  rintro m σ H1 ⟨Y, pl, rfl, s1, eL, hd, hpl, hY, h40, rfl⟩
  refine ⟨_, rfl, _, rfl, x, pl, rfl, hl, rfl, _, rfl, ?_⟩
  rw [lit_q1]
  cases c34 : isC' x.cps.toList pl 34 with
  | false =>
    have n34 := isC_no c34
    have ne : (!decide (V.str (sg x.cps.toList pl) = V.str ⟨#[34]⟩)) = true := by
      show (!isC' x.cps.toList pl 34) = true
      rw [c34]; rfl
    rw [ne]
    refine iteT ⟨fun σ' H' => ∃ m', m' < 40 - Y.length ∧ ∃ (Y' : List Nat) (pl' : Nat), σ' = [some (.str x), some (.int (i : Int)), some (.ref L), some (.int (pl' : Int))] ∧ Same H H' ∧ H' L = some (.lst (Y'.map fun c => V.str ⟨#[c]⟩)) ∧
      x.cps.toList.drop i = Y'.flatMap esc ++ x.cps.toList.drop pl' ∧ pl' = i + (Y'.flatMap esc).length ∧ (∀ c ∈ Y', signOk c = true) ∧ Y'.length ≤ 40 ∧ m' = 40 - Y'.length, fun _ _ h => h, ?_⟩
    refine ⟨_, rfl, L, _, rfl, .inl (SqL.of eL), rfl, _, rfl, ?_⟩
    have ln : (Y.map fun c => V.str ⟨#[c]⟩).length = Y.length := List.length_map _
    by_cases y40 : Y.length = 40
    · refine ite2 (fun _ => ?_) (fun z => absurd (decide_eq_true (by rw [ln, y40]; rfl)) z)
      refine ⟨_, rfl, _, rfl, fun dx hdx => ?_⟩
      have tb := b _ (tbad_of (g := 0) hY h40 hd fun many inn => by rw [y40]; exact ver_tooMany n34)
      rw [Nat.add_zero, ← hpl] at tb
      exact tb.go s1 hdx
    · refine ite2 (fun z => ?_) (fun _ => ?_)
      · have z' := vint_inj (of_decide_eq_true z)
        rw [ln] at z'
        omega
      refine ⟨_, rfl, _, rfl, x, pl, Y.length, rfl, hl, by omega, n34, fun c rest H2 s2 he so => ?_, fun g hv => ?_⟩
      · have eL2 := s2 _ _ eL
        have hd2 := drop_more he
        have gm : x.cps.toList[pl + (esc c).length - 1]? = some c := by
          rcases esc_cases c with ⟨e, _⟩ | ⟨e, _, _⟩
          · rw [e] at he ⊢
            exact drop_get (drop_step (r := c :: _) he)
          · rw [e] at he ⊢
            exact drop_get (r := _) he
        have lp : (esc c).length ≥ 1 := by rcases esc_cases c with ⟨e, _⟩ | ⟨e, _, _⟩ <;> rw [e] <;> simp
        refine ⟨_, rfl, .inl ⟨rfl, _, SqL.of eL2⟩, _, rfl, _, rfl, x, _, c, rfl, rfl, hl, atI_nat gm, L, _, _, rfl, rfl, eL2, small1000 (by rw [ln]; omega), ?_⟩
        refine ⟨_, rfl, _, _, rfl, rfl, 40 - (Y.length + 1), by omega, Y ++ [c], pl + (esc c).length, ?_, fun a o e => ?_, ?_, ?_, ?_, ?_, by simp; omega, by simp⟩
        · have e3 : ((pl + (esc c).length - 1 : Nat) : Int) + 1 = ((pl + (esc c).length : Nat) : Int) := by omega
          rw [← e3]
          rfl
        · rw [upd_ne (ne_of_none e hL)]
          exact s2 a o (s1 a o e)
        · rw [upd_same, List.map_append]
          rfl
        · rw [List.flatMap_append, hd, he, hd2]; simp
        · rw [List.flatMap_append, List.length_append, hpl]
          simp; omega
        · intro d hd'
          rcases List.mem_append.mp hd' with z | z
          · exact hY d z
          · rw [List.mem_singleton.mp z]; exact so
      · have tb := b _ (tbad_of hY h40 hd hv)
        rw [show i + ((Y.flatMap esc).length + g) = pl + g by omega] at tb
        exact tb.mono s1
  | true =>
    obtain ⟨rest, e34⟩ := isC_iff.mp c34
    have ne : (!decide (V.str (sg x.cps.toList pl) = V.str ⟨#[34]⟩)) = false := by
      show (!isC' x.cps.toList pl 34) = false
      rw [c34]; rfl
    rw [ne]
    refine iteF ?_
    have el0 : (Str.ofString "").length = 0 := by decide +kernel
    have eL' : H1 L = some (.lst ((Y.map fun c => (⟨#[c]⟩ : Str)).map V.str)) := by rw [eL, List.map_map]; rfl
    refine ⟨rfl, _, rfl, Str.ofString "", L, Y.map (fun c => (⟨#[c]⟩ : Str)), rfl, rfl, SqL.of eL', by rw [sum_ones, el0]; omega, ?_⟩
    rw [glued_signs]
    refine ⟨_, rfl, _, _, rfl, rfl, (by show 2 ≤ sizeLine; decide), fun p hp => ?_⟩
    refine k _ _ p _ (s1.trans (same_new hp _)) (tgood_of hY h40 (by rw [hd, e34])) ?_
    have e3 : ((i + ((Y.flatMap esc).length + 1) : Nat) : Int) = (pl : Int) + 1 := by omega
    rw [e3]
    exact upd_same
end
end Tw
set_option Elab.async false
set_option linter.all false
set_option maxRecDepth 100000
set_option maxHeartbeats 8000000
namespace Tw
open PySem PySem.Spec L2
def spKeyAt (C : Addr) (n : Nat) : Sp := fun vs H Q E => ∃ (x : Str) (i r : Nat), vs = [.str x, .int (i : Int), .int (r : Int)] ∧ x.length ≤ sizeLine ∧ r < n ∧
  (∀ t k v p H', Same H H' → Good (x.cps.toList.drop i) r t k → H' p = some (.tup [v, .int ((i + k : Nat) : Int)]) → KeyAt H' t v → Q (.ref p) H') ∧ (∀ g, Bad (x.cps.toList.drop i) r g → Rf C (i + g) E H)
def spTupAt (C : Addr) (n : Nat) : Sp := fun vs H Q E => ∃ (x : Str) (i r : Nat), vs = [.str x, .int (i : Int), .int (r : Int)] ∧ x.length ≤ sizeLine ∧ r < n ∧
  (∀ ts k v p H', Same H H' → PGood (x.cps.toList.drop i) r ts k → H' p = some (.tup [v, .int ((i + k : Nat) : Int)]) → KeyAt H' (.tup ts) v → Q (.ref p) H') ∧ (∀ g, PBad (x.cps.toList.drop i) r g → Rf C (i + g) E H)
theorem keys_snoc {H : Hp} {t : KT} {v : V} (k : KeyAt H t v) : ∀ {ts : List KT} {vs : List V}, KeysAt H ts vs → KeysAt H (ts ++ [t]) (vs ++ [v])
  | [], vs, h => by
    rw [KeysAt] at h
    subst h
    exact .cons k .nil
  | a :: ts, vs, h => by
    rw [KeysAt] at h
    obtain ⟨b, r, rfl, h1, h2⟩ := h
    exact .cons h1 (keys_snoc k h2)
section
variable {P : Program} {w : World} {K : PySem.W.Frag} {mg : Str → Option Value} {base : Heap} {f : Addr} {fd : FuncData} {C : Addr}
abbrev nTupAt : List Str := ["text", "at", "room", "found", "things"]
theorem scTupAt : FnScope nTupAt ["text", "at", "room"] (defScope sTupleAt) := ⟨rfl, rfl, rfl, by decide +kernel, rfl, by decide +kernel, by decide +kernel⟩
theorem ok_tupat {n : Nat} (F : Fun K "tuple_at" "tuple_at" sTupleAt f fd) (T : Txt mg) (N : NT P w K mg base C) (DA : DefOk P w K mg base 1 "sign_at" ["text", "at"] spSignAt) (DK : DefD P w K mg base (2 * n + 4) "key_at" ["text", "at", "room"] (spKeyAt C n)) : FnOk P w K mg base (CXd P w) (2 * n + 5) f fd ["text", "at", "room"] (spTupAt C n) := by
  refine F.okD scTupAt (fun vs H Q E h => ?_) (fun cdv A outer s H vs Q E hr h => ?_)
  · obtain ⟨x, i, r, rfl, _⟩ := h
    rfl
  obtain ⟨x, i, r, rfl, hl, hn, k, b⟩ := h
  have nd := scTupAt.nd
  have hr1 := hr.mono (show 1 ≤ 2 * n + 4 by omega)
  have hr2 := hr.mono (show 2 ≤ 2 * n + 4 by omega)
  obtain ⟨t1, m1⟩ := T.things
  refine ⟨_, pss_cons (ps_if (pt_cmpR op_eq (pe_def DA hr1 (pa_c (pv 0) (pa_c (pv 1) pa_nil))) pe_str (nomark _)) (pss_one (ps_ret (pe_tup (pa_c (pe_tup pa_nil) (pa_c (pe_op op_add (pv 1) pe_int) pa_nil))))) pss_nil)
    (pss_cons (ps_set (i := 3) nd rfl (Or.inl rfl) (pe_defD fnd_of DK hr (pa_c (pv 0) (pa_c (pv 1) (pa_c (pv 2) pa_nil)))))
    (pss_cons (ps_set (i := 4) nd rfl (Or.inl rfl) (pe_lst (pa_c (pe_ix ix_tup (pv 3) pe_int (fun _ _ => rfl)) pa_nil)))
    (pss_cons (ps_while po_fn (pt_cmpR op_ne (pe_def DA hr1 (pa_c (pv 0) (pa_c (pe_ix ix_tup (pv 3) pe_int (fun _ _ => rfl)) pa_nil))) pe_str (nomark _))
      (pss_cons (ps_if (PW.pt (pw_or (pt_cmpR op_ne (pe_def DA hr1 (pa_c (pv 0) (pa_c (pe_ix ix_tup (pv 3) pe_int (fun _ _ => rfl)) pa_nil))) pe_str (nomark _)) (pw_or1 (pt_cmpR op_eq (pe_callB call_len_seq rfl T.len tb_len (pa_c (pv 4) pa_nil)) (pe_glob (v := .int 4) rfl m1 ⟨_, rfl⟩) (nomark _))))) (pss_one (ps_noText fnd_of N hr2 (pa_c (pe_ix ix_tup (pv 3) pe_int (fun _ _ => rfl)) pa_nil))) pss_nil)
      (pss_cons (ps_set (i := 3) nd rfl (Or.inl rfl) (pe_defD fnd_of DK hr (pa_c (pv 0) (pa_c (pe_op op_add (pe_ix ix_tup (pv 3) pe_int (fun _ _ => rfl)) pe_int) (pa_c (pv 2) pa_nil)))))
      (pss_one (ps_expr (pe_bm PySem.F.plainAttrs_list PySem.F.slot_list_append PySem.F.type_list_append mt_append (pv 4) (pa_c (pe_ix ix_tup (pv 3) pe_int (fun _ _ => rfl)) pa_nil)))))))
    (pss_one (ps_ret (pe_tup (pa_c (pe_callTy call_tuple_of rfl T.tuple tb_tuple (pa_c (pv 4) pa_nil)) (pa_c (pe_op op_add (pe_ix ix_tup (pv 3) pe_int (fun _ _ => rfl)) pe_int) pa_nil)))))))), ?_⟩
  refine ⟨_, rfl, _, rfl, x, i, rfl, hl, rfl, _, rfl, ?_⟩
  rw [lit_cl]
  cases c41 : isC' x.cps.toList i 41 with
  | true =>
    obtain ⟨rest, hd⟩ := isC_iff.mp c41
    refine ite2 (fun _ => ?_) (fun z => absurd c41 z)
    refine ⟨(by show 0 ≤ sizeLine; decide), fun p1 h1 => ⟨_, rfl, _, _, rfl, rfl, (by show 2 ≤ sizeLine; decide), fun p2 h2 => ?_⟩⟩
    have g1 := same_new h1 (.tup [])
    have g2 := same_new h2 (.tup [.ref p1, .int ((i : Int) + 1)])
    exact k [] 1 (.ref p1) p2 _ (g1.trans g2) (pgood_nil hd) upd_same (.tup (g2 _ _ upd_same) .nil)
  | false =>
  have n41 := isC_no c41
  refine ite2 (fun z => absurd (show isC' x.cps.toList i 41 = true from z) (by rw [c41]; exact Bool.false_ne_true)) (fun _ => ?_)
  refine ⟨_, rfl, _, rfl, _, rfl, x, i, r, rfl, hl, hn, fun t k0 v0 p0 H1 s1 gd e1 kv => ?_, fun g bd => b g (first_bad n41 bd)⟩
  refine ⟨_, rfl, p0, _, _, _, rfl, rfl, SqT.of e1, rfl, (by show 1 ≤ sizeLine; decide), fun L hL => ?_⟩
  have gL := same_new hL (.lst [v0])
  have nHL : H L = none := by
    cases e : H L with
    | none => rfl
    | some o => rw [s1 L o e] at hL; cases hL
  refine ⟨fun m σ H' => ∃ (ts : List KT) (k1 : Nat) (pf : Addr) (vf : V) (vs : List V), σ = [some (.str x), some (.int (i : Int)), some (.int (r : Int)), some (.ref pf), some (.ref L)] ∧ Same H H' ∧ H' pf = some (.tup [vf, .int ((i + k1 : Nat) : Int)]) ∧ H' L = some (.lst vs) ∧
      KeysAt H' ts vs ∧ Some' (x.cps.toList.drop i) r ts k1 ∧ m = 4 - ts.length,
    ⟨_, [t], k0, p0, v0, [v0], rfl, s1.trans gL, gL _ _ e1, upd_same, .cons (kv.mono (Same.tups gL) _ _) .nil, first_good gd, rfl⟩, ?_⟩
  rintro m σ H2 ⟨ts, k1, pf, vf, vs, rfl, s2, ef, eL, hk, sm, rfl⟩
  have lv := hk.length
  have f4 := sm.four
  have dk : (x.cps.toList.drop i).drop k1 = x.cps.toList.drop (i + k1) := List.drop_drop ..
  refine ⟨_, rfl, _, rfl, pf, _, _, _, rfl, rfl, SqT.of ef, rfl, x, i + k1, rfl, hl, rfl, _, rfl, ?_⟩
  cases d41 : isC' x.cps.toList (i + k1) 41 with
  | true =>
    obtain ⟨rest, e41⟩ := isC_iff.mp d41
    have ne : (!decide (V.str (sg x.cps.toList (i + k1)) = V.str ⟨#[41]⟩)) = false := by
      show (!isC' x.cps.toList (i + k1) 41) = false
      rw [d41]; rfl
    rw [ne]
    refine iteF ?_
    refine ⟨_, rfl, L, vs, rfl, .inl ⟨SqL.of eL, fun p4 h4 => ?_⟩⟩
    have g4 := same_new h4 (.tup vs)
    refine ⟨_, rfl, pf, _, _, _, rfl, rfl, SqT.of (g4 _ _ ef), rfl, _, _, rfl, rfl, (by show 2 ≤ sizeLine; decide), fun p5 h5 => ?_⟩
    have g5 := same_new h5 (.tup [.ref p4, .int (((i + k1 : Nat) : Int) + 1)])
    exact k ts (k1 + 1) (.ref p4) p5 _ (s2.trans (g4.trans g5)) (close_good n41 sm (by rw [dk]; exact e41)) upd_same (.tup (g5 _ _ upd_same) (hk.mono (Same.tups (g4.trans g5)) _ _))
  | false =>
  have m41 := isC_no d41
  have ne : (!decide (V.str (sg x.cps.toList (i + k1)) = V.str ⟨#[41]⟩)) = true := by
    show (!isC' x.cps.toList (i + k1) 41) = true
    rw [d41]; rfl
  rw [ne]
  refine iteT ⟨fun σ' H' => ∃ m', m' < 4 - ts.length ∧ ∃ (ts' : List KT) (k1' : Nat) (pf' : Addr) (vf' : V) (vs' : List V), σ' = [some (.str x), some (.int (i : Int)), some (.int (r : Int)), some (.ref pf'), some (.ref L)] ∧ Same H H' ∧ H' pf' = some (.tup [vf', .int ((i + k1' : Nat) : Int)]) ∧ H' L = some (.lst vs') ∧
      KeysAt H' ts' vs' ∧ Some' (x.cps.toList.drop i) r ts' k1' ∧ m' = 4 - ts'.length, fun _ _ h => h, ?_⟩
  refine ⟨_, rfl, _, rfl, pf, _, _, _, rfl, rfl, SqT.of ef, rfl, x, i + k1, rfl, hl, rfl, _, rfl, ?_⟩
  rw [lit_sp]
  have raised : (∀ c q, x.cps.toList.drop (i + k1) = c :: q → c ≠ 32 ∨ ts.length = 4) → Rf C (i + k1) E H := fun hx => b k1 (next_bad n41 sm (by rw [dk]; exact fun c q e => ⟨m41 c q e, hx c q e⟩))
  cases d32 : isC' x.cps.toList (i + k1) 32 with
  | false =>
    have ne : (!decide (V.str (sg x.cps.toList (i + k1)) = V.str ⟨#[32]⟩)) = true := by
      show (!isC' x.cps.toList (i + k1) 32) = true
      rw [d32]; rfl
    rw [ne]
    refine iteT (iteT ⟨_, rfl, pf, _, _, _, rfl, rfl, SqT.of ef, rfl, _, rfl, fun dx hdx => ?_⟩)
    exact (raised fun c q e => .inl (isC_no d32 c q e)).go s2 hdx
  | true =>
  obtain ⟨rest, e32⟩ := isC_iff.mp d32
  have ne2 : (!decide (V.str (sg x.cps.toList (i + k1)) = V.str ⟨#[32]⟩)) = false := by
    show (!isC' x.cps.toList (i + k1) 32) = false
    rw [d32]; rfl
  rw [ne2]
  refine iteF ⟨_, rfl, L, _, rfl, .inl (SqL.of eL), rfl, _, rfl, ?_⟩
  by_cases h4 : ts.length = 4
  · refine ite2 (fun _ => ?_) (fun z => absurd (decide_eq_true (by rw [← lv, h4]; rfl)) z)
    refine ⟨_, rfl, pf, _, _, _, rfl, rfl, SqT.of ef, rfl, _, rfl, fun dx hdx => ?_⟩
    exact (raised fun c q e => .inr h4).go s2 hdx
  · refine ite2 (fun z => ?_) (fun _ => ?_)
    · have z' := vint_inj (of_decide_eq_true z)
      rw [← lv] at z'
      omega
    have h4' : ts.length < 4 := by omega
    have e32' : (x.cps.toList.drop i).drop k1 = 32 :: rest := by rw [dk]; exact e32
    have dr : x.cps.toList.drop (i + k1 + 1) = rest := drop_step e32
    refine ⟨_, rfl, _, rfl, pf, _, _, _, rfl, rfl, SqT.of ef, rfl, _, _, rfl, rfl, _, rfl, x, i + k1 + 1, r, rfl, hl, hn, fun t k2 v2 p2 H3 s3 gd e3 kv3 => ?_, fun g bd => ?_⟩
    · have eL3 := s3 _ _ eL
      refine ⟨_, rfl, .inl ⟨rfl, _, SqL.of eL3⟩, _, rfl, p2, _, _, _, rfl, rfl, SqT.of e3, rfl, L, _, _, rfl, rfl, eL3, small1000 (by rw [← lv]; omega), ?_⟩
      have sL : Same H (upd H3 L (.lst (vs ++ [v2]))) := fun a o e => by
        rw [upd_ne (ne_of_none e nHL)]
        exact s3 a o (s2 a o e)
      have tp : ∀ a xs, H3 a = some (.tup xs) → upd H3 L (.lst (vs ++ [v2])) a = some (.tup xs) := fun a xs e => by
        rw [upd_ne (fun z => by rw [z, eL3] at e; cases e)]; exact e
      refine ⟨4 - (ts.length + 1), by omega, ts ++ [t], k1 + 1 + k2, p2, v2, vs ++ [v2], rfl, sL, ?_, upd_same, ?_, ?_, by simp⟩
      · rw [tp _ _ e3, show i + k1 + 1 + k2 = i + (k1 + 1 + k2) by omega]
      · exact keys_snoc (kv3.mono tp _ _) ((hk.mono (Same.tups s3) _ _).mono tp _ _)
      · rw [dr] at gd
        exact more_good sm e32' h4' gd
    · rw [dr] at bd
      have := b _ (more_bad n41 sm e32' h4' bd)
      rw [show i + (k1 + 1 + g) = i + k1 + 1 + g by omega] at this
      exact this.mono s2
abbrev nKeyAt : List Str := ["text", "at", "room", "sign"]
theorem scKeyAt : FnScope nKeyAt ["text", "at", "room"] (defScope sKeyAt) := ⟨rfl, rfl, rfl, by decide +kernel, rfl, by decide +kernel, by decide +kernel⟩
theorem ok_keyat {n : Nat} (F : Fun K "key_at" "key_at" sKeyAt f fd) (DA : DefOk P w K mg base 1 "sign_at" ["text", "at"] spSignAt) (DN : DefD P w K mg base 3 "number_at" ["text", "at"] (spNum C)) (DX : DefD P w K mg base 4 "text_at" ["text", "at"] (spTextAt C))
    (DU : DefD P w K mg base (2 * n + 5) "tuple_at" ["text", "at", "room"] (spTupAt C n)) : FnOk P w K mg base (CXd P w) (2 * n + 6) f fd ["text", "at", "room"] (spKeyAt C (n + 1)) := by
  refine F.okD scKeyAt (fun vs H Q E h => ?_) (fun cdv A outer s H vs Q E hr h => ?_)
  · obtain ⟨x, i, r, rfl, _⟩ := h
    rfl
  obtain ⟨x, i, r, rfl, hl, hn, k, b⟩ := h
  have nd := scKeyAt.nd
  have hr1 := hr.mono (show 1 ≤ 2 * n + 5 by omega)
  have hr3 := hr.mono (show 3 ≤ 2 * n + 5 by omega)
  have hr4 := hr.mono (show 4 ≤ 2 * n + 5 by omega)
  refine ⟨_, pss_cons (ps_set (i := 3) nd rfl (Or.inl rfl) (pe_def DA hr1 (pa_c (pv 0) (pa_c (pv 1) pa_nil))))
    (pss_cons (ps_if (pt_cmpR op_eq (pv 3) pe_str (nomark _)) (pss_one (ps_ret (pe_defD fnd_of DX hr4 (pa_c (pv 0) (pa_c (pe_op op_add (pv 1) pe_int) pa_nil))))) pss_nil)
    (pss_cons (ps_if (PW.pt (pw_and (pt_cmpR op_eq (pv 3) pe_str (nomark _)) (pw_and1 (pt_cmpR op_gt (pv 2) pe_int (nomark _))))) (pss_one (ps_ret (pe_defD fnd_of DU hr (pa_c (pv 0) (pa_c (pe_op op_add (pv 1) pe_int) (pa_c (pe_op op_sub (pv 2) pe_int) pa_nil)))))) pss_nil)
    (pss_one (ps_ret (pe_defD fnd_of DN hr3 (pa_c (pv 0) (pa_c (pv 1) pa_nil))))))), ?_⟩
  refine ⟨_, rfl, _, rfl, x, i, rfl, hl, ?_⟩
  refine ⟨_, rfl, rfl, _, rfl, ?_⟩
  rw [lit_q1]
  cases c34 : isC' x.cps.toList i 34 with
  | true =>
    obtain ⟨rest, hd⟩ := isC_iff.mp c34
    have dr := drop_step hd
    refine ite2 (fun _ => ?_) (fun z => absurd c34 z)
    refine ⟨_, rfl, _, rfl, _, _, rfl, rfl, x, i + 1, rfl, hl, fun y k1 p H' s' tg e => ?_, fun g tb => ?_⟩
    · rw [dr] at tg
      refine k (.str y) (k1 + 1) (.str y) p H' s' (by rw [hd]; exact good_text tg) ?_ (KeyAt.str y)
      rw [e, show i + 1 + k1 = i + (k1 + 1) by omega]
    · rw [dr] at tb
      have := b (g + 1) (by rw [hd]; exact bad_text tb)
      rw [show i + (g + 1) = i + 1 + g by omega] at this
      exact this
  | false =>
  refine ite2 (fun z => absurd (show isC' x.cps.toList i 34 = true from z) (by rw [c34]; exact Bool.false_ne_true)) (fun _ => ?_)
  have num : (∀ c q, x.cps.toList.drop i = c :: q → c = 40 → r = 0) → ∀ Q', (∀ t k v p H', Same H H' → Good (x.cps.toList.drop i) r t k → H' p = some (.tup [v, .int ((i + k : Nat) : Int)]) → KeyAt H' t v → Q' (.ref p) H') → spNum C [.str x, .int (i : Int)] H Q' E := fun h40 Q' k' =>
    ⟨x, i, r, rfl, hl, fun c q e => ⟨isC_no c34 c q e, h40 c q e⟩, fun n k1 p H' s' gd e => k' (.int n) k1 (.int n) p H' s' gd e (KeyAt.int n), b⟩
  refine ⟨_, rfl, rfl, _, rfl, ?_⟩
  rw [lit_op]
  cases c40 : isC' x.cps.toList i 40 with
  | false =>
    refine ite2 (fun z => absurd (show isC' x.cps.toList i 40 = true from z) (by rw [c40]; exact Bool.false_ne_true)) (fun _ => iteF ?_)
    exact ⟨_, rfl, _, rfl, num (fun c q e z => absurd z (isC_no c40 c q e)) _ k⟩
  | true =>
  obtain ⟨rest, hd⟩ := isC_iff.mp c40
  have dr := drop_step hd
  refine ite2 (fun _ => ?_) (fun z => absurd c40 z)
  refine ⟨_, rfl, _, _, rfl, rfl, _, rfl, ?_⟩
  by_cases r0 : r = 0
  · refine ite2 (fun z => ?_) (fun _ => ?_)
    · have := of_decide_eq_true z
      omega
    exact ⟨_, rfl, _, rfl, num (fun _ _ _ _ => r0) _ k⟩
  · refine ite2 (fun _ => ?_) (fun z => absurd (decide_eq_true (by omega)) z)
    obtain ⟨r', rfl⟩ : ∃ r', r = r' + 1 := ⟨r - 1, by omega⟩
    have er : ((r' + 1 : Nat) : Int) - 1 = ((r' : Nat) : Int) := by omega
    refine ⟨_, rfl, _, rfl, _, _, rfl, rfl, _, rfl, _, _, rfl, rfl, x, i + 1, r', ?_, hl, by omega, fun ts k1 v p H' s' pg e kv => ?_, fun g pb => ?_⟩
    · rw [← er]; rfl
    · rw [dr] at pg
      refine k (.tup ts) (k1 + 1) v p H' s' (by rw [hd]; exact good_tup pg) ?_ kv
      rw [e, show i + 1 + k1 = i + (k1 + 1) by omega]
    · rw [dr] at pb
      have := b (g + 1) (by rw [hd]; exact bad_tup pb)
      rw [show i + (g + 1) = i + 1 + g by omega] at this
      exact this
theorem sp_noneD {sp : Sp} {k : Nat} {ps : List Str} (no : ∀ vs H Q E, ¬ sp vs H Q E) : FnOk P w K mg base (CXd P w) k f fd ps sp :=
  ⟨fun vs H Q E h => absurd h (no vs H Q E), fun A outer s H args us vs Q E _ _ _ _ h => absurd h (no vs H Q E)⟩
theorem all_keyat (T : Txt mg) (N : NT P w K mg base C) (LK : Laid K mg "key_at" sKeyAt ["text", "at", "room"]) (LU : Laid K mg "tuple_at" sTupleAt ["text", "at", "room"]) (DA : DefOk P w K mg base 1 "sign_at" ["text", "at"] spSignAt) (DN : DefD P w K mg base 3 "number_at" ["text", "at"] (spNum C))
    (DX : DefD P w K mg base 4 "text_at" ["text", "at"] (spTextAt C)) : ∀ n : Nat, DefD P w K mg base (2 * n + 4) "key_at" ["text", "at", "room"] (spKeyAt C n)
  | 0 => LK.ofD fun _ _ _ => sp_noneD fun vs H Q E h => by obtain ⟨x, i, r, _, _, h1, _⟩ := h; omega
  | n + 1 => LK.ofD fun _ _ F => ok_keyat F DA DN DX (LU.ofD fun _ _ G => ok_tupat G T N DA (all_keyat T N LK LU DA DN DX n))
end
end Tw
set_option Elab.async false
set_option linter.all false
set_option maxRecDepth 100000
set_option maxHeartbeats 8000000
namespace L2
open PySem PySem.Spec
section
variable {X : Cx}
/-- t == (), t != () -/
theorem op_eqNil (hu : X.A.units < cLine) : OpR X (compareOp .Eq) (fun x y H Q => ∃ a b xs, x = .ref a ∧ y = .ref b ∧ SqT X.K H a xs ∧ SqT X.K H b [] ∧ Q (.bl (decide (xs = []))) H) := by
  intro pins s σ H x y v u Q I rx ry h
  obtain ⟨a, b, xs, rfl, rfl, ha, hb, q⟩ := h
  cases rx
  cases ry
  obtain ⟨its, r1, p1, _⟩ := I.tuple ha
  obtain ⟨its2, r2, p2, _⟩ := I.tuple hb
  have e2 : its2 = [] := r2.nil_iff.mpr rfl
  subst e2
  refine PySem.SeqAt.RcAt.tuples (e := fun _ => true) p1 p2 hu (fun j g1 g2 => absurd g2 (by simp)) X.prog X.w X.xe _ ?_
  refine fin_bl I q ?_
  have : decide (xs = []) = (its.toArray.size == 0) := by
    have l := r1.length
    cases xs with
    | nil => rw [List.size_toArray, ← l]; rfl
    | cons z zs => rw [List.size_toArray, ← l]; rfl
  rw [this]
  simp
end
end L2
namespace Tw
open PySem PySem.Spec L2
theorem cut1 {xs : List V} : cutV xs none (some (-1)) = xs.take (xs.length - 1) := by
  unfold cutV
  have e : HT.sIx xs.length xs.length (some (-1)) = xs.length - 1 := by
    have := HT.clip_eq (-1) xs.length xs.length
    simp only [show (-1 : Int) < 0 by decide, if_true] at this
    omega
  rw [HT.sIx_none, e, List.drop_zero, Nat.sub_zero]
theorem cut1_whole {n : Nat} (h : n ≠ 0) : ¬ (HT.sIx n 0 none = 0 ∧ HT.sIx n n (some (-1)) = n) := fun z => by
  have := HT.clip_eq (-1) n n
  simp only [show (-1 : Int) < 0 by decide, if_true] at this
  have := z.2
  omega
def wdS : Wd → Str
  | .wanted => "wanted"
  | .opened => "opened"
  | .minus => "minus"
  | .text => "text"
  | .freed => "freed"
  | .figures => "figures"
  | .behind => "behind"
def innV (inn : List Nat) : List V := inn.reverse.map fun k : Nat => V.int (k : Int)
def InnAt (H : Hp) (inn : List Nat) (v : V) : Prop := ∃ q, v = .ref q ∧ H q = some (.tup (innV inn))
def AuAt (H : Hp) (s : Au) (v : V) : Prop := ∃ p u, v = .ref p ∧ H p = some (.tup [.str (wdS s.w), .int (s.n : Int), u]) ∧ InnAt H s.inn u
theorem InnAt.mono {H H' : Hp} {inn : List Nat} {v : V} (h : InnAt H inn v) (s : Same H H') : InnAt H' inn v := by
  obtain ⟨q, e, h1⟩ := h
  exact ⟨q, e, s _ _ h1⟩
theorem AuAt.mono {H H' : Hp} {s : Au} {v : V} (h : AuAt H s v) (m : Same H H') : AuAt H' s v := by
  obtain ⟨p, u, e, h1, h2⟩ := h
  exact ⟨p, u, e, m _ _ h1, h2.mono m⟩
theorem innV_cons (k : Nat) (r : List Nat) : innV (k :: r) = innV r ++ [.int (k : Int)] := by
  unfold innV
  rw [List.reverse_cons, List.map_append]
  rfl
theorem innV_len (inn : List Nat) : (innV inn).length = inn.length := by unfold innV; rw [List.length_map, List.length_reverse]
theorem innV_key {H : Hp} {inn : List Nat} {v : V} (h : InnAt H inn v) : KeyAt H (.tup (inn.reverse.map fun k : Nat => KT.int (k : Int))) v := by
  obtain ⟨q, rfl, e⟩ := h
  refine .tup e ?_
  unfold innV
  generalize inn.reverse = l
  induction l with
  | nil => exact .nil
  | cons a l ih => exact .cons (.int _) ih
theorem nil_eqb (inn : List Nat) : (KT.tup (inn.reverse.map fun k : Nat => KT.int (k : Int))).eqb (.tup []) = decide (inn = []) := by
  cases inn with
  | nil => rfl
  | cons k r =>
    rw [List.reverse_cons, List.map_append]
    cases h : (r.reverse.map fun k : Nat => KT.int (k : Int)) with
    | nil => rfl
    | cons a b => rfl
theorem nil_depth (inn : List Nat) : (KT.tup (inn.reverse.map fun k : Nat => KT.int (k : Int))).depth ≤ 200 := by
  have : ∀ l : List Nat, depthL (l.map fun k : Nat => KT.int (k : Int)) = 0 := fun l => by
    induction l with
    | nil => rfl
    | cons a l ih => rw [List.map_cons, depthL, ih, KT.depth]; rfl
  rw [KT.depth, this]
  decide
theorem lit_d9 : (Str.ofString "123456789").cps.toList = [49, 50, 51, 52, 53, 54, 55, 56, 57] := by decide +kernel
theorem lit_d10 : (Str.ofString "0123456789").cps.toList = [48, 49, 50, 51, 52, 53, 54, 55, 56, 57] := by decide +kernel
theorem in_d9 (c : Nat) : (!(Builtin.Str.occurrences (Str.ofString "123456789") ⟨#[c]⟩ 0 (Str.ofString "123456789").length 1).isEmpty) = dig1 c := by
  rw [StrLaws.found_one, lit_d9]
  unfold dig1
  rw [Bool.eq_iff_iff]
  simp
  omega
theorem in_d10 (c : Nat) : (!(Builtin.Str.occurrences (Str.ofString "0123456789") ⟨#[c]⟩ 0 (Str.ofString "0123456789").length 1).isEmpty) = isDig c := by
  rw [StrLaws.found_one, lit_d10]
  unfold isDig
  rw [Bool.eq_iff_iff]
  simp
  omega
theorem vs_c (c d : Nat) : decide (V.str ⟨#[c]⟩ = V.str ⟨#[d]⟩) = decide (c = d) := decide_eq_decide.mpr vstr
def spBegun : Sp := fun vs H Q _ => ∃ v inn c, vs = [v, .str ⟨#[c]⟩] ∧ InnAt H inn v ∧ inn.length ≤ 3 ∧ ∀ H', Same H H' → (auBegun inn c = none → Q .non H') ∧ ∀ s u, auBegun inn c = some s → AuAt H' s u → Q u H'
def spWithin : Sp := fun vs H Q _ => ∃ (w : Wd) (n : Nat) (v : V) (inn : List Nat) (c : Nat), vs = [.str (wdS w), .int (n : Int), v, .str ⟨#[c]⟩] ∧ (w = .minus ∨ w = .text ∨ w = .freed) ∧ InnAt H inn v ∧ ∀ H', Same H H' → (auWithin w n inn c = none → Q .non H') ∧ ∀ s u, auWithin w n inn c = some s → AuAt H' s u → Q u H'
theorem wd_minus (w : Wd) : decide (V.str (wdS w) = V.str (Str.ofString "minus")) = decide (w = .minus) := by cases w <;> decide +kernel
theorem wd_freed (w : Wd) : decide (V.str (wdS w) = V.str (Str.ofString "freed")) = decide (w = .freed) := by cases w <;> decide +kernel
theorem wd_text (w : Wd) : decide (V.str (wdS w) = V.str (Str.ofString "text")) = decide (w = .text) := by cases w <;> decide +kernel
theorem wd_opened (w : Wd) : decide (V.str (wdS w) = V.str (Str.ofString "opened")) = decide (w = .opened) := by cases w <;> decide +kernel
theorem wd_figures (w : Wd) : decide (V.str (wdS w) = V.str (Str.ofString "figures")) = decide (w = .figures) := by cases w <;> decide +kernel
section
variable {P : Program} {w : World} {K : PySem.W.Frag} {mg : Str → Option Value} {base : Heap} {f : Addr} {fd : FuncData} {C : Addr}
theorem scBegun : FnScope ["_law_inner", "_law_sign", "_law_up"] ["_law_inner", "_law_sign"] (defScope sBegun) := ⟨rfl, rfl, rfl, by decide +kernel, rfl, by decide +kernel, by decide +kernel⟩
theorem ok_begun (F : Fun K "_law_begun" "_law_begun" sBegun f fd) (T : Txt mg) : FnOk P w K mg base CX0 1 f fd ["_law_inner", "_law_sign"] spBegun := by
  refine F.ok scBegun (fun vs H Q E h => (by obtain ⟨_, _, _, rfl, _⟩ := h; rfl)) (fun cdv A outer s H vs Q E hr h => ?_)
  obtain ⟨v, inn, c, rfl, hv, l3, k⟩ := h
  have nd := scBegun.nd
  have tail : ∃ tt, PSs (cxOf CX0 P w K mg base ["_law_inner", "_law_sign", "_law_up"] "_law_begun" (defScope sBegun) f cdv A outer s H E).nox ((defBody sBegun).drop 2) tt ∧
      ∀ H1 u, Same H H1 → InnAt H1 (up inn) u → tt { nx := fun _ H' => Q .non H', rt := Q } [some v, some (.str ⟨#[c]⟩), some u] H1 := by
    refine ⟨_, pss_cons (ps_if (pt_cmpR op_eq (pv 1) pe_str (nomark _)) (pss_one (ps_ret (pe_tup (pa3 pe_str pe_int (pv 2))))) pss_nil)
      (pss_cons (ps_if (PW.pt (pw_and (pt_cmpR op_eq (pv 1) pe_str (nomark _)) (pw_and1 (pt_cmpR op_lt (pe_callB call_len_seq rfl T.len tb_len (pa_c (pv 0) pa_nil)) pe_int (nomark _))))) (pss_one (ps_ret (pe_tup (pa3 pe_str pe_int (pe_op (op_catT.or op_catT0) (pv 2) (pe_tup (pa_c pe_int pa_nil))))))) pss_nil)
      (pss_cons (ps_if (pt_cmpR op_eq (pv 1) pe_str (nomark _)) (pss_one (ps_ret (pe_tup (pa3 pe_str pe_int (pv 2))))) pss_nil)
      (pss_cons (ps_if (pt_cmpR op_eq (pv 1) pe_str (nomark _)) (pss_one (ps_ret (pe_tup (pa3 pe_str pe_int (pv 2))))) pss_nil)
      (pss_cons (ps_if (pt_cmpR op_in_str (pv 1) pe_str rfl) (pss_one (ps_ret (pe_tup (pa3 pe_str pe_int (pv 2))))) pss_nil)
      (pss_one (ps_ret pe_non)))))), ?_⟩
    intro H1 u s1 hu
    have mk : ∀ (wd : Wd) (n : Nat), auBegun inn c = some ⟨wd, n, up inn⟩ → ∀ p, H1 p = none → Q (.ref p) (upd H1 p (.tup [.str (wdS wd), .int (n : Int), u])) := fun wd n e p hp =>
      (k _ (s1.trans (same_new hp _))).2 _ _ e ⟨p, u, rfl, upd_same, hu.mono (same_new hp _)⟩
    have t3 : (3 : Nat) ≤ sizeLine := by decide
    refine ⟨_, rfl, rfl, _, rfl, ?_⟩
    rw [lit_q1, vs_c]
    by_cases c34 : c = 34
    · refine ite2 (fun _ => ?_) (fun z => absurd (decide_eq_true c34) z)
      exact ⟨_, rfl, t3, mk .text 0 (by unfold auBegun; rw [if_pos c34])⟩
    refine ite2 (fun z => absurd (of_decide_eq_true z) c34) (fun _ => ?_)
    refine ⟨_, rfl, rfl, _, rfl, ?_⟩
    rw [lit_op, vs_c]
    have go45 : ¬ (c = 40 ∧ inn.length < 3) → (tSeq (tIfS (tTest (tOp rEq (tVar 1) (tC (V.str (Str.ofString "-"))))) (tRet (tTup (tCons (tC (V.str (Str.ofString "minus"))) (tCons (tC (V.int 0)) (tCons (tVar 2) tNil))))) tNext)
        (tSeq (tIfS (tTest (tOp rEq (tVar 1) (tC (V.str (Str.ofString "0"))))) (tRet (tTup (tCons (tC (V.str (Str.ofString "behind"))) (tCons (tC (V.int 0)) (tCons (tVar 2) tNil))))) tNext)
        (tSeq (tIfS (tTest (tOp (fun x y H Q => ∃ i j, x = .str i ∧ y = .str j ∧ Q (.bl (!(Builtin.Str.occurrences j i 0 j.length 1).isEmpty)) H) (tVar 1) (tC (V.str (Str.ofString "123456789"))))) (tRet (tTup (tCons (tC (V.str (Str.ofString "figures"))) (tCons (tC (V.int 1)) (tCons (tVar 2) tNil))))) tNext)
        (tRet (tC V.non)))))
        { nx := fun _ H' => Q .non H', rt := Q } [some v, some (.str ⟨#[c]⟩), some u] H1 := fun n40 => by
      have e0 : auBegun inn c = if c = 45 then some ⟨.minus, 0, up inn⟩ else if c = 48 then some ⟨.behind, 0, up inn⟩ else if dig1 c then some ⟨.figures, 1, up inn⟩ else none := by
        unfold auBegun
        rw [if_neg c34, if_neg n40]
      refine ⟨_, rfl, rfl, _, rfl, ?_⟩
      rw [lit_m, vs_c]
      by_cases c45 : c = 45
      · refine ite2 (fun _ => ?_) (fun z => absurd (decide_eq_true c45) z)
        exact ⟨_, rfl, t3, mk .minus 0 (by rw [e0, if_pos c45])⟩
      refine ite2 (fun z => absurd (of_decide_eq_true z) c45) (fun _ => ?_)
      refine ⟨_, rfl, rfl, _, rfl, ?_⟩
      rw [lit_0, vs_c]
      by_cases c48 : c = 48
      · refine ite2 (fun _ => ?_) (fun z => absurd (decide_eq_true c48) z)
        exact ⟨_, rfl, t3, mk .behind 0 (by rw [e0, if_neg c45, if_pos c48])⟩
      refine ite2 (fun z => absurd (of_decide_eq_true z) c48) (fun _ => ?_)
      refine ⟨_, rfl, _, _, rfl, rfl, _, rfl, ?_⟩
      rw [in_d9]
      cases d : dig1 c with
      | true => exact iteT ⟨_, rfl, t3, mk .figures 1 (by rw [e0, if_neg c45, if_neg c48, if_pos d])⟩
      | false => exact iteF ((k _ s1).1 (by rw [e0, if_neg c45, if_neg c48, if_neg (by rw [d]; exact Bool.false_ne_true)]))
    by_cases c40 : c = 40
    · refine ite2 (fun _ => ?_) (fun z => absurd (decide_eq_true c40) z)
      obtain ⟨q, rfl, eq⟩ := hv.mono s1
      refine ⟨_, rfl, q, _, rfl, .inr (SqT.of eq), _, _, rfl, rfl, _, rfl, ?_⟩
      rw [innV_len]
      by_cases l2 : inn.length < 3
      · refine ite2 (fun _ => ?_) (fun z => absurd (decide_eq_true (by omega)) z)
        have eb : auBegun inn c = some ⟨.opened, 0, 0 :: up inn⟩ := by unfold auBegun; rw [if_neg c34, if_pos ⟨c40, l2⟩]
        obtain ⟨q2, rfl, eq2⟩ := id hu
        refine ⟨_, rfl, (by show 1 ≤ sizeLine; decide), fun p1 h1 => ?_⟩
        have g1 := same_new h1 (.tup [.int 0])
        have fin : ∀ p2 H2, Same (upd H1 p1 (.tup [.int 0])) H2 → H2 p2 = some (.tup (innV (0 :: up inn))) → (3 : Nat) ≤ sizeLine ∧ ∀ p, H2 p = none → Q (.ref p) (upd H2 p (.tup [.str (Str.ofString "opened"), .int 0, .ref p2])) := fun p2 H2 s2 e2 => ⟨t3, fun p hp =>
          (k _ (((s1.trans g1).trans s2).trans (same_new hp _))).2 _ _ eb ⟨p, .ref p2, rfl, upd_same, p2, rfl, same_new hp _ _ _ e2⟩⟩
        have ic := innV_cons 0 (up inn)
        by_cases un : innV (up inn) = []
        · refine .inr ⟨q2, p1, _, rfl, rfl, ?_, SqT.of upd_same, fin p1 _ (Same.refl _) ?_⟩
          · have := g1 _ _ eq2
            rw [un] at this
            exact SqT.of this
          · rw [ic, un]; exact upd_same
        · refine .inl ⟨q2, p1, _, _, rfl, rfl, SqT.of (g1 _ _ eq2), SqT.of upd_same, un, ?_, fun z => (by cases z), fun _ p2 h2 => fin p2 _ (same_new h2 _) ?_⟩
          · rw [innV_len, up_len]
            exact Nat.le_trans (show inn.length + 1 ≤ 4 by omega) (by decide)
          · rw [ic]; exact upd_same
      · refine ite2 (fun z => ?_) (fun _ => ?_)
        · have := of_decide_eq_true z
          omega
        exact go45 (fun z => l2 z.2)
    · refine ite2 (fun z => absurd (of_decide_eq_true z) c40) (fun _ => iteF ?_)
      exact go45 (fun z => c40 z.1)
  obtain ⟨tt, htt, hfin⟩ := tail
  refine ⟨_, pss_cons (ps_set (i := 2) nd rfl (Or.inl rfl) (pv 0))
    (pss_cons (ps_if (pt_cmpR (op_neK hr) (pv 0) (pe_tup pa_nil) rfl) (pss_one (ps_set (i := 2) nd rfl (Or.inl rfl) (pe_op (op_catT.or op_catT0) (pe_slice (sl_tup) (pv 0) po_none (po_some (pe_un un_neg pe_int))) (pe_tup (pa_c (pe_op op_add (pe_ix ix_tup (pv 0) (pe_un un_neg pe_int) (fun _ _ => rfl)) pe_int) pa_nil))))) pss_nil) htt), ?_⟩
  refine ⟨_, rfl, ?_⟩
  refine ⟨_, rfl, (by show 0 ≤ sizeLine; decide), fun p0 h0 => ?_⟩
  have g0 := same_new h0 (.tup [])
  refine ⟨_, _, innV_key (hv.mono g0), .tup upd_same .nil, nil_depth inn, _, rfl, ?_⟩
  rw [nil_eqb]
  cases inn with
  | nil => exact iteF (hfin _ v g0 (hv.mono g0))
  | cons a r =>
    refine iteT ?_
    obtain ⟨q, rfl, eq⟩ := hv.mono g0
    have ic := innV_cons a r
    have lq : (innV (a :: r)).length = r.length + 1 := innV_len _
    refine ⟨_, rfl, _, rfl, _, rfl, q, _, rfl, SqT.of eq, ?_, fun p1 h1 => ?_⟩
    · exact cut1_whole (by rw [lq]; omega)
    have g1 := same_new h1 (.tup (cutV (innV (a :: r)) none (some (-1))))
    have cu : cutV (innV (a :: r)) none (some (-1)) = innV r := by
      rw [cut1, lq, ic, Nat.add_sub_cancel, List.take_left' (innV_len r)]
    refine ⟨_, rfl, 1, rfl, q, _, _, _, rfl, rfl, SqT.of (g1 _ _ eq), (by rw [ic]; exact atI_last _ _), _, _, rfl, rfl, (by show 1 ≤ sizeLine; decide), fun p2 h2 => ?_⟩
    have g2 := same_new h2 (.tup [.int ((a : Int) + 1)])
    have e1 := (g2 _ _ (show upd _ p1 (.tup (cutV (innV (a :: r)) none (some (-1)))) p1 = _ from upd_same)).trans (congrArg (fun z => some (HO.tup z)) cu)
    have un : innV (up (a :: r)) = innV r ++ [.int ((a : Int) + 1)] := innV_cons (a + 1) r
    by_cases rn : innV r = []
    · refine .inr ⟨p1, p2, _, rfl, rfl, SqT.of (e1.trans (congrArg (fun z => some (HO.tup z)) rn)), SqT.of upd_same, ?_⟩
      refine hfin _ _ ((g0.trans g1).trans g2) ⟨p2, rfl, ?_⟩
      rw [un, rn]
      exact upd_same
    · refine .inl ⟨p1, p2, _, _, rfl, rfl, SqT.of e1, SqT.of upd_same, rn, ?_, fun z => (by cases z), fun _ p3 h3 => ?_⟩
      · rw [innV_len]
        simp only [List.length_cons] at l3
        exact Nat.le_trans (show r.length + 1 ≤ 4 by omega) (by decide)
      refine hfin _ _ (((g0.trans g1).trans g2).trans (same_new h3 _)) ⟨p3, rfl, ?_⟩
      rw [un]
      exact upd_same
end
end Tw
set_option Elab.async false
set_option linter.all false
set_option maxRecDepth 100000
set_option maxHeartbeats 8000000
namespace Tw
open PySem PySem.Spec L2
theorem lt_sp (c : Nat) : decide ((⟨#[c]⟩ : Str).cps.toList < (Str.ofString " ").cps.toList) = decide (c < 32) := by
  have e1 : (Str.ofString " ").cps.toList = [32] := by decide +kernel
  rw [e1]
  refine decide_eq_decide.mpr ?_
  show ([c] < [32]) ↔ _
  simp [List.cons_lt_cons_iff]
theorem gt_td (c : Nat) : decide ((Str.ofString "~").cps.toList < (⟨#[c]⟩ : Str).cps.toList) = decide (126 < c) := by
  have e1 : (Str.ofString "~").cps.toList = [126] := by decide +kernel
  rw [e1]
  refine decide_eq_decide.mpr ?_
  show ([126] < [c]) ↔ _
  simp [List.cons_lt_cons_iff]
def AuOk (s : Au) : Prop := s.inn.length ≤ 3 ∧ (s.w = .opened → s.inn ≠ [])
theorem begun_ok {inn : List Nat} {c : Nat} {s : Au} (h : inn.length ≤ 3) (e : auBegun inn c = some s) : AuOk s := by
  unfold auBegun at e
  have u := up_len inn
  split at e
  · cases e; exact ⟨by show (up inn).length ≤ 3; omega, fun z => by cases z⟩
  split at e
  · rename_i g
    cases e; exact ⟨by show (up inn).length + 1 ≤ 3; omega, fun _ z => by cases z⟩
  split at e
  · cases e; exact ⟨by show (up inn).length ≤ 3; omega, fun z => by cases z⟩
  split at e
  · cases e; exact ⟨by show (up inn).length ≤ 3; omega, fun z => by cases z⟩
  split at e
  · cases e; exact ⟨by show (up inn).length ≤ 3; omega, fun z => by cases z⟩
  · cases e
theorem within_ok {w : Wd} {n : Nat} {inn : List Nat} {c : Nat} {s : Au} (h : inn.length ≤ 3) (e : auWithin w n inn c = some s) : AuOk s := by
  unfold auWithin at e
  repeat' split at e
  all_goals first | (cases e; done) | (cases e; exact ⟨h, fun z => by cases z⟩)
theorem behind_ok {many : Bool} {inn : List Nat} {c : Nat} {s : Au} (h : inn.length ≤ 3) (e : auBehind many inn c = some s) : AuOk s := by
  unfold auBehind at e
  have t : inn.tail.length ≤ 3 := by rw [List.length_tail]; omega
  repeat' split at e
  all_goals first | (cases e; done) | (cases e; exact ⟨t, fun z => by cases z⟩) | (cases e; exact ⟨h, fun z => by cases z⟩)
theorem step_ok {many : Bool} {s s' : Au} {c : Nat} (h : AuOk s) (e : auStep many s c = some s') : AuOk s' := by
  obtain ⟨w, n, inn⟩ := s
  have t : inn.tail.length ≤ 3 := by rw [List.length_tail]; exact Nat.le_trans (Nat.sub_le _ _) h.1
  cases w with
  | wanted => exact begun_ok h.1 e
  | opened =>
    simp only [auStep] at e
    split at e
    · cases e; exact ⟨t, fun z => by cases z⟩
    · exact begun_ok h.1 e
  | minus => exact within_ok h.1 e
  | text => exact within_ok h.1 e
  | freed => exact within_ok h.1 e
  | figures =>
    simp only [auStep] at e
    split at e
    · cases e; exact ⟨h.1, fun z => by cases z⟩
    · exact behind_ok h.1 e
  | behind => exact behind_ok h.1 e
def spStep : Sp := fun vs H Q _ => ∃ (v : V) (s : Au) (c : Nat) (many : Bool), vs = [v, .str ⟨#[c]⟩, .bl many] ∧ AuAt H s v ∧ AuOk s ∧ ∀ H', Same H H' → (auStep many s c = none → Q .non H') ∧ ∀ s' u, auStep many s c = some s' → AuAt H' s' u → Q u H'
def failV (many : Bool) (T : List Nat) : Int := if many = true ∧ T = [] then -1 else match ver many ⟨.wanted, 0, []⟩ T with
  | none => -1
  | some k => (k : Int)
def spFails : Sp := fun vs H Q _ => ∃ (x : Str) (many : Bool), vs = [.str x, .bl many] ∧ x.length ≤ sizeLine ∧ ∀ H', Same H H' → Q (.int (failV many x.cps.toList)) H'
theorem wd_in3 (w : Wd) : inV (.str (wdS w)) [.str (Str.ofString "minus"), .str (Str.ofString "text"), .str (Str.ofString "freed")] = (decide (w = .minus) || decide (w = .text) || decide (w = .freed)) := by cases w <;> decide +kernel
theorem wd_in2 (w : Wd) : inV (.str (wdS w)) [.str (Str.ofString "opened"), .str (Str.ofString "wanted")] = (decide (w = .opened) || decide (w = .wanted)) := by cases w <;> decide +kernel
theorem wd_inE (w : Wd) : inV (.str (wdS w)) [.str (Str.ofString "figures"), .str (Str.ofString "behind")] = (decide (w = .figures) || decide (w = .behind)) := by cases w <;> decide +kernel
section
variable {P : Program} {w : World} {K : PySem.W.Frag} {mg : Str → Option Value} {base : Heap} {f : Addr} {fd : FuncData} {C : Addr}
abbrev nWithin : List Str := ["_law_word", "_law_count", "_law_inner", "_law_sign"]
theorem scWithin : FnScope nWithin nWithin (defScope sWithin) := ⟨rfl, rfl, rfl, by decide +kernel, rfl, by decide +kernel, by decide +kernel⟩
theorem ok_within (F : Fun K "_law_within" "_law_within" sWithin f fd) : FnOk P w K mg base CX0 1 f fd nWithin spWithin := by
  refine F.ok scWithin (fun vs H Q E h => (by obtain ⟨_, _, _, _, _, rfl, _⟩ := h; rfl)) (fun cdv A outer s H vs Q E hr h => ?_)
  obtain ⟨wd, n, v, inn, c, rfl, h3, hv, k⟩ := h
  refine ⟨_, pss_cons (ps_if (PW.pt (pw_and (pt_cmpR op_eq (pv 0) pe_str (nomark _)) (pw_and1 (pt_cmpR op_in_str (pv 3) pe_str rfl)))) (pss_one (ps_ret (pe_tup (pa3 pe_str pe_int (pv 2))))) pss_nil)
    (pss_cons (ps_if (PW.pt (pw_and (pt_cmpR op_eq (pv 0) pe_str (nomark _)) (pw_and1 (PW.pt (pw_or (pt_cmpR op_eq (pv 3) pe_str (nomark _)) (pw_or1 (pt_cmpR op_eq (pv 3) pe_str (nomark _)))))))) (pss_one (ps_ret (pe_tup (pa3 pe_str (pe_op op_add (pv 1) pe_int) (pv 2))))) pss_nil)
    (pss_cons (ps_if (PW.pt (pw_and (pt_cmpR op_eq (pv 0) pe_str (nomark _)) (pw_and1 (pt_cmpR op_eq (pv 3) pe_str (nomark _))))) (pss_one (ps_ret (pe_tup (pa3 pe_str pe_int (pv 2))))) pss_nil)
    (pss_cons (ps_if (PW.pt (pw_or (pt_cmpR op_ne (pv 0) pe_str (nomark _)) (pw_or (pt_cmpR op_eq (pv 1) pe_int (nomark _)) (pw_or (pt_cmpR op_lt_str (pv 3) pe_str (nomark _)) (pw_or1 (pt_cmpR op_gt_str (pv 3) pe_str (nomark _))))))) (pss_one (ps_ret pe_non)) pss_nil)
    (pss_cons (ps_if (pt_cmpR op_eq (pv 3) pe_str (nomark _)) (pss_one (ps_ret (pe_tup (pa3 pe_str (pv 1) (pv 2))))) pss_nil)
    (pss_one (ps_ret (pe_tup (pa3 pe_str (pe_op op_add (pv 1) pe_int) (pv 2))))))))), ?_⟩
  have t3 : (3 : Nat) ≤ sizeLine := by decide
  have mk : ∀ (wd' : Wd) (n' : Nat), auWithin wd n inn c = some ⟨wd', n', inn⟩ → ∀ p, H p = none → Q (.ref p) (upd H p (.tup [.str (wdS wd'), .int (n' : Int), v])) := fun wd' n' e p hp =>
    (k _ (same_new hp _)).2 _ _ e ⟨p, v, rfl, upd_same, hv.mono (same_new hp _)⟩
  have no : auWithin wd n inn c = none → Q .non H := (k H (Same.refl H)).1
  have wd1 : wd = .minus ∨ wd = .text ∨ wd = .freed := h3
  rcases wd1 with rfl | rfl | rfl
  · refine ⟨_, rfl, rfl, _, rfl, ?_⟩
    rw [wd_minus]
    refine iteT ⟨_, rfl, _, _, rfl, rfl, _, rfl, ?_⟩
    rw [in_d9]
    cases d : dig1 c with
    | true => exact iteT ⟨_, rfl, t3, mk .figures 1 (by unfold auWithin; rw [if_pos ⟨rfl, d⟩])⟩
    | false =>
      refine iteF ⟨_, rfl, rfl, _, rfl, ?_⟩
      rw [wd_freed]
      refine iteF (iteF ⟨_, rfl, rfl, _, rfl, ?_⟩)
      rw [wd_text]
      refine iteF (iteF ⟨_, rfl, rfl, _, rfl, ?_⟩)
      rw [wd_text]
      exact iteT (iteT (no (by unfold auWithin; simp [d])))
  · refine ⟨_, rfl, rfl, _, rfl, ?_⟩
    rw [wd_minus]
    refine iteF (iteF ⟨_, rfl, rfl, _, rfl, ?_⟩)
    rw [wd_freed]
    refine iteF (iteF ⟨_, rfl, rfl, _, rfl, ?_⟩)
    rw [wd_text]
    refine iteT ⟨_, rfl, rfl, _, rfl, ?_⟩
    rw [lit_q1, vs_c]
    by_cases c34 : c = 34
    · refine ite2 (fun _ => ?_) (fun z => absurd (decide_eq_true c34) z)
      exact ⟨_, rfl, t3, mk .behind 0 (by unfold auWithin; simp [c34])⟩
    refine ite2 (fun z => absurd (of_decide_eq_true z) c34) (fun _ => ?_)
    refine ⟨_, rfl, rfl, _, rfl, ?_⟩
    rw [wd_text]
    refine iteF ⟨_, rfl, rfl, _, rfl, ?_⟩
    by_cases n40 : n = 40
    · refine ite2 (fun _ => ?_) (fun z => absurd (decide_eq_true (by rw [n40]; rfl)) z)
      exact (iteT (no (by unfold auWithin; simp [c34, n40])))
    refine ite2 (fun z => ?_) (fun _ => ?_)
    · have := vint_inj (of_decide_eq_true z)
      omega
    refine ⟨_, rfl, _, _, rfl, rfl, _, rfl, ?_⟩
    rw [lt_sp]
    by_cases c32 : c < 32
    · refine ite2 (fun _ => ?_) (fun z => absurd (decide_eq_true c32) z)
      exact (iteT (no (by unfold auWithin; simp [c34, c32])))
    refine ite2 (fun z => absurd (of_decide_eq_true z) c32) (fun _ => ?_)
    refine ⟨_, rfl, _, _, rfl, rfl, _, rfl, ?_⟩
    rw [gt_td]
    by_cases c126 : 126 < c
    · refine ite2 (fun _ => ?_) (fun z => absurd (decide_eq_true c126) z)
      exact no (by unfold auWithin; simp [c34, c126])
    refine ite2 (fun z => absurd (of_decide_eq_true z) c126) (fun _ => ?_)
    refine ⟨_, rfl, rfl, _, rfl, ?_⟩
    rw [lit_b, vs_c]
    have nn4 : ¬ (Wd.text ≠ Wd.text ∨ n = 40 ∨ c < 32 ∨ 126 < c) := by
      rintro (z | z | z | z)
      · exact z rfl
      · exact n40 z
      · exact c32 z
      · exact c126 z
    by_cases c92 : c = 92
    · refine ite2 (fun _ => ?_) (fun z => absurd (decide_eq_true c92) z)
      exact ⟨_, rfl, _, rfl, t3, mk .freed n (by unfold auWithin; rw [if_neg (by simp), if_neg (by simp), if_neg (by simp [c34]), if_neg nn4, if_pos c92])⟩
    refine ite2 (fun z => absurd (of_decide_eq_true z) c92) (fun _ => ?_)
    exact ⟨_, rfl, _, _, rfl, rfl, _, rfl, t3, mk .text (n + 1) (by unfold auWithin; rw [if_neg (by simp), if_neg (by simp), if_neg (by simp [c34]), if_neg nn4, if_neg c92])⟩
  · refine ⟨_, rfl, rfl, _, rfl, ?_⟩
    rw [wd_minus]
    refine iteF (iteF ⟨_, rfl, rfl, _, rfl, ?_⟩)
    rw [wd_freed]
    refine iteT ⟨_, rfl, rfl, _, rfl, ?_⟩
    rw [lit_q1, vs_c]
    have yes : (c = 34 ∨ c = 92) → ∀ p, H p = none → Q (.ref p) (upd H p (.tup [.str (wdS .text), .int ((n + 1 : Nat) : Int), v])) := fun z => mk .text (n + 1) (by unfold auWithin; rw [if_neg (by simp), if_pos ⟨rfl, z⟩])
    by_cases c34 : c = 34
    · refine ite2 (fun _ => ?_) (fun z => absurd (decide_eq_true c34) z)
      exact (iteT ⟨_, rfl, _, _, rfl, rfl, _, rfl, t3, yes (.inl c34)⟩)
    refine ite2 (fun z => absurd (of_decide_eq_true z) c34) (fun _ => ?_)
    refine ⟨_, rfl, rfl, _, rfl, ?_⟩
    rw [lit_b, vs_c]
    by_cases c92 : c = 92
    · refine ite2 (fun _ => ?_) (fun z => absurd (decide_eq_true c92) z)
      exact ⟨_, rfl, _, _, rfl, rfl, _, rfl, t3, yes (.inr c92)⟩
    refine ite2 (fun z => absurd (of_decide_eq_true z) c92) (fun _ => ?_)
    refine ⟨_, rfl, rfl, _, rfl, ?_⟩
    rw [wd_text]
    refine iteF (iteF ⟨_, rfl, rfl, _, rfl, ?_⟩)
    rw [wd_text]
    exact iteT (iteT (no (by unfold auWithin; simp [c34, c92])))
end
end Tw
set_option Elab.async false
set_option linter.all false
set_option maxRecDepth 100000
set_option maxHeartbeats 8000000
namespace Tw
open PySem PySem.Spec L2
section
variable {P : Program} {w : World} {K : PySem.W.Frag} {mg : Str → Option Value} {base : Heap} {f : Addr} {fd : FuncData} {C : Addr}
abbrev nStep : List Str := ["_law_state", "_law_sign", "_law_many", "_law_word", "_law_count", "_law_inner"]
theorem scStep : FnScope nStep ["_law_state", "_law_sign", "_law_many"] (defScope sStep) := ⟨rfl, rfl, rfl, by decide +kernel, rfl, by decide +kernel, by decide +kernel⟩
theorem ok_step (F : Fun K "_law_step" "_law_step" sStep f fd) (T : Txt mg) (DB : DefOk P w K mg base 1 "_law_begun" ["_law_inner", "_law_sign"] spBegun) (DW : DefOk P w K mg base 1 "_law_within" nWithin spWithin) : FnOk P w K mg base CX0 2 f fd ["_law_state", "_law_sign", "_law_many"] spStep := by
  refine F.ok scStep (fun vs H Q E h => (by obtain ⟨_, _, _, _, rfl, _⟩ := h; rfl)) (fun cdv A outer s H vs Q E hr h => ?_)
  obtain ⟨v, st, c, many, rfl, hv, hok, k⟩ := h
  obtain ⟨wd, n, inn⟩ := st
  have nd := scStep.nd
  obtain ⟨p, u, rfl, ep, hu⟩ := hv
  dsimp only at ep hu
  have t3 : (3 : Nat) ≤ sizeLine := by decide
  have t0 : (0 : Nat) ≤ sizeLine := by decide
  have nilv : innV inn = [] ↔ inn = [] := by
    have := innV_len inn
    constructor
    · intro z; rw [z] at this; exact List.eq_nil_of_length_eq_zero this.symm
    · intro z; rw [z]; rfl
  have tail2 : ∃ tt, PSs (cxOf CX0 P w K mg base nStep "_law_step" (defScope sStep) f cdv A outer s H E).nox ((defBody sStep).drop 6) tt ∧
      ∀ H1, Same H H1 → auStep many ⟨wd, n, inn⟩ c = (if c = 32 ∧ (inn = [] ∧ many = true ∨ inn ≠ [] ∧ inn.headD 0 < 4) then some ⟨.wanted, 0, inn⟩ else none) → tt { nx := fun _ H' => Q .non H', rt := Q } [some (.ref p), some (.str ⟨#[c]⟩), some (.bl many), some (.str (wdS wd)), some (.int (n : Int)), some u] H1 := by
    refine ⟨_, pss_cons (ps_if (PW.pt (pw_and (pt_cmpR op_eq (pv 1) pe_str (nomark _)) (pw_and1 (PW.pt (pw_or (PW.pt (pw_and (pt_cmpR (op_eqNil (Room.key hr (Nat.zero_le _))) (pv 5) (pe_tup pa_nil) rfl) (pw_and1 (pt_val (pv 2))))) (pw_or1 (PW.pt (pw_and (pt_cmpR (op_neK hr) (pv 5) (pe_tup pa_nil) rfl) (pw_and1 (pt_cmpR op_lt (pe_ix ix_tup (pv 5) (pe_un un_neg pe_int) (fun _ _ => rfl)) pe_int (nomark _))))))))))) (pss_one (ps_ret (pe_tup (pa3 pe_str pe_int (pv 5))))) pss_nil)
      (pss_one (ps_ret pe_non)), ?_⟩
    intro H1 s1 ea
    have no : ∀ H2, Same H1 H2 → ¬ (c = 32 ∧ (inn = [] ∧ many = true ∨ inn ≠ [] ∧ inn.headD 0 < 4)) → Q .non H2 := fun H2 s2 e => (k _ (s1.trans s2)).1 (by rw [ea, if_neg e])
    have yes : ∀ H2, Same H1 H2 → c = 32 ∧ (inn = [] ∧ many = true ∨ inn ≠ [] ∧ inn.headD 0 < 4) → ∀ q, H2 q = none → Q (.ref q) (upd H2 q (.tup [.str (wdS .wanted), .int 0, u])) := fun H2 s2 e q hq =>
      (k _ ((s1.trans s2).trans (same_new hq _))).2 _ _ (by rw [ea, if_pos e]) ⟨q, u, rfl, upd_same, hu.mono ((s1.trans s2).trans (same_new hq _))⟩
    refine ⟨_, rfl, rfl, _, rfl, ?_⟩
    rw [lit_sp, vs_c]
    by_cases c32 : c = 32
    · refine ite2 (fun _ => ?_) (fun z => absurd (decide_eq_true c32) z)
      refine ⟨_, rfl, t0, fun p0 h0 => ?_⟩
      have g0 := same_new h0 (.tup [])
      obtain ⟨q, rfl, eq⟩ := hu.mono (s1.trans g0)
      refine ⟨q, p0, _, rfl, rfl, SqT.of eq, SqT.of upd_same, _, rfl, ?_⟩
      by_cases n0 : inn = []
      · rw [decide_eq_true (nilv.mpr n0)]
        refine iteT ⟨_, rfl, _, rfl, ?_⟩
        cases many with
        | true => exact iteT (iteT ⟨_, rfl, t3, yes _ g0 ⟨c32, .inl ⟨n0, rfl⟩⟩⟩)
        | false =>
          refine iteF ⟨_, rfl, t0, fun p1 h1 => ?_⟩
          have g1 := same_new h1 (.tup [])
          refine ⟨_, _, innV_key ⟨q, rfl, g1 _ _ eq⟩, .tup upd_same .nil, nil_depth inn, _, rfl, ?_⟩
          rw [nil_eqb, decide_eq_true n0]
          refine iteF (iteF ?_)
          exact no _ (g0.trans g1) (by rintro ⟨_, z | z⟩ <;> simp [n0] at z)
      · rw [decide_eq_false (fun z => n0 (nilv.mp z))]
        refine iteF (iteF ⟨_, rfl, t0, fun p1 h1 => ?_⟩)
        have g1 := same_new h1 (.tup [])
        refine ⟨_, _, innV_key ⟨q, rfl, g1 _ _ eq⟩, .tup upd_same .nil, nil_depth inn, _, rfl, ?_⟩
        rw [nil_eqb, decide_eq_false n0]
        refine iteT ?_
        obtain ⟨a, r, rfl⟩ : ∃ a r, inn = a :: r := by
          cases inn with
          | nil => exact absurd rfl n0
          | cons a r => exact ⟨a, r, rfl⟩
        refine ⟨_, rfl, 1, rfl, q, _, _, _, rfl, rfl, SqT.of (g1 _ _ eq), (by rw [innV_cons]; exact atI_last _ _), _, _, rfl, rfl, _, rfl, ?_⟩
        by_cases a4 : a < 4
        · refine ite2 (fun _ => ?_) (fun z => absurd (decide_eq_true (by omega)) z)
          exact ⟨_, rfl, t3, yes _ (g0.trans g1) ⟨c32, .inr ⟨n0, a4⟩⟩⟩
        · refine ite2 (fun z => ?_) (fun _ => ?_)
          · have := of_decide_eq_true z
            omega
          exact no _ (g0.trans g1) (by rintro ⟨_, z | z⟩ <;> simp at z; omega)
    · refine ite2 (fun z => absurd (of_decide_eq_true z) c32) (fun _ => iteF ?_)
      exact no _ (Same.refl _) (fun z => c32 z.1)
  obtain ⟨tt2, htt2, hfin2⟩ := tail2
  have cut : ∀ (H1 : Hp), Same H H1 → ∀ q, u = .ref q → inn ≠ [] → (¬ (HT.sIx (innV inn).length 0 none = 0 ∧ HT.sIx (innV inn).length (innV inn).length (some (-1)) = (innV inn).length)) ∧ cutV (innV inn) none (some (-1)) = innV inn.tail := fun H1 s1 q _ ne => by
    have l := innV_len inn
    have l0 : inn.length ≠ 0 := fun z => ne (List.eq_nil_of_length_eq_zero z)
    refine ⟨cut1_whole (by omega), ?_⟩
    obtain ⟨a, r, rfl⟩ : ∃ a r, inn = a :: r := by
      cases inn with
      | nil => exact absurd rfl ne
      | cons a r => exact ⟨a, r, rfl⟩
    rw [cut1, l, innV_cons]
    exact List.take_left' (innV_len r)
  have back : ∀ (H1 : Hp), Same H H1 → inn ≠ [] → auStep many ⟨wd, n, inn⟩ c = some ⟨.behind, 0, inn.tail⟩ → ∀ p1, H1 p1 = none → ∀ p2, upd H1 p1 (.tup (cutV (innV inn) none (some (-1)))) p2 = none →
      Q (.ref p2) (upd (upd H1 p1 (.tup (cutV (innV inn) none (some (-1))))) p2 (.tup [.str (Str.ofString "behind"), .int 0, .ref p1])) := fun H1 s1 ne ea p1 h1 p2 h2 => by
    obtain ⟨q, e, _⟩ := id hu
    have cu := (cut H1 s1 q e ne).2
    have g1 := same_new h1 (.tup (cutV (innV inn) none (some (-1))))
    have g2 := same_new h2 (.tup [.str (Str.ofString "behind"), .int 0, .ref p1])
    refine (k _ ((s1.trans g1).trans g2)).2 _ _ ea ⟨p2, .ref p1, rfl, upd_same, p1, rfl, ?_⟩
    exact (g2 _ _ upd_same).trans (congrArg (fun z => some (HO.tup z)) cu)
  have tail : ∃ tt, PSs (cxOf CX0 P w K mg base nStep "_law_step" (defScope sStep) f cdv A outer s H E).nox ((defBody sStep).drop 5) tt ∧
      ∀ H1, Same H H1 → auStep many ⟨wd, n, inn⟩ c = auBehind many inn c → tt { nx := fun _ H' => Q .non H', rt := Q } [some (.ref p), some (.str ⟨#[c]⟩), some (.bl many), some (.str (wdS wd)), some (.int (n : Int)), some u] H1 := by
    refine ⟨_, pss_cons (ps_if (PW.pt (pw_and (pt_cmpR op_eq (pv 1) pe_str (nomark _)) (pw_and1 (pt_cmpR (op_neK hr) (pv 5) (pe_tup pa_nil) rfl)))) (pss_one (ps_ret (pe_tup (pa3 pe_str pe_int (pe_slice sl_tup (pv 5) po_none (po_some (pe_un un_neg pe_int))))))) pss_nil) htt2, ?_⟩
    intro H1 s1 ea
    unfold auBehind at ea
    refine ⟨_, rfl, rfl, _, rfl, ?_⟩
    rw [lit_cl, vs_c]
    by_cases c41 : c = 41
    · refine ite2 (fun _ => ?_) (fun z => absurd (decide_eq_true c41) z)
      refine ⟨_, rfl, t0, fun p0 h0 => ?_⟩
      have g0 := same_new h0 (.tup [])
      refine ⟨_, _, innV_key (hu.mono (s1.trans g0)), .tup upd_same .nil, nil_depth inn, _, rfl, ?_⟩
      rw [nil_eqb]
      by_cases n0 : inn = []
      · rw [decide_eq_true n0]
        refine iteF ?_
        exact hfin2 _ (s1.trans g0) (by rw [ea, if_neg (fun z => z.2 n0)])
      · rw [decide_eq_false n0]
        refine iteT ?_
        obtain ⟨q, e, eq⟩ := hu.mono (s1.trans g0)
        have cu := cut _ (s1.trans g0) q e n0
        subst e
        refine ⟨_, rfl, _, rfl, _, rfl, q, _, rfl, SqT.of eq, cu.1, fun p1 h1 => ⟨t3, back _ (s1.trans g0) n0 (by rw [ea, if_pos ⟨c41, n0⟩]) p1 h1⟩⟩
    · refine ite2 (fun z => absurd (of_decide_eq_true z) c41) (fun _ => iteF ?_)
      exact hfin2 _ s1 (by rw [ea, if_neg (fun z => c41 z.1)])
  obtain ⟨tt, htt, hfin⟩ := tail
  refine ⟨_, pss_cons (ps_asg (pv 0) (pg_tup rfl (pgs_cons (pg_name (i := 3) nd rfl (Or.inl rfl)) (pgs_cons (pg_name (i := 4) nd rfl (Or.inl rfl)) (pgs_cons (pg_name (i := 5) nd rfl (Or.inl rfl)) pgs_nil)))))
    (pss_cons (ps_if (pt_cmpR op_in_seq (pv 3) (pe_lst (pa3 pe_str pe_str pe_str)) rfl) (pss_one (ps_ret (pe_def DW (hr.mono (show 1 ≤ 1 by decide)) (pa4 (pv 3) (pv 4) (pv 5) (pv 1))))) pss_nil)
    (pss_cons (ps_if (PW.pt (pw_and (pt_cmpR op_eq (pv 3) pe_str (nomark _)) (pw_and1 (pt_cmpR op_eq (pv 1) pe_str (nomark _))))) (pss_one (ps_ret (pe_tup (pa3 pe_str pe_int (pe_slice sl_tup (pv 5) po_none (po_some (pe_un un_neg pe_int))))))) pss_nil)
    (pss_cons (ps_if (pt_cmpR op_in_seq (pv 3) (pe_lst (pa_c pe_str (pa_c pe_str pa_nil))) rfl) (pss_one (ps_ret (pe_def DB (hr.mono (show 1 ≤ 1 by decide)) (pa_c (pv 5) (pa_c (pv 1) pa_nil))))) pss_nil)
    (pss_cons (ps_if (PW.pt (pw_and (pt_cmpR op_eq (pv 3) pe_str (nomark _)) (pw_and (pt_cmpR op_in_str (pv 1) pe_str rfl) (pw_and1 (pt_cmpR op_lt (pv 4) pe_int (nomark _)))))) (pss_one (ps_ret (pe_tup (pa3 pe_str (pe_op op_add (pv 4) pe_int) (pv 5))))) pss_nil) htt)))), ?_⟩
  refine ⟨_, rfl, p, _, rfl, SqT.of ep, rfl, _, _, rfl, _, _, rfl, _, _, rfl, rfl, ?_⟩
  refine ⟨_, rfl, t3, fun p1 h1 => ?_⟩
  have g1 := same_new h1 (.lst [.str (Str.ofString "minus"), .str (Str.ofString "text"), .str (Str.ofString "freed")])
  refine ⟨p1, _, rfl, .inl (SqL.of upd_same), rfl, rfl, _, rfl, ?_⟩
  rw [if_neg Bool.false_ne_true, wd_in3]
  have win : ∀ wd', wd = wd' → (wd' = .minus ∨ wd' = .text ∨ wd' = .freed) → auStep many ⟨wd, n, inn⟩ c = auWithin wd n inn c → spWithin [.str (wdS wd), .int (n : Int), u, .str ⟨#[c]⟩] (upd H p1 (.lst [.str (Str.ofString "minus"), .str (Str.ofString "text"), .str (Str.ofString "freed")])) Q E0 := fun wd' e h3 ea =>
    ⟨wd, n, u, inn, c, rfl, by rw [e]; exact h3, hu.mono g1, fun H2 s2 => ⟨fun z => (k H2 (g1.trans s2)).1 (by rw [ea]; exact z), fun s' u' z => (k H2 (g1.trans s2)).2 s' u' (by rw [ea]; exact z)⟩⟩
  have beg : ∀ H2, Same H H2 → auStep many ⟨wd, n, inn⟩ c = auBegun inn c → spBegun [u, .str ⟨#[c]⟩] H2 Q E0 := fun H2 s2 ea =>
    ⟨u, inn, c, rfl, hu.mono s2, hok.1, fun H3 s3 => ⟨fun z => (k H3 (s2.trans s3)).1 (by rw [ea]; exact z), fun s' u' z => (k H3 (s2.trans s3)).2 s' u' (by rw [ea]; exact z)⟩⟩
  cases wd with
  | minus => exact iteT ⟨_, rfl, _, rfl, _, rfl, _, rfl, win .minus rfl (.inl rfl) rfl⟩
  | text => exact iteT ⟨_, rfl, _, rfl, _, rfl, _, rfl, win .text rfl (.inr (.inl rfl)) rfl⟩
  | freed => exact iteT ⟨_, rfl, _, rfl, _, rfl, _, rfl, win .freed rfl (.inr (.inr rfl)) rfl⟩
  | wanted =>
    refine iteF ⟨_, rfl, rfl, _, rfl, ?_⟩
    rw [wd_opened]
    refine iteF (iteF ⟨_, rfl, (by show 2 ≤ sizeLine; decide), fun p2 h2 => ?_⟩)
    have g2 := same_new h2 (.lst [.str (Str.ofString "opened"), .str (Str.ofString "wanted")])
    refine ⟨p2, _, rfl, .inl (SqL.of upd_same), rfl, rfl, _, rfl, ?_⟩
    rw [if_neg Bool.false_ne_true, wd_in2]
    exact iteT ⟨_, rfl, _, rfl, beg _ (g1.trans g2) rfl⟩
  | opened =>
    refine iteF ⟨_, rfl, rfl, _, rfl, ?_⟩
    rw [wd_opened]
    refine iteT ⟨_, rfl, rfl, _, rfl, ?_⟩
    rw [lit_cl, vs_c]
    have n0 := hok.2 rfl
    by_cases c41 : c = 41
    · refine ite2 (fun _ => ?_) (fun z => absurd (decide_eq_true c41) z)
      obtain ⟨q, e, eq⟩ := hu.mono g1
      have cu := cut _ g1 q e n0
      subst e
      exact ⟨_, rfl, _, rfl, _, rfl, q, _, rfl, SqT.of eq, cu.1, fun p3 h3 => ⟨t3, back _ g1 n0 (by show (if c = 41 then _ else _) = _; rw [if_pos c41]) p3 h3⟩⟩
    refine ite2 (fun z => absurd (of_decide_eq_true z) c41) (fun _ => ?_)
    refine ⟨_, rfl, (by show 2 ≤ sizeLine; decide), fun p2 h2 => ?_⟩
    have g2 := same_new h2 (.lst [.str (Str.ofString "opened"), .str (Str.ofString "wanted")])
    refine ⟨p2, _, rfl, .inl (SqL.of upd_same), rfl, rfl, _, rfl, ?_⟩
    rw [if_neg Bool.false_ne_true, wd_in2]
    exact iteT ⟨_, rfl, _, rfl, beg _ (g1.trans g2) (by show (if c = 41 then _ else _) = _; rw [if_neg c41])⟩
  | figures =>
    refine iteF ⟨_, rfl, rfl, _, rfl, ?_⟩
    rw [wd_opened]
    refine iteF (iteF ⟨_, rfl, (by show 2 ≤ sizeLine; decide), fun p2 h2 => ?_⟩)
    have g2 := same_new h2 (.lst [.str (Str.ofString "opened"), .str (Str.ofString "wanted")])
    refine ⟨p2, _, rfl, .inl (SqL.of upd_same), rfl, rfl, _, rfl, ?_⟩
    rw [if_neg Bool.false_ne_true, wd_in2]
    refine iteF ⟨_, rfl, rfl, _, rfl, ?_⟩
    rw [wd_figures]
    refine iteT ⟨_, rfl, _, _, rfl, rfl, _, rfl, ?_⟩
    rw [in_d10]
    have rest : ¬ (isDig c = true ∧ n < 60) → auStep many ⟨.figures, n, inn⟩ c = auBehind many inn c := fun z => by
      show (if isDig c = true ∧ n < 60 then _ else _) = _
      rw [if_neg z]
    cases d : isDig c with
    | false => exact iteF (iteF (hfin _ (g1.trans g2) (rest (by rw [d]; simp))))
    | true =>
      refine iteT ⟨_, rfl, _, _, rfl, rfl, _, rfl, ?_⟩
      by_cases n60 : n < 60
      · refine ite2 (fun _ => ?_) (fun z => absurd (decide_eq_true (by omega)) z)
        refine ⟨_, rfl, _, _, rfl, rfl, _, rfl, t3, fun p3 h3 => ?_⟩
        have g3 := same_new h3 (.tup [.str (Str.ofString "figures"), .int ((n : Int) + 1), u])
        refine (k _ ((g1.trans g2).trans g3)).2 ⟨.figures, n + 1, inn⟩ _ ?_ ⟨p3, u, rfl, upd_same, hu.mono ((g1.trans g2).trans g3)⟩
        show (if isDig c = true ∧ n < 60 then _ else _) = _
        rw [if_pos ⟨d, n60⟩]
      · refine ite2 (fun z => ?_) (fun _ => ?_)
        · have := of_decide_eq_true z
          omega
        exact hfin _ (g1.trans g2) (rest (fun z => n60 z.2))
  | behind =>
    refine iteF ⟨_, rfl, rfl, _, rfl, ?_⟩
    rw [wd_opened]
    refine iteF (iteF ⟨_, rfl, (by show 2 ≤ sizeLine; decide), fun p2 h2 => ?_⟩)
    have g2 := same_new h2 (.lst [.str (Str.ofString "opened"), .str (Str.ofString "wanted")])
    refine ⟨p2, _, rfl, .inl (SqL.of upd_same), rfl, rfl, _, rfl, ?_⟩
    rw [if_neg Bool.false_ne_true, wd_in2]
    refine iteF ⟨_, rfl, rfl, _, rfl, ?_⟩
    rw [wd_figures]
    exact iteF (iteF (hfin _ (g1.trans g2) rfl))
end
end Tw
set_option Elab.async false
set_option linter.all false
set_option maxRecDepth 100000
set_option maxHeartbeats 8000000
namespace Tw
open PySem PySem.Spec L2
theorem ver_at {many : Bool} {T : List Nat} {i c : Nat} {s : Au} (h : ver many ⟨.wanted, 0, []⟩ T = sh i (ver many s (T.drop i))) (hc : T[i]? = some c) : (auStep many s c = none → ver many ⟨.wanted, 0, []⟩ T = some i) ∧ ∀ s', auStep many s c = some s' → ver many ⟨.wanted, 0, []⟩ T = sh (i + 1) (ver many s' (T.drop (i + 1))) := by
  have lt := (List.getElem?_eq_some_iff.mp hc).1
  have d : T.drop i = c :: T.drop (i + 1) := by
    rw [List.drop_eq_getElem_cons lt, (List.getElem?_eq_some_iff.mp hc).2]
  refine ⟨fun e => ?_, fun s' e => ?_⟩
  · rw [h, d, ver_no e, sh_some, Nat.zero_add]
  · rw [h, d, ver_some e, sh_sh, Nat.add_comm]
section
variable {P : Program} {w : World} {K : PySem.W.Frag} {mg : Str → Option Value} {base : Heap} {f : Addr} {fd : FuncData} {C : Addr}
abbrev nFails : List Str := ["_law_text_here", "_law_many", "_law_state", "_law_k"]
theorem scFails : FnScope nFails ["_law_text_here", "_law_many"] (defScope sFails) := ⟨rfl, rfl, rfl, by decide +kernel, rfl, by decide +kernel, by decide +kernel⟩
theorem ok_fails (F : Fun K "_law_fails" "_law_fails" sFails f fd) (T : Txt mg) (DS : DefOk P w K mg base 2 "_law_step" ["_law_state", "_law_sign", "_law_many"] spStep) : FnOk P w K mg base CX0 3 f fd ["_law_text_here", "_law_many"] spFails := by
  refine F.ok scFails (fun vs H Q E h => (by obtain ⟨_, _, rfl, _⟩ := h; rfl)) (fun cdv A outer s H vs Q E hr h => ?_)
  obtain ⟨x, many, rfl, hl, k⟩ := h
  have nd := scFails.nd
  refine ⟨_, pss_cons (ps_set (i := 2) nd rfl (Or.inl rfl) (pe_tup (pa3 pe_str pe_int (pe_tup pa_nil))))
    (pss_cons (ps_for PassesOwn.never rfl (pi_range1 rfl T.range (pa_c (pe_callB call_len_str rfl T.len tb_len (pa_c (pv 0) pa_nil)) pa_nil)) (pg_name (i := 3) nd rfl (Or.inl rfl))
      (pss_cons (ps_set (i := 2) nd rfl (Or.inl rfl) (pe_def DS hr (pa3 (pv 2) (pe_ix ix_str (pv 0) (pv 3) (fun _ _ => rfl)) (pv 1))))
      (pss_one (ps_if (pt_cmpR op_isN (pv 2) pe_non (nomark _)) (pss_one (ps_ret (pv 3))) pss_nil))))
    (pss_cons (ps_if (PW.pt (pw_or (PW.pt (pw_and (pt_cmpR op_in_seq (pe_ix ix_tup (pv 2) pe_int (fun _ _ => rfl)) (pe_lst (pa_c pe_str (pa_c pe_str pa_nil))) rfl) (pw_and1 (pt_cmpR (op_eqNil (Room.key hr (Nat.zero_le _))) (pe_ix ix_tup (pv 2) pe_int (fun _ _ => rfl)) (pe_tup pa_nil) rfl)))) (pw_or1 (PW.pt (pw_and (pt_val (pv 1)) (pw_and1 (pt_cmpR op_eq (pv 0) pe_str (nomark _)))))))) (pss_one (ps_ret (pe_un un_neg pe_int))) pss_nil)
    (pss_one (ps_ret (pe_callB call_len_str rfl T.len tb_len (pa_c (pv 0) pa_nil)))))), ?_⟩
  have t3 : (3 : Nat) ≤ sizeLine := by decide
  have t0 : (0 : Nat) ≤ sizeLine := by decide
  have t2 : (2 : Nat) ≤ sizeLine := by decide
  have xl : x.cps.toList.length = x.length := by simp [Str.length]
  refine ⟨t0, fun p0 h0 => ⟨t3, fun p1 h1 => ?_⟩⟩
  have g0 := same_new h0 (.tup [])
  have g1 := same_new h1 (.tup [.str (Str.ofString "wanted"), .int 0, .ref p0])
  refine ⟨_, rfl, x, rfl, hl, _, rfl, by omega, by have := hl; rw [sizeLine_eq] at this; omega, ?_⟩
  refine for_range (n := x.length) (fun i σ H2 => ∃ (v : V) (st : Au) (j : Option V), σ = [some (.str x), some (.bl many), some v, j] ∧ Same H H2 ∧ AuAt H2 st v ∧ AuOk st ∧ ver many ⟨.wanted, 0, []⟩ x.cps.toList = sh i (ver many st (x.cps.toList.drop i)) ∧ (i = 0 → st = ⟨.wanted, 0, []⟩))
    ⟨.ref p1, ⟨.wanted, 0, []⟩, none, rfl, g0.trans g1, ⟨p1, .ref p0, rfl, upd_same, p0, rfl, g1 _ _ upd_same⟩, ⟨by simp, fun z => by cases z⟩, by rw [sh_0, List.drop_zero], fun _ => rfl⟩ ?_ ?_
  · rintro i σ H2 hi ⟨v, st, j, rfl, s2, hv, hok, hver, _⟩
    obtain ⟨c, hc⟩ : ∃ c, x.cps.toList[i]? = some c := ⟨_, List.getElem?_eq_getElem (by omega)⟩
    have va := ver_at hver hc
    have e0 : (0 : Int) + (i : Int) = ((i : Nat) : Int) := by omega
    refine ⟨_, rfl, _, rfl, _, rfl, x, _, c, rfl, rfl, hl, (by rw [e0]; exact atI_nat hc), _, rfl, v, st, c, many, rfl, hv, hok, fun H3 s3 => ⟨fun e => ?_, fun st' u e hu => ?_⟩⟩
    · refine ⟨_, rfl, rfl, _, rfl, iteT ⟨_, rfl, ?_⟩⟩
      have kk := k H3 (s2.trans s3)
      unfold failV at kk
      rw [if_neg (fun z => by have := z.2; rw [this] at hc; simp at hc), va.1 e] at kk
      rw [e0]
      exact kk
    · have nn : u ≠ .non := by obtain ⟨_, _, rfl, _⟩ := hu; exact fun z => by cases z
      refine ⟨_, rfl, rfl, _, rfl, ?_⟩
      rw [decide_eq_false nn]
      exact iteF ⟨u, st', _, rfl, s2.trans s3, hu, step_ok hok e, va.2 st' e, fun z => by omega⟩
  · rintro σ H2 ⟨v, st, j, rfl, s2, hv, hok, hver, h00⟩
    rw [List.drop_eq_nil_of_le (by omega)] at hver
    obtain ⟨p, u, rfl, ep, q, rfl, eq⟩ := hv
    have no : ∀ H3, Same H H3 → auEnds st = false → ¬ (many = true ∧ x.cps.toList = []) → Q (.int (x.length : Int)) H3 := fun H3 s3 e n => by
      have kk := k H3 s3
      unfold failV at kk
      rw [if_neg n, hver, ver, if_neg (by rw [e]; exact Bool.false_ne_true)] at kk
      have e9 : (((0 + x.length : Nat)) : Int) = (x.length : Int) := by omega
      rw [← e9]
      exact kk
    have yes : ∀ H3, Same H H3 → (auEnds st = true ∨ (many = true ∧ x.cps.toList = [])) → Q (.int (-1)) H3 := fun H3 s3 e => by
      have kk := k H3 s3
      unfold failV at kk
      by_cases n : many = true ∧ x.cps.toList = []
      · rw [if_pos n] at kk; exact kk
      · rw [if_neg n, hver, ver, if_pos (e.resolve_right n)] at kk
        exact kk
    have last : ∀ H3, Same H2 H3 → auEnds st = false → ∀ Kk : Bool → Hp → Prop, (∀ H4, Q (.int (-1)) H4 → Kk true H4) → (∀ H4, Q (.int (x.length : Int)) H4 → Kk false H4) → (tAnd (tB (tVar 1)) (tTest (tOp rEq (tVar 0) (tC (V.str (Str.ofString "")))))) [some (.str x), some (.bl many), some (.ref p), j] H3 Kk := fun H3 s3 e Kk kT kF => by
      refine ⟨_, rfl, _, rfl, ?_⟩
      cases many with
      | false => exact iteF (kF _ (no _ (s2.trans s3) e (by simp)))
      | true =>
        refine iteT ⟨_, rfl, rfl, _, rfl, ?_⟩
        have ex : (V.str x = V.str (Str.ofString "")) ↔ x.cps.toList = [] := by
          have en : (Str.ofString "").cps.toList = [] := by decide +kernel
          constructor
          · intro z; injection z with z; rw [z]; exact en
          · intro z; rw [str_eq z]; rfl
        by_cases n : x.cps.toList = []
        · rw [decide_eq_true (ex.mpr n)]
          exact kT _ (yes _ (s2.trans s3) (.inr ⟨rfl, n⟩))
        · rw [decide_eq_false (fun z => n (ex.mp z))]
          exact kF _ (no _ (s2.trans s3) e (fun z => n z.2))
    refine ⟨_, rfl, p, _, _, _, rfl, rfl, SqT.of ep, rfl, t2, fun p2 h2 => ?_⟩
    have g2 := same_new h2 (.lst [.str (Str.ofString "figures"), .str (Str.ofString "behind")])
    refine ⟨p2, _, rfl, .inl (SqL.of upd_same), rfl, rfl, _, rfl, ?_⟩
    rw [if_neg Bool.false_ne_true, wd_inE]
    have rT : ∀ H4, Q (.int (-1)) H4 → ∃ i, V.int 1 = .int i ∧ Q (.int (-i)) H4 := fun H4 z => ⟨1, rfl, z⟩
    have rF : ∀ H4, Q (.int (x.length : Int)) H4 → ∃ z, [V.str x] = [.str z] ∧ z.length ≤ sizeLine ∧ Q (.int z.length) H4 := fun H4 z => ⟨x, rfl, hl, z⟩
    cases wE : (decide (st.w = .figures) || decide (st.w = .behind)) with
    | false =>
      refine iteF (last _ g2 (by unfold auEnds; rw [wE, Bool.false_and]) _ (fun H4 z => iteT ?_) (fun H4 z => iteF ?_))
      · exact rT H4 z
      · exact ⟨_, rfl, rF H4 z⟩
    | true =>
      refine iteT ⟨_, rfl, p, _, _, _, rfl, rfl, SqT.of (g2 _ _ ep), rfl, t0, fun p3 h3 => ?_⟩
      have g3 := same_new h3 (.tup [])
      refine ⟨q, p3, _, rfl, rfl, SqT.of (g3 _ _ (g2 _ _ eq)), SqT.of upd_same, _, rfl, ?_⟩
      have nilv : innV st.inn = [] ↔ st.inn = [] := by
        have := innV_len st.inn
        constructor
        · intro z; rw [z] at this; exact List.eq_nil_of_length_eq_zero this.symm
        · intro z; rw [z]; rfl
      by_cases n0 : st.inn = []
      · rw [decide_eq_true (nilv.mpr n0)]
        refine iteT (iteT (rT _ (yes _ (s2.trans (g2.trans g3)) (.inl ?_))))
        unfold auEnds
        rw [wE, decide_eq_true n0]
        rfl
      · rw [decide_eq_false (fun z => n0 (nilv.mp z))]
        refine iteF (last _ (g2.trans g3) (by unfold auEnds; rw [decide_eq_false n0, Bool.and_false]) _ (fun H4 z => iteT ?_) (fun H4 z => iteF ?_))
        · exact rT H4 z
        · exact ⟨_, rfl, rF H4 z⟩
end
end Tw
set_option Elab.async false
set_option linter.all false
set_option maxRecDepth 100000
set_option maxHeartbeats 8000000
namespace L2
open PySem PySem.Spec PyProof.Rows
section
variable {X : Cx}
end
end L2
namespace L2
open PySem PySem.Spec PyProof.Rows
section
variable {X : Cx}
theorem rep_sz (a : Array Nat) : ∀ (k : Nat) (b : Array Nat), ((List.replicate k a).foldl (· ++ ·) b).size = b.size + k * a.size
  | 0, b => by simp
  | k + 1, b => by
    rw [List.replicate_succ, List.foldl_cons, rep_sz a k, Array.size_append, Nat.succ_mul]
    omega
/-- a text of one or two signs, some times: a text -/
theorem op_mulT' : OpR X (binaryOp .Mult) (fun x y H Q => ∃ i n, x = .str i ∧ y = .int n ∧ 1 ≤ i.length ∧ i.length ≤ 2 ∧ 1 ≤ n ∧ n ≤ 400 ∧ ∀ z : Str, z.length ≤ 2 * n.toNat → Q (.str z) H) := by
  intro pins s σ H x y v u Q I rx ry h
  obtain ⟨i, n, rfl, rfl, h1, h2, n1, n2, q⟩ := h
  obtain ⟨t, rfl⟩ := rx
  obtain ⟨t', rfl⟩ := ry
  have a1 : ¬ n < 1 := by omega
  have hi2 : i.length = 1 ∨ i.length = 2 := by omega
  refine PySem.P.mul_str ?_ (fun _ _ => ?_) (fun _ _ => ?_) ?_
  · rw [decide_eq_false (by omega), decide_eq_false (by omega)]; rfl
  · have : (2 : Int) ≤ (2 ^ 63 - 1) / n := (Int.le_ediv_iff_mul_le (by omega)).mpr (by omega)
    omega
  · unfold Builtin.Str.tooLong sizeLine
    refine decide_eq_false ?_
    rcases hi2 with e | e <;> rw [e] <;> omega
  · rw [if_neg a1]
    by_cases e1 : (n == 1 || i.length == 0) = true
    · rw [if_pos e1]
      exact ⟨.str i, H, I, ⟨t, rfl⟩, q i (by omega)⟩
    · rw [if_neg e1]
      have sz : (⟨(List.replicate n.toNat i.cps).foldl (· ++ ·) #[]⟩ : Str).length ≤ 2 * n.toNat := by
        show ((List.replicate n.toNat i.cps).foldl (· ++ ·) #[]).size ≤ _
        have e : i.cps.size = i.length := rfl
        rw [rep_sz, e]
        rcases hi2 with e | e <;> rw [e] <;> simp <;> omega
      exact ⟨Nat.le_trans sz (Nat.le_of_lt (small1000 (by omega))), ⟨.str _, H, I.tok _, ⟨_, rfl⟩, q _ sz⟩⟩
end
end L2
set_option Elab.async false
set_option linter.all false
set_option maxRecDepth 100000
set_option maxHeartbeats 8000000
namespace Tw
open PySem PySem.Spec L2
/-- a drawn text -/
def spTxt (B : Nat) : Sp := fun vs H Q _ => ∃ p : Addr, vs = [.ref p] ∧ WellAt H p ∧ ∀ (x : Str) (H' : Hp), x.length ≤ B → WellAt H' p → SameX p H H' → Q (.str x) H'
def spSpoilt : Sp := fun vs H Q _ => ∃ (p : Addr) (x : Str) (n : Nat), vs = [.ref p, .str x] ∧ WellAt H p ∧ x.length ≤ n ∧ n ≤ 300000 ∧ ∀ (y : Str) (H' : Hp), y.length ≤ 3 * n + 1 → WellAt H' p → SameX p H H' → Q (.str y) H'
theorem atI_inn {α : Type} {xs : List α} {u : Int} (h0 : 0 ≤ u) (h1 : u < (xs.length : Int)) : ∃ v, atI xs u = some v ∧ v ∈ xs := by
  obtain ⟨m, rfl⟩ := Int.eq_ofNat_of_zero_le h0
  have hm : m < xs.length := by omega
  exact ⟨xs[m], atI_nat (List.getElem?_eq_getElem hm), List.getElem_mem hm⟩
theorem sz_ok {n : Nat} (h : n ≤ 1000000) : n ≤ sizeLine := by rw [sizeLine_eq]; omega
section
variable {P : Program} {w : World} {K : PySem.W.Frag} {mg : Str → Option Value} {base : Heap} {f : Addr} {fd : FuncData}
/-! ### _law_free -/
theorem scFree : FnScope ["_law_well_here", "_law_signs"] ["_law_well_here"] (defScope sFree) := ⟨rfl, rfl, rfl, by decide +kernel, rfl, by decide +kernel, by decide +kernel⟩
def freeS : Str := " \"\\()-0123456789a~!Zb\n"
theorem free_len : freeS.cps.toList.length = 22 := by decide +kernel
theorem free_size : freeS.length = 22 := by decide +kernel
theorem ok_free (F : Fun K "_law_free" "_law_free" sFree f fd) (T : Txt mg) (DP : DefOk P w K mg base 1 "_law_pull" ["_law_well_here", "_law_many"] spPull) : FnOk P w K mg base CX0 2 f fd ["_law_well_here"] (spTxt 30) := by
  refine F.ok scFree (fun vs H Q E h => (by obtain ⟨_, rfl, _⟩ := h; rfl)) (fun cdv A outer s H vs Q E hr h => ?_)
  obtain ⟨p, rfl, W, k⟩ := h
  have nd := scFree.nd
  refine ⟨_, pss_cons (ps_set (i := 1) nd rfl (Or.inr rfl) pe_str)
    (pss_one (ps_ret (pe_bm PySem.F.plainAttrs_str PySem.F.slot_str_join PySem.F.type_str_join mt_join pe_str (pa_c (pe_comp [0, 1] ["_law_well_here", "_law_signs"] rfl (pi_range1 rfl T.range (pa_c (pe_def DP hr (pa_c (pv 0) (pa_c pe_int pa_nil))) pa_nil)) (fun _ _ _ _ _ => pts_nil)
      (fun _ _ _ _ _ => pe_ix ix_str (pv 2) (pe_def DP hr (pa_c (pv 1) (pa_c pe_int pa_nil))) (fun _ _ => rfl)) ⟨rfl, .inl rfl, rfl, rfl, .inl rfl, rfl, trivial⟩) pa_nil)))), ?_⟩
  refine ⟨rfl, _, rfl, p, 30, rfl, W, small_lit (by decide) (by decide), fun u H2 u0 u1 W2 sB => ⟨u, rfl, by omega, by omega, ?_⟩⟩
  refine comp_map (n := u.toNat) (fun i x => x = .int (0 + (i : Int))) (fun D i ys H3 => WellAt H3 p ∧ SameX p H H3 ∧ D ≠ p ∧ H D = none ∧ ∃ ts : List Str, ys = ts.map V.str ∧ ts.length = i ∧ ∀ t ∈ ts, t.length = 1) (small1000 (by omega))
    (fun D i ys H3 hi _ => hi) (fun D i ys H3 x H4 hi _ hy => hy) (fun D ys H3 _ => Nat.le_refl _) (fun D hD => ?_) (fun D i ys H3 x eD hl hi hx hP R hR => ?_) (fun D ys H3 eD hP => ?_)
  · have nD : D ≠ p := by
      obtain ⟨xs, e⟩ := W2.some
      exact (ne_of_none e hD).symm
    have nH : H D = none := by
      cases e : H D with
      | none => rfl
      | some o => rw [sB D o e nD] at hD; cases hD
    exact ⟨W2.same (same_new hD _), sB.trans (SameX.of (same_new hD _)), nD, nH, [], rfl, rfl, by simp⟩
  · obtain ⟨W3, s3, nD, nH, ts, rfl, hlen, ht⟩ := hP
    refine ⟨_, rfl, _, rfl, p, 22, rfl, W3, small_lit (by decide) (by decide), fun r H4 r0 r1 W4 s4 => ?_⟩
    obtain ⟨c, ec, _⟩ := atI_inn (xs := freeS.cps.toList) r0 (by rw [free_len]; omega)
    have eD4 := s4 D _ eD nD
    refine ⟨freeS, _, c, rfl, rfl, by rw [free_size]; exact sz_ok (by decide), ec, ?_⟩
    have sD : SameX D H4 (upd H4 D (.lst (ts.map V.str ++ [.str ⟨#[c]⟩]))) := (SameX.refl D H4).upd
    refine hR _ H4 eD4 ⟨W4.stay sD nD.symm, fun b o e n => ?_, nD, nH, ts ++ [⟨#[c]⟩], by simp, by simp [hlen], fun t h => ?_⟩
    · rw [upd_ne (ne_of_none e nH)]
      exact (s3.trans s4) b o e n
    · rcases List.mem_append.mp h with h | h
      · exact ht t h
      · rw [List.mem_singleton.mp h]; rfl
  · obtain ⟨W3, s3, nD, nH, ts, rfl, hlen, ht⟩ := hP
    have el0 : (Str.ofString "").length = 0 := by decide +kernel
    have sum1 : ∀ l : List Str, (∀ t ∈ l, t.length = 1) → (l.map (·.length)).sum = l.length := fun l => by
      induction l with
      | nil => intro _; rfl
      | cons a l ih =>
        intro h
        rw [List.map_cons, List.sum_cons, h a List.mem_cons_self, ih fun t ht => h t (List.mem_cons_of_mem _ ht), List.length_cons]
        omega
    refine ⟨Str.ofString "", D, ts, rfl, rfl, SqL.of eD, by rw [sum1 ts ht, el0]; omega, ?_⟩
    refine k _ H3 ?_ W3 s3
    rw [PySem.size_glued, sum1 ts ht, el0]
    omega
/-! ### _law_spoilt -/
abbrev nSpoilt : List Str := ["_law_well_here", "_law_text_here", "_law_way", "_law_at", "_law_sign"]
theorem scSpoilt : FnScope nSpoilt ["_law_well_here", "_law_text_here"] (defScope sSpoilt) := ⟨rfl, rfl, rfl, by decide +kernel, rfl, by decide +kernel, by decide +kernel⟩
def spoilS : Str := " \"\\()-019a~\n"
theorem spoil_len : spoilS.cps.toList.length = 12 := by decide +kernel
theorem spoil_size : spoilS.length = 12 := by decide +kernel
theorem ok_spoilt (F : Fun K "_law_spoilt" "_law_spoilt" sSpoilt f fd) (T : Txt mg) (DP : DefOk P w K mg base 1 "_law_pull" ["_law_well_here", "_law_many"] spPull) : FnOk P w K mg base CX0 2 f fd ["_law_well_here", "_law_text_here"] spSpoilt := by
  refine F.ok scSpoilt (fun vs H Q E h => (by obtain ⟨_, _, _, rfl, _⟩ := h; rfl)) (fun cdv A outer s H vs Q E hr h => ?_)
  obtain ⟨p, x, n, rfl, W, hx, hn, k⟩ := h
  have nd := scSpoilt.nd
  refine ⟨_, pss_cons (ps_set (i := 2) nd rfl (Or.inl rfl) (pe_def DP hr (pa_c (pv 0) (pa_c pe_int pa_nil))))
    (pss_cons (ps_set (i := 3) nd rfl (Or.inl rfl) (pe_def DP hr (pa_c (pv 0) (pa_c (pe_op op_add (pe_callB call_len_str rfl T.len tb_len (pa_c (pv 1) pa_nil)) pe_int) pa_nil))))
    (pss_cons (ps_set (i := 4) nd rfl (Or.inl rfl) (pe_ix ix_str pe_str (pe_def DP hr (pa_c (pv 0) (pa_c pe_int pa_nil))) (fun _ _ => rfl)))
    (pss_cons (ps_if (pt_cmpR op_eq (pv 2) pe_int (nomark _)) (pss_one (ps_ret (pe_slice sl_str (pv 1) po_none (po_some (pv 3))))) pss_nil)
    (pss_cons (ps_if (pt_cmpR op_eq (pv 2) pe_int (nomark _)) (pss_one (ps_ret (pe_op op_add_str (pe_slice sl_str (pv 1) po_none (po_some (pv 3))) (pe_slice sl_str (pv 1) (po_some (pe_op op_add (pv 3) pe_int)) po_none)))) pss_nil)
    (pss_cons (ps_if (pt_cmpR op_eq (pv 2) pe_int (nomark _)) (pss_one (ps_ret (pe_op op_add_str (pe_op op_add_str (pe_slice sl_str (pv 1) po_none (po_some (pv 3))) (pe_slice sl_str (pv 1) (po_some (pv 3)) (po_some (pe_op op_add (pv 3) (pe_def DP hr (pa_c (pv 0) (pa_c pe_int pa_nil))))))) (pe_slice sl_str (pv 1) (po_some (pv 3)) po_none)))) pss_nil)
    (pss_cons (ps_if (pt_cmpR op_eq (pv 2) pe_int (nomark _)) (pss_one (ps_ret (pe_op op_add_str (pe_op op_add_str (pe_slice sl_str (pv 1) po_none (po_some (pv 3))) (pv 4)) (pe_slice sl_str (pv 1) (po_some (pe_op op_add (pv 3) pe_int)) po_none)))) pss_nil)
    (pss_cons (ps_if (pt_cmpR op_eq (pv 2) pe_int (nomark _)) (pss_one (ps_ret (pe_op op_add_str (pv 1) (pv 4)))) pss_nil)
    (pss_one (ps_ret (pe_op op_add_str (pe_op op_add_str (pe_slice sl_str (pv 1) po_none (po_some (pv 3))) (pv 4)) (pe_slice sl_str (pv 1) (po_some (pv 3)) po_none))))))))))), ?_⟩
  have hl : x.length ≤ sizeLine := sz_ok (by omega)
  have sl : ∀ a b, (Txt.slice x a b).length ≤ n := fun a b => Nat.le_trans (Txt.slice_le x a b) hx
  have ap : ∀ a b : Str, (a ++ b).length = a.length + b.length := fun a b => PySem.Str.length_append a b
  refine ⟨_, rfl, p, 7, rfl, W, small_lit (by decide) (by decide), fun y H1 y0 y1 W1 s1 => ?_⟩
  refine ⟨_, rfl, _, rfl, x, rfl, hl, _, _, rfl, rfl, p, (x.length : Int) + 1, rfl, W1, small_lit (by omega) (by have : (2 : Nat) ^ 250 > 1000000 := by decide
                                                                                                                 omega), fun a H2 a0 a1 W2 s2 => ?_⟩
  refine ⟨_, rfl, p, 12, rfl, W2, small_lit (by decide) (by decide), fun r H3 r0 r1 W3 s3 => ?_⟩
  obtain ⟨c, ec, _⟩ := atI_inn (xs := spoilS.cps.toList) r0 (by rw [spoil_len]; omega)
  refine ⟨spoilS, _, c, rfl, rfl, by rw [spoil_size]; exact sz_ok (by decide), ec, ?_⟩
  have sA : SameX p H H3 := (s1.trans s2).trans s3
  have one : (⟨#[c]⟩ : Str).length = 1 := rfl
  refine ⟨_, rfl, rfl, _, rfl, ite2 (fun _ => ?_) (fun _ => ?_)⟩
  · exact ⟨_, rfl, _, rfl, _, rfl, x, rfl, hl, k _ H3 (by have := sl none (some a); omega) W3 sA⟩
  refine ⟨_, rfl, rfl, _, rfl, ite2 (fun _ => ?_) (fun _ => ?_)⟩
  · have l1 := sl none (some a)
    have l2 := sl (some (a + 1)) none
    refine ⟨_, rfl, _, rfl, _, rfl, x, rfl, hl, _, rfl, _, rfl, _, _, rfl, rfl, _, rfl, x, rfl, hl, _, _, rfl, rfl, sz_ok (by omega), ?_⟩
    exact k _ H3 (by rw [ap]; omega) W3 sA
  refine ⟨_, rfl, rfl, _, rfl, ite2 (fun _ => ?_) (fun _ => ?_)⟩
  · refine ⟨_, rfl, _, rfl, _, rfl, x, rfl, hl, _, rfl, _, rfl, _, rfl, _, rfl, _, rfl, p, 9, rfl, W3, small_lit (by decide) (by decide), fun q H4 q0 q1 W4 s4 => ?_⟩
    have l1 := sl none (some a)
    have l2 := sl (some a) (some (a + q))
    have l3 := sl (some a) none
    refine ⟨_, _, rfl, rfl, _, rfl, x, rfl, hl, _, _, rfl, rfl, sz_ok (by omega), _, rfl, _, rfl, _, rfl, x, rfl, hl, _, _, rfl, rfl, sz_ok (by rw [ap]; omega), ?_⟩
    exact k _ H4 (by rw [ap, ap]; omega) W4 (sA.trans s4)
  refine ⟨_, rfl, rfl, _, rfl, ite2 (fun _ => ?_) (fun _ => ?_)⟩
  · have l1 := sl none (some a)
    have l2 := sl (some (a + 1)) none
    refine ⟨_, rfl, _, rfl, _, rfl, x, rfl, hl, _, rfl, _, _, rfl, rfl, sz_ok (by omega), _, rfl, _, rfl, _, _, rfl, rfl, _, rfl, x, rfl, hl, _, _, rfl, rfl, sz_ok (by rw [ap]; omega), ?_⟩
    exact k _ H3 (by rw [ap, ap]; omega) W3 sA
  refine ⟨_, rfl, rfl, _, rfl, ite2 (fun _ => ?_) (fun _ => ?_)⟩
  · refine ⟨_, rfl, _, rfl, _, _, rfl, rfl, sz_ok (by omega), ?_⟩
    exact k _ H3 (by rw [ap]; omega) W3 sA
  · have l1 := sl none (some a)
    have l3 := sl (some a) none
    refine ⟨_, rfl, _, rfl, _, rfl, x, rfl, hl, _, rfl, _, _, rfl, rfl, sz_ok (by omega), _, rfl, _, rfl, _, rfl, x, rfl, hl, _, _, rfl, rfl, sz_ok (by rw [ap]; omega), ?_⟩
    exact k _ H3 (by rw [ap, ap]; omega) W3 sA
end
end Tw
set_option Elab.async false
set_option linter.all false
set_option maxRecDepth 100000
set_option maxHeartbeats 8000000
namespace Tw
open PySem PySem.Spec L2 PyProof.Rows
/-- keys stand at the beginning, blanks between -/
structure TopS (T : List Nat) (ts : List KT) (k : Nat) : Prop where
  le : k ≤ T.length
  tk : T.take k = shownL ts
  fits : ∀ t ∈ ts, t.fits 3 = true
  ne : ts ≠ []
  ver : ver true ⟨.wanted, 0, []⟩ T = sh k (ver true ⟨.behind, 0, []⟩ (T.drop k))
section
variable {T rest : List Nat} {ts : List KT} {t : KT} {k k2 g : Nat}
theorem fail_of (h : T ≠ []) : failV true T = match ver true ⟨.wanted, 0, []⟩ T with | none => -1 | some k => (k : Int) := by
  unfold failV
  rw [if_neg (fun z => h z.2)]
  all_goals (cases Tw.ver true ⟨.wanted, 0, []⟩ T <;> rfl)
theorem top_first (h : Good T 3 t k) : TopS T [t] k :=
  ⟨h.le, by rw [h.tk, shownL, shownR]; simp, fun u hu => by rw [List.mem_singleton.mp hu]; exact h.fits, by simp, h.ver true [] rfl⟩
theorem top_bad (hT : T ≠ []) (h : Bad T 3 g) : failV true T = (g : Int) := by rw [fail_of hT, h true [] rfl]
theorem top_end (h : TopS T ts k) (hk : ¬ k < T.length) : failV true T = -1 ∧ T = shownL ts := by
  have e : k = T.length := by have := h.le; omega
  have tk := h.tk
  rw [e, List.take_length] at tk
  refine ⟨?_, tk⟩
  have hv := h.ver
  rw [e, List.drop_length] at hv
  unfold failV
  rw [hv]
  split <;> rfl
theorem top_next (h : TopS T ts k) {c : Nat} {q : List Nat} (e : T.drop k = c :: q) (n : c ≠ 32) : failV true T = (k : Int) := by
  have h0 : auStep true ⟨.behind, 0, []⟩ c = none := by
    show auBehind true [] c = none
    unfold auBehind
    rw [if_neg (by simp), if_neg (by simp [n])]
  rw [fail_of (fun z => by rw [z] at e; simp at e), h.ver, e, ver_no h0, sh_some, Nat.zero_add]
theorem top_ver (h : TopS T ts k) (e : T.drop k = 32 :: rest) : ver true ⟨.wanted, 0, []⟩ T = sh (k + 1) (ver true ⟨.wanted, 0, []⟩ rest) := by
  have h0 : auStep true ⟨.behind, 0, []⟩ 32 = some ⟨.wanted, 0, []⟩ := by simp [auStep, auBehind]
  rw [h.ver, e, ver_some h0, sh_sh, Nat.add_comm]
theorem top_moreBad (h : TopS T ts k) (e : T.drop k = 32 :: rest) (b : Bad rest 3 g) : failV true T = ((k + 1 + g : Nat) : Int) := by
  rw [fail_of (fun z => by rw [z] at e; simp at e), top_ver h e, b true [] rfl, sh_some, Nat.add_comm]
theorem top_more (h : TopS T ts k) (e : T.drop k = 32 :: rest) (g : Good rest 3 t k2) : TopS T (ts ++ [t]) (k + 1 + k2) := by
  have lk : k < T.length := by
    rcases Nat.lt_or_ge k T.length with a | a
    · exact a
    · rw [List.drop_eq_nil_of_le a] at e; cases e
  have dr : T.drop (k + 1) = rest := drop_step e
  have ll : T = T.take k ++ 32 :: rest := by rw [← e, List.take_append_drop]
  have lt : (T.take k).length = k := by rw [List.length_take]; omega
  have rl : rest.length = T.length - (k + 1) := by rw [← dr, List.length_drop]
  refine ⟨by have := g.le; omega, ?_, fun u hu => ?_, by simp, ?_⟩
  · rw [shownL_snoc ts t h.ne, ← h.tk, ← g.tk]
    have e2 : T.take (k + 1 + k2) = (T.take k ++ 32 :: rest).take ((T.take k).length + (k2 + 1)) := by rw [← ll, lt]; congr 1; omega
    rw [e2, List.take_length_add_append, List.take_succ_cons]
  · rcases List.mem_append.mp hu with z | z
    · exact h.fits u z
    · rw [List.mem_singleton.mp z]; exact g.fits
  · rw [top_ver h e, g.ver true [] rfl, sh_sh]
    show sh (k2 + (k + 1)) (Tw.ver true ⟨.behind, 0, []⟩ (rest.drop k2)) = _
    rw [← dr, List.drop_drop]
    congr 1
    omega
/-- a key's text has a sign at least -/
theorem shown_pos (t : KT) {r : Nat} (h : t.fits r = true) : 1 ≤ t.shown.length := by
  obtain ⟨c, q, e, _⟩ := shown_head t h
  rw [e]; simp
theorem top_many (h : TopS T ts k) : ts.length ≤ k := by
  have key : ∀ l : List KT, (∀ t ∈ l, t.fits 3 = true) → l.length ≤ (shownL l).length := fun l hl => by
    cases l with
    | nil => simp
    | cons a l =>
      rw [shownL, shownR_eq, List.length_append, List.length_cons]
      have h1 := shown_pos a (hl a List.mem_cons_self)
      have : l.length ≤ (l.flatMap fun t => 32 :: t.shown).length := by
        clear hl
        induction l with
        | nil => simp
        | cons b l ih => rw [List.flatMap_cons, List.length_append, List.length_cons, List.length_cons]; omega
      omega
  have := key ts h.fits
  rw [← h.tk, List.length_take] at this
  omega
end
def spReadMany (C : Addr) : Sp := fun vs H Q E => ∃ x : Str, vs = [.str x] ∧ x.length ≤ 1000000 ∧ (∀ ts (L : Addr) us H', Same H H' → H L = none → H' L = some (.lst us) → KeysAt H' ts us → x.cps.toList = shownL ts → (∀ t ∈ ts, t.fits 3 = true) → ts.length ≤ x.length → failV true x.cps.toList = -1 → Q (.ref L) H') ∧ (∀ g : Nat, failV true x.cps.toList = (g : Int) → Rf C g E H)
section
variable {P : Program} {w : World} {K : PySem.W.Frag} {mg : Str → Option Value} {base : Heap} {f : Addr} {fd : FuncData} {C CB : Addr}
abbrev nMany : List Str := ["text", "found", "keys"]
theorem scMany : FnScope nMany ["text"] (defScope sReadMany) := ⟨rfl, rfl, rfl, by decide +kernel, rfl, by decide +kernel, by decide +kernel⟩
theorem ok_many (F : Fun K "read_many" "read_many" sReadMany f fd) (T : Txt mg) (N : NT P w K mg base C) (DK : DefD P w K mg base 12 "key_at" ["text", "at", "room"] (spKeyAt C 4)) : FnOk P w K mg base (CXd P w) 13 f fd ["text"] (spReadMany C) := by
  refine F.okD scMany (fun vs H Q E h => (by obtain ⟨_, rfl, _⟩ := h; rfl)) (fun cdv A outer s H vs Q E hr h => ?_)
  obtain ⟨x, rfl, hx, k, b⟩ := h
  have hl : x.length ≤ sizeLine := sz_ok hx
  have nd := scMany.nd
  obtain ⟨t1, m1⟩ := T.deep
  have hr2 := hr.mono (show 2 ≤ 12 by decide)
  refine ⟨_, pss_cons (ps_if (pt_cmpR op_eq (pv 0) pe_str (nomark _)) (pss_one (ps_ret (pe_lst pa_nil))) pss_nil)
    (pss_cons (ps_set (i := 1) nd rfl (Or.inl rfl) (pe_defD fnd_of DK hr (pa3 (pv 0) pe_int (pe_glob (v := .int 3) rfl m1 ⟨_, rfl⟩))))
    (pss_cons (ps_set (i := 2) nd rfl (Or.inl rfl) (pe_lst (pa_c (pe_ix ix_tup (pv 1) pe_int (fun _ _ => rfl)) pa_nil)))
    (pss_cons (ps_while po_fn (pt_cmpR op_lt (pe_ix ix_tup (pv 1) pe_int (fun _ _ => rfl)) (pe_callB call_len_str rfl T.len tb_len (pa_c (pv 0) pa_nil)) (nomark _))
      (pss_cons (ps_if (pt_cmpR op_ne (pe_ix ix_str (pv 0) (pe_ix ix_tup (pv 1) pe_int (fun _ _ => rfl)) (fun _ _ => rfl)) pe_str (nomark _)) (pss_one (ps_noText fnd_of N hr2 (pa_c (pe_ix ix_tup (pv 1) pe_int (fun _ _ => rfl)) pa_nil))) pss_nil)
      (pss_cons (ps_set (i := 1) nd rfl (Or.inl rfl) (pe_defD fnd_of DK hr (pa3 (pv 0) (pe_op op_add (pe_ix ix_tup (pv 1) pe_int (fun _ _ => rfl)) pe_int) (pe_glob (v := .int 3) rfl m1 ⟨_, rfl⟩))))
      (pss_one (ps_expr (pe_bm PySem.F.plainAttrs_list PySem.F.slot_list_append PySem.F.type_list_append mt_append (pv 2) (pa_c (pe_ix ix_tup (pv 1) pe_int (fun _ _ => rfl)) pa_nil)))))))
    (pss_one (ps_ret (pv 2)))))), ?_⟩
  have xl : x.cps.toList.length = x.length := by simp [Str.length]
  have ex : (V.str x = V.str (Str.ofString "")) ↔ x.cps.toList = [] := by
    have en : (Str.ofString "").cps.toList = [] := by decide +kernel
    constructor
    · intro z; injection z with z; rw [z]; exact en
    · intro z; rw [str_eq z]; rfl
  refine ⟨_, rfl, rfl, _, rfl, ?_⟩
  by_cases n0 : x.cps.toList = []
  · refine ite2 (fun _ => ?_) (fun z => absurd (decide_eq_true (ex.mpr n0)) z)
    refine ⟨(by show 0 ≤ sizeLine; decide), fun L hL => ?_⟩
    refine k [] L [] _ (same_new hL _) hL upd_same .nil (by rw [n0, shownL]) (by simp) (by simp) ?_
    unfold failV
    rw [if_pos ⟨rfl, n0⟩]
  refine ite2 (fun z => absurd (ex.mp (of_decide_eq_true z)) n0) (fun _ => ?_)
  refine ⟨_, rfl, x, 0, 3, rfl, hl, by decide, fun t k0 v0 p0 H1 s1 gd e1 kv => ?_, fun g bd => ?_⟩
  rotate_left
  · rw [List.drop_zero] at bd
    rw [Nat.zero_add]
    exact b g (top_bad n0 bd)
  rw [List.drop_zero] at gd
  rw [Nat.zero_add] at e1
  refine ⟨_, rfl, p0, _, _, _, rfl, rfl, SqT.of e1, rfl, (by show 1 ≤ sizeLine; decide), fun L hL => ?_⟩
  have gL := same_new hL (.lst [v0])
  have nHL : H L = none := by
    cases e : H L with
    | none => rfl
    | some o => rw [s1 L o e] at hL; cases hL
  refine ⟨fun m σ H' => ∃ (ts : List KT) (k1 : Nat) (pf : Addr) (vf : V) (vs : List V), σ = [some (.str x), some (.ref pf), some (.ref L)] ∧ Same H H' ∧ H' pf = some (.tup [vf, .int (k1 : Int)]) ∧ H' L = some (.lst vs) ∧
      KeysAt H' ts vs ∧ TopS x.cps.toList ts k1 ∧ m = x.length - k1,
    ⟨_, [t], k0, p0, v0, [v0], rfl, s1.trans gL, gL _ _ e1, upd_same, .cons (kv.mono (Same.tups gL) _ _) .nil, top_first gd, rfl⟩, ?_⟩
  rintro m σ H2 ⟨ts, k1, pf, vf, vs, rfl, s2, ef, eL, hk, sm, rfl⟩
  have lv := hk.length
  have tm := top_many sm
  have tle := sm.le
  refine ⟨_, rfl, pf, _, _, _, rfl, rfl, SqT.of ef, rfl, _, rfl, x, rfl, hl, _, _, rfl, rfl, _, rfl, ?_⟩
  by_cases lt : k1 < x.length
  · refine ite2 (fun _ => ?_) (fun z => absurd (decide_eq_true (by omega)) z)
    refine ⟨fun σ' H' => ∃ m', m' < x.length - k1 ∧ ∃ (ts : List KT) (k1 : Nat) (pf : Addr) (vf : V) (vs : List V), σ' = [some (.str x), some (.ref pf), some (.ref L)] ∧ Same H H' ∧ H' pf = some (.tup [vf, .int (k1 : Int)]) ∧ H' L = some (.lst vs) ∧
      KeysAt H' ts vs ∧ TopS x.cps.toList ts k1 ∧ m' = x.length - k1, fun _ _ h => h, ?_⟩
    obtain ⟨c, hc⟩ : ∃ c, x.cps.toList[k1]? = some c := ⟨_, List.getElem?_eq_getElem (by omega)⟩
    have dc : x.cps.toList.drop k1 = c :: x.cps.toList.drop (k1 + 1) := by
      rw [List.drop_eq_getElem_cons (by omega), (List.getElem?_eq_some_iff.mp hc).2]
    refine ⟨_, rfl, _, rfl, pf, _, _, _, rfl, rfl, SqT.of ef, rfl, x, _, c, rfl, rfl, hl, atI_nat hc, rfl, _, rfl, ?_⟩
    rw [lit_sp, vs_c]
    by_cases c32 : c = 32
    · rw [decide_eq_true c32]
      refine iteF ?_
      subst c32
      refine ⟨_, rfl, _, rfl, pf, _, _, _, rfl, rfl, SqT.of ef, rfl, _, _, rfl, rfl, x, k1 + 1, 3, rfl, hl, by decide, fun t k2 v2 p2 H3 s3 gd2 e3 kv3 => ?_, fun g bd => ?_⟩
      · have eL3 := s3 _ _ eL
        refine ⟨_, rfl, .inl ⟨rfl, _, SqL.of eL3⟩, _, rfl, p2, _, _, _, rfl, rfl, SqT.of e3, rfl, L, _, _, rfl, rfl, eL3, (by rw [sizeLine_eq]; omega), ?_⟩
        have sL : Same H (upd H3 L (.lst (vs ++ [v2]))) := fun a o e => by
          rw [upd_ne (ne_of_none e nHL)]
          exact s3 a o (s2 a o e)
        have tp : ∀ a xs, H3 a = some (.tup xs) → upd H3 L (.lst (vs ++ [v2])) a = some (.tup xs) := fun a xs e => by
          rw [upd_ne (fun z => by rw [z, eL3] at e; cases e)]; exact e
        refine ⟨x.length - (k1 + 1 + k2), by omega, ts ++ [t], k1 + 1 + k2, p2, v2, vs ++ [v2], rfl, sL, tp _ _ e3, upd_same, ?_, top_more sm dc gd2, rfl⟩
        exact keys_snoc (kv3.mono tp _ _) ((hk.mono (Same.tups s3) _ _).mono tp _ _)
      · exact (b _ (top_moreBad sm dc bd)).mono s2
    · rw [decide_eq_false c32]
      refine iteT ⟨_, rfl, pf, _, _, _, rfl, rfl, SqT.of ef, rfl, _, rfl, fun dx hdx => ?_⟩
      exact (b k1 (top_next sm dc c32)).go s2 hdx
  · refine ite2 (fun z => ?_) (fun _ => ?_)
    · have := of_decide_eq_true z
      omega
    have te := top_end sm (by omega)
    exact ⟨_, rfl, k ts L vs H2 s2 nHL eL hk te.2 sm.fits (by omega) te.1⟩
end
end Tw
set_option Elab.async false
set_option linter.all false
set_option maxRecDepth 100000
set_option maxHeartbeats 8000000
namespace Tw
open PySem PySem.Spec L2 PyProof.Rows
def spIsK (n : Nat) : Sp := fun vs H Q _ => ∃ (v : V) (t : KT) (r : Nat), vs = [v, .int (r : Int)] ∧ KeyAt H t v ∧ t.fits r = true ∧ r < n ∧ ∀ H', Same H H' → Q (.bl true) H'
def spTold : Sp := fun vs H Q _ => ∃ x : Str, vs = [.str x] ∧ x.length ≤ 1000000 ∧ ∀ H' p, Same H H' → (failV true x.cps.toList = -1 → H' p = some (.tup [.str (Str.ofString "told"), .str x]) → Q (.ref p) H') ∧ (∀ g : Nat, failV true x.cps.toList = (g : Int) → H' p = some (.tup [.str (Str.ofString "refused"), .int (g : Int)]) → Q (.ref p) H')
/-- what the written part says of the classes -/
structure Cl (K : PySem.W.Frag) (mg : Str → Option Value) (CB CT : Addr) : Prop where
  base : mg "TwigError" = some (.ref CB)
  sub : PySem.W.mroIn K CT (.ref CB) = some true
  ty : PySem.W.typeIn K (.ref CB) = some (.type "type")
  mB : PySem.W.mroIn K CB (.type "BaseException") = some true
  self : PySem.W.kitOne K (.ref CT) (.ref CT) = some true
theorem kit_ll {K : PySem.W.Frag} : PySem.W.kitOne K (.type "list") (.type "list") = some true := by kernel_rfl
theorem sum_shown (ts : List KT) : ((ts.map shS).map (·.length)).sum ≤ (shownL ts).length := by
  have e := congrArg Str.length (glued_shown ts)
  have e2 : (⟨(shownL ts).toArray⟩ : Str).length = (shownL ts).length := len_arr _
  rw [PySem.size_glued] at e
  have e3 : ((ts.map shS).map (·.length)).sum ≤ (⟨(shownL ts).toArray⟩ : Str).length := by rw [← e]; exact Nat.le_add_right _ _
  omega
theorem failV_cases (many : Bool) (T : List Nat) : failV many T = -1 ∨ ∃ g : Nat, failV many T = (g : Int) := by
  unfold failV
  split
  · exact .inl rfl
  · split
    · exact .inl rfl
    · exact .inr ⟨_, rfl⟩
theorem pe_fldK {X : Cx} {K : PySem.W.Frag} {e : Expr} {ta : TE} {f : Str} {pos : Pos} (he : PE X e ta) (hb : attributeBase e f X.env (eval e X.env) = eval e X.env) (hK : X.K = K := by rfl) : PE X (.Attribute e f pos) (tFldX K ta f) := by
  subst hK
  exact pe_fldX he hb
section
variable {P : Program} {w : World} {K : PySem.W.Frag} {mg : Str → Option Value} {base : Heap} {f : Addr} {fd : FuncData} {C CB : Addr}
theorem scIsKey : FnScope ["_law_thing", "_law_room"] ["_law_thing", "_law_room"] (defScope sIsKey) := ⟨rfl, rfl, rfl, by decide +kernel, rfl, by decide +kernel, by decide +kernel⟩
theorem ok_iskey {n : Nat} (F : Fun K "_law_is_key" "_law_is_key" sIsKey f fd) (T : Txt mg) (DI : DefOk P w K mg base (n + 1) "_law_is_key" ["_law_thing", "_law_room"] (spIsK n)) : FnOk P w K mg base CX0 (n + 2) f fd ["_law_thing", "_law_room"] (spIsK (n + 1)) := by
  refine F.ok scIsKey (fun vs H Q E h => (by obtain ⟨_, _, _, rfl, _⟩ := h; rfl)) (fun cdv A outer s H vs Q E hr h => ?_)
  obtain ⟨v, t, r, rfl, hv, hf, hn, k⟩ := h
  refine ⟨_, pss_cons (ps_if (pt_val (pe_callB tw_isinst rfl T.isi tb_isinstance (pa_c (pv 0) (pa_c (pe_bltn (v := .ty "tuple") rfl T.tuple tb_tuple rfl) pa_nil))))
      (pss_one (ps_ret (pe_and (pe_cmpR op_gt (pv 1) pe_int (nomark _)) (pe_one (pe_callB (tw_all rfl) rfl T.all tb_all (pa_c (pe_comp [1] ["_law_room"] rfl (pi_tup (pv 0)) (fun _ _ _ _ _ => pts_nil) (fun _ _ _ _ _ => pe_def DI hr (pa_c (pv 0) (pa_c (pe_op op_sub (pv 1) pe_int) pa_nil))) ⟨rfl, .inl rfl, rfl, trivial⟩) pa_nil)))))) pss_nil)
    (pss_one (ps_ret (pe_or (pe_callB tw_isinst rfl T.isi tb_isinstance (pa_c (pv 0) (pa_c (pe_bltn (v := .ty "str") rfl T.str tb_str rfl) pa_nil))) (pe_one (pe_and (pe_callB tw_isinst rfl T.isi tb_isinstance (pa_c (pv 0) (pa_c (pe_bltn (v := .ty "int") rfl T.int tb_int rfl) pa_nil))) (pe_one (pe_not (pe_callB tw_isinst rfl T.isi tb_isinstance (pa_c (pv 0) (pa_c (pe_bltn (v := .ty "bool") rfl T.bool tb_bool rfl) pa_nil)))))))))), ?_⟩
  cases t with
  | int i =>
    have ev : v = .int i := by rw [KeyAt] at hv; exact hv
    subst ev
    refine ⟨_, rfl, _, _, _, _, rfl, .int i, kit_it, _, rfl, iteF ?_⟩
    refine ⟨_, rfl, _, _, _, _, rfl, .int i, kit_is', _, rfl, iteF ?_⟩
    refine ⟨_, rfl, _, _, _, _, rfl, .int i, kit_ii, _, rfl, iteT ?_⟩
    refine ⟨_, rfl, _, _, _, _, rfl, .int i, kit_ib, _, rfl, ?_⟩
    exact k H (Same.refl H)
  | str x =>
    have ev : v = .str x := by rw [KeyAt] at hv; exact hv
    subst ev
    refine ⟨_, rfl, _, _, _, _, rfl, .str x, kit_st, _, rfl, iteF ?_⟩
    refine ⟨_, rfl, _, _, _, _, rfl, .str x, kit_ss, _, rfl, iteT ?_⟩
    exact k H (Same.refl H)
  | tup l =>
    have hv' := hv
    rw [KeyAt] at hv'
    obtain ⟨a, vs, rfl, ea, hvs⟩ := hv'
    have hl := hvs.length
    rw [KT.fits, Bool.and_eq_true, Bool.and_eq_true] at hf
    obtain ⟨f0, f1, f2⟩ := hf
    have r0 := of_decide_eq_true f0
    have l4 := of_decide_eq_true f1
    refine ⟨_, rfl, _, _, _, _, rfl, .tup ea, kit_tt, _, rfl, iteT ?_⟩
    refine ⟨_, rfl, _, _, rfl, rfl, _, rfl, ?_⟩
    refine ite2 (fun _ => ?_) (fun z => absurd (decide_eq_true (by omega)) z)
    have fl : ∀ t ∈ l, t.fits (r - 1) = true := fun t ht => by rw [fitsL_all] at f2; exact List.all_eq_true.mp f2 t ht
    refine ⟨_, rfl, a, rfl, ⟨vs, SqT.of ea⟩, ?_⟩
    refine comp_map (n := vs.length) (fun i z => vs[i]? = some z) (fun D i ys H3 => Same H H3 ∧ H D = none ∧ ys = (List.replicate i true).map V.bl) (small1000 (by omega))
      (fun D i ys H3 hi hP => ⟨vs, vs[i], SqT.of (hP.1 _ _ ea), by simp [hi]⟩) (fun D i ys H3 z H4 hi hP hy => ⟨hy.1, hy.2 vs (SqT.of (hP.1 _ _ ea))⟩) (fun D ys H3 hP => ⟨vs, SqT.of (hP.1 _ _ ea), Nat.le_refl _⟩)
      (fun D hD => ⟨same_new hD _, hD, rfl⟩) (fun D i ys H3 z eD hl' hi hz hP R hR => ?_) (fun D ys H3 eD hP => ?_)
    · obtain ⟨s3, nD, rfl⟩ := hP
      obtain ⟨t, et, kt⟩ := hvs.get hz
      have er : ((r : Nat) : Int) - 1 = ((r - 1 : Nat) : Int) := by omega
      refine ⟨_, rfl, _, rfl, _, _, rfl, rfl, z, t, r - 1, by rw [← er]; rfl, kt.mono (Same.tups s3) _ _, fl t (List.mem_of_getElem? et), by omega, fun H4 s4 => ?_⟩
      refine hR _ H4 (s4 D _ eD) ⟨fun b o e => by rw [upd_ne (ne_of_none e nD)]; exact s4 b o (s3 b o e), nD, ?_⟩
      rw [List.replicate_succ']
      simp
    · obtain ⟨s3, nD, rfl⟩ := hP
      refine ⟨D, _, rfl, SqL.of eD, ?_⟩
      have e : (List.replicate vs.length true).all id = true := by simp
      rw [e]
      exact k H3 s3
theorem all_iskey (T : Txt mg) (L : Laid K mg "_law_is_key" sIsKey ["_law_thing", "_law_room"]) : ∀ n : Nat, DefOk P w K mg base (n + 1) "_law_is_key" ["_law_thing", "_law_room"] (spIsK n)
  | 0 => L.of fun _ _ _ => sp_noneS fun vs H Q E h => by obtain ⟨v, t, r, _, _, _, h1, _⟩ := h; omega
  | n + 1 => L.of fun _ _ F => ok_iskey F T (all_iskey T L n)
abbrev nTold : List Str := ["_law_text_here", "_law_found", "e", "_law_wrote"]
theorem scTold : FnScope nTold ["_law_text_here"] (defScope sTold) := ⟨rfl, rfl, rfl, by decide +kernel, rfl, by decide +kernel, by decide +kernel⟩
theorem ok_told (F : Fun K "_law_told" "_law_told" sTold f fd) (T : Txt mg) (N : NT P w K mg base C) (L : Cl K mg CB C) (DR : DefD P w K mg base 13 "read_many" ["text"] (spReadMany C)) (DI : DefOk P w K mg base 5 "_law_is_key" ["_law_thing", "_law_room"] (spIsK 4))
    (DS : DefOk P w K mg base 5 "_law_shown" ["_law_key_here"] (spShow 4)) : FnOk P w K mg base CX0 14 f fd ["_law_text_here"] spTold := by
  refine F.ok scTold (fun vs H Q E h => (by obtain ⟨_, rfl, _⟩ := h; rfl)) (fun cdv A outer s H vs Q E hr h => ?_)
  obtain ⟨x, rfl, hx, k⟩ := h
  have nd := scTold.nd
  have hr5 := hr.mono (show 5 ≤ 13 by decide)
  obtain ⟨g, gd, FC, bC, kC, mC⟩ := DR.ex
  obtain ⟨fI, fdI, ef, _, _⟩ := N.cl.ex
  refine ⟨_, pss_cons (ps_set (i := 1) nd rfl (Or.inl rfl) (pe_lst pa_nil))
    (pss_cons (ps_tryD (i := 2) (j := 1) FC hr rfl mC kC bC (fun E' => pa_c (pv 0) pa_nil) rfl rfl rfl rfl L.base nd rfl rfl L.ty L.mB
      (fun ea E' => pss_cons (ps_if (PW.pt (pw_or (pt_not (pt_val (pe_callB (r := rIsiO K) isi_o rfl T.isi tb_isinstance (pa_c (pv 2) (pa_c (pe_glob (v := .ref C) rfl N.cl.at_ rfl) pa_nil)))))
            (pw_or (pt_not (pt_val (pe_callB (r := rIsi K) tw_isinst rfl T.isi tb_isinstance (pa_c (pe_fldK (pv 2) (by rfl)) (pa_c (pe_bltn (v := .ty "int") rfl T.int tb_int rfl) pa_nil))))) (pw_or1 (pt_val (pe_callB (r := rIsi K) tw_isinst rfl T.isi tb_isinstance (pa_c (pe_fldK (pv 2) (by rfl)) (pa_c (pe_bltn (v := .ty "bool") rfl T.bool tb_bool rfl) pa_nil)))))))) (pss_one (ps_ret (pe_tup (pa_c pe_str pa_nil)))) pss_nil)
        (pss_one (ps_ret (pe_tup (pa_c pe_str (pa_c (pe_fldK (pv 2) (by rfl)) pa_nil)))))) rfl rfl)
    (pss_cons (ps_if (PW.pt (pw_or (pt_not (pt_val (pe_callB tw_isinst rfl T.isi tb_isinstance (pa_c (pv 1) (pa_c (pe_bltn (v := .ty "list") rfl T.list tb_list rfl) pa_nil)))))
        (pw_or1 (pt_not (pt_val (pe_callB (tw_all rfl) rfl T.all tb_all (pa_c (pe_comp [] [] rfl (pi_list (pv 1)) (fun _ _ _ _ _ => pts_nil) (fun _ _ _ _ _ => pe_def DI hr5 (pa_c (pv 0) (pa_c pe_int pa_nil))) trivial) pa_nil))))))) (pss_one (ps_ret (pe_tup (pa_c pe_str pa_nil)))) pss_nil)
    (pss_cons (ps_set (i := 3) nd rfl (Or.inl rfl) (pe_bm PySem.F.plainAttrs_str PySem.F.slot_str_join PySem.F.type_str_join mt_join pe_str (pa_c (pe_comp [] [] rfl (pi_list (pv 1)) (fun _ _ _ _ _ => pts_nil) (fun _ _ _ _ _ => pe_def DS hr5 (pa_c (pv 0) pa_nil)) trivial) pa_nil)))
    (pss_cons (ps_expr (pe_bm0 PySem.F.plainAttrs_list PySem.F.slot_list_clear PySem.F.type_list_clear mt_clear (pv 1)))
    (pss_one (ps_ret (pe_tup (pa_c pe_str (pa_c (pv 3) pa_nil))))))))), ?_⟩
  refine ⟨(by show 0 ≤ sizeLine; decide), fun l0 h0 => ?_⟩
  have g0 := same_new h0 (.lst [])
  refine ⟨_, rfl, x, rfl, hx, fun ts L us H1 s1 nL eL hk hT hf tl hfv => ?_, fun n hfv dx H1 s1 edx => ⟨C, rfl, ‹Cl K mg CB C›.sub, fun ea hea => ?_⟩⟩
  · have lu := hk.length
    have nHL : H L = none := by
      cases e : H L with
      | none => rfl
      | some o => rw [g0 L o e] at nL; cases nL
    have s01 := g0.trans s1
    have big : us.length ≤ sizeLine := sz_ok (by omega)
    refine ⟨_, rfl, _, _, _, _, rfl, .lst eL, kit_ll, _, rfl, iteF ?_⟩
    refine ⟨_, rfl, L, rfl, ⟨us, SqL.of eL⟩, ?_⟩
    refine comp_map (n := us.length) (fun i z => us[i]? = some z) (fun D i ys H3 => Same H1 H3 ∧ H1 D = none ∧ ys = (List.replicate i true).map V.bl) (by rw [sizeLine_eq]; omega)
      (fun D i ys H3 hi hP => ⟨us, us[i], SqL.of (hP.1 _ _ eL), by simp [hi]⟩) (fun D i ys H3 z H4 hi hP hy => ⟨hy.1, hy.2 us (SqL.of (hP.1 _ _ eL))⟩) (fun D ys H3 hP => ⟨us, SqL.of (hP.1 _ _ eL), Nat.le_refl _⟩)
      (fun D hD => ⟨same_new hD _, hD, rfl⟩) (fun D i ys H3 z eD hl' hi hz hP R hR => ?_) (fun D ys H3 eD hP => ?_)
    · obtain ⟨s3, nD, rfl⟩ := hP
      obtain ⟨t, et, kt⟩ := hk.get hz
      refine ⟨_, rfl, z, t, 3, rfl, kt.mono (Same.tups s3) _ _, hf t (List.mem_of_getElem? et), by decide, fun H4 s4 => ?_⟩
      refine hR _ H4 (s4 D _ eD) ⟨fun b o e => by rw [upd_ne (ne_of_none e nD)]; exact s4 b o (s3 b o e), nD, ?_⟩
      rw [List.replicate_succ']
      simp
    obtain ⟨s3, nD, rfl⟩ := hP
    refine ⟨D, _, rfl, SqL.of eD, ?_⟩
    have e : (List.replicate us.length true).all id = true := by simp
    rw [e]
    refine ⟨_, rfl, iteF ?_⟩
    have eL3 := s3 _ _ eL
    have hk3 := hk.mono (Same.tups s3) _ _
    refine ⟨rfl, _, rfl, L, rfl, ⟨us, SqL.of eL3⟩, ?_⟩
    refine comp_map (n := us.length) (fun i z => us[i]? = some z) (fun D i ys H4 => Same H3 H4 ∧ H3 D = none ∧ ys = ((ts.take i).map shS).map V.str) (by rw [sizeLine_eq]; omega)
      (fun D i ys H4 hi hP => ⟨us, us[i], SqL.of (hP.1 _ _ eL3), by simp [hi]⟩) (fun D i ys H4 z H5 hi hP hy => ⟨hy.1, hy.2 us (SqL.of (hP.1 _ _ eL3))⟩) (fun D ys H4 hP => ⟨us, SqL.of (hP.1 _ _ eL3), Nat.le_refl _⟩)
      (fun D hD => ⟨same_new hD _, hD, rfl⟩) (fun D i ys H4 z eD hl' hi hz hP R hR => ?_) (fun D2 ys H4 eD2 hP => ?_)
    · obtain ⟨s4, nD, rfl⟩ := hP
      obtain ⟨t, et, kt⟩ := hk3.get hz
      refine ⟨_, rfl, z, t, 3, rfl, kt.mono (Same.tups s4) _ _, hf t (List.mem_of_getElem? et), by decide, by decide, fun H5 s5 => ?_⟩
      refine hR _ H5 (s5 D _ eD) ⟨fun b o e => by rw [upd_ne (ne_of_none e nD)]; exact s5 b o (s4 b o e), nD, ?_⟩
      rw [List.take_add_one, et]
      simp
    obtain ⟨s4, nD2, rfl⟩ := hP
    rw [List.take_of_length_le (by omega)] at eD2
    have sp1 : (Str.ofString " ").length = 1 := by decide +kernel
    have xl : x.cps.toList.length = x.length := by simp [Str.length]
    have sm := sum_shown ts
    rw [← hT, xl] at sm
    refine ⟨Str.ofString " ", D2, ts.map shS, rfl, rfl, SqL.of eD2, by rw [List.length_map, sp1]; omega, ?_⟩
    have eg : Builtin.Str.glued (Str.ofString " ") (ts.map shS) = x := by rw [glued_shown, ← hT]
    rw [eg]
    have eL4 := s4 _ _ eL3
    refine ⟨_, rfl, .inl ⟨rfl, _, SqL.of eL4⟩, L, us, rfl, rfl, eL4, ?_⟩
    refine ⟨_, rfl, (by show 2 ≤ sizeLine; decide), fun p hp => ?_⟩
    have sC : Same H (upd H4 L (.lst [])) := fun a o e => by
      rw [upd_ne (ne_of_none e nHL)]
      exact s4 a o (s3 a o (s01 a o e))
    exact (k _ p (sC.trans (same_new hp _))).1 hfv upd_same
  · have g1 := same_new hea (XO gAny ea C (some dx))
    have ee : upd H1 ea (XO gAny ea C (some dx)) ea = some (XO gAny ea C (some dx)) := upd_same
    have ix : IsX (upd H1 ea (XO gAny ea C (some dx))) ea C := isx_x ee
    have ed := g1 _ _ edx
    refine ⟨_, rfl, ea, C, _, true, rfl, ix, ef.exc, rfl, ‹Cl K mg CB C›.self, _, rfl, iteF ?_⟩
    refine ⟨_, rfl, gAny, ea, C, dx, _, _, fI, rfl, ee, ed, ef, rfl, _, _, _, _, rfl, .int _, kit_ii, _, rfl, iteF ?_⟩
    refine ⟨_, rfl, gAny, ea, C, dx, _, _, fI, rfl, ee, ed, ef, rfl, _, _, _, _, rfl, .int _, kit_ib, _, rfl, iteF ?_⟩
    refine ⟨_, rfl, gAny, ea, C, dx, _, _, fI, rfl, ee, ed, ef, rfl, (by show 2 ≤ sizeLine; decide), fun p hp => ?_⟩
    exact (k _ p (((g0.trans s1).trans g1).trans (same_new hp _))).2 n hfv upd_same
end
end Tw
set_option Elab.async false
set_option linter.all false
set_option maxRecDepth 100000
set_option maxHeartbeats 8000000
namespace Tw
open PySem PySem.Spec L2
section
variable {P : Program} {w : World} {K : PySem.W.Frag} {mg : Str → Option Value} {base : Heap} {f : Addr} {fd : FuncData}
/-! ### _law_odd -/
abbrev nOdd : List Str := ["_law_well_here", "_law_many", "_law_figures", "_law_odd_here"]
theorem scOdd : FnScope nOdd ["_law_well_here"] (defScope sOdd) := ⟨rfl, rfl, rfl, by decide +kernel, rfl, by decide +kernel, by decide +kernel⟩
def ShortS (v : V) : Prop := ∃ x : Str, v = .str x ∧ x.length ≤ 200
theorem short_lit {x : Str} (h : x.length ≤ 200) : ShortS (.str x) := ⟨x, rfl, h⟩
theorem ok_odd (F : Fun K "_law_odd" "_law_odd" sOdd f fd) (DP : DefOk P w K mg base 1 "_law_pull" ["_law_well_here", "_law_many"] spPull) : FnOk P w K mg base CX0 2 f fd ["_law_well_here"] (spTxt 200) := by
  refine F.ok scOdd (fun vs H Q E h => (by obtain ⟨_, rfl, _⟩ := h; rfl)) (fun cdv A outer s H vs Q E hr h => ?_)
  obtain ⟨p, rfl, W, k⟩ := h
  have nd := scOdd.nd
  refine ⟨_, pss_cons (ps_set (i := 1) nd rfl (Or.inl rfl) (pe_ix ix_list (pe_lst (pa6 pe_int pe_int pe_int pe_int pe_int pe_int)) (pe_def DP hr (pa_c (pv 0) (pa_c pe_int pa_nil))) (fun _ _ => rfl)))
    (pss_cons (ps_set (i := 2) nd rfl (Or.inl rfl) (pe_op op_mulT' pe_str (pv 1)))
    (pss_cons (ps_set (i := 3) nd rfl (Or.inl rfl) (pe_lst (pa4 (pv 2) (pe_op op_add_str pe_str (pv 2)) (pe_op op_add_str (pe_op op_add_str pe_str (pe_op op_mulT' pe_str (pv 1))) pe_str) (pe_op op_add_str (pe_op op_add_str pe_str (pe_op op_mulT' pe_str (pv 1))) pe_str))))
    (pss_cons (ps_set (i := 3) nd rfl (Or.inl rfl) (pe_op op_cat (pv 3) (pe_lst (pa5 (pe_op op_add_str (pe_op op_mulT' pe_str (pe_op op_add pe_int (pe_op op_mod (pv 1) pe_int))) pe_str) pe_str pe_str pe_str pe_str))))
    (pss_one (ps_ret (pe_ix ix_list (pe_op op_cat (pv 3) (pe_lst (pa3 pe_str pe_str pe_str))) (pe_def DP hr (pa_c (pv 0) (pa_c pe_int pa_nil))) (fun _ _ => rfl))))))), ?_⟩
  have ap : ∀ a b : Str, (a ++ b).length = a.length + b.length := fun a b => PySem.Str.length_append a b
  refine ⟨(by show 6 ≤ sizeLine; decide), fun l0 h0 => ?_⟩
  have W0 := W.same (same_new h0 (.lst [.int 1, .int 40, .int 41, .int 60, .int 61, .int 62]))
  have n0p : l0 ≠ p := by
    obtain ⟨xs, e⟩ := W.some
    exact (ne_of_none e h0).symm
  refine ⟨_, rfl, p, 6, rfl, W0, small_lit (by decide) (by decide), fun r H1 r0 r1 W1 s1 => ?_⟩
  obtain ⟨mv, em, hm⟩ := atI_inn (xs := [V.int 1, V.int 40, V.int 41, V.int 60, V.int 61, V.int 62]) r0 (by show r < 6; omega)
  obtain ⟨m, rfl, m1, m2⟩ : ∃ m : Int, mv = .int m ∧ 1 ≤ m ∧ m ≤ 62 := by
    simp only [List.mem_cons, List.not_mem_nil, or_false] at hm
    rcases hm with rfl | rfl | rfl | rfl | rfl | rfl
    all_goals exact ⟨_, rfl, by decide, by decide⟩
  have sA : SameX p H H1 := (SameX.of (same_new h0 _)).trans s1
  refine ⟨l0, _, _, _, rfl, rfl, SqL.of (s1 _ _ upd_same n0p), em, ?_⟩
  have u1 : (Str.ofString "1").length = 1 := by decide +kernel
  have u2 : (Str.ofString "-").length = 1 := by decide +kernel
  have u3 : (Str.ofString "\"").length = 1 := by decide +kernel
  have u4 : (Str.ofString "~").length = 1 := by decide +kernel
  have u5 : (Str.ofString "\\\"").length = 2 := by decide +kernel
  have u6 : (Str.ofString "(").length = 1 := by decide +kernel
  have u7 : (Str.ofString "7").length = 1 := by decide +kernel
  refine ⟨_, rfl, _, _, rfl, rfl, by omega, by omega, m1, by omega, fun z1 hz1 => ?_⟩
  refine ⟨_, rfl, _, rfl, _, _, rfl, rfl, sz_ok (by omega), _, rfl, _, _, rfl, rfl, by omega, by omega, m1, by omega, fun z2 hz2 => ⟨_, _, rfl, rfl, sz_ok (by omega), _, _, rfl, rfl, sz_ok (by rw [ap]; omega), ?_⟩⟩
  refine ⟨_, rfl, _, _, rfl, rfl, by omega, by omega, m1, by omega, fun z3 hz3 => ⟨_, _, rfl, rfl, sz_ok (by omega), _, _, rfl, rfl, sz_ok (by rw [ap]; omega), (by show 4 ≤ sizeLine; decide), fun l1 h1 => ?_⟩⟩
  have sh1 : ∀ v ∈ [V.str z1, V.str (Str.ofString "-" ++ z1), V.str (Str.ofString "\"" ++ z2 ++ Str.ofString "\""), V.str (Str.ofString "\"" ++ z3 ++ Str.ofString "\"")], ShortS v := fun v hv => by
    simp only [List.mem_cons, List.not_mem_nil, or_false] at hv
    rcases hv with rfl | rfl | rfl | rfl
    · exact short_lit (by omega)
    · exact short_lit (by rw [ap]; omega)
    · exact short_lit (by rw [ap, ap]; omega)
    · exact short_lit (by rw [ap, ap]; omega)
  have hL1 : upd H1 l1 (.lst [V.str z1, V.str (Str.ofString "-" ++ z1), V.str (Str.ofString "\"" ++ z2 ++ Str.ofString "\""), V.str (Str.ofString "\"" ++ z3 ++ Str.ofString "\"")]) l1 = some (.lst _) := upd_same
  have g1 := same_new h1 (.lst [V.str z1, V.str (Str.ofString "-" ++ z1), V.str (Str.ofString "\"" ++ z2 ++ Str.ofString "\""), V.str (Str.ofString "\"" ++ z3 ++ Str.ofString "\"")])
  have mm0 : 0 ≤ m % 3 := Int.emod_nonneg m (by decide)
  have mm1 : m % 3 < 3 := Int.emod_lt_of_pos m (by decide)
  refine ⟨_, rfl, _, rfl, _, _, rfl, rfl, (by show (0 : Int) < 3; decide), _, _, rfl, rfl, _, 2 + m % 3, rfl, rfl, by omega, by omega, by omega, by omega, fun z4 hz4 => ⟨_, _, rfl, rfl, sz_ok (by omega), (by show 5 ≤ sizeLine; decide), fun l2 h2 => ?_⟩⟩
  have sh2 : ∀ v ∈ [V.str (z4 ++ Str.ofString "7"), V.str (Str.ofString "(1 2 3 4 5)"), V.str (Str.ofString "((1) (2 (3)) (4 (5 (6))))"), V.str (Str.ofString "-0"), V.str (Str.ofString "00")], ShortS v := fun v hv => by
    simp only [List.mem_cons, List.not_mem_nil, or_false] at hv
    rcases hv with rfl | rfl | rfl | rfl | rfl
    · exact short_lit (by rw [ap]; omega)
    all_goals exact short_lit (by decide +kernel)
  have g2 := same_new h2 (.lst [V.str (z4 ++ Str.ofString "7"), V.str (Str.ofString "(1 2 3 4 5)"), V.str (Str.ofString "((1) (2 (3)) (4 (5 (6))))"), V.str (Str.ofString "-0"), V.str (Str.ofString "00")])
  refine ⟨l1, l2, _, _, rfl, rfl, g2 _ _ hL1, upd_same, (by show 9 ≤ sizeLine; decide), fun l3 h3 => ?_⟩
  generalize eX : [V.str z1, V.str (Str.ofString "-" ++ z1), V.str (Str.ofString "\"" ++ z2 ++ Str.ofString "\""), V.str (Str.ofString "\"" ++ z3 ++ Str.ofString "\"")] ++ [V.str (z4 ++ Str.ofString "7"), V.str (Str.ofString "(1 2 3 4 5)"), V.str (Str.ofString "((1) (2 (3)) (4 (5 (6))))"), V.str (Str.ofString "-0"), V.str (Str.ofString "00")] = XS at *
  have sh3 : ∀ v ∈ XS, ShortS v := fun v hv => by
    rw [← eX] at hv
    rcases List.mem_append.mp hv with z | z
    · exact sh1 v z
    · exact sh2 v z
  have lX : XS.length = 9 := by rw [← eX]; rfl
  have g3 := same_new h3 (.lst XS)
  refine ⟨_, rfl, (by show 3 ≤ sizeLine; decide), fun l4 h4 => ?_⟩
  have g4 := same_new h4 (.lst [V.str (Str.ofString "\"\\a\""), V.str (Str.ofString "( 1)"), V.str (Str.ofString "()()")])
  refine ⟨l3, l4, XS, _, rfl, rfl, g4 _ _ upd_same, upd_same, (by rw [lX]; show 9 + 3 ≤ sizeLine; decide), fun l5 h5 => ?_⟩
  generalize eY : XS ++ [V.str (Str.ofString "\"\\a\""), V.str (Str.ofString "( 1)"), V.str (Str.ofString "()()")] = YS at *
  have sh5 : ∀ v ∈ YS, ShortS v := fun v hv => by
    rw [← eY] at hv
    rcases List.mem_append.mp hv with z | z
    · exact sh3 v z
    · simp only [List.mem_cons, List.not_mem_nil, or_false] at z
      rcases z with rfl | rfl | rfl
      all_goals exact short_lit (by decide +kernel)
  have lY : YS.length = 12 := by rw [← eY, List.length_append, lX]; rfl
  have g5 := same_new h5 (.lst YS)
  have gA := ((g1.trans g2).trans (g3.trans g4)).trans g5
  have W5 := W1.same gA
  have e5 := (upd_same (H := upd (upd (upd (upd H1 l1 (.lst [V.str z1, V.str (Str.ofString "-" ++ z1), V.str (Str.ofString "\"" ++ z2 ++ Str.ofString "\""), V.str (Str.ofString "\"" ++ z3 ++ Str.ofString "\"")])) l2 (.lst [V.str (z4 ++ Str.ofString "7"), V.str (Str.ofString "(1 2 3 4 5)"), V.str (Str.ofString "((1) (2 (3)) (4 (5 (6))))"), V.str (Str.ofString "-0"), V.str (Str.ofString "00")])) l3 (.lst XS)) l4 (.lst [V.str (Str.ofString "\"\\a\""), V.str (Str.ofString "( 1)"), V.str (Str.ofString "()()")])) (a := l5) (o := .lst YS))
  have n5p : l5 ≠ p := by
    obtain ⟨xs, e⟩ := (W1.same ((g1.trans g2).trans (g3.trans g4))).some
    exact (ne_of_none e h5).symm
  refine ⟨_, rfl, p, 12, rfl, W5, small_lit (by decide) (by decide), fun q H6 q0 q1 W6 s6 => ?_⟩
  obtain ⟨v, ev, hv⟩ := atI_inn (xs := YS) q0 (by rw [lY]; exact q1)
  obtain ⟨y, rfl, hy⟩ := sh5 v hv
  exact ⟨l5, _, _, _, rfl, rfl, SqL.of (s6 _ _ e5 n5p), ev, k y H6 hy W6 ((sA.trans (SameX.of gA)).trans s6)⟩
/-! ### _law_one -/
abbrev nOne : List Str := ["_law_well_here", "_law_spoils", "_law_words", "_law_j", "_law_text_here", "_law_turn"]
theorem scOne : FnScope nOne ["_law_well_here"] (defScope sOne) := ⟨rfl, rfl, rfl, by decide +kernel, rfl, by decide +kernel, by decide +kernel⟩
def growB : Nat → Nat
  | 0 => 55000
  | i + 1 => 3 * growB i + 1
theorem sum_few {B : Nat} : ∀ {l : List Str}, (∀ t ∈ l, t.length ≤ B) → (l.map (·.length)).sum ≤ l.length * B
  | [], _ => by simp
  | a :: l, h => by
    have h1 := h a List.mem_cons_self
    have h2 := sum_few fun t ht => h t (List.mem_cons_of_mem a ht)
    rw [List.map_cons, List.sum_cons, List.length_cons, Nat.succ_mul]
    omega
theorem ok_one (F : Fun K "_law_one" "_law_one" sOne f fd) (T : Txt mg) (DP : DefOk P w K mg base 1 "_law_pull" ["_law_well_here", "_law_many"] spPull) (DF : DefOk P w K mg base 2 "_law_free" ["_law_well_here"] (spTxt 30)) (DO : DefOk P w K mg base 2 "_law_odd" ["_law_well_here"] (spTxt 200))
    (DX : DefOk P w K mg base 2 "_law_spoilt" ["_law_well_here", "_law_text_here"] spSpoilt) (DK : DefOk P w K mg base 6 "_law_key" ["_law_well_here", "_law_room"] (spKey 4)) (DS : DefOk P w K mg base 5 "_law_shown" ["_law_key_here"] (spShow 4)) : FnOk P w K mg base CX0 7 f fd ["_law_well_here"] (spTxt 600000) := by
  refine F.ok scOne (fun vs H Q E h => (by obtain ⟨_, rfl, _⟩ := h; rfl)) (fun cdv A outer s H vs Q E hr h => ?_)
  obtain ⟨p, rfl, W, k⟩ := h
  have nd := scOne.nd
  have hr1 := hr.mono (show 1 ≤ 6 by decide)
  have hr2 := hr.mono (show 2 ≤ 6 by decide)
  have hr5 := hr.mono (show 5 ≤ 6 by decide)
  have tail : ∃ tt, PSs (cxOf CX0 P w K mg base nOne "_law_one" (defScope sOne) f cdv A outer s H E).nox ((defBody sOne).drop 5) tt ∧
      ∀ (sp : Int) (lw : V) (j : Option V) (x : Str) (H1 : Hp), 0 ≤ sp → sp < 3 → x.length ≤ 55000 → WellAt H1 p → SameX p H H1 → tt { nx := fun _ H' => Q .non H', rt := Q } [some (.ref p), some (.int sp), some lw, j, some (.str x), none] H1 := by
    refine ⟨_, pss_cons (ps_for PassesOwn.never rfl (pi_range1 rfl T.range (pa_c (pv 1) pa_nil)) (pg_name (i := 5) nd rfl (Or.inl rfl))
        (pss_one (ps_set (i := 4) nd rfl (Or.inl rfl) (pe_def DX hr2 (pa_c (pv 0) (pa_c (pv 4) pa_nil))))))
      (pss_one (ps_ret (pv 4))), ?_⟩
    intro sp lw j x H1 p0 p4 hx W1 s1
    refine ⟨_, rfl, sp, rfl, by omega, by omega, for_range (n := sp.toNat) (fun i σ H4 => ∃ (y : Str) (j2 : Option V), σ = [some (.ref p), some (.int sp), some lw, j, some (.str y), j2] ∧ y.length ≤ growB i ∧ WellAt H4 p ∧ SameX p H H4) ⟨x, none, rfl, hx, W1, s1⟩ ?_ ?_⟩
    · rintro i σ H4 hi ⟨y, j2, rfl, hy, W4, s4⟩
      have i3 : i = 0 ∨ i = 1 := by omega
      refine ⟨_, rfl, _, rfl, p, y, growB i, rfl, W4, hy, by rcases i3 with rfl | rfl <;> decide, fun z H5 hz W5 s5 => ?_⟩
      exact ⟨z, _, rfl, hz, W5, s4.trans s5⟩
    · rintro σ H4 ⟨y, j2, rfl, hy, W4, s4⟩
      have i3 : sp.toNat = 0 ∨ sp.toNat = 1 ∨ sp.toNat = 2 := by omega
      refine ⟨_, rfl, k y H4 (Nat.le_trans hy ?_) W4 s4⟩
      rcases i3 with e | e | e <;> rw [e] <;> decide
  obtain ⟨tt, htt, hfin⟩ := tail
  refine ⟨_, pss_cons (ps_if (pt_cmpR op_eq (pe_def DP hr1 (pa_c (pv 0) (pa_c pe_int pa_nil))) pe_int (nomark _)) (pss_one (ps_ret (pe_def DF hr2 (pa_c (pv 0) pa_nil)))) pss_nil)
    (pss_cons (ps_set (i := 1) nd rfl (Or.inl rfl) (pe_def DP hr1 (pa_c (pv 0) (pa_c pe_int pa_nil))))
    (pss_cons (ps_set (i := 2) nd rfl (Or.inl rfl) (pe_lst pa_nil))
    (pss_cons (ps_for PassesOwn.never rfl (pi_range1 rfl T.range (pa_c (pe_def DP hr1 (pa_c (pv 0) (pa_c (pe_ix ix_list (pe_lst (pa4 pe_int pe_int pe_int pe_int)) (pe_def DP hr1 (pa_c (pv 0) (pa_c pe_int pa_nil))) (fun _ _ => rfl)) pa_nil))) pa_nil)) (pg_name (i := 3) nd rfl (Or.inl rfl))
      (pss_one (ps_if (pt_cmpR op_eq (pe_def DP hr1 (pa_c (pv 0) (pa_c pe_int pa_nil))) pe_int (nomark _))
        (pss_one (ps_expr (pe_bm PySem.F.plainAttrs_list PySem.F.slot_list_append PySem.F.type_list_append mt_append (pv 2) (pa_c (pe_def DO hr2 (pa_c (pv 0) pa_nil)) pa_nil))))
        (pss_one (ps_expr (pe_bm PySem.F.plainAttrs_list PySem.F.slot_list_append PySem.F.type_list_append mt_append (pv 2) (pa_c (pe_def DS hr5 (pa_c (pe_def DK hr (pa_c (pv 0) (pa_c pe_int pa_nil))) pa_nil)) pa_nil)))))))
    (pss_cons (ps_set (i := 4) nd rfl (Or.inl rfl) (pe_bm PySem.F.plainAttrs_str PySem.F.slot_str_join PySem.F.type_str_join mt_join pe_str (pa_c (pv 2) pa_nil))) htt)))), ?_⟩
  refine ⟨_, rfl, p, 3, rfl, W, small_lit (by decide) (by decide), fun y H1 y0 y1 W1 s1 => ?_⟩
  refine ⟨rfl, _, rfl, ite2 (fun _ => ?_) (fun _ => ?_)⟩
  · exact ⟨_, rfl, p, rfl, W1, fun x H2 hx W2 s2 => k x H2 (by omega) W2 (s1.trans s2)⟩
  refine ⟨_, rfl, p, 3, rfl, W1, small_lit (by decide) (by decide), fun sp H2 p0 p4 W2 s2 => ?_⟩
  refine ⟨(by show 0 ≤ sizeLine; decide), fun lw hlw => ?_⟩
  have nwp : lw ≠ p := by
    obtain ⟨xs, e⟩ := W2.some
    exact (ne_of_none e hlw).symm
  have s12 := s1.trans s2
  have nHw : H lw = none := by
    cases e : H lw with
    | none => rfl
    | some o => rw [s12 lw o e nwp] at hlw; cases hlw
  have W3 := W2.same (same_new hlw (.lst []))
  have e3 : upd H2 lw (.lst []) lw = some (.lst []) := upd_same
  have s3 : SameX p H (upd H2 lw (.lst [])) := s12.trans (SameX.of (same_new hlw _))
  generalize upd H2 lw (.lst []) = H3 at *
  refine ⟨_, rfl, (by show 4 ≤ sizeLine; decide), fun l4 h4 => ?_⟩
  have n4p : l4 ≠ p := by
    obtain ⟨xs, e⟩ := W3.some
    exact (ne_of_none e h4).symm
  have g4 := same_new h4 (.lst [.int 5, .int 5, .int 5, .int 10])
  refine ⟨_, rfl, p, 4, rfl, W3.same g4, small_lit (by decide) (by decide), fun r H5 r0 r1 W5 s5 => ?_⟩
  obtain ⟨mv, em, hm⟩ := atI_inn (xs := [V.int 5, V.int 5, V.int 5, V.int 10]) r0 (by show r < 4; omega)
  obtain ⟨m, rfl, m1, m2⟩ : ∃ m : Int, mv = .int m ∧ 1 ≤ m ∧ m ≤ 10 := by
    simp only [List.mem_cons, List.not_mem_nil, or_false] at hm
    rcases hm with rfl | rfl | rfl | rfl
    all_goals exact ⟨_, rfl, by decide, by decide⟩
  have m10 : small m := by
    refine small_lit (by omega) ?_
    have : (2 : Nat) ^ 250 > 1000 := by decide
    omega
  refine ⟨l4, _, _, _, rfl, rfl, SqL.of (s5 _ _ upd_same n4p), em, p, m, rfl, W5, m10, fun n H6 n0 n1 W6 s6 => ?_⟩
  have sA : SameX p H3 H6 := ((SameX.of g4).trans s5).trans s6
  have B3 : lenB 3 ≤ 5400 := by decide
  refine ⟨n, rfl, by omega, by omega, for_range (n := n.toNat) (fun i σ H7 => ∃ (ts : List Str) (j : Option V), σ = [some (.ref p), some (.int sp), some (.ref lw), j, none, none] ∧ H7 lw = some (.lst (ts.map V.str)) ∧ ts.length = i ∧ (∀ t ∈ ts, t.length ≤ 5400) ∧ WellAt H7 p ∧ SameX p H H7)
    ⟨[], none, rfl, sA _ _ e3 nwp, rfl, by simp, W6, s3.trans sA⟩ ?_ ?_⟩
  · rintro i σ H7 hi ⟨ts, j, rfl, e7, tl, hts, W7, s7⟩
    have add : ∀ (x : Str) (H8 : Hp), x.length ≤ 5400 → WellAt H8 p → SameX p H7 H8 → ∃ (ts' : List Str) (j' : Option V), [some (V.ref p), some (.int sp), some (.ref lw), some (.int (0 + (i : Int))), none, none] = [some (.ref p), some (.int sp), some (.ref lw), j', none, none] ∧ upd H8 lw (.lst (ts.map V.str ++ [.str x])) lw = some (.lst (ts'.map V.str)) ∧ ts'.length = i + 1 ∧ (∀ t ∈ ts', t.length ≤ 5400) ∧ WellAt (upd H8 lw (.lst (ts.map V.str ++ [.str x]))) p ∧ SameX p H (upd H8 lw (.lst (ts.map V.str ++ [.str x]))) := fun x H8 hx W8 s8 => by
      have sD : SameX lw H8 (upd H8 lw (.lst (ts.map V.str ++ [.str x]))) := (SameX.refl lw H8).upd
      refine ⟨ts ++ [x], _, rfl, by rw [upd_same]; simp, by simp [tl], fun t ht => ?_, W8.stay sD nwp.symm, fun b o e nb => ?_⟩
      · rcases List.mem_append.mp ht with z | z
        · exact hts t z
        · rw [List.mem_singleton.mp z]; exact hx
      · rw [upd_ne (ne_of_none e nHw)]
        exact (s7.trans s8) b o e nb
    have sml : ∀ (l : List V), l.length ≤ 1000 → l.length < sizeLine := fun l h => by rw [sizeLine_eq]; omega
    refine ⟨_, rfl, p, 5, rfl, W7, small_lit (by decide) (by decide), fun q H8 q0 q1 W8 s8 => ?_⟩
    have e8 := s8 _ _ e7 nwp
    refine ⟨rfl, _, rfl, ite2 (fun _ => ?_) (fun _ => ?_)⟩
    · refine ⟨_, rfl, .inl ⟨rfl, _, SqL.of e8⟩, _, rfl, p, rfl, W8, fun x H9 hx W9 s9 => ?_⟩
      have e9 := s9 _ _ e8 nwp
      exact ⟨lw, _, _, rfl, rfl, e9, small1000 (by rw [List.length_map]; omega), add x H9 (by omega) W9 (s8.trans s9)⟩
    · refine ⟨_, rfl, .inl ⟨rfl, _, SqL.of e8⟩, _, rfl, p, 3, rfl, W8, by decide, fun v t H9 hv hf W9 s9 => ?_⟩
      have e9 := s9 _ _ e8 nwp
      refine ⟨v, t, 3, rfl, hv, hf, by decide, by decide, fun Ha sa => ?_⟩
      have ea := sa _ _ e9
      have sl := shown_len t 3 hf
      exact ⟨lw, _, _, rfl, rfl, ea, small1000 (by rw [List.length_map]; omega), add (shS t) Ha (by rw [shS_len]; omega) (W9.same sa) ((s8.trans s9).trans (SameX.of sa))⟩
  · rintro σ H7 ⟨ts, j, rfl, e7, tl, hts, W7, s7⟩
    have sp1 : (Str.ofString " ").length = 1 := by decide +kernel
    have sm := sum_few hts
    have t10 : ts.length ≤ 10 := by omega
    have mm : ts.length * 5400 ≤ 10 * 5400 := Nat.mul_le_mul_right _ t10
    refine ⟨rfl, _, rfl, Str.ofString " ", lw, ts, rfl, rfl, SqL.of e7, by rw [sp1]; omega, ?_⟩
    refine hfin sp _ j _ H7 p0 p4 ?_ W7 s7
    rw [PySem.size_glued, sp1]
    omega
end
end Tw
set_option Elab.async false
set_option linter.all false
set_option maxRecDepth 100000
set_option maxHeartbeats 8000000
namespace Tw
open PySem PySem.Spec L2
def forBody : Stmt → List Stmt
  | .For _ _ b _ _ => b
  | _ => []
section
variable {P : Program} {w : World} {K : PySem.W.Frag} {mg : Str → Option Value} {base : Heap} {f : Addr} {fd : FuncData}
abbrev nLaw : List Str := ["_law_script", "_law_k", "_law_text_here", "_law_at", "_law_due", "_law_turn"]
theorem scLaw : FnScope nLaw ["_law_script"] (defScope sLaw) := ⟨rfl, rfl, rfl, by decide +kernel, rfl, by decide +kernel, by decide +kernel⟩
theorem pair_key {H : Hp} {p : Addr} {a b : V} {s t : KT} (h : H p = some (.tup [a, b])) (ha : KeyAt H s a) (hb : KeyAt H t b) : KeyAt H (.tup [s, t]) (.ref p) := .tup h (.cons ha (.cons hb .nil))
theorem ok_law (F : Fun K "law" "law" sLaw f fd) (T : Txt mg) (DW : DefOk P w K mg base 1 "_law_well" ["_law_script", "_law_k"] (spWell K)) (DO : DefOk P w K mg base 7 "_law_one" ["_law_well_here"] (spTxt 600000)) (DF : DefOk P w K mg base 3 "_law_fails" ["_law_text_here", "_law_many"] spFails)
    (DT : DefOk P w K mg base 14 "_law_told" ["_law_text_here"] spTold) : FnOk P w K mg base CX0 20 f fd ["_law_script"] (spLaw K) := by
  refine F.ok scLaw (fun vs H Q E h => (by obtain ⟨_, _, rfl, _⟩ := h; rfl)) (fun cdv A outer s H vs Q E hr h => ?_)
  obtain ⟨a, ns, rfl, hS, hn, k⟩ := h
  have nd := scLaw.nd
  have hr1 := hr.mono (show 1 ≤ 19 by decide)
  have hr3 := hr.mono (show 3 ≤ 19 by decide)
  have hr7 := hr.mono (show 7 ≤ 19 by decide)
  have hr14 := hr.mono (show 14 ≤ 19 by decide)
  have inner : ∃ ti, PS (cxOf CX0 P w K mg base nLaw "law" (defScope sLaw) f cdv A outer s H E).nox ((forBody ((defBody sLaw).getD 0 (.Pass ⟨0, 0, 0, 0⟩))).getD 4 (.Pass ⟨0, 0, 0, 0⟩)) ti ∧
      ∀ (D : Ends) (x : Str) (q : Addr) (t : KT) (kv av : V) (ov : Option V) (H1 : Hp), x.length ≤ 600000 → KeyAt H1 t (.ref q) → t.depth ≤ 200 →
        (∀ H2 p, Same H1 H2 → (failV true x.cps.toList = -1 → H2 p = some (.tup [.str (Str.ofString "told"), .str x]) → KeyAt H2 t (.ref p)) ∧ (∀ g : Nat, failV true x.cps.toList = (g : Int) → H2 p = some (.tup [.str (Str.ofString "refused"), .int (g : Int)]) → KeyAt H2 t (.ref p))) →
        (∀ H2 ov', Same H1 H2 → D.nx [some (.ref a), some kv, some (.str x), some av, some (.ref q), ov'] H2) → ti D [some (.ref a), some kv, some (.str x), some av, some (.ref q), ov] H1 := by
    refine ⟨_, ps_for PassesOwn.never rfl (pi_range1 rfl T.range (pa_c pe_int pa_nil)) (pg_name (i := 5) nd rfl (Or.inl rfl))
      (pss_one (ps_if (pt_cmpR (op_neK hr) (pe_def DT hr14 (pa_c (pv 2) pa_nil)) (pv 4) rfl) (pss_one (ps_ret pe_bl)) pss_nil)), ?_⟩
    intro D x q t kv av ov H1 hx kq dq kt nx
    refine ⟨2, rfl, by decide, by decide, for_range (n := 2) (fun i σ H2 => ∃ ov', σ = [some (.ref a), some kv, some (.str x), some av, some (.ref q), ov'] ∧ Same H1 H2) ⟨ov, rfl, Same.refl _⟩ ?_ ?_⟩
    · rintro i σ H2 hi ⟨ov', rfl, s2⟩
      have fin : ∀ H3 p, Same H2 H3 → KeyAt H3 t (.ref p) → ∃ b, V.bl (!t.eqb t) = .bl b ∧ (if b = true then D.rt (.bl false) H3 else ∃ ov'', [some (V.ref a), some kv, some (.str x), some av, some (.ref q), some (.int (0 + (i : Int)))] = [some (.ref a), some kv, some (.str x), some av, some (.ref q), ov''] ∧ Same H1 H3) := fun H3 p s3 _ => by
        refine ⟨_, rfl, ?_⟩
        rw [eqb_self]
        exact iteF ⟨_, rfl, s2.trans s3⟩
      refine ⟨_, rfl, x, rfl, by omega, fun H3 p s3 => ⟨fun hf e => ?_, fun g hf e => ?_⟩⟩
      · have kp := (kt H3 p (s2.trans s3)).1 hf e
        exact ⟨_, rfl, t, t, kp, kq.mono (Same.tups (s2.trans s3)) _ _, dq, fin H3 p s3 kp⟩
      · have kp := (kt H3 p (s2.trans s3)).2 g hf e
        exact ⟨_, rfl, t, t, kp, kq.mono (Same.tups (s2.trans s3)) _ _, dq, fin H3 p s3 kp⟩
    · rintro σ H2 ⟨ov', rfl, s2⟩
      exact nx H2 ov' s2
  obtain ⟨ti, hti, hin⟩ := inner
  refine ⟨_, pss_cons (ps_for PassesOwn.never rfl (pi_range2 rfl T.range (pa_c pe_int (pa_c (pe_callB (call_max2 rfl) rfl T.max tb_max (pa_c pe_int (pa_c (pe_callB (call_min2 rfl) rfl T.min tb_min (pa_c (pe_callB call_len_seq rfl T.len tb_len (pa_c (pv 0) pa_nil)) (pa_c pe_int pa_nil))) pa_nil))) pa_nil))) (pg_name (i := 1) nd rfl (Or.inl rfl))
      (pss_cons (ps_set (i := 2) nd rfl (Or.inl rfl) (pe_def DO hr7 (pa_c (pe_def DW hr1 (pa_c (pv 0) (pa_c (pv 1) pa_nil))) pa_nil)))
      (pss_cons (ps_set (i := 3) nd rfl (Or.inl rfl) (pe_def DF hr3 (pa_c (pv 2) (pa_c pe_bl pa_nil))))
      (pss_cons (ps_set (i := 4) nd rfl (Or.inl rfl) (pe_tup (pa_c pe_str (pa_c (pv 3) pa_nil))))
      (pss_cons (ps_if (pt_cmpR op_eq (pv 3) (pe_un un_neg pe_int) (nomark _)) (pss_one (ps_set (i := 4) nd rfl (Or.inl rfl) (pe_tup (pa_c pe_str (pa_c (pv 2) pa_nil))))) pss_nil)
      (pss_one hti))))))
    (pss_one (ps_ret pe_bl)), ?_⟩
  obtain ⟨M, eM, M4, M63⟩ : ∃ M : Int, (if (if (63 : Int) < ((ns.map V.int).length : Int) then (63 : Int) else ((ns.map V.int).length : Int)) > 4 then (if (63 : Int) < ((ns.map V.int).length : Int) then (63 : Int) else ((ns.map V.int).length : Int)) else 4) = M ∧ 4 ≤ M ∧ M ≤ 63 := by
    refine ⟨_, rfl, ?_, ?_⟩
    · (repeat' split) <;> omega
    · (repeat' split) <;> omega
  refine ⟨_, rfl, a, ns.map V.int, rfl, .inl hS, _, _, rfl, _, _, rfl, 1, M, congrArg (fun z => [V.int 1, V.int z]) eM, ⟨by omega, by omega, by omega, by omega⟩, ?_⟩
  clear eM
  refine for_range (lo := 1) (n := (M - 1).toNat) (fun i σ H2 => ∃ z1 z2 z3 z4 z5 : Option V, σ = [some (.ref a), z1, z2, z3, z4, z5] ∧ Same H H2) ⟨_, _, _, _, _, rfl, Same.refl _⟩ ?_ ?_
  · rintro i σ H2 hi ⟨z1, z2, z3, z4, z5, rfl, s2⟩
    refine ⟨_, rfl, _, rfl, a, ns, _, rfl, s2.seq hS, hn, by omega, by omega, fun p H4 np s4 W4 => ?_⟩
    refine ⟨p, rfl, W4, fun x H5 hx W5 s5 => ?_⟩
    have s25 : Same H2 H5 := fun b o e => s5 b o (s4 b o e) (ne_of_none e np)
    have hxl : x.length ≤ sizeLine := sz_ok (by omega)
    refine ⟨_, rfl, x, true, rfl, hxl, fun H6 s6 => ?_⟩
    refine ⟨_, rfl, (by show 2 ≤ sizeLine; decide), fun p1 h1 => ?_⟩
    have g1 := same_new h1 (.tup [.str (Str.ofString "refused"), .int (failV true x.cps.toList)])
    refine ⟨_, rfl, 1, rfl, rfl, _, rfl, ?_⟩
    have nx : ∀ H7, Same H6 H7 → Same H H7 := fun H7 s7 => (s2.trans s25).trans (s6.trans s7)
    rcases failV_cases true x.cps.toList with hf | ⟨g, hf⟩
    · rw [hf] at g1 ⊢
      refine ite2 (fun _ => ?_) (fun z => absurd (decide_eq_true rfl) z)
      refine ⟨_, rfl, (by show 2 ≤ sizeLine; decide), fun p2 h2 => ?_⟩
      have g2 := same_new h2 (.tup [.str (Str.ofString "told"), .str x])
      refine hin _ x p2 (.tup [.str (Str.ofString "told"), .str x]) _ _ _ _ hx (pair_key upd_same (.str _) (.str _)) (by simp [KT.depth, depthL]) (fun H7 q s7 => ⟨fun _ e => pair_key e (.str _) (.str _), fun g hg => by rw [hf] at hg; omega⟩) (fun H7 ov' s7 => ?_)
      exact ⟨_, _, _, _, _, rfl, nx _ ((g1.trans g2).trans s7)⟩
    · rw [hf] at g1 ⊢
      refine ite2 (fun z => ?_) (fun _ => ?_)
      · have := vint_inj (of_decide_eq_true z)
        omega
      refine hin _ x p1 (.tup [.str (Str.ofString "refused"), .int (g : Int)]) _ _ _ _ hx (pair_key upd_same (.str _) (.int _)) (by simp [KT.depth, depthL]) (fun H7 q s7 => ⟨fun z _ => by rw [hf] at z; omega, fun g' hg' e => ?_⟩) (fun H7 ov' s7 => ?_)
      · have eg : g' = g := by rw [hf] at hg'; omega
        subst eg
        exact pair_key e (.str _) (.int _)
      · exact ⟨_, _, _, _, _, rfl, nx _ (g1.trans s7)⟩
  · rintro σ H2 ⟨z1, z2, z3, z4, z5, rfl, s2⟩
    exact k H2
end
end Tw
set_option Elab.async false
set_option linter.all false
set_option maxRecDepth 100000
set_option maxHeartbeats 8000000
namespace Tw
open PySem PySem.Spec L2
theorem all_mk {l : PySem.W.OpenLaw} {w : World} {K : PySem.W.Frag} {h : Heap} {mg : Str → Option Value} {fa f1 f2 f3 f4 f5 f6 f7 f8 f9 f10 f11 f12 f13 f14 f15 f16 f17 f18 f19 f20 f21 f22 f23 f24 f25 f26 CB CT jT : Addr} (X : K.In h) (G : h.Ns mainGlobals mg) (hfa : mg "law" = some (.ref fa))
    {od1 an1 od2 an2 od3 an3 od4 an4 od5 an5 od6 an6 od7 an7 od8 an8 od9 an9 od10 an10 od11 an11 od12 an12 od13 an13 od14 an14 od15 an15 od16 an16 od17 an17 od18 an18 od19 an19 od20 an20 od21 an21 od22 an22 od23 an23 od24 an24 od25 an25 od26 an26 : Option Addr} {sl1 sl2 sl3 sl4 sl5 sl6 sl7 sl8 sl9 sl10 sl11 sl12 sl13 sl14 sl15 sl16 sl17 sl18 sl19 sl20 sl21 sl22 sl23 sl24 sl25 sl26 : Array (Option Value)} {oc1 kV1 dc1 pm1 cd1 ct1 oc2 kV2 dc2 pm2 cd2 ct2 oc3 kV3 dc3 pm3 cd3 ct3 oc4 kV4 dc4 pm4 cd4 ct4 oc5 kV5 dc5 pm5 cd5 ct5 oc6 kV6 dc6 pm6 cd6 ct6 oc7 kV7 dc7 pm7 cd7 ct7 oc8 kV8 dc8 pm8 cd8 ct8 oc9 kV9 dc9 pm9 cd9 ct9 oc10 kV10 dc10 pm10 cd10 ct10 oc11 kV11 dc11 pm11 cd11 ct11 oc12 kV12 dc12 pm12 cd12 ct12 oc13 kV13 dc13 pm13 cd13 ct13 oc14 kV14 dc14 pm14 cd14 ct14 oc15 kV15 dc15 pm15 cd15 ct15 oc16 kV16 dc16 pm16 cd16 ct16 oc17 kV17 dc17 pm17 cd17 ct17 oc18 kV18 dc18 pm18 cd18 ct18 oc19 kV19 dc19 pm19 cd19 ct19 oc20 kV20 dc20 pm20 cd20 ct20 oc21 kV21 dc21 pm21 cd21 ct21 oc22 kV22 dc22 pm22 cd22 ct22 oc23 kV23 dc23 pm23 cd23 ct23 oc24 kV24 dc24 pm24 cd24 ct24 oc25 kV25 dc25 pm25 cd25 ct25 oc26 kV26 dc26 pm26 cd26 ct26 : Value} {t1 t2 t3 t4 : Tok}
    (a1 : PySem.W.nsIn K mainGlobals "is_sign" = some (some (.ref f1))) (l1 : K.lookup f1 = some ⟨oc1, od1, .func (PySem.W.fnOf "is_sign" "is_sign" (defArgs sSign) (defBody sSign) (defScope sSign) .none kV1 dc1 pm1 an1 cd1 ct1), sl1⟩) (c1 : PySem.W.codeIn K cd1 "is_sign" = true) (k1 : PySem.W.keepIn K (.ref f1) = true)
    (a2 : PySem.W.nsIn K mainGlobals "read_many" = some (some (.ref f2))) (l2 : K.lookup f2 = some ⟨oc2, od2, .func (PySem.W.fnOf "read_many" "read_many" (defArgs sReadMany) (defBody sReadMany) (defScope sReadMany) .none kV2 dc2 pm2 an2 cd2 ct2), sl2⟩) (c2 : PySem.W.codeIn K cd2 "read_many" = true) (k2 : PySem.W.keepIn K (.ref f2) = true)
    (a3 : PySem.W.nsIn K mainGlobals "key_at" = some (some (.ref f3))) (l3 : K.lookup f3 = some ⟨oc3, od3, .func (PySem.W.fnOf "key_at" "key_at" (defArgs sKeyAt) (defBody sKeyAt) (defScope sKeyAt) .none kV3 dc3 pm3 an3 cd3 ct3), sl3⟩) (c3 : PySem.W.codeIn K cd3 "key_at" = true) (k3 : PySem.W.keepIn K (.ref f3) = true)
    (a4 : PySem.W.nsIn K mainGlobals "number_at" = some (some (.ref f4))) (l4 : K.lookup f4 = some ⟨oc4, od4, .func (PySem.W.fnOf "number_at" "number_at" (defArgs sNumberAt) (defBody sNumberAt) (defScope sNumberAt) .none kV4 dc4 pm4 an4 cd4 ct4), sl4⟩) (c4 : PySem.W.codeIn K cd4 "number_at" = true) (k4 : PySem.W.keepIn K (.ref f4) = true)
    (a5 : PySem.W.nsIn K mainGlobals "text_at" = some (some (.ref f5))) (l5 : K.lookup f5 = some ⟨oc5, od5, .func (PySem.W.fnOf "text_at" "text_at" (defArgs sTextAt) (defBody sTextAt) (defScope sTextAt) .none kV5 dc5 pm5 an5 cd5 ct5), sl5⟩) (c5 : PySem.W.codeIn K cd5 "text_at" = true) (k5 : PySem.W.keepIn K (.ref f5) = true)
    (a6 : PySem.W.nsIn K mainGlobals "meant_at" = some (some (.ref f6))) (l6 : K.lookup f6 = some ⟨oc6, od6, .func (PySem.W.fnOf "meant_at" "meant_at" (defArgs sMeantAt) (defBody sMeantAt) (defScope sMeantAt) .none kV6 dc6 pm6 an6 cd6 ct6), sl6⟩) (c6 : PySem.W.codeIn K cd6 "meant_at" = true) (k6 : PySem.W.keepIn K (.ref f6) = true)
    (a7 : PySem.W.nsIn K mainGlobals "tuple_at" = some (some (.ref f7))) (l7 : K.lookup f7 = some ⟨oc7, od7, .func (PySem.W.fnOf "tuple_at" "tuple_at" (defArgs sTupleAt) (defBody sTupleAt) (defScope sTupleAt) .none kV7 dc7 pm7 an7 cd7 ct7), sl7⟩) (c7 : PySem.W.codeIn K cd7 "tuple_at" = true) (k7 : PySem.W.keepIn K (.ref f7) = true)
    (a8 : PySem.W.nsIn K mainGlobals "sign_at" = some (some (.ref f8))) (l8 : K.lookup f8 = some ⟨oc8, od8, .func (PySem.W.fnOf "sign_at" "sign_at" (defArgs sSignAt) (defBody sSignAt) (defScope sSignAt) .none kV8 dc8 pm8 an8 cd8 ct8), sl8⟩) (c8 : PySem.W.codeIn K cd8 "sign_at" = true) (k8 : PySem.W.keepIn K (.ref f8) = true)
    (a9 : PySem.W.nsIn K mainGlobals "is_figure" = some (some (.ref f9))) (l9 : K.lookup f9 = some ⟨oc9, od9, .func (PySem.W.fnOf "is_figure" "is_figure" (defArgs sFigure) (defBody sFigure) (defScope sFigure) .none kV9 dc9 pm9 an9 cd9 ct9), sl9⟩) (c9 : PySem.W.codeIn K cd9 "is_figure" = true) (k9 : PySem.W.keepIn K (.ref f9) = true)
    (a10 : PySem.W.nsIn K mainGlobals "_law_well" = some (some (.ref f10))) (l10 : K.lookup f10 = some ⟨oc10, od10, .func (PySem.W.fnOf "_law_well" "_law_well" (defArgs sWell) (defBody sWell) (defScope sWell) .none kV10 dc10 pm10 an10 cd10 ct10), sl10⟩) (c10 : PySem.W.codeIn K cd10 "_law_well" = true) (k10 : PySem.W.keepIn K (.ref f10) = true)
    (a11 : PySem.W.nsIn K mainGlobals "_law_pull" = some (some (.ref f11))) (l11 : K.lookup f11 = some ⟨oc11, od11, .func (PySem.W.fnOf "_law_pull" "_law_pull" (defArgs sPull) (defBody sPull) (defScope sPull) .none kV11 dc11 pm11 an11 cd11 ct11), sl11⟩) (c11 : PySem.W.codeIn K cd11 "_law_pull" = true) (k11 : PySem.W.keepIn K (.ref f11) = true)
    (a12 : PySem.W.nsIn K mainGlobals "_law_great" = some (some (.ref f12))) (l12 : K.lookup f12 = some ⟨oc12, od12, .func (PySem.W.fnOf "_law_great" "_law_great" (defArgs sGreat) (defBody sGreat) (defScope sGreat) .none kV12 dc12 pm12 an12 cd12 ct12), sl12⟩) (c12 : PySem.W.codeIn K cd12 "_law_great" = true) (k12 : PySem.W.keepIn K (.ref f12) = true)
    (a13 : PySem.W.nsIn K mainGlobals "_law_text" = some (some (.ref f13))) (l13 : K.lookup f13 = some ⟨oc13, od13, .func (PySem.W.fnOf "_law_text" "_law_text" (defArgs sText) (defBody sText) (defScope sText) .none kV13 dc13 pm13 an13 cd13 ct13), sl13⟩) (c13 : PySem.W.codeIn K cd13 "_law_text" = true) (k13 : PySem.W.keepIn K (.ref f13) = true)
    (a14 : PySem.W.nsIn K mainGlobals "_law_key" = some (some (.ref f14))) (l14 : K.lookup f14 = some ⟨oc14, od14, .func (PySem.W.fnOf "_law_key" "_law_key" (defArgs sKey) (defBody sKey) (defScope sKey) .none kV14 dc14 pm14 an14 cd14 ct14), sl14⟩) (c14 : PySem.W.codeIn K cd14 "_law_key" = true) (k14 : PySem.W.keepIn K (.ref f14) = true)
    (a15 : PySem.W.nsIn K mainGlobals "_law_shown" = some (some (.ref f15))) (l15 : K.lookup f15 = some ⟨oc15, od15, .func (PySem.W.fnOf "_law_shown" "_law_shown" (defArgs sShown) (defBody sShown) (defScope sShown) .none kV15 dc15 pm15 an15 cd15 ct15), sl15⟩) (c15 : PySem.W.codeIn K cd15 "_law_shown" = true) (k15 : PySem.W.keepIn K (.ref f15) = true)
    (a16 : PySem.W.nsIn K mainGlobals "_law_begun" = some (some (.ref f16))) (l16 : K.lookup f16 = some ⟨oc16, od16, .func (PySem.W.fnOf "_law_begun" "_law_begun" (defArgs sBegun) (defBody sBegun) (defScope sBegun) .none kV16 dc16 pm16 an16 cd16 ct16), sl16⟩) (c16 : PySem.W.codeIn K cd16 "_law_begun" = true) (k16 : PySem.W.keepIn K (.ref f16) = true)
    (a17 : PySem.W.nsIn K mainGlobals "_law_within" = some (some (.ref f17))) (l17 : K.lookup f17 = some ⟨oc17, od17, .func (PySem.W.fnOf "_law_within" "_law_within" (defArgs sWithin) (defBody sWithin) (defScope sWithin) .none kV17 dc17 pm17 an17 cd17 ct17), sl17⟩) (c17 : PySem.W.codeIn K cd17 "_law_within" = true) (k17 : PySem.W.keepIn K (.ref f17) = true)
    (a18 : PySem.W.nsIn K mainGlobals "_law_step" = some (some (.ref f18))) (l18 : K.lookup f18 = some ⟨oc18, od18, .func (PySem.W.fnOf "_law_step" "_law_step" (defArgs sStep) (defBody sStep) (defScope sStep) .none kV18 dc18 pm18 an18 cd18 ct18), sl18⟩) (c18 : PySem.W.codeIn K cd18 "_law_step" = true) (k18 : PySem.W.keepIn K (.ref f18) = true)
    (a19 : PySem.W.nsIn K mainGlobals "_law_fails" = some (some (.ref f19))) (l19 : K.lookup f19 = some ⟨oc19, od19, .func (PySem.W.fnOf "_law_fails" "_law_fails" (defArgs sFails) (defBody sFails) (defScope sFails) .none kV19 dc19 pm19 an19 cd19 ct19), sl19⟩) (c19 : PySem.W.codeIn K cd19 "_law_fails" = true) (k19 : PySem.W.keepIn K (.ref f19) = true)
    (a20 : PySem.W.nsIn K mainGlobals "_law_odd" = some (some (.ref f20))) (l20 : K.lookup f20 = some ⟨oc20, od20, .func (PySem.W.fnOf "_law_odd" "_law_odd" (defArgs sOdd) (defBody sOdd) (defScope sOdd) .none kV20 dc20 pm20 an20 cd20 ct20), sl20⟩) (c20 : PySem.W.codeIn K cd20 "_law_odd" = true) (k20 : PySem.W.keepIn K (.ref f20) = true)
    (a21 : PySem.W.nsIn K mainGlobals "_law_spoilt" = some (some (.ref f21))) (l21 : K.lookup f21 = some ⟨oc21, od21, .func (PySem.W.fnOf "_law_spoilt" "_law_spoilt" (defArgs sSpoilt) (defBody sSpoilt) (defScope sSpoilt) .none kV21 dc21 pm21 an21 cd21 ct21), sl21⟩) (c21 : PySem.W.codeIn K cd21 "_law_spoilt" = true) (k21 : PySem.W.keepIn K (.ref f21) = true)
    (a22 : PySem.W.nsIn K mainGlobals "_law_free" = some (some (.ref f22))) (l22 : K.lookup f22 = some ⟨oc22, od22, .func (PySem.W.fnOf "_law_free" "_law_free" (defArgs sFree) (defBody sFree) (defScope sFree) .none kV22 dc22 pm22 an22 cd22 ct22), sl22⟩) (c22 : PySem.W.codeIn K cd22 "_law_free" = true) (k22 : PySem.W.keepIn K (.ref f22) = true)
    (a23 : PySem.W.nsIn K mainGlobals "_law_is_key" = some (some (.ref f23))) (l23 : K.lookup f23 = some ⟨oc23, od23, .func (PySem.W.fnOf "_law_is_key" "_law_is_key" (defArgs sIsKey) (defBody sIsKey) (defScope sIsKey) .none kV23 dc23 pm23 an23 cd23 ct23), sl23⟩) (c23 : PySem.W.codeIn K cd23 "_law_is_key" = true) (k23 : PySem.W.keepIn K (.ref f23) = true)
    (a24 : PySem.W.nsIn K mainGlobals "_law_told" = some (some (.ref f24))) (l24 : K.lookup f24 = some ⟨oc24, od24, .func (PySem.W.fnOf "_law_told" "_law_told" (defArgs sTold) (defBody sTold) (defScope sTold) .none kV24 dc24 pm24 an24 cd24 ct24), sl24⟩) (c24 : PySem.W.codeIn K cd24 "_law_told" = true) (k24 : PySem.W.keepIn K (.ref f24) = true)
    (a25 : PySem.W.nsIn K mainGlobals "_law_one" = some (some (.ref f25))) (l25 : K.lookup f25 = some ⟨oc25, od25, .func (PySem.W.fnOf "_law_one" "_law_one" (defArgs sOne) (defBody sOne) (defScope sOne) .none kV25 dc25 pm25 an25 cd25 ct25), sl25⟩) (c25 : PySem.W.codeIn K cd25 "_law_one" = true) (k25 : PySem.W.keepIn K (.ref f25) = true)
    (a26 : PySem.W.nsIn K mainGlobals "law" = some (some (.ref f26))) (l26 : K.lookup f26 = some ⟨oc26, od26, .func (PySem.W.fnOf "law" "law" (defArgs sLaw) (defBody sLaw) (defScope sLaw) .none kV26 dc26 pm26 an26 cd26 ct26), sl26⟩) (c26 : PySem.W.codeIn K cd26 "law" = true) (k26 : PySem.W.keepIn K (.ref f26) = true)
    (z1 : PySem.W.nsIn K mainGlobals "isinstance" = some none) (z2 : PySem.W.nsIn K mainGlobals "bool" = some none) (z3 : PySem.W.nsIn K mainGlobals "int" = some none) (z4 : PySem.W.nsIn K mainGlobals "str" = some none) (z5 : PySem.W.nsIn K mainGlobals "tuple" = some none) (z6 : PySem.W.nsIn K mainGlobals "list" = some none) (z7 : PySem.W.nsIn K mainGlobals "len" = some none) (z8 : PySem.W.nsIn K mainGlobals "all" = some none) (z9 : PySem.W.nsIn K mainGlobals "abs" = some none) (z10 : PySem.W.nsIn K mainGlobals "max" = some none) (z11 : PySem.W.nsIn K mainGlobals "min" = some none) (z12 : PySem.W.nsIn K mainGlobals "range" = some none) (z13 : PySem.W.nsIn K mainGlobals "ValueError" = some none)
    (m1 : PySem.W.nsIn K mainGlobals "MOST_FIGURES" = some (some (.int 60 t1))) (m2 : PySem.W.nsIn K mainGlobals "MOST_SIGNS" = some (some (.int 40 t2))) (m3 : PySem.W.nsIn K mainGlobals "MOST_THINGS" = some (some (.int 4 t3))) (m4 : PySem.W.nsIn K mainGlobals "MOST_DEEP" = some (some (.int 3 t4)))
    {ocjT kVjT dcjT pmjT cdjT ctjT : Value} {odjT anjT : Option Addr} {sljT : Array (Option Value)} (iljT : K.lookup jT = some ⟨ocjT, odjT, .func (PySem.W.fnOf "__init__" "NoText.__init__" (defArgs iNoText) (defBody iNoText) (defScope iNoText) .none kVjT dcjT pmjT anjT cdjT ctjT), sljT⟩) (icjT : PySem.W.codeIn K cdjT "NoText.__init__" = true) (ikjT : PySem.W.keepIn K (.ref jT) = true)
    (x1 : PySem.W.nsIn K mainGlobals "NoText" = some (some (.ref CT))) (x2 : PySem.W.nsIn K mainGlobals "TwigError" = some (some (.ref CB))) (v1 : PySem.W.findIn K (.ref CT) "__init__" = some (some (.ref jT))) (w1 : xF K CT jT "at" = true) (y1 : PySem.W.typeIn K (.ref CT) = some (.type "type")) (y2 : PySem.W.mroIn K CT (.ref CB) = some true) (y3 : PySem.W.typeIn K (.ref CB) = some (.type "type")) (y4 : PySem.W.mroIn K CB (.type "BaseException") = some true) (y5 : PySem.W.kitOne K (.ref CT) (.ref CT) = some true) :
    ∃ fd : FuncData, (∀ (s : Shared) (v : Value), BindsTo s fd ⟨[v], []⟩ [("_law_script", v)]) ∧ ∀ base : Heap, K.In base → base.Ns mainGlobals mg → FnOk l.prog w K mg base CX0 20 fa fd ["_law_script"] (spLaw K) := by
  have e := hfa.symm.trans (PySem.W.mg_of X G a26)
  cases e
  have T : Txt mg := ⟨PySem.W.mg_none_of X G z1, PySem.W.mg_none_of X G z2, PySem.W.mg_none_of X G z3, PySem.W.mg_none_of X G z4, PySem.W.mg_none_of X G z5, PySem.W.mg_none_of X G z6, PySem.W.mg_none_of X G z7, PySem.W.mg_none_of X G z8, PySem.W.mg_none_of X G z9, PySem.W.mg_none_of X G z10, PySem.W.mg_none_of X G z11, PySem.W.mg_none_of X G z12, PySem.W.mg_none_of X G z13, ⟨_, PySem.W.mg_of X G m1⟩, ⟨_, PySem.W.mg_of X G m2⟩, ⟨_, PySem.W.mg_of X G m3⟩, ⟨_, PySem.W.mg_of X G m4⟩⟩
  have L1 : Laid K mg "is_sign" sSign ["sign"] := laid_mk X G a1 l1 c1 k1 fun _ _ _ _ _ _ us hl => match us, hl with | [_], _ => rfl
  have L2 : Laid K mg "read_many" sReadMany ["text"] := laid_mk X G a2 l2 c2 k2 fun _ _ _ _ _ _ us hl => match us, hl with | [_], _ => rfl
  have L3 : Laid K mg "key_at" sKeyAt ["text", "at", "room"] := laid_mk X G a3 l3 c3 k3 fun _ _ _ _ _ _ us hl => match us, hl with | [_, _, _], _ => rfl
  have L4 : Laid K mg "number_at" sNumberAt ["text", "at"] := laid_mk X G a4 l4 c4 k4 fun _ _ _ _ _ _ us hl => match us, hl with | [_, _], _ => rfl
  have L5 : Laid K mg "text_at" sTextAt ["text", "at"] := laid_mk X G a5 l5 c5 k5 fun _ _ _ _ _ _ us hl => match us, hl with | [_, _], _ => rfl
  have L6 : Laid K mg "meant_at" sMeantAt ["text", "at"] := laid_mk X G a6 l6 c6 k6 fun _ _ _ _ _ _ us hl => match us, hl with | [_, _], _ => rfl
  have L7 : Laid K mg "tuple_at" sTupleAt ["text", "at", "room"] := laid_mk X G a7 l7 c7 k7 fun _ _ _ _ _ _ us hl => match us, hl with | [_, _, _], _ => rfl
  have L8 : Laid K mg "sign_at" sSignAt ["text", "at"] := laid_mk X G a8 l8 c8 k8 fun _ _ _ _ _ _ us hl => match us, hl with | [_, _], _ => rfl
  have L9 : Laid K mg "is_figure" sFigure ["sign"] := laid_mk X G a9 l9 c9 k9 fun _ _ _ _ _ _ us hl => match us, hl with | [_], _ => rfl
  have L10 : Laid K mg "_law_well" sWell ["_law_script", "_law_k"] := laid_mk X G a10 l10 c10 k10 fun _ _ _ _ _ _ us hl => match us, hl with | [_, _], _ => rfl
  have L11 : Laid K mg "_law_pull" sPull ["_law_well_here", "_law_many"] := laid_mk X G a11 l11 c11 k11 fun _ _ _ _ _ _ us hl => match us, hl with | [_, _], _ => rfl
  have L12 : Laid K mg "_law_great" sGreat ["_law_well_here", "_law_bound"] := laid_mk X G a12 l12 c12 k12 fun _ _ _ _ _ _ us hl => match us, hl with | [_, _], _ => rfl
  have L13 : Laid K mg "_law_text" sText ["_law_well_here"] := laid_mk X G a13 l13 c13 k13 fun _ _ _ _ _ _ us hl => match us, hl with | [_], _ => rfl
  have L14 : Laid K mg "_law_key" sKey ["_law_well_here", "_law_room"] := laid_mk X G a14 l14 c14 k14 fun _ _ _ _ _ _ us hl => match us, hl with | [_, _], _ => rfl
  have L15 : Laid K mg "_law_shown" sShown ["_law_key_here"] := laid_mk X G a15 l15 c15 k15 fun _ _ _ _ _ _ us hl => match us, hl with | [_], _ => rfl
  have L16 : Laid K mg "_law_begun" sBegun ["_law_inner", "_law_sign"] := laid_mk X G a16 l16 c16 k16 fun _ _ _ _ _ _ us hl => match us, hl with | [_, _], _ => rfl
  have L17 : Laid K mg "_law_within" sWithin ["_law_word", "_law_count", "_law_inner", "_law_sign"] := laid_mk X G a17 l17 c17 k17 fun _ _ _ _ _ _ us hl => match us, hl with | [_, _, _, _], _ => rfl
  have L18 : Laid K mg "_law_step" sStep ["_law_state", "_law_sign", "_law_many"] := laid_mk X G a18 l18 c18 k18 fun _ _ _ _ _ _ us hl => match us, hl with | [_, _, _], _ => rfl
  have L19 : Laid K mg "_law_fails" sFails ["_law_text_here", "_law_many"] := laid_mk X G a19 l19 c19 k19 fun _ _ _ _ _ _ us hl => match us, hl with | [_, _], _ => rfl
  have L20 : Laid K mg "_law_odd" sOdd ["_law_well_here"] := laid_mk X G a20 l20 c20 k20 fun _ _ _ _ _ _ us hl => match us, hl with | [_], _ => rfl
  have L21 : Laid K mg "_law_spoilt" sSpoilt ["_law_well_here", "_law_text_here"] := laid_mk X G a21 l21 c21 k21 fun _ _ _ _ _ _ us hl => match us, hl with | [_, _], _ => rfl
  have L22 : Laid K mg "_law_free" sFree ["_law_well_here"] := laid_mk X G a22 l22 c22 k22 fun _ _ _ _ _ _ us hl => match us, hl with | [_], _ => rfl
  have L23 : Laid K mg "_law_is_key" sIsKey ["_law_thing", "_law_room"] := laid_mk X G a23 l23 c23 k23 fun _ _ _ _ _ _ us hl => match us, hl with | [_, _], _ => rfl
  have L24 : Laid K mg "_law_told" sTold ["_law_text_here"] := laid_mk X G a24 l24 c24 k24 fun _ _ _ _ _ _ us hl => match us, hl with | [_], _ => rfl
  have L25 : Laid K mg "_law_one" sOne ["_law_well_here"] := laid_mk X G a25 l25 c25 k25 fun _ _ _ _ _ _ us hl => match us, hl with | [_], _ => rfl
  refine ⟨PySem.W.fnOf "law" "law" (defArgs sLaw) (defBody sLaw) (defScope sLaw) .none kV26 dc26 pm26 an26 cd26 ct26, fun s v => .of_eq rfl, fun base kb _ => ?_⟩
  have NTx : NT l.prog w K mg base CT := ⟨⟨⟨jT, _, xF_of w1, ok_iNoText (fun_mk (st := iNoText) iljT icjT ikjT), (fun_mk (st := iNoText) iljT icjT ikjT).binds fun _ _ _ _ _ _ us hl => match us, hl with | [_, _], _ => rfl⟩, PySem.W.mg_of X G x1⟩, y1⟩
  have CLx : Cl K mg CB CT := ⟨PySem.W.mg_of X G x2, y2, y3, y4, y5⟩
  have DP : DefOk l.prog w K mg base 1 "_law_pull" ["_law_well_here", "_law_many"] spPull := L11.of fun _ _ F => ok_pull F
  have DG : DefOk l.prog w K mg base 2 "_law_great" ["_law_well_here", "_law_bound"] spPull := L12.of fun _ _ F => ok_great F T DP
  have DT : DefOk l.prog w K mg base 2 "_law_text" ["_law_well_here"] spText := L13.of fun _ _ F => ok_text F T DP
  have DW : DefOk l.prog w K mg base 1 "_law_well" ["_law_script", "_law_k"] (spWell K) := L10.of fun _ _ F => ok_well F T
  have DA : DefOk l.prog w K mg base 1 "sign_at" ["text", "at"] spSignAt := L8.of fun _ _ F => ok_signat F
  have DFg : DefOk l.prog w K mg base 1 "is_figure" ["sign"] spFig := L9.of fun _ _ F => ok_fig F
  have DSg : DefOk l.prog w K mg base 1 "is_sign" ["sign"] spSgn := L1.of fun _ _ F => ok_sgn F
  have DM : DefD l.prog w K mg base 3 "meant_at" ["text", "at"] (spMeant CT) := L6.ofD fun _ _ F => ok_meant F NTx DA DSg
  have DN : DefD l.prog w K mg base 3 "number_at" ["text", "at"] (spNum CT) := L4.ofD fun _ _ F => ok_num F T NTx DA DFg
  have DX : DefD l.prog w K mg base 4 "text_at" ["text", "at"] (spTextAt CT) := L5.ofD fun _ _ F => ok_textat F T NTx DA DM
  have DR : DefD l.prog w K mg base 13 "read_many" ["text"] (spReadMany CT) := L2.ofD fun _ _ F => ok_many F T NTx (all_keyat T NTx L3 L7 DA DN DX 4)
  have DB : DefOk l.prog w K mg base 1 "_law_begun" ["_law_inner", "_law_sign"] spBegun := L16.of fun _ _ F => ok_begun F T
  have DWi : DefOk l.prog w K mg base 1 "_law_within" ["_law_word", "_law_count", "_law_inner", "_law_sign"] spWithin := L17.of fun _ _ F => ok_within F
  have DSt : DefOk l.prog w K mg base 2 "_law_step" ["_law_state", "_law_sign", "_law_many"] spStep := L18.of fun _ _ F => ok_step F T DB DWi
  have DFa : DefOk l.prog w K mg base 3 "_law_fails" ["_law_text_here", "_law_many"] spFails := L19.of fun _ _ F => ok_fails F T DSt
  have DSh := all_shown (P := l.prog) (w := w) (base := base) T L15 4
  have DI := all_iskey (P := l.prog) (w := w) (base := base) T L23 4
  have DTo : DefOk l.prog w K mg base 14 "_law_told" ["_law_text_here"] spTold := L24.of fun _ _ F => ok_told F T NTx CLx DR DI DSh
  have DFr : DefOk l.prog w K mg base 2 "_law_free" ["_law_well_here"] (spTxt 30) := L22.of fun _ _ F => ok_free F T DP
  have DOd : DefOk l.prog w K mg base 2 "_law_odd" ["_law_well_here"] (spTxt 200) := L20.of fun _ _ F => ok_odd F DP
  have DSp : DefOk l.prog w K mg base 2 "_law_spoilt" ["_law_well_here", "_law_text_here"] spSpoilt := L21.of fun _ _ F => ok_spoilt F T DP
  have DOn : DefOk l.prog w K mg base 7 "_law_one" ["_law_well_here"] (spTxt 600000) := L25.of fun _ _ F => ok_one F T DP DFr DOd DSp (all_key T L14 DP DG DT 4) DSh
  exact ok_law (fun_mk (st := sLaw) l26 c26 k26) T DW DOn DFa DTo
theorem walk {l : PySem.W.OpenLaw} {q : Program} {loose : List Str} {XP : (Str → Option Value) → Heap → Prop} {YP : World → Heap → Prop} {d : DefRec} {K : Params → PySem.W.Frag} (hn : l.most = some 63) (hdf : d.params.defaults = [])
    (hY : ∀ (w : World) (h : Heap), YP w h → (K w.params).In h)
    (F : ∀ (w : World) (mg : Str → Option Value) (fa : Addr) (h : Heap), (K w.params).In h → h.Ns mainGlobals mg → mg d.name = some (.ref fa) →
      ∃ fd : FuncData, (∀ (s : Shared) (u : Value), BindsTo s fd ⟨[u], []⟩ [("_law_script", u)]) ∧ ∀ base : Heap, (K w.params).In base → base.Ns mainGlobals mg → FnOk l.prog w (K w.params) mg base CX0 20 fa fd ["_law_script"] (spLaw (K w.params))) :
    PySem.W.WalkO q loose XP YP l.row.toRowW d [] (fun f vs => PySem.call f vs) :=
  L2.walk_of (n := 63) (k := 20) (x := "_law_script") (CX := fun _ => CX0) (sp := fun w => spLaw (K w.params)) hn (by decide) hdf ⟨rfl, by decide, by decide⟩ hY F (fun _ _ a ns hl _ hS => ⟨a, ns, rfl, hS, hl, fun _ => rfl⟩) fun _ _ _ _ _ z => z
end Tw
open PySem PySem.W PyProof.Rows
set_option maxRecDepth 100000 in
set_option maxHeartbeats 0 in
theorem PySem.Challenge.cw_twigmap_k17_many_read_holds : PySem.Challenge.rw_twigmap_k17_many_read.Holds := by
  w_on; o_law; k_head; (case hw => w_witness2)
  k_fill
  refine Tw.walk (l := PySem.Challenge.rw_twigmap_k17_many_read) rfl rfl (fun w h Y => PySem.W.kIn_of Y) ?F
  case F =>
    intro w mg fa h KX G hmg
    refine' Tw.all_mk KX G hmg ?a1 ?l1 ?c1 ?k1 ?a2 ?l2 ?c2 ?k2 ?a3 ?l3 ?c3 ?k3 ?a4 ?l4 ?c4 ?k4 ?a5 ?l5 ?c5 ?k5 ?a6 ?l6 ?c6 ?k6 ?a7 ?l7 ?c7 ?k7 ?a8 ?l8 ?c8 ?k8 ?a9 ?l9 ?c9 ?k9 ?a10 ?l10 ?c10 ?k10 ?a11 ?l11 ?c11 ?k11 ?a12 ?l12 ?c12 ?k12 ?a13 ?l13 ?c13 ?k13 ?a14 ?l14 ?c14 ?k14 ?a15 ?l15 ?c15 ?k15 ?a16 ?l16 ?c16 ?k16 ?a17 ?l17 ?c17 ?k17 ?a18 ?l18 ?c18 ?k18 ?a19 ?l19 ?c19 ?k19 ?a20 ?l20 ?c20 ?k20 ?a21 ?l21 ?c21 ?k21 ?a22 ?l22 ?c22 ?k22 ?a23 ?l23 ?c23 ?k23 ?a24 ?l24 ?c24 ?k24 ?a25 ?l25 ?c25 ?k25 ?a26 ?l26 ?c26 ?k26 ?z1 ?z2 ?z3 ?z4 ?z5 ?z6 ?z7 ?z8 ?z9 ?z10 ?z11 ?z12 ?z13 ?m1 ?m2 ?m3 ?m4 ?iljT ?icjT ?ikjT ?x1 ?x2 ?v1 ?w1 ?y1 ?y2 ?y3 ?y4 ?y5
    (case x1 => k_is)
    (case x2 => k_is)
    (case v1 => k_is)
    (case a1 => k_is)
    (case l1 => k_is)
    (case c1 => k_is)
    (case k1 => k_is)
    (case a2 => k_is)
    (case l2 => k_is)
    (case c2 => k_is)
    (case k2 => k_is)
    (case a3 => k_is)
    (case l3 => k_is)
    (case c3 => k_is)
    (case k3 => k_is)
    (case a4 => k_is)
    (case l4 => k_is)
    (case c4 => k_is)
    (case k4 => k_is)
    (case a5 => k_is)
    (case l5 => k_is)
    (case c5 => k_is)
    (case k5 => k_is)
    (case a6 => k_is)
    (case l6 => k_is)
    (case c6 => k_is)
    (case k6 => k_is)
    (case a7 => k_is)
    (case l7 => k_is)
    (case c7 => k_is)
    (case k7 => k_is)
    (case a8 => k_is)
    (case l8 => k_is)
    (case c8 => k_is)
    (case k8 => k_is)
    (case a9 => k_is)
    (case l9 => k_is)
    (case c9 => k_is)
    (case k9 => k_is)
    (case a10 => k_is)
    (case l10 => k_is)
    (case c10 => k_is)
    (case k10 => k_is)
    (case a11 => k_is)
    (case l11 => k_is)
    (case c11 => k_is)
    (case k11 => k_is)
    (case a12 => k_is)
    (case l12 => k_is)
    (case c12 => k_is)
    (case k12 => k_is)
    (case a13 => k_is)
    (case l13 => k_is)
    (case c13 => k_is)
    (case k13 => k_is)
    (case a14 => k_is)
    (case l14 => k_is)
    (case c14 => k_is)
    (case k14 => k_is)
    (case a15 => k_is)
    (case l15 => k_is)
    (case c15 => k_is)
    (case k15 => k_is)
    (case a16 => k_is)
    (case l16 => k_is)
    (case c16 => k_is)
    (case k16 => k_is)
    (case a17 => k_is)
    (case l17 => k_is)
    (case c17 => k_is)
    (case k17 => k_is)
    (case a18 => k_is)
    (case l18 => k_is)
    (case c18 => k_is)
    (case k18 => k_is)
    (case a19 => k_is)
    (case l19 => k_is)
    (case c19 => k_is)
    (case k19 => k_is)
    (case a20 => k_is)
    (case l20 => k_is)
    (case c20 => k_is)
    (case k20 => k_is)
    (case a21 => k_is)
    (case l21 => k_is)
    (case c21 => k_is)
    (case k21 => k_is)
    (case a22 => k_is)
    (case l22 => k_is)
    (case c22 => k_is)
    (case k22 => k_is)
    (case a23 => k_is)
    (case l23 => k_is)
    (case c23 => k_is)
    (case k23 => k_is)
    (case a24 => k_is)
    (case l24 => k_is)
    (case c24 => k_is)
    (case k24 => k_is)
    (case a25 => k_is)
    (case l25 => k_is)
    (case c25 => k_is)
    (case k25 => k_is)
    (case a26 => k_is)
    (case l26 => k_is)
    (case c26 => k_is)
    (case k26 => k_is)
    (case z1 => k_is)
    (case z2 => k_is)
    (case z3 => k_is)
    (case z4 => k_is)
    (case z5 => k_is)
    (case z6 => k_is)
    (case z7 => k_is)
    (case z8 => k_is)
    (case z9 => k_is)
    (case z10 => k_is)
    (case z11 => k_is)
    (case z12 => k_is)
    (case z13 => k_is)
    (case m1 => k_is)
    (case m2 => k_is)
    (case m3 => k_is)
    (case m4 => k_is)
    (case iljT => k_is)
    (case icjT => k_is)
    (case ikjT => k_is)
    (case w1 => kernel_rfl)
    (case y1 => k_is)
    (case y2 => k_is)
    (case y3 => k_is)
    (case y4 => k_is)
    (case y5 => kit_is)
