import PyProof.Rows.All
import Wide.All
import OpenK.AllK
import Wide.FinOn
import Lean
import PyProof.EqAt
import PyProof.EqKinds
import PyProof.TupleCall
import PyProof.DictIter
import PyProof.DictWalks
import PyProof.EnumMake
import PyProof.EnumIter
import PyProof.EnumFor
import PyProof.EnumStmt
import PyProof.Rows.CallKwBuiltin
import PyProof.DefCall
import PyProof.NeKinds
import PyProof.Rows.SetFrom
import PyProof.SetRoads
import PyProof.SumAnyB
import PyProof.Conv_int
import PyProof.Conv_int_bool
import PyProof.ListRange
import KE.BitLaws
import PySem.Challenge.RW_notring_k11_conds_by_two_sets
-- CHANGE: your row's module here, as the last of these rows
set_option Elab.async false
set_option linter.all false
set_option maxRecDepth 100000
/-! THE HAND LAYER, for ints, bools, texts, own classes, LISTS and tuples (index, slices, in, append, pop ..), calls, loops. Paste it whole ahead of your own text; what your proof does not reach may be deleted. -/
namespace L2
open PySem PySem.Spec PyProof.Rows

/-- a key: an int or a str -/
abbrev Key := Sum Int Str
def keyIs : Key → Value → Bool
  | .inl k, v => Value.isInt k v
  | .inr x, v => Value.isStrOf x v
def keyH (w : World) : Key → Int
  | .inl k => hashInt k
  | .inr x => hashStr w x
theorem keyIs_shape : ∀ {k : Key} {v : Value}, keyIs k v = true → (∃ i t, k = Sum.inl i ∧ v = Value.int i t) ∨ (∃ x t, k = Sum.inr x ∧ v = Value.str x t)
  | .inl i, v, h => by
    obtain ⟨t, e⟩ := Value.isInt_shape (k := i) (v := v) h
    exact .inl ⟨i, t, rfl, e⟩
  | .inr x, v, h => by
    obtain ⟨t, e⟩ := Value.isStrOf_shape (x := x) (v := v) h
    exact .inr ⟨x, t, rfl, e⟩
theorem keyIs_int (i : Int) (t : Tok) : keyIs (.inl i) (.int i t) = true := by simp [keyIs, Value.isInt]
theorem keyIs_str (x : Str) (t : Tok) : keyIs (.inr x) (.str x t) = true := by simp [keyIs, Value.isStrOf]
theorem key_ll (a b : Int) : decide ((Sum.inl a : Key) = Sum.inl b) = (a == b) := by
  by_cases e : a = b
  · subst e; simp
  · have h : ¬ (Sum.inl a : Key) = Sum.inl b := fun q => e (Sum.inl.inj q)
    rw [decide_eq_false h]
    exact (beq_eq_false_iff_ne.mpr e).symm
theorem key_rr (a b : Str) : decide ((Sum.inr a : Key) = Sum.inr b) = decide (a = b) := by
  by_cases e : a = b
  · subst e; simp
  · have h : ¬ (Sum.inr a : Key) = Sum.inr b := fun q => e (Sum.inr.inj q)
    rw [decide_eq_false h, decide_eq_false e]
theorem key_lr (a : Int) (b : Str) : decide ((Sum.inl a : Key) = Sum.inr b) = false := decide_eq_false (fun q => nomatch q)
theorem key_rl (a : Str) (b : Int) : decide ((Sum.inr a : Key) = Sum.inl b) = false := decide_eq_false (fun q => nomatch q)

def mixKind (prog : Program) (w : World) : PySem.KeyKind prog w Key where
  is := keyIs
  hash := keyH w
  inj := fun v a b ha hb => by
    rcases keyIs_shape ha with ⟨i, t, rfl, rfl⟩ | ⟨x, t, rfl, rfl⟩
    · rcases keyIs_shape hb with ⟨j, u, rfl, e⟩ | ⟨y, u, rfl, e⟩
      · injection e with e1 _; rw [e1]
      · exact nomatch e
    · rcases keyIs_shape hb with ⟨j, u, rfl, e⟩ | ⟨y, u, rfl, e⟩
      · exact nomatch e
      · injection e with e1 _; rw [e1]
  byValue := fun k v h => by
    rcases keyIs_shape h with ⟨i, t, rfl, rfl⟩ | ⟨x, t, rfl, rfl⟩ <;> rfl
  pyHash := fun hv h => by
    rcases keyIs_shape hv with ⟨i, t, rfl, rfl⟩ | ⟨x, t, rfl, rfl⟩
    · exact wpAny_pyHash_int h
    · exact wpAny_pyHash_str h
  eqBool := fun hu hv h => by
    rcases keyIs_shape hu with ⟨i, t, rfl, rfl⟩ | ⟨x, t, rfl, rfl⟩
    · rcases keyIs_shape hv with ⟨j, u, rfl, rfl⟩ | ⟨y, u, rfl, rfl⟩
      · rw [key_ll] at h; exact wpAny_eqBool_int h
      · rw [key_lr] at h; exact SeqAt.EqAt.int_str i t y u _ _ _ _ h
    · rcases keyIs_shape hv with ⟨j, u, rfl, rfl⟩ | ⟨y, u, rfl, rfl⟩
      · rw [key_rl] at h; exact SeqAt.EqAt.str_int x t j u _ _ _ _ h
      · rw [key_rr] at h; exact wpAny_eqBool_str h
  «strs» := fun k x t v h => by
    rcases keyIs_shape h with ⟨i, u, rfl, e⟩ | ⟨y, u, rfl, e⟩
    · exact nomatch e
    · injection e with e1 _
      subst e1
      cases v <;> rfl

theorem mixKind_is (prog : Program) (w : World) (k : Key) (v : Value) : (mixKind prog w).is k v = keyIs k v := rfl
theorem mixKind_int (prog : Program) (w : World) (i : Int) (t : Tok) : (mixKind prog w).is (.inl i) (.int i t) = true := keyIs_int i t
theorem mixKind_str (prog : Program) (w : World) (x : Str) (t : Tok) : (mixKind prog w).is (.inr x) (.str x t) = true := keyIs_str x t
end L2

namespace L2
open PySem PySem.Spec PyProof.Rows

/-- a value, without the heap -/
inductive V where
  | non | bl (b : Bool) | int (i : Int) | str (x : Str) | byt (b : Array UInt8) | flt (b : UInt64) | ref (a : Addr) | ty (n : String)
  deriving DecidableEq

def RelV : V → Value → Prop
  | .non, u => u = Value.none
  | .bl b, u => u = Value.bool b
  | .int i, u => ∃ t, u = Value.int i t
  | .str x, u => ∃ t, u = Value.str x t
  | .byt b, u => ∃ t, u = Value.bytes b t
  | .flt b, u => ∃ t, u = Value.float b t
  | .ref a, u => u = Value.ref a
  | .ty n, u => u = Value.type n

abbrev Vals : List V → List Value → Prop := Paired RelV
theorem Vals.length {xs : List V} {us : List Value} (r : Vals xs us) : xs.length = us.length := Paired.length r
theorem Vals.get : ∀ {xs : List V} {us : List Value} {i : Nat} {x : V}, Vals xs us → xs[i]? = some x → ∃ u, us[i]? = some u ∧ RelV x u
  | _, _, _, _, .nil, e => by simp at e
  | _, _, 0, _, .cons r _, e => by simp at e; subst e; exact ⟨_, rfl, r⟩
  | _, _, i + 1, x, .cons _ t, e => by
    obtain ⟨u, h1, h2⟩ := Vals.get (i := i) (x := x) t (by simpa using e)
    exact ⟨u, by simpa using h1, h2⟩
theorem Vals.set {x : V} {u : Value} (r : RelV x u) : ∀ {xs : List V} {us : List Value} (i : Nat), Vals xs us → Vals (xs.set i x) (us.set i u)
  | _, _, _, .nil => .nil
  | _, _, 0, .cons _ t => .cons r t
  | _, _, i + 1, .cons q t => .cons q (Vals.set r i t)
theorem Vals.append : ∀ {xs ys : List V} {us ws : List Value}, Vals xs us → Vals ys ws → Vals (xs ++ ys) (us ++ ws)
  | _, _, _, _, .nil, s => s
  | _, _, _, _, .cons r t, s => .cons r (Vals.append t s)
theorem Vals.take : ∀ {xs : List V} {us : List Value} (n : Nat), Vals xs us → Vals (xs.take n) (us.take n)
  | _, _, 0, _ => .nil
  | _, _, _ + 1, .nil => .nil
  | _, _, n + 1, .cons r t => .cons r (Vals.take n t)
theorem Vals.drop : ∀ {xs : List V} {us : List Value} (n : Nat), Vals xs us → Vals (xs.drop n) (us.drop n)
  | _, _, 0, r => r
  | _, _, _ + 1, .nil => .nil
  | _, _, n + 1, .cons _ t => Vals.drop n t
theorem Vals.none_of : ∀ {xs : List V} {us : List Value} {i : Nat}, Vals xs us → xs[i]? = none → us[i]? = none := fun {xs us i} r e => by
  have h1 := r.length
  have h2 : xs.length ≤ i := List.getElem?_eq_none_iff.mp e
  exact List.getElem?_eq_none_iff.mpr (by omega)

def RelO : Option V → Option Value → Prop
  | some v, some u => RelV v u
  | none, none => True
  | _, _ => False
def KV {κ : Type} : List (κ × V) → List (κ × Value) → Prop := Paired fun (p : κ × V) (q : κ × Value) => p.1 = q.1 ∧ RelV p.2 q.2

/-- a key of a dict (00_mix): an int or a text -/
def kV : Key → V
  | .inl i => .int i
  | .inr x => .str x

/-- what stands at a tracked address -/
inductive HO where
  /-- a list -/
  | lst (xs : List V)
  /-- a tuple (never changes) -/
  | tup (xs : List V)
  /-- a dict whose keys are ints and texts; one whose keys are tuples of ints and texts (the empty one is both) -/
  | dK (kvs : List (Key × V)) | dT (kvs : List (List Key × V))
  /-- a set of ints: its members, its size -/
  | set (S : Int → Bool) (n : Nat)
  /-- an instance of the class at C, its dict at dx, its attributes -/
  | ins (C dx : Addr) (fs : List (Str × V))
  /-- the dict of the instance at x -/
  | own (x : Addr)
  /-- the dict of an exception -/
  | xd (fs : List (Str × V))
  /-- a bound method, f of x -/
  | met (f x : Addr)
  /-- a range object lo, lo + 1, .. below hi -/
  | rng (lo hi : Int)
  /-- a thing that is known to the object (the script; a dict while a loop walks it): read, never written while it is so -/
  | frz (o : Obj) (u : HO)
  /-- a code object's table -/
  | tbl (ps : Array Value)
  /-- any other thing, by what is true of its one object (a def of one's own: SetO a S n := HO.ext fun h => ..) -/
  | ext (φ : Heap → Prop)

abbrev Hp := Addr → Option HO
def upd (H : Hp) (a : Addr) (o : HO) : Hp := fun b => if b = a then some o else H b
theorem upd_same {H : Hp} {a : Addr} {o : HO} : upd H a o a = some o := by unfold upd; rw [if_pos rfl]
theorem upd_ne {H : Hp} {a b : Addr} {o : HO} (h : b ≠ a) : upd H a o b = H b := by unfold upd; rw [if_neg h]
/-- two objects of different content stand apart -/
theorem ne_of {H : Hp} {a b : Addr} {o u : HO} (h : H a = some o) (h' : H b = some u) (d : o ≠ u) : a ≠ b := by
  intro e; subst e; rw [h] at h'; exact d (Option.some.inj h')
theorem ne_of_none {H : Hp} {a b : Addr} {o : HO} (h : H a = some o) (h' : H b = none) : a ≠ b := by
  intro e; subst e; rw [h] at h'; cases h'

section
variable (P : Program) (w : World)
def ObjOk (H : Hp) (h : Heap) (a : Addr) : HO → Prop
  | .lst xs => xs.length ≤ sizeLine ∧ ∃ (its : List Value) (n : Nat), Vals xs its ∧ h.get? a = some { cls := .type "list", data := .seq its.toArray n }
  | .tup xs => xs.length ≤ sizeLine ∧ ∃ its : List Value, Vals xs its ∧ IsTup h a its.toArray
  | .dK kvs => kvs.length ≤ sizeLine ∧ (a == sysModules) = false ∧ ∃ vs, KV kvs vs ∧ h.DictOf (mixKind P w) a vs
  | .dT kvs => kvs.length ≤ sizeLine ∧ (a == sysModules) = false ∧ ∃ xs : List (List Key × Addr × Value),
      Paired (fun (p : List Key × V) (q : List Key × Addr × Value) => p.1 = q.1 ∧ H q.2.1 = some (.tup (p.1.map kV)) ∧ RelV p.2 q.2.2) kvs xs ∧
      ∃ o es ep, h.get? a = some o ∧ o.ExactDict ∧ o.data = .dict es ep ∧ es.toList = xs.map (entryOfKey (tupleKind (mixKind P w))) ∧ (xs.map (·.1)).Nodup
  | .set S n => h.SetOf (intKind P w) a S n
  | .ins C dx fs => H dx = some (.own a) ∧ fs.length ≤ 1000 ∧ dx ≠ a ∧ h.get? a = some (PySem.W.instObj C dx) ∧
      ∃ mA, h.Ns1 dx mA ∧ (∀ f, RelO (fs.lookup f) (mA f)) ∧ PySem.Within mA (fs.map (·.1))
  | .own _ => ∃ o, h.get? a = some o
  | .xd fs => ∃ mA, h.Ns1 a mA ∧ ∀ f, RelO (fs.lookup f) (mA f)
  | .rng lo hi => ∃ t u v, h.get? a = some { cls := .type "range", data := .fields #[.int lo t, .int hi u, .int 1 v] }
  | .frz o u => h.get? a = some o ∧ ObjOk H h a u
  | .tbl ps => h.get? a = some { cls := .none, data := .fields ps }
  | .met f x => h.get? a = some (PySem.W.methodObj (.ref f) (.ref x))
  | .ext φ => φ h ∧ (∃ o, h.get? a = some o) ∧ ∀ h1 h2 : Heap, φ h1 → (∀ o, h1.get? a = some o → h2.get? a = some o) → φ h2
/-- the abstract heap is held -/
def HOk (H : Hp) (h : Heap) : Prop := ∀ a o, H a = some o → ObjOk P w H h a o
end

section
variable {P : Program} {w : World} {H H' : Hp} {h h' : Heap} {a : Addr} {o : HO}
theorem ObjOk.lt (x : ObjOk P w H h a o) : a < h.objs.size := by
  cases o with
  | lst xs => obtain ⟨_, _, _, _, e⟩ := x; exact Heap.lt_size e
  | tup xs => obtain ⟨_, _, _, p⟩ := x; exact p.lt
  | dK kvs => obtain ⟨_, _, _, _, o, _, _, e, _⟩ := x; exact Heap.lt_size e
  | dT kvs => obtain ⟨_, _, _, _, o, _, _, e, _⟩ := x; exact Heap.lt_size e
  | set S n => obtain ⟨o, _, _, _, e, _⟩ := x; exact Heap.lt_size e
  | ins C dx fs => obtain ⟨_, _, _, e, _⟩ := x; exact Heap.lt_size e
  | own y => obtain ⟨_, e⟩ := x; exact Heap.lt_size e
  | xd fs => obtain ⟨_, ⟨_, _, _, e, _⟩, _⟩ := x; exact Heap.lt_size e
  | rng lo hi => obtain ⟨_, _, _, e⟩ := x; exact Heap.lt_size e
  | frz ob u => obtain ⟨e, _⟩ := x; exact Heap.lt_size e
  | tbl ps => exact Heap.lt_size (show h.get? a = some _ from x)
  | met f y => exact Heap.lt_size (show h.get? a = some _ from x)
  | ext φ => obtain ⟨_, ⟨_, e⟩, _⟩ := x; exact Heap.lt_size e
theorem Paired.mapP {α β : Type} {F G : α → β → Prop} : ∀ {l₁ : List α} {l₂ : List β}, Paired F l₁ l₂ → (∀ a b, F a b → G a b) → Paired G l₁ l₂
  | _, _, .nil, _ => .nil
  | _, _, .cons r t, f => .cons (f _ _ r) (Paired.mapP t f)
/-- what an object's description leans on: its own object, its own dict, the tuples -/
theorem ObjOk.stay (x : ObjOk P w H h a o) (k : ∀ b u, (b = a ∨ H b = some (.own a)) → h.get? b = some u → h'.get? b = some u)
    (ho : ∀ b, H b = some (.own a) → H' b = some (.own a)) (ht : ∀ b xs, H b = some (.tup xs) → H' b = some (.tup xs)) : ObjOk P w H' h' a o := by
  induction o with
  | lst xs => obtain ⟨z, its, n, r, e⟩ := x; exact ⟨z, its, n, r, k _ _ (.inl rfl) e⟩
  | tup xs => obtain ⟨z, its, r, ob, e, c⟩ := x; exact ⟨z, its, r, ob, k _ _ (.inl rfl) e, c⟩
  | dK kvs => obtain ⟨z, y, vs, r, ob, es, ep, e, c⟩ := x; exact ⟨z, y, vs, r, ob, es, ep, k _ _ (.inl rfl) e, c⟩
  | dT kvs =>
    obtain ⟨z, y, xs, r, ob, es, ep, e, c⟩ := x
    exact ⟨z, y, xs, Paired.mapP r fun p q z => ⟨z.1, ht _ _ z.2.1, z.2.2⟩, ob, es, ep, k _ _ (.inl rfl) e, c⟩
  | set S n => obtain ⟨ob, es, ep, t, e, c⟩ := x; exact ⟨ob, es, ep, t, k _ _ (.inl rfl) e, c⟩
  | ins C dx fs =>
    obtain ⟨d, z, ne, e, mA, ⟨od, es, ep, e2, c⟩, r⟩ := x
    exact ⟨ho _ d, z, ne, k _ _ (.inl rfl) e, mA, ⟨od, es, ep, k _ _ (.inr d) e2, c⟩, r⟩
  | own y => obtain ⟨ob, e⟩ := x; exact ⟨ob, k _ _ (.inl rfl) e⟩
  | xd fs => obtain ⟨mA, ⟨od, es, ep, e, c⟩, r⟩ := x; exact ⟨mA, ⟨od, es, ep, k _ _ (.inl rfl) e, c⟩, r⟩
  | rng lo hi => obtain ⟨t, u, v, e⟩ := x; exact ⟨t, u, v, k _ _ (.inl rfl) e⟩
  | frz ob u ih => obtain ⟨e, q⟩ := x; exact ⟨k _ _ (.inl rfl) e, ih q⟩
  | tbl ps =>
    have e : h.get? a = some { cls := .none, data := .fields ps } := x
    show h'.get? a = some { cls := .none, data := .fields ps }
    exact k a _ (.inl rfl) e
  | met f y =>
    have e : h.get? a = some (PySem.W.methodObj (.ref f) (.ref y)) := x
    show h'.get? a = some (PySem.W.methodObj (.ref f) (.ref y))
    exact k a _ (.inl rfl) e
  | ext φ => obtain ⟨p, ⟨o, e⟩, st⟩ := x; exact ⟨st _ _ p fun o q => k _ _ (.inl rfl) q, ⟨o, k _ _ (.inl rfl) e⟩, st⟩
theorem HOk.lt (x : HOk P w H h) (e : H a = some o) : a < h.objs.size := (x a o e).lt
theorem HOk.fresh (x : HOk P w H h) (e : h.objs.size ≤ a) : H a = none := by
  cases q : H a with
  | none => rfl
  | some u => exact absurd (Nat.lt_of_lt_of_le (x.lt q) e) (Nat.lt_irrefl _)
/-- every object of the heap is kept -/
theorem HOk.kept (x : HOk P w H h) (k : ∀ b u, h.get? b = some u → h'.get? b = some u) : HOk P w H h' := fun a o e =>
  (x a o e).stay (fun b u _ q => k b u q) (fun _ q => q) fun _ _ q => q
/-- a new object is laid and tracked -/
theorem HOk.laid (x : HOk P w H h) (k : ∀ b u, h.get? b = some u → h'.get? b = some u) (hp : h.objs.size ≤ a) (new : ObjOk P w (upd H a o) h' a o) : HOk P w (upd H a o) h' := fun b u e => by
  have hn := x.fresh hp
  by_cases hb : b = a
  · subst hb; rw [upd_same] at e; cases e; exact new
  · rw [upd_ne hb] at e
    exact (x b u e).stay (fun c v _ q => k c v q) (fun c q => by rw [upd_ne (ne_of_none q hn)]; exact q) fun c xs q => by rw [upd_ne (ne_of_none q hn)]; exact q
end

/-- what may be read as u: it is u, or a known u -/
def Rd (H : Hp) (a : Addr) (u : HO) : Prop := H a = some u ∨ ∃ o, H a = some (.frz o u)
theorem Rd.of {H : Hp} {a : Addr} {u : HO} (h : H a = some u) : Rd H a u := .inl h
theorem Rd.ok {P : Program} {w : World} {H : Hp} {h : Heap} {a : Addr} {u : HO} (r : Rd H a u) (x : HOk P w H h) : ObjOk P w H h a u := by
  rcases r with r | ⟨o, r⟩
  · exact x a u r
  · obtain ⟨_, q⟩ := x a _ r
    exact q
/-- what may be written -/
def Mut : Option HO → Prop
  | some (.lst _) => True
  | some (.dK _) => True
  | some (.dT _) => True
  | some (.set _ _) => True
  | some (.ins _ _ _) => True
  | some (.ext _) => True
  | _ => False
section
variable {P : Program} {w : World} {H : Hp} {h h' : Heap} {x e : Addr} {o' : HO}
/-- the object at e is changed: x itself, or the dict of the instance x -/
theorem HOk.write (ok : HOk P w H h) (mu : Mut (H x)) (he : e = x ∨ H e = some (.own x)) (k : ∀ b u, b ≠ e → h.get? b = some u → h'.get? b = some u) (heo : ∃ u, h'.get? e = some u)
    (new : ObjOk P w (upd H x o') h' x o') : HOk P w (upd H x o') h' := fun b u q => by
  have nown : ∀ c y, H c = some (.own y) → c ≠ x := fun c y r z => by subst z; rw [r] at mu; exact mu
  have ntup : ∀ c xs, H c = some (.tup xs) → c ≠ x := fun c xs r z => by subst z; rw [r] at mu; exact mu
  by_cases hb : b = x
  · subst hb; rw [upd_same] at q; cases q; exact new
  · rw [upd_ne hb] at q
    by_cases hbe : b = e
    · have q' : H b = some (.own x) := by
        rcases he with z | z
        · exact absurd (hbe.trans z) hb
        · rw [hbe]; exact z
      rw [q] at q'; cases q'
      obtain ⟨v, hv⟩ := heo
      exact ⟨v, by rw [hbe]; exact hv⟩
    · refine (ok b u q).stay (fun c v hc r => k c v ?_ r) (fun c r => by rw [upd_ne (nown c b r)]; exact r) fun c xs r => by rw [upd_ne (ntup c xs r)]; exact r
      rcases hc with rfl | hc
      · exact hbe
      · rintro rfl
        rcases he with z | z
        · exact nown c b hc z
        · rw [hc] at z; cases z; exact hb rfl
end

/-! ### kept unless tracked; of the frames at fs (the callers') the slots may change (an exception that passes writes there); of the records at ex (iterators) nothing is said -/
structure Un (fs ex : List Addr) (H H' : Hp) (h h' : Heap) : Prop where
  keep : ∀ b o, h.get? b = some o → H b = none → b ∉ fs → b ∉ ex → h'.get? b = some o
  slot : ∀ b o, h.get? b = some o → H b = none → b ∈ fs → b ∉ ex → ∃ sl, h'.get? b = some { o with slots := sl }
  free : ∀ b o, h.get? b = some o → H b = none → b ∉ ex → H' b = none
  there : ∀ b o, h.get? b = some o → b ∉ ex → ∃ o', h'.get? b = some o'
  tups : ∀ b xs, H b = some (.tup xs) → H' b = some (.tup xs)
  frzs : ∀ b o u, H b = some (.frz o u) → H' b = some (.frz o u)
  tbls : ∀ b ps, H b = some (.tbl ps) → ∃ more, H' b = some (.tbl (ps ++ more))
section
variable {fs fs' ex ex' : List Addr} {H H1 H2 : Hp} {h h1 h2 h' : Heap} {a x e : Addr} {o : HO}
theorem Un.any (u : Un fs ex H H1 h h1) {b : Addr} {ob : Obj} (q : h.get? b = some ob) (n : H b = none) (hx : b ∉ ex) : ∃ sl, h1.get? b = some { ob with slots := sl } := by
  by_cases hb : b ∈ fs
  · exact u.slot b ob q n hb hx
  · exact ⟨ob.slots, u.keep b ob q n hb hx⟩
theorem Un.trans (a : Un fs ex H H1 h h1) (b : Un fs ex H1 H2 h1 h2) : Un fs ex H H2 h h2 where
  keep := fun c ob q n hc hx => b.keep c ob (a.keep c ob q n hc hx) (a.free c ob q n hx) hc hx
  slot := fun c ob q n hc hx => by
    obtain ⟨sl, e1⟩ := a.slot c ob q n hc hx
    obtain ⟨sl', e2⟩ := b.slot c _ e1 (a.free c ob q n hx) hc hx
    exact ⟨sl', e2⟩
  free := fun c ob q n hx => by
    obtain ⟨o', e1⟩ := a.there c ob q hx
    exact b.free c o' e1 (a.free c ob q n hx) hx
  there := fun c ob q hx => by
    obtain ⟨o', e1⟩ := a.there c ob q hx
    exact b.there c o' e1 hx
  tups := fun c xs q => b.tups c xs (a.tups c xs q)
  frzs := fun c ob xs q => b.frzs c ob xs (a.frzs c ob xs q)
  tbls := fun c ps q => by
    obtain ⟨m1, e1⟩ := a.tbls c ps q
    obtain ⟨m2, e2⟩ := b.tbls c _ e1
    exact ⟨m1 ++ m2, by rw [e2, Array.append_assoc]⟩
theorem Un.kept (k : ∀ b u, h.get? b = some u → h'.get? b = some u) : Un fs ex H H h h' :=
  ⟨fun b ob q _ _ _ => k b ob q, fun b ob q _ _ _ => ⟨ob.slots, k b ob q⟩, fun _ _ _ n _ => n, fun b ob q _ => ⟨ob, k b ob q⟩, fun _ _ q => q, fun _ _ _ q => q, fun _ ps q => ⟨#[], by rw [q]; simp⟩⟩
theorem Un.refl : Un fs ex H H h h := Un.kept fun _ _ q => q
theorem Un.laid (k : ∀ b u, h.get? b = some u → h'.get? b = some u) (hp : h.objs.size ≤ a) (hn : H a = none) : Un fs ex H (upd H a o) h h' where
  keep := fun b u q _ _ _ => k b u q
  slot := fun b u q _ _ _ => ⟨u.slots, k b u q⟩
  free := fun b u q n _ => by rw [upd_ne (Nat.ne_of_lt (Nat.lt_of_lt_of_le (Heap.lt_size q) hp))]; exact n
  there := fun b u q _ => ⟨u, k b u q⟩
  tups := fun b xs q => by rw [upd_ne (ne_of_none q hn)]; exact q
  frzs := fun b u xs q => by rw [upd_ne (ne_of_none q hn)]; exact q
  tbls := fun b ps q => ⟨#[], by rw [upd_ne (ne_of_none q hn), q]; simp⟩
theorem Un.write (mu : Mut (H x)) (he : e = x ∨ H e = some (.own x)) (k : ∀ b u, b ≠ e → h.get? b = some u → h'.get? b = some u) (heo : ∃ u, h'.get? e = some u) : Un fs ex H (upd H x o) h h' := by
  have hx : ∀ b, H b = none → b ≠ x := fun b n z => by subst z; rw [n] at mu; exact mu
  have hb : ∀ b, H b = none → b ≠ e := fun b n z => by
    subst z
    rcases he with r | r
    · exact hx b n r
    · rw [n] at r; cases r
  have hm : ∀ b u, H b = some u → ¬ Mut (some u) → b ≠ x := fun b u q nm z => by subst z; rw [q] at mu; exact nm mu
  refine ⟨fun b u q n _ _ => k b u (hb b n) q, fun b u q n _ _ => ⟨u.slots, k b u (hb b n) q⟩, fun b u q n _ => by rw [upd_ne (hx b n)]; exact n, fun b u q _ => ?_,
    fun b xs q => by rw [upd_ne (hm b _ q fun z => z)]; exact q, fun b u xs q => by rw [upd_ne (hm b _ q fun z => z)]; exact q, fun b ps q => ⟨#[], by rw [upd_ne (hm b _ q fun z => z), q]; simp⟩⟩
  by_cases hbe : b = e
  · subst hbe; exact heo
  · exact ⟨u, k b u hbe q⟩
theorem Un.mono (u : Un fs ex H H1 h h1) (hs : ∀ b ∈ fs, b ∈ fs') (hx : ∀ b ∈ ex, b ∈ ex') : Un fs' ex' H H1 h h1 :=
  ⟨fun b ob q n hb he => u.keep b ob q n (fun z => hb (hs b z)) fun z => he (hx b z), fun _ _ q n _ he => u.any q n fun z => he (hx _ z), fun b ob q n he => u.free b ob q n fun z => he (hx b z), fun b ob q he => u.there b ob q fun z => he (hx b z), u.tups, u.frzs, u.tbls⟩
end

/-! ### the heap without what is tracked -/
def trk (h : Heap) (H : Hp) : List Addr := (List.range h.objs.size).filter fun a => (H a).isSome
def hidT (h : Heap) (H : Hp) : Heap := PySem.W.hideAll h (trk h H)
theorem hidT_size (h : Heap) (H : Hp) : (hidT h H).objs.size = h.objs.size := PySem.W.hideAll_size _ _
theorem hidT_get {h : Heap} {H : Hp} {b : Addr} {o : Obj} (e : h.get? b = some o) (n : H b = none) : (hidT h H).get? b = some o :=
  PySem.W.hideAll_get _ e fun hm => by
    have q : (H b).isSome = true := (List.mem_filter.mp hm).2
    rw [n] at q; simp at q
theorem of_hidT {h : Heap} {H : Hp} {b : Addr} {o : Obj} (e : (hidT h H).get? b = some o) : h.get? b = some o ∧ H b = none := by
  have e' : h.get? b = some o := PySem.W.of_hideAll (trk h H) e
  refine ⟨e', ?_⟩
  cases q : H b with
  | none => rfl
  | some x =>
    have hm : b ∈ trk h H := List.mem_filter.mpr ⟨List.mem_range.mpr (Heap.lt_size e'), by simp [q]⟩
    have z : (hidT h H).get? b = none := PySem.W.hideAll_none (trk h H) hm
    rw [z] at e; cases e

/-! ### OpenK's ledger, filled with every new object but one -/
def allNews (g h : Heap) (L : Addr) : List (Addr × Obj) := (List.range h.objs.size).filterMap fun a => if a = L ∨ (g.get? a).isSome = true then none else (h.get? a).map fun o => (a, o)
def rest (g h : Heap) (L d : Addr) : List (Addr × Obj) := (allNews g h L).filter fun p => decide (p.1 ≠ d)
end L2

namespace L2
open PySem PySem.Spec PyProof.Rows

/-- the module's facts, over the base: the heap at the law's entry without what is tracked there -/
structure Mod (K : PySem.W.Frag) (mg : Str → Option Value) (base : Heap) : Prop where
  kin : K.In base
  glob : base.Ns mainGlobals mg
  blt : ∃ mb, base.Ns builtinsNs mb ∧ ∀ x : Str, x ≠ "__name__" → mb x = bootBuiltins x
  nolimit : base.NoLimit

/-- the context: a def's body (or a comprehension's block) running. base: fixed through the whole law; s₀, H₀: the entry; outer: the frames whose slots others may change (a def's callers); stack: all frames that run;
   ex: iterators that were made ahead of the entry and are walked here (a comprehension's); fn: the names whose cells were made at the entry (a def: all; a comprehension's block: its own); calm: not within an except suite; pn: pins that every state bears; xe: what is wanted of an exception that leaves the code -/
structure Cx where
  prog : Program
  w : World
  K : PySem.W.Frag
  mg : Str → Option Value
  base : Heap
  A : Around
  N : List Str
  s₀ : Shared
  H₀ : Hp
  env : Env
  outer : List Env
  stack : List Env
  ex : List Addr
  fn : Str → Bool
  calm : Bool
  pn : List (Addr × Obj)
  xe : Value → Shared → Prop
/-- the callers' frames -/
def frs (l : List Env) : List Addr := l.filterMap (·.frame)
abbrev Cx.fs (X : Cx) : List Addr := frs X.outer

def Vis (sc : Scope) (x : Str) : Prop := sc.names.lookup x = some .local ∨ sc.names.lookup x = some .cell ∨ sc.names.lookup x = some .free
def Loc (sc : Scope) (x : Str) : Prop := sc.names.lookup x = some .local ∨ sc.names.lookup x = some .cell
def Look (env : Env) (h : Heap) (m : Str → Option Value) (x : Str) (u : Value) : Prop :=
  (env.kindOf x = some .local ∧ m x = some u) ∨ ((env.kindOf x = some .cell ∨ env.kindOf x = some .free) ∧ ∃ c, env.cells.lookup x = some c ∧ h.IsCell c (some u))

structure Cx.Ok (X : Cx) : Prop where
  mod : Mod X.K X.mg X.base
  kind : X.env.scope.kind = .function
  glob : X.env.globals = mainGlobals
  blt : X.env.builtins = builtinsNs
  above : X.s₀.heap.objs.size ≤ X.env.locals
  inj : ∀ x y c, X.env.cells.lookup x = some c → X.env.cells.lookup y = some c → x = y
  has : ∀ x, (X.env.kindOf x = some .cell ∨ X.env.kindOf x = some .free) → ∃ c, X.env.cells.lookup x = some c
  cab : ∀ x c, X.fn x = true → X.env.cells.lookup x = some c → X.s₀.heap.objs.size ≤ c
  hd : X.calm = true → X.A.handled = none
  frames : X.A.frames = some X.stack
  stk : X.stack = X.outer ∨ (X.stack = X.env :: X.outer ∧ X.env.frame = some X.env.locals)
  exf : ∀ b ∈ X.ex, b ≠ X.env.locals ∧ ∀ x c, X.env.cells.lookup x = some c → c ≠ b
  bs : ∀ b o, X.base.get? b = some o → X.s₀.heap.get? b = some o ∧ X.H₀ b = none
  bsz : X.base.objs.size ≤ X.s₀.heap.objs.size
  noex : ∀ b o, X.base.get? b = some o → b ∉ X.ex
  exfs : ∀ b ∈ X.ex, b ∉ X.fs
  funs : X.s₀.heap.FunFrames X.base X.outer
  frf : ∀ b ∈ X.fs, X.H₀ b = none

structure Inv (X : Cx) (pins : List (Addr × Obj)) (σ : List (Option V)) (H : Hp) (s : Shared) : Prop where
  ok : X.Ok
  os : s.os = X.s₀.os
  bare : AllBare s.gens
  base : Un X.fs X.ex X.H₀ H X.s₀.heap s.heap
  loc : ∃ m, s.heap.Ns X.env.locals m ∧ ∀ (i : Nat) (x : Str) (v : V), X.N[i]? = some x → σ[i]? = some (some v) → Vis X.env.scope x → ∃ u, RelV v u ∧ Look X.env s.heap m x u
  cell : ∀ x c, X.env.cells.lookup x = some c → ∃ v, s.heap.IsCell c v
  free : H X.env.locals = none
  freeC : ∀ x c, X.env.cells.lookup x = some c → H c = none
  pin : ∀ p ∈ X.pn ++ pins, s.heap.get? p.1 = some p.2 ∧ H p.1 = none ∧ p.1 ≠ X.env.locals ∧ p.1 ∉ X.fs ∧ ∀ v, p.2.data ≠ .cell v
  hok : HOk X.prog X.w H s.heap
  len : σ.length = X.N.length

section
variable {X : Cx} {pins : List (Addr × Obj)} {σ : List (Option V)} {H H' : Hp} {s : Shared} {h' : Heap}

theorem Cx.Ok.nofr (ok : X.Ok) {b : Addr} {o : Obj} (e : X.base.get? b = some o) : b ∉ X.fs := fun hb => by
  have := (ok.funs.mem hb).1
  rw [e] at this; cases this
theorem Inv.bs (I : Inv X pins σ H s) : ∀ b o, X.base.get? b = some o → s.heap.get? b = some o ∧ H b = none := fun b o e =>
  ⟨I.base.keep b o (I.ok.bs b o e).1 (I.ok.bs b o e).2 (I.ok.nofr e) (I.ok.noex b o e), I.base.free b o (I.ok.bs b o e).1 (I.ok.bs b o e).2 (I.ok.noex b o e)⟩
theorem Inv.bk (I : Inv X pins σ H s) : ∀ b o, X.base.get? b = some o → s.heap.get? b = some o := fun b o e => (I.bs b o e).1
theorem Inv.mod (I : Inv X pins σ H s) : Mod X.K X.mg X.base := I.ok.mod
theorem Inv.kIn (I : Inv X pins σ H s) : X.K.In s.heap := I.ok.mod.kin.keeps I.bk
theorem Inv.nolimit (I : Inv X pins σ H s) : s.heap.NoLimit := I.ok.mod.nolimit.keeps I.bk
theorem Inv.lt (I : Inv X pins σ H s) : X.env.locals < s.heap.objs.size := let ⟨_, hn, _⟩ := I.loc; hn.lt
theorem Inv.sz (I : Inv X pins σ H s) : X.s₀.heap.objs.size ≤ s.heap.objs.size := Nat.le_trans I.ok.above (Nat.le_of_lt I.lt)
theorem Inv.nofs (I : Inv X pins σ H s) {a : Addr} (h : s.heap.objs.size ≤ a) : a ∉ X.fs := fun hb => by
  obtain ⟨_, o, ho, _⟩ := I.ok.funs.mem hb
  exact absurd (Nat.lt_of_lt_of_le (Heap.lt_size ho) (Nat.le_trans I.sz h)) (Nat.lt_irrefl _)
theorem Inv.cne (I : Inv X pins σ H s) : ∀ x c, X.env.cells.lookup x = some c → c ≠ X.env.locals := fun x c e z => by
  obtain ⟨v, o, ho, hd⟩ := I.cell x c e
  obtain ⟨m, ⟨o', es, ep, ho', hd', _⟩, _⟩ := I.loc
  rw [z, ho'] at ho; cases ho; rw [hd'] at hd; cases hd
theorem Inv.funs (I : Inv X pins σ H s) : s.heap.FunFrames X.base X.outer := by
  have all : ∀ (l : List Env), (∀ b ∈ frs l, b ∈ X.fs) → X.s₀.heap.FunFrames X.base l → s.heap.FunFrames X.base l := by
    intro l
    induction l with
    | nil => intro _ _; trivial
    | cons env r ih =>
      intro hs hl
      obtain ⟨hk, ⟨L, o, hf, hn, ho, hd⟩, hr⟩ := hl
      have hL : L ∈ X.fs := hs L (by unfold frs; rw [List.filterMap_cons, hf]; exact List.mem_cons_self)
      obtain ⟨sl, e⟩ := I.base.slot L o ho (I.ok.frf L hL) hL fun z => I.ok.exfs L z hL
      exact ⟨hk, ⟨L, _, hf, hn, e, hd⟩, ih (fun b hb => hs b (by unfold frs; rw [List.filterMap_cons, hf]; exact List.mem_cons_of_mem _ hb)) hr⟩
  exact all X.outer (fun _ hb => hb) I.ok.funs

/-- the frames that run, for a call -/
theorem Inv.stack (I : Inv X pins σ H s) : s.heap.FunFrames X.base X.stack := by
  rcases I.ok.stk with e | ⟨e, hf⟩
  · rw [e]; exact I.funs
  · rw [e]
    obtain ⟨m, hn, _⟩ := I.loc
    refine .cons (by rw [I.ok.kind]; decide) hf hn ?_ I.funs
    exact Heap.get?_none_of_le (Nat.le_trans I.ok.bsz I.ok.above)
theorem Inv.stkSub (I : Inv X pins σ H s) : ∀ b ∈ frs X.stack, b ∈ X.env.locals :: X.fs := fun b hb => by
  rcases I.ok.stk with e | ⟨e, hf⟩
  · rw [e] at hb; exact List.mem_cons_of_mem _ hb
  · rw [e] at hb
    unfold frs at hb
    rw [List.filterMap_cons, hf] at hb
    exact hb
theorem Inv.stkFree (I : Inv X pins σ H s) : ∀ b ∈ frs X.stack, H b = none := fun b hb => by
  rcases List.mem_cons.mp (I.stkSub b hb) with e | hb
  · rw [e]; exact I.free
  · obtain ⟨_, o, ho, _⟩ := I.ok.funs.mem hb
    exact I.base.free b o ho (I.ok.frf b hb) fun z => I.ok.exfs b z hb

/-- THE STEP: the untracked objects but the frame and the records at ch are kept (the callers' frames up to slots), the frame's map is kept, the new abstract heap is held -/
theorem Inv.step {g' : Array GenState} {t' : Nat} {d' : Drawn} {ch : List Addr} (I : Inv X pins σ H s)
    (hch : ∀ b ∈ ch, (b ∈ X.ex ∨ X.s₀.heap.objs.size ≤ b) ∧ b ≠ X.env.locals ∧ (∀ x c, X.env.cells.lookup x = some c → c ≠ b) ∧ ∀ p ∈ X.pn ++ pins, p.1 ≠ b)
    (keep : ∀ b o, b ≠ X.env.locals → b ∉ X.fs → b ∉ ch → s.heap.get? b = some o → H b = none → h'.get? b = some o)
    (slot : ∀ b o, b ≠ X.env.locals → b ∈ X.fs → b ∉ ch → s.heap.get? b = some o → H b = none → ∃ sl, h'.get? b = some { o with slots := sl }) (free : ∀ b o, b ∉ ch → s.heap.get? b = some o → H b = none → H' b = none)
    (there : ∀ b o, b ∉ ch → s.heap.get? b = some o → ∃ o', h'.get? b = some o')
    (tups : ∀ b xs, H b = some (.tup xs) → H' b = some (.tup xs)) (frzs : ∀ b o u, H b = some (.frz o u) → H' b = some (.frz o u)) (tbls : ∀ b ps, H b = some (.tbl ps) → ∃ more, H' b = some (.tbl (ps ++ more)))
    (ns : ∀ m, s.heap.Ns X.env.locals m → h'.Ns X.env.locals m) (hok : HOk X.prog X.w H' h') (hg : AllBare g') :
    Inv X pins σ H' { s with heap := h', gens := g', drawn := d', toks := t' } := by
  have neL : ∀ b o, X.s₀.heap.get? b = some o → b ≠ X.env.locals := fun b o e => Nat.ne_of_lt (Nat.lt_of_lt_of_le (Heap.lt_size e) I.ok.above)
  have neC : ∀ b o, X.s₀.heap.get? b = some o → b ∉ X.ex → b ∉ ch := fun b o e hx hb => by
    rcases (hch b hb).1 with z | z
    · exact hx z
    · exact absurd (Nat.lt_of_lt_of_le (Heap.lt_size e) z) (Nat.lt_irrefl _)
  have cellK : ∀ x c, X.env.cells.lookup x = some c → ∀ v, s.heap.IsCell c v → h'.IsCell c v := fun x c e v ⟨o, ho, hd⟩ => by
    have nch : c ∉ ch := fun z => (hch c z).2.2.1 x c e rfl
    by_cases hc : c ∈ X.fs
    · obtain ⟨sl, q⟩ := slot c o (I.cne x c e) hc nch ho (I.freeC x c e)
      exact ⟨_, q, hd⟩
    · exact ⟨o, keep c o (I.cne x c e) hc nch ho (I.freeC x c e), hd⟩
  refine ⟨I.ok, I.os, hg, ⟨fun b o e n hb hx => ?_, fun b o e n hb hx => ?_, fun b o e n hx => ?_, fun b o e hx => ?_, fun b xs e => tups b xs (I.base.tups b xs e), fun b o xs e => frzs b o xs (I.base.frzs b o xs e), fun b ps e => ?_⟩, ?_, fun x c e => ?_, ?_, fun x c e => ?_, fun p hp => ?_, hok, I.len⟩
  · exact keep b o (neL b o e) hb (neC b o e hx) (I.base.keep b o e n hb hx) (I.base.free b o e n hx)
  · obtain ⟨sl, e1⟩ := I.base.slot b o e n hb hx
    obtain ⟨sl', e2⟩ := slot b _ (neL b o e) hb (neC b o e hx) e1 (I.base.free b o e n hx)
    exact ⟨sl', e2⟩
  · obtain ⟨o', e1⟩ := I.base.there b o e hx
    exact free b o' (neC b o e hx) e1 (I.base.free b o e n hx)
  · obtain ⟨o', e1⟩ := I.base.there b o e hx
    exact there b o' (neC b o e hx) e1
  · obtain ⟨m1, e1⟩ := I.base.tbls b ps e
    obtain ⟨m2, e2⟩ := tbls b _ e1
    exact ⟨m1 ++ m2, by rw [e2, Array.append_assoc]⟩
  · obtain ⟨m, hn, hl⟩ := I.loc
    refine ⟨m, ns m hn, fun i x v e1 e2 e3 => ?_⟩
    obtain ⟨u, r, l⟩ := hl i x v e1 e2 e3
    refine ⟨u, r, ?_⟩
    rcases l with l | ⟨k, c, e, z⟩
    · exact .inl l
    · exact .inr ⟨k, c, e, cellK x c e _ z⟩
  · obtain ⟨v, z⟩ := I.cell x c e
    exact ⟨v, cellK x c e v z⟩
  · obtain ⟨m, ⟨o, _, _, ho, _⟩, _⟩ := I.loc
    exact free _ o (fun z => (hch _ z).2.1 rfl) ho I.free
  · obtain ⟨v, o, ho, hd⟩ := I.cell x c e
    exact free c o (fun z => (hch c z).2.2.1 x c e rfl) ho (I.freeC x c e)
  · obtain ⟨e, n, ne, nf, d⟩ := I.pin p hp
    have nch : p.1 ∉ ch := fun z => (hch p.1 z).2.2.2 p hp rfl
    exact ⟨keep p.1 p.2 ne nf nch e n, free p.1 p.2 nch e n, ne, nf, d⟩
/-- .. where the frame's own object is kept too -/
theorem Inv.un {t' : Nat} (I : Inv X pins σ H s) (u : Un X.fs [] H H' s.heap h') (hok : HOk X.prog X.w H' h') : Inv X pins σ H' { s with heap := h', toks := t' } := by
  obtain ⟨m, ⟨o, es, ep, ho, r⟩, _⟩ := id I.loc
  obtain ⟨sl, hL⟩ := u.any ho I.free (by simp)
  exact I.step (g' := s.gens) (d' := s.drawn) (ch := []) (fun _ z => nomatch z) (fun b o _ hb _ e n => u.keep b o e n hb (by simp)) (fun b o _ hb _ e n => u.slot b o e n hb (by simp)) (fun b o _ e n => u.free b o e n (by simp)) (fun b o _ e => u.there b o e (by simp)) u.tups u.frzs u.tbls (fun m' hm => by
    obtain ⟨o', es', ep', ho', r'⟩ := hm
    rw [ho] at ho'; cases ho'
    exact ⟨_, es', ep', hL, r'⟩) hok I.bare
/-- behind a call (or a comprehension's block): the slots of this frame may have changed too, the records at ch may have turned -/
theorem Inv.call {g' : Array GenState} {t' : Nat} {d' : Drawn} {ch : List Addr} (I : Inv X pins σ H s) (u : Un (frs X.stack) ch H H' s.heap h') (hok : HOk X.prog X.w H' h') (hg : AllBare g')
    (hch : ∀ b ∈ ch, (b ∈ X.ex ∨ X.s₀.heap.objs.size ≤ b) ∧ b ≠ X.env.locals ∧ (∀ x c, X.env.cells.lookup x = some c → c ≠ b) ∧ ∀ p ∈ X.pn ++ pins, p.1 ≠ b) :
    Inv X pins σ H' { s with heap := h', gens := g', drawn := d', toks := t' } := by
  obtain ⟨m, ⟨o, es, ep, ho, r⟩, _⟩ := id I.loc
  obtain ⟨sl, hL⟩ := u.any ho I.free fun z => (hch _ z).2.1 rfl
  exact I.step (ch := ch) hch (fun b o hL hb hc e n => u.keep b o e n (fun z => (List.mem_cons.mp (I.stkSub b z)).elim hL hb) hc) (fun b o _ _ hc e n => u.any e n hc) (fun b o hc e n => u.free b o e n hc) (fun b o hc e => u.there b o e hc) u.tups u.frzs u.tbls (fun m' hm => by
    obtain ⟨o', es', ep', ho', r'⟩ := hm
    rw [ho] at ho'; cases ho'
    exact ⟨_, es', ep', hL, r'⟩) hok hg
/-- an untracked record of ours (an iterator) has turned -/
theorem Inv.turned {t' : Nat} {it : Addr} (I : Inv X pins σ H s) (k : ∀ b o, b ≠ it → s.heap.get? b = some o → h'.get? b = some o) (hn : H it = none) (hL : it ≠ X.env.locals)
    (h1 : it ∈ X.ex ∨ X.s₀.heap.objs.size ≤ it) (h2 : ∀ x c, X.env.cells.lookup x = some c → c ≠ it) (h3 : ∀ p ∈ X.pn ++ pins, p.1 ≠ it) : Inv X pins σ H { s with heap := h', toks := t' } := by
  have nit : ∀ b u, H b = some u → b ≠ it := fun b u e z => by rw [z, hn] at e; cases e
  refine I.step (g' := s.gens) (d' := s.drawn) (ch := [it]) (fun b hb => ?_) (fun b o _ _ hc e _ => k b o (fun z => hc (by simp [z])) e) (fun b o _ _ hc e _ => ⟨o.slots, k b o (fun z => hc (by simp [z])) e⟩) (fun _ _ _ _ n => n)
    (fun b o hc e => ⟨o, k b o (fun z => hc (by simp [z])) e⟩) (fun _ _ e => e) (fun _ _ _ e => e) (fun b ps e => ⟨#[], by rw [e]; simp⟩) (fun m hm => ?_) (fun b u e => ?_) I.bare
  · have e : b = it := by simpa using hb
    subst e
    exact ⟨h1, hL, h2, h3⟩
  · obtain ⟨o, es, ep, ho, r⟩ := hm
    exact ⟨o, es, ep, k _ o (Ne.symm hL) ho, r⟩
  · refine (I.hok b u e).stay (fun c v hc q => k c v ?_ q) (fun _ q => q) fun _ _ q => q
    rcases hc with z | z
    · rw [z]; exact nit b u e
    · exact nit c _ z
theorem Inv.tok (I : Inv X pins σ H s) (t : Nat) : Inv X pins σ H { s with toks := t } := I.un (h' := s.heap) (t' := t) Un.refl I.hok
/-- all objects kept -/
theorem Inv.kept {t' : Nat} (I : Inv X pins σ H s) (k : ∀ b u, s.heap.get? b = some u → h'.get? b = some u) : Inv X pins σ H { s with heap := h', toks := t' } := I.un (Un.kept k) (I.hok.kept k)
/-- a new object laid and tracked -/
theorem Inv.laid {a : Addr} {o : HO} {t' : Nat} (I : Inv X pins σ H s) (k : ∀ b u, s.heap.get? b = some u → h'.get? b = some u) (hp : s.heap.objs.size ≤ a) (new : ObjOk X.prog X.w (upd H a o) h' a o) :
    Inv X pins σ (upd H a o) { s with heap := h', toks := t' } := I.un (Un.laid k hp (I.hok.fresh hp)) (I.hok.laid k hp new)
/-- an object written -/
theorem Inv.write {x e : Addr} {o : HO} {t' : Nat} (I : Inv X pins σ H s) (mu : Mut (H x)) (he : e = x ∨ H e = some (.own x)) (k : ∀ b u, b ≠ e → s.heap.get? b = some u → h'.get? b = some u) (heo : ∃ u, h'.get? e = some u)
    (new : ObjOk X.prog X.w (upd H x o) h' x o) : Inv X pins σ (upd H x o) { s with heap := h', toks := t' } := I.un (Un.write mu he k heo) (I.hok.write mu he k heo new)
theorem Inv.pins_of {pins' : List (Addr × Obj)} (I : Inv X pins σ H s) (h : ∀ p ∈ pins', s.heap.get? p.1 = some p.2 ∧ H p.1 = none ∧ p.1 ≠ X.env.locals ∧ p.1 ∉ X.fs ∧ ∀ v, p.2.data ≠ .cell v) : Inv X pins' σ H s :=
  ⟨I.ok, I.os, I.bare, I.base, I.loc, I.cell, I.free, I.freeC, fun p hp => (List.mem_append.mp hp).elim (fun z => I.pin p (List.mem_append_left _ z)) (h p), I.hok, I.len⟩

theorem nodup_ix {N : List Str} (hN : N.Nodup) {i j : Nat} {x : Str} (a : N[i]? = some x) (b : N[j]? = some x) : i = j := by
  obtain ⟨h1, e1⟩ := List.getElem?_eq_some_iff.mp a
  obtain ⟨h2, e2⟩ := List.getElem?_eq_some_iff.mp b
  exact (List.getElem_inj hN).mp (e1.trans e2.symm)

/-- a name is stored; what changed -/
theorem store_ok2 {M : Model} {A : Around} {E : Value → Shared → Prop} {i : Nat} {x : Str} {v : V} {u : Value} {Q : Unit → Shared → Prop} (I : Inv X pins σ H s) (hN : X.N.Nodup) (hi : X.N[i]? = some x) (hx : Loc X.env.scope x) (r : RelV v u)
    (h : ∀ s', Inv X pins (σ.set i (some v)) H s' → (∃ a, Heap.SameBut a s.heap s'.heap ∧ (a = X.env.locals ∨ X.env.cells.lookup x = some a)) → Q () s') (hf : X.fn x = true ∨ X.env.scope.names.lookup x = some .local := by first | exact .inl rfl | exact .inr rfl | assumption) : wpAny M A (storeName X.env x u) Q E s := by
  obtain ⟨m, hn, hl⟩ := id I.loc
  have hcls : (X.env.scope.kind == .class || (X.env.scope.kind == .module && X.env.locals != X.env.globals)) = false := by rw [I.ok.kind]; rfl
  have hiσ : i < σ.length := by rw [I.len]; exact (List.getElem?_eq_some_iff.mp hi).1
  have cne := I.cne
  have tracked : ∀ {a : Addr} {h' : Heap}, (∃ o, s.heap.get? a = some o ∧ H a = none) → Heap.SameBut a s.heap h' → HOk X.prog X.w H h' := fun {a h'} ha hs b ob e => by
    obtain ⟨_, _, hfree⟩ := ha
    refine (I.hok b ob e).stay (fun c w' hc q => (hs.2 c ?_).trans q) (fun _ q => q) fun _ _ q => q
    rintro rfl
    rcases hc with rfl | hc
    · rw [hfree] at e; cases e
    · rw [hfree] at hc; cases hc
  rcases hx with hk | hk
  · refine wpAny_storeName_local hk hn (fun h' hn' hs => ?_) hcls
    obtain ⟨oL, _, _, hoL, _⟩ := id hn
    refine h _ ⟨I.ok, I.os, I.bare, ⟨fun b o e n hb hx => ?_, fun b o e n hb hx => ?_, I.base.free, fun b o e hx => ?_, I.base.tups, I.base.frzs, I.base.tbls⟩, ⟨_, hn', fun j y v' e1 e2 e3 => ?_⟩, fun y c e => ?_, I.free, I.freeC, fun p hp => ?_, tracked ⟨oL, hoL, I.free⟩ hs, by simpa using I.len⟩ ⟨_, hs, .inl rfl⟩
    · exact (hs.2 b (Nat.ne_of_lt (Nat.lt_of_lt_of_le (Heap.lt_size e) I.ok.above))).trans (I.base.keep b o e n hb hx)
    · obtain ⟨sl, e1⟩ := I.base.slot b o e n hb hx
      exact ⟨sl, (hs.2 b (Nat.ne_of_lt (Nat.lt_of_lt_of_le (Heap.lt_size e) I.ok.above))).trans e1⟩
    · obtain ⟨o', e1⟩ := I.base.there b o e hx
      exact ⟨o', (hs.2 b (Nat.ne_of_lt (Nat.lt_of_lt_of_le (Heap.lt_size e) I.ok.above))).trans e1⟩
    · by_cases hj : j = i
      · subst hj
        rw [hi] at e1; cases e1
        rw [List.getElem?_set_self hiσ] at e2
        cases e2
        exact ⟨u, r, .inl ⟨hk, by simp⟩⟩
      · rw [List.getElem?_set_ne (Ne.symm hj)] at e2
        obtain ⟨u', r', q⟩ := hl j y v' e1 e2 e3
        refine ⟨u', r', ?_⟩
        rcases q with ⟨k, e⟩ | ⟨k, c, e, z⟩
        · refine .inl ⟨k, ?_⟩
          have : y ≠ x := fun e => hj (nodup_ix hN e1 (e ▸ hi))
          simp [this, e]
        · exact .inr ⟨k, c, e, z.sameBut hs (cne y c e)⟩
    · obtain ⟨w', z⟩ := I.cell y c e
      exact ⟨w', z.sameBut hs (cne y c e)⟩
    · obtain ⟨e, n, ne, nf, d⟩ := I.pin p hp
      exact ⟨(hs.2 p.1 ne).trans e, n, ne, nf, d⟩
  · have hfn : X.fn x = true := by
      rcases hf with z | z
      · exact z
      · rw [z] at hk; cases hk
    obtain ⟨c, hc⟩ := I.ok.has x (.inl hk)
    obtain ⟨w', z⟩ := I.cell x c hc
    refine wpAny_storeName_cell I.ok.kind hk hc z (fun h' hc' hs => ?_)
    obtain ⟨oc, hoc, hocd⟩ := id z
    refine h { s with heap := h' } ⟨I.ok, I.os, I.bare, ⟨fun b o e n hb hx => ?_, fun b o e n hb hx => ?_, I.base.free, fun b o e hx => ?_, I.base.tups, I.base.frzs, I.base.tbls⟩, ⟨m, hn.sameBut hs (Ne.symm (cne x c hc)), fun j y v' e1 e2 e3 => ?_⟩, fun y c' e => ?_, I.free, I.freeC, fun p hp => ?_, tracked ⟨oc, hoc, I.freeC x c hc⟩ hs, by simpa using I.len⟩ ⟨c, hs, .inr hc⟩
    · exact (hs.2 b (Nat.ne_of_lt (Nat.lt_of_lt_of_le (Heap.lt_size e) (I.ok.cab x c hfn hc)))).trans (I.base.keep b o e n hb hx)
    · obtain ⟨sl, e1⟩ := I.base.slot b o e n hb hx
      exact ⟨sl, (hs.2 b (Nat.ne_of_lt (Nat.lt_of_lt_of_le (Heap.lt_size e) (I.ok.cab x c hfn hc)))).trans e1⟩
    · obtain ⟨o', e1⟩ := I.base.there b o e hx
      exact ⟨o', (hs.2 b (Nat.ne_of_lt (Nat.lt_of_lt_of_le (Heap.lt_size e) (I.ok.cab x c hfn hc)))).trans e1⟩
    · by_cases hj : j = i
      · subst hj
        rw [hi] at e1; cases e1
        rw [List.getElem?_set_self hiσ] at e2
        cases e2
        exact ⟨u, r, .inr ⟨.inl hk, c, hc, hc'⟩⟩
      · rw [List.getElem?_set_ne (Ne.symm hj)] at e2
        obtain ⟨u', r', q⟩ := hl j y v' e1 e2 e3
        refine ⟨u', r', ?_⟩
        rcases q with q | ⟨k, c', e, z'⟩
        · exact .inl q
        · refine .inr ⟨k, c', e, z'.sameBut hs ?_⟩
          rintro rfl
          exact hj (nodup_ix hN e1 (I.ok.inj _ _ _ e hc ▸ hi))
    · by_cases hcc : c' = c
      · subst hcc; exact ⟨_, hc'⟩
      · obtain ⟨w2, z2⟩ := I.cell y c' e
        exact ⟨w2, z2.sameBut hs hcc⟩
    · obtain ⟨e, n, ne, nf, d⟩ := I.pin p hp
      refine ⟨(hs.2 p.1 ?_).trans e, n, ne, nf, d⟩
      intro q
      rw [q, hoc] at e
      have q' : oc = p.2 := Option.some.inj e
      exact d w' (by rw [← q']; exact hocd)
theorem store_ok {M : Model} {A : Around} {E : Value → Shared → Prop} {i : Nat} {x : Str} {v : V} {u : Value} {Q : Unit → Shared → Prop} (I : Inv X pins σ H s) (hN : X.N.Nodup) (hi : X.N[i]? = some x) (hx : Loc X.env.scope x) (r : RelV v u)
    (h : ∀ s', Inv X pins (σ.set i (some v)) H s' → Q () s') (hf : X.fn x = true ∨ X.env.scope.names.lookup x = some .local := by first | exact .inl rfl | exact .inr rfl | assumption) : wpAny M A (storeName X.env x u) Q E s :=
  store_ok2 I hN hi hx r (fun s' I' _ => h s' I') hf
/-- behind a call or a block, the state as it is -/
theorem Inv.call' {s' : Shared} {ch : List Addr} (I : Inv X pins σ H s) (ho : s'.os = s.os) (u : Un (frs X.stack) ch H H' s.heap s'.heap) (hok : HOk X.prog X.w H' s'.heap) (hg : AllBare s'.gens)
    (hch : ∀ b ∈ ch, (b ∈ X.ex ∨ X.s₀.heap.objs.size ≤ b) ∧ b ≠ X.env.locals ∧ (∀ x c, X.env.cells.lookup x = some c → c ≠ b) ∧ ∀ p ∈ X.pn ++ pins, p.1 ≠ b) : Inv X pins σ H' s' := by
  obtain ⟨h', g', d', t', o'⟩ := s'
  have e : o' = s.os := ho
  subst e
  exact I.call (g' := g') (t' := t') (d' := d') u hok hg hch
end

/-! ### the judgements -/
/-- an exception: its class, its own dict's address (where it has one), the abstract heap behind it -/
abbrev XK := Value → Option Addr → Hp → Prop
abbrev St := List (Option V)
abbrev VK := V → Hp → Prop
/-- an expression's reading; a test's; an argument list's -/
abbrev TE := St → Hp → VK → Prop
abbrev TT := St → Hp → (Bool → Hp → Prop) → Prop
abbrev TA := St → Hp → (List V → Hp → Prop) → Prop
/-- what is wanted behind a statement -/
structure Ends where
  nx : St → Hp → Prop
  rt : VK
  bk : St → Hp → Prop := fun _ _ => False
  ct : St → Hp → Prop := fun _ _ => False
abbrev TS := Ends → St → Hp → Prop

def EP (X : Cx) (pins : List (Addr × Obj)) (σ : St) (Q : VK) (u : Value) (s' : Shared) : Prop := ∃ v H', Inv X pins σ H' s' ∧ RelV v u ∧ Q v H'
def TP (X : Cx) (pins : List (Addr × Obj)) (σ : St) (Q : Bool → Hp → Prop) (b : Bool) (s' : Shared) : Prop := ∃ H', Inv X pins σ H' s' ∧ Q b H'
def AP (X : Cx) (pins : List (Addr × Obj)) (σ : St) (Q : List V → Hp → Prop) (us : List Value) (s' : Shared) : Prop := ∃ vs H', Inv X pins σ H' s' ∧ Vals vs us ∧ Q vs H'
def SP (X : Cx) (pins : List (Addr × Obj)) (D : Ends) (f : Flow) (s' : Shared) : Prop :=
  match f with
  | .next => ∃ σ' H', Inv X pins σ' H' s' ∧ D.nx σ' H'
  | .brk => ∃ σ' H', Inv X pins σ' H' s' ∧ D.bk σ' H'
  | .cont => ∃ σ' H', Inv X pins σ' H' s' ∧ D.ct σ' H'
  | .ret u => ∃ v σ' H', Inv X pins σ' H' s' ∧ RelV v u ∧ D.rt v H'

def PE (X : Cx) (e : Expr) (t : TE) : Prop :=
  ∀ (pins : List (Addr × Obj)) (s : Shared) (σ : St) (H : Hp) (Q : VK), Inv X pins σ H s → t σ H Q → wpAny (model X.prog X.w) X.A (eval e X.env) (EP X pins σ Q) X.xe s
def PT (X : Cx) (e : Expr) (t : TT) : Prop :=
  ∀ (pins : List (Addr × Obj)) (s : Shared) (σ : St) (H : Hp) (Q : Bool → Hp → Prop), Inv X pins σ H s → t σ H Q → wpAny (model X.prog X.w) X.A (isTrue e X.env (eval e X.env)) (TP X pins σ Q) X.xe s
/-- a test whatever its 'whole' is (and, or) -/
def PW (X : Cx) (e : Expr) (t : TT) : Prop :=
  ∀ (whole : Sem Value) (pins : List (Addr × Obj)) (s : Shared) (σ : St) (H : Hp) (Q : Bool → Hp → Prop), Inv X pins σ H s → t σ H Q → wpAny (model X.prog X.w) X.A (isTrue e X.env whole) (TP X pins σ Q) X.xe s
theorem PW.pt {X : Cx} {e : Expr} {t : TT} (h : PW X e t) : PT X e t := h _
/-- an argument list (no star), from the left -/
def PA (X : Cx) (es : List Expr) (t : TA) : Prop :=
  ∀ (pos : Pos) (pins : List (Addr × Obj)) (s : Shared) (σ : St) (H : Hp) (Q : List V → Hp → Prop), Inv X pins σ H s → t σ H Q → wpAny (model X.prog X.w) X.A (spliced (backTo pos (starEach es X.env))) (AP X pins σ Q) X.xe s
def PS (X : Cx) (st : Stmt) (t : TS) : Prop :=
  ∀ (pins : List (Addr × Obj)) (s : Shared) (σ : St) (H : Hp) (D : Ends), Inv X pins σ H s → t D σ H → wpAny (model X.prog X.w) X.A (exec st X.env) (SP X pins D) X.xe s
def PSs (X : Cx) (st : List Stmt) (t : TS) : Prop :=
  ∀ (pins : List (Addr × Obj)) (s : Shared) (σ : St) (H : Hp) (D : Ends), Inv X pins σ H s → t D σ H → wpAny (model X.prog X.w) X.A (execs st X.env) (SP X pins D) X.xe s
/-- weaken the end -/
theorem thn {α : Type} {t : Sem α} {Q Q' : α → Shared → Prop} {M : Model} {A : Around} {E : Value → Shared → Prop} {s : Shared} (h : wpAny M A t Q E s) (hQ : ∀ a s, Q a s → Q' a s) : wpAny M A t Q' E s := wpAny_mono h hQ fun _ _ x => x
end L2

namespace L2
open PySem PySem.Spec PyProof.Rows
section
variable {X : Cx}

/-- two expressions in a row -/
theorem bin {a b : Expr} {ta tb : TE} (ha : PE X a ta) (hb : PE X b tb) {pins : List (Addr × Obj)} {s : Shared} {σ : St} {H : Hp} {R : V → V → Hp → Prop} (I : Inv X pins σ H s) (h : ta σ H fun x H1 => tb σ H1 fun y H2 => R x y H2)
    {α : Type} {Q : α → Shared → Prop} {f : Value → Value → Sem α}
    (hf : ∀ v u s2 x y H2, Inv X pins σ H2 s2 → RelV x v → RelV y u → R x y H2 → wpAny (model X.prog X.w) X.A (f v u) Q X.xe s2) :
    wpAny (model X.prog X.w) X.A (eval a X.env) (fun v s₁ => wpAny (model X.prog X.w) X.A (eval b X.env) (fun u s₂ => wpAny (model X.prog X.w) X.A (f v u) Q X.xe s₂) X.xe s₁) X.xe s := by
  refine thn (ha pins s σ H _ I h) fun v s1 ⟨x, H1, I1, r1, q1⟩ => ?_
  refine thn (hb pins s1 σ H1 _ I1 q1) fun u s2 ⟨y, H2, I2, r2, q2⟩ => ?_
  exact hf v u s2 x y H2 I2 r1 r2 q2

/-! ### names and constants -/
def tVar (i : Nat) : TE := fun σ H Q => ∃ v, σ[i]? = some (some v) ∧ Q v H
def tC (v : V) : TE := fun _ H Q => Q v H
theorem pe_var {i : Nat} {x : Str} {pos : Pos} (hN : X.N[i]? = some x) (hv : Vis X.env.scope x) (hd : (x == ("__debug__" : Str)) = false := by decide) (hcd : (x == ("__classdict__" : Str)) = false := by decide) : PE X (.Name x pos) (tVar i) := by
  intro pins s σ H Q I h
  obtain ⟨v, e, h⟩ := h
  obtain ⟨m, hn, hl⟩ := I.loc
  obtain ⟨u, r, l⟩ := hl i x v hN e hv
  have fin : EP X pins σ Q u s := ⟨v, H, I, r, h⟩
  rcases l with ⟨hk, hm⟩ | ⟨hk, c, hc, hcell⟩
  · exact wpAny_Name (wpAny_loadName_local I.ok.kind hk hn hm fin) hd
  · rcases hk with hk | hk
    · exact wpAny_Name (wpAny_loadName_cell I.ok.kind hk hc hcell fin) hd
    · exact wpAny_Name (wpAny_loadName_free I.ok.kind hk hc hcell fin hcd) hd
theorem pe_int {i j pos} : PE X (.Constant (.int i) j pos) (tC (.int i)) := fun _ _ _ H _ I h => wpAny_Constant_int ⟨.int i, H, I.tok _, ⟨_, rfl⟩, h⟩
theorem pe_bl {b j pos} : PE X (.Constant (.bool b) j pos) (tC (.bl b)) := fun _ _ _ H _ I h => Constant_bool ⟨.bl b, H, I, rfl, h⟩
theorem pe_non {j pos} : PE X (.Constant .none j pos) (tC .non) := fun _ _ _ H _ I h => Constant_none ⟨.non, H, I, rfl, h⟩
theorem pe_str {x j pos} : PE X (.Constant (.str x) j pos) (tC (.str x)) := fun _ _ _ H _ I h => Calls.Constant_str ⟨.str x, H, I.tok _, ⟨_, rfl⟩, h⟩

/-- a global name of the def -/
def Gl (X : Cx) (x : Str) : Prop := X.env.kindOf x = some .globalImplicit
theorem ld_glob {E : Value → Shared → Prop} {pins : List (Addr × Obj)} {s : Shared} {σ : St} {H : Hp} {x : Str} {u : Value} {pos : Pos} {Q : Value → Shared → Prop} (I : Inv X pins σ H s) (hg : Gl X x) (hm : X.mg x = some u) (h : Q u s)
    (hd : (x == ("__debug__" : Str)) = false := by decide) : wpAny (model X.prog X.w) X.A (eval (.Name x pos) X.env) Q E s :=
  Calls.Name_function_global I.ok.kind hg (Calls.loadGlobal_global (by rw [I.ok.glob]; exact I.mod.glob.keeps I.bk) hm h) hd
theorem ld_blt {E : Value → Shared → Prop} {pins : List (Addr × Obj)} {s : Shared} {σ : St} {H : Hp} {x : Str} {u : Value} {pos : Pos} {Q : Value → Shared → Prop} (I : Inv X pins σ H s) (hg : Gl X x) (hm : X.mg x = none) (hv : bootBuiltins x = some u) (h : Q u s)
    (hn : x ≠ "__name__" := by decide) (hd : (x == ("__debug__" : Str)) = false := by decide) : wpAny (model X.prog X.w) X.A (eval (.Name x pos) X.env) Q E s := by
  obtain ⟨mb, h1, h2⟩ := I.mod.blt
  exact Calls.Name_function_global I.ok.kind hg (Calls.loadGlobal_builtin (by rw [I.ok.glob]; exact I.mod.glob.keeps I.bk) hm (by rw [I.ok.blt]; exact h1.keeps I.bk) ((h2 x hn).trans hv) h) hd
/-- a module's constant, a class, a function, as a value -/
theorem pe_glob {x : Str} {v : V} {u : Value} {pos : Pos} (hg : Gl X x) (hm : X.mg x = some u) (r : RelV v u) (hd : (x == ("__debug__" : Str)) = false := by decide) : PE X (.Name x pos) (tC v) :=
  fun _ _ _ H _ I h => ld_glob I hg hm ⟨v, H, I, r, h⟩ hd
theorem pe_bltn {x : Str} {v : V} {u : Value} {pos : Pos} (hg : Gl X x) (hm : X.mg x = none) (hv : bootBuiltins x = some u) (r : RelV v u) (hn : x ≠ "__name__" := by decide) (hd : (x == ("__debug__" : Str)) = false := by decide) : PE X (.Name x pos) (tC v) :=
  fun _ _ _ H _ I h => ld_blt I hg hm hv ⟨v, H, I, r, h⟩ hn hd

/-! ### arithmetic -/
variable {a b : Expr} {ta tb : TE} {pos : Pos}
/-! ### comparisons -/
/-! ### and, or, not -/
variable {tA tB' : TT} {rest : List Expr}
def tAnd (t u : TT) : TT := fun σ H Q => t σ H fun c H1 => if c = true then u σ H1 Q else Q false H1
def tOr (t u : TT) : TT := fun σ H Q => t σ H fun c H1 => if c = true then Q true H1 else u σ H1 Q
def tNot (t : TT) : TT := fun σ H Q => t σ H fun c H1 => Q (!c) H1
theorem pw_and1 (ha : PT X a tA) : PW X (.BoolOp .And [a] pos) tA := by
  intro wh pins s σ H Q I h
  refine isTrue_and (thn (ha pins s σ H Q I h) fun c s1 e => ?_)
  cases c with
  | true => exact isTrue_and_nil e
  | false => exact e
theorem pw_or1 (ha : PT X a tA) : PW X (.BoolOp .Or [a] pos) tA := by
  intro wh pins s σ H Q I h
  refine isTrue_or (thn (ha pins s σ H Q I h) fun c s1 e => ?_)
  cases c with
  | false => exact isTrue_or_nil e
  | true => exact e
theorem pw_and (ha : PT X a tA) (hb : PW X (.BoolOp .And (b :: rest) pos) tB') : PW X (.BoolOp .And (a :: b :: rest) pos) (tAnd tA tB') := by
  intro wh pins s σ H Q I h
  refine isTrue_and (thn (ha pins s σ H _ I h) fun c s1 ⟨H1, I1, q1⟩ => ?_)
  cases c with
  | true => exact hb wh pins s1 σ H1 Q I1 q1
  | false => exact ⟨H1, I1, q1⟩
theorem pw_or (ha : PT X a tA) (hb : PW X (.BoolOp .Or (b :: rest) pos) tB') : PW X (.BoolOp .Or (a :: b :: rest) pos) (tOr tA tB') := by
  intro wh pins s σ H Q I h
  refine isTrue_or (thn (ha pins s σ H _ I h) fun c s1 ⟨H1, I1, q1⟩ => ?_)
  cases c with
  | true => exact ⟨H1, I1, q1⟩
  | false => exact hb wh pins s1 σ H1 Q I1 q1
theorem pt_not (ha : PT X a tA) : PT X (.UnaryOp .Not a pos) (tNot tA) := by
  intro pins s σ H Q I h
  exact isTrue_not (ha pins s σ H (fun c H1 => Q (!c) H1) I h)
/-- .. as values (bools) -/
def tAndV (ta tb : TE) : TE := fun σ H Q => ta σ H fun x H1 => ∃ c, x = .bl c ∧ if c = true then tb σ H1 Q else Q (.bl false) H1
def tOrV (ta tb : TE) : TE := fun σ H Q => ta σ H fun x H1 => ∃ c, x = .bl c ∧ if c = true then Q (.bl true) H1 else tb σ H1 Q
def tNotV (ta : TE) : TE := fun σ H Q => ta σ H fun x H1 => ∃ c, x = .bl c ∧ Q (.bl (!c)) H1
theorem pe_one {op} {t : TE} (h : PE X a t) : PE X (.BoolOp op [a] pos) t := fun pins s σ H Q I hw => BoolOp_one (h pins s σ H Q I hw)
theorem pe_and (ha : PE X a ta) (hb : PE X (.BoolOp .And (b :: rest) pos) tb) : PE X (.BoolOp .And (a :: b :: rest) pos) (tAndV ta tb) := by
  intro pins s σ H Q I h
  refine BoolOp_and (thn (ha pins s σ H _ I h) fun v s1 ⟨x, H1, I1, r1, q1⟩ => ?_)
  obtain ⟨c, rfl, q1⟩ := q1
  cases r1
  refine wpAny_truthy_bool ?_
  cases c with
  | true => exact hb pins s1 σ H1 Q I1 q1
  | false => exact ⟨.bl false, H1, I1, rfl, q1⟩
theorem pe_or (ha : PE X a ta) (hb : PE X (.BoolOp .Or (b :: rest) pos) tb) : PE X (.BoolOp .Or (a :: b :: rest) pos) (tOrV ta tb) := by
  intro pins s σ H Q I h
  refine BoolOp_or (thn (ha pins s σ H _ I h) fun v s1 ⟨x, H1, I1, r1, q1⟩ => ?_)
  obtain ⟨c, rfl, q1⟩ := q1
  cases r1
  refine wpAny_truthy_bool ?_
  cases c with
  | false => exact hb pins s1 σ H1 Q I1 q1
  | true => exact ⟨.bl true, H1, I1, rfl, q1⟩
theorem pe_not (ha : PE X a ta) : PE X (.UnaryOp .Not a pos) (tNotV ta) := by
  intro pins s σ H Q I h
  refine UnaryOp_ (thn (ha pins s σ H _ I h) fun v s1 ⟨x, H1, I1, r1, q1⟩ => ?_)
  obtain ⟨c, rfl, q1⟩ := q1
  cases r1
  exact not_of (wpAny_truthy_bool ⟨.bl (!c), H1, I1, rfl, q1⟩)
end
end L2

namespace L2
open PySem PySem.Spec PyProof.Rows

/-! ### a list, a tuple that is read: tracked, frozen, or an object of the module -/
def SqL (K : PySem.W.Frag) (H : Hp) (a : Addr) (xs : List V) : Prop :=
  Rd H a (.lst xs) ∨
    ∃ (o : Obj) (its : Array Value) (n : Nat), K.lookup a = some o ∧ o.cls = .type "list" ∧ o.dict = none ∧ o.data = .seq its n ∧ its.size ≤ sizeLine ∧ Vals xs its.toList
def SqT (K : PySem.W.Frag) (H : Hp) (a : Addr) (xs : List V) : Prop :=
  Rd H a (.tup xs) ∨
    ∃ (o : Obj) (its : Array Value) (n : Nat), K.lookup a = some o ∧ o.cls = .type "tuple" ∧ o.data = .seq its n ∧ its.size ≤ sizeLine ∧ Vals xs its.toList
def absV : Value → Option V
  | .none => some .non
  | .bool b => some (.bl b)
  | .int i _ => some (.int i)
  | .str x _ => some (.str x)
  | .bytes b _ => some (.byt b)
  | .float b _ => some (.flt b)
  | .ref a => some (.ref a)
  | .type n => some (.ty n)
  | _ => none
theorem RelV.abs {x : V} {u : Value} (r : RelV x u) : absV u = some x := by
  cases x with
  | non => cases r; rfl
  | bl _ => cases r; rfl
  | int _ => obtain ⟨t, rfl⟩ := r; rfl
  | str _ => obtain ⟨t, rfl⟩ := r; rfl
  | byt _ => obtain ⟨t, rfl⟩ := r; rfl
  | flt _ => obtain ⟨t, rfl⟩ := r; rfl
  | ref _ => cases r; rfl
  | ty _ => cases r; rfl
theorem RelV.inj {x y : V} {u : Value} (r : RelV x u) (q : RelV y u) : x = y := Option.some.inj (r.abs.symm.trans q.abs)
theorem Vals.inj : ∀ {xs ys : List V} {us : List Value}, Vals xs us → Vals ys us → xs = ys
  | _, _, _, .nil, .nil => rfl
  | _, _, _, .cons r t, .cons r' t' => by rw [r.inj r', Vals.inj t t']
section
variable {X : Cx} {pins : List (Addr × Obj)} {σ : St} {H : Hp} {s : Shared} {a : Addr} {xs ys : List V}
theorem SqL.of {K : PySem.W.Frag} (h : H a = some (.lst xs)) : SqL K H a xs := .inl (.inl h)
theorem SqT.of {K : PySem.W.Frag} (h : H a = some (.tup xs)) : SqT K H a xs := .inl (.inl h)
theorem Inv.list (I : Inv X pins σ H s) (h : SqL X.K H a xs) : ∃ its : List Value, Vals xs its ∧ PlainL s.heap a its.toArray ∧ xs.length ≤ sizeLine := by
  rcases h with h | ⟨o, its, n, hk, hc, hd, hs, hz, r⟩
  · obtain ⟨z, its, n, r, e⟩ := h.ok I.hok
    exact ⟨its, r, ⟨_, n, e, rfl, rfl, rfl⟩, z⟩
  · refine ⟨its.toList, r, ⟨o, n, I.kIn a o hk, hc, hd, by simpa using hs⟩, ?_⟩
    have e := r.length
    simp only [Array.length_toList] at e
    omega
theorem Inv.tuple (I : Inv X pins σ H s) (h : SqT X.K H a xs) : ∃ its : List Value, Vals xs its ∧ IsTup s.heap a its.toArray ∧ xs.length ≤ sizeLine := by
  rcases h with h | ⟨o, its, n, hk, hc, hs, hz, r⟩
  · obtain ⟨z, its, r, p⟩ := h.ok I.hok
    exact ⟨its, r, p, z⟩
  · refine ⟨its.toList, r, ⟨o, I.kIn a o hk, hc, n, by simpa using hs⟩, ?_⟩
    have e := r.length
    simp only [Array.length_toList] at e
    omega
theorem Inv.list_inj (I : Inv X pins σ H s) (h : SqL X.K H a xs) (h' : SqL X.K H a ys) : xs = ys := by
  obtain ⟨its, r, ⟨o, n, e, _, _, d⟩, _⟩ := I.list h
  obtain ⟨its', r', ⟨o', n', e', _, _, d'⟩, _⟩ := I.list h'
  rw [e] at e'; cases e'
  rw [d] at d'
  injection d' with d1 _
  have : its = its' := by simpa using congrArg Array.toList d1
  subst this
  exact r.inj r'
theorem Inv.tuple_inj (I : Inv X pins σ H s) (h : SqT X.K H a xs) (h' : SqT X.K H a ys) : xs = ys := by
  obtain ⟨its, r, ⟨o, e, _, n, d⟩, _⟩ := I.tuple h
  obtain ⟨its', r', ⟨o', e', _, n', d'⟩, _⟩ := I.tuple h'
  rw [e] at e'; cases e'
  rw [d] at d'
  injection d' with d1 _
  have : its = its' := by simpa using congrArg Array.toList d1
  subst this
  exact r.inj r'
end

/-! ### another wish about exceptions -/
abbrev Cx.wish (X : Cx) (E : Value → Shared → Prop) : Cx := { X with xe := E }
/-- no exception leaves -/
abbrev Cx.nox (X : Cx) : Cx := X.wish fun _ _ => False
theorem Cx.Ok.wish {X : Cx} (ok : X.Ok) (E : Value → Shared → Prop) : (X.wish E).Ok :=
  ⟨ok.mod, ok.kind, ok.glob, ok.blt, ok.above, ok.inj, ok.has, ok.cab, ok.hd, ok.frames, ok.stk, ok.exf, ok.bs, ok.bsz, ok.noex, ok.exfs, ok.funs, ok.frf⟩
theorem Cx.Ok.unwish {X : Cx} {E : Value → Shared → Prop} (ok : (X.wish E).Ok) : X.Ok :=
  ⟨ok.mod, ok.kind, ok.glob, ok.blt, ok.above, ok.inj, ok.has, ok.cab, ok.hd, ok.frames, ok.stk, ok.exf, ok.bs, ok.bsz, ok.noex, ok.exfs, ok.funs, ok.frf⟩
section
variable {X : Cx} {pins : List (Addr × Obj)} {σ : St} {H : Hp} {s : Shared} {E : Value → Shared → Prop}
theorem Inv.wish (I : Inv X pins σ H s) (E : Value → Shared → Prop) : Inv (X.wish E) pins σ H s := ⟨I.ok.wish E, I.os, I.bare, I.base, I.loc, I.cell, I.free, I.freeC, I.pin, I.hok, I.len⟩
theorem Inv.unwish (I : Inv (X.wish E) pins σ H s) : Inv X pins σ H s := ⟨I.ok.unwish, I.os, I.bare, I.base, I.loc, I.cell, I.free, I.freeC, I.pin, I.hok, I.len⟩
theorem SP.unwish {D : Ends} {f : Flow} {s' : Shared} (h : SP (X.wish E) pins D f s') : SP X pins D f s' := by
  cases f with
  | next => obtain ⟨σ', H', I, q⟩ := h; exact ⟨σ', H', I.unwish, q⟩
  | brk => obtain ⟨σ', H', I, q⟩ := h; exact ⟨σ', H', I.unwish, q⟩
  | cont => obtain ⟨σ', H', I, q⟩ := h; exact ⟨σ', H', I.unwish, q⟩
  | ret u => obtain ⟨v, σ', H', I, r, q⟩ := h; exact ⟨v, σ', H', I.unwish, r, q⟩
theorem PE.nox {e : Expr} {t : TE} (h : PE X.nox e t) : PE X e t := fun pins s σ H Q I hw =>
  wpAny_mono (h pins s σ H Q (I.wish _) hw) (fun _ _ ⟨v, H', I', r, q⟩ => ⟨v, H', I'.unwish, r, q⟩) fun _ _ z => False.elim z
theorem PT.nox {e : Expr} {t : TT} (h : PT X.nox e t) : PT X e t := fun pins s σ H Q I hw =>
  wpAny_mono (h pins s σ H Q (I.wish _) hw) (fun _ _ ⟨H', I', q⟩ => ⟨H', I'.unwish, q⟩) fun _ _ z => False.elim z
theorem PSs.nox {st : List Stmt} {t : TS} (h : PSs X.nox st t) : PSs X st t := fun pins s σ H D I hw =>
  wpAny_mono (h pins s σ H D (I.wish _) hw) (fun _ _ q => q.unwish) fun _ _ z => False.elim z
end

/-! ### blocks and small statements -/
section
variable {X : Cx} {st : Stmt} {rest : List Stmt} {t u : TS} {e : Expr} {te : TE} {pos : Pos}
def tNext : TS := fun D σ H => D.nx σ H
def tSeq (t u : TS) : TS := fun D σ H => t { D with nx := u D } σ H
theorem pss_nil : PSs X [] tNext := fun _ _ σ H _ I h => wpAny_execs_nil ⟨σ, H, I, h⟩
theorem pss_cons (h1 : PS X st t) (h2 : PSs X rest u) : PSs X (st :: rest) (tSeq t u) := by
  intro pins s σ H D I h
  refine wpAny_execs_cons (thn (h1 pins s σ H { D with nx := u D } I h) fun f s1 q => ?_)
  cases f with
  | next =>
    obtain ⟨σ', H', I', q⟩ := q
    exact h2 pins s1 σ' H' D I' q
  | ret v => exact q
  | brk => exact q
  | cont => exact q
/-- in a def's body nothing is shown -/
theorem Inv.quiet {pins : List (Addr × Obj)} {σ : St} {H : Hp} {s : Shared} (I : Inv X pins σ H s) : interactive X.env = false := by simp [interactive, I.ok.kind]
/-- an expression whose value is dropped -/
def tDrop (te : TE) : TS := fun D σ H => te σ H fun _ H1 => D.nx σ H1
theorem ps_expr (he : PE X e te) (hs : swapsWith e none pos.line X.env = pure false := by rfl) : PS X (.Expr e pos) (tDrop te) := by
  intro pins s σ H D I h
  exact wpAny_Expr_any (thn (he pins s σ H _ I h) fun v s1 ⟨x, H1, I1, r1, q1⟩ => ⟨σ, H1, I1, q1⟩) I.quiet hs
def tRet (te : TE) : TS := fun D σ H => te σ H D.rt
theorem ps_ret (he : PE X e te) : PS X (.Return (some e) pos) (tRet te) := by
  intro pins s σ H D I h
  exact wpAny_Return_some (thn (he pins s σ H _ I h) fun v s1 ⟨x, H1, I1, r1, q1⟩ => ⟨x, σ, H1, I1, r1, q1⟩)
def tIfS (c : TT) (t u : TS) : TS := fun D σ H => c σ H fun b H1 => if b = true then t D σ H1 else u D σ H1
theorem ps_if {c : Expr} {a b : List Stmt} {tc : TT} (hc : PT X c tc) (ha : PSs X a t) (hb : PSs X b u) : PS X (.If c a b pos) (tIfS tc t u) := by
  intro pins s σ H D I h
  refine wpAny_If (thn (hc pins s σ H _ I h) fun d s1 ⟨H1, I1, q1⟩ => ?_)
  cases d with
  | true => exact ha pins s1 σ H1 D I1 q1
  | false => exact hb pins s1 σ H1 D I1 q1
end

/-! ### targets -/
abbrev TG := V → St → Hp → (St → Hp → Prop) → Prop
abbrev TGs := List V → St → Hp → (St → Hp → Prop) → Prop
def PG (X : Cx) (target : Expr) (t : TG) : Prop :=
  ∀ (pins : List (Addr × Obj)) (s : Shared) (σ : St) (H : Hp) (v : V) (u : Value) (Q : St → Hp → Prop), Inv X pins σ H s → RelV v u → t v σ H Q →
    wpAny (model X.prog X.w) X.A (assign target X.env u) (fun _ s' => ∃ σ' H', Inv X pins σ' H' s' ∧ Q σ' H') X.xe s
/-- several targets, one after another -/
def PGs (X : Cx) (ts : List Expr) (t : TGs) : Prop :=
  ∀ (pins : List (Addr × Obj)) (s : Shared) (σ : St) (H : Hp) (vs : List V) (us : List Value) (Q : St → Hp → Prop), Inv X pins σ H s → Vals vs us → t vs σ H Q →
    wpAny (model X.prog X.w) X.A (assignInOrder ((assignEach ts X.env).map (·.2)) us) (fun _ s' => ∃ σ' H', Inv X pins σ' H' s' ∧ Q σ' H') X.xe s
/-- o[i] = v, by values -/
abbrev TSet := V → V → V → Hp → (Hp → Prop) → Prop
def PSet (X : Cx) (t : TSet) : Prop :=
  ∀ (pins : List (Addr × Obj)) (s : Shared) (σ : St) (H : Hp) (o i v : V) (ov iv u : Value) (Q : Hp → Prop), Inv X pins σ H s → RelV o ov → RelV i iv → RelV v u → t o i v H Q →
    wpAny (model X.prog X.w) X.A (setItem ov iv u) (fun _ s' => ∃ H', Inv X pins σ H' s' ∧ Q H') X.xe s
section
variable {X : Cx} {pos : Pos}
def gName (i : Nat) : TG := fun v σ H Q => Q (σ.set i (some v)) H
theorem pg_name {i : Nat} {x : Str} (hN : X.N.Nodup) (hi : X.N[i]? = some x) (hx : Loc X.env.scope x) (hf : X.fn x = true ∨ X.env.scope.names.lookup x = some .local := by first | exact .inl rfl | exact .inr rfl | assumption) : PG X (.Name x pos) (gName i) := by
  intro pins s σ H v u Q I r h
  exact wpAny_assign_Name (store_ok I hN hi hx r (fun s' I' => ⟨_, H, I', h⟩) hf)
def gNil : TGs := fun vs σ H Q => vs = [] ∧ Q σ H
def gCons (t : TG) (u : TGs) : TGs := fun vs σ H Q => ∃ v r, vs = v :: r ∧ t v σ H fun σ' H' => u r σ' H' Q
theorem pgs_nil : PGs X [] gNil := by
  intro pins s σ H vs us Q I r h
  obtain ⟨e, h⟩ := h
  subst e
  cases r
  exact assignInOrder_nil ⟨σ, H, I, h⟩
theorem pgs_cons {e : Expr} {es : List Expr} {t : TG} {u : TGs} (h1 : PG X e t) (h2 : PGs X es u)
    (hs : (assignEach (e :: es) X.env).map (·.2) = assign e X.env :: (assignEach es X.env).map (·.2) := by rfl) : PGs X (e :: es) (gCons t u) := by
  intro pins s σ H vs us Q I r h
  obtain ⟨v, vr, e1, h⟩ := h
  subst e1
  cases r with
  | cons r rr =>
    rw [hs]
    refine assignInOrder_cons (thn (h1 pins s σ H _ _ _ I r h) fun _ s1 ⟨σ1, H1, I1, q1⟩ => ?_)
    exact h2 pins s1 σ1 H1 _ _ Q I1 rr q1
/-- (a, b, ..) = a tuple of that length -/
def gTup (K : PySem.W.Frag) (n : Nat) (t : TGs) : TG := fun v σ H Q => ∃ a xs, v = .ref a ∧ SqT K H a xs ∧ xs.length = n ∧ t xs σ H Q
theorem pg_tup {es : List Expr} {k : Nat} {t : TGs} {n : Nat} (hc : X.calm = true) (h : PGs X es t)
    (hn : (assignEach es X.env).length = n := by rfl) (hst : (assignEach es X.env).findIdx? (·.1) = none := by rfl) : PG X (.Tuple es k pos) (gTup X.K n t) := by
  intro pins s σ H v u Q I r hw
  obtain ⟨a, xs, e1, hq, hl, hw⟩ := hw
  subst e1
  cases r
  obtain ⟨its, rv, ht, hz⟩ := I.tuple hq
  refine assign_Tuple_tuple (I.ok.hd hc) ht (by simp [hn, ← hl, rv.length]) hst fun h' hx => ?_
  have I1 : Inv X pins σ H { s with heap := h' } := I.kept (t' := s.toks) fun b o e => hx b o (Nat.ne_of_lt (Heap.lt_size e)) e
  exact h pins _ σ H xs _ Q I1 (by simpa using rv) hw
/-- o[i] = .. -/
def gSub (to ti : TE) (t : TSet) : TG := fun v σ H Q => to σ H fun o H1 => ti σ H1 fun i H2 => t o i v H2 fun H3 => Q σ H3
theorem pg_sub {o i : Expr} {to ti : TE} {t : TSet} (ho : PE X o to) (hi : PE X i ti) (hs : PSet X t)
    (ha : ∀ v, assign (.Subscript o i pos) X.env v = (do
      let ov ← holding [v] (eval o X.env)
      let iv ← holding [v, ov] (eval i X.env)
      standAt pos
      holding [v, ov, iv] (setItem ov iv v)
      release [v, ov, iv] []) := by intro _; rfl) : PG X (.Subscript o i pos) (gSub to ti t) := by
  intro pins s σ H v u Q I r h
  rw [ha]
  refine wpAny_bind (wpAny_holding (thn (ho pins s σ H _ I h) fun ov s1 ⟨x, H1, I1, r1, q1⟩ => ?_))
  refine wpAny_bind (wpAny_holding (thn (hi pins s1 σ H1 _ I1 q1) fun iv s2 ⟨y, H2, I2, r2, q2⟩ => ?_))
  refine wpAny_bind (wpAny_standAt (wpAny_bind (wpAny_holding (thn (hs pins s2 σ H2 x y v ov iv u _ I2 r1 r2 r q2) fun _ s3 ⟨H3, I3, q3⟩ => ?_))))
  exact wpAny_release ⟨σ, H3, I3, q3⟩
/-- target = value -/
def tAsg (te : TE) (g : TG) : TS := fun D σ H => te σ H fun x H1 => g x σ H1 D.nx
theorem ps_asg {tg e : Expr} {te : TE} {g : TG} (he : PE X e te) (hg : PG X tg g) (hs : swapsWithSole [tg] e pos.line X.env = pure false := by rfl) (hw : swappedStores [tg] e X.env = pure none := by rfl)
    (h1 : (assignEach [tg] X.env).map (·.2) = [assign tg X.env] := by rfl) : PS X (.Assign [tg] e pos) (tAsg te g) := by
  intro pins s σ H D I h
  refine wpAny_Assign_stores (thn (he pins s σ H _ I h) fun v s1 ⟨x, H1, I1, r1, q1⟩ => ?_) hs hw
  rw [h1]
  exact thn (hg pins s1 σ H1 x v _ I1 r1 q1) fun _ s2 q => q
/-- name = value -/
theorem ps_set {i : Nat} {x : Str} {e : Expr} {te : TE} {pos' : Pos} (hN : X.N.Nodup) (hi : X.N[i]? = some x) (hx : Loc X.env.scope x) (he : PE X e te) (hs : swapsWith e (some (.Name x pos')) pos.line X.env = pure false := by rfl) (hf : X.fn x = true ∨ X.env.scope.names.lookup x = some .local := by first | exact .inl rfl | exact .inr rfl | assumption) :
    PS X (.Assign [.Name x pos'] e pos) (tAsg te (gName i)) := by
  intro pins s σ H D I h
  refine wpAny_Assign_Name (thn (he pins s σ H _ I h) fun v s1 ⟨y, H1, I1, r1, q1⟩ => ?_) hs
  exact store_ok I1 hN hi hx r1 (fun s2 I2 => ⟨_, H1, I2, q1⟩) hf
end

/-! ### while -/
section
variable {X : Cx} {pos : Pos}
end

/-! ### what a loop or a comprehension walks -/
/-- at turn i: it yields x (the heap may grow), or it stops -/
structure It where
  go : Nat → Hp → Prop
  yld : Nat → Hp → V → Hp → Prop
  stop : Nat → Hp → Prop
/-- the iterator's own objects may turn: they are not the frame's, not pinned, younger than the entry (or a comprehension's own) -/
def FpOk (X : Cx) (pins : List (Addr × Obj)) (H : Hp) (b : Addr) : Prop :=
  H b = none ∧ b ≠ X.env.locals ∧ b ∉ X.fs ∧ (b ∈ X.ex ∨ X.s₀.heap.objs.size ≤ b) ∧ (∀ x c, X.env.cells.lookup x = some c → c ≠ b) ∧ ∀ p ∈ X.pn ++ pins, p.1 ≠ b
theorem Inv.fpOk {X : Cx} {pins : List (Addr × Obj)} {σ : St} {H H' : Hp} {s : Shared} {b : Addr} (I : Inv X pins σ H s) (hb : s.heap.objs.size ≤ b) (hn : H' b = none) : FpOk X pins H' b := by
  refine ⟨hn, Nat.ne_of_gt (Nat.lt_of_lt_of_le I.lt hb), I.nofs hb, .inr (Nat.le_trans I.sz hb), fun x c e z => ?_, fun p hp z => ?_⟩
  · obtain ⟨v, q⟩ := I.cell x c e
    exact absurd (Nat.lt_of_lt_of_le q.lt (by rw [z]; exact hb)) (Nat.lt_irrefl _)
  · exact absurd (Nat.lt_of_lt_of_le (Heap.lt_size (I.pin p hp).1) (by rw [z]; exact hb)) (Nat.lt_irrefl _)
structure Turn (P : Program) (w : World) (K : PySem.W.Frag) (tg : Expr) (J : It) (fp : List Addr) (it : Addr) (tn : Nat → Heap → Prop) : Prop where
  mem : it ∈ fp
  obj : ∀ i h, tn i h → ∀ b ∈ fp, ∃ o, h.get? b = some o ∧ ∀ v, o.data ≠ .cell v
  keep : ∀ i h h', tn i h → (∀ b ∈ fp, ∀ o, h.get? b = some o → h'.get? b = some o) → tn i h'
  item : ∀ (X : Cx), X.prog = P → X.w = w → X.K = K → X.calm = true → ∀ (i : Nat) (pins : List (Addr × Obj)) (s : Shared) (σ : St) (H : Hp) (E : Value → Shared → Prop), Inv X pins σ H s → (∀ b ∈ fp, FpOk X pins H b) → tn i s.heap → J.go i H →
    wpAny (model P w) X.A (pyNext (.ref it)) (fun r s1 => ∃ u, r = some u ∧
      wpAny (model P w) X.A (letOwnedTupleGo tg (.ref it) u) (fun _ s2 => ∃ x H', Inv X pins σ H' s2 ∧ RelV x u ∧ J.yld i H x H' ∧ tn (i + 1) s2.heap ∧ ∀ b ∈ fp, H' b = none) E s1) E s
  done : ∀ (X : Cx), X.prog = P → X.w = w → X.K = K → X.calm = true → ∀ (i : Nat) (pins : List (Addr × Obj)) (s : Shared) (σ : St) (H : Hp) (E : Value → Shared → Prop), Inv X pins σ H s → (∀ b ∈ fp, FpOk X pins H b) → tn i s.heap → J.stop i H →
    wpAny (model P w) X.A (pyNext (.ref it)) (fun r s1 => r = none ∧ Inv X pins σ H s1) E s
  self : ∀ (A : Around) (i : Nat) (s : Shared) (Q : Value → Shared → Prop) (E : Value → Shared → Prop), tn i s.heap → Q (.ref it) s → wpAny (model P w) A (pyIter (.ref it)) Q E s
abbrev TI := St → Hp → (It → Hp → Prop) → Prop
/-- an iterator has come -/
def PIE (X : Cx) (pins : List (Addr × Obj)) (σ : St) (tg : Expr) (R : It → Hp → Prop) (itv : Value) (s2 : Shared) : Prop :=
  ∃ (it : Addr) (fp : List Addr) (tn : Nat → Heap → Prop) (J : It) (H' : Hp), itv = .ref it ∧ Inv X pins σ H' s2 ∧ Turn X.prog X.w X.K tg J fp it tn ∧ tn 0 s2.heap ∧ (∀ b ∈ fp, FpOk X pins H' b) ∧ R J H'
def PI (X : Cx) (tg iter : Expr) (wi : TI) : Prop :=
  ∀ (pins : List (Addr × Obj)) (s : Shared) (σ : St) (H : Hp) (R : It → Hp → Prop), Inv X pins σ H s → wi σ H R →
    wpAny (model X.prog X.w) X.A (eval iter X.env) (fun v s1 => wpAny (model X.prog X.w) X.A (pyIter v) (PIE X pins σ tg R) X.xe s1) X.xe s

/-- the step ahead of the store is nothing for an iterator that keeps no tuple -/
theorem go_of {M : Model} {A : Around} {E : Value → Shared → Prop} {s : Shared} {tg : Expr} {it : Addr} {u : Value} {o : Obj} {n : String} {vs : Array Value} {Q : Unit → Shared → Prop} (ho : s.heap.get? it = some o) (hc : o.cls = .type n) (hd : o.data = .fields vs)
    (hn : ["enumerate", "zip", "dict_itemiterator", "dict_reverseitemiterator", "odict_iterator", "itertools.zip_longest", "itertools.pairwise"].contains n = false) (hQ : Q () s) : wpAny M A (letOwnedTupleGo tg (.ref it) u) Q E s := by
  unfold letOwnedTupleGo
  cases tg <;> first
    | exact wpAny_pure hQ
    | (cases u <;> first
        | exact wpAny_pure hQ
        | (refine wpAny_bind (wpAny_load ho ?_)
           rw [hc, hd]
           show wpAny M A (if (["enumerate", "zip", "dict_itemiterator", "dict_reverseitemiterator", "odict_iterator", "itertools.zip_longest", "itertools.pairwise"].contains n && vs[0]? == some (rawInt _)) = true then _ else _) Q E s
           rw [if_neg (by intro h; rw [hn, Bool.false_and] at h; cases h)]
           exact wpAny_pure hQ))

/-- the list at a, as it stands at each turn (a loop may append to it) -/
def Itl (K : PySem.W.Frag) (a : Addr) : It :=
  ⟨fun i H => ∃ xs x, SqL K H a xs ∧ xs[i]? = some x, fun i H x H' => H' = H ∧ ∀ xs, SqL K H a xs → xs[i]? = some x, fun i H => ∃ xs, SqL K H a xs ∧ xs.length ≤ i⟩
def Itt (K : PySem.W.Frag) (a : Addr) : It :=
  ⟨fun i H => ∃ xs x, SqT K H a xs ∧ xs[i]? = some x, fun i H x H' => H' = H ∧ ∀ xs, SqT K H a xs → xs[i]? = some x, fun i H => ∃ xs, SqT K H a xs ∧ xs.length ≤ i⟩
/-- lo, lo + 1, .. (n of them) -/
def Itr (lo : Int) (n : Nat) : It := ⟨fun i _ => i < n, fun i H x H' => H' = H ∧ x = .int (lo + i), fun i _ => n ≤ i⟩
theorem turn_list {P : Program} {w : World} {K : PySem.W.Frag} {tg : Expr} (a it : Addr) : Turn P w K tg (Itl K a) [it] it (fun i h => h.IsListIter it a i) where
  mem := by simp
  obj := fun i h st b hb => by
    have e : b = it := by simpa using hb
    subst e
    obtain ⟨o, e, c, d⟩ := st
    exact ⟨o, e, fun v z => by rw [d] at z; cases z⟩
  keep := fun i h h' st k => st.at fun o e => k it (by simp) o e
  item := by
    intro X hP hw hK hc i pins s σ H E I hf st hg
    subst hP hw hK
    obtain ⟨xs, x, hq, hx⟩ := hg
    obtain ⟨its, rv, p, hz⟩ := I.list hq
    obtain ⟨u, hu, ru⟩ := rv.get hx
    obtain ⟨f0, f1, f2, f3, f4, f5⟩ := hf it (by simp)
    refine wpAny_pyNext_list_item st p.isList (x := u) (by simpa using hu) fun h' st' sb => ?_
    have I1 : Inv X pins σ H { s with heap := h' } := I.turned (t' := s.toks) (fun b o hb e => (sb.2 b hb).trans e) f0 f1 f3 f4 f5
    obtain ⟨o, e, c, d⟩ := id st'
    exact ⟨u, rfl, go_of (s := { s with heap := h' }) e c d (by decide) ⟨x, H, I1, ru, ⟨rfl, fun ys hy => by rw [I.list_inj hy hq]; exact hx⟩, st', fun b hb => (hf b hb).1⟩⟩
  done := by
    intro X hP hw hK hc i pins s σ H E I hf st hg
    subst hP hw hK
    obtain ⟨xs, hq, hx⟩ := hg
    obtain ⟨its, rv, p, hz⟩ := I.list hq
    obtain ⟨f0, f1, f2, f3, f4, f5⟩ := hf it (by simp)
    have hl := rv.length
    exact wpAny_pyNext_list_end (I.ok.hd hc) st p.isList (by simp; omega) fun h' eb => ⟨rfl, I.turned (t' := s.toks) (fun b o hb e => eb b o hb e) f0 f1 f3 f4 f5⟩
  self := fun _ _ _ _ _ st h => wpAny_pyIter_listiter st h
theorem turn_tuple {P : Program} {w : World} {K : PySem.W.Frag} {tg : Expr} (a it : Addr) : Turn P w K tg (Itt K a) [it] it (fun i h => h.IsTupleIter it a i) where
  mem := by simp
  obj := fun i h st b hb => by
    have e : b = it := by simpa using hb
    subst e
    obtain ⟨o, e, c, d⟩ := st
    exact ⟨o, e, fun v z => by rw [d] at z; cases z⟩
  keep := fun i h h' st k => st.at fun o e => k it (by simp) o e
  item := by
    intro X hP hw hK hc i pins s σ H E I hf st hg
    subst hP hw hK
    obtain ⟨xs, x, hq, hx⟩ := hg
    obtain ⟨its, rv, p, hz⟩ := I.tuple hq
    obtain ⟨u, hu, ru⟩ := rv.get hx
    obtain ⟨f0, f1, f2, f3, f4, f5⟩ := hf it (by simp)
    refine wpAny_pyNext_tuple_item st (show s.heap.IsTuple a its.toArray from p) (x := u) (by simpa using hu) fun h' st' sb => ?_
    have I1 : Inv X pins σ H { s with heap := h' } := I.turned (t' := s.toks) (fun b o hb e => (sb.2 b hb).trans e) f0 f1 f3 f4 f5
    obtain ⟨o, e, c, d⟩ := id st'
    exact ⟨u, rfl, go_of (s := { s with heap := h' }) e c d (by decide) ⟨x, H, I1, ru, ⟨rfl, fun ys hy => by rw [I.tuple_inj hy hq]; exact hx⟩, st', fun b hb => (hf b hb).1⟩⟩
  done := by
    intro X hP hw hK hc i pins s σ H E I hf st hg
    subst hP hw hK
    obtain ⟨xs, hq, hx⟩ := hg
    obtain ⟨its, rv, p, hz⟩ := I.tuple hq
    obtain ⟨f0, f1, f2, f3, f4, f5⟩ := hf it (by simp)
    have hl := rv.length
    exact wpAny_pyNext_tuple_end (I.ok.hd hc) st (show s.heap.IsTuple a its.toArray from p) (by simp; omega) fun h' eb => ⟨rfl, I.turned (t' := s.toks) (fun b o hb e => eb b o hb e) f0 f1 f3 f4 f5⟩
  self := fun _ _ _ _ _ st h => wpAny_pyIter_tupleiter st h
theorem turn_range {P : Program} {w : World} {K : PySem.W.Frag} {tg : Expr} (it : Addr) (lo : Int) (n : Nat) : Turn P w K tg (Itr lo n) [it] it (fun i h => IsRangeIter h it (lo + (i : Nat) * 1) ((n : Int) - (i : Nat)) 1) where
  mem := by simp
  obj := fun i h st b hb => by
    have e : b = it := by simpa using hb
    subst e
    exact ⟨_, st, fun v z => by
      have z' : Data.fields _ = Data.cell v := z
      cases z'⟩
  keep := fun i h h' st k => k it (by simp) _ st
  item := by
    intro X hP hw hK hc i pins s σ H E I hf st hg
    subst hP hw hK
    obtain ⟨f0, f1, f2, f3, f4, f5⟩ := hf it (by simp)
    have W := Walks.range (prog := X.prog) (w := X.w) (I.ok.hd hc) it lo 1 n
    refine W.item i s _ _ hg st fun v h' tk hv st' kk => ?_
    obtain ⟨t, rfl⟩ := hv
    have I1 : Inv X pins σ H { s with heap := h', toks := tk } := I.turned (fun b o hb e => kk b o (by simpa using hb) e) f0 f1 f3 f4 f5
    refine ⟨_, rfl, go_of (s := { s with heap := h', toks := tk }) (n := "range_iterator") st' rfl rfl (by decide) ⟨.int (lo + i), H, I1, ⟨t, ?_⟩, ⟨rfl, rfl⟩, st', fun b hb => (hf b hb).1⟩⟩
    rw [Int.mul_one]
  done := by
    intro X hP hw hK hc i pins s σ H E I hf st hg
    subst hP hw hK
    obtain ⟨f0, f1, f2, f3, f4, f5⟩ := hf it (by simp)
    exact wpAny_pyNext_range_end (I.ok.hd hc) st (by have : n ≤ i := hg; omega) fun h' eb => ⟨rfl, I.turned (t' := s.toks) (fun b o hb e => eb b o hb e) f0 f1 f3 f4 f5⟩
  self := fun _ _ _ _ _ st h => wpAny_pyIter_rangeiter st h
end L2

namespace L2
open PySem PySem.Spec PyProof.Rows
section
variable {X : Cx} {tg : Expr}
/-- a range object just made, walked -/
theorem range_it {pins : List (Addr × Obj)} {σ : St} {H : Hp} {s : Shared} {R : It → Hp → Prop} {E : Value → Shared → Prop} {lo hi : Int} {t u v : Tok} {tk : Nat} (I : Inv X pins σ H s) (h1 : -(2 ^ 62) ≤ lo) (h2 : lo < 2 ^ 62) (h3 : -(2 ^ 62) ≤ hi) (h4 : hi < 2 ^ 62)
    (q : R (Itr lo (hi - lo).toNat) H) : wpAny (model X.prog X.w) X.A (pyIter (.ref s.heap.objs.size)) (PIE X pins σ tg R) E { s with heap := s.heap.push { cls := .type "range", data := .fields #[.int lo t, .int hi u, .int 1 v] }, toks := tk } := by
  refine wpAny_pyIter_range (IsRange.new ..) (small_one h1 h2 h3 h4) ?_
  have I1 : Inv X pins σ H { s with heap := s.heap.push { cls := .type "range", data := .fields #[.int lo t, .int hi u, .int 1 v] }, toks := tk } := I.kept fun b o e => Heap.get?_push_of_some _ e
  refine ⟨(s.heap.push { cls := .type "range", data := .fields #[.int lo t, .int hi u, .int 1 v] }).objs.size, [(s.heap.push { cls := .type "range", data := .fields #[.int lo t, .int hi u, .int 1 v] }).objs.size], _, _, H, rfl,
    I1.kept (t' := tk) fun b o e => Heap.get?_push_of_some _ e, turn_range _ lo (hi - lo).toNat, ?_, fun b hb => ?_, q⟩
  · have e1 : lo + ((0 : Nat) : Int) * 1 = lo := by simp
    have e2 : (((hi - lo).toNat : Nat) : Int) - ((0 : Nat) : Int) = Builtin.Range.rangeSize lo hi 1 := by rw [rangeSize_one]; split <;> omega
    show IsRangeIter _ _ (lo + ((0 : Nat) : Int) * 1) ((((hi - lo).toNat : Nat) : Int) - ((0 : Nat) : Int)) 1
    rw [e1, e2]
    exact Heap.get?_push_size _ rfl
  · have e : b = (s.heap.push { cls := .type "range", data := .fields #[.int lo t, .int hi u, .int 1 v] }).objs.size := by simpa using hb
    subst e
    exact I1.fpOk (Nat.le_refl _) (I1.hok.fresh (Nat.le_refl _))
def iRng1 (ta : TA) : TI := fun σ H R => ta σ H fun vs H1 => ∃ j : Int, vs = [.int j] ∧ -(2 ^ 62) ≤ j ∧ j < 2 ^ 62 ∧ R (Itr 0 j.toNat) H1
def iRng2 (ta : TA) : TI := fun σ H R => ta σ H fun vs H1 => ∃ i j : Int, vs = [.int i, .int j] ∧ (-(2 ^ 62) ≤ i ∧ i < 2 ^ 62 ∧ -(2 ^ 62) ≤ j ∧ j < 2 ^ 62) ∧ R (Itr i (j - i).toNat) H1
theorem pi_range1 {a : Expr} {ta : TA} {p pos : Pos} (hg : Gl X "range") (hm : X.mg "range" = none) (ha : PA X [a] ta) (hs : starEach [a] X.env = [(false, eval a X.env)] := by rfl) : PI X tg (.Call (.Name "range" p) [a] [] pos) (iRng1 ta) := by
  intro pins s σ H R I h
  refine Call_ (ld_blt I hg hm boot_range (PyProof.Rows.callWith_type1 (thn (ha pos pins s σ H _ I h) fun us s1 ⟨vs, H1, I1, r1, q1⟩ => ?_) hs rfl))
  obtain ⟨j, e, q1, q2, q⟩ := q1
  subst e
  cases r1 with
  | cons r rr =>
    cases rr
    obtain ⟨t, rfl⟩ := r
    exact call_range_1 (range_it I1 (by omega) (by omega) q1 q2 (by simpa using q))
theorem pi_range2 {a b : Expr} {ta : TA} {p pos : Pos} (hg : Gl X "range") (hm : X.mg "range" = none) (ha : PA X [a, b] ta) (hs : starEach [a, b] X.env = [(false, eval a X.env), (false, eval b X.env)] := by rfl) (hs2 : starEach [b] X.env = [(false, eval b X.env)] := by rfl) :
    PI X tg (.Call (.Name "range" p) [a, b] [] pos) (iRng2 ta) := by
  intro pins s σ H R I h
  refine Call_ (ld_blt I hg hm boot_range (PyProof.Rows.callWith_type1 (thn (ha pos pins s σ H _ I h) fun us s1 ⟨vs, H1, I1, r1, q1⟩ => ?_) (by rw [hs, hs2]) (by rw [hs2]; rfl)))
  obtain ⟨i, j, e, ⟨q1, q2, q3, q4⟩, q⟩ := q1
  subst e
  cases r1 with
  | cons r rr =>
    cases rr with
    | cons r' rr =>
      cases rr
      obtain ⟨t, rfl⟩ := r
      obtain ⟨t', rfl⟩ := r'
      exact call_range_2 (range_it I1 q1 q2 q3 q4 q)

/-! ### for -/
/-- W: the invariant by the turn and a measure; N: what the body is to reach -/
def tFor (wi : TI) (g : TG) (tb : TS) : TS := fun D σ H => wi σ H fun J H1 => ∃ W : Nat → Nat → St → Hp → Prop, (∃ m, W 0 m σ H1) ∧ ∀ i m σ H, W i m σ H →
  (J.stop i H ∧ D.nx σ H) ∨ (J.go i H ∧ ∃ N : St → Hp → Prop, (∀ σ' H', N σ' H' → ∃ m', m' < m ∧ W (i + 1) m' σ' H') ∧ ∀ x H', J.yld i H x H' → g x σ H' fun σ2 H2 => tb { D with nx := N, ct := N, bk := D.nx } σ2 H2)
/-- the records at fp as they stand -/
def pinsAt (fp : List Addr) (h : Heap) : List (Addr × Obj) := fp.filterMap fun b => (h.get? b).map fun o => (b, o)
theorem mem_pinsAt {fp : List Addr} {h : Heap} {b : Addr} {o : Obj} (hb : b ∈ fp) (e : h.get? b = some o) : (b, o) ∈ pinsAt fp h := List.mem_filterMap.mpr ⟨b, hb, by rw [e]; rfl⟩
theorem of_pinsAt {fp : List Addr} {h : Heap} {p : Addr × Obj} (hp : p ∈ pinsAt fp h) : p.1 ∈ fp ∧ h.get? p.1 = some p.2 := by
  obtain ⟨b, hb, e⟩ := List.mem_filterMap.mp hp
  cases q : h.get? b with
  | none => rw [q] at e; cases e
  | some o =>
    rw [q] at e
    have e' : (b, o) = p := Option.some.inj e
    subst e'
    exact ⟨hb, q⟩
theorem Inv.pinned {pins : List (Addr × Obj)} {σ : St} {H : Hp} {s : Shared} {fp : List Addr} (I : Inv X pins σ H s) (hf : ∀ b ∈ fp, FpOk X pins H b) (ho : ∀ b ∈ fp, ∃ o, s.heap.get? b = some o ∧ ∀ v, o.data ≠ .cell v) : Inv X (pins ++ pinsAt fp s.heap) σ H s :=
  I.pins_of fun p hp => (List.mem_append.mp hp).elim (fun z => I.pin p (List.mem_append_right _ z)) fun z => by
    obtain ⟨hb, e⟩ := of_pinsAt z
    obtain ⟨f0, f1, f2, _⟩ := hf p.1 hb
    obtain ⟨o, e', d⟩ := ho p.1 hb
    rw [e] at e'; cases e'
    exact ⟨e, f0, f1, f2, d⟩
theorem Inv.unpinned {pins pl : List (Addr × Obj)} {σ : St} {H : Hp} {s : Shared} (I : Inv X (pins ++ pl) σ H s) : Inv X pins σ H s := I.pins_of fun p hp => I.pin p (List.mem_append_right _ (List.mem_append_left _ hp))
theorem ps_for {iter : Expr} {body : List Stmt} {wi : TI} {g : TG} {tb : TS} {pos : Pos} (hp : PassesOwn (model X.prog X.w) X.A X.env X.xe) (hc : X.calm = true) (hi : PI X tg iter wi) (hg : PG X tg g) (hb : PSs X body tb)
    (hs : ∀ x, foldedSetIterable iter X.env x = pure x := by intro _; rfl) : PS X (.For tg iter body [] pos) (tFor wi g tb) := by
  intro pins s σ H D I h
  refine wpAny_For (thn (hi pins s σ H _ I h) fun v s1 h1 => thn h1 fun itv s2 h2 => ?_) hs
  obtain ⟨it, fp, tn, J, H2, e, I2, T, st2, f2, W, ⟨m0, w0⟩, turn⟩ := h2
  subst e
  -- what stays true of the iterator's objects through the loop
  have stat : ∀ {H' : Hp}, (∀ b ∈ fp, H' b = none) → ∀ b ∈ fp, FpOk X pins H' b := fun hn b hb => ⟨hn b hb, (f2 b hb).2⟩
  refine codeAny_forLoop_any (fun n s' => ∃ i σ' H', Inv X pins σ' H' s' ∧ tn i s'.heap ∧ (∀ b ∈ fp, H' b = none) ∧ W i n σ' H') ?_ m0 ⟨0, σ, H2, I2, st2, fun b hb => (f2 b hb).1, w0⟩
  rintro n s3 ⟨i, σ3, H3, I3, st3, fr3, w3⟩
  rcases turn i n σ3 H3 w3 with ⟨stop, qn⟩ | ⟨go, N, hN, step⟩
  · refine wpAny_passesOwn hp (thn (T.done X rfl rfl rfl hc i pins s3 σ3 H3 X.xe I3 (stat fr3) st3 stop) fun r s4 ⟨hr, I4⟩ => ?_)
    subst hr
    exact wpAny_execs_nil ⟨σ3, H3, I4, qn⟩
  · refine wpAny_passesOwn hp (thn (T.item X rfl rfl rfl hc i pins s3 σ3 H3 X.xe I3 (stat fr3) st3 go) fun r s4 ⟨u, hr, h4⟩ => ?_)
    subst hr
    refine wpAny_passesOwn hp (thn h4 fun _ s5 ⟨x, H5, I5, r5, y5, st5, fr5⟩ => ?_)
    have I5' := I5.pinned (stat fr5) (T.obj _ _ st5)
    refine wpAny_passesOwn hp (thn (hg _ s5 σ3 H5 x u _ I5' r5 (step x H5 y5)) fun _ s6 ⟨σ6, H6, I6, q6⟩ => ?_)
    refine wpAny_passesOwn hp (thn (hb _ s6 σ6 H6 _ I6 q6) fun f s7 q7 => ?_)
    have again : ∀ {σ7 : St} {H7 : Hp}, Inv X (pins ++ pinsAt fp s5.heap) σ7 H7 s7 → N σ7 H7 → ∃ m, m < n ∧ ∃ i σ' H', Inv X pins σ' H' s7 ∧ tn i s7.heap ∧ (∀ b ∈ fp, H' b = none) ∧ W i m σ' H' := fun {σ7 H7} I7 n7 => by
      obtain ⟨m', hm, w7⟩ := hN σ7 H7 n7
      refine ⟨m', hm, i + 1, σ7, H7, I7.unpinned, T.keep _ _ _ st5 fun b hb o e => (I7.pin (b, o) (List.mem_append_right _ (List.mem_append_right _ (mem_pinsAt hb e)))).1, fun b hb => ?_, w7⟩
      obtain ⟨o, e, d⟩ := T.obj _ _ st5 b hb
      exact (I7.pin (b, o) (List.mem_append_right _ (List.mem_append_right _ (mem_pinsAt hb e)))).2.1
    cases f with
    | next => obtain ⟨σ7, H7, I7, n7⟩ := q7; exact again I7 n7
    | cont => obtain ⟨σ7, H7, I7, n7⟩ := q7; exact again I7 n7
    | brk => obtain ⟨σ7, H7, I7, q7⟩ := q7; exact ⟨σ7, H7, I7.unpinned, q7⟩
    | ret v => obtain ⟨x7, σ7, H7, I7, r7, q7⟩ := q7; exact ⟨x7, σ7, H7, I7.unpinned, r7, q7⟩
end

/-! ### the forms one uses -/
end L2

namespace L2
open PySem PySem.Spec PyProof.Rows

abbrev R2 := V → V → Hp → VK → Prop
/-- a two-place operation on values: f is binaryOp op, inplaceOp op or compareOp op -/
def OpR (X : Cx) (f : Value → Value → Sem Value) (r : R2) : Prop :=
  ∀ (pins : List (Addr × Obj)) (s : Shared) (σ : St) (H : Hp) (x y : V) (v u : Value) (Q : VK), Inv X pins σ H s → RelV x v → RelV y u → r x y H Q →
    wpAny (model X.prog X.w) X.A (f v u) (EP X pins σ Q) X.xe s
/-- a call of a value that is known (a builtin, a type) with values -/
def CallR (X : Cx) (f : Value) (r : List V → Hp → VK → Prop) : Prop :=
  ∀ (pins : List (Addr × Obj)) (s : Shared) (σ : St) (H : Hp) (xs : List V) (us : List Value) (Q : VK), Inv X pins σ H s → Vals xs us → r xs H Q →
    wpAny (model X.prog X.w) X.A (call f us) (EP X pins σ Q) X.xe s
/-- a value's truth -/
def TruR (X : Cx) (r : V → Hp → (Bool → Hp → Prop) → Prop) : Prop :=
  ∀ (pins : List (Addr × Obj)) (s : Shared) (σ : St) (H : Hp) (x : V) (v : Value) (Q : Bool → Hp → Prop), Inv X pins σ H s → RelV x v → r x H Q →
    wpAny (model X.prog X.w) X.A (truthy v) (TP X pins σ Q) X.xe s

def tOp (r : R2) (ta tb : TE) : TE := fun σ H Q => ta σ H fun x H1 => tb σ H1 fun y H2 => r x y H2 Q
/-- ints in, under C, and a value out -/
def rI (C : Int → Int → Prop) (g : Int → Int → V) : R2 := fun x y H Q => ∃ i j, x = .int i ∧ y = .int j ∧ C i j ∧ Q (g i j) H
def rI0 (g : Int → Int → V) : R2 := fun x y H Q => ∃ i j, x = .int i ∧ y = .int j ∧ Q (g i j) H
section
variable {X : Cx} {a b c : Expr} {ta tb tc : TE} {pos : Pos}

theorem binT (ha : PE X a ta) (hb : PE X b tb) {pins : List (Addr × Obj)} {s : Shared} {σ : St} {H : Hp} {R : V → V → Hp → Prop} (I : Inv X pins σ H s)
    (h : ta σ H fun x H1 => tb σ H1 fun y H2 => R x y H2) {Q : Value → Shared → Prop} {f : Value → Value → Sem Value}
    (hf : ∀ v u s2 x y H2, Inv X pins σ H2 s2 → RelV x v → RelV y u → R x y H2 → wpAny (model X.prog X.w) X.A (f v u) Q X.xe s2) :
    wpAny (model X.prog X.w) X.A (eval a X.env) (fun v s₁ => wpAny (model X.prog X.w) X.A (eval b X.env) (fun u s₂ => wpAny (model X.prog X.w) X.A (f v u) Q X.xe s₂) X.xe s₁) X.xe s := by
  refine thn (ha pins s σ H _ I h) fun v s1 ⟨x, H1, I1, r1, q1⟩ => ?_
  refine thn (hb pins s1 σ H1 _ I1 q1) fun u s2 ⟨y, H2, I2, r2, q2⟩ => ?_
  exact hf v u s2 x y H2 I2 r1 r2 q2

theorem pe_op {op : Operator} {r : R2} (ho : OpR X (binaryOp op) r) (ha : PE X a ta) (hb : PE X b tb) : PE X (.BinOp a op b pos) (tOp r ta tb) := by
  intro pins s σ H Q I h
  exact wpAny_BinOp (binT ha hb I h fun v u s2 x y H2 I2 rx ry q => ho pins s2 σ H2 x y v u Q I2 rx ry q)
/-! ### ints -/
theorem opI {f : Value → Value → Sem Value} {C : Int → Int → Prop} {g : Int → Int → Int}
    (rule : ∀ (i j : Int) (t u : Tok) (s : Shared) (Q : Value → Shared → Prop) (E : Value → Shared → Prop), C i j → Q (.int (g i j) s.toks) { s with toks := s.toks + 1 } → wpAny (model X.prog X.w) X.A (f (.int i t) (.int j u)) Q E s) :
    OpR X f (rI C fun i j => .int (g i j)) := by
  intro pins s σ H x y v u Q I rx ry h
  obtain ⟨i, j, rfl, rfl, hc, q⟩ := h
  obtain ⟨t, rfl⟩ := rx
  obtain ⟨t', rfl⟩ := ry
  exact rule i j t t' s _ _ hc ⟨.int (g i j), H, I.tok _, ⟨_, rfl⟩, q⟩
theorem opI0 {f : Value → Value → Sem Value} {g : Int → Int → Int}
    (rule : ∀ (i j : Int) (t u : Tok) (s : Shared) (Q : Value → Shared → Prop) (E : Value → Shared → Prop), Q (.int (g i j) s.toks) { s with toks := s.toks + 1 } → wpAny (model X.prog X.w) X.A (f (.int i t) (.int j u)) Q E s) :
    OpR X f (rI0 fun i j => .int (g i j)) := by
  intro pins s σ H x y v u Q I rx ry h
  obtain ⟨i, j, rfl, rfl, q⟩ := h
  obtain ⟨t, rfl⟩ := rx
  obtain ⟨t', rfl⟩ := ry
  exact rule i j t t' s _ _ ⟨.int (g i j), H, I.tok _, ⟨_, rfl⟩, q⟩
theorem opB0 {f : Value → Value → Sem Value} {g : Int → Int → Bool}
    (rule : ∀ (i j : Int) (t u : Tok) (s : Shared) (Q : Value → Shared → Prop) (E : Value → Shared → Prop), Q (.bool (g i j)) s → wpAny (model X.prog X.w) X.A (f (.int i t) (.int j u)) Q E s) :
    OpR X f (rI0 fun i j => .bl (g i j)) := by
  intro pins s σ H x y v u Q I rx ry h
  obtain ⟨i, j, rfl, rfl, q⟩ := h
  obtain ⟨t, rfl⟩ := rx
  obtain ⟨t', rfl⟩ := ry
  exact rule i j t t' s _ _ ⟨.bl (g i j), H, I, rfl, q⟩

def CDiv (i j : Int) : Prop := 0 < j ∧ j < 1073741824
def CPow (i j : Int) : Prop := 0 ≤ j ∧ j ≤ 1000000 ∧ i.natAbs < 2 ^ 64
def CMul (i j : Int) : Prop := (-(2 ^ 64) < i ∧ i < 2 ^ 64) ∨ (-(2 ^ 64) < j ∧ j < 2 ^ 64)
theorem CMul.ok {i j : Int} (h : CMul i j) : IntMulOk i j := by
  rcases h with ⟨h1, h2⟩ | ⟨h1, h2⟩
  · exact .of_left (intBits_le_64 h1 h2)
  · exact .of_right (intBits_le_64 h1 h2)
theorem two_pow_nn (k : Nat) : (0 : Int) ≤ 2 ^ k := by
  rw [two_pow_cast]
  exact Int.natCast_nonneg _

theorem op_add : OpR X (binaryOp .Add) (rI0 fun i j => .int (i + j)) := opI0 fun _ _ _ _ _ _ _ q => add_int q
theorem op_sub : OpR X (binaryOp .Sub) (rI0 fun i j => .int (i - j)) := opI0 fun _ _ _ _ _ _ _ q => sub_int q
theorem op_mul : OpR X (binaryOp .Mult) (rI CMul fun i j => .int (i * j)) := opI fun _ _ _ _ _ _ _ hc q => mul_int q hc.ok
/-- // by a positive divisor -/
theorem op_fdiv : OpR X (binaryOp .FloorDiv) (rI CDiv fun i j => .int (i / j)) := opI fun i j _ _ _ _ _ hc q => by
  have h1 : (0 : Int) < j := hc.1
  have h2 : j < 1073741824 := hc.2
  exact floordiv_int (by omega) (by rw [Int.fdiv_eq_ediv_of_nonneg i (by omega)]; exact q) (.inl (PyProof.noPylong_small (by omega)))
/-- % by a positive divisor of any size -/
theorem op_mod : OpR X (binaryOp .Mod) (rI (fun _ j => 0 < j) fun i j => .int (i % j)) := opI fun i j _ _ _ _ _ hc q => by
  have h1 : (0 : Int) < j := hc
  exact mod_int' (by omega) (by rw [Int.fmod_eq_emod_of_nonneg i (by omega)]; exact q)
theorem op_pow : OpR X (binaryOp .Pow) (rI CPow fun i j => .int (i ^ j.toNat)) := opI fun _ _ _ _ _ _ _ hc q => pow_int_small hc.1 hc.2.1 hc.2.2 q
theorem op_shl : OpR X (binaryOp .LShift) (rI CPow fun i j => .int (i * 2 ^ j.toNat)) := opI fun _ _ _ _ _ _ _ hc q => lshift_int_small hc.1 hc.2.1 hc.2.2 q
theorem op_shr : OpR X (binaryOp .RShift) (rI (fun _ j => 0 ≤ j) fun i j => .int (i / 2 ^ j.toNat)) := opI fun i j _ _ _ _ _ hc q =>
  rshift_int hc (by rw [Int.fdiv_eq_ediv_of_nonneg i (two_pow_nn _)]; exact q)
theorem op_and : OpR X (binaryOp .BitAnd) (rI0 fun i j => .int (Builtin.bitAnd i j)) := opI0 fun _ _ _ _ _ _ _ q => and_int q
theorem op_or : OpR X (binaryOp .BitOr) (rI0 fun i j => .int (Builtin.bitOr i j)) := opI0 fun _ _ _ _ _ _ _ q => or_int q
theorem op_xor : OpR X (binaryOp .BitXor) (rI0 fun i j => .int (Builtin.bitXor i j)) := opI0 fun _ _ _ _ _ _ _ q => xor_int q

/-! ### bools among ints: n += (a < b) -/
end

/-! ### comparisons -/
section
variable {X : Cx} {a b c : Expr} {ta tb tc : TE} {pos : Pos}
theorem fin_bl {pins : List (Addr × Obj)} {σ : St} {H : Hp} {s : Shared} {Q : VK} {k k' : Bool} (I : Inv X pins σ H s) (q : Q (.bl k) H) (e : k = k') : EP X pins σ Q (.bool k') s := by
  subst e
  exact ⟨.bl k, H, I, rfl, q⟩
theorem op_lt : OpR X (compareOp .Lt) (rI0 fun i j => .bl (decide (i < j))) := opB0 fun _ _ _ _ _ _ _ q => lt_int q
theorem op_le : OpR X (compareOp .LtE) (rI0 fun i j => .bl (decide (i ≤ j))) := opB0 fun _ _ _ _ _ _ _ q => le_int q
theorem op_gt : OpR X (compareOp .Gt) (rI0 fun i j => .bl (decide (j < i))) := opB0 fun _ _ _ _ _ _ _ q => gt_int q
theorem op_ge : OpR X (compareOp .GtE) (rI0 fun i j => .bl (decide (j ≤ i))) := opB0 fun _ _ _ _ _ _ _ q => ge_int q
/-- is None, is not None: the right side a value none -/
theorem op_isN : OpR X (compareOp .Is) (fun x y H Q => y = .non ∧ Q (.bl (decide (x = .non))) H) := by
  intro pins s σ H x y v u Q I rx ry h
  obtain ⟨rfl, q⟩ := h
  cases ry
  refine is_none_gen (fin_bl I q ?_)
  cases x <;> first
    | (cases rx; rfl)
    | (obtain ⟨t, rfl⟩ := rx; rfl)
theorem op_notN : OpR X (compareOp .IsNot) (fun x y H Q => y = .non ∧ Q (.bl (!decide (x = .non))) H) := by
  intro pins s σ H x y v u Q I rx ry h
  obtain ⟨rfl, q⟩ := h
  cases ry
  refine isnot_none_gen (fin_bl I q ?_)
  cases x <;> first
    | (cases rx; rfl)
    | (obtain ⟨t, rfl⟩ := rx; rfl)

/-- two rules for one operation: by cases -/
theorem OpR.or {f : Value → Value → Sem Value} {r r' : R2} (h : OpR X f r) (h' : OpR X f r') : OpR X f (fun x y H Q => r x y H Q ∨ r' x y H Q) := by
  intro pins s σ H x y v u Q I rx ry q
  rcases q with q | q
  · exact h pins s σ H x y v u Q I rx ry q
  · exact h' pins s σ H x y v u Q I rx ry q

theorem nomark (b : Expr) {op : CmpOp} (h : op ≠ .In := by decide) (h2 : op ≠ .NotIn := by decide) : behindInMarks op b = false := by
  have e1 : (op == CmpOp.In) = false := by cases op <;> first | rfl | exact absurd rfl h
  have e2 : (op == CmpOp.NotIn) = false := by cases op <;> first | rfl | exact absurd rfl h2
  cases b <;> simp [behindInMarks, e1, e2]
/-- a comparison as a value; hm: nomark b, or (for in, not in) by with_unfolding_all rfl -/
theorem pe_cmpR {op : CmpOp} {r : R2} (ho : OpR X (compareOp op) r) (ha : PE X a ta) (hb : PE X b tb) (hm : behindInMarks op b = false) : PE X (.Compare a [op] [b] pos) (tOp r ta tb) := by
  intro pins s σ H Q I h
  exact wpAny_Compare1 (binT ha hb I h fun v u s2 x y H2 I2 rx ry q => ho pins s2 σ H2 x y v u Q I2 rx ry q) hm
/-- a reading of a value as a test -/
def tTest (t : TE) : TT := fun σ H Q => t σ H fun x H' => ∃ k, x = .bl k ∧ Q k H'
theorem pt_cmpR {op : CmpOp} {r : R2} (ho : OpR X (compareOp op) r) (ha : PE X a ta) (hb : PE X b tb) (hm : behindInMarks op b = false) : PT X (.Compare a [op] [b] pos) (tTest (tOp r ta tb)) := by
  intro pins s σ H Q I h
  refine wpAny_isTrue_Compare1 (thn (ha pins s σ H _ I h) fun v s1 ⟨x, H1, I1, r1, q1⟩ => thn (hb pins s1 σ H1 _ I1 q1) fun u s2 ⟨y, H2, I2, r2, q2⟩ =>
    thn (ho pins s2 σ H2 x y v u _ I2 r1 r2 q2) fun c s3 ⟨z, H3, I3, r3, k, e, q3⟩ => ?_) hm
  subst e
  cases r3
  exact wpAny_truthy_bool ⟨H3, I3, q3⟩
/-! ### truth -/
/-- a value's truth by the abstract heap -/
def TruV (K : PySem.W.Frag) (x : V) (H : Hp) (k : Bool) : Prop :=
  match x with
  | .non => k = false
  | .bl b => k = b
  | .int i => k = (i != 0)
  | .str y => y.length ≤ sizeLine ∧ k = ((y.length : Int) != 0)
  | .byt y => y.size ≤ sizeLine ∧ k = ((y.size : Int) != 0)
  | .ref p => (∃ xs, SqL K H p xs ∧ k = !xs.isEmpty) ∨ (∃ xs, SqT K H p xs ∧ k = !xs.isEmpty) ∨ ∃ kvs, H p = some (.dK kvs) ∧ k = !kvs.isEmpty
  | _ => False
theorem isEmpty_kv {κ : Type} {kvs : List (κ × V)} {vs : List (κ × Value)} (r : KV kvs vs) : (!vs.isEmpty) = !kvs.isEmpty := by
  cases r <;> rfl
theorem isEmpty_of {xs : List V} {its : List Value} (r : Vals xs its) : (!its.toArray.isEmpty) = !xs.isEmpty := by
  cases r <;> simp
theorem line63 : (sizeLine : Nat) < 2 ^ 63 := by rw [sizeLine_eq]; decide
theorem tru_ok : TruR X (fun x H Q => ∃ k, TruV X.K x H k ∧ Q k H) := by
  intro pins s σ H x v Q I rx h
  obtain ⟨k, e, q⟩ := h
  have hl := line63
  have hs : sizeLine = 16777216 := sizeLine_eq
  cases x with
  | non =>
    cases rx
    have e' : k = false := e
    subst e'
    exact truthy_none ⟨H, I, q⟩
  | bl b =>
    cases rx
    have e' : k = b := e
    subst e'
    exact wpAny_truthy_bool ⟨H, I, q⟩
  | int i =>
    obtain ⟨t, rfl⟩ := rx
    have e' : k = (i != 0) := e
    subst e'
    exact PySem.P.truthy_int ⟨H, I, q⟩
  | str y =>
    obtain ⟨t, rfl⟩ := rx
    obtain ⟨hy, e'⟩ : y.length ≤ sizeLine ∧ k = ((y.length : Int) != 0) := e
    subst e'
    exact PySem.P.truthy_str (by omega) ⟨H, I.tok _, q⟩
  | byt y =>
    obtain ⟨t, rfl⟩ := rx
    obtain ⟨hy, e'⟩ : y.size ≤ sizeLine ∧ k = ((y.size : Int) != 0) := e
    subst e'
    exact PySem.W.truthy_bytes (by omega) ⟨H, I.tok _, q⟩
  | ref p =>
    cases rx
    have e' : (∃ xs, SqL X.K H p xs ∧ k = !xs.isEmpty) ∨ (∃ xs, SqT X.K H p xs ∧ k = !xs.isEmpty) ∨ ∃ kvs, H p = some (.dK kvs) ∧ k = !kvs.isEmpty := e
    rcases e' with ⟨xs, hx, e'⟩ | ⟨xs, hx, e'⟩ | ⟨kvs, hx, e'⟩
    · subst e'
      obtain ⟨its, r, pl, hz⟩ := I.list hx
      have hlen := r.length
      exact wpAny_truthy_list pl.isList (by simp only [List.size_toArray]; omega) ⟨H, I.tok _, by rw [isEmpty_of r]; exact q⟩
    · subst e'
      obtain ⟨its, r, pl, hz⟩ := I.tuple hx
      have hlen := r.length
      exact truthy_tuple pl (by simp only [List.size_toArray]; omega) ⟨H, I.tok _, by rw [isEmpty_of r]; exact q⟩
    · subst e'
      obtain ⟨hz, hS, vs, r, m⟩ : kvs.length ≤ sizeLine ∧ (p == sysModules) = false ∧ ∃ vs, KV kvs vs ∧ s.heap.DictOf (mixKind X.prog X.w) p vs := I.hok p _ hx
      have hlen : kvs.length = vs.length := Paired.length r
      exact wpAny_truthy_dict hS m (by omega) ⟨H, I.tok _, by rw [isEmpty_kv r]; exact q⟩
  | _ => exact (show False from e).elim
/-- any expression whose test is its value's truth (a name, a call, a subscript, a field ..: he by fun _ => rfl) -/
theorem pt_truth (ha : PE X a ta) (he : ∀ whole, isTrue a X.env whole = (do let v ← whole; standAt a.pos; holding [v] (truthy v))) :
    PT X a (fun σ H Q => ta σ H fun x H' => ∃ k, TruV X.K x H' k ∧ Q k H') := by
  intro pins s σ H Q I h
  exact isTrue_plain (thn (ha pins s σ H _ I h) fun v s1 ⟨x, H1, I1, r1, q1⟩ => tru_ok pins s1 σ H1 x v Q I1 r1 q1) (he _)

/-! ### strs and bytes -/
theorem op_add_str : OpR X (binaryOp .Add) (fun x y H Q => ∃ i j, x = .str i ∧ y = .str j ∧ i.length + j.length ≤ sizeLine ∧ Q (.str (i ++ j)) H) := by
  intro pins s σ H x y v u Q I rx ry h
  obtain ⟨i, j, rfl, rfl, hz, q⟩ := h
  obtain ⟨t, rfl⟩ := rx
  obtain ⟨t', rfl⟩ := ry
  exact add_str (fun t' tk => ⟨.str (i ++ j), H, I.tok _, ⟨_, rfl⟩, q⟩) hz
/-! ### scalar builtins, by CallR -/
theorem vals1 {x : V} {us : List Value} (r : Vals [x] us) : ∃ u, us = [u] ∧ RelV x u := by
  cases r with
  | cons r1 r2 => cases r2; exact ⟨_, rfl, r1⟩
theorem vals2 {x y : V} {us : List Value} (r : Vals [x, y] us) : ∃ u w', us = [u, w'] ∧ RelV x u ∧ RelV y w' := by
  cases r with
  | cons r1 r2 =>
    cases r2 with
    | cons r3 r4 => cases r4; exact ⟨_, _, rfl, r1, r3⟩
theorem call_max2 (hc : X.calm = true) : CallR X (.builtin "max") (fun xs H Q => ∃ i j, xs = [.int i, .int j] ∧ Q (.int (if j > i then j else i)) H) := by
  intro pins s σ H xs us Q I r h
  obtain ⟨i, j, rfl, q⟩ := h
  obtain ⟨u, w', rfl, ⟨t, rfl⟩, ⟨t', rfl⟩⟩ := vals2 r
  refine max_two_ints (I.ok.hd hc) fun h' tk k => ⟨_, H, I.kept k, ?_, q⟩
  by_cases hj : j > i
  · rw [if_pos hj, if_pos hj]; exact ⟨_, rfl⟩
  · rw [if_neg hj, if_neg hj]; exact ⟨_, rfl⟩
theorem call_min2 (hc : X.calm = true) : CallR X (.builtin "min") (fun xs H Q => ∃ i j, xs = [.int i, .int j] ∧ Q (.int (if j < i then j else i)) H) := by
  intro pins s σ H xs us Q I r h
  obtain ⟨i, j, rfl, q⟩ := h
  obtain ⟨u, w', rfl, ⟨t, rfl⟩, ⟨t', rfl⟩⟩ := vals2 r
  refine min_two_ints (I.ok.hd hc) fun h' tk k => ⟨_, H, I.kept k, ?_, q⟩
  by_cases hj : j < i
  · rw [if_pos hj, if_pos hj]; exact ⟨_, rfl⟩
  · rw [if_neg hj, if_neg hj]; exact ⟨_, rfl⟩
end
end L2

namespace L2
open PySem PySem.Spec PyProof.Rows

/-! ### an instance, its attributes a map -/
structure ObjM (h : Heap) (x dx C : Addr) (mA : Str → Option Value) : Prop where
  obj : h.get? x = some (PySem.W.instObj C dx)
  ns : h.Ns1 dx mA
  ne : dx ≠ x

theorem lookIn_ns {h : Heap} {dx : Addr} {mA : Str → Option Value} (n : h.Ns1 dx mA) : ∃ od, h.get? dx = some od ∧ ∀ name, PySem.W.lookIn name od = some (mA name) := by
  obtain ⟨o, es, ep, ho, hd, hk, _, hm⟩ := n
  refine ⟨o, ho, fun name => ?_⟩
  have e := hm name
  unfold nsFind findBy at e
  rw [← Array.find?_toList] at e
  unfold PySem.W.lookIn
  rw [hd]
  dsimp only
  split
  · rename_i y q
    rw [q] at e
    exact congrArg some e
  · rename_i q
    rw [q] at e
    have a : es.toList.any (·.refKey) = false := by
      rw [List.any_eq_false]
      intro y hy
      obtain ⟨z, t, hkey⟩ := hk y (Array.mem_toList_iff.mp hy)
      simp [DictEntry.refKey, hkey]
    have a' : ¬ es.toList.any (·.refKey) = true := by rw [a]; exact Bool.false_ne_true
    rw [if_neg a']
    exact congrArg some e

theorem ObjM.look {h : Heap} {x dx C : Addr} {mA : Str → Option Value} (I : ObjM h x dx C mA) : ∃ od, PySem.W.InstAt h x (PySem.W.instObj C dx) C (some od) ∧ ∀ name, PySem.W.lookIn name od = some (mA name) :=
  let ⟨od, ho, hl⟩ := lookIn_ns I.ns
  ⟨od, ⟨I.obj, rfl, rfl, ho⟩, hl⟩

section
variable {prog : Program} {w : World} {A : Around} {E : Value → Shared → Prop} {s : Shared} {K : PySem.W.Frag} {x dx C f : Addr} {mA : Str → Option Value} {name : Str} {v : Value}

theorem get_map {expr : Bool} {Q : Value → Shared → Prop} (X : K.In s.heap) (I : ObjM s.heap x dx C mA) (hg : PySem.W.plainGet K C name = true) (hh : PySem.W.hasDictIn K C = true)
    (ha : PySem.W.findIn K (.ref C) name = some none) (hv : mA name = some v) (hv' : PySem.W.handedIn v = true) (h : Q v { s with toks := s.toks + 1 }) :
    wpAny (model prog w) A (getAttr (.ref x) name expr) Q E s := by
  obtain ⟨od, J, hl⟩ := I.look
  exact PySem.W.get_value X J (PySem.W.plainGet_of hg).1 (PySem.W.findObj_own hh ha rfl (by rw [hl, hv])) hv' h

theorem get_meth {pl : Sem Bool} {Q : Value × List Value → Shared → Prop} (X : K.In s.heap) (I : ObjM s.heap x dx C mA) (hg : PySem.W.plainGet K C name = true)
    (hf : PySem.W.findIn K (.ref C) name = some (some (.ref f))) (ht : PySem.W.isFn K (.ref f) = true) (hv : mA name = none) (h : Q (.ref f, [.ref x]) s) :
    wpAny (model prog w) A (getMethod (.ref x) name pl) Q E s := by
  obtain ⟨od, J, hl⟩ := I.look
  exact PySem.W.method_fn X J (PySem.W.plainGet_of hg).1 (PySem.W.plainGet_of hg).2 hf (beq_iff_eq.mp ht) (by show (PySem.W.lookIn name od).map (·.isSome) = some false; rw [hl, hv]; rfl) h

theorem set_map {ns : List Str} {Q : Unit → Shared → Prop} (X : K.In s.heap) (I : ObjM s.heap x dx C mA)
    (hs : PySem.W.findIn K (.ref C) "__setattr__" = some (some (.builtin "object.__setattr__"))) (hp : PySem.W.plainOver K C = true) (ht : PySem.W.takerIn K C name = some none) (hh : PySem.W.hasDictIn K C = true)
    (hw : PySem.Within mA ns) (hsz : ns.length ≤ sizeLine)
    (h : ∀ h', ObjM h' x dx C (fun y => if y = name then some v else mA y) → Heap.SameBut dx s.heap h' → Q () { s with heap := h', toks := s.toks + 2 }) :
    wpAny (model prog w) A (setAttr (.ref x) name v) Q E s := by
  obtain ⟨od, J, hl⟩ := I.look
  refine PySem.W.set_plain X J hs (PySem.W.osa_open (s := { s with toks := s.toks + 1 }) (r := none) X J hp ht fun b => ?_)
  obtain ⟨cd, hc, hd'⟩ := PySem.W.any_some hh
  have hx : s.heap.get? x = some ⟨.ref C, some dx, .plain, #[]⟩ := I.obj
  refine wpAny_bind (wpAny_pure (wpAny_bind (wpAny_bind (wpAny_loadPart hx (wpAny_bind (PySem.W.Looks.here (s := { s with toks := s.toks + 1 }) (PySem.W.looks_clsIn X hc) ?_))))))
  rw [hd']
  refine wpAny_pure (a := some dx) (wpAny_bind (wpAny_pure (wpAny_bind ?_)))
  refine wpAny_nsSet1 (s := { s with toks := s.toks + 1 }) I.ns fun h' hn2 hs2 => ?_
  obtain ⟨oD, esD, epD, hoD, hdD, hcD⟩ := hn2.count (PySem.Within.cons name v hw)
  refine wpAny_bind (wpAny_lookBehind hoD (by rw [hdD]; exact pastItsLine_dict (Nat.le_trans hcD (by rw [List.length_cons]; omega))) ?_)
  exact wpAny_pure (h _ ⟨(hs2.2 _ (Ne.symm I.ne)).trans I.obj, hn2, I.ne⟩ hs2)

/-- C(..): the dict at the heap's end, the instance behind it; then its __init__ -/
theorem make_map {R : Result → Shared → Prop} {vs : List Value} {kw : List (Str × Value)} (X : K.In s.heap) (hm : PySem.W.makesIn K C = true)
    (hi : PySem.W.findIn K (.ref C) "__init__" = some (some (.ref f))) (hf : PySem.W.typeIn K (.ref f) = some (.type "function"))
    (h : codeAny (model prog w) (A.under (.builtin "type.__call__" ⟨.ref C :: vs, kw⟩)) (.call (.ref f) ⟨.ref (s.heap.objs.size + 1) :: vs, kw⟩) (PySem.W.InitBack (s.heap.objs.size + 1) R)
      { s with heap := (s.heap.push PySem.W.emptyDict).push (PySem.W.instObj C s.heap.objs.size) }) :
    codeAny (model prog w) A (.call (.ref C) ⟨vs, kw⟩) R s := by
  obtain ⟨hh, g, d, t, os⟩ := s
  exact PySem.W.make_core (PySem.W.makes_of X hm) (PySem.W.looks_findIn X hi) (fun self => PySem.W.bind_fn X self hf) (.inl rfl) h
end

/-! ### the attributes as a list of pairs -/
def putF (f : Str) (v : V) : List (Str × V) → List (Str × V)
  | [] => [(f, v)]
  | (g, x) :: r => if g = f then (g, v) :: r else (g, x) :: putF f v r
theorem lookup_putF (f g : Str) (v : V) : ∀ fs : List (Str × V), (putF f v fs).lookup g = if g = f then some v else fs.lookup g
  | [] => by
    show List.lookup g [(f, v)] = _
    by_cases h : g = f
    · have hb : (g == f) = true := beq_iff_eq.mpr h
      simp only [List.lookup, hb, if_pos h]
    · have hb : (g == f) = false := beq_eq_false_iff_ne.mpr h
      simp only [List.lookup, hb, if_neg h]
  | (k, x) :: r => by
    have ih := lookup_putF f g v r
    rw [show putF f v ((k, x) :: r) = (if k = f then (k, v) :: r else (k, x) :: putF f v r) from rfl]
    by_cases hk : k = f
    · rw [if_pos hk]
      by_cases h : g = k
      · have hb : (g == k) = true := beq_iff_eq.mpr h
        simp only [List.lookup, hb, if_pos (h.trans hk)]
      · have hb : (g == k) = false := beq_eq_false_iff_ne.mpr h
        simp only [List.lookup, hb, if_neg (fun e : g = f => h (e.trans hk.symm))]
    · rw [if_neg hk]
      by_cases h : g = k
      · have hb : (g == k) = true := beq_iff_eq.mpr h
        simp only [List.lookup, hb, if_neg (fun e : g = f => hk (h.symm.trans e))]
      · have hb : (g == k) = false := beq_eq_false_iff_ne.mpr h
        simp only [List.lookup, hb]
        exact ih
theorem keys_putF (f : Str) (v : V) : ∀ fs : List (Str × V), f ∈ (putF f v fs).map (·.1) ∧ ∀ g, g ∈ fs.map (·.1) → g ∈ (putF f v fs).map (·.1)
  | [] => ⟨by simp [putF], fun g h => by simp at h⟩
  | (k, x) :: r => by
    obtain ⟨i1, i2⟩ := keys_putF f v r
    rw [show putF f v ((k, x) :: r) = (if k = f then (k, v) :: r else (k, x) :: putF f v r) from rfl]
    by_cases hk : k = f
    · rw [if_pos hk]
      subst hk
      exact ⟨by simp, fun g h => by simpa using h⟩
    · rw [if_neg hk]
      refine ⟨?_, fun g h => ?_⟩
      · rw [List.map_cons]
        exact List.mem_cons_of_mem _ i1
      · rw [List.map_cons] at h ⊢
        rcases List.mem_cons.mp h with e | e
        · exact List.mem_cons.mpr (.inl e)
        · exact List.mem_cons_of_mem _ (i2 g e)
theorem length_putF (f : Str) (v : V) : ∀ fs : List (Str × V), (putF f v fs).length ≤ fs.length + 1
  | [] => by simp [putF]
  | (k, x) :: r => by
    have ih := length_putF f v r
    rw [show putF f v ((k, x) :: r) = (if k = f then (k, v) :: r else (k, x) :: putF f v r) from rfl]
    by_cases hk : k = f
    · rw [if_pos hk, List.length_cons, List.length_cons]; omega
    · rw [if_neg hk, List.length_cons, List.length_cons]; omega

theorem RelO.some_of {v : V} {o : Option Value} (r : RelO (some v) o) : ∃ u, o = some u ∧ RelV v u := by
  cases o with
  | none => exact (show False from r).elim
  | some u => exact ⟨u, rfl, r⟩
theorem RelO.none_of {o : Option Value} (r : RelO none o) : o = none := by
  cases o with
  | none => rfl
  | some u => exact (show False from r).elim
theorem handed_of {v : V} {u : Value} (r : RelV v u) : PySem.W.handedIn u = true := by
  cases v with
  | non => cases (show u = Value.none from r); rfl
  | bl b => cases (show u = Value.bool b from r); rfl
  | int i => obtain ⟨t, e⟩ := (show ∃ t, u = Value.int i t from r); cases e; rfl
  | str x => obtain ⟨t, e⟩ := (show ∃ t, u = Value.str x t from r); cases e; rfl
  | byt b => obtain ⟨t, e⟩ := (show ∃ t, u = Value.bytes b t from r); cases e; rfl
  | flt b => obtain ⟨t, e⟩ := (show ∃ t, u = Value.float b t from r); cases e; rfl
  | ref a => cases (show u = Value.ref a from r); rfl
  | ty n => cases (show u = Value.type n from r); rfl

section
variable {P : Program} {w : World} {H H' : Hp} {h h' : Heap} {a C dx : Addr} {fs fs' : List (Str × V)}
theorem ins_get (hok : HOk P w H h) (e : H a = some (.ins C dx fs)) : ∃ mA, ObjM h a dx C mA ∧ (∀ f, RelO (fs.lookup f) (mA f)) ∧ PySem.Within mA (fs.map (·.1)) ∧ fs.length ≤ 1000 ∧ H dx = some (.own a) := by
  obtain ⟨d, z, ne, ob, mA, n, r, q⟩ := (show ObjOk P w H h a (.ins C dx fs) from hok a _ e)
  exact ⟨mA, ⟨ob, n, ne⟩, r, q, z, d⟩
end

/-! ### what of the text a class must have -/
structure Cls (K : PySem.W.Frag) (C : Addr) : Prop where
  pg : PySem.W.plainGet K C Str.empty = true
  hd : PySem.W.hasDictIn K C = true
  po : PySem.W.plainOver K C = true
  sa : PySem.W.findIn K (.ref C) "__setattr__" = some (some (.builtin "object.__setattr__"))
theorem Cls.get {K : PySem.W.Frag} {C : Addr} (c : Cls K C) (f : Str) : PySem.W.plainGet K C f = true := c.pg
/-- no class of it has the name -/
def NoAttr (K : PySem.W.Frag) (C : Addr) (f : Str) : Prop := PySem.W.findIn K (.ref C) f = some none
theorem NoAttr.taker {K : PySem.W.Frag} {C : Addr} {f : Str} (n : NoAttr K C f) : PySem.W.takerIn K C f = some none := by
  unfold PySem.W.takerIn
  rw [show PySem.W.findIn K (.ref C) f = some none from n]
  rfl
/-- a constant of the class -/
structure Con (K : PySem.W.Frag) (C : Addr) (f : Str) (v : V) (u : Value) : Prop where
  at_ : PySem.W.findIn K (.ref C) f = some (some u)
  rel : RelV v u
  get : PySem.W.specialIn K u "__get__" = some none
  cp : PySem.W.copiedNames.contains f = false
/-- a method: a plain def of the class or of one above it -/
structure Meth (K : PySem.W.Frag) (C : Addr) (m : Str) (f : Addr) : Prop where
  at_ : PySem.W.findIn K (.ref C) m = some (some (.ref f))
  fn : PySem.W.isFn K (.ref f) = true
  kp : PySem.W.keepIn K (.ref f) = true

section
variable {X : Cx} {pins : List (Addr × Obj)} {σ : St} {H : Hp} {s : Shared} {a C dx : Addr} {fs : List (Str × V)} {f : Str} {v : V} {A : Around} {E : Value → Shared → Prop}

theorem getattr_ok {b : Bool} {Q : Value → Shared → Prop} (I : Inv X pins σ H s) (e : H a = some (.ins C dx fs)) (c : Cls X.K C) (n : NoAttr X.K C f) (l : fs.lookup f = some v)
    (h : ∀ u s', Inv X pins σ H s' → RelV v u → Q u s') : wpAny (model X.prog X.w) A (getAttr (.ref a) f b) Q E s := by
  obtain ⟨mA, O, r, _, _, _⟩ := ins_get I.hok e
  obtain ⟨u, hu, ru⟩ := RelO.some_of (v := v) (o := mA f) (by rw [← l]; exact r f)
  exact get_map I.kIn O (c.get f) c.hd n hu (handed_of ru) (h u _ (I.tok _) ru)

theorem getmeth_ok {m : Str} {g : Addr} {pl : Sem Bool} {Q : Value × List Value → Shared → Prop} (I : Inv X pins σ H s) (e : H a = some (.ins C dx fs)) (c : Cls X.K C) (k : Meth X.K C m g) (l : fs.lookup m = none)
    (h : Q (.ref g, [.ref a]) s) : wpAny (model X.prog X.w) A (getMethod (.ref a) m pl) Q E s := by
  obtain ⟨mA, O, r, _, _, _⟩ := ins_get I.hok e
  have hn : mA m = none := RelO.none_of (by rw [← l]; exact r m)
  exact get_meth I.kIn O (c.get m) k.at_ k.fn hn h

theorem setattr_ok {y : V} {u : Value} {Q : Unit → Shared → Prop} (I : Inv X pins σ H s) (e : H a = some (.ins C dx fs)) (c : Cls X.K C) (n : NoAttr X.K C f) (hl : fs.length < 1000) (ry : RelV y u)
    (h : ∀ s', Inv X pins σ (upd H a (.ins C dx (putF f y fs))) s' → Q () s') : wpAny (model X.prog X.w) A (setAttr (.ref a) f u) Q E s := by
  obtain ⟨mA, O, r, wi, _, ho⟩ := ins_get I.hok e
  have hz : (fs.map (·.1)).length ≤ sizeLine := by rw [List.length_map, sizeLine_eq]; omega
  refine set_map I.kIn O c.sa c.po n.taker c.hd wi hz fun h' O' sb => h _ ?_
  have hd : ∃ o, h'.get? dx = some o := let ⟨o, _, _, e', _⟩ := O'.ns; ⟨o, e'⟩
  refine I.write (x := a) (e := dx) (by rw [e]; exact True.intro) (.inr ho) (fun b q hb z => (sb.2 b hb).trans z) hd ?_
  refine ⟨by rw [upd_ne O.ne]; exact ho, ?_, O.ne, O'.obj, _, O'.ns, fun g => ?_, fun g hg => ?_⟩
  · have := length_putF f y fs; omega
  · show RelO ((putF f y fs).lookup g) (if g = f then some u else mA g)
    rw [lookup_putF]
    by_cases q : g = f
    · rw [if_pos q, if_pos q]; exact ry
    · rw [if_neg q, if_neg q]; exact r g
  · by_cases q : g = f
    · rw [q]; exact (keys_putF f y fs).1
    · refine (keys_putF f y fs).2 g (wi g fun z => hg ?_)
      show (if g = f then some u else mA g) = none
      rw [if_neg q]; exact z

/-- a new instance, tracked, without attributes -/
theorem Inv.made (I : Inv X pins σ H s) : Inv X pins σ (upd (upd H s.heap.objs.size (.own (s.heap.objs.size + 1))) (s.heap.objs.size + 1) (.ins C s.heap.objs.size []))
    { s with heap := (s.heap.push PySem.W.emptyDict).push (PySem.W.instObj C s.heap.objs.size) } := by
  have e1 : (s.heap.push PySem.W.emptyDict).get? s.heap.objs.size = some PySem.W.emptyDict := Heap.get?_push_size s.heap rfl
  have e2 : ((s.heap.push PySem.W.emptyDict).push (PySem.W.instObj C s.heap.objs.size)).get? (s.heap.objs.size + 1) = some (PySem.W.instObj C s.heap.objs.size) := by
    have := Heap.get?_push_size (s.heap.push PySem.W.emptyDict) (o := PySem.W.instObj C s.heap.objs.size) rfl
    rwa [Heap.size_push] at this
  have e3 : (s.heap.push PySem.W.emptyDict).Ns s.heap.objs.size (fun _ => none) := ⟨PySem.W.emptyDict, #[], _, e1, rfl, (fun e he => absurd he (by simp)), fun _ => rfl⟩
  have I1 := I.laid (a := s.heap.objs.size) (o := .own (s.heap.objs.size + 1)) (h' := s.heap.push PySem.W.emptyDict) (t' := s.toks) (fun b u q => Heap.get?_push_of_some _ q) (Nat.le_refl _) ⟨_, e1⟩
  refine I1.laid (a := s.heap.objs.size + 1) (o := .ins C s.heap.objs.size []) (t' := s.toks) (fun b u q => Heap.get?_push_of_some _ q) (Nat.le_of_eq (Heap.size_push _ _)) ?_
  have ne : s.heap.objs.size ≠ s.heap.objs.size + 1 := Nat.ne_of_lt (Nat.lt_succ_self _)
  refine ⟨by rw [upd_ne ne, upd_same], Nat.zero_le _, ne, e2, fun _ => none, (Heap.Ns1.of_empty e3).at fun o q => Heap.get?_push_of_some _ q, fun _ => True.intro, fun y hy => absurd rfl hy⟩

/-- e.f where nothing but the object is asked: through attributeBase (super) and the last hold -/
theorem attr_of {prog : Program} {w : World} {env : Env} {e : Expr} {f : Str} {pos : Pos} {s : Shared} {Q : Value → Shared → Prop} (hb : attributeBase e f env (eval e env) = eval e env)
    (h : wpAny (model prog w) A (eval e env) (fun o s₁ => wpAny (model prog w) A (getAttr o f true) Q E s₁) E s) : wpAny (model prog w) A (eval (.Attribute e f pos) env) Q E s :=
  Attribute_any_ h (by rw [arm_eval_Attribute, hb])
end

/-! ### readings and rules -/
/-- e.f, an attribute of the instance -/
def tFld (K : PySem.W.Frag) (ta : TE) (f : Str) : TE := fun σ H Q => ta σ H fun x H1 => ∃ a C dx fs v, x = .ref a ∧ H1 a = some (.ins C dx fs) ∧ Cls K C ∧ NoAttr K C f ∧ fs.lookup f = some v ∧ Q v H1
/-- e.f = value -/
def sFld (K : PySem.W.Frag) (ta tv : TE) (f : Str) : TS := fun D σ H => tv σ H fun y H1 => ta σ H1 fun x H2 => ∃ a C dx fs, x = .ref a ∧ H2 a = some (.ins C dx fs) ∧ Cls K C ∧ NoAttr K C f ∧ fs.length < 1000 ∧
  D.nx σ (upd H2 a (.ins C dx (putF f y fs)))
section
variable {X : Cx} {o e value : Expr} {f : Str} {pos pos' tpos : Pos} {ta tv : TE}
theorem pe_fld (he : PE X e ta) (hb : attributeBase e f X.env (eval e X.env) = eval e X.env) : PE X (.Attribute e f pos) (tFld X.K ta f) := by
  intro pins s σ H Q I h
  refine attr_of hb (thn (he pins s σ H _ I h) fun u s1 ⟨x, H1, I1, rx, a, C, dx, fs, v, ex, ea, c, n, l, q⟩ => ?_)
  subst ex
  obtain rfl : u = Value.ref a := rx
  exact getattr_ok I1 ea c n l fun u' s2 I2 ru => ⟨v, H1, I2, ru, q⟩
theorem ps_fld (ha : PE X o ta) (hv : PE X value tv) (hs : swapsWith value (some (.Attribute o f pos')) pos.line X.env = pure false) : PS X (.Assign [.Attribute o f pos'] value pos) (sFld X.K ta tv f) := by
  intro pins s σ H D I h
  refine plainObj_wpAny_Assign_Attribute (thn (hv pins s σ H _ I h) fun u s1 ⟨y, H1, I1, ry, q⟩ => thn (ha pins s1 σ H1 _ I1 q) fun ov s2 ⟨x, H2, I2, rx, a, C, dx, fs, ex, ea, c, n, l, q2⟩ => ?_) hs
  subst ex
  obtain rfl : ov = Value.ref a := rx
  exact setattr_ok I2 ea c n l ry fun s3 I3 => ⟨σ, _, I3, q2⟩
end

/-! ### isinstance -/
section
variable {X : Cx} {pins : List (Addr × Obj)} {σ : St} {H : Hp} {s : Shared} {A : Around} {E : Value → Shared → Prop} {Q : Value → Shared → Prop} {c : Value} {b : Bool}
/-- the type of a value, as the fragment's deciders take it; for an instance its class -/
inductive TyOf (K : PySem.W.Frag) (H : Hp) : V → Value → Prop where
  | non : TyOf K H .non (.type "NoneType")
  | bl (x : Bool) : TyOf K H (.bl x) (.type "bool")
  | int (i : Int) : TyOf K H (.int i) (.type "int")
  | str (x : Str) : TyOf K H (.str x) (.type "str")
  | flt (x : UInt64) : TyOf K H (.flt x) (.type "float")
  | lst {a : Addr} {xs : List V} (e : H a = some (.lst xs)) : TyOf K H (.ref a) (.type "list")
  | frz {a : Addr} {o : Obj} {xs : List V} (e : H a = some (.frz o (.lst xs))) : TyOf K H (.ref a) (.type "list")
  | tup {a : Addr} {xs : List V} (e : H a = some (.tup xs)) : TyOf K H (.ref a) (.type "tuple")
  | dK {a : Addr} {kvs : List (Key × V)} (e : H a = some (.dK kvs)) : TyOf K H (.ref a) (.type "dict")
  | dT {a : Addr} {kvs : List (List Key × V)} (e : H a = some (.dT kvs)) : TyOf K H (.ref a) (.type "dict")
  | ins {a C dx : Addr} {fs : List (Str × V)} (e : H a = some (.ins C dx fs)) (cl : Cls K C) (ha : PySem.W.findIn K (.ref C) "__class__" = some (some (.builtin "object.__class__")))
      (hn : PySem.W.specialIn K (.builtin "object.__class__") "__get__" = some (some (.builtin "getset_descriptor.__get__"))) (htk : PySem.W.takesIn K (.builtin "object.__class__") = some true)
      (hm : PySem.W.mroIn K C (.type "object") = some true) : TyOf K H (.ref a) (.ref C)
/-- isinstance(x, c) for one class c, a built-in or an own one: kitOne's answer -/
theorem isinst_ok {x : V} {u t : Value} (I : Inv X pins σ H s) (rx : RelV x u) (ty : TyOf X.K H x t) (e : PySem.W.kitOne X.K t c = some b) (h : ∀ tk, Q (.bool b) { s with toks := tk }) :
    wpAny (model X.prog X.w) A (call (.builtin "isinstance") [u, c]) Q E s := by
  cases ty with
  | non => cases (show u = Value.none from rx); exact PySem.W.kia_one PySem.W.kitx_none I.kIn True.intro e (fun z => nomatch z) h
  | bl y => cases (show u = Value.bool y from rx); exact PySem.W.kia_one PySem.W.kitx_bool I.kIn True.intro e (fun z => nomatch z) h
  | int i => obtain ⟨t, q⟩ := (show ∃ t, u = Value.int i t from rx); cases q; exact PySem.W.kia_one PySem.W.kitx_int I.kIn True.intro e (fun z => nomatch z) h
  | str y => obtain ⟨t, q⟩ := (show ∃ t, u = Value.str y t from rx); cases q; exact PySem.W.kia_one PySem.W.kitx_str I.kIn True.intro e (fun z => nomatch z) h
  | flt y => obtain ⟨t, q⟩ := (show ∃ t, u = Value.float y t from rx); cases q; exact PySem.W.kia_one PySem.W.kitx_float I.kIn True.intro e (fun z => nomatch z) h
  | @lst a xs ea =>
    cases (show u = Value.ref a from rx)
    obtain ⟨_, _, n, _, h1⟩ := (show ObjOk X.prog X.w H s.heap a (.lst xs) from I.hok a _ ea)
    exact PySem.W.kia_one PySem.W.kitx_list I.kIn ⟨_, h1, rfl⟩ e (fun z => nomatch z) h
  | @frz a ob xs ea =>
    cases (show u = Value.ref a from rx)
    obtain ⟨_, _, _, n, _, h1⟩ := (show ObjOk X.prog X.w H s.heap a (.frz ob (.lst xs)) from I.hok a _ ea)
    exact PySem.W.kia_one PySem.W.kitx_list I.kIn ⟨_, h1, rfl⟩ e (fun z => nomatch z) h
  | @tup a xs ea =>
    cases (show u = Value.ref a from rx)
    obtain ⟨_, _, _, p⟩ := (show ObjOk X.prog X.w H s.heap a (.tup xs) from I.hok a _ ea)
    obtain ⟨o, h1, h2, _⟩ := p
    exact PySem.W.kia_one PySem.W.kitx_tuple I.kIn ⟨o, h1, h2⟩ e (fun z => nomatch z) h
  | @dK a kvs ea =>
    cases (show u = Value.ref a from rx)
    obtain ⟨_, _, vs, _, p⟩ := (show ObjOk X.prog X.w H s.heap a (.dK kvs) from I.hok a _ ea)
    obtain ⟨o, es, ep, h1, h2, _⟩ := p
    exact PySem.W.kia_one PySem.W.kitx_dict I.kIn ⟨o, h1, h2.1⟩ e (fun z => nomatch z) h
  | @dT a kvs ea =>
    cases (show u = Value.ref a from rx)
    obtain ⟨_, _, xs, _, o, es, ep, h1, h2, _⟩ := (show ObjOk X.prog X.w H s.heap a (.dT kvs) from I.hok a _ ea)
    exact PySem.W.kia_one PySem.W.kitx_dict I.kIn ⟨o, h1, h2.1⟩ e (fun z => nomatch z) h
  | @ins a C dx fs ea cl ha hn htk hm =>
    cases (show u = Value.ref a from rx)
    obtain ⟨mA, O, _⟩ := ins_get I.hok ea
    obtain ⟨od, J, _⟩ := O.look
    exact PySem.W.kia_one (PySem.W.kitx_own (cl.get _) cl.hd ha hn htk hm) I.kIn J e (fun z => nomatch z) h
end
end L2

namespace L2
open PySem PySem.Spec PyProof.Rows

/-! ### room -/
structure Room (k : Nat) (A : Around) : Prop where
  hd : A.handled = none
  dp : A.depth + 3 * k + 5 < recursionLimit
  un : A.units + 16 * k + 200 < cLine
theorem Room.mono {j k : Nat} {A : Around} (r : Room k A) (h : j ≤ k) : Room j A := ⟨r.hd, by have := r.dp; omega, by have := r.un; omega⟩
theorem Room.deeper {k : Nat} {A : Around} (r : Room (k + 1) A) (env : Env) : Room k (A.deeper env) :=
  ⟨r.hd, by have := r.dp; show A.depth + 1 + 3 * k + 5 < _; omega, by have := r.un; show A.units + 3 + 16 * k + 200 < _; omega⟩
theorem Room.in1 {k : Nat} {A : Around} (r : Room (k + 1) A) : Room k A.in1 :=
  ⟨r.hd, by have := r.dp; show A.depth + 3 * k + 5 < _; omega, by have := r.un; show A.units + 1 + 16 * k + 200 < _; omega⟩
theorem make_depth {A : Around} {C : Addr} {us : List Value} {kw : List (Str × Value)} : (A.under (.builtin "type.__call__" ⟨.ref C :: us, kw⟩)).depth = A.depth + 1 := by
  first | rfl | simp [Around.under, Code.weight, Code.isCreation, Code.isGuard, Code.isCaller, Code.frames, Code.isFrame, guardIds]
theorem make_units {A : Around} {C : Addr} {us : List Value} {kw : List (Str × Value)} : (A.under (.builtin "type.__call__" ⟨.ref C :: us, kw⟩)).units = A.units + 1 := by
  first | rfl | simp [Around.under, Code.cUnits, Code.frames, Code.isFrame]
theorem Room.make {k : Nat} {A : Around} (r : Room (k + 1) A) (C : Addr) (us : List Value) (kw : List (Str × Value)) : Room k (A.under (.builtin "type.__call__" ⟨.ref C :: us, kw⟩)) :=
  ⟨r.hd, by have := r.dp; rw [make_depth]; omega, by have := r.un; rw [make_units]; omega⟩
theorem Room.depth {k : Nat} {A : Around} (r : Room k A) : A.depth < recursionLimit := by have := r.dp; omega
theorem Room.units {k : Nat} {A : Around} (r : Room k A) : A.units + 64 < cLine := by have := r.un; omega
/-! ### argument lists and displays -/
def tNil : TA := fun _ H Q => Q [] H
def tCons (ta : TE) (tr : TA) : TA := fun σ H Q => ta σ H fun x H1 => tr σ H1 fun xs H2 => Q (x :: xs) H2
section
variable {X : Cx} {e : Expr} {es : List Expr} {te : TE} {t : TA} {pos : Pos}
theorem pa_nil : PA X [] tNil := fun _ _ _ _ H Q I h => Calls.spliced_nil ⟨[], H, I, .nil, h⟩
theorem pa_cons (ha : PE X e te) (hr : PA X es t) (hs : starEach (e :: es) X.env = (false, eval e X.env) :: starEach es X.env := by rfl) : PA X (e :: es) (tCons te t) := by
  intro pos pins s σ H Q I h
  rw [hs]
  show wpAny _ _ (spliced ((false, eval e X.env) :: backTo pos (starEach es X.env))) _ _ s
  refine Calls.spliced_cons (thn (ha pins s σ H _ I h) fun u s1 ⟨x, H1, I1, r1, q1⟩ => ?_)
  exact thn (hr pos pins s1 σ H1 _ I1 q1) fun us s2 ⟨xs, H2, I2, r2, q2⟩ => ⟨x :: xs, H2, I2, .cons r1 r2, q2⟩

/-- a tuple, a list of written items -/
def tTup (t : TA) : TE := fun σ H Q => t σ H fun xs H1 => xs.length ≤ sizeLine ∧ ∀ p, H1 p = none → Q (.ref p) (upd H1 p (.tup xs))
def tLst (t : TA) : TE := fun σ H Q => t σ H fun xs H1 => xs.length ≤ sizeLine ∧ ∀ p, H1 p = none → Q (.ref p) (upd H1 p (.lst xs))
theorem pe_tup {x1} (h : PA X es t) : PE X (.Tuple es x1 pos) (tTup t) := by
  intro pins s σ H Q I hq
  refine wpAny_Tuple_spliced (thn (h pos pins s σ H _ I hq) fun us s1 ⟨xs, H1, I1, r, z, q⟩ => ⟨by rw [← r.length]; exact z, ?_⟩)
  have hf : H1 s1.heap.objs.size = none := I1.hok.fresh (Nat.le_refl _)
  refine ⟨.ref s1.heap.objs.size, upd H1 s1.heap.objs.size (.tup xs), I1.laid (t' := s1.toks) (fun b u e => Heap.get?_push_of_some _ e) (Nat.le_refl _) ?_, rfl, q _ hf⟩
  exact ⟨z, us, r, ⟨_, Heap.get?_push_size _ rfl, rfl, _, rfl⟩⟩
theorem pe_lst (h : PA X es t) : PE X (.List es pos) (tLst t) := by
  intro pins s σ H Q I hq
  refine wpAny_List_spliced (thn (h pos pins s σ H _ I hq) fun us s1 ⟨xs, H1, I1, r, z, q⟩ => ⟨by rw [← r.length]; exact z, ?_⟩)
  have hf : H1 s1.heap.objs.size = none := I1.hok.fresh (Nat.le_refl _)
  refine ⟨.ref s1.heap.objs.size, upd H1 s1.heap.objs.size (.lst xs), I1.laid (t' := s1.toks) (fun b u e => Heap.get?_push_of_some _ e) (Nat.le_refl _) ?_, rfl, q _ hf⟩
  exact ⟨z, us, 0, r, Heap.get?_push_size _ rfl⟩
end

/-! ### what a def promises -/
/-- a def's promise: the bound arguments in the parameters' order, the heap, the wanted end, the wanted exception -/
abbrev Sp := List V → Hp → VK → XK → Prop
/-- how an exception lies behind a call (file 08 gives it): the callers' frames, abstract heap and state ahead of the call, the wish, the exception, the state -/
abbrev CXT := List Env → Hp → Shared → XK → Value → Shared → Prop

/-- the state at a call -/
structure Env0 (P : Program) (w : World) (K : PySem.W.Frag) (mg : Str → Option Value) (base : Heap) (A : Around) (outer : List Env) (s : Shared) (H : Hp) : Prop where
  frames : A.frames = some outer
  mod : Mod K mg base
  bs : ∀ b o, base.get? b = some o → s.heap.get? b = some o ∧ H b = none
  bsz : base.objs.size ≤ s.heap.objs.size
  funs : s.heap.FunFrames base outer
  frf : ∀ b ∈ frs outer, H b = none
  hok : HOk P w H s.heap
  bare : AllBare s.gens
/-- a call's end -/
def CE (outer : List Env) (P : Program) (w : World) (H : Hp) (s : Shared) (Q : VK) (u : Value) (s' : Shared) : Prop :=
  ∃ v H', s'.os = s.os ∧ AllBare s'.gens ∧ Un (frs outer) [] H H' s.heap s'.heap ∧ HOk P w H' s'.heap ∧ RelV v u ∧ Q v H'
def CR (CX : CXT) (outer : List Env) (P : Program) (w : World) (H : Hp) (s : Shared) (Q : VK) (E : XK) (r : Result) (s' : Shared) : Prop :=
  match r with
  | .ok (.ret u) => CE outer P w H s Q u s'
  | .ok _ => False
  | .error e => CX outer H s E e s'
structure FnOk (P : Program) (w : World) (K : PySem.W.Frag) (mg : Str → Option Value) (base : Heap) (CX : CXT) (k : Nat) (f : Addr) (fd : FuncData) (ps : List Str) (sp : Sp) : Prop where
  len : ∀ vs H Q E, sp vs H Q E → vs.length = ps.length
  run : ∀ (A : Around) (outer : List Env) (s : Shared) (H : Hp) (args : Args) (us : List Value) (vs : List V) (Q : VK) (E : XK), Room k A → Env0 P w K mg base A outer s H → BindsTo s fd args (ps.zip us) → Vals vs us → sp vs H Q E →
    codeAny (model P w) A (.call (.ref f) args) (CR CX outer P w H s Q E) s
theorem FnOk.mono {P : Program} {w : World} {K : PySem.W.Frag} {mg : Str → Option Value} {base : Heap} {CX : CXT} {j k : Nat} {f : Addr} {fd : FuncData} {ps : List Str} {sp : Sp} (F : FnOk P w K mg base CX j f fd ps sp) (h : j ≤ k) :
    FnOk P w K mg base CX k f fd ps sp := ⟨F.len, fun A outer s H args us vs Q E hr => F.run A outer s H args us vs Q E (hr.mono h)⟩
/-- a weaker promise -/
theorem FnOk.imp {P : Program} {w : World} {K : PySem.W.Frag} {mg : Str → Option Value} {base : Heap} {CX : CXT} {k : Nat} {f : Addr} {fd : FuncData} {ps : List Str} {sp sp' : Sp} (F : FnOk P w K mg base CX k f fd ps sp)
    (h : ∀ vs H Q E, sp' vs H Q E → sp vs H Q E) : FnOk P w K mg base CX k f fd ps sp' :=
  ⟨fun vs H Q E q => F.len vs H Q E (h _ _ _ _ q), fun A outer s H args us vs Q E hr he hb hv hs => F.run A outer s H args us vs Q E hr he hb hv (h _ _ _ _ hs)⟩

theorem Env0.make {P : Program} {w : World} {K : PySem.W.Frag} {mg : Str → Option Value} {base : Heap} {A : Around} {outer : List Env} {s : Shared} {H : Hp} (e : Env0 P w K mg base A outer s H) (C : Addr) (us : List Value) (kw : List (Str × Value)) :
    Env0 P w K mg base (A.under (.builtin "type.__call__" ⟨.ref C :: us, kw⟩)) outer s H := ⟨by first | exact e.frames | (simpa [Around.under, Code.envs, Code.isFrame, pushEnvs] using e.frames), e.mod, e.bs, e.bsz, e.funs, e.frf, e.hok, e.bare⟩
theorem Env0.in1 {P : Program} {w : World} {K : PySem.W.Frag} {mg : Str → Option Value} {base : Heap} {A : Around} {outer : List Env} {s : Shared} {H : Hp} (e : Env0 P w K mg base A outer s H) :
    Env0 P w K mg base A.in1 outer s H := ⟨e.frames, e.mod, e.bs, e.bsz, e.funs, e.frf, e.hok, e.bare⟩

section
variable {X : Cx} {pins : List (Addr × Obj)} {σ : St} {H : Hp} {s s' : Shared}
/-- from a body: what a callee wants -/
theorem Inv.env0 (I : Inv X pins σ H s) : Env0 X.prog X.w X.K X.mg X.base X.A X.stack s H :=
  ⟨I.ok.frames, I.ok.mod, I.bs, Nat.le_trans I.ok.bsz I.sz, I.stack, I.stkFree, I.hok, I.bare⟩
/-- behind a call -/
theorem Inv.after {Q : VK} {u : Value} (I : Inv X pins σ H s) (h : CE X.stack X.prog X.w H s Q u s') : EP X pins σ Q u s' := by
  obtain ⟨v, H', os, bare, un, hok, r, q⟩ := h
  obtain ⟨hh, g, d, t, os'⟩ := s'
  obtain rfl : os' = s.os := os
  exact ⟨v, H', I.call (h' := hh) (g' := g) (d' := d) (t' := t) (ch := []) un hok bare (fun b z => absurd z (by simp)), r, q⟩
end

/-! ### calls -/
/-- f(..): the written arguments, then the defaults dvs; E: what is wanted of an exception -/
def tCall (sp : Sp) (dvs : List V) (E : XK) (t : TA) : TE := fun σ H Q => t σ H fun vs H1 => sp (vs ++ dvs) H1 Q E
/-- C(..): a new instance and its dict, then __init__ -/
def tMake (C : Addr) (sp : Sp) (dvs : List V) (E : XK) (t : TA) : TE := fun σ H Q => t σ H fun vs H1 => ∀ x dx, H1 x = none → H1 dx = none → dx ≠ x →
  sp (.ref x :: (vs ++ dvs)) (upd (upd H1 dx (.own x)) x (.ins C dx [])) (fun v H2 => v = .non ∧ Q (.ref x) H2) E

/-- how the parameters are bound: us the positional arguments, kw the keywords' values by name, ds the defaults that fill up -/
def Binds (K : PySem.W.Frag) (fd : FuncData) (ps : List Str) (ds : List Value) : Prop :=
  ∀ (s : Shared) (us : List Value), K.In s.heap → (us ++ ds).length = ps.length → BindsTo s fd ⟨us, []⟩ (ps.zip (us ++ ds))
/-- every parameter is given -/
theorem Binds.all {K : PySem.W.Frag} {fd : FuncData} {ps : List Str} (h : ∀ us : List Value, us.length = ps.length → bindArgs fd ⟨us, []⟩ = pure (ps.zip us)) : Binds K fd ps [] := fun s us _ hl => by
  rw [List.append_nil] at hl ⊢
  exact .of_eq (h us hl)

/-- an exception of a callee reaches what this body wants of exceptions -/
def Passes (CX : CXT) (X : Cx) (E : XK) : Prop := ∀ (pins : List (Addr × Obj)) (σ : St) (H : Hp) (s : Shared) (e : Value) (s' : Shared), Inv X pins σ H s → CX X.stack H s E e s' → X.xe e s'

section
variable {X : Cx} {CX : CXT} {k : Nat} {f C : Addr} {fd : FuncData} {ps : List Str} {sp : Sp} {dvs : List V} {ds : List Value} {E : XK} {x m : Str} {p pos apos : Pos} {e o : Expr} {es : List Expr} {ta : TE} {t : TA}

/-- the callee runs -/
theorem run_fn {pins : List (Addr × Obj)} {σ : St} {H : Hp} {s : Shared} {Q : VK} {us : List Value} {vs : List V} (F : FnOk X.prog X.w X.K X.mg X.base CX k f fd ps sp) (hr : Room k X.A) (hb : Binds X.K fd ps ds) (hd : Vals dvs ds) (hx : Passes CX X E)
    (I : Inv X pins σ H s) (r : Vals vs us) (h : sp (vs ++ dvs) H Q E) : wpAny (model X.prog X.w) X.A (call (.ref f) us) (EP X pins σ Q) X.xe s := by
  have r2 : Vals (vs ++ dvs) (us ++ ds) := r.append hd
  have hl : (us ++ ds).length = ps.length := by rw [← r2.length]; exact F.len _ _ _ _ h
  refine wpAny_call (codeAny_mono (F.run X.A X.stack s H ⟨us, []⟩ (us ++ ds) (vs ++ dvs) Q E hr I.env0 (hb s us I.kIn hl) r2 h) fun r s' hq => ?_)
  cases r with
  | error e => exact hx pins σ H s e s' I hq
  | ok fl =>
    cases fl with
    | ret u => exact I.after hq
    | next => exact False.elim hq
    | brk => exact False.elim hq
    | cont => exact False.elim hq

theorem pe_call (F : FnOk X.prog X.w X.K X.mg X.base CX k f fd ps sp) (hr : Room k X.A) (hg : Gl X x) (hm : X.mg x = some (.ref f)) (hk : PySem.W.keepIn X.K (.ref f) = true) (hb : Binds X.K fd ps ds) (hd : Vals dvs ds) (hx : Passes CX X E)
    (ha : PA X (e :: es) t) (hdb : (x == ("__debug__" : Str)) = false := by decide) (he : starEach (e :: es) X.env = (false, eval e X.env) :: starEach es X.env := by rfl) (hpl : (backTo pos (starEach es X.env)).any (·.1) = false := by rfl) :
    PE X (.Call (.Name x p) (e :: es) [] pos) (tCall sp dvs E t) := by
  intro pins s σ H Q I h
  refine wpAny_Call_Name_kw (ld_glob I hg hm ?_ hdb)
  refine PySem.W.callWith_K (h₀ := X.base) I.ok.mod.kin hk (thn (ha pos pins s σ H _ I h) fun us s1 ⟨vs, H1, I1, r, q⟩ => ⟨I1.kIn, ?_⟩) he hpl
  exact run_fn F hr hb hd hx I1 r q
/-- what a class must have to be made -/
structure Mk (K : PySem.W.Frag) (C f : Addr) : Prop where
  makes : PySem.W.makesIn K C = true
  init : PySem.W.findIn K (.ref C) "__init__" = some (some (.ref f))
  fn : PySem.W.isFn K (.ref f) = true
  kp : PySem.W.keepIn K (.ref C) = true

theorem run_make {pins : List (Addr × Obj)} {σ : St} {H : Hp} {s : Shared} {Q : VK} {us : List Value} {vs : List V} (M : Mk X.K C f) (F : FnOk X.prog X.w X.K X.mg X.base CX k f fd ps sp) (hr : Room (k + 1) X.A) (hb : Binds X.K fd ps ds) (hd : Vals dvs ds)
    (hx : Passes CX X E) (I : Inv X pins σ H s) (r : Vals vs us)
    (h : ∀ x dx, H x = none → H dx = none → dx ≠ x → sp (.ref x :: (vs ++ dvs)) (upd (upd H dx (.own x)) x (.ins C dx [])) (fun v H2 => v = .non ∧ Q (.ref x) H2) E) :
    wpAny (model X.prog X.w) X.A (call (.ref C) us) (EP X pins σ Q) X.xe s := by
  have hq := h (s.heap.objs.size + 1) s.heap.objs.size (I.hok.fresh (Nat.le_succ _)) (I.hok.fresh (Nat.le_refl _)) (Nat.ne_of_lt (Nat.lt_succ_self _))
  have I2 := Inv.made (C := C) I
  have r2 : Vals (V.ref (s.heap.objs.size + 1) :: (vs ++ dvs)) (Value.ref (s.heap.objs.size + 1) :: (us ++ ds)) := .cons rfl (r.append hd)
  have hl : (Value.ref (s.heap.objs.size + 1) :: us ++ ds).length = ps.length := by
    have e := r2.length
    rw [F.len _ _ _ _ hq] at e
    exact e.symm
  refine wpAny_call (make_map (f := f) I.kIn M.makes M.init (beq_iff_eq.mp M.fn) (codeAny_mono (F.run _ X.stack _ _ ⟨Value.ref (s.heap.objs.size + 1) :: us, []⟩ (Value.ref (s.heap.objs.size + 1) :: (us ++ ds)) _ _ E (hr.make C us [])
    (I2.env0.make C us []) (hb _ (Value.ref (s.heap.objs.size + 1) :: us) I2.kIn hl) r2 hq) fun r s' hq' => ?_))
  cases r with
  | error e => exact hx pins σ _ _ e s' I2 hq'
  | ok fl =>
    cases fl with
    | ret u =>
      obtain ⟨v, H', I3, rv, ev, q3⟩ := I2.after hq'
      subst ev
      exact ⟨rv, ⟨V.ref (s.heap.objs.size + 1), H', I3, rfl, q3⟩⟩
    | next => exact False.elim hq'
    | brk => exact False.elim hq'
    | cont => exact False.elim hq'
theorem pe_make (M : Mk X.K C f) (F : FnOk X.prog X.w X.K X.mg X.base CX k f fd ps sp) (hr : Room (k + 1) X.A) (hg : Gl X x) (hm : X.mg x = some (.ref C)) (hb : Binds X.K fd ps ds) (hd : Vals dvs ds) (hx : Passes CX X E)
    (ha : PA X (e :: es) t) (hdb : (x == ("__debug__" : Str)) = false := by decide) (he : starEach (e :: es) X.env = (false, eval e X.env) :: starEach es X.env := by rfl) (hpl : (backTo pos (starEach es X.env)).any (·.1) = false := by rfl) :
    PE X (.Call (.Name x p) (e :: es) [] pos) (tMake C sp dvs E t) := by
  intro pins s σ H Q I h
  refine wpAny_Call_Name_kw (ld_glob I hg hm ?_ hdb)
  refine PySem.W.callWith_K (h₀ := X.base) I.ok.mod.kin M.kp (thn (ha pos pins s σ H _ I h) fun us s1 ⟨vs, H1, I1, r, q⟩ => ⟨I1.kIn, ?_⟩) he hpl
  exact run_make M F hr hb hd hx I1 r q
end

/-! ### keywords -/
section
variable {X : Cx} {CX : CXT} {k : Nat} {f C : Addr} {fd : FuncData} {ps ks : List Str} {sp : Sp} {E : XK} {x m : Str} {p pos apos kpos : Pos} {e o : Expr} {es : List Expr} {kws : List Keyword} {te ta : TE} {t tk : TA} {nm : Option Str}
/-- how a call with keywords binds: g puts the positional values us and the keywords' values ws (names ks) in the parameters' order, defaults among them -/
structure KBinds (K : PySem.W.Frag) (fd : FuncData) (ps ks : List Str) (g : List Value → List Value → List Value) (gV : List V → List V → List V) : Prop where
  to : ∀ (s : Shared) (us ws : List Value), K.In s.heap → (g us ws).length = ps.length → BindsTo s fd ⟨us, ks.zip ws⟩ (ps.zip (g us ws))
  rel : ∀ {vs : List V} {us : List Value} {zs : List V} {ws : List Value}, Vals vs us → Vals zs ws → Vals (gV vs zs) (g us ws)
variable {g : List Value → List Value → List Value} {gV : List V → List V → List V}
end

/-! ### a def's body keeps its promise -/
/-- names: the parameters first -/
structure FnScope (N P : List Str) (sc : Scope) : Prop where
  kind : sc.kind = .function
  co : sc.isCoroutine = false
  gen : sc.isGenerator = false
  nd : N.Nodup
  pre : N.take P.length = P
  par : ∀ x ∈ P, sc.names.lookup x = some .local ∨ sc.names.lookup x = some .cell
  nofree : ∀ y ∈ sc.names, y.2 ≠ .free

theorem bindL_out {kindOf : Str → Option NameKind} {x : Str} : ∀ {binds : List (Str × Value)} {m : Str → Option Value}, (∀ v, (x, v) ∉ binds) → bindL kindOf binds m x = m x
  | [], _, _ => rfl
  | (n, v) :: r, m, h => by
    unfold bindL
    rw [bindL_out fun w hw => h w (List.mem_cons_of_mem _ hw)]
    split
    · have : x ≠ n := by rintro rfl; exact h v List.mem_cons_self
      simp [this]
    · rfl
theorem bindC_out {kindOf : Str → Option NameKind} {x : Str} : ∀ {binds : List (Str × Value)} {m : Str → Option Value}, (∀ v, (x, v) ∉ binds) → bindC kindOf binds m x = m x
  | [], _, _ => rfl
  | (n, v) :: r, m, h => by
    unfold bindC
    rw [bindC_out fun w hw => h w (List.mem_cons_of_mem _ hw)]
    split
    · rfl
    · have : x ≠ n := by rintro rfl; exact h v List.mem_cons_self
      simp [this]
theorem bindL_get {kindOf : Str → Option NameKind} {x : Str} {v : Value} : ∀ {P : List Str} {vs : List Value} {i : Nat} {m : Str → Option Value}, P.Nodup → P[i]? = some x → vs[i]? = some v → kindOf x = some .local →
    bindL kindOf (P.zip vs) m x = some v
  | [], _, _, _, _, h, _, _ => by simp at h
  | _ :: _, [], _, _, _, _, h, _ => by simp at h
  | p :: P, w :: vs, 0, m, nd, h1, h2, hk => by
    simp at h1 h2; subst h1; subst h2
    show bindL kindOf ((p, w) :: P.zip vs) m p = _
    unfold bindL
    rw [bindL_out fun v hv => (List.nodup_cons.mp nd).1 (List.of_mem_zip hv).1, if_pos hk]
    simp
  | p :: P, w :: vs, i + 1, m, nd, h1, h2, hk => by
    show bindL kindOf ((p, w) :: P.zip vs) m x = _
    unfold bindL
    exact bindL_get (i := i) (List.nodup_cons.mp nd).2 (by simpa using h1) (by simpa using h2) hk
theorem bindC_get {kindOf : Str → Option NameKind} {x : Str} {v : Value} : ∀ {P : List Str} {vs : List Value} {i : Nat} {m : Str → Option Value}, P.Nodup → P[i]? = some x → vs[i]? = some v → kindOf x ≠ some .local →
    bindC kindOf (P.zip vs) m x = some v
  | [], _, _, _, _, h, _, _ => by simp at h
  | _ :: _, [], _, _, _, _, h, _ => by simp at h
  | p :: P, w :: vs, 0, m, nd, h1, h2, hk => by
    simp at h1 h2; subst h1; subst h2
    show bindC kindOf ((p, w) :: P.zip vs) m p = _
    unfold bindC
    rw [bindC_out fun v hv => (List.nodup_cons.mp nd).1 (List.of_mem_zip hv).1, if_neg hk]
    simp
  | p :: P, w :: vs, i + 1, m, nd, h1, h2, hk => by
    show bindC kindOf ((p, w) :: P.zip vs) m x = _
    unfold bindC
    exact bindC_get (i := i) (List.nodup_cons.mp nd).2 (by simpa using h1) (by simpa using h2) hk

/-- the names' values at the entry -/
def start (N : List Str) (vs : List V) : St := vs.map some ++ List.replicate (N.length - vs.length) none

/-- the context of a def's body, at its entry; an exception leaves the frame, then lies as CX says -/
def cxOf (CX : CXT) (P : Program) (w : World) (K : PySem.W.Frag) (mg : Str → Option Value) (base : Heap) (N : List Str) (qual : Str) (scope : Scope) (f : Addr) (cd : Value) (A : Around) (outer : List Env) (s : Shared) (H : Hp) (E : XK) : Cx where
  prog := P
  w := w
  K := K
  mg := mg
  base := base
  A := A.deeper (envOfC qual scope s.heap.objs.size f cd)
  N := N
  s₀ := s
  H₀ := H
  env := envOfC qual scope s.heap.objs.size f cd
  outer := outer
  stack := envOfC qual scope s.heap.objs.size f cd :: outer
  ex := []
  calm := true
  fn := fun _ => true
  pn := []
  xe := fun e s' => wpAny (model P w) (A.deeper (envOfC qual scope s.heap.objs.size f cd)) (leaving (envOfC qual scope s.heap.objs.size f cd) e) (fun _ s'' => CX outer H s E e s'') (fun e' s'' => CX outer H s E e' s'') s'

theorem cell_has {sc : Scope} {n : Nat} {x : Str} (h : sc.names.lookup x = some .cell) : ∃ c, (cellsFrom n sc.names []).lookup x = some c := by
  have q := PySem.W.cellsFrom_some sc.names n [] (.inl h)
  exact Option.isSome_iff_exists.mp q

theorem inv_start {CX : CXT} {P : Program} {w : World} {K : PySem.W.Frag} {mg : Str → Option Value} {base : Heap} {N ps : List Str} {qual : Str} {scope : Scope} {f : Addr} {cd : Value} {A : Around} {outer : List Env} {s s1 : Shared} {H : Hp} {E : XK} {us : List Value} {vs : List V}
    (S : FnScope N ps scope) (hd : A.handled = none) (e0 : Env0 P w K mg base A outer s H) (hl : vs.length = ps.length) (r : Vals vs us)
    (x : InCallC s s.heap.objs.size (bindL (envOfC qual scope s.heap.objs.size f cd).kindOf (ps.zip us) fun _ => none) (cellsFrom (s.heap.objs.size + 1) scope.names []) (bindC (envOfC qual scope s.heap.objs.size f cd).kindOf (ps.zip us) fun _ => none) s1) :
    Inv (cxOf CX P w K mg base N qual scope f cd A outer s H E) [] (start N vs) H s1 := by
  have hpl : ps.length ≤ N.length := by have := congrArg List.length S.pre; rw [List.length_take] at this; omega
  obtain ⟨h1, tk, rfl, hk⟩ := x.done
  have noA : ∀ b : Addr, b ∉ (cxOf CX P w K mg base N qual scope f cd A outer s H E).ex := fun b z => absurd (show b ∈ ([] : List Addr) from z) (by simp)
  refine ⟨⟨e0.mod, S.kind, rfl, rfl, Nat.le_refl _, fun y z c h1 h2 => ?_, fun y hy => ?_, fun y c _ h => ?_, fun _ => hd, Around.frames_deeper e0.frames, .inr ⟨rfl, rfl⟩, fun b z => absurd z (noA b), e0.bs, e0.bsz, fun b _ _ => noA b, fun b z => absurd z (noA b), e0.funs, e0.frf⟩,
    rfl, e0.bare, Un.kept hk, ⟨_, x.toInCall.ns, fun i y v h1 h2 h3 => ?_⟩, fun y c h => ⟨_, x.cell y c h⟩, e0.hok.fresh (Nat.le_refl _), fun y c h => ?_, fun p hp => absurd (show p ∈ ([] : List (Addr × Obj)) from hp) (by simp), e0.hok.kept hk, ?_⟩
  · exact name_of_addr x.apart (PySem.mem_of_lookup h1) (PySem.mem_of_lookup h2)
  · have hy : scope.names.lookup y = some .cell ∨ scope.names.lookup y = some .free := hy
    rcases hy with hy | hy
    · exact cell_has hy
    · exact absurd rfl (S.nofree _ (PySem.mem_of_lookup hy))
  · exact Nat.le_of_lt (x.above y c (PySem.mem_of_lookup h))
  · have hi : i < vs.length := by
      unfold start at h2
      by_cases hi : i < vs.length
      · exact hi
      · rw [List.getElem?_append_right (by simpa using hi)] at h2
        rw [List.getElem?_replicate] at h2
        split at h2 <;> cases h2
    have ha : vs[i]? = some v := by
      unfold start at h2
      rw [List.getElem?_append_left (by simpa using hi), List.getElem?_map] at h2
      cases e : vs[i]? with
      | none => rw [e] at h2; cases h2
      | some a => rw [e] at h2; cases h2; rfl
    obtain ⟨u, hu, rv⟩ := r.get ha
    have hp : ps[i]? = some y := by
      rw [← S.pre, List.getElem?_take_of_lt (by omega)]; exact h1
    have ndP : ps.Nodup := by rw [← S.pre]; exact S.nd.sublist (List.take_sublist _ _)
    refine ⟨u, rv, ?_⟩
    rcases S.par y (List.mem_of_getElem? hp) with k | k
    · exact .inl ⟨k, bindL_get ndP hp hu k⟩
    · obtain ⟨c, e⟩ := cell_has (n := s.heap.objs.size + 1) k
      refine .inr ⟨.inl k, c, e, ?_⟩
      have q := x.cell y c e
      rw [bindC_get ndP hp hu (by show scope.names.lookup y ≠ _; rw [k]; decide)] at q
      exact q
  · exact e0.hok.fresh (Nat.le_of_lt (x.above y c (PySem.mem_of_lookup h)))
  · unfold start
    show _ = N.length
    rw [List.length_append, List.length_map, List.length_replicate]
    omega

/-- THE RULE: a def (or a method) of the text, by its body. The body's reading t is chosen for each entry; it is run at the parameters' values -/
theorem fn_of {CX : CXT} {P : Program} {w : World} {K : PySem.W.Frag} {mg : Str → Option Value} {base : Heap} {k : Nat} {f : Addr} {name qual : Str} {params : Arguments} {body : List Stmt} {scope : Scope} {dV kV doc pm cdv ct oc : Value} {an od : Option Addr}
    {osl : Array (Option Value)} {N ps : List Str} {sp : Sp} (lk : K.lookup f = some ⟨oc, od, .func (PySem.W.fnOf name qual params body scope dV kV doc pm an cdv ct), osl⟩) (hcd : PySem.W.codeIn K cdv qual = true) (S : FnScope N ps scope)
    (len : ∀ vs H Q E, sp vs H Q E → vs.length = ps.length)
    (hbody : ∀ (A : Around) (outer : List Env) (s : Shared) (H : Hp) (vs : List V) (Q : VK) (E : XK), Room k (A.deeper (envOfC qual scope s.heap.objs.size f cdv)) → sp vs H Q E →
      ∃ t, PSs (cxOf CX P w K mg base N qual scope f cdv A outer s H E) body t ∧ t { nx := fun _ H' => Q .non H', rt := Q } (start N vs) H) :
    FnOk P w K mg base CX (k + 1) f (PySem.W.fnOf name qual params body scope dV kV doc pm an cdv ct) ps sp := by
  refine ⟨len, fun A outer s H args us vs Q E hr e0 hb r hsp => ?_⟩
  have hl := len _ _ _ _ hsp
  have KX : K.In s.heap := e0.mod.kin.keeps fun b o e => (e0.bs b o e).1
  have lim : s.heap.NoLimit := e0.mod.nolimit.keeps fun b o e => (e0.bs b o e).1
  have hkind : ∀ y ∈ ps.zip us, scope.names.lookup y.1 = some .local ∨ (scope.names.lookup y.1 = some .cell ∧ ((cellsFrom (s.heap.objs.size + 1) scope.names []).lookup y.1).isSome = true) := fun ⟨n, v⟩ hy => by
    rcases S.par n (List.of_mem_zip hy).1 with q | q
    · exact .inl q
    · exact .inr ⟨q, PySem.W.cellsFrom_some _ _ _ (.inl q)⟩
  refine codeAny_call_function hr.depth (KX _ _ lk) rfl S.co S.gen rfl (PySem.W.codeRec_of KX hcd) (hb _ _ _ _ ?_)
  refine wpAny_newFunctionEnv_cells S.kind hkind fun env he s1 x => ?_
  subst he
  refine ⟨lim.keeps x.toInCall.keep, codeAny_func ?_⟩
  obtain ⟨t, ht, hq⟩ := hbody A outer s H vs Q E (hr.deeper _) hsp
  have I : Inv (cxOf CX P w K mg base N qual scope f cdv A outer s H E) [] (start N vs) H s1 := inv_start S hr.hd e0 hl r x
  refine wpAny_mono (ht [] s1 (start N vs) H _ I hq) (fun fl s' hs => ?_) fun e s' hs => hs
  have fin : ∀ {σ' : St} {H' : Hp} {v : V} {u : Value}, Inv (cxOf CX P w K mg base N qual scope f cdv A outer s H E) [] σ' H' s' → RelV v u → Q v H' → CE outer P w H s Q u s' :=
    fun {σ' H' v u} J rv q => ⟨v, H', J.os, J.bare, J.base, J.hok, rv, q⟩
  cases fl with
  | ret u =>
    obtain ⟨v, σ', H', J, rv, q⟩ := hs
    exact fin J rv q
  | next =>
    obtain ⟨σ', H', J, q⟩ := hs
    exact fin (v := V.non) (u := Value.none) J rfl q
  | brk =>
    obtain ⟨_, _, _, q⟩ := hs
    exact False.elim q
  | cont =>
    obtain ⟨_, _, _, q⟩ := hs
    exact False.elim q
end L2

namespace L2
open PySem PySem.Spec PyProof.Rows
section
variable {X : Cx} {x : Str} {p pos : Pos} {e : Expr} {es : List Expr} {t : TA} {id T : String} {r : List V → Hp → VK → Prop}

def tCB (r : List V → Hp → VK → Prop) (t : TA) : TE := fun σ H Q => t σ H fun vs H1 => r vs H1 Q
/-- f(e, ..), f a built-in function -/
theorem pe_callB (hc : CallR X (.builtin id) r) (hg : Gl X x) (hm : X.mg x = none) (hv : bootBuiltins x = some (.builtin id)) (ha : PA X (e :: es) t) (hn : x ≠ "__name__" := by decide) (hdb : (x == ("__debug__" : Str)) = false := by decide)
    (he : starEach (e :: es) X.env = (false, eval e X.env) :: starEach es X.env := by rfl) (hpl : (backTo pos (starEach es X.env)).any (·.1) = false := by rfl) : PE X (.Call (.Name x p) (e :: es) [] pos) (tCB r t) := by
  intro pins s σ H Q I h
  refine wpAny_Call_Name_kw (ld_blt I hg hm hv ?_ hn hdb)
  exact PyProof.Rows.callWith_builtin1 (thn (ha pos pins s σ H _ I h) fun us s1 ⟨vs, H1, I1, r1, q1⟩ => hc pins s1 σ H1 vs us Q I1 r1 q1) he hpl
/-- T(e, ..), T a built-in type -/
theorem pe_callTy (hc : CallR X (.type T) r) (hg : Gl X x) (hm : X.mg x = none) (hv : bootBuiltins x = some (.type T)) (ha : PA X (e :: es) t) (hn : x ≠ "__name__" := by decide) (hdb : (x == ("__debug__" : Str)) = false := by decide)
    (he : starEach (e :: es) X.env = (false, eval e X.env) :: starEach es X.env := by rfl) (hpl : (backTo pos (starEach es X.env)).any (·.1) = false := by rfl) : PE X (.Call (.Name x p) (e :: es) [] pos) (tCB r t) := by
  intro pins s σ H Q I h
  refine wpAny_Call_Name_kw (ld_blt I hg hm hv ?_ hn hdb)
  exact PyProof.Rows.callWith_type1 (thn (ha pos pins s σ H _ I h) fun us s1 ⟨vs, H1, I1, r1, q1⟩ => hc pins s1 σ H1 vs us Q I1 r1 q1) he hpl
end
end L2

namespace HT
open PySem PyProof.Rows

section
open PySem.SeqAt
open PySem.AutoSeq1 (wpAny_loadPart')
open PySem.MeetsSeq PySem.MeetsSeq2 PySem.MeetsSeq3

end

section
variable {prog : Program} {w : World} {A : Around} {E : Value → Shared → Prop} {s : Shared}

/-- t + u, t not empty -/
theorem cat_tup {t b : Addr} {vs ws : List Value} {Q : Value → Shared → Prop} (ht : IsTup s.heap t vs.toArray) (hb : IsTup s.heap b ws.toArray) (hv : vs ≠ [])
    (h1 : ws = [] → Q (.ref t) s) (h2 : ws ≠ [] → Q (.ref s.heap.objs.size) { s with heap := s.heap.push { cls := .type "tuple", data := .seq (vs ++ ws).toArray } })
    (hsz : vs.length + ws.length ≤ sizeLine) : wpAny (model prog w) A (binaryOp .Add (.ref t) (.ref b)) Q E s := by
  obtain ⟨⟨cls, dd, data, sl⟩, ho, hc, n, hd⟩ := id ht
  obtain ⟨⟨cls2, dd2, data2, sl2⟩, ho2, hc2, n2, hd2⟩ := id hb
  simp only at hc hd hc2 hd2
  subst hc hd hc2 hd2
  have e : vs.toArray ++ ws.toArray = (vs ++ ws).toArray := by simp
  by_cases hw : ws = []
  · exact concat_meets ⟨_, ho, rfl⟩ ⟨_, ho2, rfl⟩ noFill_tuple_add seq_tuple_add PySem.F.slot_tuple_add PySem.F.entry_tuple_add (PySem.F.args_tuple_add_2 _ _)
      (tuple_addW1 t b vs.toArray ws.toArray n n2 dd dd2 sl sl2 (by simpa using hv) (by simp [hw])) ⟨ho, ho2, h1 hw⟩
  · refine concat_meets ⟨_, ho, rfl⟩ ⟨_, ho2, rfl⟩ noFill_tuple_add seq_tuple_add PySem.F.slot_tuple_add PySem.F.entry_tuple_add (PySem.F.args_tuple_add_2 _ _)
      (tuple_addW2 t b vs.toArray ws.toArray n n2 dd dd2 sl sl2 (by simpa using hv) (by simpa using hw) (by rw [List.size_toArray, List.size_toArray]; exact hsz)) ⟨ho, ho2, ?_⟩
    rw [e]
    exact h2 hw

/-! ### t[a:b], not the whole -/
/-- a slice's bound as a place among n (d where it is left out) -/
def sIx (n d : Nat) : Option Int → Nat
  | none => d
  | some v => if v < 0 then (v + (n : Int)).toNat else min v.toNat n
theorem sIx_none (n d : Nat) : sIx n d none = d := rfl
theorem sIx_nat (n d k : Nat) : sIx n d (some (k : Int)) = min k n := by
  show (if (k : Int) < 0 then ((k : Int) + (n : Int)).toNat else min (k : Int).toNat n) = min k n
  rw [if_neg (by omega), Int.toNat_natCast]
theorem sIx_le (n d : Nat) (hd : d ≤ n) (o : Option Int) : sIx n d o ≤ n := by
  cases o with
  | none => exact hd
  | some v =>
    show (if v < 0 then (v + (n : Int)).toNat else min v.toNat n) ≤ n
    by_cases hv : v < 0
    · rw [if_pos hv]; omega
    · rw [if_neg hv]; exact Nat.min_le_right _ _
theorem clip_eq (v : Int) (n d : Nat) : (if v < 0 then max (v + (n : Int)) 0 else min v (n : Int)) = ((sIx n d (some v) : Nat) : Int) := by
  show (if v < 0 then max (v + (n : Int)) 0 else min v (n : Int)) = (((if v < 0 then (v + (n : Int)).toNat else min v.toNat n) : Nat) : Int)
  by_cases hv : v < 0
  · simp only [if_pos hv]; omega
  · simp only [if_neg hv]; omega
theorem adjust_gen (lo hi : Option Int) (n : Nat) : Builtin.Slice.sliceAdjust lo hi 1 (n : Int) = (((sIx n 0 lo : Nat) : Int), ((sIx n n hi : Nat) : Int)) := by
  have h1 : ¬ ((1 : Int) < 0) := by omega
  unfold Builtin.Slice.sliceAdjust
  simp only [h1, if_false]
  refine Prod.ext ?_ ?_
  · cases lo with
    | none => rfl
    | some v => exact clip_eq v n 0
  · cases hi with
    | none => rfl
    | some v => exact clip_eq v n n
theorem places_gen (i j : Nat) : Builtin.Slice.slicePlaces (i : Int) (j : Int) 1 = j - i := by
  unfold Builtin.Slice.slicePlaces
  have h1 : (1 : Int) > 0 := by omega
  simp only [h1, if_true, Int.ediv_one]
  split <;> omega
theorem slicePart_ {v : Value} {o : Option Int} {Q : Option Int → Shared → Prop} (p : IsPart v o) (h : Q o s) : wpAny (model prog w) A (Builtin.Slice.slicePartIndex v) Q E s := by
  cases p with
  | none => exact slicePart_none h
  | int i t => exact slicePart_int h
theorem sliceApplied_gen {sl : Addr} {vl vu : Value} {lo hi : Option Int} {n : Nat} {Q : Int × Int × Nat → Shared → Prop} (hs : s.heap.IsSliceOf sl vl vu .none) (pl : IsPart vl lo) (pu : IsPart vu hi)
    (h : Q (((sIx n 0 lo : Nat) : Int), 1, sIx n n hi - sIx n 0 lo) s) : wpAny (model prog w) A (Builtin.Slice.sliceApplied (.ref sl) (pure (n : Int))) Q E s := by
  obtain ⟨os, hos, hcs, hds⟩ := id hs
  unfold Builtin.Slice.sliceApplied Builtin.Slice.sliceFields
  refine wpAny_bind (wpAny_bind (wpAny_field hos hds (x := vl) rfl (wpAny_bind (wpAny_field hos hds (x := vu) rfl (wpAny_bind (wpAny_field hos hds (x := .none) rfl (wpAny_pure ?_)))))))
  refine wpAny_bind (slicePart_none ?_)
  show wpAny _ _ (if ((1 : Int) == 0) = true then _ else _) _ _ s
  rw [if_neg (by decide)]
  refine wpAny_bind (slicePart_ pl (wpAny_bind (slicePart_ pu (wpAny_bind (wpAny_pure ?_)))))
  show wpAny _ _ (match Builtin.Slice.sliceAdjust lo hi 1 (n : Int) with | (lo, hi) => pure (lo, (1 : Int), Builtin.Slice.slicePlaces lo hi 1)) _ _ s
  rw [adjust_gen lo hi n]
  show wpAny _ _ (pure (((sIx n 0 lo : Nat) : Int), (1 : Int), Builtin.Slice.slicePlaces ((sIx n 0 lo : Nat) : Int) ((sIx n n hi : Nat) : Int) 1)) _ _ s
  rw [places_gen]
  exact wpAny_pure h
theorem pick_gen (xs : Array Value) (i k : Nat) : ((List.range k).filterMap fun (m : Nat) => xs[((i : Int) + (m : Int) * 1).toNat]?).toArray = ((xs.toList.drop i).take k).toArray := by
  have e : (fun (m : Nat) => xs[((i : Int) + (m : Int) * 1).toNat]?) = fun m => xs[i + m]? := by
    funext m
    have : ((i : Int) + (m : Int) * 1).toNat = i + m := by omega
    rw [this]
  rw [e]
  have := pick_run xs i k
  rw [List.filterMap_map] at this
  have e2 : ((fun x => xs[x]?) ∘ fun x => i + x) = fun m => xs[i + m]? := rfl
  rw [e2] at this
  rw [this]

theorem getItem_tuple_cut {t sl : Addr} {items : Array Value} {vl vu : Value} {lo hi : Option Int} {Q : Value → Shared → Prop} (ht : IsTup s.heap t items) (hs : s.heap.IsSliceOf sl vl vu .none) (pl : IsPart vl lo) (pu : IsPart vu hi)
    (hw : ¬ (sIx items.size 0 lo = 0 ∧ sIx items.size items.size hi = items.size))
    (h : Q (.ref s.heap.objs.size) { s with heap := s.heap.push { cls := .type "tuple", data := .seq ((items.toList.drop (sIx items.size 0 lo)).take (sIx items.size items.size hi - sIx items.size 0 lo)).toArray } })
    (hsz : items.size ≤ sizeLine) : wpAny (model prog w) A (getItem (.ref t) (.ref sl)) Q E s := by
  have htake : sizeOk (.seq ((items.toList.drop (sIx items.size 0 lo)).take (sIx items.size items.size hi - sIx items.size 0 lo)).toArray) := by
    show ((items.toList.drop (sIx items.size 0 lo)).take (sIx items.size items.size hi - sIx items.size 0 lo)).toArray.size ≤ sizeLine
    rw [List.size_toArray, List.length_take, List.length_drop, Array.length_toList]
    omega
  have hj : sIx items.size items.size hi ≤ items.size := sIx_le _ _ (Nat.le_refl _) hi
  obtain ⟨os, hos, hcs, hds⟩ := id hs
  have hTs : s.TypeIs (.ref sl) "slice" := ⟨os, hos, hcs⟩
  unfold getItem
  try with_reducible refine wpAny_holding ?_
  first | refine wpAny_bind (wpAny_pure ?_) | skip
  refine wpAny_bind (wpAny_sequenceKey ht.typeIs (by decide) ?_)
  refine wpAny_bind (wpAny_callSpecial?_slot (name := Str.ofString "__getitem__") ht.typeIs PyProof.Rows.slot_tuple_getitem
    (wpAny_call_entry PyProof.Rows.slot_tuple_getitem ht.typeIs entry_tuple_getitem ?_ (args_tuple_getitem _ _)))
  show wpAny _ _ (Builtin.Tuple.tupleItemsOf (.ref t) >>= _) _ _ s
  refine wpAny_bind (tupleItemsOf_ ht ?_)
  refine wpAny_bind (wpAny_typeOf hTs ?_)
  rw [if_pos (by decide)]
  refine wpAny_bind (sliceApplied_gen hs pl pu ?_)
  have hno : ¬ ((((sIx items.size 0 lo : Nat) : Int) == 0 && (1 : Int) == 1 && (sIx items.size items.size hi - sIx items.size 0 lo) == items.size) = true) := by
    intro q
    rw [Bool.and_eq_true, Bool.and_eq_true] at q
    have q1 : ((sIx items.size 0 lo : Nat) : Int) = 0 := eq_of_beq q.1.1
    have q2 : sIx items.size items.size hi - sIx items.size 0 lo = items.size := eq_of_beq q.2
    exact hw ⟨by omega, by omega⟩
  show wpAny _ _ (if (((sIx items.size 0 lo : Nat) : Int) == 0 && (1 : Int) == 1 && (sIx items.size items.size hi - sIx items.size 0 lo) == items.size) = true then _ else _) _ _ s
  rw [if_neg hno, pick_gen]
  first
    | exact wpAny_bind (m := Builtin.Tuple.tupleExact _) (wpAny_newObj_type (wpAny_pure ⟨_, rfl, wpAny_pure h⟩) htake)
    | exact wpAny_bind (m := Builtin.Tuple.tupleExact _) (wpAny_newObj_type (wpAny_bind (wpAny_pure (wpAny_pure ⟨_, rfl, wpAny_pure h⟩))) htake)
    | exact wpAny_bind (wpAny_bind (m := Builtin.Tuple.tupleExact _) (wpAny_newObj_type (wpAny_pure (wpAny_pure ⟨_, rfl, wpAny_pure h⟩)) htake))
    | exact wpAny_bind (wpAny_bind (m := Builtin.Tuple.tupleExact _) (wpAny_newObj_type (wpAny_pure ⟨_, rfl, wpAny_pure h⟩) htake))
end
end HT

namespace L2
open PySem PySem.Spec PyProof.Rows

/-! ### the parts of a slice -/
abbrev TO := St → Hp → (Option Int → Hp → Prop) → Prop
/-- a slice's part (left out, or an int) -/
def PO (X : Cx) (e : Option Expr) (t : TO) : Prop :=
  ∀ (pins : List (Addr × Obj)) (s : Shared) (σ : St) (H : Hp) (Q : Option Int → Hp → Prop), Inv X pins σ H s → t σ H Q →
    wpAny (model X.prog X.w) X.A (evalPart e X.env) (fun u s' => ∃ o H', Inv X pins σ H' s' ∧ IsPart u o ∧ Q o H') X.xe s
def tNoPart : TO := fun _ H Q => Q none H
def tPart (t : TE) : TO := fun σ H Q => t σ H fun x H1 => ∃ i, x = .int i ∧ Q (some i) H1

section
variable {X : Cx} {e : Expr} {te : TE} {lo hi : Option Expr} {tl th : TO} {pos p2 : Pos}

theorem po_none : PO X none tNoPart := by
  intro pins s σ H Q I h
  rw [evalPart_none]
  exact wpAny_pure ⟨none, H, I, .none, h⟩
theorem po_some (h : PE X e te) : PO X (some e) (tPart te) := by
  intro pins s σ H Q I hw
  rw [evalPart_some]
  refine thn (h pins s σ H _ I hw) fun u s1 ⟨x, H1, I1, r1, q1⟩ => ?_
  obtain ⟨i, rfl, q⟩ := q1
  obtain ⟨t, rfl⟩ := r1
  exact ⟨some i, H1, I1, .int i t, q⟩

/-- what a slice of a value is, by values: the slice object stands at sl -/
def SlR (X : Cx) (r : V → Option Int → Option Int → Hp → VK → Prop) : Prop :=
  ∀ (pins : List (Addr × Obj)) (s : Shared) (σ : St) (H : Hp) (x : V) (v vl vu : Value) (lo hi : Option Int) (sl : Addr) (Q : VK), Inv X pins σ H s → RelV x v → s.heap.IsSliceOf sl vl vu .none → IsPart vl lo → IsPart vu hi → r x lo hi H Q →
    ∃ T id, typeLookup (.type T) "__getitem__" = pure (some (.builtin id)) ∧ s.TypeIs v T ∧ wpAny (model X.prog X.w) X.A (getItem v (.ref sl)) (EP X pins σ Q) X.xe s
theorem SlR.or {r r' : V → Option Int → Option Int → Hp → VK → Prop} (h : SlR X r) (h' : SlR X r') : SlR X (fun x lo hi H Q => r x lo hi H Q ∨ r' x lo hi H Q) := by
  intro pins s σ H x v vl vu lo hi sl Q I rx hs pl pu q
  rcases q with q | q
  · exact h pins s σ H x v vl vu lo hi sl Q I rx hs pl pu q
  · exact h' pins s σ H x v vl vu lo hi sl Q I rx hs pl pu q
def tSl (r : V → Option Int → Option Int → Hp → VK → Prop) (te : TE) (tl th : TO) : TE := fun σ H Q => te σ H fun x H1 => tl σ H1 fun l H2 => th σ H2 fun u H3 => r x l u H3 Q
/-- a[lo:hi], any a -/
theorem pe_slice {r : V → Option Int → Option Int → Hp → VK → Prop} (hr : SlR X r) (he : PE X e te) (hl : PO X lo tl) (hu : PO X hi th) : PE X (.Subscript e (.Slice lo hi none p2) pos) (tSl r te tl th) := by
  intro pins s σ H Q I h
  refine Subscript_ (thn (he pins s σ H _ I h) fun v s1 ⟨x, H1, I1, r1, q1⟩ => ?_)
  refine wpAny_Slice (thn (hl pins s1 σ H1 _ I1 q1) fun vl s2 ⟨l, H2, I2, pl, q2⟩ => thn (hu pins s2 σ H2 _ I2 q2) fun vu s3 ⟨u, H3, I3, pu, q3⟩ => ?_)
  rw [evalPart_none]
  refine wpAny_pure ?_
  have I4 : Inv X pins σ H3 { s3 with heap := s3.heap.push { cls := .type "slice", data := .fields #[vl, vu, .none] } } := I3.kept (t' := s3.toks) fun b ob q => Heap.get?_push_of_some _ q
  obtain ⟨T, id, hT, ht, hg⟩ := hr pins { s3 with heap := s3.heap.push { cls := .type "slice", data := .fields #[vl, vu, .none] } } σ H3 x v vl vu l u s3.heap.objs.size Q I4 r1 (Heap.IsSliceOf.new ..) pl pu q3
  show wpAny (model X.prog X.w) X.A (subscriptTail e (.Slice lo hi none p2) v (.ref s3.heap.objs.size)) (EP X pins σ Q) X.xe { s3 with heap := s3.heap.push { cls := .type "slice", data := .fields #[vl, vu, .none] } }
  exact tail_any (ops := [.ref s3.heap.objs.size, v]) ht hT hg (by with_unfolding_all rfl)

/-- the items of xs[lo:hi] -/
def cutV (xs : List V) (lo hi : Option Int) : List V := (xs.drop (HT.sIx xs.length 0 lo)).take (HT.sIx xs.length xs.length hi - HT.sIx xs.length 0 lo)
theorem cutV_length (xs : List V) (lo hi : Option Int) : (cutV xs lo hi).length ≤ xs.length := by
  unfold cutV
  rw [List.length_take, List.length_drop]
  omega
/-- t[lo:hi], not the whole of it (the whole would be t itself) -/
def rSlT (K : PySem.W.Frag) : V → Option Int → Option Int → Hp → VK → Prop := fun x lo hi H Q => ∃ a xs, x = .ref a ∧ SqT K H a xs ∧
  ¬ (HT.sIx xs.length 0 lo = 0 ∧ HT.sIx xs.length xs.length hi = xs.length) ∧ ∀ p, H p = none → Q (.ref p) (upd H p (.tup (cutV xs lo hi)))
theorem sl_tup : SlR X (rSlT X.K) := by
  intro pins s σ H x v vl vu lo hi sl Q I rx hs pl pu h
  obtain ⟨a, xs, rfl, hx, hw, q⟩ := h
  cases rx
  obtain ⟨its, r, ht, hz⟩ := I.tuple hx
  have hlen : its.toArray.size = xs.length := by rw [List.size_toArray]; exact r.length.symm
  refine ⟨"tuple", _, PyProof.Rows.slot_tuple_getitem.lookup, ht.typeIs, ?_⟩
  refine HT.getItem_tuple_cut ht hs pl pu (by rw [hlen]; exact hw) ?_ (by rw [hlen]; exact hz)
  rw [hlen]
  refine ⟨.ref s.heap.objs.size, _, I.laid (t' := s.toks) (o := .tup (cutV xs lo hi)) (fun b ob q => Heap.get?_push_of_some _ q) (Nat.le_refl _) ?_, rfl, q _ (I.hok.fresh (Nat.le_refl _))⟩
  exact ⟨Nat.le_trans (cutV_length xs lo hi) hz, _, (r.drop (HT.sIx xs.length 0 lo)).take (HT.sIx xs.length xs.length hi - HT.sIx xs.length 0 lo), IsTup.new _ _⟩

/-! ### t < u, t + u -/
/-- t + u, t not empty: u empty gives t itself -/
def rCatT (K : PySem.W.Frag) : R2 := fun x y H Q => ∃ a b xs ys, x = .ref a ∧ y = .ref b ∧ SqT K H a xs ∧ SqT K H b ys ∧ xs ≠ [] ∧ xs.length + ys.length ≤ sizeLine ∧
  (ys = [] → Q (.ref a) H) ∧ (ys ≠ [] → ∀ p, H p = none → Q (.ref p) (upd H p (.tup (xs ++ ys))))
theorem Vals.nil_iff {xs : List V} {us : List Value} (r : Vals xs us) : us = [] ↔ xs = [] := by
  cases r with
  | nil => simp
  | cons _ _ => simp
theorem op_catT : OpR X (binaryOp .Add) (rCatT X.K) := by
  intro pins s σ H x y v u Q I rx ry h
  obtain ⟨a, b, xs, ys, rfl, rfl, ha, hb, hx, hz, q1, q2⟩ := h
  cases rx
  cases ry
  obtain ⟨its, r1, p1, _⟩ := I.tuple ha
  obtain ⟨its2, r2, p2, _⟩ := I.tuple hb
  refine HT.cat_tup p1 p2 (fun z => hx (r1.nil_iff.mp z)) (fun z => ⟨.ref a, H, I, rfl, q1 (r2.nil_iff.mp z)⟩) (fun z => ?_) (by rw [← r1.length, ← r2.length]; exact hz)
  refine ⟨.ref s.heap.objs.size, _, I.laid (t' := s.toks) (o := .tup (xs ++ ys)) (fun b ob q => Heap.get?_push_of_some _ q) (Nat.le_refl _) ?_, rfl, q2 (fun w => z (r2.nil_iff.mpr w)) _ (I.hok.fresh (Nat.le_refl _))⟩
  exact ⟨by rw [List.length_append]; exact hz, _, r1.append r2, IsTup.new _ _⟩
end
end L2

namespace L2
open PySem PySem.Spec PyProof.Rows

/-! ### places -/
/-- the place that an index of any sign means -/
def ixN (n : Nat) (i : Int) : Option Nat := if 0 ≤ i then (if i < n then some i.toNat else none) else if -(n : Int) ≤ i then some (i + n).toNat else none
def atI {α : Type} (xs : List α) (i : Int) : Option α := (ixN xs.length i).bind fun j => xs[j]?
theorem ixN_seq {n : Nat} {i : Int} {j : Nat} (h : ixN n i = some j) : seqIndex? i n = some j ∧ j < n ∧ -(n : Int) ≤ i ∧ i < n := by
  unfold ixN at h
  by_cases h0 : 0 ≤ i
  · rw [if_pos h0] at h
    by_cases h1 : i < n
    · rw [if_pos h1] at h
      have e : i.toNat = j := Option.some.inj h
      exact ⟨by rw [seqIndex_of h0 h1, e], by omega, by omega, h1⟩
    · rw [if_neg h1] at h; cases h
  · rw [if_neg h0] at h
    by_cases h1 : -(n : Int) ≤ i
    · rw [if_pos h1] at h
      have e : (i + n).toNat = j := Option.some.inj h
      exact ⟨by rw [seqIndex_neg (by omega) h1, e], by omega, h1, by omega⟩
    · rw [if_neg h1] at h; cases h
theorem atI_get {α : Type} {xs : List α} {i : Int} {v : α} (h : atI xs i = some v) : ∃ j, seqIndex? i xs.length = some j ∧ xs[j]? = some v ∧ j < xs.length ∧ -(xs.length : Int) ≤ i ∧ i < xs.length := by
  unfold atI at h
  cases e : ixN xs.length i with
  | none => rw [e] at h; cases h
  | some j =>
    rw [e] at h
    obtain ⟨h1, h2, h3, h4⟩ := ixN_seq e
    exact ⟨j, h1, h, h2, h3, h4⟩
theorem atI_nat {α : Type} {xs : List α} {j : Nat} {v : α} (h : xs[j]? = some v) : atI xs (j : Int) = some v := by
  have hj : j < xs.length := (List.getElem?_eq_some_iff.mp h).1
  have e : ixN xs.length (j : Int) = some j := by
    unfold ixN
    rw [if_pos (by omega), if_pos (by omega)]; simp
  unfold atI; rw [e]; exact h
/-! ### what may be subscripted -/
/-- what stands as an index of a plain subscript -/
def PlainIx (b : Expr) : Prop := ∀ o i, subscripted b false o i = operate [o, i] (getItem o i)
/-- a subscript by values -/
def IxR (X : Cx) (r : R2) : Prop :=
  ∀ (value slice : Expr) (pins : List (Addr × Obj)) (s : Shared) (σ : St) (H : Hp) (x y : V) (v u : Value) (Q : VK), Inv X pins σ H s → RelV x v → RelV y u → r x y H Q →
    subscripted slice false v u = operate [v, u] (getItem v u) → wpAny (model X.prog X.w) X.A (subscriptTail value slice v u) (EP X pins σ Q) X.xe s
/-- a call of a builtin's method by values: the receiver, the arguments -/
def MtR (X : Cx) (id : String) (r : V → List V → Hp → VK → Prop) : Prop :=
  ∀ (pins : List (Addr × Obj)) (s : Shared) (σ : St) (H : Hp) (x : V) (xs : List V) (v : Value) (us : List Value) (Q : VK), Inv X pins σ H s → RelV x v → Vals xs us → r x xs H Q →
    wpAny (model X.prog X.w) X.A (call (.builtin id) (v :: us)) (EP X pins σ Q) X.xe s
section
variable {X : Cx} {a b : Expr} {ta tb : TE} {pos : Pos}
theorem IxR.or {r r' : R2} (h : IxR X r) (h' : IxR X r') : IxR X (fun x y H Q => r x y H Q ∨ r' x y H Q) := by
  intro value slice pins s σ H x y v u Q I rx ry q hs
  rcases q with q | q
  · exact h value slice pins s σ H x y v u Q I rx ry q hs
  · exact h' value slice pins s σ H x y v u Q I rx ry q hs
theorem MtR.or {id : String} {r r' : V → List V → Hp → VK → Prop} (h : MtR X id r) (h' : MtR X id r') : MtR X id (fun x xs H Q => r x xs H Q ∨ r' x xs H Q) := by
  intro pins s σ H x xs v us Q I rx rs q
  rcases q with q | q
  · exact h pins s σ H x xs v us Q I rx rs q
  · exact h' pins s σ H x xs v us Q I rx rs q
/-- a[b] -/
theorem pe_ix {r : R2} (hr : IxR X r) (ha : PE X a ta) (hb : PE X b tb) (hs : PlainIx b) : PE X (.Subscript a b pos) (tOp r ta tb) := by
  intro pins s σ H Q I h
  exact Subscript_ (binT ha hb I h fun v u s2 x y H2 I2 rx ry q => hr a b pins s2 σ H2 x y v u Q I2 rx ry q (hs _ _))

def rIxL (K : PySem.W.Frag) : R2 := fun x y H Q => ∃ p xs i v, x = .ref p ∧ y = .int i ∧ SqL K H p xs ∧ atI xs i = some v ∧ Q v H
def rIxT (K : PySem.W.Frag) : R2 := fun x y H Q => ∃ p xs i v, x = .ref p ∧ y = .int i ∧ SqT K H p xs ∧ atI xs i = some v ∧ Q v H
def rIxS : R2 := fun x y H Q => ∃ z i c, x = .str z ∧ y = .int i ∧ z.length ≤ sizeLine ∧ atI z.cps.toList i = some c ∧ Q (.str ⟨#[c]⟩) H
theorem ix_list : IxR X (rIxL X.K) := by
  intro value slice pins s σ H x y v u Q I rx ry h hs
  obtain ⟨p, xs, i, z, rfl, rfl, hq, he, q⟩ := h
  cases rx
  obtain ⟨t, rfl⟩ := ry
  obtain ⟨its, r, pl, hz⟩ := I.list hq
  obtain ⟨j, h1, h2, h3, h4, h5⟩ := atI_get he
  obtain ⟨w, ew, rw'⟩ := r.get h2
  have hl := r.length
  have hn := line63
  have fin : EP X pins σ Q w s := ⟨z, H, I, rw', q⟩
  by_cases h0 : 0 ≤ i
  · have hj : i.toNat = j := by
      rw [seqIndex_of h0 h5] at h1
      exact Option.some.inj h1
    exact item_listR pl.isList h0 (by omega) (by rw [hj]; simpa using ew) fin hs
  · have hj : (i + (its.toArray.size : Int)).toNat = j := by
      rw [seqIndex_neg (by omega) h4] at h1
      rw [List.size_toArray, ← hl]
      exact Option.some.inj h1
    exact subscriptTail_builtinR (x := w) pl.isList.typeIs slot_list_getitem.lookup
      (wpAny_getItem_list_neg (Q := fun r s' => r = w ∧ EP X pins σ Q r s') pl.isList (by omega) (by rw [List.size_toArray] <;> omega) (by omega) (by rw [hj]; simpa using ew) ⟨rfl, fin⟩) hs
theorem ix_tup : IxR X (rIxT X.K) := by
  intro value slice pins s σ H x y v u Q I rx ry h hs
  obtain ⟨p, xs, i, z, rfl, rfl, hq, he, q⟩ := h
  cases rx
  obtain ⟨t, rfl⟩ := ry
  obtain ⟨its, r, pl, hz⟩ := I.tuple hq
  obtain ⟨j, h1, h2, h3, h4, h5⟩ := atI_get he
  obtain ⟨w, ew, rw'⟩ := r.get h2
  have hl := r.length
  have hn := line63
  have fin : EP X pins σ Q w s := ⟨z, H, I, rw', q⟩
  exact subscriptTail_builtinR (x := w) pl.typeIs slot_tuple_getitem.lookup
    (getItem_tuple (j := j) (Q := fun r s' => r = w ∧ EP X pins σ Q r s') pl (by omega) (by omega) (by rw [List.size_toArray, ← hl]; exact h1) (by simpa using ew) ⟨rfl, fin⟩) hs
theorem ix_str : IxR X rIxS := by
  intro value slice pins s σ H x y v u Q I rx ry h hs
  obtain ⟨z, i, c, rfl, rfl, hz, he, q⟩ := h
  obtain ⟨t, rfl⟩ := rx
  obtain ⟨t', rfl⟩ := ry
  obtain ⟨j, h1, h2, h3, h4, h5⟩ := atI_get he
  have hl : z.cps.toList.length = z.length := by simp [Str.length]
  rw [hl] at h1 h4 h5
  have hn := line63
  exact tail_any (typeIs_str s z t) slot_str_getitem.lookup (getItem_str (c := c) (by
    have e1 : decide (i < -(2 ^ 63 : Int)) = false := decide_eq_false (by omega)
    have e2 : decide (i ≥ 2 ^ 63) = false := decide_eq_false (by omega)
    rw [e1, e2, Bool.or_false]) (by rw [h1]; simpa using h2) ⟨.str ⟨#[c]⟩, H, I.tok _, ⟨_, rfl⟩, q⟩) hs
/-! ### xs[i] = v, any sign -/
/-- the list's object behind a store -/
theorem mapSeq_set (its : List Value) (n j : Nat) (u : Value) : Obj.mapSeq (·.setIfInBounds j u) { cls := .type "list", data := .seq its.toArray n } = { cls := .type "list", data := .seq (its.set j u).toArray n } := by
  simp [Obj.mapSeq]
theorem Inv.lst {pins : List (Addr × Obj)} {σ : St} {H : Hp} {s : Shared} {p : Addr} {xs : List V} (I : Inv X pins σ H s) (h : H p = some (.lst xs)) :
    ∃ (its : List Value) (n : Nat), Vals xs its ∧ s.heap.get? p = some { cls := .type "list", data := .seq its.toArray n } ∧ xs.length ≤ sizeLine := by
  obtain ⟨z, its, n, r, e⟩ := I.hok p _ h
  exact ⟨its, n, r, e, z⟩
/-- the list at p is written by an update of its object -/
theorem Inv.lstUpd {pins : List (Addr × Obj)} {σ : St} {H : Hp} {s : Shared} {p : Addr} {xs ys : List V} {its its' : List Value} {n n' : Nat} {f : Obj → Obj} (I : Inv X pins σ H s) (h : H p = some (.lst xs))
    (ho : s.heap.get? p = some { cls := .type "list", data := .seq its.toArray n }) (hf : f { cls := .type "list", data := .seq its.toArray n } = { cls := .type "list", data := .seq its'.toArray n' }) (r : Vals ys its') (hz : ys.length ≤ sizeLine) (t : Nat) :
    Inv X pins σ (upd H p (.lst ys)) { s with heap := s.heap.update p f, toks := t } := by
  have e : (s.heap.update p f).get? p = some { cls := .type "list", data := .seq its'.toArray n' } := by
    rw [Heap.get?_update_self f ho (by rw [hf] <;> rfl), hf]
  refine I.write (x := p) (e := p) (by rw [h]; trivial) (.inl rfl) (fun b u hb q => (Heap.get?_update_other _ _ (Ne.symm hb)).trans q) ⟨_, e⟩ ?_
  exact ⟨hz, its', n', r, e⟩
def rSetL : V → V → V → Hp → (Hp → Prop) → Prop := fun o i v H Q => ∃ p xs k j, o = .ref p ∧ i = .int k ∧ H p = some (.lst xs) ∧ ixN xs.length k = some j ∧ Q (upd H p (.lst (xs.set j v)))
theorem set_list : PSet X rSetL := by
  intro pins s σ H o i v ov iv u Q I ro ri rv h
  obtain ⟨p, xs, k, j, rfl, rfl, hp, hj, q⟩ := h
  cases ro
  obtain ⟨t, rfl⟩ := ri
  obtain ⟨its, n, r, ho, hz⟩ := I.lst hp
  obtain ⟨h1, h2, h3, h4⟩ := ixN_seq hj
  have hl := r.length
  have hn := line63
  have I' : Inv X pins σ (upd H p (.lst (xs.set j v))) { s with heap := s.heap.update p (Obj.mapSeq (·.setIfInBounds j u)) } :=
    I.lstUpd hp ho (mapSeq_set its n j u) (r.set rv j) (by rw [List.length_set]; exact hz) s.toks
  by_cases h0 : 0 ≤ k
  · have hk : k.toNat = j := by
      rw [seqIndex_of h0 h4] at h1
      exact Option.some.inj h1
    exact PySem.W.ki_setAt ho h0 (by omega) (by rw [List.size_toArray, ← hl]; exact h4) (by rw [hk]; exact ⟨_, I', q⟩)
  · have hk : (k + (its.toArray.size : Int)).toNat = j := by
      rw [seqIndex_neg (by omega) h3] at h1
      rw [List.size_toArray, ← hl]
      exact Option.some.inj h1
    exact PySem.W.ki_setBack ho (by omega) (by rw [List.size_toArray, ← hl]; exact h3) (by omega) (by rw [hk]; exact ⟨_, I', q⟩)

/-! ### slices -/
theorem slice_bounds (lo hi : Option Int) (n : Nat) : (sliceBounds lo hi none n).1 = ((HT.sIx n 0 lo : Nat) : Int) ∧ (sliceBounds lo hi none n).2.1 = ((HT.sIx n n hi : Nat) : Int) ∧ (sliceBounds lo hi none n).2.2 = 1 := by
  refine ⟨?_, ?_, rfl⟩
  · cases lo with
    | none => simp [sliceBounds, HT.sIx]
    | some i =>
      simp only [sliceBounds, HT.sIx, Option.getD_none, show (1 : Int) > 0 by decide, if_true]
      by_cases h : i < 0
      · simp only [h, if_true] <;> omega
      · simp only [h, if_false] <;> omega
  · cases hi with
    | none => simp [sliceBounds, HT.sIx]
    | some i =>
      simp only [sliceBounds, HT.sIx, Option.getD_none, show (1 : Int) > 0 by decide, if_true]
      by_cases h : i < 0
      · simp only [h, if_true] <;> omega
      · simp only [h, if_false] <;> omega
theorem slicePick_cut (its : List Value) (lo hi : Option Int) : slicePick its.toArray lo hi none = ((its.drop (HT.sIx its.length 0 lo)).take (HT.sIx its.length its.length hi - HT.sIx its.length 0 lo)).toArray := by
  obtain ⟨h1, h2, h3⟩ := slice_bounds lo hi its.toArray.size
  unfold slicePick
  rw [h1, h2, h3]
  simp only [sliceRange_one, pick_run, List.size_toArray] <;> rfl
/-- xs[lo:hi] of a list: a new list -/
def rSlL (K : PySem.W.Frag) : V → Option Int → Option Int → Hp → VK → Prop := fun x lo hi H Q => ∃ a xs, x = .ref a ∧ SqL K H a xs ∧ ∀ p, H p = none → Q (.ref p) (upd H p (.lst (cutV xs lo hi)))
theorem sl_list : SlR X (rSlL X.K) := by
  intro pins s σ H x v vl vu lo hi sl Q I rx hs pl pu h
  obtain ⟨a, xs, rfl, hx, q⟩ := h
  cases rx
  obtain ⟨its, r, ht, hz⟩ := I.list hx
  have hlen := r.length
  refine ⟨"list", _, slot_list_getitem.lookup, ht.isList.typeIs, ?_⟩
  refine wpAny_getItem_list_slice ht.isList hs pl pu .none (by simp) ?_ (by rw [List.size_toArray] <;> omega)
  rw [slicePick_cut, ← hlen]
  refine ⟨.ref s.heap.objs.size, _, I.laid (t' := s.toks) (o := .lst (cutV xs lo hi)) (fun b ob q => Heap.get?_push_of_some _ q) (Nat.le_refl _) ?_, rfl, q _ (I.hok.fresh (Nat.le_refl _))⟩
  exact ⟨Nat.le_trans (cutV_length xs lo hi) hz, _, 0, (r.drop (HT.sIx xs.length 0 lo)).take (HT.sIx xs.length xs.length hi - HT.sIx xs.length 0 lo), Heap.get?_push_size _ rfl⟩

/-! ### in, not in: flat items -/
def flatV : V → Bool
  | .non => true
  | .bl _ => true
  | .int _ => true
  | .str _ => true
  | _ => false
/-- == of flat values -/
def eqV : V → V → Bool
  | .non, .non => true
  | .bl a, .bl b => a == b
  | .bl a, .int b => (if a then 1 else 0) == b
  | .int a, .bl b => a == (if b then 1 else 0)
  | .int a, .int b => a == b
  | .str a, .str b => a == b
  | _, _ => false
theorem eqAt_V {A : Around} {s : Shared} {y x : V} {u v : Value} (ry : RelV y u) (rx : RelV x v) (fy : flatV y = true) (fx : flatV x = true) : SeqAt.EqAt A s u v (eqV y x) := by
  cases y with
  | non =>
    cases ry
    cases x with
    | non => cases rx; exact SeqAt.EqAt.same _
    | bl b => cases rx; exact SeqAt.EqAt.none_bool b
    | int b => obtain ⟨t, rfl⟩ := rx; exact SeqAt.EqAt.none_int b t
    | str b => obtain ⟨t, rfl⟩ := rx; exact SeqAt.EqAt.none_str b t
    | _ => exact absurd (show false = true from fx) Bool.false_ne_true
  | bl a =>
    cases ry
    cases x with
    | non => cases rx; exact SeqAt.EqAt.bool_none a
    | bl b => cases rx; exact SeqAt.EqAt.bool_bool a b
    | int b => obtain ⟨t, rfl⟩ := rx; exact SeqAt.EqAt.bool_int a b t
    | str b => obtain ⟨t, rfl⟩ := rx; exact SeqAt.EqAt.bool_str a b t
    | _ => exact absurd (show false = true from fx) Bool.false_ne_true
  | int a =>
    obtain ⟨t', rfl⟩ := ry
    cases x with
    | non => cases rx; exact SeqAt.EqAt.int_none a t'
    | bl b => cases rx; exact SeqAt.EqAt.int_bool a t' b
    | int b => obtain ⟨t, rfl⟩ := rx; exact SeqAt.EqAt.int_int a t' b t
    | str b => obtain ⟨t, rfl⟩ := rx; exact SeqAt.EqAt.int_str a t' b t
    | _ => exact absurd (show false = true from fx) Bool.false_ne_true
  | str a =>
    obtain ⟨t', rfl⟩ := ry
    cases x with
    | non => cases rx; exact SeqAt.EqAt.str_none a t'
    | bl b => cases rx; exact SeqAt.EqAt.str_bool a t' b
    | int b => obtain ⟨t, rfl⟩ := rx; exact SeqAt.EqAt.str_int a t' b t
    | str b => obtain ⟨t, rfl⟩ := rx; exact SeqAt.EqAt.str_str a t' b t
    | _ => exact absurd (show false = true from fx) Bool.false_ne_true
  | _ => exact absurd (show false = true from fy) Bool.false_ne_true
/-! ### len, list(x), tuple(x) of any list or tuple that is read -/
theorem call_len_seq : CallR X (.builtin "len") (fun xs H Q => ∃ p ys, xs = [.ref p] ∧ (SqL X.K H p ys ∨ SqT X.K H p ys) ∧ Q (.int ys.length) H) := by
  intro pins s σ H xs us Q I r h
  obtain ⟨p, ys, rfl, hq, q⟩ := h
  obtain ⟨u, rfl, rx⟩ := vals1 r
  cases rx
  have hn := line63
  rcases hq with hq | hq
  · obtain ⟨its, r', pl, hz⟩ := I.list hq
    have hlen := r'.length
    exact Calls.call_len_list pl.isList (by simp only [List.size_toArray] <;> omega) ⟨.int ys.length, H, I.tok _, ⟨s.toks + 1, by rw [List.size_toArray, hlen]⟩, q⟩
  · obtain ⟨its, r', pl, hz⟩ := I.tuple hq
    have hlen := r'.length
    exact len_tuple pl (by simp only [List.size_toArray] <;> omega) ⟨.int ys.length, H, I.tok _, ⟨s.toks + 1, by rw [List.size_toArray, hlen]⟩, q⟩
theorem call_len_str : CallR X (.builtin "len") (fun xs H Q => ∃ z, xs = [.str z] ∧ z.length ≤ sizeLine ∧ Q (.int z.length) H) := by
  intro pins s σ H xs us Q I r h
  obtain ⟨z, rfl, hz, q⟩ := h
  obtain ⟨u, rfl, t, rfl⟩ := vals1 r
  have hn := line63
  exact len_str (by omega) ⟨.int z.length, H, I.tok _, ⟨_, rfl⟩, q⟩
theorem CallR.or {f : Value} {r r' : List V → Hp → VK → Prop} (h : CallR X f r) (h' : CallR X f r') : CallR X f (fun xs H Q => r xs H Q ∨ r' xs H Q) := by
  intro pins s σ H xs us Q I rs q
  rcases q with q | q
  · exact h pins s σ H xs us Q I rs q
  · exact h' pins s σ H xs us Q I rs q
theorem call_list_of : CallR X (.type "list") (fun xs H Q => ∃ p ys, xs = [.ref p] ∧ (SqL X.K H p ys ∨ SqT X.K H p ys) ∧ ∀ l, H l = none → Q (.ref l) (upd H l (.lst ys))) := by
  intro pins s σ H xs us Q I r h
  obtain ⟨p, ys, rfl, hq, q⟩ := h
  obtain ⟨u, rfl, rx⟩ := vals1 r
  cases rx
  have fin : ∀ (its : List Value), Vals ys its → ys.length ≤ sizeLine → ∀ (h' : Heap) (c' : Nat), (∀ b o', s.heap.get? b = some o' → h'.get? b = some o') →
      h'.get? s.heap.objs.size = some { cls := .type "list", dict := none, data := .seq its.toArray c', slots := #[] } → EP X pins σ Q (.ref s.heap.objs.size) { s with heap := h' } := fun its r' hz h' c' kp e =>
    ⟨.ref s.heap.objs.size, _, I.laid (t' := s.toks) kp (Nat.le_refl _) (show ObjOk X.prog X.w _ h' _ (.lst ys) from ⟨hz, its, c', r', e⟩), rfl, q _ (I.hok.fresh (Nat.le_refl _))⟩
  rcases hq with hq | hq
  · obtain ⟨its, r', pl, hz⟩ := I.list hq
    have hlen := r'.length
    obtain ⟨o, ho, hc, n, hd⟩ := pl.isList
    exact call_list_seq p (.inl rfl) ho hc hd (fun h' c' kp e => fin its r' hz h' c' kp e) (by simp only [List.size_toArray] <;> omega)
  · obtain ⟨its, r', pl, hz⟩ := I.tuple hq
    have hlen := r'.length
    obtain ⟨o, ho, hc, n, hd⟩ := pl
    exact call_list_seq p (.inr rfl) ho hc hd (fun h' c' kp e => fin its r' hz h' c' kp e) (by simp only [List.size_toArray] <;> omega)
theorem call_tuple_of : CallR X (.type "tuple") (fun xs H Q => ∃ p ys, xs = [.ref p] ∧ ((SqL X.K H p ys ∧ ∀ l, H l = none → Q (.ref l) (upd H l (.tup ys))) ∨ (SqT X.K H p ys ∧ Q (.ref p) H))) := by
  intro pins s σ H xs us Q I r h
  obtain ⟨p, ys, rfl, h⟩ := h
  obtain ⟨u, rfl, rx⟩ := vals1 r
  cases rx
  rcases h with ⟨hq, q⟩ | ⟨hq, q⟩
  · obtain ⟨its, r', pl, hz⟩ := I.list hq
    have hlen := r'.length
    refine call_tuple_list pl.isList (fun h' kp => ?_) (by simp only [List.size_toArray] <;> omega)
    have I1 : Inv X pins σ H { s with heap := h' } := I.kept (t' := s.toks) kp
    have I2 : Inv X pins σ (upd H h'.objs.size (.tup ys)) { s with heap := h'.push { cls := .type "tuple", data := .seq its.toArray } } :=
      I1.laid (t' := s.toks) (fun b o e => Heap.get?_push_of_some _ e) (Nat.le_refl _) (show ObjOk X.prog X.w _ _ _ (.tup ys) from ⟨hz, its, r', IsTup.new _ _⟩)
    exact ⟨.ref h'.objs.size, _, I2, rfl, q _ (I1.hok.fresh (Nat.le_refl _))⟩
  · obtain ⟨its, r', pl, hz⟩ := I.tuple hq
    exact call_tuple_same pl ⟨.ref p, H, I, rfl, q⟩

/-! ### the call of a builtin's method: o.m(..) -/
/-- the value is of that builtin type -/
def tyV (K : PySem.W.Frag) (T : String) (x : V) (H : Hp) : Prop := match x with
  | .str _ => T = "str"
  | .int _ => T = "int"
  | .ref p => (T = "list" ∧ ∃ xs, SqL K H p xs) ∨ (T = "tuple" ∧ ∃ o, K.lookup p = some o ∧ o.cls = .type "tuple" ∧ o.dict = none) ∨
      (T = "dict" ∧ ((∃ kvs, H p = some (.dK kvs)) ∨ ∃ kvs, H p = some (.dT kvs))) ∨ (T = "set" ∧ ∃ S n, H p = some (.set S n))
  | _ => False
theorem tyV_is {pins : List (Addr × Obj)} {σ : St} {H : Hp} {s : Shared} {T : String} {x : V} {v : Value} (I : Inv X pins σ H s) (r : RelV x v) (ty : tyV X.K T x H) :
    s.TypeIs v T ∧ ∀ a, v = .ref a → ∃ ob, s.heap.get? a = some ob ∧ ob.dict = none := by
  cases x with
  | str z =>
    obtain ⟨t, rfl⟩ := r
    cases (show T = "str" from ty)
    exact ⟨typeIs_str s z t, fun _ e => nomatch e⟩
  | int i =>
    obtain ⟨t, rfl⟩ := r
    cases (show T = "int" from ty)
    exact ⟨typeIs_int s i t, fun _ e => nomatch e⟩
  | ref p =>
    cases r
    rcases ty with ⟨rfl, xs, hq⟩ | ⟨rfl, o, hk, hc, hd⟩ | ⟨rfl, hk⟩ | ⟨rfl, S, n, hk⟩
    · obtain ⟨its, _, pl, _⟩ := I.list hq
      refine ⟨pl.isList.typeIs, fun a e => ?_⟩
      cases e
      obtain ⟨o, n, e, c, hd, _⟩ := pl
      exact ⟨o, e, hd⟩
    · refine ⟨⟨o, I.kIn p o hk, hc⟩, fun a e => ?_⟩
      cases e
      exact ⟨o, I.kIn _ o hk, hd⟩
    · have z : ∃ o, s.heap.get? p = some o ∧ o.ExactDict := by
        rcases hk with ⟨kvs, hk⟩ | ⟨kvs, hk⟩
        · obtain ⟨_, _, _, _, o, _, _, e, ex, _⟩ := I.hok p _ hk
          exact ⟨o, e, ex⟩
        · obtain ⟨_, _, _, _, o, _, _, e, ex, _⟩ := I.hok p _ hk
          exact ⟨o, e, ex⟩
      obtain ⟨o, e, ex⟩ := z
      refine ⟨⟨o, e, ex.1⟩, fun a e2 => ?_⟩
      cases e2
      exact ⟨o, e, ex.2.1⟩
    · obtain ⟨o, _, _, _, e, ex, _⟩ := I.hok p _ hk
      refine ⟨⟨o, e, ex.1⟩, fun a e2 => ?_⟩
      cases e2
      exact ⟨o, e, ex.2.1⟩
  | _ => exact False.elim ty
def tBM0 (K : PySem.W.Frag) (T : String) (r : V → List V → Hp → VK → Prop) (to : TE) : TE := fun σ H Q => to σ H fun x H1 => tyV K T x H1 ∧ r x [] H1 Q
def tBM (K : PySem.W.Frag) (T : String) (r : V → List V → Hp → VK → Prop) (to : TE) (t : TA) : TE := fun σ H Q => to σ H fun x H1 => tyV K T x H1 ∧ t σ H1 fun xs H2 => r x xs H2 Q
variable {o e : Expr} {es : List Expr} {to : TE} {t : TA} {name : Str} {apos cpos : Pos} {T id : String} {r : V → List V → Hp → VK → Prop}
theorem pe_bm0 (pa : PlainAttrs T) (slot : Slot T name id) (hty : typeOf (.builtin id) = pure (.type "method_descriptor")) (hm : MtR X id r) (ho : PE X o to)
    (hbase : attributeBase o name X.env (eval o X.env) = eval o X.env := by rfl) (hline : (apos.endLine == cpos.line) = true := by rfl) : PE X (.Call (.Attribute o name apos) [] [] cpos) (tBM0 X.K T r to) := by
  intro pins s σ H Q I h
  refine wpAny_Call_method0_late hbase hline (thn (ho pins s σ H _ I h) fun v s1 ⟨x, H1, I1, r1, ty, q1⟩ => ?_)
  obtain ⟨h1, h2⟩ := tyV_is I1 r1 ty
  exact ⟨T, id, pa, slot, hty, h1, h2, Calls.callWith_builtin rfl (PySem.evalArgs_none (hm pins s1 σ H1 x [] v [] Q I1 r1 .nil q1))⟩
theorem pe_bm (pa : PlainAttrs T) (slot : Slot T name id) (hty : typeOf (.builtin id) = pure (.type "method_descriptor")) (hm : MtR X id r) (ho : PE X o to) (ha : PA X (e :: es) t)
    (hbase : attributeBase o name X.env (eval o X.env) = eval o X.env := by rfl)
    (hfew : ((backTo cpos (starEach (e :: es) X.env)).all (fun x => !x.1) && (backToKw cpos (keywordEach [] X.env)).all (fun x => x.1.isSome)
      && decide ((e :: es).length + ([] : List Keyword).length + (if ([] : List Keyword).isEmpty then 0 else 1) < 30)) = true := by rfl)
    (hline : (apos.endLine == cpos.line) = true := by rfl) (hs : starEach (e :: es) X.env = (false, eval e X.env) :: starEach es X.env := by rfl) (hplain : (backTo cpos (starEach es X.env)).any (·.1) = false := by rfl) :
    PE X (.Call (.Attribute o name apos) (e :: es) [] cpos) (tBM X.K T r to t) := by
  intro pins s σ H Q I h
  refine wpAny_Call_method_late hbase hfew hline rfl (thn (ho pins s σ H _ I h) fun v s1 ⟨x, H1, I1, r1, ty, q1⟩ => ?_)
  obtain ⟨h1, h2⟩ := tyV_is I1 r1 ty
  refine ⟨T, id, pa, slot, hty, h1, h2, ?_⟩
  have hA := ha cpos pins s1 σ H1 _ I1 q1
  rw [hs] at hA ⊢
  refine Calls.callWith_builtin (by show (false || (backTo cpos (starEach es X.env)).any (·.1)) = false; rw [hplain] <;> rfl) (Calls.evalArgs_plain ?_)
  exact thn hA fun us s2 ⟨vs, H2, I2, r2, q2⟩ => hm pins s2 σ H2 x vs v us Q I2 r1 r2 q2
/- xs.append(e), list.index on a module's tuple .. are MtR facts of 06m -/
end
end L2

namespace L2
open PySem PySem.Spec PyProof.Rows

def MtM (X : Cx) (id : String) (r : V → List V → Hp → VK → Prop) : Prop :=
  ∀ (pins : List (Addr × Obj)) (s : Shared) (σ : St) (H : Hp) (x : V) (xs : List V) (v : Value) (us : List Value) (Q : VK), Inv X pins σ H s → RelV x v → Vals xs us → r x xs H Q →
    wpAny (model X.prog X.w) X.A (call (.builtin id) (v :: us)) (EP X pins σ Q) X.xe s

/-! ### lists of values -/
theorem Vals.one : ∀ {x : V} {us : List Value}, Vals [x] us → ∃ u, us = [u] ∧ RelV x u
  | _, _, .cons r .nil => ⟨_, rfl, r⟩
theorem Vals.two : ∀ {x y : V} {us : List Value}, Vals [x, y] us → ∃ u v, us = [u, v] ∧ RelV x u ∧ RelV y v
  | _, _, _, .cons r (.cons q .nil) => ⟨_, _, rfl, r, q⟩
theorem Vals.zero : ∀ {us : List Value}, Vals [] us → us = []
  | _, .nil => rfl
theorem Vals.dropLast {xs : List V} {us : List Value} (h : Vals xs us) : Vals xs.dropLast us.dropLast := by
  induction h with
  | nil => exact .nil
  | cons r t ih =>
    cases t with
    | nil => exact .nil
    | cons q t' => exact .cons r ih
theorem Vals.eraseIdx : ∀ {xs : List V} {us : List Value} (i : Nat), Vals xs us → Vals (xs.eraseIdx i) (us.eraseIdx i)
  | _, _, _, .nil => .nil
  | _, _, 0, .cons _ t => t
  | _, _, i + 1, .cons r t => .cons r (Vals.eraseIdx i t)
theorem Vals.rep {xs : List V} {us : List Value} (h : Vals xs us) : ∀ k : Nat, Vals (List.replicate k xs).flatten (List.replicate k us).flatten
  | 0 => .nil
  | k + 1 => by
    rw [List.replicate_succ, List.replicate_succ, List.flatten_cons, List.flatten_cons]
    exact Vals.append h (Vals.rep h k)
theorem erase_last {α : Type} (l : List α) : l.eraseIdx (l.length - 1) = l.dropLast := by
  induction l with
  | nil => rfl
  | cons a r ih =>
    cases r with
    | nil => rfl
    | cons b r =>
      have e : (a :: b :: r).length - 1 = ((b :: r).length - 1) + 1 := by
        have h1 : (a :: b :: r).length = r.length + 2 := rfl
        have h2 : (b :: r).length = r.length + 1 := rfl
        omega
      rw [e, List.eraseIdx_cons_succ, ih]
      all_goals rfl
theorem len_erase {α : Type} : ∀ (l : List α) (i : Nat), (l.eraseIdx i).length ≤ l.length
  | [], _ => Nat.le_refl _
  | _ :: _, 0 => Nat.le_succ _
  | _ :: r, i + 1 => Nat.succ_le_succ (len_erase r i)
theorem foldl_rep (its : List Value) : ∀ (k : Nat) (acc : List Value),
    List.foldl (fun x1 x2 => x1 ++ x2) acc.toArray (List.replicate k its.toArray) = (acc ++ (List.replicate k its).flatten).toArray
  | 0, acc => by simp
  | k + 1, acc => by
    have e : acc.toArray ++ its.toArray = (acc ++ its).toArray := by simp
    have e2 : (acc ++ its) ++ (List.replicate k its).flatten = acc ++ (List.replicate (k + 1) its).flatten := by
      rw [List.replicate_succ, List.flatten_cons, List.append_assoc]
    rw [← e2, ← foldl_rep its k (acc ++ its), ← e, List.replicate_succ, List.foldl_cons]

section
variable {X : Cx} {pins : List (Addr × Obj)} {σ : St} {H : Hp} {s : Shared} {l b : Addr} {xs ys zs : List V}

/-! ### the two steps: a tracked list is rewritten, a new list is laid -/
theorem Inv.lset {its its' : List Value} {n : Nat} {f : Array Value → Array Value} {t' : Nat} (I : Inv X pins σ H s) (hH : H l = some (.lst xs))
    (e : s.heap.get? l = some { cls := .type "list", data := .seq its.toArray n }) (hf : f its.toArray = its'.toArray) (hv : Vals ys its') (hz : ys.length ≤ sizeLine) :
    Inv X pins σ (upd H l (.lst ys)) { s with heap := s.heap.update l (Obj.mapSeq f), toks := t' } := by
  have q := PySem.IsL.update e f
  rw [hf] at q
  refine I.write (x := l) (e := l) (by rw [hH]; exact trivial) (.inl rfl) (fun b' u hb hu => (Heap.get?_update_other s.heap (Obj.mapSeq f) (Ne.symm hb)).trans hu) ⟨_, q⟩ ?_
  exact ⟨hz, its', _, hv, q⟩
theorem Inv.lnew {its : List Value} {t' : Nat} (I : Inv X pins σ H s) (hv : Vals ys its) (hz : ys.length ≤ sizeLine) :
    Inv X pins σ (upd H s.heap.objs.size (.lst ys)) { s with heap := s.heap.push { cls := .type "list", data := .seq its.toArray }, toks := t' } :=
  I.laid (fun _ _ q => Heap.get?_push_of_some _ q) (Nat.le_refl _) ⟨hz, its, 0, hv, Heap.get?_push_size _ rfl⟩
theorem Inv.fresh (I : Inv X pins σ H s) : H s.heap.objs.size = none := I.hok.fresh (Nat.le_refl _)
theorem Inv.lstM (I : Inv X pins σ H s) (hH : H l = some (.lst xs)) : xs.length ≤ sizeLine ∧ ∃ (its : List Value) (n : Nat), Vals xs its ∧ xs.length = its.length ∧ s.heap.get? l = some { cls := .type "list", data := .seq its.toArray n } := by
  obtain ⟨z, its, n, r, e⟩ := I.hok l _ hH
  exact ⟨z, its, n, r, r.length, e⟩

theorem notLongL {n : Nat} (h : n ≤ sizeLine) : Builtin.List.listTooLong n = false := by
  unfold Builtin.List.listTooLong
  exact decide_eq_false (by omega)
end

section
variable {X : Cx}

/-! ### methods -/
def rPop : V → List V → Hp → VK → Prop := fun x vs H Q => ∃ l xs y, x = .ref l ∧ vs = [] ∧ H l = some (.lst xs) ∧ xs[xs.length - 1]? = some y ∧ Q y (upd H l (.lst xs.dropLast))
theorem mt_pop : MtM X "list.pop" rPop := by
  intro pins s σ H x vs v us Q I rx rv h
  obtain ⟨l, xs, y, rfl, rfl, hH, hy, q⟩ := h
  cases rx
  have hus := rv.zero
  subst hus
  obtain ⟨z, its, n, r, hl, e⟩ := I.lstM hH
  obtain ⟨u, hu, ru⟩ := r.get hy
  have hy' : its.toArray[its.toArray.size - 1]? = some u := by
    show its.toArray[its.length - 1]? = some u
    rw [← Array.getElem?_toList, ← hl]
    exact hu
  refine call_meets F.slot_list_pop ⟨_, e, rfl⟩ F.entry_list_pop (F.args_list_pop_1 _) (MeetsSeq.list_pop_last l its.toArray n u hy' (by rw [List.size_toArray]; omega)) ⟨e, ?_⟩
  refine ⟨y, _, I.lset (its' := its.dropLast) hH e ?_ r.dropLast ?_, ru, q⟩
  · show its.toArray.eraseIdxIfInBounds (its.toArray.size - 1) = its.dropLast.toArray
    rw [List.size_toArray, List.eraseIdxIfInBounds_toArray, erase_last]
  · rw [List.length_dropLast]
    omega

def rPopAt : V → List V → Hp → VK → Prop := fun x vs H Q => ∃ l xs i k y, x = .ref l ∧ vs = [.int i] ∧ H l = some (.lst xs) ∧ -(2 ^ 63) ≤ i ∧ i < 2 ^ 63 ∧ seqIndex? i xs.length = some k ∧ xs[k]? = some y ∧ Q y (upd H l (.lst (xs.eraseIdx k)))
theorem mt_popAt : MtM X "list.pop" rPopAt := by
  intro pins s σ H x vs v us Q I rx rv h
  obtain ⟨l, xs, i, k, y, rfl, rfl, hH, h1, h2, hk, hy, q⟩ := h
  cases rx
  obtain ⟨u, rfl, ru⟩ := rv.one
  obtain ⟨t, rfl⟩ := ru
  obtain ⟨z, its, n, r, hl, e⟩ := I.lstM hH
  obtain ⟨w, hw, rw'⟩ := r.get hy
  refine call_meets F.slot_list_pop ⟨_, e, rfl⟩ F.entry_list_pop (F.args_list_pop_2 _ _)
    (MeetsSeq.list_pop_at l its.toArray n i t k w (fitsIndex_both h1 h2) (by rw [List.size_toArray, ← hl]; exact hk) (by rw [← Array.getElem?_toList]; exact hw) (by rw [List.size_toArray]; omega)) ⟨e, ?_⟩
  refine ⟨y, _, I.lset (its' := its.eraseIdx k) hH e ?_ (r.eraseIdx k) ?_, rw', q⟩
  · show its.toArray.eraseIdxIfInBounds k = (its.eraseIdx k).toArray
    rw [List.eraseIdxIfInBounds_toArray]
  · have := len_erase xs k
    omega

def rClear : V → List V → Hp → VK → Prop := fun x vs H Q => ∃ l xs, x = .ref l ∧ vs = [] ∧ H l = some (.lst xs) ∧ Q .non (upd H l (.lst []))
theorem mt_clear : MtM X "list.clear" rClear := by
  intro pins s σ H x vs v us Q I rx rv h
  obtain ⟨l, xs, rfl, rfl, hH, q⟩ := h
  cases rx
  have hus := rv.zero
  subst hus
  obtain ⟨z, its, n, r, hl, e⟩ := I.lstM hH
  refine call_meets F.slot_list_clear ⟨_, e, rfl⟩ F.entry_list_clear (F.args_list_clear_1 _) (AutoSeq1.list_clear_list_0 l its.toArray n (by rw [List.size_toArray]; omega)) ⟨e, ?_⟩
  exact ⟨.non, _, I.lset (its' := []) (ys := []) hH e rfl .nil (Nat.zero_le _), rfl, q⟩

/-! ### list + list, list += list, list * int -/
def rCat : R2 := fun x y H Q => ∃ l b xs zs, x = .ref l ∧ y = .ref b ∧ H l = some (.lst xs) ∧ H b = some (.lst zs) ∧ xs.length + zs.length ≤ sizeLine ∧ ∀ p, H p = none → Q (.ref p) (upd H p (.lst (xs ++ zs)))
theorem op_cat : OpR X (binaryOp .Add) rCat := by
  intro pins s σ H x y v u Q I rx ry h
  obtain ⟨l, b, xs, zs, rfl, rfl, hH, hB, hz, q⟩ := h
  cases rx
  cases ry
  obtain ⟨z, its, n, r, hl, e⟩ := I.lstM hH
  obtain ⟨z2, its2, n2, r2, hl2, e2⟩ := I.lstM hB
  refine PySem.P.add_list e e2 ?_ (by rw [List.size_toArray, List.size_toArray]; omega)
  have ea : its.toArray ++ its2.toArray = (its ++ its2).toArray := by simp
  rw [ea]
  exact ⟨.ref _, _, I.lnew (t' := s.toks) (r.append r2) (by rw [List.length_append]; omega), rfl, q _ I.fresh⟩
/-- a list times an int (a negative one is nothing) -/
def rRep : R2 := fun x y H Q => ∃ l k xs, x = .ref l ∧ y = .int k ∧ H l = some (.lst xs) ∧ -(2 ^ 63) ≤ k ∧ k < 2 ^ 63 ∧ xs.length * k.toNat ≤ sizeLine ∧
  ∀ p, H p = none → Q (.ref p) (upd H p (.lst (List.replicate k.toNat xs).flatten))
theorem len_rep {α : Type} (xs : List α) (k : Nat) : (List.replicate k xs).flatten.length = k * xs.length := by
  induction k with
  | zero => simp
  | succ k ih => rw [List.replicate_succ, List.flatten_cons, List.length_append, ih, Nat.succ_mul, Nat.add_comm]
theorem op_rep : OpR X (binaryOp .Mult) rRep := by
  intro pins s σ H x y v u Q I rx ry h
  obtain ⟨l, k, xs, rfl, rfl, hH, h1, h2, hz, q⟩ := h
  cases rx
  obtain ⟨t, rfl⟩ := ry
  obtain ⟨z, its, n, r, hl, e⟩ := I.lstM hH
  have hlen : its.toArray.size * k.toNat ≤ sizeLine := by rw [List.size_toArray, ← hl]; exact hz
  have hcap : ¬ its.toArray.size * k.toNat > (2 ^ 63 - 1) / 8 := by
    have : (sizeLine : Nat) ≤ (2 ^ 63 - 1) / 8 := by decide
    omega
  have hfit : ¬ (!Builtin.List.listFitsIndex k) = true := by
    rw [fitsIndex_both h1 h2]
    exact Bool.false_ne_true
  have hlong : ¬ Builtin.List.listTooLong (its.toArray.size * k.toNat) = true := by
    rw [notLongL hlen]
    exact Bool.false_ne_true
  have hnew : List.foldl (fun x1 x2 => x1 ++ x2) #[] (List.replicate (if its.toArray.isEmpty = true then 0 else k.toNat) its.toArray) = (List.replicate k.toNat its).flatten.toArray := by
    have f0 : ∀ m : Nat, List.foldl (fun x1 x2 => x1 ++ x2) #[] (List.replicate m its.toArray) = (List.replicate m its).flatten.toArray := fun m => by
      have := foldl_rep its m []
      rw [List.nil_append] at this
      exact this
    rw [f0]
    cases its with
    | nil => simp
    | cons a r' => rw [if_neg (by simp)]
  refine wpAny_binaryOp_repeat_ref (T := "list") (U := "int") (by decide) ⟨_, e, rfl⟩ (fun s' => typeIs_int s' k t) noFill_list_mul F.fills_int_mul F.slot_int_rmul repeat_list F.slot_int_index.lookup
    (call_meets F.slot_int_rmul (typeIs_int s k t) F.entry_int_rmul (F.args_int_rmul_2 _ _) (int___rmul___int_list k t l its.toArray n)
      ⟨e, rfl, ⟨_, e, rfl⟩, call_meets F.slot_list_mul ⟨_, e, rfl⟩ F.entry_list_mul (F.args_list_mul_2 _ _) (AutoListH.list___mul___list_int_3 l its.toArray n k t hfit hcap hlong) ⟨e, ?_⟩⟩)
  rw [hnew]
  exact ⟨.ref _, _, I.lnew (t' := s.toks) (r.rep k.toNat) (by rw [len_rep, Nat.mul_comm]; exact hz), rfl, q _ I.fresh⟩

/-! ### del xs[i] -/
end

/-! ### xs[a:b] = ys -/
section
variable {prog : Program} {w : World} {A : Around} {E : Value → Shared → Prop} {s : Shared}
end

section
variable {X : Cx}
end
end L2

namespace L2
open PySem PySem.Spec PyProof.Rows

/-! ### lists of pairs as tables -/
section
variable {κ : Type} [DecidableEq κ]
def valV (kvs : List (κ × V)) (k : κ) : Option V := (kvs.find? fun kv => decide (kv.1 = k)).map (·.2)
/-- in its place, or at the end -/
def putK (kvs : List (κ × V)) (k : κ) (v : V) : List (κ × V) :=
  if (kvs.any fun kv => decide (kv.1 = k)) = true then kvs.map (fun kv => if kv.1 = k then (kv.1, v) else kv) else kvs ++ [(k, v)]
def dropK (kvs : List (κ × V)) (k : κ) : List (κ × V) := kvs.filter fun kv => decide (kv.1 ≠ k)

theorem valV_pos {p : κ × V} {r : List (κ × V)} {k : κ} (e : p.1 = k) : valV (p :: r) k = some p.2 := by simp [valV, List.find?_cons, e]
theorem valV_neg {p : κ × V} {r : List (κ × V)} {k : κ} (e : ¬ p.1 = k) : valV (p :: r) k = valV r k := by simp [valV, List.find?_cons, e]
theorem valV_any (k : κ) : ∀ kvs : List (κ × V), (kvs.any fun kv => decide (kv.1 = k)) = (valV kvs k).isSome
  | [] => rfl
  | p :: r => by
    rw [List.any_cons]
    by_cases e : p.1 = k
    · simp only [valV_pos e, decide_eq_true e, Bool.true_or, Option.isSome_some]
    · rw [valV_neg e, decide_eq_false e, Bool.false_or]; exact valV_any k r
theorem length_putK (kvs : List (κ × V)) (k : κ) (v : V) : (putK kvs k v).length ≤ kvs.length + 1 := by
  unfold putK
  split
  · rw [List.length_map]; omega
  · rw [List.length_append, List.length_cons, List.length_nil]; omega
theorem RelO.isSome_eq {o : Option V} {u : Option Value} (r : RelO o u) : o.isSome = u.isSome := by
  cases o with
  | none => cases u with
    | none => rfl
    | some _ => exact (show False from r).elim
  | some _ => cases u with
    | none => exact (show False from r).elim
    | some _ => rfl
theorem RelO.getD {o : Option V} {u : Option Value} {d : V} {d' : Value} (r : RelO o u) (rd : RelV d d') : RelV (o.getD d) (u.getD d') := by
  cases o with
  | none => cases u with
    | none => exact rd
    | some _ => exact (show False from r).elim
  | some _ => cases u with
    | none => exact (show False from r).elim
    | some _ => exact r

/-- raw tables of the same keys -/
theorem KV.val {kvs : List (κ × V)} {vs : List (κ × Value)} (r : KV kvs vs) (k : κ) : RelO (valV kvs k) (valueAt vs k) := by
  unfold KV at r
  induction r with
  | nil => exact True.intro
  | @cons p q ps qs h t ih =>
    obtain ⟨h1, h2⟩ := h
    by_cases e : p.1 = k
    · have e' : q.1 = k := h1.symm.trans e
      have b : valueAt (q :: qs) k = some q.2 := by simp [valueAt, List.find?_cons, e']
      rw [valV_pos e, b]; exact h2
    · have e' : ¬ q.1 = k := fun z => e (h1.trans z)
      have b : valueAt (q :: qs) k = valueAt qs k := by simp [valueAt, List.find?_cons, e']
      rw [valV_neg e, b]; exact ih
theorem KV.any {kvs : List (κ × V)} {vs : List (κ × Value)} (r : KV kvs vs) (k : κ) : (kvs.any fun kv => decide (kv.1 = k)) = vs.any fun kv => decide (kv.1 = k) := by
  unfold KV at r
  induction r with
  | nil => rfl
  | cons h t ih => rw [List.any_cons, List.any_cons, ih, h.1]
theorem KV.repl {kvs : List (κ × V)} {vs : List (κ × Value)} (r : KV kvs vs) (k : κ) {y : V} {u : Value} (ry : RelV y u) :
    KV (kvs.map fun kv => if kv.1 = k then (kv.1, y) else kv) (vs.map fun kv => if kv.1 = k then (kv.1, u) else kv) := by
  unfold KV at r ⊢
  induction r with
  | nil => exact .nil
  | @cons p q ps qs h t ih =>
    rw [List.map_cons, List.map_cons]
    refine .cons ?_ ih
    obtain ⟨h1, h2⟩ := h
    by_cases e : p.1 = k
    · rw [if_pos e, if_pos (h1.symm.trans e)]; exact ⟨h1, ry⟩
    · rw [if_neg e, if_neg (fun z => e (h1.trans z))]; exact ⟨h1, h2⟩
theorem KV.put {kvs : List (κ × V)} {vs : List (κ × Value)} (r : KV kvs vs) (k : κ) {y : V} {u : Value} (ry : RelV y u) : KV (putK kvs k y) (stored vs k u) := by
  unfold putK stored
  rw [r.any k]
  by_cases e : (vs.any fun kv => decide (kv.1 = k)) = true
  · rw [if_pos e, if_pos e]; exact r.repl k ry
  · rw [if_neg e, if_neg e]; exact Paired.snoc r ⟨rfl, ry⟩
theorem KV.drop {kvs : List (κ × V)} {vs : List (κ × Value)} (r : KV kvs vs) (k : κ) : KV (dropK kvs k) (without vs k) := by
  unfold KV at r ⊢
  unfold dropK without
  induction r with
  | nil => exact .nil
  | @cons p q ps qs h t ih =>
    obtain ⟨h1, h2⟩ := h
    rw [List.filter_cons, List.filter_cons]
    by_cases e : p.1 = k
    · have a : ¬ decide (p.1 ≠ k) = true := by simp [e]
      have b : ¬ decide (q.1 ≠ k) = true := by simp [h1.symm.trans e]
      rw [if_neg a, if_neg b]; exact ih
    · have e' : ¬ q.1 = k := fun z => e (h1.trans z)
      have a : decide (p.1 ≠ k) = true := by simp [e]
      have b : decide (q.1 ≠ k) = true := by simp [e']
      rw [if_pos a, if_pos b]; exact .cons ⟨h1, h2⟩ ih
theorem KV.keys {kvs : List (κ × V)} {vs : List (κ × Value)} (r : KV kvs vs) : kvs.map (·.1) = vs.map (·.1) := by
  unfold KV at r
  induction r with
  | nil => rfl
  | cons h t ih => rw [List.map_cons, List.map_cons, ih, h.1]
theorem KV.length {kvs : List (κ × V)} {vs : List (κ × Value)} (r : KV kvs vs) : kvs.length = vs.length := Paired.length r
end


/-! ### a tracked dict, its keys ints and texts or tuples of these -/
theorem kV_is {P : Program} {w : World} {k : Key} {u : Value} (r : RelV (kV k) u) : (mixKind P w).is k u = true := by
  cases k with
  | inl i => obtain ⟨t, e⟩ := (show ∃ t, u = Value.int i t from r); subst e; exact mixKind_int P w i t
  | inr x => obtain ⟨t, e⟩ := (show ∃ t, u = Value.str x t from r); subst e; exact mixKind_str P w x t
theorem items_are {P : Program} {w : World} : ∀ {ks : List Key} {us : List Value}, Vals (ks.map kV) us → ItemsAre (mixKind P w) ks us
  | [], _, r => by rw [List.map_nil] at r; cases r; exact .nil
  | k :: ks, _, r => by
    rw [List.map_cons] at r
    cases r with
    | cons h t => exact .cons (kV_is h) (items_are t)

/-- raw entries of a dict with tuple keys -/
abbrev KT (H : Hp) : List (List Key × V) → List (List Key × Addr × Value) → Prop := Paired fun p q => p.1 = q.1 ∧ H q.2.1 = some (.tup (p.1.map kV)) ∧ RelV p.2 q.2.2
theorem KT.val {H : Hp} {kvs : List (List Key × V)} {xs : List (List Key × Addr × Value)} (r : KT H kvs xs) (k : List Key) : RelO (valV kvs k) ((atKey xs k).map (·.2)) := by
  induction r with
  | nil => exact True.intro
  | @cons p q ps qs h t ih =>
    obtain ⟨h1, _, h2⟩ := h
    by_cases e : p.1 = k
    · have e' : q.1 = k := h1.symm.trans e
      have b : atKey (q :: qs) k = some q.2 := by simp [atKey, List.find?_cons, e']
      rw [valV_pos e, b]; exact h2
    · have e' : ¬ q.1 = k := fun z => e (h1.trans z)
      have b : atKey (q :: qs) k = atKey qs k := by simp [atKey, List.find?_cons, e']
      rw [valV_neg e, b]; exact ih
theorem KT.repl {H : Hp} {kvs : List (List Key × V)} {xs : List (List Key × Addr × Value)} (r : KT H kvs xs) (k : List Key) {y : V} {u : Value} (ry : RelV y u) :
    KT H (kvs.map fun kv => if kv.1 = k then (kv.1, y) else kv) (xs.map (putAt k u)) := by
  induction r with
  | nil => exact .nil
  | @cons p q ps qs h t ih =>
    rw [List.map_cons, List.map_cons]
    refine .cons ?_ ih
    obtain ⟨h1, h2, h3⟩ := h
    unfold putAt
    by_cases e : p.1 = k
    · rw [if_pos e, if_pos (h1.symm.trans e)]; exact ⟨h1, h2, ry⟩
    · rw [if_neg e, if_neg (fun z => e (h1.trans z))]; exact ⟨h1, h2, h3⟩
theorem KT.put {H : Hp} {kvs : List (List Key × V)} {xs : List (List Key × Addr × Value)} (r : KT H kvs xs) (k : List Key) {b : Addr} {y : V} {u : Value} (hb : H b = some (.tup (k.map kV))) (ry : RelV y u) :
    KT H (putK kvs k y) (storedH xs k b u) := by
  have e : (kvs.any fun kv => decide (kv.1 = k)) = (atKey xs k).isSome := by
    rw [valV_any, (r.val k).isSome_eq, Option.isSome_map]
  unfold putK storedH
  rw [e]
  by_cases q : (atKey xs k).isSome = true
  · rw [if_pos q, if_pos q]; exact r.repl k ry
  · rw [if_neg q, if_neg q]; exact Paired.snoc r ⟨rfl, hb, ry⟩
theorem KT.keeps {H H' : Hp} {kvs : List (List Key × V)} {xs : List (List Key × Addr × Value)} (r : KT H kvs xs) (ht : ∀ b ys, H b = some (.tup ys) → H' b = some (.tup ys)) : KT H' kvs xs :=
  Paired.mapP r fun _ _ z => ⟨z.1, ht _ _ z.2.1, z.2.2⟩

section
variable {P : Program} {w : World} {H : Hp} {h : Heap} {a : Addr}
theorem rd_of {u : HO} (ok : HOk P w H h) (e : Rd H a u) : ObjOk P w H h a u := e.ok ok
theorem dk_rd {kvs : List (Key × V)} (ok : HOk P w H h) (e : Rd H a (.dK kvs)) : kvs.length ≤ sizeLine ∧ (a == sysModules) = false ∧ ∃ vs, KV kvs vs ∧ h.DictOf (mixKind P w) a vs :=
  show ObjOk P w H h a (.dK kvs) from rd_of ok e
theorem dk_of {kvs : List (Key × V)} (ok : HOk P w H h) (e : H a = some (.dK kvs)) : kvs.length ≤ sizeLine ∧ (a == sysModules) = false ∧ ∃ vs, KV kvs vs ∧ h.DictOf (mixKind P w) a vs := dk_rd ok (.inl e)
/-- a tracked tuple of ints and texts is a key -/
theorem key_of {ks : List Key} (ok : HOk P w H h) (e : H a = some (.tup (ks.map kV))) : (tupleKind (mixKind P w)).is h ks a := by
  obtain ⟨_, its, r, o, h1, h2, n, h3⟩ := (show ObjOk P w H h a (.tup (ks.map kV)) from ok a _ e)
  exact ⟨o, its.toArray, n, h1, h2, h3, by simpa using items_are r⟩
theorem dt_rd {kvs : List (List Key × V)} (ok : HOk P w H h) (e : Rd H a (.dT kvs)) : kvs.length ≤ sizeLine ∧ (a == sysModules) = false ∧
    ∃ xs, KT H kvs xs ∧ h.DictOfH (tupleKind (mixKind P w)) a xs := by
  obtain ⟨z, y, xs, r, o, es, ep, h1, h2, h3, h4, h5⟩ := (show ObjOk P w H h a (.dT kvs) from rd_of ok e)
  refine ⟨z, y, xs, r, o, es, ep, h1, h2, h3, h4, fun x hx => ?_, h5⟩
  have all : ∀ {l : List (List Key × V)} {m : List (List Key × Addr × Value)}, KT H l m → ∀ x ∈ m, (tupleKind (mixKind P w)).is h x.1 x.2.1 := by
    intro l m q
    induction q with
    | nil => intro x hx; exact nomatch hx
    | @cons p q ps qs hq t ih =>
      intro x hx
      rcases List.mem_cons.mp hx with e | hx
      · subst e
        exact key_of ok (by rw [← hq.1]; exact hq.2.1)
      · exact ih x hx
  exact all r x hx
theorem dt_of {kvs : List (List Key × V)} (ok : HOk P w H h) (e : H a = some (.dT kvs)) : kvs.length ≤ sizeLine ∧ (a == sysModules) = false ∧
    ∃ xs, KT H kvs xs ∧ h.DictOfH (tupleKind (mixKind P w)) a xs := dt_rd ok (.inl e)
end

/-- what the dict at a holds at the key y -/
def DGet (H : Hp) (a : Addr) (y : V) (r : Option V) : Prop :=
  (∃ kvs k, Rd H a (.dK kvs) ∧ y = kV k ∧ r = valV kvs k) ∨ ∃ kvs k b, Rd H a (.dT kvs) ∧ y = .ref b ∧ H b = some (.tup (k.map kV)) ∧ r = valV kvs k
/-- the heap behind a[y] = v -/
def DPut (H : Hp) (a : Addr) (y v : V) (H' : Hp) : Prop :=
  (∃ kvs k, H a = some (.dK kvs) ∧ y = kV k ∧ kvs.length < sizeLine ∧ H' = upd H a (.dK (putK kvs k v))) ∨
  ∃ kvs k b, H a = some (.dT kvs) ∧ y = .ref b ∧ H b = some (.tup (k.map kV)) ∧ kvs.length < sizeLine ∧ H' = upd H a (.dT (putK kvs k v))
theorem DGet.k {H : Hp} {a : Addr} {kvs : List (Key × V)} {k : Key} (e : H a = some (.dK kvs)) : DGet H a (kV k) (valV kvs k) := .inl ⟨kvs, k, .inl e, rfl, rfl⟩
theorem DGet.t {H : Hp} {a b : Addr} {kvs : List (List Key × V)} {k : List Key} (e : H a = some (.dT kvs)) (eb : H b = some (.tup (k.map kV))) : DGet H a (.ref b) (valV kvs k) := .inr ⟨kvs, k, b, .inl e, rfl, eb, rfl⟩
theorem DPut.k {H : Hp} {a : Addr} {kvs : List (Key × V)} {k : Key} {v : V} (e : H a = some (.dK kvs)) (hl : kvs.length < sizeLine) : DPut H a (kV k) v (upd H a (.dK (putK kvs k v))) := .inl ⟨kvs, k, e, rfl, hl, rfl⟩
theorem DPut.t {H : Hp} {a b : Addr} {kvs : List (List Key × V)} {k : List Key} {v : V} (e : H a = some (.dT kvs)) (eb : H b = some (.tup (k.map kV))) (hl : kvs.length < sizeLine) :
    DPut H a (.ref b) v (upd H a (.dT (putK kvs k v))) := .inr ⟨kvs, k, b, e, rfl, eb, hl, rfl⟩


section
variable {X : Cx} {pins : List (Addr × Obj)} {σ : St} {H : Hp} {s : Shared} {a : Addr} {y v : V} {u r : Value} {o : Option V} {A : Around} {E : Value → Shared → Prop}

/-- d[y], there -/
theorem d_getItem {Q : Value → Shared → Prop} (hu : A.units + 1 < cLine) (I : Inv X pins σ H s) (g : DGet H a y (some v)) (ry : RelV y u) (h : ∀ w' s', Inv X pins σ H s' → RelV v w' → Q w' s') :
    wpAny (model X.prog X.w) A (getItem (.ref a) u) Q E s := by
  rcases g with ⟨kvs, k, e, ey, l⟩ | ⟨kvs, k, b, e, ey, eb, l⟩
  · subst ey
    obtain ⟨z, hd, vs, rel, dd⟩ := dk_rd I.hok e
    obtain ⟨w', hw, rw'⟩ := RelO.some_of (v := v) (o := valueAt vs k) (by rw [l]; exact rel.val k)
    exact wpAny_getItem_of (kV_is ry) dd.mapOf hw (h w' _ (I.tok _) rw')
  · subst ey
    cases (show u = Value.ref b from ry)
    obtain ⟨z, hd, xs, rel, dd⟩ := dt_rd I.hok e
    obtain ⟨w', hw, rw'⟩ := RelO.some_of (v := v) (o := (atKey xs k).map (·.2)) (by rw [l]; exact rel.val k)
    obtain ⟨p, hp, hp2⟩ := Option.map_eq_some_iff.mp hw
    refine wpAny_getItem_heap (tupleKind_room_in1 hu) (key_of I.hok eb) dd hp ?_
    rw [hp2]
    exact h w' _ (I.tok _) rw'
/-- y in d -/
theorem d_in {Q : Value → Shared → Prop} (hu : A.units + 1 < cLine) (I : Inv X pins σ H s) (g : DGet H a y o) (ry : RelV y u) (h : ∀ s', Inv X pins σ H s' → Q (.bool o.isSome) s') :
    wpAny (model X.prog X.w) A (compareOp .In u (.ref a)) Q E s := by
  rcases g with ⟨kvs, k, e, ey, l⟩ | ⟨kvs, k, b, e, ey, eb, l⟩
  · subst ey
    obtain ⟨z, hd, vs, rel, dd⟩ := dk_rd I.hok e
    refine wpAny_in_of (kV_is ry) hd dd.mapOf ?_
    rw [← (rel.val k).isSome_eq, ← l]
    exact h _ (I.tok _)
  · subst ey
    cases (show u = Value.ref b from ry)
    obtain ⟨z, hd, xs, rel, dd⟩ := dt_rd I.hok e
    refine wpAny_in_heap (tupleKind_room_in1 hu) (key_of I.hok eb) hd dd ?_
    have q := (rel.val k).isSome_eq
    rw [Option.isSome_map] at q
    rw [← q, ← l]
    exact h _ (I.tok _)
theorem d_notIn {Q : Value → Shared → Prop} (hu : A.units + 1 < cLine) (I : Inv X pins σ H s) (g : DGet H a y o) (ry : RelV y u) (h : ∀ s', Inv X pins σ H s' → Q (.bool (!o.isSome)) s') :
    wpAny (model X.prog X.w) A (compareOp .NotIn u (.ref a)) Q E s := by
  rcases g with ⟨kvs, k, e, ey, l⟩ | ⟨kvs, k, b, e, ey, eb, l⟩
  · subst ey
    obtain ⟨z, hd, vs, rel, dd⟩ := dk_rd I.hok e
    refine wpAny_notIn_of (kV_is ry) hd dd.mapOf ?_
    rw [← (rel.val k).isSome_eq, ← l]
    exact h _ (I.tok _)
  · subst ey
    cases (show u = Value.ref b from ry)
    obtain ⟨z, hd, xs, rel, dd⟩ := dt_rd I.hok e
    refine wpAny_notIn_heap (tupleKind_room_in1 hu) (key_of I.hok eb) hd dd ?_
    have q := (rel.val k).isSome_eq
    rw [Option.isSome_map] at q
    rw [← q, ← l]
    exact h _ (I.tok _)
/-- a dict's object is replaced -/
theorem d_write {h' : Heap} {t' : Nat} {ob : HO} (I : Inv X pins σ H s) (mu : Mut (H a)) (hs : Heap.SameBut a s.heap h') (he : ∃ q, h'.get? a = some q) (new : ObjOk X.prog X.w (upd H a ob) h' a ob) :
    Inv X pins σ (upd H a ob) { s with heap := h', toks := t' } :=
  I.write (x := a) (e := a) mu (.inl rfl) (fun b q hb z => (hs.2 b hb).trans z) he new
theorem dk_new {P : Program} {w : World} {H' : Hp} {h' : Heap} {kvs : List (Key × V)} {vs : List (Key × Value)} (z : kvs.length ≤ sizeLine) (hd : (a == sysModules) = false) (rel : KV kvs vs) (dd : h'.DictOf (mixKind P w) a vs) :
    ObjOk P w H' h' a (.dK kvs) := ⟨z, hd, vs, rel, dd⟩
/-- d[y] = v -/
theorem d_setItem {H' : Hp} {Q : Unit → Shared → Prop} (hu : A.units + 1 < cLine) (I : Inv X pins σ H s) (g : DPut H a y v H') (ry : RelV y u) (rv : RelV v r) (h : ∀ s', Inv X pins σ H' s' → Q () s') :
    wpAny (model X.prog X.w) A (setItem (.ref a) u r) Q E s := by
  rcases g with ⟨kvs, k, e, ey, l, eH⟩ | ⟨kvs, k, b, e, ey, eb, l, eH⟩
  · subst ey eH
    obtain ⟨z, hd, vs, rel, dd⟩ := dk_of I.hok e
    have hz : vs.length ≤ sizeLine := by rw [← rel.length]; exact z
    have hl : (putK kvs k v).length ≤ sizeLine := by have := length_putK kvs k v; omega
    refine wpAny_setItem_pairs (hsz := hz) (kV_is ry) dd fun h' dd' hs => h _ ?_
    have he : ∃ q, h'.get? a = some q := let ⟨q, _, _, hq, _⟩ := dd'; ⟨q, hq⟩
    exact d_write I (by rw [e]; exact True.intro) hs he (dk_new hl hd (rel.put k rv) dd')
  · subst ey eH
    cases (show u = Value.ref b from ry)
    obtain ⟨z, hd, xs, rel, dd⟩ := dt_of I.hok e
    have hz : xs.length ≤ sizeLine := by rw [← Paired.length rel]; exact z
    have hl : (putK kvs k v).length ≤ sizeLine := by have := length_putK kvs k v; omega
    refine wpAny_setItem_heap (hsz := hz) (tupleKind_room_in1 hu) (key_of I.hok eb) dd fun h' dd' hs => h _ ?_
    obtain ⟨q, es, ep, hq, h2, h3, h4, _, h5⟩ := dd'
    refine d_write I (by rw [e]; exact True.intro) hs ⟨q, hq⟩ ⟨hl, hd, _, (rel.put k eb rv).keeps fun c ys ec => ?_, q, es, ep, hq, h2, h3, h4, h5⟩
    rw [upd_ne (ne_of ec e (fun z => nomatch z))]
    exact ec
end

section
variable {X : Cx} {pins : List (Addr × Obj)} {σ : St} {H : Hp} {s : Shared} {a : Addr} {kvs : List (Key × V)} {k : Key} {u : Value} {A : Around} {E : Value → Shared → Prop}
/-- len(d) -/
theorem d_len {Q : Value → Shared → Prop} (I : Inv X pins σ H s) (e : Rd H a (.dK kvs)) (h : ∀ t s', Inv X pins σ H s' → Q (.int kvs.length t) s') : wpAny (model X.prog X.w) A (call (.builtin "len") [.ref a]) Q E s := by
  obtain ⟨z, hd, vs, rel, dd⟩ := dk_rd I.hok e
  refine call_len_dict hd dd (by rw [← rel.length]; rw [sizeLine_eq] at z; omega) ?_
  rw [← rel.length]
  exact h _ _ (I.tok _)
end


/-! ### readings and rules -/
theorem dict_typeIs {X : Cx} {pins : List (Addr × Obj)} {σ : St} {H : Hp} {s : Shared} {a : Addr} {y : V} {o : Option V} (I : Inv X pins σ H s) (g : DGet H a y o) : s.TypeIs (.ref a) "dict" := by
  rcases g with ⟨kvs, k, e, _, _⟩ | ⟨kvs, k, b, e, _, _, _⟩
  · obtain ⟨_, _, vs, _, dd⟩ := dk_rd I.hok e
    exact dd.typeIs
  · obtain ⟨_, _, xs, _, dd⟩ := dt_rd I.hok e
    exact dd.typeIs
section
variable {X : Cx} {o i e value : Expr} {pos pos' tpos : Pos} {td ty tv : TE}
end


/-! ### displays -/
section
variable {X : Cx} {pos : Pos}
end

/-! ### methods -/
/-- a method call o.m(e) of a built-in, with one argument: what must be seen of the text -/
structure M1 (X : Cx) (o : Expr) (m : Str) (apos : Pos) (e : Expr) (cpos : Pos) : Prop where
  base : attributeBase o m X.env (eval o X.env) = eval o X.env
  few : ((backTo cpos (starEach [e] X.env)).all (fun x => !x.1) && (backToKw cpos (keywordEach [] X.env)).all (fun x => x.1.isSome)
    && decide (([e] : List Expr).length + ([] : List Keyword).length + (if ([] : List Keyword).isEmpty then 0 else 1) < 30)) = true
  line : (apos.endLine == cpos.line) = true
  trees : backTo cpos (starEach [e] X.env) = [(false, eval e X.env)]
structure M2 (X : Cx) (o : Expr) (m : Str) (apos : Pos) (e f : Expr) (cpos : Pos) : Prop where
  base : attributeBase o m X.env (eval o X.env) = eval o X.env
  few : ((backTo cpos (starEach [e, f] X.env)).all (fun x => !x.1) && (backToKw cpos (keywordEach [] X.env)).all (fun x => x.1.isSome)
    && decide (([e, f] : List Expr).length + ([] : List Keyword).length + (if ([] : List Keyword).isEmpty then 0 else 1) < 30)) = true
  line : (apos.endLine == cpos.line) = true
  trees : backTo cpos (starEach [e, f] X.env) = [(false, eval e X.env), (false, eval f X.env)]

section
variable {X : Cx} {pins : List (Addr × Obj)} {σ : St} {H : Hp} {s : Shared} {a : Addr} {y d : V} {u r : Value} {o : Option V} {A : Around} {E : Value → Shared → Prop}
end

section
variable {X : Cx} {o e f : Expr} {apos cpos : Pos} {td ty tx : TE}
end

/-! ### dict(d): a copy -/
section
variable {X : Cx} {pins : List (Addr × Obj)} {σ : St} {H : Hp} {s : Shared} {a : Addr} {kvs : List (Key × V)} {A : Around} {E : Value → Shared → Prop}
end


section
variable {X : Cx} {pins : List (Addr × Obj)} {σ : St} {H : Hp} {s : Shared} {a : Addr} {y : V} {u : Value} {A : Around} {E : Value → Shared → Prop}
end
end L2

namespace Att
open PySem PySem.W PySem.Calls PyProof.Rows

/-! ### the script -/
theorem ints_of_wellAll {P : Params} {h : Heap} : ∀ (ns : List Int) (vs : List Value), WellAll P h vs (ns.map WData.int) → IntsAre vs ns := by
  intro ns
  induction ns with
  | nil =>
    intro vs w
    rw [List.map_nil] at w
    cases w
    exact .nil
  | cons n ns ih =>
    intro vs w
    rw [List.map_cons] at w
    cases w with
    | cons a b =>
      cases a
      exact .cons _ _ (ih _ b)

theorem script_of {l : OpenLaw} {n : Nat} (hn : l.most = some n) {P : Params} {h : Heap} {args : List WData} {vals : List Value}
    (hpre : l.row.toRowW.claim.pre args = true) (hwl : WellAll P h vals args) :
    ∃ a vs ns, vals = [Value.ref a] ∧ args = [WData.list (ns.map WData.int)] ∧ h.get? a = some { cls := .type "list", data := .seq vs.toArray } ∧ IntsAre vs ns ∧ ns.length ≤ n := by
  have hsh : WShape.hasAll [] args [.list .int] = true := (pre_splitW hpre).1
  have hc : l.pre.holds [] { args := args } = true := (pre_splitW hpre).2
  obtain ⟨d, r, rfl, h1, h2⟩ := hasAllW_cons hsh
  obtain rfl := hasAllW_nil h2
  obtain ⟨xs, rfl, h3⟩ := hasW_list h1
  obtain ⟨ns, rfl⟩ := items_int h3
  have hlen : ns.length ≤ n := by
    unfold OpenLaw.pre at hc
    have h4 : (WTm.not (.lt (.lit (.int (n : Int))) (.len (.arg 0)))).holds [] { args := [.list (ns.map .int)] } = true := by
      have h4 := (holds_andW hc).1
      rw [hn] at h4
      exact h4
    have h5 := condW_of h4 (w_not (w_lt w_lit (w_len_list (w_arg rfl))))
    rw [List.length_map] at h5
    refine Nat.le_of_not_lt fun q => ?_
    have q' : (n : Int) < ((ns.length : Nat) : Int) := by omega
    first
      | (rw [decide_eq_true q'] at h5; exact absurd h5 (by decide))
      | (simp at h5; omega)
  cases hwl with
  | cons w1 w2 =>
    cases w2
    cases w1 with
    | list ho hall => exact ⟨_, _, ns, rfl, rfl, ho, ints_of_wellAll ns _ hall, hlen⟩

theorem post_true (l : OpenLaw) (args : List WData) : l.row.toRowW.claim.post args (.bool true) args = true :=
  postW_of (r := l.row.toRowW) (X := (true == true))
    (show WShape.has [] (.bool true) .bool = true by first | rfl | decide | simp [WShape.has, WShape.arms, WShape.armsAll])
    (show (WTm.eq .res (.lit (.bool true))).value [] { args := args, res := some (.bool true), after := args } = some (.bool (true == true)) from w_eq_bool (w_res rfl) w_lit) rfl

/-! ### the attachment: holds_open's last premise (the goal 'hc' behind k_head) from a wpAny of the law's body -/
/-- the same from a codeAny of the CALL (for a layer whose function contracts speak of calls) -/
theorem attach_call {l : OpenLaw} {n : Nat} {q : Program} {loose : List Str} {XP : (Str → Option Value) → Heap → Prop} {YP : World → Heap → Prop} {d : DefRec}
    (hn : l.most = some n) (hdf : d.params.defaults = [])
    (call : ∀ (w : World) (s₀ s₁ : Shared) (mg mb : Str → Option Value) (fa : Addr) (o : Obj) (pm cd doc : Value) (a : Addr) (vs : List Value) (ns : List Int),
      Ground q loose [] XP w s₀ mg mb s₁.heap → YP w s₁.heap →
      s₁.heap.get? fa = some o → o.data = .func (docDef d.name d.params d.body d.scope pm cd doc) → s₁.heap.CodeRec cd d.name → mg d.name = some (.ref fa) →
      s₁.heap.get? a = some { cls := .type "list", data := .seq vs.toArray } → IntsAre vs ns → ns.length ≤ n → s₁.gens = #[] →
      codeAny (model l.prog w) callerA (.call (.ref fa) ⟨[.ref a], []⟩) (fun r s' => r = .ok (.ret (.bool true)) ∧ OldK s₁.heap s'.heap ∧ s'.os = s₁.os ∧ AllBare s'.gens) s₁) :
    WalkO q loose XP YP l.row.toRowW d [] (fun f vs => PySem.call f vs) := by
  intro w s₀ s₁ mg mb G Y fa o pm cd doc dV kV ho hd hcd hD hmg hg args vals as hpre hlay hrd hwl hlo
  obtain rfl : dV = .none := Dflts.none hD hdf
  obtain rfl : kV = .none := Dflts.noKw hD
  obtain ⟨a, vs, ns, rfl, rfl, hobj, hints, hlen⟩ := script_of hn hpre hwl
  refine enter_call (codeAny_mono (call w s₀ s₁ mg mb fa o pm cd doc a vs ns G Y ho (fd_plain hd) hcd hmg hobj hints hlen hg) fun r s' hq => ?_)
  obtain ⟨rfl, h2, h3, h4⟩ := hq
  exact ⟨.inl ⟨.bool true, .bool true, [], rfl, fun _ => rfl, .bool true, post_true l _, fun _ => ⟨List.Pairwise.nil, fun _ hm => (nomatch hm)⟩⟩, h2, h3, h4⟩

/-! ### rules over ANY heap (no ledger) from facts about the written part K: the library's own take a ledger (News) for what they write -/
section
variable {prog : Program} {w : World} {A : Around} {E : Value → Shared → Prop} {s : Shared} {K : Frag}

/-! the whole heap as the ledger: makes every rule that writes through a ledger a rule over any heap -/
def ledger (h : Heap) (L d : Addr) : List (Addr × Obj) := (List.range h.objs.size).filterMap fun a => if a = L ∨ a = d then none else (h.get? a).map fun o => (a, o)
end
end Att

namespace L2
open PySem PySem.Spec PyProof.Rows

theorem vals_ints : ∀ {vs : List Value} {ns : List Int}, IntsAre vs ns → Vals (ns.map V.int) vs
  | _, _, .nil => .nil
  | _, _, .cons n t h => .cons ⟨t, rfl⟩ (vals_ints h)

/-- nothing is tracked but the script, known to the object (or it is an object of the module) -/
def Only (H : Hp) : Prop := ∀ b, H b = none ∨ ∃ o xs, H b = some (.frz o (.lst xs))

/-- THE HEAD: the law's promise, at the heap behind the top. F, the promise of the law's def, may use that base is part of the heap (so K.In base, base.Ns mainGlobals mg stand in Mod) -/
theorem law_call {P : Program} {w : World} {K : PySem.W.Frag} {mg mb : Str → Option Value} {CX : CXT} {k : Nat} {fa a : Addr} {fd : FuncData} {x : Str} {sp : Sp} {s₁ : Shared} {vs : List Value} {ns : List Int}
    (KX : K.In s₁.heap) (hns : s₁.heap.Ns mainGlobals mg) (hb : s₁.heap.Ns builtinsNs mb) (hbb : ∀ x : Str, x ≠ "__name__" → mb x = bootBuiltins x) (hlim : s₁.heap.NoLimit) (hg : s₁.gens = #[])
    (ha : s₁.heap.get? a = some { cls := .type "list", data := .seq vs.toArray }) (hi : IntsAre vs ns) (hl : ns.length ≤ sizeLine) (hr : Room k callerA)
    (F : ∀ base : Heap, K.In base → base.Ns mainGlobals mg → FnOk P w K mg base CX k fa fd [x] sp) (hbind : ∀ (s : Shared) (u : Value), BindsTo s fd ⟨[u], []⟩ [(x, u)])
    (hsp : ∀ H : Hp, Only H → SqL K H a (ns.map V.int) → sp [.ref a] H (fun v _ => v = .bl true) fun _ _ _ => False)
    (hCX : ∀ H e s', CX [] H s₁ (fun _ _ _ => False) e s' → False) :
    codeAny (model P w) callerA (.call (.ref fa) ⟨[.ref a], []⟩) (fun r s' => r = .ok (.ret (.bool true)) ∧ OldK s₁.heap s'.heap ∧ s'.os = s₁.os ∧ AllBare s'.gens) s₁ := by
  have rv := vals_ints hi
  have lenV := hi.length
  -- from an abstract heap in which nothing but the script may be tracked
  have core : ∀ H : Hp, Only H → SqL K H a (ns.map V.int) → HOk P w H s₁.heap → (∀ b, H b ≠ none → b = a) → (H a ≠ none → K.lookup a = none) →
      codeAny (model P w) callerA (.call (.ref fa) ⟨[.ref a], []⟩) (fun r s' => r = .ok (.ret (.bool true)) ∧ OldK s₁.heap s'.heap ∧ s'.os = s₁.os ∧ AllBare s'.gens) s₁ := by
    intro H hO hS hok hA hK
    have base_of : ∀ {b : Addr} {o : Obj}, s₁.heap.get? b = some o → H b = none → (hidT s₁.heap H).get? b = some o := fun e n => hidT_get e n
    have noA : ∀ {b : Addr} {o : Obj} {es : Array DictEntry} {ep : Nat}, s₁.heap.get? b = some o → o.data = .dict es ep → H b = none := fun {b o es ep} e d => by
      cases q : H b with
      | none => rfl
      | some u =>
        have e' : b = a := hA b (by rw [q]; simp)
        subst e'
        rw [ha] at e; cases e
        have d' : Data.seq vs.toArray _ = Data.dict es ep := d
        cases d'
    have nsK : ∀ {b : Addr} {m : Str → Option Value}, s₁.heap.Ns b m → (hidT s₁.heap H).Ns b m := fun {b m} ⟨o, es, ep, e, d, r⟩ => ⟨o, es, ep, base_of e (noA e d), d, r⟩
    have hKb : K.In (hidT s₁.heap H) := fun b o e => base_of (KX b o e) (by
      cases q : H b with
      | none => rfl
      | some u =>
        have e' : b = a := hA b (by rw [q]; simp)
        subst e'
        rw [hK (by rw [q]; simp)] at e; cases e)
    have hM : Mod K mg (hidT s₁.heap H) := ⟨hKb, nsK hns, ⟨mb, nsK hb, hbb⟩, let ⟨mc, h1, h2⟩ := hlim; ⟨mc, nsK h1, h2⟩⟩
    have e0 : Env0 P w K mg (hidT s₁.heap H) callerA [] s₁ H := ⟨rfl, hM, fun b o e => of_hidT e, Nat.le_of_eq (hidT_size _ _), trivial, fun b hb => absurd (show b ∈ ([] : List Addr) from hb) (by simp), hok, .of_eq hg⟩
    refine codeAny_mono ((F _ hKb (nsK hns)).run callerA [] s₁ H ⟨[.ref a], []⟩ [.ref a] [.ref a] _ _ hr e0 (hbind s₁ (.ref a)) (.cons rfl .nil) (hsp H hO hS)) fun r s' h => ?_
    cases r with
    | error e => exact (hCX H e s' h).elim
    | ok fl =>
      cases fl with
      | next => exact False.elim h
      | brk => exact False.elim h
      | cont => exact False.elim h
      | ret u =>
        obtain ⟨v, H', os, bare, un, hok', r', q⟩ := h
        have q' : v = .bl true := q
        subst q'
        obtain rfl : u = Value.bool true := r'
        refine ⟨rfl, OldK.of_keep fun b o e => ?_, os, bare⟩
        cases q : H b with
        | none => exact un.keep b o e q (by intro z; exact absurd (show b ∈ ([] : List Addr) from z) (by simp)) (by simp)
        | some u =>
          rcases hO b with z | ⟨ob, xs, z⟩
          · rw [q] at z; cases z
          · have z2 := un.frzs b ob _ z
            obtain ⟨e1, _⟩ := hok b _ z
            obtain ⟨e2, _⟩ := hok' b _ z2
            rw [e] at e1; cases e1
            exact e2
  cases hk : K.lookup a with
  | some o =>
    -- the script is one of the module's own objects
    have e := KX a o hk
    rw [ha] at e
    cases e
    refine core (fun _ => none) (fun _ => .inl rfl) (.inr ⟨_, vs.toArray, _, hk, rfl, rfl, rfl, by rw [List.size_toArray, lenV]; exact hl, by simpa using rv⟩) (fun b u z => by have z' : (none : Option HO) = some u := z; cases z') (fun b z => absurd rfl z) fun z => absurd rfl z
  | none =>
    refine core (fun b => if b = a then some (.frz { cls := .type "list", data := .seq vs.toArray } (.lst (ns.map V.int))) else none) (fun b => ?_) (.inl (.inr ⟨{ cls := .type "list", data := .seq vs.toArray }, if_pos rfl⟩)) (fun b u z => ?_) (fun b z => ?_) fun _ => hk
    · by_cases hb : b = a
      · exact .inr ⟨_, _, if_pos hb⟩
      · exact .inl (if_neg hb)
    · by_cases hb : b = a
      · have z' := (if_pos hb).symm.trans z
        cases z'
        subst hb
        exact ⟨ha, by rw [List.length_map]; exact hl, vs, _, rv, ha⟩
      · have z' := (if_neg hb).symm.trans z
        cases z'
    · by_cases hb : b = a
      · exact hb
      · exact absurd (if_neg hb) z
end L2

namespace L2
open PySem PySem.Spec PyProof.Rows

abbrev KOf {K : PySem.W.Frag} {h : Heap} (_ : K.In h) : PySem.W.Frag := K

/-- the goal that k_head leaves (case hc), from the law's promise. F gives the function object fd (K's own) once, then the promise over every base -/
theorem walk_of {l : PySem.W.OpenLaw} {n k : Nat} {q : Program} {loose : List Str} {XP : (Str → Option Value) → Heap → Prop} {YP : World → Heap → Prop} {d : DefRec} {K : Params → PySem.W.Frag} {CX : World → CXT} {sp : World → Sp} {x : Str}
    (hn : l.most = some n) (hn2 : n ≤ sizeLine) (hdf : d.params.defaults = []) (hr : Room k callerA)
    (hY : ∀ (w : World) (h : Heap), YP w h → (K w.params).In h)
    (F : ∀ (w : World) (mg : Str → Option Value) (fa : Addr) (h : Heap), (K w.params).In h → h.Ns mainGlobals mg → mg d.name = some (.ref fa) →
      ∃ fd : FuncData, (∀ (s : Shared) (u : Value), BindsTo s fd ⟨[u], []⟩ [(x, u)]) ∧
        ∀ base : Heap, (K w.params).In base → base.Ns mainGlobals mg → FnOk l.prog w (K w.params) mg base (CX w) k fa fd [x] (sp w))
    (hsp : ∀ (w : World) (H : Hp) (a : Addr) (ns : List Int), ns.length ≤ n → Only H → SqL (K w.params) H a (ns.map V.int) → sp w [.ref a] H (fun v _ => v = .bl true) fun _ _ _ => False)
    (hCX : ∀ (w : World) (H : Hp) (s : Shared) (e : Value) (s' : Shared), CX w [] H s (fun _ _ _ => False) e s' → False) :
    PySem.W.WalkO q loose XP YP l.row.toRowW d [] (fun f vs => PySem.call f vs) := by
  refine Att.attach_call hn hdf fun w s₀ s₁ mg mb fa o pm cd doc a vs ns G Y ho hd hcd hmg hobj hints hlen hg => ?_
  have KX := hY w _ Y
  obtain ⟨fd, hb, hF⟩ := F w mg fa _ KX G.T.g hmg
  exact law_call KX G.T.g G.T.b G.T.builtins G.T.nolimit hg hobj hints (Nat.le_trans hlen hn2) hr hF hb (fun H hO hS => hsp w H a ns hlen hO hS) fun H e s' => hCX w H s₁ e s'
end L2

/- THE LAST THEOREM (shape; LID, My.* are yours):
   My.Adr: a structure of the addresses that your layer names (classes, functions); My.Txt K t: a structure (Prop) of the equations over K;
   My.txt_mk : {K} {implicit addresses ..} (e1 : nsIn K mainGlobals "law" = some (some (.ref f))) (e2 : K.lookup f = some ⟨oc, od, .func (fnOf "law" "law" params body scope dV kV doc pm an cdv ct), sl⟩) (e3 : codeIn K cdv "law" = true) .. : ∃ t, My.Txt K t

set_option maxRecDepth 100000 in
set_option maxHeartbeats 0 in
theorem PySem.Challenge.cw_LID_holds : PySem.Challenge.rw_LID.Holds := by
  w_on; o_law; k_head; (case hw => w_witness2)
  k_fill
  refine L2.walk_of (l := PySem.Challenge.rw_LID) (n := 63) (k := 40) (x := "script") (CX := fun w => ..) (sp := fun _ => My.sp_law) rfl (by decide) rfl ⟨rfl, by decide, by decide⟩ (fun w h Y => PySem.W.kIn_of Y) ?F ?S ?C
  case F =>
    intro w mg fa h KX G hmg
    have T : ∃ t, My.Txt (L2.KOf KX) t := by
      dsimp only [L2.KOf]                          -- K must stand as «<heap const> w.params» for k_is
      refine' My.txt_mk ?e1 ?e2 ?e3 ..
      (case e1 => PySem.W.k_is)                    -- in the order: a name -> its address -> its object -> its parts
      (case e2 => PySem.W.k_is)
      ..
    obtain ⟨t, T⟩ := T
    have e0 := hmg.symm.trans (PySem.W.mg_of KX G T.law)
    cases e0                                       -- fa is the law's own address
    exact ⟨_, fun s u => .of_eq rfl, fun base kb nb => My.law_fn T kb nb⟩     -- if «.of_eq rfl» comes too early: refine' ⟨_, ?b, fun base kb nb => My.law_fn T kb nb⟩; exact fun s u => .of_eq rfl
  case S => exact fun w H a ns hl hO hS => ..
  case C => exact ..
(the tactic k_is has no namespace: write k_is) -/

/-! SHORT WORDS over the layer: a def of the text, its body, what a loop and a test want. -/
namespace L2
open PySem PySem.Spec PyProof.Rows

/-! ### the text by places -/
/-- the j-th statement of a class's body -/
def inClass (s : Stmt) (j : Nat) : Stmt := match s with
  | .ClassDef _ _ _ body _ _ _ _ _ _ _ => body.getD j (.Pass ⟨0, 0, 0, 0⟩)
  | _ => .Pass ⟨0, 0, 0, 0⟩
def defArgs (s : Stmt) : Arguments := match s with
  | .FunctionDef _ a _ _ _ _ _ _ _ _ => a
  | _ => { posonlyargs := [], args := [], vararg := none, kwonlyargs := [], kw_defaults := [], kwarg := none, defaults := [] }
def defBody (s : Stmt) : List Stmt := match s with
  | .FunctionDef _ _ b _ _ _ _ _ _ _ => b
  | _ => []
def defScope (s : Stmt) : Scope := match s with
  | .FunctionDef _ _ _ _ _ _ sc _ _ _ => sc
  | _ => { kind := .function, names := [], isGenerator := false, isCoroutine := false }

/-! ### no exception leaves a def -/
abbrev CX0 : CXT := fun _ _ _ _ _ _ => False
abbrev E0 : XK := fun _ _ _ => False
theorem pass0 {X : Cx} : Passes CX0 X E0 := fun _ _ _ _ _ _ _ h => h.elim

/-! ### a def (or method) of the text as it stands behind the top -/
structure Fun (K : PySem.W.Frag) (x qual : Str) (st : Stmt) (f : Addr) (fd : FuncData) : Prop where
  ex : ∃ (oc : Value) (od : Option Addr) (kV doc pm : Value) (an : Option Addr) (cdv ct : Value) (osl : Array (Option Value)),
    fd = PySem.W.fnOf x qual (defArgs st) (defBody st) (defScope st) .none kV doc pm an cdv ct ∧ K.lookup f = some ⟨oc, od, .func fd, osl⟩ ∧ PySem.W.codeIn K cdv qual = true
  kp : PySem.W.keepIn K (.ref f) = true
section
variable {P : Program} {w : World} {K : PySem.W.Frag} {mg : Str → Option Value} {base : Heap}
/-- THE RULE for a def: its body as a term of rules, and the reading of that term -/
theorem Fun.ok {x qual : Str} {st : Stmt} {f : Addr} {fd : FuncData} {N ps : List Str} {k : Nat} {sp : Sp} (F : Fun K x qual st f fd) (S : FnScope N ps (defScope st)) (len : ∀ vs H Q E, sp vs H Q E → vs.length = ps.length)
    (hbody : ∀ (cdv : Value) (A : Around) (outer : List Env) (s : Shared) (H : Hp) (vs : List V) (Q : VK) (E : XK), Room k (A.deeper (envOfC qual (defScope st) s.heap.objs.size f cdv)) → sp vs H Q E →
      ∃ t, PSs (cxOf CX0 P w K mg base N qual (defScope st) f cdv A outer s H E).nox (defBody st) t ∧ t { nx := fun _ H' => Q .non H', rt := Q } (start N vs) H) : FnOk P w K mg base CX0 (k + 1) f fd ps sp := by
  obtain ⟨oc, od, kV, doc, pm, an, cdv, ct, osl, rfl, lk, hcd⟩ := F.ex
  refine fn_of lk hcd S len fun A outer s H vs Q E hr hsp => ?_
  obtain ⟨t, h, q⟩ := hbody cdv A outer s H vs Q E hr hsp
  exact ⟨t, h.nox, q⟩
/-- how its arguments bind (no defaults): h is «fun _ _ _ _ _ _ us hl => match us, hl with | [_, _], _ => rfl», one _ a parameter -/
theorem Fun.binds {x qual : Str} {st : Stmt} {f : Addr} {fd : FuncData} {ps : List Str} (F : Fun K x qual st f fd)
    (h : ∀ (kV doc pm : Value) (an : Option Addr) (cdv ct : Value) (us : List Value), us.length = ps.length → bindArgs (PySem.W.fnOf x qual (defArgs st) (defBody st) (defScope st) .none kV doc pm an cdv ct) ⟨us, []⟩ = pure (ps.zip us)) : Binds K fd ps [] := by
  obtain ⟨oc, od, kV, doc, pm, an, cdv, ct, osl, rfl, lk, hcd⟩ := F.ex
  exact .all (h kV doc pm an cdv ct)
theorem fun_mk {x qual : Str} {st : Stmt} {f : Addr} {oc : Value} {od an : Option Addr} {osl : Array (Option Value)} {kV doc pm cdv ct : Value} (l : K.lookup f = some ⟨oc, od, .func (PySem.W.fnOf x qual (defArgs st) (defBody st) (defScope st) .none kV doc pm an cdv ct), osl⟩)
    (c : PySem.W.codeIn K cdv qual = true) (k : PySem.W.keepIn K (.ref f) = true) : Fun K x qual st f (PySem.W.fnOf x qual (defArgs st) (defBody st) (defScope st) .none kV doc pm an cdv ct) := ⟨⟨oc, od, kV, doc, pm, an, cdv, ct, osl, rfl, l, c⟩, k⟩
end
theorem small1000 {n : Nat} (h : n ≤ 1000) : n < sizeLine := Nat.lt_of_le_of_lt h (by decide)

/-! ### expressions in short: the name that stands in the i-th slot -/
section
variable {X : Cx}
end

/-! ### tests -/
/-! ### heaps -/
/-- all that was tracked is as it was -/
def Same (H H' : Hp) : Prop := ∀ b o, H b = some o → H' b = some o
theorem Same.refl (H : Hp) : Same H H := fun _ _ h => h
theorem Same.trans {H H1 H2 : Hp} (a : Same H H1) (b : Same H1 H2) : Same H H2 := fun c o h => b c o (a c o h)
theorem Same.free {H H' : Hp} (e : Same H H') {l : Addr} (h : H' l = Option.none) : H l = Option.none := by
  cases q : H l with
  | none => rfl
  | some o =>
    rw [e l o q] at h
    cases h
theorem Same.seq {K : PySem.W.Frag} {H H' : Hp} {a : Addr} {xs : List V} (e : Same H H') (h : SqL K H a xs) : SqL K H' a xs := by
  rcases h with (h | ⟨o, h⟩) | h
  · exact .inl (.inl (e _ _ h))
  · exact .inl (.inr ⟨o, e _ _ h⟩)
  · exact .inr h

section
variable {X : Cx}
/-- len of a dict -/
theorem call_lenD : CallR X (.builtin "len") (fun xs H Q => ∃ a kvs, xs = [V.ref a] ∧ H a = some (.dK kvs) ∧ Q (.int kvs.length) H) := by
  intro pins s σ H xs us Q I r h
  obtain ⟨a, kvs, rfl, ha, q⟩ := h
  obtain ⟨u, rfl, ru⟩ := vals1 r
  cases ru
  exact d_len I (.inl ha) fun t s' I' => ⟨.int kvs.length, H, I', ⟨t, rfl⟩, q⟩
end

/-! ### a dict's pairs: keys that differ -/
section
variable {κ : Type} [DecidableEq κ]
end
end L2


set_option Elab.async false
set_option maxRecDepth 100000
set_option maxHeartbeats 4000000
/-! ## comprehensions -/
namespace L2
open PySem PySem.Spec PyProof.Rows

/-- the cells that a comprehension's block takes over -/
def clFrom (cells : List (Str × Addr)) : List (Str × NameKind) → List (Str × Addr) → List (Str × Addr)
  | [], acc => acc
  | (n, k) :: r, acc => clFrom cells r (if k == .free then (n, (cells.lookup n).getD 0) :: acc else acc)
def clOf (scope : Scope) (env : Env) : List (Str × Addr) := clFrom env.cells scope.names []

theorem closureFor_cl {scope : Scope} {env : Env} (h : ∀ x ∈ scope.names, x.2 = .free → ∃ c, env.cells.lookup x.1 = some c) : closureFor scope env = pure (clOf scope env) := by
  have key : ∀ (l : List (Str × NameKind)) (acc : List (Str × Addr)), (∀ x ∈ l, x.2 = .free → ∃ c, env.cells.lookup x.1 = some c) →
      (forIn l acc fun (x : Str × NameKind) (cs : List (Str × Addr)) =>
        (if x.2 == .free then (do let c ← cellOf env x.1; pure (ForInStep.yield ((x.1, c) :: cs))) else pure (ForInStep.yield cs) : Sem (ForInStep (List (Str × Addr))))) = pure (clFrom env.cells l acc) := by
    intro l
    induction l with
    | nil => intro acc _; rfl
    | cons x r ih =>
      intro acc hx
      obtain ⟨n, k⟩ := x
      have hr := ih (if k == .free then (n, (env.cells.lookup n).getD 0) :: acc else acc) fun y hy => hx y (List.mem_cons_of_mem _ hy)
      rw [List.forIn_cons]
      by_cases hk : k = .free
      · subst hk
        obtain ⟨c, hc⟩ := hx (n, .free) List.mem_cons_self rfl
        have e : cellOf env n = pure c := by unfold cellOf; rw [hc]
        have hc' : env.cells.lookup n = some c := hc
        simp only [beq_self_eq_true, if_true, hc', Option.getD_some] at hr
        simp only [beq_self_eq_true, if_true, e, pure_bind]
        rw [hr]
        simp only [clFrom, beq_self_eq_true, if_true, hc', Option.getD_some]
      · have hb : (k == NameKind.free) = false := by simpa using hk
        simp only [hb, Bool.false_eq_true, if_false] at hr
        simp only [hb, Bool.false_eq_true, if_false, pure_bind]
        rw [hr]
        simp only [clFrom, hb, Bool.false_eq_true, if_false]
  have := key scope.names [] h
  unfold closureFor clOf
  simp only [bind_pure]
  exact this

theorem clFrom_mem {cells : List (Str × Addr)} : ∀ {l : List (Str × NameKind)} {acc : List (Str × Addr)} {p : Str × Addr}, p ∈ clFrom cells l acc → p ∈ acc ∨ ((p.1, NameKind.free) ∈ l ∧ p.2 = (cells.lookup p.1).getD 0)
  | [], _, _, h => .inl h
  | (n, k) :: r, acc, p, h => by
    rcases clFrom_mem (l := r) h with q | ⟨q1, q2⟩
    · by_cases hk : k = .free
      · subst hk
        simp only [beq_self_eq_true, if_true] at q
        rcases List.mem_cons.mp q with e | q
        · subst e; exact .inr ⟨List.mem_cons_self, rfl⟩
        · exact .inl q
      · have hb : (k == NameKind.free) = false := by simpa using hk
        simp only [hb, Bool.false_eq_true, if_false] at q
        exact .inl q
    · exact .inr ⟨List.mem_cons_of_mem _ q1, q2⟩
theorem clFrom_acc {cells : List (Str × Addr)} : ∀ {l : List (Str × NameKind)} {acc : List (Str × Addr)} {p : Str × Addr}, p ∈ acc → p ∈ clFrom cells l acc
  | [], _, _, h => h
  | (n, k) :: r, acc, p, h => by
    refine clFrom_acc (l := r) ?_
    split
    · exact List.mem_cons_of_mem _ h
    · exact h
theorem clFrom_has {cells : List (Str × Addr)} : ∀ {l : List (Str × NameKind)} {acc : List (Str × Addr)} {n : Str}, (n, NameKind.free) ∈ l → ∃ c, (n, c) ∈ clFrom cells l acc
  | (m, k) :: r, acc, n, h => by
    rcases List.mem_cons.mp h with e | h
    · cases e
      exact ⟨_, clFrom_acc (l := r) (by simp only [beq_self_eq_true, if_true]; exact List.mem_cons_self)⟩
    · exact clFrom_has (l := r) h
theorem lookup_some_of_mem {β : Type} : ∀ {l : List (Str × β)} {n : Str} {c : β}, (n, c) ∈ l → ∃ d, l.lookup n = some d
  | (m, d) :: r, n, c, h => by
    rcases List.mem_cons.mp h with e | h
    · cases e; exact ⟨d, by simp [List.lookup_cons]⟩
    · cases hb : n == m with
      | true => exact ⟨d, by simp [List.lookup_cons, hb]⟩
      | false =>
        obtain ⟨d', e⟩ := lookup_some_of_mem (l := r) h
        exact ⟨d', by simp [List.lookup_cons, hb, e]⟩
theorem cl_sub {scope : Scope} {env : Env} (h : ∀ x ∈ scope.names, x.2 = .free → ∃ c, env.cells.lookup x.1 = some c) {y : Str} {c : Addr} (e : (clOf scope env).lookup y = some c) : env.cells.lookup y = some c := by
  have m := PySem.mem_of_lookup e
  rcases clFrom_mem m with z | ⟨z1, z2⟩
  · cases z
  · obtain ⟨c', hc'⟩ := h _ z1 rfl
    have hc'' : env.cells.lookup y = some c' := hc'
    have z2' : c = (env.cells.lookup y).getD 0 := z2
    rw [hc''] at z2'
    rw [hc'', z2']
    rfl
theorem cl_has {scope : Scope} {env : Env} (h : ∀ x ∈ scope.names, x.2 = .free → ∃ c, env.cells.lookup x.1 = some c) {y : Str} {c : Addr} (hy : (y, NameKind.free) ∈ scope.names) (e : env.cells.lookup y = some c) :
    (clOf scope env).lookup y = some c := by
  obtain ⟨c', m⟩ := clFrom_has (cells := env.cells) (acc := []) hy
  obtain ⟨d, q⟩ := lookup_some_of_mem m
  have q' : (clOf scope env).lookup y = some d := q
  have := cl_sub h q'
  rw [e] at this
  rw [q', ← this]

/-- the kinds of a block's names, behind the outer ones -/
theorem lookup_relabel {env : Env} : ∀ {names : List (Str × NameKind)} {x : Str},
    (names.map fun (n, k) => if (k == NameKind.free && env.scope.kind == .function && env.kindOf n == some .cell) then (n, NameKind.cell) else (n, k)).lookup x =
      (names.lookup x).map fun k => if (k == NameKind.free && env.scope.kind == .function && env.kindOf x == some .cell) then NameKind.cell else k
  | [], _ => rfl
  | (n, k) :: r, x => by
    have ih := @lookup_relabel env r x
    show List.lookup x ((if (k == NameKind.free && env.scope.kind == .function && env.kindOf n == some .cell) = true then (n, NameKind.cell) else (n, k)) :: _) = _
    cases hx : x == n with
    | true =>
      have e : x = n := by simpa using hx
      subst e
      by_cases hc : (k == NameKind.free && env.scope.kind == .function && env.kindOf x == some .cell) = true
      · rw [if_pos hc]; simp only [List.lookup_cons, beq_self_eq_true, Option.map_some]; rw [if_pos hc]
      · rw [if_neg hc]; simp only [List.lookup_cons, beq_self_eq_true, Option.map_some]; rw [if_neg hc]
    | false =>
      by_cases hc : (k == NameKind.free && env.scope.kind == .function && env.kindOf n == some .cell) = true
      · rw [if_pos hc]; simp only [List.lookup_cons, hx]; exact ih
      · rw [if_neg hc]; simp only [List.lookup_cons, hx]; exact ih

/-- a block's scope within a def's (or another block's): osc the outer scope, N the outer names; own the block's own names; N2 the outer names as the block sees them (a name that the block shadows is put otherwise) -/
structure CompScope (osc scope : Scope) (N own N2 : List Str) : Prop where
  kind : scope.kind = .function
  nocell : ∀ y ∈ scope.names, y.2 ≠ .cell
  names : ∀ y ∈ scope.names, y.2 = .local → scope.names.lookup y.1 = some .local
  free : ∀ y ∈ scope.names, y.2 = .free → (osc.names.lookup y.1 = some .cell ∨ osc.names.lookup y.1 = some .free)
  len : N2.length = N.length
  vis : ∀ p ∈ N2.zip N, (scope.names.lookup p.1 = some .free → p.1 = p.2) ∧ scope.names.lookup p.1 ≠ some .local

/-- the context of a block -/
def cxC (X : Cx) (scope : Scope) (own N2 : List Str) (C : Addr) (s : Shared) (H : Hp) (ex : List Addr) (pn : List (Addr × Obj)) : Cx where
  prog := X.prog
  w := X.w
  K := X.K
  mg := X.mg
  base := X.base
  A := X.A
  N := N2 ++ own
  s₀ := s
  H₀ := H
  env := compEnvC scope (clOf scope X.env) C X.env
  outer := X.stack
  stack := X.stack
  ex := ex
  calm := X.calm
  fn := fun _ => false
  pn := pn
  xe := fun _ _ => False

theorem Un.track {fs ex : List Addr} {H H' : Hp} {h h' : Heap} {a : Addr} {o : HO} (u : Un fs ex H H' h h') (hp : h.objs.size ≤ a) (hn : H a = none) : Un fs ex H (upd H' a o) h h' where
  keep := u.keep
  slot := u.slot
  free := fun b ob q n hx => by rw [upd_ne (Nat.ne_of_lt (Nat.lt_of_lt_of_le (Heap.lt_size q) hp))]; exact u.free b ob q n hx
  there := u.there
  tups := fun b xs q => by rw [upd_ne (ne_of_none q hn)]; exact u.tups b xs q
  frzs := fun b ob xs q => by rw [upd_ne (ne_of_none q hn)]; exact u.frzs b ob xs q
  tbls := fun b ps q => by rw [upd_ne (ne_of_none q hn)]; exact u.tbls b ps q

/-- a block's tests -/
def PTs (X : Cx) (ifs : List Expr) (t : TT) : Prop :=
  ∀ (pins : List (Addr × Obj)) (s : Shared) (σ : St) (H : Hp) (Q : Bool → Hp → Prop), Inv X pins σ H s → t σ H Q →
    wpAny (model X.prog X.w) X.A (forIn ifs true fun c r => if r = true then do let ok ← isTrue c X.env (eval c X.env); pure (ForInStep.yield ok) else pure (ForInStep.yield r)) (TP X pins σ Q) X.xe s
def tYes : TT := fun _ H Q => Q true H
theorem pts_nil {X : Cx} : PTs X [] tYes := fun _ _ _ H _ I h => wpAny_tests_nil ⟨H, I, h⟩
theorem pts_one {X : Cx} {c : Expr} {t : TT} (h : PT X c t) : PTs X [c] t := fun pins s σ H Q I q => wpAny_tests_one (h pins s σ H Q I q)

/-- what a block's loop is to keep: W by the turn, a measure and the items so far -/
def compW (J : It) (g : TG) (tc : TT) (te : TE) (Fin : List V → Hp → Prop) (σ0 : St) (H1 : Hp) : Prop :=
  ∃ W : Nat → Nat → List V → St → Hp → Prop, (∃ m, W 0 m [] σ0 H1) ∧ ∀ i m ys σ H, W i m ys σ H →
    (J.stop i H ∧ Fin ys H) ∨ (J.go i H ∧ ys.length < sizeLine ∧ ∃ N : List V → St → Hp → Prop, (∀ zs σ' H', N zs σ' H' → ∃ m', m' < m ∧ W (i + 1) m' zs σ' H') ∧
      ∀ x H', J.yld i H x H' → g x σ H' fun σ2 H2 => tc σ2 H2 fun b H3 => if b = true then te σ2 H3 (fun y H4 => N (ys ++ [y]) σ2 H4) else N ys σ2 H3)

section
variable {prog : Program} {w : World} {A : Around} {R : Result → Shared → Prop} {s : Shared}
/-- the block's loop, whatever is done to the iterator's own tuple ahead of the store -/
theorem codeAny_compLoopG {elt target iter : Expr} {ifs : List Expr} {scope : Scope} {pos : Pos} {it acc : Value} {env : Env} (I : Nat → Shared → Prop)
    (turn : ∀ n s, I n s → wpAny (model prog w) A (pyNext it) (fun r s₁ => match r with
      | none => R (.ok .next) s₁
      | some v => wpAny (model prog w) A (letOwnedTupleGo target it v) (fun _ s₁' => wpAny (model prog w) A (assign target env v) (fun _ s₂ =>
          wpAny (model prog w) A (forIn ifs true fun c r => if r = true then do let ok ← isTrue c env (eval c env); pure (ForInStep.yield ok) else pure (ForInStep.yield r)) (fun ok s₃ =>
            if ok = true then wpAny (model prog w) A (eval elt env) (fun x s₄ =>
              wpAny (model prog w) A (call (.builtin "list.append") [acc, x]) (fun _ s₅ => ∃ m, m < n ∧ I m s₅) (fun _ _ => False) s₄) (fun _ _ => False) s₃
            else ∃ m, m < n ∧ I m s₃) (fun _ _ => False) s₂) (fun _ _ => False) s₁') (fun _ _ => False) s₁) (fun _ _ => False) s)
    (n : Nat) (h : I n s) :
    codeAny (model prog w) A (.compLoop (.ListComp elt [⟨target, iter, ifs, 0⟩] scope pos) 0 it acc env) R s := by
  refine codeAny_loop rfl I (fun n s hI => ?_) n h
  show wpAny _ A ((compTurn (.ListComp elt [⟨target, iter, ifs, 0⟩] scope pos) 0 it acc env).onRaise (fun x => do noteFrame x env; theTreesLotGoes x)) _ _ s
  refine wpAny_noted (wpAny_noRaise ?_)
  rw [compTurn_list]
  refine wpAny_bind (wpAny_standAt (wpAny_bind (wpAny_mono (turn n s hI) (fun r s₁ h₁ => ?_) fun _ _ h' => h')))
  cases r with
  | none => exact wpAny_pure h₁
  | some v =>
    refine wpAny_bind (wpAny_mono h₁ (fun _ s₁' h₁' => ?_) fun _ _ h' => h')
    refine wpAny_bind (wpAny_mono h₁' (fun _ s₂ h₂ => wpAny_bind (wpAny_mono h₂ (fun ok s₃ h₃ => ?_) fun _ _ h' => h')) fun _ _ h' => h')
    cases ok with
    | false => exact wpAny_pure ⟨rfl, h₃⟩
    | true =>
      exact wpAny_bind (wpAny_bind (wpAny_mono h₃ (fun x s₄ h₄ => wpAny_bind (wpAny_mono h₄ (fun _ s₅ h₅ => wpAny_pure (wpAny_pure ⟨rfl, h₅⟩)) fun _ _ h' => h')) fun _ _ h' => h'))
end

section
variable {X : Cx} {pins : List (Addr × Obj)} {σ : St} {H : Hp} {s : Shared}
theorem comp_core {elt tg iter : Expr} {ifs : List Expr} {scope osc : Scope} {N own N2 : List Str} {pos pos' : Pos} {wi : TI} {g : TG} {tc : TT} {te : TE} {use : Option (Value → Sem Unit)} {QQ : Value → Shared → Prop} {Fin : List V → Hp → Prop}
    (cs : CompScope osc scope N own N2) (ho : X.env.scope = osc) (hN : X.N = N) (hc : X.calm = true) (hi : PI X tg iter wi)
    (hg : ∀ C s H ex pn, PG (cxC X scope own N2 C s H ex pn) tg g) (ht : ∀ C s H ex pn, PTs (cxC X scope own N2 C s H ex pn) ifs tc) (he : ∀ C s H ex pn, PE (cxC X scope own N2 C s H ex pn) elt te)
    (I : Inv X pins σ H s) (h : wi σ H fun J H1 => compW J g tc te Fin (σ ++ List.replicate own.length none) H1)
    (fin : ∀ (D C : Addr) (ys : List V) (H' : Hp) (s' : Shared) (m : Str → Option Value), Fin ys H' → H' D = none → Inv X pins σ (upd H' D (.lst ys)) s' → s'.heap.Ns C m → FpOk X pins (upd H' D (.lst ys)) C →
      compPost (model X.prog X.w) X.A X.xe use QQ (.ref D) C (.ok .next) s')
    (hs : ∀ x, foldedSetIterable iter X.env x = pure x) :
    wpAny (model X.prog X.w) X.A (comprehension (.ListComp elt [⟨tg, iter, ifs, 0⟩] scope pos) scope X.env pos' (newList []) false (eval iter X.env) use) QQ X.xe s := by
  subst ho hN
  have hfree : ∀ x ∈ scope.names, x.2 = .free → ∃ c, X.env.cells.lookup x.1 = some c := fun x hx hf => I.ok.has x.1 (cs.free x hx hf)
  refine wpAny_comprehension_free (use := use) rfl hs (closureFor_cl hfree) cs.kind cs.names (thn (hi pins s σ H _ I h) fun v s1 h1 => thn h1 fun itv s2 h2 => ?_)
  obtain ⟨it, fp, tn, J, H2, e, I2, T, st2, f2, W, ⟨m0, w0⟩, turn⟩ := h2
  subst e
  refine wpAny_newObj_type (wpAny_newFunctionEnv cs.nocell (by intro y hy; simp at hy) (fun h₁ hns₁ hsb₁ => ?_) cs.kind)
  dsimp only at hns₁ hsb₁ ⊢
  generalize hG : s2.heap.push { cls := .type "list", dict := none, data := .seq ([] : List Value).toArray } = G at hns₁ hsb₁ ⊢
  have hC : G.objs.size = s2.heap.objs.size + 1 := by rw [← hG, Heap.size_push]
  have hDC : s2.heap.objs.size ≠ G.objs.size := by rw [hC]; exact Nat.ne_of_lt (Nat.lt_succ_self _)
  have hCle : s2.heap.objs.size ≤ G.objs.size := by rw [hC]; exact Nat.le_succ _
  have below : ∀ b, b < s2.heap.objs.size → b ≠ G.objs.size ∧ b ≠ s2.heap.objs.size := fun b hb => ⟨by rw [hC]; exact Nat.ne_of_lt (Nat.lt_succ_of_lt hb), Nat.ne_of_lt hb⟩
  have old : ∀ b o, s2.heap.get? b = some o → h₁.get? b = some o := fun b o e => hsb₁.extBut b o (below b (Heap.lt_size e)).1 (Heap.get?_push_of_some _ (hG ▸ Heap.get?_push_of_some _ e))
  have hacc : h₁.get? s2.heap.objs.size = some (LCg.lst []) := hsb₁.extBut _ _ hDC (Heap.get?_push_of_some _ (hG ▸ Heap.get?_push_size _ rfl))
  have fpLt : ∀ b ∈ fp, b < s2.heap.objs.size := fun b hb => let ⟨o, e, _⟩ := T.obj 0 _ st2 b hb; Heap.lt_size e
  have hD2 : H2 s2.heap.objs.size = none := I2.hok.fresh (Nat.le_refl _)
  have hC2 : H2 G.objs.size = none := I2.hok.fresh hCle
  have cellLt : ∀ x c, X.env.cells.lookup x = some c → c < s2.heap.objs.size := fun x c e => let ⟨v, z⟩ := I2.cell x c e; z.lt
  have pinLt : ∀ p ∈ X.pn ++ pins, p.1 < s2.heap.objs.size := fun p hp => Heap.lt_size (I2.pin p hp).1
  -- the block's context
  generalize hX : cxC X scope own N2 G.objs.size s2 H2 fp (X.pn ++ pins) = X'
  have hok' : X'.Ok := by
    subst hX
    refine ⟨I2.ok.mod, cs.kind, I2.ok.glob, I2.ok.blt, hCle, fun x y c e1 e2 => I2.ok.inj x y c (cl_sub hfree e1) (cl_sub hfree e2), fun x hx => ?_, fun x c hf => ?_, I2.ok.hd, I2.ok.frames, .inl rfl, fun b hb => ?_, I2.bs,
      Nat.le_trans I2.ok.bsz I2.sz, fun b o e hb => ?_, fun b hb hz => ?_, I2.stack, I2.stkFree⟩
    · have hx' : (relabel scope X.env).names.lookup x = some .cell ∨ (relabel scope X.env).names.lookup x = some .free := hx
      unfold relabel at hx'
      dsimp only at hx'
      rw [lookup_relabel] at hx'
      have hm : ∃ k, scope.names.lookup x = some k := by
        cases q : scope.names.lookup x with
        | none => rw [q] at hx'; rcases hx' with z | z <;> cases z
        | some k => exact ⟨k, rfl⟩
      obtain ⟨k, hk⟩ := hm
      have hmem := PySem.mem_of_lookup hk
      have hkf : k = .free := by
        rw [hk] at hx'
        cases k with
        | free => rfl
        | cell => exact absurd rfl (cs.nocell _ hmem)
        | _ => rcases hx' with z | z <;> cases z
      subst hkf
      obtain ⟨c, hc⟩ := hfree _ hmem rfl
      exact ⟨c, cl_has hfree hmem hc⟩
    · cases hf
    · obtain ⟨_, f1, ff, fx, fc, fpn⟩ := f2 b hb
      exact ⟨(below b (fpLt b hb)).1, fun x c e => fc x c (cl_sub hfree e)⟩
    · obtain ⟨_, _, _, fx, _, _⟩ := f2 b hb
      rcases fx with z | z
      · exact I2.ok.noex b o e z
      · exact absurd (Nat.lt_of_lt_of_le (Heap.lt_size e) (Nat.le_trans I2.ok.bsz z)) (Nat.lt_irrefl _)
    · obtain ⟨_, f1, ff, _⟩ := f2 b hb
      rcases List.mem_cons.mp (I2.stkSub b hz) with z | z
      · exact f1 z
      · exact ff z
  have I0 : Inv X' [(s2.heap.objs.size, LCg.lst [])] (σ ++ List.replicate own.length none) H2 { s2 with heap := h₁, toks := s2.toks + ([] : List (Str × Value)).length } := by
    subst hX
    refine ⟨hok', rfl, I2.bare, Un.kept old, ⟨_, hns₁, fun i x v e1 e2 e3 => ?_⟩, fun x c e => ?_, hC2, fun x c e => I2.freeC x c (cl_sub hfree e), fun p hp => ?_, I2.hok.kept old, ?_⟩
    · have e1 : (N2 ++ own)[i]? = some x := e1
      have hil : i < σ.length := by
        by_cases hil : i < σ.length
        · exact hil
        · rw [List.getElem?_append_right (by omega), List.getElem?_replicate] at e2
          split at e2 <;> cases e2
      rw [List.getElem?_append_left hil] at e2
      have hlen : N2.length = σ.length := cs.len.trans I2.len.symm
      rw [List.getElem?_append_left (by omega)] at e1
      have hiN : i < X.N.length := by rw [← I2.len]; exact hil
      have hz : (x, X.N[i]) ∈ N2.zip X.N := by
        refine List.mem_of_getElem? (i := i) ?_
        rw [List.getElem?_zip_eq_some]
        exact ⟨e1, List.getElem?_eq_getElem hiN⟩
      obtain ⟨v1, v2⟩ := cs.vis _ hz
      have e3' : Vis (relabel scope X.env) x := e3
      have hmf : scope.names.lookup x = some .free := by
        unfold Vis relabel at e3'
        dsimp only at e3'
        rw [lookup_relabel] at e3'
        cases q : scope.names.lookup x with
        | none => rw [q] at e3'; rcases e3' with z | z | z <;> cases z
        | some k =>
          rw [q] at e3'
          cases k with
          | free => rfl
          | cell => exact absurd rfl (cs.nocell _ (PySem.mem_of_lookup q))
          | «local» => exact absurd q v2
          | _ => rcases e3' with z | z | z <;> cases z
      have hmem := PySem.mem_of_lookup hmf
      have ex : x = X.N[i] := v1 hmf
      have hNi : X.N[i]? = some x := by rw [ex]; exact List.getElem?_eq_getElem hiN
      have hcf := cs.free _ hmem rfl
      obtain ⟨m, hn, hl⟩ := I2.loc
      obtain ⟨u, ru, lk⟩ := hl i x v hNi e2 (.inr hcf)
      refine ⟨u, ru, ?_⟩
      rcases lk with ⟨k, _⟩ | ⟨k, c, ec, z⟩
      · have k' : X.env.scope.names.lookup x = some .local := k
        rcases hcf with q | q <;> (have q' : X.env.scope.names.lookup x = _ := q; rw [k'] at q'; cases q')
      · refine .inr ⟨?_, c, cl_has hfree hmem ec, ?_⟩
        · show (relabel scope X.env).names.lookup x = some .cell ∨ (relabel scope X.env).names.lookup x = some .free
          unfold relabel
          dsimp only
          rw [lookup_relabel, hmf]
          show some (if _ then NameKind.cell else NameKind.free) = _ ∨ some (if _ then NameKind.cell else NameKind.free) = _
          split
          · exact .inl rfl
          · exact .inr rfl
        · obtain ⟨o, eo, d⟩ := z
          exact ⟨o, old _ _ eo, d⟩
    · obtain ⟨v, o, eo, d⟩ := I2.cell x c (cl_sub hfree e)
      exact ⟨v, o, old _ _ eo, d⟩
    · have hp : p ∈ (X.pn ++ pins) ++ [(s2.heap.objs.size, LCg.lst [])] := hp
      rcases List.mem_append.mp hp with hp | hp
      · obtain ⟨e, n, nl, nf, d⟩ := I2.pin p hp
        refine ⟨old _ _ e, n, (below _ (Heap.lt_size e)).1, fun hz => ?_, d⟩
        rcases List.mem_cons.mp (I2.stkSub p.1 hz) with z | z
        · exact nl z
        · exact nf z
      · have e : p = (s2.heap.objs.size, LCg.lst []) := by simpa using hp
        subst e
        refine ⟨hacc, hD2, hDC, fun hz => ?_, fun v z => by cases z⟩
        rcases List.mem_cons.mp (I2.stkSub _ hz) with z | z
        · exact absurd I2.lt (by rw [← z]; exact Nat.lt_irrefl _)
        · exact I2.nofs (Nat.le_refl _) z
    · show (σ ++ List.replicate own.length none).length = (N2 ++ own).length
      rw [List.length_append, List.length_append, List.length_replicate, cs.len, I2.len]
  have stat : ∀ {H' : Hp} {us : List Value}, (∀ b ∈ fp, H' b = none) → ∀ b ∈ fp, FpOk X' [(s2.heap.objs.size, LCg.lst us)] H' b := fun {H' us} hn b hb => by
    subst hX
    obtain ⟨_, f1, ff, fx, fc, fpn⟩ := f2 b hb
    refine ⟨hn b hb, (below b (fpLt b hb)).1, fun hz => ?_, .inl hb, fun x c e => fc x c (cl_sub hfree e), fun p hp z => ?_⟩
    · rcases List.mem_cons.mp (I2.stkSub b hz) with z | z
      · exact f1 z
      · exact ff z
    · have hp : p ∈ (X.pn ++ pins) ++ [(s2.heap.objs.size, LCg.lst us)] := hp
      rcases List.mem_append.mp hp with hp | hp
      · exact fpn p hp z
      · have e : p = (s2.heap.objs.size, LCg.lst us) := by simpa using hp
        subst e
        exact (below b (fpLt b hb)).2 z.symm
  have eP : X'.prog = X.prog := by subst hX; rfl
  have eW : X'.w = X.w := by subst hX; rfl
  have eK : X'.K = X.K := by subst hX; rfl
  have eA : X'.A = X.A := by subst hX; rfl
  have eE : X'.env = compEnvC scope (clOf scope X.env) G.objs.size X.env := by subst hX; rfl
  have eX : X'.xe = fun _ _ => False := by subst hX; rfl
  have eC : X'.calm = true := by subst hX; exact hc
  have eS : X'.s₀ = s2 := by subst hX; rfl
  have eH : X'.H₀ = H2 := by subst hX; rfl
  have eF : X'.fs = frs X.stack := by subst hX; rfl
  have eEx : X'.ex = fp := by subst hX; rfl
  have eN : X'.pn = X.pn ++ pins := by subst hX; rfl
  have hg' := hg G.objs.size s2 H2 fp (X.pn ++ pins)
  have ht' := ht G.objs.size s2 H2 fp (X.pn ++ pins)
  have he' := he G.objs.size s2 H2 fp (X.pn ++ pins)
  rw [hX] at hg' ht' he'
  have loop : ∀ s₃ : Shared, s₃ = { s2 with heap := h₁, toks := s2.toks + ([] : List (Str × Value)).length } →
      codeAny (model X.prog X.w) X.A (.compLoop (.ListComp elt [⟨tg, iter, ifs, 0⟩] scope pos) 0 (.ref it) (.ref s2.heap.objs.size) (compEnvC scope (clOf scope X.env) G.objs.size X.env))
        (compPost (model X.prog X.w) X.A X.xe use QQ (.ref s2.heap.objs.size) G.objs.size) s₃ := by
    rintro s₃ rfl
    refine codeAny_compLoopG (fun n s' => ∃ i ys us σ' H', Inv X' [(s2.heap.objs.size, LCg.lst us)] σ' H' s' ∧ tn i s'.heap ∧ (∀ b ∈ fp, H' b = none) ∧ Vals ys us ∧ ys.length ≤ sizeLine ∧ W i n ys σ' H') ?_ m0
      ⟨0, [], [], _, H2, I0, T.keep 0 _ _ st2 fun b _ o e => old b o e, fun b hb => (f2 b hb).1, .nil, Nat.zero_le _, w0⟩
    rintro n s3 ⟨i, ys, us, σ3, H3, I3, st3, fr3, hv, hz, w3⟩
    rcases turn i n ys σ3 H3 w3 with ⟨stop, qn⟩ | ⟨go, hlt, NN, hNN, step⟩
    · have dn := T.done X' eP eW eK eC i _ s3 σ3 H3 (fun _ _ => False) I3 (stat fr3) st3 stop
      rw [eA] at dn
      refine thn dn fun r s4 ⟨hr, I4⟩ => ?_
      subst hr
      have pD := I4.pin (s2.heap.objs.size, LCg.lst us) (List.mem_append_right _ List.mem_cons_self)
      have hD3 : H3 s2.heap.objs.size = none := pD.2.1
      have hC3 : H3 G.objs.size = none := by have := I4.free; rw [eE] at this; exact this
      have un : Un (frs X.stack) fp H2 H3 s2.heap s4.heap := by have := I4.base; rw [eF, eEx, eH, eS] at this; exact this
      have hk4 : HOk X.prog X.w H3 s4.heap := by have := I4.hok; rw [eP, eW] at this; exact this
      have hok4 : HOk X.prog X.w (upd H3 s2.heap.objs.size (.lst ys)) s4.heap := fun b u e => by
        by_cases hb : b = s2.heap.objs.size
        · subst hb
          rw [upd_same] at e; cases e
          exact ⟨hz, us, us.length, hv, pD.1⟩
        · rw [upd_ne hb] at e
          refine (hk4 b u e).stay (fun c v _ q => q) (fun c q => ?_) fun c xs q => ?_
          · rw [upd_ne (ne_of_none q hD3)]; exact q
          · rw [upd_ne (ne_of_none q hD3)]; exact q
      have os4 : s4.os = s2.os := by have := I4.os; rw [eS] at this; exact this
      have I5 : Inv X pins σ (upd H3 s2.heap.objs.size (.lst ys)) s4 := I2.call' os4 (un.track (Nat.le_refl _) hD2) hok4 I4.bare fun b hb => ⟨(f2 b hb).2.2.2.1, (f2 b hb).2.1, (f2 b hb).2.2.2.2.1, (f2 b hb).2.2.2.2.2⟩
      obtain ⟨m, hn, _⟩ := I4.loc
      rw [eE] at hn
      exact fin _ _ ys H3 s4 m qn hD3 I5 hn (I2.fpOk hCle (by rw [upd_ne (Ne.symm hDC)]; exact hC3))
    · have itm := T.item X' eP eW eK eC i _ s3 σ3 H3 (fun _ _ => False) I3 (stat fr3) st3 go
      rw [eA] at itm
      refine thn itm fun r s4 ⟨u, hr, h4⟩ => ?_
      subst hr
      refine thn h4 fun _ s5 ⟨x, H5, I5, r5, y5, st5, fr5⟩ => ?_
      have I5' := I5.pinned (stat fr5) (T.obj _ _ st5)
      have a5 := hg' _ s5 σ3 H5 x u _ I5' r5 (step x H5 y5)
      rw [eP, eW, eA, eE, eX] at a5
      refine thn a5 fun _ s6 ⟨σ6, H6, I6, q6⟩ => ?_
      have a6 := ht' _ s6 σ6 H6 _ I6 q6
      rw [eP, eW, eA, eE, eX] at a6
      refine thn a6 fun ok s7 ⟨H7, I7, q7⟩ => ?_
      have keepT : ∀ {σ' : St} {H' : Hp} {s' : Shared} {us' : List Value}, Inv X' ([(s2.heap.objs.size, LCg.lst us')] ++ pinsAt fp s5.heap) σ' H' s' → tn (i + 1) s'.heap ∧ ∀ b ∈ fp, H' b = none := fun {σ' H' s' us'} J' => by
        refine ⟨T.keep _ _ _ st5 fun b hb o e => (J'.pin (b, o) (List.mem_append_right _ (List.mem_append_right _ (mem_pinsAt hb e)))).1, fun b hb => ?_⟩
        obtain ⟨o, e, d⟩ := T.obj _ _ st5 b hb
        exact (J'.pin (b, o) (List.mem_append_right _ (List.mem_append_right _ (mem_pinsAt hb e)))).2.1
      cases ok with
      | false =>
        obtain ⟨m', hm, w7⟩ := hNN _ _ _ (by simpa using q7)
        exact ⟨m', hm, i + 1, ys, us, σ6, H7, I7.unpinned, (keepT I7).1, (keepT I7).2, hv, hz, w7⟩
      | true =>
        have q7 : te σ6 H7 (fun y H4 => NN (ys ++ [y]) σ6 H4) := by simpa using q7
        have a7 := he' _ s7 σ6 H7 _ I7 q7
        rw [eP, eW, eA, eE, eX] at a7
        refine thn a7 fun uy s8 ⟨y, H8, I8, r8, q8⟩ => ?_
        have pD := I8.pin (s2.heap.objs.size, LCg.lst us) (List.mem_append_right _ (List.mem_append_left _ List.mem_cons_self))
        have hul : us.length = ys.length := hv.length.symm
        refine append_at (hsz := by rw [List.size_toArray]; omega) pD.1 fun h9 sb9 hD9 => ?_
        obtain ⟨m', hm, w8⟩ := hNN _ _ _ q8
        have I8a : Inv X' (pinsAt fp s5.heap) σ6 H8 s8 := I8.pins_of fun p hp => I8.pin p (List.mem_append_right _ (List.mem_append_right _ hp))
        have I9 : Inv X' (pinsAt fp s5.heap) σ6 H8 { s8 with heap := h9 } := I8a.turned (t' := s8.toks) (it := s2.heap.objs.size) (fun b o hb e => (sb9.2 b hb).trans e) pD.2.1 (by rw [eE]; exact hDC) (.inr (by rw [eS]; exact Nat.le_refl _))
          (fun x c e => by
            rw [eE] at e
            exact Nat.ne_of_lt (cellLt x c (cl_sub hfree e)))
          (fun p hp => by
            rw [eN] at hp
            rcases List.mem_append.mp hp with z | z
            · exact Nat.ne_of_lt (pinLt p z)
            · exact Nat.ne_of_lt (fpLt _ (of_pinsAt z).1))
        have I9' : Inv X' ([(s2.heap.objs.size, LCg.lst (us ++ [uy]))] ++ pinsAt fp s5.heap) σ6 H8 { s8 with heap := h9 } := I9.pins_of fun p hp => by
          rcases List.mem_append.mp hp with z | z
          · have e : p = (s2.heap.objs.size, LCg.lst (us ++ [uy])) := by simpa using z
            subst e
            exact ⟨hD9.trans (congrArg some (LCg.lst_snoc us uy)), pD.2.1, pD.2.2.1, pD.2.2.2.1, fun v z => by cases z⟩
          · exact I9.pin p (List.mem_append_right _ z)
        exact ⟨m', hm, i + 1, ys ++ [y], us ++ [uy], σ6, H8, I9'.unpinned, (keepT I9').1, (keepT I9').2, hv.append (.cons r8 .nil), by rw [List.length_append, List.length_singleton]; omega, w8⟩
  exact codeAny_compStart_list (loop _ rfl) (T.self X.A 0 _ _ _ (T.keep 0 _ _ st2 fun b _ o e => old b o e) (loop _ rfl))

/-- [elt for tg in iter if ..] -/
def tComp (k : Nat) (wi : TI) (g : TG) (tc : TT) (te : TE) : TE := fun σ H Q => wi σ H fun J H1 => compW J g tc te (fun ys H' => ∀ p, H' p = none → Q (.ref p) (upd H' p (.lst ys))) (σ ++ List.replicate k none) H1
theorem pe_comp {elt tg iter : Expr} {ifs : List Expr} {scope osc : Scope} {N own N2 : List Str} {pos : Pos} {wi : TI} {g : TG} {tc : TT} {te : TE} (cs : CompScope osc scope N own N2) (hc : X.calm = true) (hi : PI X tg iter wi)
    (hg : ∀ C s H ex pn, PG (cxC X scope own N2 C s H ex pn) tg g) (ht : ∀ C s H ex pn, PTs (cxC X scope own N2 C s H ex pn) ifs tc) (he : ∀ C s H ex pn, PE (cxC X scope own N2 C s H ex pn) elt te)
    (ho : X.env.scope = osc := by rfl) (hN : X.N = N := by rfl) (hs : ∀ x, foldedSetIterable iter X.env x = pure x := by intro _; rfl) :
    PE X (.ListComp elt [⟨tg, iter, ifs, 0⟩] scope pos) (tComp own.length wi g tc te) := by
  intro pins s σ H Q I h
  rw [eval_ListComp]
  refine comp_core (use := none) cs ho hN hc hi hg ht he I h (fun D C ys H' s' m q hD I' hn fC => ⟨m, hn, fun h' sb => ⟨.ref D, _, ?_, rfl, q D hD⟩⟩) hs
  exact I'.turned (t' := s'.toks) (fun b o hb e => (sb.2 b hb).trans e) fC.1 fC.2.1 fC.2.2.2.1 fC.2.2.2.2.1 fC.2.2.2.2.2
/-- x = [elt for tg in iter if ..] where x is a local of a def: the store comes ahead of the block's end -/
def tSetC (i k : Nat) (wi : TI) (g : TG) (tc : TT) (te : TE) : TS := fun D σ H => wi σ H fun J H1 => compW J g tc te (fun ys H' => ∀ p, H' p = none → D.nx (σ.set i (some (.ref p))) (upd H' p (.lst ys))) (σ ++ List.replicate k none) H1
theorem ps_setC {elt tg iter : Expr} {ifs : List Expr} {scope osc : Scope} {N own N2 : List Str} {pos py spos : Pos} {wi : TI} {g : TG} {tc : TT} {te : TE} {i : Nat} {y : Str} (cs : CompScope osc scope N own N2) (hc : X.calm = true)
    (hnd : X.N.Nodup) (hy : X.N[i]? = some y) (hl : X.env.scope.names.lookup y = some .local)
    (hi : PI X tg iter wi)
    (hg : ∀ C s H ex pn, PG (cxC X scope own N2 C s H ex pn) tg g) (ht : ∀ C s H ex pn, PTs (cxC X scope own N2 C s H ex pn) ifs tc) (he : ∀ C s H ex pn, PE (cxC X scope own N2 C s H ex pn) elt te)
    (hsw : swapsWith (.ListComp elt [⟨tg, iter, ifs, 0⟩] scope pos) (some (.Name y py)) spos.line X.env = pure true := by rfl)
    (ho : X.env.scope = osc := by rfl) (hN : X.N = N := by rfl) (hs : ∀ x, foldedSetIterable iter X.env x = pure x := by intro _; rfl) :
    PS X (.Assign [.Name y py] (.ListComp elt [⟨tg, iter, ifs, 0⟩] scope pos) spos) (tSetC i own.length wi g tc te) := by
  intro pins s σ H D I h
  rw [exec_Assign_Name_used _ _ _ _ hsw]
  refine wpAny_bind (wpAny_standAt (wpAny_bind ?_))
  show wpAny _ X.A (do let _ ← comprehension (.ListComp elt [⟨tg, iter, ifs, 0⟩] scope pos) scope X.env _ (newList []) false (eval iter X.env) (some (assign (.Name y py) X.env))) _ _ s
  refine wpAny_bind (thn (comp_core (use := some (assign (.Name y py) X.env)) (QQ := fun _ s' => SP X pins D .next s') cs ho hN hc hi hg ht he I h (fun D' C ys H' s' m q hD I' hn fC => ?_) hs) (fun _ s' hq => wpAny_pure (wpAny_pure hq)))
  show wpAny _ X.A (assign (.Name y py) X.env (.ref D')) _ _ _
  refine wpAny_assign_Name (store_ok2 I' hnd hy (.inl hl) (show RelV (.ref D') (.ref D') from rfl) (fun s'' I'' ⟨a, sb, ha⟩ => ?_) (.inr hl))
  have hCa : C ≠ a := by
    rcases ha with z | z
    · rw [z]; exact fC.2.1
    · exact (fC.2.2.2.2.1 y a z).symm
  refine ⟨m, hn.sameBut sb hCa, fun h' sb' => ⟨_, _, ?_, q D' hD⟩⟩
  exact I''.turned (t' := s''.toks) (fun b o hb e => (sb'.2 b hb).trans e) fC.1 fC.2.1 fC.2.2.2.1 fC.2.2.2.2.1 fC.2.2.2.2.2
end

/-! ### the forms one uses -/
section
variable {g : TG} {tc : TT} {te : TE} {Fin : List V → Hp → Prop} {σ0 : St} {H1 : Hp}
end
end L2

set_option Elab.async false
set_option maxRecDepth 100000
set_option maxHeartbeats 4000000
namespace L2
open PySem PySem.Spec PyProof.Rows

/-! ### a text walked sign by sign -/
def Its (x : Str) : It := ⟨fun i _ => i < x.cps.size, fun i H v H' => H' = H ∧ ∃ c, x.cps[i]? = some c ∧ v = .str ⟨#[c]⟩, fun i _ => i = x.cps.size⟩
theorem turn_strA {P : Program} {w : World} {K : PySem.W.Frag} {tg : Expr} (it : Addr) (x : Str) (t : Tok) : Turn P w K tg (Its x) [it] it (fun i h => h.IsStrIter it "str_ascii_iterator" x t i) where
  mem := by simp
  obj := fun i h st b hb => by
    have e : b = it := by simpa using hb
    subst e
    obtain ⟨o, e, c, d⟩ := st
    exact ⟨o, e, fun v z => by rw [d] at z; cases z⟩
  keep := fun i h h' st k => let ⟨o, e, r⟩ := st; ⟨o, k it (by simp) o e, r⟩
  item := by
    intro X hP hw hK hc i pins s σ H E I hf st hg
    subst hP hw hK
    obtain ⟨f0, f1, f2, f3, f4, f5⟩ := hf it (by simp)
    have W := Walks.strAscii (prog := X.prog) (w := X.w) (I.ok.hd hc) it x t
    refine W.item i s _ _ hg st fun v h' tk hv st' kk => ?_
    obtain ⟨c, u, hc', rfl⟩ := hv
    have I1 : Inv X pins σ H { s with heap := h', toks := tk } := I.turned (fun b o hb e => kk b o (by simpa using hb) e) f0 f1 f3 f4 f5
    obtain ⟨o, e, c1, d⟩ := id st'
    exact ⟨_, rfl, go_of (s := { s with heap := h', toks := tk }) e c1 d (by decide) ⟨.str ⟨#[c]⟩, H, I1, ⟨u, rfl⟩, ⟨rfl, c, hc', rfl⟩, st', fun b hb => (hf b hb).1⟩⟩
  done := by
    intro X hP hw hK hc i pins s σ H E I hf st hg
    subst hP hw hK
    obtain ⟨f0, f1, f2, f3, f4, f5⟩ := hf it (by simp)
    have W := Walks.strAscii (prog := X.prog) (w := X.w) (I.ok.hd hc) it x t
    have hg' : i = x.cps.size := hg
    subst hg'
    exact W.done s _ _ st fun h' tk kk => ⟨rfl, I.turned (fun b o hb e => kk b o (by simpa using hb) e) f0 f1 f3 f4 f5⟩
  self := fun _ _ _ _ _ st h => wpAny_pyIter_striter_ascii st h
theorem turn_strW {P : Program} {w : World} {K : PySem.W.Frag} {tg : Expr} (it : Addr) (x : Str) (t : Tok) : Turn P w K tg (Its x) [it] it (fun i h => h.IsStrIter it "str_iterator" x t i) where
  mem := by simp
  obj := fun i h st b hb => by
    have e : b = it := by simpa using hb
    subst e
    obtain ⟨o, e, c, d⟩ := st
    exact ⟨o, e, fun v z => by rw [d] at z; cases z⟩
  keep := fun i h h' st k => let ⟨o, e, r⟩ := st; ⟨o, k it (by simp) o e, r⟩
  item := by
    intro X hP hw hK hc i pins s σ H E I hf st hg
    subst hP hw hK
    obtain ⟨f0, f1, f2, f3, f4, f5⟩ := hf it (by simp)
    have W := Walks.strWide (prog := X.prog) (w := X.w) (I.ok.hd hc) it x t
    refine W.item i s _ _ hg st fun v h' tk hv st' kk => ?_
    obtain ⟨c, u, hc', rfl⟩ := hv
    have I1 : Inv X pins σ H { s with heap := h', toks := tk } := I.turned (fun b o hb e => kk b o (by simpa using hb) e) f0 f1 f3 f4 f5
    obtain ⟨o, e, c1, d⟩ := id st'
    exact ⟨_, rfl, go_of (s := { s with heap := h', toks := tk }) e c1 d (by decide) ⟨.str ⟨#[c]⟩, H, I1, ⟨u, rfl⟩, ⟨rfl, c, hc', rfl⟩, st', fun b hb => (hf b hb).1⟩⟩
  done := by
    intro X hP hw hK hc i pins s σ H E I hf st hg
    subst hP hw hK
    obtain ⟨f0, f1, f2, f3, f4, f5⟩ := hf it (by simp)
    have W := Walks.strWide (prog := X.prog) (w := X.w) (I.ok.hd hc) it x t
    have hg' : i = x.cps.size := hg
    subst hg'
    exact W.done s _ _ st fun h' tk kk => ⟨rfl, I.turned (fun b o hb e => kk b o (by simpa using hb) e) f0 f1 f3 f4 f5⟩
  self := fun _ _ _ _ _ st h => wpAny_pyIter_striter_wide st h

section
variable {X : Cx} {tg : Expr}
end
section
variable {X : Cx}
/-! ### all, any over a list of truths -/
/-! ### texts -/
/-- x * n -/
theorem mulOk_of {x : Str} {n : Int} (h0 : 0 ≤ n) (h : x.length * n.toNat ≤ 1048576) (hn : n ≤ 1048576) : MulOk x n := by
  refine ⟨?_, fun h1 h2 => ?_, fun h1 h2 => ?_⟩
  · rw [Bool.or_eq_false_iff]
    exact ⟨decide_eq_false (by omega), decide_eq_false (by omega)⟩
  · intro hgt
    have hn1 : 1 ≤ n := by omega
    have h3 : (2 ^ 63 - 1 : Int) / n * n ≤ 2 ^ 63 - 1 := Int.ediv_mul_le _ (by omega)
    have h4 : (2 ^ 63 - 1 : Int) < ((2 ^ 63 - 1) / n + 1) * n := Int.lt_ediv_add_one_mul_self _ (by omega)
    have h5 : ((2 ^ 63 - 1 : Int) / n + 1) * n ≤ (x.length : Int) * n := Int.mul_le_mul_of_nonneg_right (by omega) (by omega)
    have h6 : ((x.length * n.toNat : Nat) : Int) = (x.length : Int) * n := by rw [Int.natCast_mul, Int.toNat_of_nonneg h0]
    have h7 : ((x.length * n.toNat : Nat) : Int) ≤ 1048576 := by omega
    omega
  · show decide (x.length * n.toNat > sizeLine) = false
    rw [sizeLine_eq]
    exact decide_eq_false (by omega)
theorem op_mul_str : OpR X (binaryOp .Mult) (fun x y H Q => ∃ z n, x = .str z ∧ y = .int n ∧ 0 ≤ n ∧ n ≤ 1048576 ∧ z.length * n.toNat ≤ 1048576 ∧ Q (.str (Txt.mul z n)) H) := by
  intro pins s σ H x y v u Q I rx ry h
  obtain ⟨z, n, rfl, rfl, h0, hn, hz, q⟩ := h
  obtain ⟨t, rfl⟩ := rx
  obtain ⟨t', rfl⟩ := ry
  exact SB.mul (mulOk_of h0 hz hn) fun t2 k => ⟨.str _, H, I.tok _, ⟨t2, rfl⟩, q⟩
end

end L2

set_option Elab.async false
set_option maxRecDepth 100000
set_option maxHeartbeats 4000000
namespace L2
open PySem PySem.Spec PyProof.Rows

/-! ### defs of the text, in short -/
structure IsDef (K : PySem.W.Frag) (mg : Str → Option Value) (x : Str) (st : Stmt) (ps : List Str) (f : Addr) (fd : FuncData) : Prop where
  fn : Fun K x x st f fd
  mgf : mg x = some (.ref f)
  b : Binds K fd ps []
theorem isDef_mk {K : PySem.W.Frag} {h : Heap} {mg : Str → Option Value} {x : Str} {st : Stmt} {ps : List Str} {f : Addr} {oc : Value} {od an : Option Addr} {osl : Array (Option Value)} {kV doc pm cdv ct : Value} (X : K.In h) (G : h.Ns mainGlobals mg)
    (a : PySem.W.nsIn K mainGlobals x = some (some (.ref f))) (l : K.lookup f = some ⟨oc, od, .func (PySem.W.fnOf x x (defArgs st) (defBody st) (defScope st) .none kV doc pm an cdv ct), osl⟩)
    (c : PySem.W.codeIn K cdv x = true) (k : PySem.W.keepIn K (.ref f) = true)
    (hb : ∀ (kV doc pm : Value) (an : Option Addr) (cdv ct : Value) (us : List Value), us.length = ps.length → bindArgs (PySem.W.fnOf x x (defArgs st) (defBody st) (defScope st) .none kV doc pm an cdv ct) ⟨us, []⟩ = pure (ps.zip us)) :
    IsDef K mg x st ps f (PySem.W.fnOf x x (defArgs st) (defBody st) (defScope st) .none kV doc pm an cdv ct) := by
  have F := fun_mk (st := st) l c k
  exact ⟨F, PySem.W.mg_of X G a, F.binds hb⟩
section
variable {X : Cx} {k : Nat} {f : Addr} {fd : FuncData} {ps : List Str} {sp : Sp} {x : Str} {st : Stmt} {p pos : Pos} {e : Expr} {es : List Expr} {t : TA}
/-- a call of a def that is known -/
theorem pe_def (D : IsDef X.K X.mg x st ps f fd) (F : FnOk X.prog X.w X.K X.mg X.base CX0 k f fd ps sp) (hr : Room k X.A) (ha : PA X (e :: es) t) (hg : Gl X x := by rfl) (hdb : (x == ("__debug__" : Str)) = false := by decide)
    (he : starEach (e :: es) X.env = (false, eval e X.env) :: starEach es X.env := by rfl) (hpl : (backTo pos (starEach es X.env)).any (·.1) = false := by rfl) : PE X (.Call (.Name x p) (e :: es) [] pos) (tCall sp [] E0 t) :=
  pe_call F hr hg D.mgf D.fn.kp D.b .nil pass0 ha hdb he hpl
end

/-! ### kinds -/
theorem kit_bt (K : PySem.W.Frag) {a b : String} {r : Bool} (h : (if (Value.type a == Value.type b) = true then some true else if PySem.W.kitMeta b = true then (fastBuiltinMro a).map (·.contains (.type b)) else none) = some r) :
    PySem.W.kitOne K (.type a) (.type b) = some r := h
theorem TyOf.same {K : PySem.W.Frag} {H H' : Hp} {v : V} {t : Value} (h : TyOf K H v t) (s : Same H H') : TyOf K H' v t := by
  cases h with
  | non => exact .non
  | bl x => exact .bl x
  | int i => exact .int i
  | str x => exact .str x
  | flt x => exact .flt x
  | lst e => exact .lst (s _ _ e)
  | frz e => exact .frz (s _ _ e)
  | tup e => exact .tup (s _ _ e)
  | dK e => exact .dK (s _ _ e)
  | dT e => exact .dT (s _ _ e)
  | ins e cl ha hn htk hm => exact .ins (s _ _ e) cl ha hn htk hm
theorem Same.upd {H H' : Hp} {p : Addr} {o : HO} (s : Same H H') (h : H' p = none) : Same H (upd H' p o) := fun b u e => by
  rw [upd_ne (ne_of_none (s b u e) h)]; exact s b u e
theorem Same.new {H : Hp} {p : Addr} {o : HO} (h : H p = none) : Same H (L2.upd H p o) := (Same.refl H).upd h
section
variable {X : Cx}
end
/-! ### argument lists, by a look at the item alone -/
def notStar : Expr → Bool
  | .Starred _ _ => false
  | _ => true
theorem star_cons {e : Expr} {es : List Expr} {env : Env} (h : notStar e = true) : starEach (e :: es) env = (false, eval e env) :: starEach es env := by
  cases e <;> first | rfl | (exact absurd (show false = true from h) Bool.false_ne_true)
end L2

set_option Elab.async false
set_option maxRecDepth 100000
set_option maxHeartbeats 4000000
/-! ## data without the heap: tuples are values, lists and objects stand at addresses -/
namespace DD
open PySem PySem.Spec PyProof.Rows L2

inductive D where
  | non | bl (b : Bool) | int (i : Int) | str (x : Str) | tup (ds : List D) | ref (a : Addr) | ty (n : String)

/-! ### lists, pairwise -/
section
variable {α β : Type} {F G : α → β → Prop}
theorem pl_len : ∀ {l : List α} {m : List β}, Paired F l m → l.length = m.length
  | _, _, .nil => rfl
  | _, _, .cons _ t => by simp [pl_len t]
theorem pl_get : ∀ {l : List α} {m : List β} {i : Nat} {a : α}, Paired F l m → l[i]? = some a → ∃ b, m[i]? = some b ∧ F a b
  | _, _, _, _, .nil, e => by simp at e
  | _, _, 0, _, .cons r _, e => by simp at e; subst e; exact ⟨_, rfl, r⟩
  | _, _, i + 1, a, .cons _ t, e => by
    obtain ⟨b, h1, h2⟩ := pl_get (i := i) (a := a) t (by simpa using e)
    exact ⟨b, by simpa using h1, h2⟩
theorem pl_append : ∀ {l l' : List α} {m m' : List β}, Paired F l m → Paired F l' m' → Paired F (l ++ l') (m ++ m')
  | _, _, _, _, .nil, s => s
  | _, _, _, _, .cons r t, s => .cons r (pl_append t s)
theorem pl_take : ∀ {l : List α} {m : List β} (n : Nat), Paired F l m → Paired F (l.take n) (m.take n)
  | _, _, 0, _ => .nil
  | _, _, _ + 1, .nil => .nil
  | _, _, n + 1, .cons r t => .cons r (pl_take n t)
theorem pl_drop : ∀ {l : List α} {m : List β} (n : Nat), Paired F l m → Paired F (l.drop n) (m.drop n)
  | _, _, 0, r => r
  | _, _, _ + 1, .nil => .nil
  | _, _, n + 1, .cons _ t => pl_drop n t
theorem pl_set {a : α} {b : β} (r : F a b) : ∀ {l : List α} {m : List β} (i : Nat), Paired F l m → Paired F (l.set i a) (m.set i b)
  | _, _, _, .nil => .nil
  | _, _, 0, .cons _ t => .cons r t
  | _, _, i + 1, .cons q t => .cons q (pl_set r i t)
theorem pl_imp (f : ∀ a b, F a b → G a b) : ∀ {l : List α} {m : List β}, Paired F l m → Paired G l m
  | _, _, .nil => .nil
  | _, _, .cons r t => .cons (f _ _ r) (pl_imp f t)
theorem pl_rep {l : List α} {m : List β} (h : Paired F l m) : ∀ n, Paired F (List.replicate n l).flatten (List.replicate n m).flatten
  | 0 => .nil
  | n + 1 => by rw [List.replicate_succ, List.replicate_succ, List.flatten_cons, List.flatten_cons]; exact pl_append h (pl_rep h n)
theorem pl_replicate {a : α} {b : β} (r : F a b) : ∀ n, Paired F (List.replicate n a) (List.replicate n b)
  | 0 => .nil
  | n + 1 => .cons r (pl_replicate r n)
end

/-! ### values -/
section
variable (K : PySem.W.Frag) (H : Hp)
mutual
def RV : D → V → Prop
  | .non, v => v = .non
  | .bl b, v => v = .bl b
  | .int i, v => v = .int i
  | .str x, v => v = .str x
  | .ref a, v => v = .ref a
  | .ty n, v => v = .ty n
  | .tup ds, v => ∃ a xs, v = .ref a ∧ SqT K H a xs ∧ RVs ds xs
def RVs : List D → List V → Prop
  | [], xs => xs = []
  | d :: ds, xs => ∃ v vs, xs = v :: vs ∧ RV d v ∧ RVs ds vs
end
end
section
variable {K : PySem.W.Frag} {H H' H'' : Hp}
theorem RVs.p : ∀ {ds : List D} {xs : List V}, RVs K H ds xs → Paired (RV K H) ds xs
  | [], _, h => by rw [RVs] at h; subst h; exact .nil
  | d :: ds, _, h => by
    rw [RVs] at h
    obtain ⟨v, vs, rfl, r, t⟩ := h
    exact .cons r (RVs.p t)
theorem RVs.of : ∀ {ds : List D} {xs : List V}, Paired (RV K H) ds xs → RVs K H ds xs
  | _, _, .nil => by rw [RVs]
  | _, _, .cons r t => by rw [RVs]; exact ⟨_, _, rfl, r, RVs.of t⟩
theorem RVs.nil : RVs K H [] [] := by rw [RVs]
theorem RVs.cons {d : D} {v : V} {ds : List D} {vs : List V} (r : RV K H d v) (t : RVs K H ds vs) : RVs K H (d :: ds) (v :: vs) := by rw [RVs]; exact ⟨_, _, rfl, r, t⟩
theorem RVs.len {ds : List D} {xs : List V} (h : RVs K H ds xs) : ds.length = xs.length := pl_len h.p

/-- tuples stay -/
def Kp (H H' : Hp) : Prop := (∀ a xs, Rd H a (.tup xs) → Rd H' a (.tup xs)) ∧ ∀ a u o, H a = some (.frz u o) → H' a = some (.frz u o)
theorem Kp.refl (H : Hp) : Kp H H := ⟨fun _ _ h => h, fun _ _ _ h => h⟩
theorem Kp.trans (a : Kp H H') (b : Kp H' H'') : Kp H H'' := ⟨fun c xs h => b.1 c xs (a.1 c xs h), fun c u o h => b.2 c u o (a.2 c u o h)⟩
theorem Kp.new {p : Addr} {o : HO} (h : H p = none) : Kp H (upd H p o) := ⟨fun a xs r => by
  rcases r with r | ⟨u, r⟩
  · exact .inl (by rw [upd_ne (ne_of_none r h)]; exact r)
  · exact .inr ⟨u, by rw [upd_ne (ne_of_none r h)]; exact r⟩, fun a u o r => by rw [upd_ne (ne_of_none r h)]; exact r⟩
/-- what is no tuple -/
def noTup : HO → Prop
  | .tup _ => False
  | .frz _ _ => False
  | _ => True
theorem Kp.put {p : Addr} {o o' : HO} (h : H p = some o) (n : noTup o) : Kp H (upd H p o') := ⟨fun a xs r => by
  rcases r with r | ⟨u, r⟩
  · have : a ≠ p := fun e => by subst e; rw [h] at r; cases r; exact n
    exact .inl (by rw [upd_ne this]; exact r)
  · have : a ≠ p := fun e => by subst e; rw [h] at r; cases r; exact n
    exact .inr ⟨u, by rw [upd_ne this]; exact r⟩, fun a u o r => by
    have : a ≠ p := fun e => by subst e; rw [h] at r; cases r; exact n
    rw [upd_ne this]; exact r⟩
theorem Kp.sq (t : Kp H H') {a : Addr} {xs : List V} (h : SqT K H a xs) : SqT K H' a xs := by
  rcases h with h | h
  · exact .inl (t.1 a xs h)
  · exact .inr h
mutual
theorem RV.mono (t : Kp H H') : ∀ (d : D) {v : V}, RV K H d v → RV K H' d v
  | .non, _, h => by rw [RV] at h ⊢; exact h
  | .bl _, _, h => by rw [RV] at h ⊢; exact h
  | .int _, _, h => by rw [RV] at h ⊢; exact h
  | .str _, _, h => by rw [RV] at h ⊢; exact h
  | .ref _, _, h => by rw [RV] at h ⊢; exact h
  | .ty _, _, h => by rw [RV] at h ⊢; exact h
  | .tup ds, _, h => by
    rw [RV] at h ⊢
    obtain ⟨a, xs, e, s, r⟩ := h
    exact ⟨a, xs, e, t.sq s, RVs.mono t ds r⟩
theorem RVs.mono (t : Kp H H') : ∀ (ds : List D) {xs : List V}, RVs K H ds xs → RVs K H' ds xs
  | [], _, h => by rw [RVs] at h ⊢; exact h
  | d :: ds, _, h => by
    rw [RVs] at h ⊢
    obtain ⟨v, vs, e, r, q⟩ := h
    exact ⟨v, vs, e, RV.mono t d r, RVs.mono t ds q⟩
end
theorem RV.non_ {v : V} : RV K H .non v ↔ v = .non := by rw [RV]
theorem RV.bl_ {v : V} {b : Bool} : RV K H (.bl b) v ↔ v = .bl b := by rw [RV]
theorem RV.int_ {v : V} {b : Int} : RV K H (.int b) v ↔ v = .int b := by rw [RV]
theorem RV.str_ {v : V} {b : Str} : RV K H (.str b) v ↔ v = .str b := by rw [RV]
theorem RV.ref_ {v : V} {b : Addr} : RV K H (.ref b) v ↔ v = .ref b := by rw [RV]
theorem RV.ty_ {v : V} {b : String} : RV K H (.ty b) v ↔ v = .ty b := by rw [RV]
theorem RV.tup_ {v : V} {ds : List D} : RV K H (.tup ds) v ↔ ∃ a xs, v = .ref a ∧ SqT K H a xs ∧ RVs K H ds xs := by rw [RV]

/-! ### the heap of what may change -/
inductive MO where
  | lst (ds : List D) | rol (ds : List D) | dic (kvs : List (Key × D)) | rod (kvs : List (Key × D)) | ins (C : Addr) (fs : List (Str × D))
abbrev MH := Addr → Option MO
def updM (M : MH) (a : Addr) (o : MO) : MH := fun b => if b = a then some o else M b
theorem updM_same {M : MH} {a : Addr} {o : MO} : updM M a o a = some o := by unfold updM; rw [if_pos rfl]
theorem updM_ne {M : MH} {a b : Addr} {o : MO} (h : b ≠ a) : updM M a o b = M b := by unfold updM; rw [if_neg h]
def RO (K : PySem.W.Frag) (H : Hp) (a : Addr) : MO → Prop
  | .lst ds => ∃ xs, H a = some (.lst xs) ∧ RVs K H ds xs
  | .rol ds => ∃ xs, Rd H a (.lst xs) ∧ RVs K H ds xs
  | .dic kvs => ∃ kws : List (Key × V), H a = some (.dK kws) ∧ kws.map (·.1) = kvs.map (·.1) ∧ RVs K H (kvs.map (·.2)) (kws.map (·.2))
  | .rod kvs => ∃ (u : Obj) (kws : List (Key × V)), H a = some (.frz u (.dK kws)) ∧ kws.map (·.1) = kvs.map (·.1) ∧ RVs K H (kvs.map (·.2)) (kws.map (·.2))
  | .ins C fs => ∃ (dx : Addr) (gs : List (Str × V)), H a = some (.ins C dx gs) ∧ gs.map (·.1) = fs.map (·.1) ∧ RVs K H (fs.map (·.2)) (gs.map (·.2))
def RM (K : PySem.W.Frag) (M : MH) (H : Hp) : Prop := ∀ a o, M a = some o → RO K H a o
theorem RO.stay {a : Addr} {o : MO} (h : RO K H a o) (t : Kp H H') (e : H' a = H a) : RO K H' a o := by
  cases o with
  | lst ds => obtain ⟨xs, q, r⟩ := h; exact ⟨xs, e.trans q, RVs.mono t _ r⟩
  | rol ds =>
    obtain ⟨xs, q, r⟩ := h
    refine ⟨xs, ?_, RVs.mono t _ r⟩
    rcases q with q | ⟨u, q⟩
    · exact .inl (e.trans q)
    · exact .inr ⟨u, e.trans q⟩
  | dic kvs => obtain ⟨kws, q, k, r⟩ := h; exact ⟨kws, e.trans q, k, RVs.mono t _ r⟩
  | rod kvs => obtain ⟨u, kws, q, k, r⟩ := h; exact ⟨u, kws, e.trans q, k, RVs.mono t _ r⟩
  | ins C fs => obtain ⟨dx, gs, q, k, r⟩ := h; exact ⟨dx, gs, e.trans q, k, RVs.mono t _ r⟩
theorem RO.some {a : Addr} {o : MO} (h : RO K H a o) : H a ≠ none := by
  cases o with
  | lst ds => obtain ⟨xs, q, _⟩ := h; rw [q]; exact fun z => nomatch z
  | rol ds => obtain ⟨xs, q | ⟨u, q⟩, _⟩ := h <;> (rw [q]; exact fun z => nomatch z)
  | dic kvs => obtain ⟨kws, q, _⟩ := h; rw [q]; exact fun z => nomatch z
  | rod kvs => obtain ⟨u, kws, q, _⟩ := h; rw [q]; exact fun z => nomatch z
  | ins C fs => obtain ⟨dx, gs, q, _⟩ := h; rw [q]; exact fun z => nomatch z
theorem RM.fresh {M : MH} {p : Addr} (h : RM K M H) (e : H p = none) : M p = none := by
  cases q : M p with
  | none => rfl
  | some o => exact absurd e (h p o q).some
theorem RM.newH {M : MH} {p : Addr} {o : HO} (h : RM K M H) (e : H p = none) : RM K M (upd H p o) := fun a u q =>
  (h a u q).stay (Kp.new e) (upd_ne (fun z => by subst z; exact (h a u q).some e))
theorem RM.new {M : MH} {p : Addr} {o : HO} {m : MO} (h : RM K M H) (e : H p = none) (r : RO K (upd H p o) p m) : RM K (updM M p m) (upd H p o) := fun a u q => by
  by_cases z : a = p
  · subst z; rw [updM_same] at q; cases q; exact r
  · rw [updM_ne z] at q; exact (h a u q).stay (Kp.new e) (upd_ne z)
theorem RM.put {M : MH} {p : Addr} {o o' : HO} {m : MO} (h : RM K M H) (e : H p = some o) (n : noTup o) (r : RO K (upd H p o') p m) : RM K (updM M p m) (upd H p o') := fun a u q => by
  by_cases z : a = p
  · subst z; rw [updM_same] at q; cases q; exact r
  · rw [updM_ne z] at q; exact (h a u q).stay (Kp.put e n) (upd_ne z)

/-! ### the frame -/
abbrev DS := List (Option D)
def RS (K : PySem.W.Frag) (H : Hp) (σ : DS) (ρ : L2.St) : Prop := Paired (fun (od : Option D) (ov : Option V) => ∀ d, od = some d → ∃ v, ov = some v ∧ RV K H d v) σ ρ
theorem RS.mono {σ : DS} {ρ : L2.St} (t : Kp H H') (h : RS K H σ ρ) : RS K H' σ ρ := pl_imp (fun od ov r d e => let ⟨v, q, s⟩ := r d e; ⟨v, q, RV.mono t d s⟩) h
theorem RS.get {σ : DS} {ρ : L2.St} {i : Nat} {d : D} (h : RS K H σ ρ) (e : σ[i]? = some (some d)) : ∃ v, ρ[i]? = some (some v) ∧ RV K H d v := by
  obtain ⟨ov, q, r⟩ := pl_get h e
  obtain ⟨v, rfl, s⟩ := r d rfl
  exact ⟨v, q, s⟩
theorem RS.set {σ : DS} {ρ : L2.St} {d : D} {v : V} (i : Nat) (h : RS K H σ ρ) (r : RV K H d v) : RS K H (σ.set i (some d)) (ρ.set i (some v)) := pl_set (by intro d' e; cases e; exact ⟨v, rfl, r⟩) i h
theorem RS.more {σ : DS} {ρ : L2.St} (n : Nat) (h : RS K H σ ρ) : RS K H (σ ++ List.replicate n none) (ρ ++ List.replicate n none) := pl_append h (pl_replicate (fun d e => nomatch e) n)
end

/-! ### judgements -/
abbrev DK := D → MH → Prop
abbrev WE := DS → MH → DK → Prop
abbrev WT := DS → MH → (Bool → MH → Prop) → Prop
abbrev WA := DS → MH → (List D → MH → Prop) → Prop
def lift (K : PySem.W.Frag) (H : Hp) (Q : DK) : VK := fun v H' => Kp H H' ∧ ∃ d M', RV K H' d v ∧ RM K M' H' ∧ Q d M'
def liftB (K : PySem.W.Frag) (H : Hp) (Q : Bool → MH → Prop) : Bool → Hp → Prop := fun b H' => Kp H H' ∧ ∃ M', RM K M' H' ∧ Q b M'
def liftA (K : PySem.W.Frag) (H : Hp) (n : Nat) (Q : List D → MH → Prop) : List V → Hp → Prop := fun vs H' => Kp H H' ∧ ∃ ds M', RVs K H' ds vs ∧ ds.length = n ∧ RM K M' H' ∧ Q ds M'
section
variable (X : Cx)
/-- the weakest readings -/
def tW (e : Expr) : TE := fun ρ H Q => ∀ pins s, Inv X pins ρ H s → wpAny (model X.prog X.w) X.A (eval e X.env) (EP X pins ρ Q) X.xe s
def tWT (e : Expr) : TT := fun ρ H Q => ∀ pins s, Inv X pins ρ H s → wpAny (model X.prog X.w) X.A (isTrue e X.env (eval e X.env)) (TP X pins ρ Q) X.xe s
def tWA (es : List Expr) : TA := fun ρ H Q => ∀ pos pins s, Inv X pins ρ H s → wpAny (model X.prog X.w) X.A (spliced (backTo pos (starEach es X.env))) (AP X pins ρ Q) X.xe s
def tWS (st : Stmt) : L2.TS := fun D ρ H => ∀ pins s, Inv X pins ρ H s → wpAny (model X.prog X.w) X.A (exec st X.env) (SP X pins D) X.xe s
end
end DD

set_option Elab.async false
set_option maxRecDepth 100000
set_option maxHeartbeats 4000000
namespace DD
open PySem PySem.Spec PyProof.Rows L2

section
variable {X : Cx} {e a b c : Expr} {es : List Expr} {ρ : L2.St} {H H' : Hp} {pos : Pos}
theorem pe_W (e : Expr) : PE X e (tW X e) := fun pins s _ _ _ I h => h pins s I
theorem pt_W (e : Expr) : PT X e (tWT X e) := fun pins s _ _ _ I h => h pins s I
theorem pa_W (es : List Expr) : PA X es (tWA X es) := fun pos pins s _ _ _ I h => h pos pins s I
theorem tW_of {t : TE} {Q : VK} (h : PE X e t) (q : t ρ H Q) : tW X e ρ H Q := fun pins s I => h pins s ρ H Q I q
theorem tWT_of {t : TT} {Q : Bool → Hp → Prop} (h : PT X e t) (q : t ρ H Q) : tWT X e ρ H Q := fun pins s I => h pins s ρ H Q I q
theorem tWA_of {t : TA} {Q : List V → Hp → Prop} (h : PA X es t) (q : t ρ H Q) : tWA X es ρ H Q := fun pos pins s I => h pos pins s ρ H Q I q
theorem tW_mono {Q Q' : VK} (h : tW X e ρ H Q) (f : ∀ v H', Q v H' → Q' v H') : tW X e ρ H Q' := fun pins s I => thn (h pins s I) fun _ _ ⟨v, H', I', r, q⟩ => ⟨v, H', I', r, f v H' q⟩
theorem tWT_mono {Q Q' : Bool → Hp → Prop} (h : tWT X e ρ H Q) (f : ∀ v H', Q v H' → Q' v H') : tWT X e ρ H Q' := fun pins s I => thn (h pins s I) fun _ _ ⟨H', I', q⟩ => ⟨H', I', f _ H' q⟩
theorem tWA_mono {Q Q' : List V → Hp → Prop} (h : tWA X es ρ H Q) (f : ∀ v H', Q v H' → Q' v H') : tWA X es ρ H Q' := fun pos pins s I => thn (h pos pins s I) fun _ _ ⟨v, H', I', r, q⟩ => ⟨v, H', I', r, f v H' q⟩
theorem lift_up {K : PySem.W.Frag} {Q : DK} {v : V} {H2 : Hp} (k : Kp H H') (h : lift K H' Q v H2) : lift K H Q v H2 := ⟨k.trans h.1, h.2⟩
theorem liftB_up {K : PySem.W.Frag} {Q : Bool → MH → Prop} {v : Bool} {H2 : Hp} (k : Kp H H') (h : liftB K H' Q v H2) : liftB K H Q v H2 := ⟨k.trans h.1, h.2⟩
theorem lift_at {K : PySem.W.Frag} {Q : DK} {v : V} {d : D} {M : MH} (r : RV K H d v) (m : RM K M H) (q : Q d M) : lift K H Q v H := ⟨Kp.refl H, d, M, r, m, q⟩

def PEd (X : Cx) (e : Expr) (t : WE) : Prop := ∀ σ M ρ H Q, RS X.K H σ ρ → RM X.K M H → t σ M Q → tW X e ρ H (lift X.K H Q)
def PTd (X : Cx) (e : Expr) (t : WT) : Prop := ∀ σ M ρ H Q, RS X.K H σ ρ → RM X.K M H → t σ M Q → tWT X e ρ H (liftB X.K H Q)
def PAd (X : Cx) (es : List Expr) (t : WA) : Prop := ∀ σ M ρ H Q, RS X.K H σ ρ → RM X.K M H → t σ M Q → tWA X es ρ H (liftA X.K H es.length Q)

/-- by a truth -/
def Bif (b : Bool) (A B : Prop) : Prop := match b with
  | true => A
  | false => B
theorem Bif_true {A B : Prop} : Bif true A B = A := rfl
theorem Bif_false {A B : Prop} : Bif false A B = B := rfl
theorem Bif2 {b : Bool} {A B : Prop} (h1 : b = true → A) (h2 : b = false → B) : Bif b A B := by
  cases b with
  | true => exact h1 rfl
  | false => exact h2 rfl
theorem Bif_dec {p : Prop} [Decidable p] {A B : Prop} (h1 : p → A) (h2 : ¬ p → B) : Bif (decide p) A B := Bif2 (fun e => h1 (of_decide_eq_true e)) (fun e => h2 (of_decide_eq_false e))
/-! ### names, constants -/
def getS (σ : DS) (i : Nat) (Q : D → Prop) : Prop := match σ[i]? with
  | some (some d) => Q d
  | _ => False
theorem getS_ex {σ : DS} {i : Nat} {Q : D → Prop} (h : getS σ i Q) : ∃ d, σ[i]? = some (some d) ∧ Q d := by
  unfold getS at h
  split at h
  · exact ⟨_, by assumption, h⟩
  · exact False.elim h
theorem ped_var {i : Nat} {x : Str} (hN : X.N[i]? = some x) (hv : Vis X.env.scope x) (hd : (x == ("__debug__" : Str)) = false) (hcd : (x == ("__classdict__" : Str)) = false) : PEd X (.Name x pos) (fun σ M Q => getS σ i fun d => Q d M) := by
  intro σ M ρ H Q rs rm h
  obtain ⟨d, e, q⟩ := getS_ex h
  obtain ⟨v, e', r⟩ := rs.get e
  exact tW_of (pe_var hN hv hd hcd) ⟨v, e', lift_at r rm q⟩
theorem ped_C {d : D} {v : V} (h : PE X e (tC v)) (r : ∀ H, RV X.K H d v) : PEd X e (fun _ M Q => Q d M) := fun _ _ _ H _ _ rm q => tW_of h (lift_at (r H) rm q)
theorem ped_int {i : Int} {j : Nat} : PEd X (.Constant (.int i) j pos) (fun _ M Q => Q (.int i) M) := ped_C pe_int fun _ => RV.int_.2 rfl
theorem ped_bl {i : Bool} {j : Nat} : PEd X (.Constant (.bool i) j pos) (fun _ M Q => Q (.bl i) M) := ped_C pe_bl fun _ => RV.bl_.2 rfl
theorem ped_str {i : Str} {j : Nat} : PEd X (.Constant (.str i) j pos) (fun _ M Q => Q (.str i) M) := ped_C pe_str fun _ => RV.str_.2 rfl
theorem ped_non {j : Nat} : PEd X (.Constant .none j pos) (fun _ M Q => Q .non M) := ped_C pe_non fun _ => RV.non_.2 rfl
/-- a constant of the module -/
def GlobOk (K : PySem.W.Frag) (mg : Str → Option Value) (x : Str) (d : D) : Prop := ∃ v u, mg x = some u ∧ RelV v u ∧ ∀ H, RV K H d v
theorem ped_glob {x : Str} {d : D} (hg : Gl X x) (h : GlobOk X.K X.mg x d) (hd : (x == ("__debug__" : Str)) = false) : PEd X (.Name x pos) (fun _ M Q => Q d M) := by
  obtain ⟨v, u, hm, r, rv⟩ := h
  exact ped_C (pe_glob hg hm r hd) rv

/-! ### operators -/
def oW (X : Cx) (f : Value → Value → Sem Value) : R2 := fun x y H Q => ∀ pins s ρ v u, Inv X pins ρ H s → RelV x v → RelV y u → wpAny (model X.prog X.w) X.A (f v u) (EP X pins ρ Q) X.xe s
theorem op_W (f : Value → Value → Sem Value) : OpR X f (oW X f) := fun pins s σ _ _ _ v u _ I rx ry h => h pins s σ v u I rx ry
theorem oW_of {f : Value → Value → Sem Value} {r : R2} {x y : V} {Q : VK} (h : OpR X f r) (q : r x y H Q) : oW X f x y H Q := fun pins s ρ v u I rx ry => h pins s ρ H x y v u Q I rx ry q
theorem oW_mono {f : Value → Value → Sem Value} {x y : V} {Q Q' : VK} (h : oW X f x y H Q) (g : ∀ v H', Q v H' → Q' v H') : oW X f x y H Q' := fun pins s ρ v u I rx ry => thn (h pins s ρ v u I rx ry) fun _ _ ⟨v, H', I', r, q⟩ => ⟨v, H', I', r, g v H' q⟩
abbrev R2d := D → D → MH → DK → Prop
def OpD (X : Cx) (f : Value → Value → Sem Value) (r : R2d) : Prop := ∀ x y v u H M Q, RV X.K H x v → RV X.K H y u → RM X.K M H → r x y M Q → oW X f v u H (lift X.K H Q)
theorem two {ta tb : WE} {σ : DS} {M : MH} {R : D → D → MH → Prop} (ha : PEd X a ta) (hb : PEd X b tb) (rs : RS X.K H σ ρ) (rm : RM X.K M H) (h : ta σ M fun x M1 => tb σ M1 fun y M2 => R x y M2) :
    tW X a ρ H fun v H1 => tW X b ρ H1 fun u H2 => Kp H H2 ∧ ∃ x y M2, RV X.K H2 x v ∧ RV X.K H2 y u ∧ RM X.K M2 H2 ∧ R x y M2 := by
  refine tW_mono (ha σ M ρ H _ rs rm h) ?_
  rintro v H1 ⟨k1, x, M1, r1, m1, h1⟩
  refine tW_mono (hb σ M1 ρ H1 _ (rs.mono k1) m1 h1) ?_
  rintro u H2 ⟨k2, y, M2, r2, m2, h2⟩
  exact ⟨k1.trans k2, x, y, M2, RV.mono k2 x r1, r2, m2, h2⟩
def wOp (r : R2d) (ta tb : WE) : WE := fun σ M Q => ta σ M fun x M1 => tb σ M1 fun y M2 => r x y M2 Q
theorem ped_bin {op : Operator} {r : R2d} {ta tb : WE} (ho : OpD X (binaryOp op) r) (ha : PEd X a ta) (hb : PEd X b tb) : PEd X (.BinOp a op b pos) (wOp r ta tb) := by
  intro σ M ρ H Q rs rm h
  refine tW_of (pe_op (op_W _) (pe_W a) (pe_W b)) ?_
  show tW X a ρ H _
  refine tW_mono (two ha hb rs rm h) fun v H1 q1 => ?_
  show tW X b ρ H1 _
  refine tW_mono q1 fun u H2 ⟨k, x, y, M2, r1, r2, m2, q⟩ => ?_
  exact oW_mono (ho x y v u H2 M2 Q r1 r2 m2 q) fun _ _ => lift_up k
theorem ped_cmp {op : CmpOp} {r : R2d} {ta tb : WE} (ho : OpD X (compareOp op) r) (ha : PEd X a ta) (hb : PEd X b tb) (hm : behindInMarks op b = false) : PEd X (.Compare a [op] [b] pos) (wOp r ta tb) := by
  intro σ M ρ H Q rs rm h
  refine tW_of (pe_cmpR (op_W _) (pe_W a) (pe_W b) hm) ?_
  show tW X a ρ H _
  refine tW_mono (two ha hb rs rm h) fun v H1 q1 => ?_
  show tW X b ρ H1 _
  refine tW_mono q1 fun u H2 ⟨k, x, y, M2, r1, r2, m2, q⟩ => ?_
  exact oW_mono (ho x y v u H2 M2 Q r1 r2 m2 q) fun _ _ => lift_up k
def boolD (x : D) (Q : Bool → Prop) : Prop := match x with
  | .bl b => Q b
  | _ => False
theorem boolD_ex {x : D} {Q : Bool → Prop} (h : boolD x Q) : ∃ b, x = .bl b ∧ Q b := by
  cases x with
  | bl b => exact ⟨b, rfl, h⟩
  | _ => exact False.elim h
def wTest (t : WE) : WT := fun σ M Q => t σ M fun x M1 => boolD x fun b => Q b M1
theorem ptd_cmp {op : CmpOp} {r : R2d} {ta tb : WE} (ho : OpD X (compareOp op) r) (ha : PEd X a ta) (hb : PEd X b tb) (hm : behindInMarks op b = false) : PTd X (.Compare a [op] [b] pos) (wTest (wOp r ta tb)) := by
  intro σ M ρ H Q rs rm h
  refine tWT_of (pt_cmpR (op_W _) (pe_W a) (pe_W b) hm) ?_
  show tW X a ρ H _
  refine tW_mono (two ha hb rs rm h) fun v H1 q1 => ?_
  show tW X b ρ H1 _
  refine tW_mono q1 fun u H2 ⟨k, x, y, M2, r1, r2, m2, q⟩ => ?_
  refine oW_mono (ho x y v u H2 M2 _ r1 r2 m2 q) fun z H3 ⟨k3, d, M3, r3, m3, q3⟩ => ?_
  obtain ⟨c, rfl, q3⟩ := boolD_ex q3
  exact ⟨c, RV.bl_.1 r3, k.trans k3, M3, m3, q3⟩
/-! ### and, or, not -/
def wAnd (t u : WT) : WT := fun σ M Q => t σ M fun c M1 => Bif c (u σ M1 Q) (Q false M1)
def wOr (t u : WT) : WT := fun σ M Q => t σ M fun c M1 => Bif c (Q true M1) (u σ M1 Q)
def wNot (t : WT) : WT := fun σ M Q => t σ M fun c M1 => Q (!c) M1
theorem ptd_not {t : WT} (h : PTd X a t) : PTd X (.UnaryOp .Not a pos) (wNot t) := by
  intro σ M ρ H Q rs rm q
  refine tWT_of (pt_not (pt_W a)) ?_
  show tWT X a ρ H _
  exact tWT_mono (h σ M ρ H _ rs rm q) fun c H1 q1 => q1
def PWd (X : Cx) (e : Expr) (t : WT) : Prop := ∀ σ M ρ H Q, RS X.K H σ ρ → RM X.K M H → t σ M Q → ∀ whole pins s, Inv X pins ρ H s → wpAny (model X.prog X.w) X.A (isTrue e X.env whole) (TP X pins ρ (liftB X.K H Q)) X.xe s
theorem PWd.pt {t : WT} (h : PWd X e t) : PTd X e t := fun σ M ρ H Q rs rm q pins s I => h σ M ρ H Q rs rm q _ pins s I
def tWW (X : Cx) (e : Expr) : TT := fun ρ H Q => ∀ whole pins s, Inv X pins ρ H s → wpAny (model X.prog X.w) X.A (isTrue e X.env whole) (TP X pins ρ Q) X.xe s
theorem pw_W (e : Expr) : PW X e (tWW X e) := fun whole pins s _ _ _ I h => h whole pins s I
theorem tWW_mono {Q Q' : Bool → Hp → Prop} (h : tWW X e ρ H Q) (f : ∀ v H', Q v H' → Q' v H') : tWW X e ρ H Q' := fun whole pins s I => thn (h whole pins s I) fun _ _ ⟨H', I', q⟩ => ⟨H', I', f _ H' q⟩
theorem tWW_of {t : TT} {Q : Bool → Hp → Prop} (h : PW X e t) (q : t ρ H Q) : tWW X e ρ H Q := fun whole pins s I => h whole pins s ρ H Q I q
theorem pwd_and1 {t : WT} (h : PTd X a t) : PWd X (.BoolOp .And [a] pos) t := fun σ M ρ H Q rs rm q => tWW_of (pw_and1 (pt_W a)) (h σ M ρ H Q rs rm q)
theorem pwd_or1 {t : WT} (h : PTd X a t) : PWd X (.BoolOp .Or [a] pos) t := fun σ M ρ H Q rs rm q => tWW_of (pw_or1 (pt_W a)) (h σ M ρ H Q rs rm q)
theorem pwd_and {t u : WT} {rest : List Expr} (h : PTd X a t) (h' : PWd X (.BoolOp .And (b :: rest) pos) u) : PWd X (.BoolOp .And (a :: b :: rest) pos) (wAnd t u) := by
  intro σ M ρ H Q rs rm q
  refine tWW_of (pw_and (pt_W a) (pw_W _)) ?_
  show tWT X a ρ H _
  refine tWT_mono (h σ M ρ H _ rs rm q) fun c H1 ⟨k1, M1, m1, q1⟩ => ?_
  cases c with
  | true => exact tWW_mono (h' σ M1 ρ H1 Q (rs.mono k1) m1 q1) fun _ _ => liftB_up k1
  | false => exact ⟨k1, M1, m1, q1⟩
theorem pwd_or {t u : WT} {rest : List Expr} (h : PTd X a t) (h' : PWd X (.BoolOp .Or (b :: rest) pos) u) : PWd X (.BoolOp .Or (a :: b :: rest) pos) (wOr t u) := by
  intro σ M ρ H Q rs rm q
  refine tWW_of (pw_or (pt_W a) (pw_W _)) ?_
  show tWT X a ρ H _
  refine tWT_mono (h σ M ρ H _ rs rm q) fun c H1 ⟨k1, M1, m1, q1⟩ => ?_
  cases c with
  | false => exact tWW_mono (h' σ M1 ρ H1 Q (rs.mono k1) m1 q1) fun _ _ => liftB_up k1
  | true => exact ⟨k1, M1, m1, q1⟩
/-- as values: bools -/
def wAndV (ta tb : WE) : WE := fun σ M Q => ta σ M fun x M1 => boolD x fun c => Bif c (tb σ M1 Q) (Q (.bl false) M1)
def wOrV (ta tb : WE) : WE := fun σ M Q => ta σ M fun x M1 => boolD x fun c => Bif c (Q (.bl true) M1) (tb σ M1 Q)
def wNotV (ta : WE) : WE := fun σ M Q => ta σ M fun x M1 => boolD x fun c => Q (.bl (!c)) M1
theorem ped_one {op : BoolOp} {t : WE} (h : PEd X a t) : PEd X (.BoolOp op [a] pos) t := fun σ M ρ H Q rs rm q => tW_of (pe_one (pe_W a)) (h σ M ρ H Q rs rm q)
theorem ped_and {ta tb : WE} {rest : List Expr} (h : PEd X a ta) (h' : PEd X (.BoolOp .And (b :: rest) pos) tb) : PEd X (.BoolOp .And (a :: b :: rest) pos) (wAndV ta tb) := by
  intro σ M ρ H Q rs rm q
  refine tW_of (pe_and (pe_W a) (pe_W _)) ?_
  show tW X a ρ H _
  refine tW_mono (h σ M ρ H _ rs rm q) fun v H1 ⟨k1, x, M1, r1, m1, q1⟩ => ?_
  obtain ⟨c, rfl, q1⟩ := boolD_ex q1
  refine ⟨c, RV.bl_.1 r1, ?_⟩
  cases c with
  | true => exact tW_mono (h' σ M1 ρ H1 Q (rs.mono k1) m1 q1) fun _ _ => lift_up k1
  | false => exact ⟨k1, .bl false, M1, RV.bl_.2 rfl, m1, q1⟩
theorem ped_or {ta tb : WE} {rest : List Expr} (h : PEd X a ta) (h' : PEd X (.BoolOp .Or (b :: rest) pos) tb) : PEd X (.BoolOp .Or (a :: b :: rest) pos) (wOrV ta tb) := by
  intro σ M ρ H Q rs rm q
  refine tW_of (pe_or (pe_W a) (pe_W _)) ?_
  show tW X a ρ H _
  refine tW_mono (h σ M ρ H _ rs rm q) fun v H1 ⟨k1, x, M1, r1, m1, q1⟩ => ?_
  obtain ⟨c, rfl, q1⟩ := boolD_ex q1
  refine ⟨c, RV.bl_.1 r1, ?_⟩
  cases c with
  | false => exact tW_mono (h' σ M1 ρ H1 Q (rs.mono k1) m1 q1) fun _ _ => lift_up k1
  | true => exact ⟨k1, .bl true, M1, RV.bl_.2 rfl, m1, q1⟩
theorem ped_not {ta : WE} (h : PEd X a ta) : PEd X (.UnaryOp .Not a pos) (wNotV ta) := by
  intro σ M ρ H Q rs rm q
  refine tW_of (pe_not (pe_W a)) ?_
  show tW X a ρ H _
  refine tW_mono (h σ M ρ H _ rs rm q) fun v H1 ⟨k1, x, M1, r1, m1, q1⟩ => ?_
  obtain ⟨c, rfl, q1⟩ := boolD_ex q1
  exact ⟨c, RV.bl_.1 r1, k1, .bl (!c), M1, RV.bl_.2 rfl, m1, q1⟩
/-- a value's truth -/
def rdL : Option MO → Option (List D)
  | some (.lst ds) => some ds
  | some (.rol ds) => some ds
  | _ => none
def truD (x : D) (M : MH) (Q : Bool → Prop) : Prop := match x with
  | .non => Q false
  | .bl b => Q b
  | .int i => Q (i != 0)
  | .str y => y.length ≤ sizeLine ∧ Q ((y.length : Int) != 0)
  | .tup ds => Q (!ds.isEmpty)
  | .ref a => match M a with
    | some (.lst ds) => Q (!ds.isEmpty)
    | some (.rol ds) => Q (!ds.isEmpty)
    | some (.dic kvs) => Q (!kvs.isEmpty)
    | _ => False
  | .ty _ => False
theorem emp_len {α β : Type} {l : List α} {m : List β} (h : l.length = m.length) : l.isEmpty = m.isEmpty := by
  cases l <;> cases m <;> simp_all
theorem truD_ok {K : PySem.W.Frag} {M : MH} {x : D} {v : V} {Q : Bool → Prop} (r : RV K H x v) (m : RM K M H) (h : truD x M Q) : ∃ k, TruV K v H k ∧ Q k := by
  cases x with
  | non => cases RV.non_.1 r; exact ⟨_, rfl, h⟩
  | bl b => cases RV.bl_.1 r; exact ⟨_, rfl, h⟩
  | int i => cases RV.int_.1 r; exact ⟨_, rfl, h⟩
  | str y => cases RV.str_.1 r; exact ⟨_, ⟨h.1, rfl⟩, h.2⟩
  | ty n => exact False.elim h
  | tup ds =>
    obtain ⟨a, xs, rfl, s, rr⟩ := RV.tup_.1 r
    exact ⟨_, .inr (.inl ⟨xs, s, rfl⟩), by rw [← emp_len rr.len]; exact h⟩
  | ref a =>
    cases RV.ref_.1 r
    have h : match M a with
      | some (.lst ds) => Q (!ds.isEmpty)
      | some (.rol ds) => Q (!ds.isEmpty)
      | some (.dic kvs) => Q (!kvs.isEmpty)
      | _ => False := h
    split at h
    · rename_i ds e
      obtain ⟨xs, q, rr⟩ := m a _ e
      exact ⟨_, .inl ⟨xs, SqL.of q, rfl⟩, by rw [← emp_len rr.len]; exact h⟩
    · rename_i ds e
      obtain ⟨xs, q, rr⟩ := m a _ e
      exact ⟨_, .inl ⟨xs, .inl q, rfl⟩, by rw [← emp_len rr.len]; exact h⟩
    · rename_i kvs e
      obtain ⟨kws, q, k, rr⟩ := m a _ e
      refine ⟨_, .inr (.inr ⟨kws, q, rfl⟩), ?_⟩
      have : kws.length = kvs.length := by have := congrArg List.length k; simpa using this
      rw [emp_len this]; exact h
    · exact False.elim h
def wTru (t : WE) : WT := fun σ M Q => t σ M fun x M1 => truD x M1 fun k => Q k M1
theorem ptd_val {t : WE} (h : PEd X a t) (he : ∀ whole, isTrue a X.env whole = (do let v ← whole; standAt a.pos; holding [v] (truthy v))) : PTd X a (wTru t) := by
  intro σ M ρ H Q rs rm q
  refine tWT_of (pt_truth (pe_W a) he) ?_
  show tW X a ρ H _
  refine tW_mono (h σ M ρ H _ rs rm q) fun v H1 ⟨k1, x, M1, r1, m1, q1⟩ => ?_
  obtain ⟨k, t1, q2⟩ := truD_ok r1 m1 q1
  exact ⟨k, t1, k1, M1, m1, q2⟩

/-! ### argument lists, displays -/
def wNil : WA := fun _ M Q => Q [] M
def wCons (t : WE) (u : WA) : WA := fun σ M Q => t σ M fun x M1 => u σ M1 fun xs M2 => Q (x :: xs) M2
theorem pad_nil : PAd X [] wNil := fun σ M ρ H Q rs rm q => tWA_of pa_nil ⟨Kp.refl H, [], M, RVs.nil, rfl, rm, q⟩
theorem pad_cons {t : WE} {u : WA} (h : PEd X e t) (h' : PAd X es u) (hs : notStar e = true) : PAd X (e :: es) (wCons t u) := by
  intro σ M ρ H Q rs rm q
  refine tWA_of (pa_cons (pe_W e) (pa_W es) (star_cons hs)) ?_
  show tW X e ρ H _
  refine tW_mono (h σ M ρ H _ rs rm q) fun v H1 ⟨k1, x, M1, r1, m1, q1⟩ => ?_
  show tWA X es ρ H1 _
  refine tWA_mono (h' σ M1 ρ H1 _ (rs.mono k1) m1 q1) fun vs H2 ⟨k2, xs, M2, r2, l2, m2, q2⟩ => ?_
  exact ⟨k1.trans k2, x :: xs, M2, RVs.cons (RV.mono k2 x r1) r2, by simp [l2], m2, q2⟩
def wTup (t : WA) : WE := fun σ M Q => t σ M fun xs M1 => Q (.tup xs) M1
def wLst (t : WA) : WE := fun σ M Q => t σ M fun xs M1 => ∀ p, M1 p = none → Q (.ref p) (updM M1 p (.lst xs))
theorem ped_tup {t : WA} {k : Nat} (h : PAd X es t) (hz : es.length ≤ 1000) : PEd X (.Tuple es k pos) (wTup t) := by
  intro σ M ρ H Q rs rm q
  refine tW_of (pe_tup (pa_W es)) ?_
  show tWA X es ρ H _
  refine tWA_mono (h σ M ρ H _ rs rm q) fun vs H1 ⟨k1, xs, M1, r1, l1, m1, q1⟩ => ⟨?_, fun p hp => ?_⟩
  · rw [← r1.len, l1]; exact Nat.le_of_lt (small1000 hz)
  · have k2 : Kp H1 (upd H1 p (.tup vs)) := Kp.new hp
    exact ⟨k1.trans k2, .tup xs, M1, RV.tup_.2 ⟨p, vs, rfl, SqT.of upd_same, RVs.mono k2 _ r1⟩, m1.newH hp, q1⟩
theorem ped_lst {t : WA} (h : PAd X es t) (hz : es.length ≤ 1000) : PEd X (.List es pos) (wLst t) := by
  intro σ M ρ H Q rs rm q
  refine tW_of (pe_lst (pa_W es)) ?_
  show tWA X es ρ H _
  refine tWA_mono (h σ M ρ H _ rs rm q) fun vs H1 ⟨k1, xs, M1, r1, l1, m1, q1⟩ => ⟨?_, fun p hp => ?_⟩
  · rw [← r1.len, l1]; exact Nat.le_of_lt (small1000 hz)
  · have k2 : Kp H1 (upd H1 p (.lst vs)) := Kp.new hp
    exact ⟨k1.trans k2, .ref p, _, RV.ref_.2 rfl, m1.new (m := .lst xs) hp ⟨vs, upd_same, RVs.mono k2 _ r1⟩, q1 p (m1.fresh hp)⟩

/-! ### calls of a def of the text -/
abbrev SpD := List D → MH → DK → Prop
def liftSp (K : PySem.W.Frag) (sp : SpD) : Sp := fun vs H Q _ => ∃ ds M Q0, RVs K H ds vs ∧ RM K M H ∧ sp ds M Q0 ∧ ∀ d M' v H', Q0 d M' → Kp H H' → RV K H' d v → RM K M' H' → Q v H'
/-- a def of the text with its promise -/
def FnD (P : Program) (w : World) (K : PySem.W.Frag) (mg : Str → Option Value) (base : Heap) (k : Nat) (x : Str) (sp : SpD) : Prop :=
  ∃ st ps f fd, IsDef K mg x st ps f fd ∧ FnOk P w K mg base CX0 k f fd ps (liftSp K sp)
theorem star_none {env : Env} {pos : Pos} : ∀ {es : List Expr}, es.all notStar = true → (backTo pos (starEach es env)).any (·.1) = false
  | [], _ => rfl
  | e :: es, h => by
    rw [List.all_cons, Bool.and_eq_true] at h
    rw [star_cons h.1]
    show (false || (backTo pos (starEach es env)).any (·.1)) = false
    rw [star_none h.2]; rfl
def wCall (sp : SpD) (t : WA) : WE := fun σ M Q => t σ M fun ds M1 => sp ds M1 Q
theorem ped_def {k : Nat} {x : Str} {sp : SpD} {t : WA} {p : Pos} (F : FnD X.prog X.w X.K X.mg X.base k x sp) (hr : Room k X.A) (hg : Gl X x) (hdb : (x == ("__debug__" : Str)) = false) (hs : notStar e = true) (hss : es.all notStar = true) (ha : PAd X (e :: es) t) :
    PEd X (.Call (.Name x p) (e :: es) [] pos) (wCall sp t) := by
  obtain ⟨st, ps, f, fd, D0, G⟩ := F
  intro σ M ρ H Q rs rm q
  refine tW_of (pe_def D0 G hr (pa_W (e :: es)) hg hdb (star_cons hs) (star_none hss)) ?_
  show tWA X (e :: es) ρ H _
  refine tWA_mono (ha σ M ρ H _ rs rm q) fun vs H1 ⟨k1, xs, M1, r1, l1, m1, q1⟩ => ?_
  rw [List.append_nil]
  exact ⟨xs, M1, Q, r1, m1, q1, fun d M' v H' qd kk rv mm => ⟨k1.trans kk, d, M', rv, mm, qd⟩⟩
end
end DD

set_option Elab.async false
set_option maxRecDepth 100000
set_option maxHeartbeats 4000000
namespace DD
open PySem PySem.Spec PyProof.Rows L2
/-! ### for k in d: the dict is frozen from there on -/
theorem kV_back {P : Program} {w : World} {k : Key} {u : Value} (h : (mixKind P w).is k u = true) : RelV (kV k) u := by
  rw [mixKind_is] at h
  rcases keyIs_shape h with ⟨i, t, rfl, rfl⟩ | ⟨x, t, rfl, rfl⟩
  · exact ⟨t, rfl⟩
  · exact ⟨t, rfl⟩
def Itd (a : Addr) (u : Obj) (kws : List (Key × V)) : It :=
  ⟨fun i H => H a = some (.frz u (.dK kws)) ∧ i < kws.length, fun i H x H' => H' = H ∧ ∃ kv, kws[i]? = some kv ∧ x = kV kv.1, fun i H => H a = some (.frz u (.dK kws)) ∧ kws.length ≤ i⟩
theorem dict_at {X : Cx} {pins : List (Addr × Obj)} {σ : L2.St} {H : Hp} {s : Shared} {a : Addr} {u : Obj} {kws : List (Key × V)} (I : Inv X pins σ H s) (h : H a = some (.frz u (.dK kws))) :
    (a == sysModules) = false ∧ kws.length ≤ sizeLine ∧ ∃ vs es ep, KV kws vs ∧ u.data = .dict es ep ∧ s.heap.DictAt (mixKind X.prog X.w) a vs ep := by
  obtain ⟨h1, hz, hd, vs, rel, o, es, ep, ho, r⟩ := (show ObjOk X.prog X.w H s.heap a (.frz u (.dK kws)) from I.hok a _ h)
  have e : o = u := by rw [h1] at ho; cases ho; rfl
  subst e
  exact ⟨hd, hz, vs, es, ep, rel, r.2.1, o, es, ho, r⟩
theorem turn_dict {P : Program} {w : World} {K : PySem.W.Frag} {tg : Expr} (a it : Addr) {u : Obj} {kws : List (Key × V)} {es : Array DictEntry} {ep : Nat} (hu : u.data = .dict es ep) :
    Turn P w K tg (Itd a u kws) [it] it (fun i h => h.IsKeyIter it a i kws.length ep) where
  mem := by simp
  obj := fun i h st b hb => by
    have e : b = it := by simpa using hb
    subst e
    obtain ⟨o, e, c, d⟩ := st
    exact ⟨o, e, fun v z => by rw [d] at z; cases z⟩
  keep := fun i h h' st k => st.at fun o e => k it (by simp) o e
  item := by
    intro X hP hw hK hc i pins s σ H E I hf st hg
    subst hP hw hK
    obtain ⟨hq, hi⟩ := hg
    obtain ⟨hd, hz, vs, es', ep', rel, hu', hm⟩ := dict_at I hq
    have ee : ep' = ep := by rw [hu] at hu'; cases hu'; rfl
    subst ee
    obtain ⟨⟨k, x⟩, hx, hr⟩ := pl_get rel (List.getElem?_eq_getElem hi)
    obtain ⟨f0, f1, f2, f3, f4, f5⟩ := hf it (by simp)
    rw [rel.length] at st
    refine wpAny_pyNext_dict_item st hm hx fun key h' hkey st' sb => ?_
    have I1 : Inv X pins σ H { s with heap := h' } := I.turned (t' := s.toks) (fun b o hb e => (sb.2 b hb).trans e) f0 f1 f3 f4 f5
    obtain ⟨o, e, c, d⟩ := id st'
    rw [← rel.length] at st'
    have hk1 : kws[i].1 = k := hr.1
    exact ⟨key, rfl, go_of (s := { s with heap := h' }) e c d (by decide) ⟨kV k, H, I1, kV_back hkey, ⟨rfl, kws[i], List.getElem?_eq_getElem hi, by rw [hk1]⟩, st', fun b hb => (hf b hb).1⟩⟩
  done := by
    intro X hP hw hK hc i pins s σ H E I hf st hg
    subst hP hw hK
    obtain ⟨hq, hi⟩ := hg
    obtain ⟨hd, hz, vs, es', ep', rel, hu', hm⟩ := dict_at I hq
    have ee : ep' = ep := by rw [hu] at hu'; cases hu'; rfl
    subst ee
    obtain ⟨f0, f1, f2, f3, f4, f5⟩ := hf it (by simp)
    rw [rel.length] at st
    have hx : vs[i]? = none := by rw [List.getElem?_eq_none_iff, ← rel.length]; exact hi
    exact wpAny_pyNext_dict_end (I.ok.hd hc) st hm hx fun h' eb => ⟨rfl, I.turned (t' := s.toks) (fun b o hb e => eb b o hb e) f0 f1 f3 f4 f5⟩
  self := fun _ _ _ _ _ st h => wpAny_pyIter_keyiter st h
section
variable {X : Cx} {ρ : L2.St} {H : Hp}
theorem py_dict {pins : List (Addr × Obj)} {s : Shared} {tg : Expr} {a : Addr} {u : Obj} {kws : List (Key × V)} {R : It → Hp → Prop} (I : Inv X pins ρ H s) (hq : H a = some (.frz u (.dK kws))) (q : R (Itd a u kws) H) :
    wpAny (model X.prog X.w) X.A (pyIter (.ref a)) (PIE X pins ρ tg R) X.xe s := by
  obtain ⟨hd, hz, vs, es, ep, rel, hu, hm⟩ := dict_at I hq
  refine wpAny_pyIter_dict hd hm ?_
  refine ⟨s.heap.objs.size, [s.heap.objs.size], _, _, H, rfl, I.kept (t' := s.toks) fun b o e => Heap.get?_push_of_some _ e, turn_dict a _ hu, ⟨_, Heap.get?_push_size _ rfl, rfl, by rw [rel.length]; rfl⟩, fun b hb => ?_, q⟩
  have e : b = s.heap.objs.size := by simpa using hb
  subst e
  exact I.fpOk (Nat.le_refl _) (I.hok.fresh (Nat.le_refl _))
/-- a dict is frozen -/
theorem freeze {pins : List (Addr × Obj)} {s : Shared} {a : Addr} {kws : List (Key × V)} (I : Inv X pins ρ H s) (hq : H a = some (.dK kws)) : ∃ u, Inv X pins ρ (upd H a (.frz u (.dK kws))) s := by
  obtain ⟨hz, hd, vs, rel, dd⟩ := (show ObjOk X.prog X.w H s.heap a (.dK kws) from I.hok a _ hq)
  obtain ⟨o, es, ep, ho, r⟩ := id dd
  refine ⟨o, ?_⟩
  have := I.write (x := a) (e := a) (o := .frz o (.dK kws)) (h' := s.heap) (t' := s.toks) (by rw [hq]; exact trivial) (.inl rfl) (fun b u _ e => e) ⟨_, ho⟩ ⟨ho, hz, hd, vs, rel, dd⟩
  exact this
end
end DD

set_option Elab.async false
set_option maxRecDepth 100000
set_option maxHeartbeats 4000000
namespace DD
open PySem PySem.Spec PyProof.Rows L2

structure EndsD where
  nx : DS → MH → Prop
  rt : DK
  bk : DS → MH → Prop := fun _ _ => False
  ct : DS → MH → Prop := fun _ _ => False
abbrev WS := EndsD → DS → MH → Prop
def liftN (K : PySem.W.Frag) (H : Hp) (n : DS → MH → Prop) : L2.St → Hp → Prop := fun ρ' H' => Kp H H' ∧ ∃ σ' M', RS K H' σ' ρ' ∧ RM K M' H' ∧ n σ' M'
def liftE (K : PySem.W.Frag) (H : Hp) (D : EndsD) : Ends := { nx := liftN K H D.nx, rt := lift K H D.rt, bk := liftN K H D.bk, ct := liftN K H D.ct }
structure EImp (D D' : Ends) : Prop where
  nx : ∀ ρ H, D.nx ρ H → D'.nx ρ H
  rt : ∀ v H, D.rt v H → D'.rt v H
  bk : ∀ ρ H, D.bk ρ H → D'.bk ρ H
  ct : ∀ ρ H, D.ct ρ H → D'.ct ρ H
section
variable {X : Cx} {st : Stmt} {sts : List Stmt} {ρ : L2.St} {H H' : Hp} {pos : Pos} {e : Expr}
theorem liftN_up {K : PySem.W.Frag} {n : DS → MH → Prop} {ρ' : L2.St} {H2 : Hp} (k : Kp H H') (h : liftN K H' n ρ' H2) : liftN K H n ρ' H2 := ⟨k.trans h.1, h.2⟩
theorem liftE_up {K : PySem.W.Frag} {D : EndsD} (k : Kp H H') : EImp (liftE K H' D) (liftE K H D) := ⟨fun _ _ => liftN_up k, fun _ _ => lift_up k, fun _ _ => liftN_up k, fun _ _ => liftN_up k⟩
theorem SP.imp {pins : List (Addr × Obj)} {D D' : Ends} {f : Flow} {s' : Shared} (i : EImp D D') (h : SP X pins D f s') : SP X pins D' f s' := by
  cases f with
  | next => obtain ⟨a, b, c, d⟩ := h; exact ⟨a, b, c, i.nx _ _ d⟩
  | brk => obtain ⟨a, b, c, d⟩ := h; exact ⟨a, b, c, i.bk _ _ d⟩
  | cont => obtain ⟨a, b, c, d⟩ := h; exact ⟨a, b, c, i.ct _ _ d⟩
  | ret u => obtain ⟨v, a, b, c, r, d⟩ := h; exact ⟨v, a, b, c, r, i.rt _ _ d⟩
def tWSs (X : Cx) (sts : List Stmt) : L2.TS := fun D ρ H => ∀ pins s, Inv X pins ρ H s → wpAny (model X.prog X.w) X.A (execs sts X.env) (SP X pins D) X.xe s
theorem ps_W (st : Stmt) : PS X st (tWS X st) := fun pins s _ _ _ I h => h pins s I
theorem pss_W (sts : List Stmt) : PSs X sts (tWSs X sts) := fun pins s _ _ _ I h => h pins s I
theorem tWS_of {t : L2.TS} {D : Ends} (h : PS X st t) (q : t D ρ H) : tWS X st D ρ H := fun pins s I => h pins s ρ H D I q
theorem tWSs_of {t : L2.TS} {D : Ends} (h : PSs X sts t) (q : t D ρ H) : tWSs X sts D ρ H := fun pins s I => h pins s ρ H D I q
theorem tWS_mono {D D' : Ends} (h : tWS X st D ρ H) (i : EImp D D') : tWS X st D' ρ H := fun pins s I => thn (h pins s I) fun _ _ q => SP.imp i q
theorem tWSs_mono {D D' : Ends} (h : tWSs X sts D ρ H) (i : EImp D D') : tWSs X sts D' ρ H := fun pins s I => thn (h pins s I) fun _ _ q => SP.imp i q

def PSd (X : Cx) (st : Stmt) (t : WS) : Prop := ∀ σ M ρ H D, RS X.K H σ ρ → RM X.K M H → t D σ M → tWS X st (liftE X.K H D) ρ H
def PSsd (X : Cx) (sts : List Stmt) (t : WS) : Prop := ∀ σ M ρ H D, RS X.K H σ ρ → RM X.K M H → t D σ M → tWSs X sts (liftE X.K H D) ρ H
def wNext : WS := fun D σ M => D.nx σ M
def wSeq (t u : WS) : WS := fun D σ M => t { D with nx := u D } σ M
theorem pssd_nil : PSsd X [] wNext := fun σ M ρ H D rs rm q => tWSs_of pss_nil ⟨Kp.refl H, σ, M, rs, rm, q⟩
theorem pssd_cons {t u : WS} (h : PSd X st t) (h' : PSsd X sts u) : PSsd X (st :: sts) (wSeq t u) := by
  intro σ M ρ H D rs rm q
  refine tWSs_of (pss_cons (ps_W st) (pss_W sts)) ?_
  show tWS X st _ ρ H
  refine tWS_mono (h σ M ρ H _ rs rm q) ⟨fun ρ' H' ⟨k, σ', M', rs', rm', q'⟩ => ?_, fun _ _ z => z, fun _ _ z => z, fun _ _ z => z⟩
  exact tWSs_mono (h' σ' M' ρ' H' D rs' rm' q') (liftE_up k)
def wRet (t : WE) : WS := fun D σ M => t σ M D.rt
theorem psd_ret {t : WE} (h : PEd X e t) : PSd X (.Return (some e) pos) (wRet t) := fun σ M ρ H D rs rm q => tWS_of (ps_ret (pe_W e)) (h σ M ρ H _ rs rm q)
def notComp : Expr → Bool
  | .ListComp _ _ _ _ => false
  | .SetComp _ _ _ _ => false
  | .DictComp _ _ _ _ _ => false
  | _ => true
theorem noswap {t : Option Expr} {n : Nat} {env : Env} (h : notComp e = true) : swapsWith e t n env = pure false := by
  cases e <;> first | rfl | (exact absurd (show false = true from h) Bool.false_ne_true)
def wDrop (t : WE) : WS := fun D σ M => t σ M fun _ M1 => D.nx σ M1
theorem psd_expr {t : WE} (h : PEd X e t) (hc : notComp e = true) : PSd X (.Expr e pos) (wDrop t) := by
  intro σ M ρ H D rs rm q
  refine tWS_of (ps_expr (pe_W e) (noswap hc)) ?_
  show tW X e ρ H _
  exact tW_mono (h σ M ρ H _ rs rm q) fun v H1 ⟨k1, x, M1, r1, m1, q1⟩ => ⟨k1, σ, M1, rs.mono k1, m1, q1⟩
def wSet (i : Nat) (t : WE) : WS := fun D σ M => t σ M fun x M1 => D.nx (σ.set i (some x)) M1
theorem psd_set {t : WE} {i : Nat} {x : Str} {pos' : Pos} (hN : X.N.Nodup) (hi : X.N[i]? = some x) (hx : Loc X.env.scope x) (hf : X.fn x = true ∨ X.env.scope.names.lookup x = some .local) (hc : notComp e = true) (h : PEd X e t) :
    PSd X (.Assign [.Name x pos'] e pos) (wSet i t) := by
  intro σ M ρ H D rs rm q
  refine tWS_of (ps_set hN hi hx (pe_W e) (noswap hc) hf) ?_
  show tW X e ρ H _
  exact tW_mono (h σ M ρ H _ rs rm q) fun v H1 ⟨k1, d, M1, r1, m1, q1⟩ => ⟨k1, σ.set i (some d), M1, (rs.mono k1).set i r1, m1, q1⟩
def wIfS (c : WT) (t u : WS) : WS := fun D σ M => c σ M fun b M1 => Bif b (t D σ M1) (u D σ M1)
theorem psd_if {c : Expr} {a b : List Stmt} {tc : WT} {t u : WS} (hc : PTd X c tc) (ha : PSsd X a t) (hb : PSsd X b u) : PSd X (.If c a b pos) (wIfS tc t u) := by
  intro σ M ρ H D rs rm q
  refine tWS_of (ps_if (pt_W c) (pss_W a) (pss_W b)) ?_
  show tWT X c ρ H _
  refine tWT_mono (hc σ M ρ H _ rs rm q) fun k H1 ⟨k1, M1, m1, q1⟩ => ?_
  cases k with
  | true => exact tWSs_mono (ha σ M1 ρ H1 D (rs.mono k1) m1 q1) (liftE_up k1)
  | false => exact tWSs_mono (hb σ M1 ρ H1 D (rs.mono k1) m1 q1) (liftE_up k1)

/-! ### targets -/
inductive Tgt where
  | nm (i : Nat) | tp (is : List Nat)
def gsOf : List Nat → TGs
  | [] => gNil
  | i :: is => gCons (gName i) (gsOf is)
def gOf (K : PySem.W.Frag) : Tgt → TG
  | .nm i => gName i
  | .tp is => gTup K is.length (gsOf is)
def setM : List Nat → List D → DS → DS
  | i :: is, d :: ds, σ => setM is ds (σ.set i (some d))
  | _, _, σ => σ
def bindT : Tgt → D → DS → (DS → Prop) → Prop
  | .nm i, d, σ, Q => Q (σ.set i (some d))
  | .tp is, .tup ds, σ, Q => ds.length = is.length ∧ Q (setM is ds σ)
  | .tp _, _, _, _ => False
theorem gsOf_ok {K : PySem.W.Frag} : ∀ (is : List Nat) (ds : List D) (vs : List V) (σ : DS) (ρ : L2.St) (H : Hp) (Q : L2.St → Hp → Prop), RVs K H ds vs → RS K H σ ρ → ds.length = is.length →
    (∀ ρ', RS K H (setM is ds σ) ρ' → Q ρ' H) → gsOf is vs ρ H Q
  | [], [], vs, σ, ρ, H, Q, r, rs, _, q => by rw [RVs] at r; subst r; exact ⟨rfl, q ρ rs⟩
  | i :: is, d :: ds, vs, σ, ρ, H, Q, r, rs, l, q => by
    rw [RVs] at r
    obtain ⟨v, vs', rfl, rv, rr⟩ := r
    exact ⟨v, vs', rfl, gsOf_ok is ds vs' (σ.set i (some d)) (ρ.set i (some v)) H Q rr (rs.set i rv) (by simpa using l) q⟩
theorem gOf_ok {K : PySem.W.Frag} {t : Tgt} {d : D} {v : V} {σ : DS} {ρ : L2.St} {H : Hp} {Q : L2.St → Hp → Prop} {Q' : DS → Prop} (r : RV K H d v) (rs : RS K H σ ρ) (h : bindT t d σ Q') (f : ∀ ρ' σ', RS K H σ' ρ' → Q' σ' → Q ρ' H) : gOf K t v ρ H Q := by
  cases t with
  | nm i => exact f _ _ (rs.set i r) h
  | tp is =>
    cases d with
    | tup ds =>
      obtain ⟨a, xs, rfl, s, rr⟩ := RV.tup_.1 r
      exact ⟨a, xs, rfl, s, by rw [← rr.len]; exact h.1, gsOf_ok is ds xs σ ρ H Q rr rs h.1 fun ρ' rs' => f ρ' _ rs' h.2⟩
    | _ => exact False.elim h
def PGd (X : Cx) (tg : Expr) (t : Tgt) : Prop := PG X tg (gOf X.K t)
def wAsg (t : WE) (g : Tgt) : WS := fun D σ M => t σ M fun x M1 => bindT g x σ fun σ' => D.nx σ' M1
theorem psd_asg {tg : Expr} {t : WE} {g : Tgt} (h : PEd X e t) (hg : PGd X tg g) (hs : swapsWithSole [tg] e pos.line X.env = pure false) (hw : swappedStores [tg] e X.env = pure none) (h1 : (assignEach [tg] X.env).map (·.2) = [assign tg X.env]) : PSd X (.Assign [tg] e pos) (wAsg t g) := by
  intro σ M ρ H D rs rm q
  refine tWS_of (ps_asg (pe_W e) hg hs hw h1) ?_
  show tW X e ρ H _
  exact tW_mono (h σ M ρ H _ rs rm q) fun v H1 ⟨k1, x, M1, r1, m1, q1⟩ => gOf_ok r1 (rs.mono k1) q1 fun ρ' σ' rs' q' => ⟨k1, σ', M1, rs', m1, q'⟩

/-! ### what is walked -/
abbrev WI := DS → MH → (List D → (MH → Prop) → MH → Prop) → Prop
def JOk (K : PySem.W.Frag) (J : It) (H0 : Hp) (xs : List D) (g : MH → Prop) : Prop := ∀ i H M, Kp H0 H → RM K M H → g M → (i < xs.length → J.go i H) ∧ (i = xs.length → J.stop i H) ∧ ∀ x H' d, xs[i]? = some d → J.yld i H x H' → Kp H H' ∧ RM K M H' ∧ RV K H' d x
def iW (X : Cx) (tg iter : Expr) : TI := fun ρ H R => ∀ pins s, Inv X pins ρ H s → wpAny (model X.prog X.w) X.A (eval iter X.env) (fun v s1 => wpAny (model X.prog X.w) X.A (pyIter v) (PIE X pins ρ tg R) X.xe s1) X.xe s
theorem pi_W (tg iter : Expr) : PI X tg iter (iW X tg iter) := fun pins s _ _ _ I h => h pins s I
theorem iW_of {tg iter : Expr} {t : TI} {R : It → Hp → Prop} (h : PI X tg iter t) (q : t ρ H R) : iW X tg iter ρ H R := fun pins s I => h pins s ρ H R I q
theorem iW_mono {tg iter : Expr} {R R' : It → Hp → Prop} (h : iW X tg iter ρ H R) (f : ∀ J H', R J H' → R' J H') : iW X tg iter ρ H R' := fun pins s I => thn (h pins s I) fun _ _ q => thn q fun _ _ ⟨it, fp, tn, J, H', e, I', T, st, fk, r⟩ => ⟨it, fp, tn, J, H', e, I', T, st, fk, f J H' r⟩
def IEnd (K : PySem.W.Frag) (H : Hp) (R : List D → (MH → Prop) → MH → Prop) : It → Hp → Prop := fun J H' => Kp H H' ∧ ∃ xs g M', RM K M' H' ∧ g M' ∧ JOk K J H' xs g ∧ xs.length ≤ sizeLine ∧ R xs g M'
def PId (X : Cx) (tg iter : Expr) (t : WI) : Prop := ∀ σ M ρ H R, RS X.K H σ ρ → RM X.K M H → t σ M R → iW X tg iter ρ H (IEnd X.K H R)
def kD : Key → D
  | .inl i => .int i
  | .inr x => .str x
def keysOf (kvs : List (Key × D)) : List D := kvs.map fun kv => kD kv.1
theorem kD_rv {K : PySem.W.Frag} {H : Hp} (k : Key) : RV K H (kD k) (kV k) := by
  cases k with
  | inl i => exact RV.int_.2 rfl
  | inr x => exact RV.str_.2 rfl
theorem jok_dict {K : PySem.W.Frag} {a : Addr} {u : Obj} {kvs : List (Key × D)} {kws : List (Key × V)} {H0 : Hp} (e : H0 a = some (.frz u (.dK kws))) (hk : kws.map (·.1) = kvs.map (·.1)) (g : MH → Prop) : JOk K (Itd a u kws) H0 (keysOf kvs) g := by
  intro i H M k rm _
  have hl : kws.length = kvs.length := by have := congrArg List.length hk; simpa using this
  have e' := k.2 a _ _ e
  have hn : (keysOf kvs).length = kvs.length := by unfold keysOf; rw [List.length_map]
  rw [hn]
  refine ⟨fun hi => ⟨e', by omega⟩, fun hi => ⟨e', by omega⟩, fun x H' d hd ⟨e1, kv, h1, h2⟩ => ?_⟩
  subst e1 h2
  unfold keysOf at hd
  rw [List.getElem?_map] at hd
  have h3 : (kvs[i]?).map (·.1) = some kv.1 := by
    have := congrArg (fun l => l[i]?) hk
    simp only [List.getElem?_map, h1] at this
    rw [← this]; rfl
  cases q : kvs[i]? with
  | none => rw [q] at h3; cases h3
  | some p =>
    rw [q] at h3 hd
    cases hd
    have h3 : p.1 = kv.1 := by simpa using h3
    refine ⟨Kp.refl _, rm, ?_⟩
    show RV K _ (kD p.1) _
    rw [h3]
    exact kD_rv _
/-- a list, a tuple, a text, a dict -/
def seqD (x : D) (M : MH) (R : List D → (MH → Prop) → MH → Prop) : Prop := match x with
  | .tup ds => R ds (fun _ => True) M
  | .ref a => match M a with
    | some (.lst ds) => R ds (fun M' => M' a = some (.lst ds)) M
    | some (.rol ds) => R ds (fun M' => M' a = some (.rol ds)) M
    | some (.dic kvs) => R (keysOf kvs) (fun M' => M' a = some (.rod kvs)) (updM M a (.rod kvs))
    | some (.rod kvs) => R (keysOf kvs) (fun M' => M' a = some (.rod kvs)) M
    | _ => False
  | .str z => z.cps.size ≤ sizeLine ∧ R (z.cps.toList.map fun c => .str ⟨#[c]⟩) (fun _ => True) M
  | _ => False
theorem jok_list {K : PySem.W.Frag} {a : Addr} {ds : List D} {H0 : Hp} {g : MH → Prop} (hg : ∀ H M, RM K M H → g M → ∃ vs, SqL K H a vs ∧ RVs K H ds vs) : JOk K (Itl K a) H0 ds g := by
  intro i H M _ rm q
  obtain ⟨vs, sq, rr⟩ := hg H M rm q
  refine ⟨fun hi => ?_, fun hi => ⟨vs, sq, by rw [← rr.len]; exact Nat.le_of_eq hi.symm⟩, fun x H' d hd ⟨e, y⟩ => ?_⟩
  · have : i < vs.length := by rw [← rr.len]; exact hi
    exact ⟨vs, vs[i], sq, List.getElem?_eq_getElem this⟩
  · subst e
    obtain ⟨v, hv, r⟩ := pl_get rr.p hd
    have := y vs sq
    rw [hv] at this
    cases this
    exact ⟨Kp.refl _, rm, r⟩
theorem jok_tup {K : PySem.W.Frag} {a : Addr} {ds : List D} {vs : List V} {H0 : Hp} (sq : SqT K H0 a vs) (rr : RVs K H0 ds vs) : JOk K (Itt K a) H0 ds (fun _ => True) := by
  intro i H M k rm _
  have sq := k.sq sq
  have rr := RVs.mono k _ rr
  refine ⟨fun hi => ?_, fun hi => ⟨vs, sq, by rw [← rr.len]; exact Nat.le_of_eq hi.symm⟩, fun x H' d hd ⟨e, y⟩ => ?_⟩
  · have : i < vs.length := by rw [← rr.len]; exact hi
    exact ⟨vs, vs[i], sq, List.getElem?_eq_getElem this⟩
  · subst e
    obtain ⟨v, hv, r⟩ := pl_get rr.p hd
    have := y vs sq
    rw [hv] at this
    cases this
    exact ⟨Kp.refl _, rm, r⟩
theorem jok_str {K : PySem.W.Frag} {z : Str} {H0 : Hp} : JOk K (Its z) H0 (z.cps.toList.map fun c => .str ⟨#[c]⟩) (fun _ => True) := by
  intro i H M k rm _
  rw [List.length_map]
  refine ⟨fun hi => ?_, fun hi => ?_, fun x H' d hd ⟨e, c, hc, y⟩ => ?_⟩
  · show i < z.cps.size
    simpa using hi
  · show i = z.cps.size
    simpa using hi
  · subst e y
    rw [List.getElem?_map] at hd
    have : z.cps.toList[i]? = some c := by simpa using hc
    rw [this] at hd
    cases hd
    exact ⟨Kp.refl _, rm, RV.str_.2 rfl⟩
def wSeqI (t : WE) : WI := fun σ M R => t σ M fun x M1 => seqD x M1 R
theorem py_list {pins : List (Addr × Obj)} {s : Shared} {tg : Expr} {a : Addr} {xs : List V} {R : It → Hp → Prop} (I : Inv X pins ρ H s) (hq : SqL X.K H a xs) (q : R (Itl X.K a) H) : wpAny (model X.prog X.w) X.A (pyIter (.ref a)) (PIE X pins ρ tg R) X.xe s := by
  obtain ⟨its, rv, p, hz⟩ := I.list hq
  refine wpAny_pyIter_list p.isList ?_
  refine ⟨s.heap.objs.size, [s.heap.objs.size], _, _, H, rfl, I.kept (t' := s.toks) fun b o e => Heap.get?_push_of_some _ e, turn_list a _, ⟨_, Heap.get?_push_size _ rfl, rfl, rfl⟩, fun b hb => ?_, q⟩
  have e : b = s.heap.objs.size := by simpa using hb
  subst e
  exact I.fpOk (Nat.le_refl _) (I.hok.fresh (Nat.le_refl _))
theorem py_tup {pins : List (Addr × Obj)} {s : Shared} {tg : Expr} {a : Addr} {xs : List V} {R : It → Hp → Prop} (I : Inv X pins ρ H s) (hq : SqT X.K H a xs) (q : R (Itt X.K a) H) : wpAny (model X.prog X.w) X.A (pyIter (.ref a)) (PIE X pins ρ tg R) X.xe s := by
  obtain ⟨its, rv, p, hz⟩ := I.tuple hq
  refine wpAny_pyIter_tuple (show s.heap.IsTuple a its.toArray from p) ?_
  refine ⟨s.heap.objs.size, [s.heap.objs.size], _, _, H, rfl, I.kept (t' := s.toks) fun b o e => Heap.get?_push_of_some _ e, turn_tuple a _, ⟨_, Heap.get?_push_size _ rfl, rfl, rfl⟩, fun b hb => ?_, q⟩
  have e : b = s.heap.objs.size := by simpa using hb
  subst e
  exact I.fpOk (Nat.le_refl _) (I.hok.fresh (Nat.le_refl _))
theorem py_str {pins : List (Addr × Obj)} {s : Shared} {tg : Expr} {z : Str} {t : Tok} {R : It → Hp → Prop} (I : Inv X pins ρ H s) (q : R (Its z) H) : wpAny (model X.prog X.w) X.A (pyIter (.str z t)) (PIE X pins ρ tg R) X.xe s := by
  have fp : ∀ b ∈ [s.heap.objs.size], FpOk X pins H b := fun b hb => by
    have e : b = s.heap.objs.size := by simpa using hb
    subst e
    exact I.fpOk (Nat.le_refl _) (I.hok.fresh (Nat.le_refl _))
  cases ha : z.cps.all (· < 128)
  · refine wpAny_pyIter_wide ha ?_
    exact ⟨s.heap.objs.size, [s.heap.objs.size], _, _, H, rfl, I.kept (t' := s.toks) fun b o e => Heap.get?_push_of_some _ e, turn_strW _ z t, ⟨_, Heap.get?_push_size _ rfl, rfl, rfl⟩, fp, q⟩
  · refine wpAny_pyIter_ascii ha ?_
    exact ⟨s.heap.objs.size, [s.heap.objs.size], _, _, H, rfl, I.kept (t' := s.toks) fun b o e => Heap.get?_push_of_some _ e, turn_strA _ z t, ⟨_, Heap.get?_push_size _ rfl, rfl, rfl⟩, fp, q⟩
theorem pid_seq {l tg : Expr} {t : WE} (h : PEd X l t) : PId X tg l (wSeqI t) := by
  intro σ M ρ H R rs rm q pins s I
  refine thn (h σ M ρ H _ rs rm q pins s I) fun u s1 ⟨v, H1, I1, r1, ⟨k1, d, M1, rd, m1, q1⟩⟩ => ?_
  cases d with
  | tup ds =>
    obtain ⟨a, xs, rfl, sq, rr⟩ := RV.tup_.1 rd
    cases r1
    obtain ⟨_, _, _, hz⟩ := I1.tuple sq
    exact py_tup I1 sq ⟨k1, ds, _, M1, m1, trivial, jok_tup sq rr, by rw [rr.len]; exact hz, q1⟩
  | ref a =>
    cases RV.ref_.1 rd
    cases r1
    have q1 : match M1 a with
      | some (.lst ds) => R ds (fun M' => M' a = some (.lst ds)) M1
      | some (.rol ds) => R ds (fun M' => M' a = some (.rol ds)) M1
      | some (.dic kvs) => R (keysOf kvs) (fun M' => M' a = some (.rod kvs)) (updM M1 a (.rod kvs))
      | some (.rod kvs) => R (keysOf kvs) (fun M' => M' a = some (.rod kvs)) M1
      | _ => False := q1
    split at q1
    · rename_i ds e
      obtain ⟨xs, e1, rr⟩ := m1 a _ e
      obtain ⟨_, _, _, hz⟩ := I1.list (SqL.of e1)
      refine py_list I1 (SqL.of e1) ⟨k1, ds, _, M1, m1, e, jok_list fun H' M' rm' g' => ?_, by rw [rr.len]; exact hz, q1⟩
      obtain ⟨xs', e', rr'⟩ := rm' a _ g'
      exact ⟨xs', SqL.of e', rr'⟩
    · rename_i ds e
      obtain ⟨xs, e1, rr⟩ := m1 a _ e
      have e1 : SqL X.K H1 a xs := .inl e1
      obtain ⟨_, _, _, hz⟩ := I1.list e1
      refine py_list I1 e1 ⟨k1, ds, _, M1, m1, e, jok_list fun H' M' rm' g' => ?_, by rw [rr.len]; exact hz, q1⟩
      obtain ⟨xs', e', rr'⟩ := rm' a _ g'
      exact ⟨xs', .inl e', rr'⟩
    · rename_i kvs e
      obtain ⟨kws, e1, ek, rr⟩ := m1 a _ e
      obtain ⟨u, I2⟩ := freeze I1 e1
      have k2 := Kp.put (o' := .frz u (.dK kws)) e1 trivial
      have m2 := m1.put (m := .rod kvs) e1 trivial (o' := .frz u (.dK kws)) ⟨u, kws, upd_same, ek, RVs.mono k2 _ rr⟩
      refine py_dict I2 upd_same ⟨k1.trans k2, keysOf kvs, _, _, m2, updM_same, jok_dict upd_same ek _, ?_, q1⟩
      obtain ⟨_, hz, _⟩ := dict_at I2 upd_same
      have hl : kws.length = kvs.length := by have := congrArg List.length ek; simpa using this
      unfold keysOf; rw [List.length_map]; omega
    · rename_i kvs e
      obtain ⟨u, kws, e1, ek, rr⟩ := m1 a _ e
      refine py_dict I1 e1 ⟨k1, keysOf kvs, _, M1, m1, e, jok_dict e1 ek _, ?_, q1⟩
      obtain ⟨_, hz, _⟩ := dict_at I1 e1
      have hl : kws.length = kvs.length := by have := congrArg List.length ek; simpa using this
      unfold keysOf; rw [List.length_map]; omega
    · exact False.elim q1
  | str z =>
    cases RV.str_.1 rd
    obtain ⟨t, rfl⟩ := r1
    exact py_str I1 ⟨k1, _, _, M1, m1, trivial, jok_str, by rw [List.length_map]; simpa using q1.1, q1.2⟩
  | _ => exact False.elim q1
/-- range(n), range(a, b) -/
def rangeD (a b : Int) : List D := (List.range (b - a).toNat).map fun (i : Nat) => .int (a + (i : Int))
theorem jok_range {K : PySem.W.Frag} {a b : Int} {H0 : Hp} : JOk K (Itr a (b - a).toNat) H0 (rangeD a b) (fun _ => True) := by
  intro i H M k rm _
  have hl : (rangeD a b).length = (b - a).toNat := by unfold rangeD; rw [List.length_map, List.length_range]
  rw [hl]
  refine ⟨fun hi => hi, fun hi => Nat.le_of_eq hi.symm, fun x H' d hd ⟨e, y⟩ => ?_⟩
  subst e y
  have hi : i < (b - a).toNat := by have := (List.getElem?_eq_some_iff.mp hd).1; rw [hl] at this; exact this
  unfold rangeD at hd
  rw [List.getElem?_map, List.getElem?_range hi] at hd
  cases hd
  exact ⟨Kp.refl _, rm, RV.int_.2 rfl⟩
def wRng1 (t : WA) : WI := fun σ M R => t σ M fun ds M1 => match ds with
  | [.int j] => (-1000000 ≤ j ∧ j ≤ 1000000) ∧ R (rangeD 0 j) (fun _ => True) M1
  | _ => False
def wRng2 (t : WA) : WI := fun σ M R => t σ M fun ds M1 => match ds with
  | [.int i, .int j] => (-1000000 ≤ i ∧ i ≤ 1000000 ∧ -1000000 ≤ j ∧ j ≤ 1000000) ∧ R (rangeD i j) (fun _ => True) M1
  | _ => False
theorem range_len {a b : Int} (h1 : -1000000 ≤ a) (h2 : b ≤ 1000000) : (rangeD a b).length ≤ sizeLine := by
  unfold rangeD; rw [List.length_map, List.length_range, sizeLine_eq]; omega
theorem pid_range1 {a tg : Expr} {t : WA} {p : Pos} (hg : Gl X "range") (hm : X.mg "range" = none) (ha : PAd X [a] t) (hs : notStar a = true) : PId X tg (.Call (.Name "range" p) [a] [] pos) (wRng1 t) := by
  intro σ M ρ H R rs rm q
  refine iW_of (pi_range1 hg hm (pa_W [a]) (by rw [star_cons hs]; rfl)) ?_
  show tWA X [a] ρ H _
  refine tWA_mono (ha σ M ρ H _ rs rm q) fun vs H1 ⟨k1, ds, M1, r1, l1, m1, q1⟩ => ?_
  dsimp only at q1
  split at q1
  · rename_i j
    have r1 := r1.p
    cases r1 with
    | cons r rr =>
      cases rr
      cases RV.int_.1 r
      refine ⟨j, rfl, by omega, by omega, k1, _, _, M1, m1, trivial, ?_, range_len (by omega) q1.1.2, q1.2⟩
      have := @jok_range X.K 0 j H1
      rw [Int.sub_zero] at this
      exact this
  · exact False.elim q1
theorem pid_range2 {a b tg : Expr} {t : WA} {p : Pos} (hg : Gl X "range") (hm : X.mg "range" = none) (ha : PAd X [a, b] t) (hs : notStar a = true) (hs' : notStar b = true) : PId X tg (.Call (.Name "range" p) [a, b] [] pos) (wRng2 t) := by
  intro σ M ρ H R rs rm q
  refine iW_of (pi_range2 hg hm (pa_W [a, b]) (by rw [star_cons hs, star_cons hs']; rfl) (by rw [star_cons hs']; rfl)) ?_
  show tWA X [a, b] ρ H _
  refine tWA_mono (ha σ M ρ H _ rs rm q) fun vs H1 ⟨k1, ds, M1, r1, l1, m1, q1⟩ => ?_
  dsimp only at q1
  split at q1
  · rename_i i j
    have r1 := r1.p
    cases r1 with
    | cons r rr =>
      cases rr with
      | cons r' rr =>
        cases rr
        cases RV.int_.1 r
        cases RV.int_.1 r'
        exact ⟨i, j, rfl, ⟨by omega, by omega, by omega, by omega⟩, k1, _, _, M1, m1, trivial, jok_range, range_len q1.1.1 q1.1.2.2.2, q1.2⟩
  · exact False.elim q1

/-! ### for -/
def notSet : Expr → Bool
  | .Set _ _ _ => false
  | _ => true
theorem noset {env : Env} (h : notSet e = true) : ∀ x, foldedSetIterable e env x = pure x := by
  intro x
  cases e <;> first | rfl | (exact absurd (show false = true from h) Bool.false_ne_true)
def loopD (g : MH → Prop) (t : Tgt) (tb : WS) (E : EndsD) : List D → DS → MH → Prop
  | [], σ, M => E.nx σ M
  | x :: xs, σ, M => bindT t x σ fun σ' => tb { E with nx := fun σ2 M2 => g M2 ∧ loopD g t tb E xs σ2 M2, ct := fun σ2 M2 => g M2 ∧ loopD g t tb E xs σ2 M2, bk := E.nx } σ' M
def wFor (t : WI) (g : Tgt) (tb : WS) : WS := fun E σ M => t σ M fun xs gd M1 => loopD gd g tb E xs σ M1
theorem psd_for {tg iter : Expr} {body : List Stmt} {t : WI} {g : Tgt} {tb : WS} (hp : PassesOwn (model X.prog X.w) X.A X.env X.xe) (hc : X.calm = true) (hi : PId X tg iter t) (hg : PGd X tg g) (hb : PSsd X body tb) (hs : notSet iter = true) :
    PSd X (.For tg iter body [] pos) (wFor t g tb) := by
  intro σ M ρ H E rs rm q
  refine tWS_of (ps_for hp hc (pi_W tg iter) hg (pss_W body) (noset hs)) ?_
  show iW X tg iter ρ H _
  refine iW_mono (hi σ M ρ H _ rs rm q) fun J H1 ⟨k1, xs, gd, M1, m1, g1, jok, hz, q1⟩ => ?_
  refine ⟨fun i m ρ' H' => m = xs.length - i ∧ i ≤ xs.length ∧ Kp H1 H' ∧ ∃ σ' M', RS X.K H' σ' ρ' ∧ RM X.K M' H' ∧ gd M' ∧ loopD gd g tb E (xs.drop i) σ' M', ⟨xs.length, by simp, Nat.zero_le _, Kp.refl _, σ, M1, rs.mono k1, m1, g1, q1⟩, ?_⟩
  rintro i m ρ' H' ⟨rfl, hi', k', σ', M', rs', rm', g', l'⟩
  obtain ⟨j1, j2, j3⟩ := jok i H' M' k' rm' g'
  by_cases hlt : i < xs.length
  · rw [List.drop_eq_getElem_cons hlt] at l'
    refine .inr ⟨j1 hlt, fun ρ2 H2 => Kp H1 H2 ∧ ∃ σ2 M2, RS X.K H2 σ2 ρ2 ∧ RM X.K M2 H2 ∧ gd M2 ∧ loopD gd g tb E (xs.drop (i + 1)) σ2 M2, fun ρ2 H2 ⟨k2, r⟩ => ⟨xs.length - (i + 1), by omega, rfl, hlt, k2, r⟩, fun x H2 y => ?_⟩
    obtain ⟨k2, m2, r2⟩ := j3 x H2 xs[i] (List.getElem?_eq_getElem hlt) y
    refine gOf_ok r2 (rs'.mono k2) l' fun ρ3 σ3 rs3 q3 => ?_
    exact tWSs_mono (hb σ3 M' ρ3 H2 _ rs3 m2 q3) ⟨fun ρ4 H4 ⟨k4, σ4, M4, a, b, c⟩ => ⟨k'.trans (k2.trans k4), σ4, M4, a, b, c.1, c.2⟩, fun _ _ => lift_up ((k1.trans k').trans k2), fun _ _ => liftN_up ((k1.trans k').trans k2), fun ρ4 H4 ⟨k4, σ4, M4, a, b, c⟩ => ⟨k'.trans (k2.trans k4), σ4, M4, a, b, c.1, c.2⟩⟩
  · have e : i = xs.length := by omega
    subst e
    rw [List.drop_length] at l'
    exact .inl ⟨j2 rfl, k1.trans k', σ', M', rs', rm', l'⟩

/-! ### comprehensions -/
def compD (g : MH → Prop) (t : Tgt) (c : WT) (e : WE) (F : List D → MH → Prop) : List D → List D → DS → MH → Prop
  | [], acc, _, M => F acc M
  | x :: xs, acc, σ, M => bindT t x σ fun σ' => c σ' M fun b M1 => Bif b (e σ' M1 fun y M2 => g M2 ∧ compD g t c e F xs (acc ++ [y]) σ' M2) (g M1 ∧ compD g t c e F xs acc σ' M1)
def wComp (n : Nat) (t : WI) (g : Tgt) (c : WT) (e : WE) : WE := fun σ M Q => t σ M fun xs gd M1 => compD gd g c e (fun ds M' => ∀ p, M' p = none → Q (.ref p) (updM M' p (.lst ds))) xs [] (σ ++ List.replicate n none) M1
/-- a block's tests -/
def PTsd (X : Cx) (ifs : List Expr) (t : WT) : Prop := (ifs = [] ∧ t = fun _ M Q => Q true M) ∨ ∃ c, ifs = [c] ∧ PTd X c t
theorem comp_run {K : PySem.W.Frag} {J : It} {H1 : Hp} {xs : List D} {gd : MH → Prop} {g : Tgt} {c : WT} {e : WE} {tc : TT} {te : TE} {F : List D → MH → Prop} {Fin : List V → Hp → Prop} {σ : DS} {M1 : MH} {ρ : L2.St}
    (jok : JOk K J H1 xs gd) (hz : xs.length ≤ sizeLine) (rs : RS K H1 σ ρ) (m1 : RM K M1 H1) (g1 : gd M1)
    (hc : ∀ σ M ρ H Q (Q' : Bool → Hp → Prop), RS K H σ ρ → RM K M H → c σ M Q → (∀ b H', Kp H H' → ∀ M', RM K M' H' → Q b M' → Q' b H') → tc ρ H Q')
    (he : ∀ σ M ρ H Q (Q' : VK), RS K H σ ρ → RM K M H → e σ M Q → (∀ v H', Kp H H' → ∀ d M', RV K H' d v → RM K M' H' → Q d M' → Q' v H') → te ρ H Q')
    (hF : ∀ ds vs H' M', Kp H1 H' → RM K M' H' → RVs K H' ds vs → F ds M' → Fin vs H') (q : compD gd g c e F xs [] σ M1) : compW J (gOf K g) tc te Fin ρ H1 := by
  refine ⟨fun i m ys ρ' H' => m = xs.length - i ∧ i ≤ xs.length ∧ Kp H1 H' ∧ ∃ σ' M' ds, RS K H' σ' ρ' ∧ RM K M' H' ∧ gd M' ∧ RVs K H' ds ys ∧ ds.length ≤ i ∧ compD gd g c e F (xs.drop i) ds σ' M', ⟨xs.length, by simp, Nat.zero_le _, Kp.refl _, σ, M1, [], rs, m1, g1, RVs.nil, Nat.le_refl _, q⟩, ?_⟩
  rintro i m ys ρ' H' ⟨rfl, hi', k', σ', M', ds, rs', rm', g', rd, hd, l'⟩
  obtain ⟨j1, j2, j3⟩ := jok i H' M' k' rm' g'
  by_cases hlt : i < xs.length
  · rw [List.drop_eq_getElem_cons hlt] at l'
    refine .inr ⟨j1 hlt, by rw [← rd.len]; omega, fun zs ρ2 H2 => Kp H1 H2 ∧ ∃ σ2 M2 ds2, RS K H2 σ2 ρ2 ∧ RM K M2 H2 ∧ gd M2 ∧ RVs K H2 ds2 zs ∧ ds2.length ≤ i + 1 ∧ compD gd g c e F (xs.drop (i + 1)) ds2 σ2 M2, fun zs ρ2 H2 ⟨k2, r⟩ => ⟨xs.length - (i + 1), by omega, rfl, hlt, k2, r⟩, fun x H2 y => ?_⟩
    obtain ⟨k2, m2, r2⟩ := j3 x H2 xs[i] (List.getElem?_eq_getElem hlt) y
    refine gOf_ok r2 (rs'.mono k2) l' fun ρ3 σ3 rs3 q3 => ?_
    refine hc σ3 M' ρ3 H2 _ _ rs3 m2 q3 fun b H4 k4 M4 m4 q4 => ?_
    cases b with
    | true =>
      refine he σ3 M4 ρ3 H4 _ _ (rs3.mono k4) m4 q4 fun v H5 k5 d M5 rv m5 q5 => ?_
      have kk := k2.trans (k4.trans k5)
      exact ⟨k'.trans kk, σ3, M5, ds ++ [d], rs3.mono (k4.trans k5), m5, q5.1, RVs.of (pl_append (RVs.mono kk _ rd).p (.cons rv .nil)), by simp; omega, q5.2⟩
    | false => exact ⟨k'.trans (k2.trans k4), σ3, M4, ds, rs3.mono k4, m4, q4.1, RVs.mono (k2.trans k4) _ rd, by omega, q4.2⟩
  · have e : i = xs.length := by omega
    subst e
    rw [List.drop_length] at l'
    exact .inl ⟨j2 rfl, hF ds ys H' M' k' rm' rd l'⟩
section
variable {elt tg iter : Expr} {ifs : List Expr} {scope osc : Scope} {own N2 : List Str}
/-- the weakest readings in a block -/
def bT (X : Cx) (scope : Scope) (own N2 : List Str) (ifs : List Expr) : TT := fun ρ H Q => ∀ C s H0 ex pn pins s', Inv (cxC X scope own N2 C s H0 ex pn) pins ρ H s' →
  wpAny (model X.prog X.w) X.A (forIn ifs true fun c r => if r = true then do let ok ← isTrue c (cxC X scope own N2 C s H0 ex pn).env (eval c (cxC X scope own N2 C s H0 ex pn).env); pure (ForInStep.yield ok) else pure (ForInStep.yield r)) (TP (cxC X scope own N2 C s H0 ex pn) pins ρ Q) (cxC X scope own N2 C s H0 ex pn).xe s'
def bE (X : Cx) (scope : Scope) (own N2 : List Str) (e : Expr) : TE := fun ρ H Q => ∀ C s H0 ex pn, tW (cxC X scope own N2 C s H0 ex pn) e ρ H Q
theorem comp_bodies {c : WT} {te : WE} (hc : ∀ C s H0 ex pn, PTsd (cxC X scope own N2 C s H0 ex pn) ifs c) (he : ∀ C s H0 ex pn, PEd (cxC X scope own N2 C s H0 ex pn) elt te) :
    (∀ σ M ρ H Q (Q' : Bool → Hp → Prop), RS X.K H σ ρ → RM X.K M H → c σ M Q → (∀ b H', Kp H H' → ∀ M', RM X.K M' H' → Q b M' → Q' b H') → bT X scope own N2 ifs ρ H Q') ∧
    (∀ σ M ρ H Q (Q' : VK), RS X.K H σ ρ → RM X.K M H → te σ M Q → (∀ v H', Kp H H' → ∀ d M', RV X.K H' d v → RM X.K M' H' → Q d M' → Q' v H') → bE X scope own N2 elt ρ H Q') := by
  refine ⟨fun σ M ρ H Q Q' rs rm q f C s H0 ex pn pins s' I => ?_, fun σ M ρ H Q Q' rs rm q f C s H0 ex pn => ?_⟩
  · rcases hc C s H0 ex pn with ⟨e1, e2⟩ | ⟨c', e1, h⟩
    · subst e1 e2
      exact pts_nil (X := cxC X scope own N2 C s H0 ex pn) pins s' ρ H _ I (f true H (Kp.refl H) M rm q)
    · subst e1
      refine pts_one (X := cxC X scope own N2 C s H0 ex pn) (pt_W c') pins s' ρ H _ I ?_
      exact tWT_mono (h σ M ρ H Q rs rm q) fun b H' ⟨k, M', m', q'⟩ => f b H' k M' m' q'
  · exact tW_mono (he C s H0 ex pn σ M ρ H Q rs rm q) fun v H' ⟨k, d, M', r, m', q'⟩ => f v H' k d M' r m' q'
theorem ped_comp {t : WI} {g : Tgt} {c : WT} {te : WE} (cs : CompScope osc scope X.N own N2) (ho : X.env.scope = osc) (hcalm : X.calm = true) (hi : PId X tg iter t) (hg : ∀ C s H0 ex pn, PG (cxC X scope own N2 C s H0 ex pn) tg (gOf X.K g))
    (hc : ∀ C s H0 ex pn, PTsd (cxC X scope own N2 C s H0 ex pn) ifs c) (he : ∀ C s H0 ex pn, PEd (cxC X scope own N2 C s H0 ex pn) elt te) (hs : notSet iter = true) : PEd X (.ListComp elt [⟨tg, iter, ifs, 0⟩] scope pos) (wComp own.length t g c te) := by
  intro σ M ρ H Q rs rm q
  obtain ⟨b1, b2⟩ := comp_bodies hc he
  refine tW_of (pe_comp (te := bE X scope own N2 elt) (tc := bT X scope own N2 ifs) cs hcalm (pi_W tg iter) hg (fun C s H0 ex pn pins s' σ' H' Q' I h => h C s H0 ex pn pins s' I) (fun C s H0 ex pn pins s' σ' H' Q' I h => h C s H0 ex pn pins s' I) ho rfl (noset hs)) ?_
  show iW X tg iter ρ H _
  refine iW_mono (hi σ M ρ H _ rs rm q) fun J H1 ⟨k1, xs, gd, M1, m1, g1, jok, hz, q1⟩ => ?_
  refine comp_run jok hz ((rs.mono k1).more own.length) m1 g1 b1 b2 ?_ q1
  intro ds vs H' M' k' m' rr f p hp
  have k2 : Kp H' (upd H' p (.lst vs)) := Kp.new hp
  exact ⟨(k1.trans k').trans k2, .ref p, _, RV.ref_.2 rfl, m'.new (m := .lst ds) hp ⟨vs, upd_same, RVs.mono k2 _ rr⟩, f p (m'.fresh hp)⟩
def wSetC (i n : Nat) (t : WI) (g : Tgt) (c : WT) (e : WE) : WS := fun E σ M => t σ M fun xs gd M1 => compD gd g c e (fun ds M' => ∀ p, M' p = none → E.nx (σ.set i (some (.ref p))) (updM M' p (.lst ds))) xs [] (σ ++ List.replicate n none) M1
theorem psd_setC {t : WI} {g : Tgt} {c : WT} {te : WE} {i : Nat} {y : Str} {py spos : Pos} (cs : CompScope osc scope X.N own N2) (ho : X.env.scope = osc) (hcalm : X.calm = true) (hnd : X.N.Nodup) (hy : X.N[i]? = some y) (hl : X.env.scope.names.lookup y = some .local) (hi : PId X tg iter t)
    (hg : ∀ C s H0 ex pn, PG (cxC X scope own N2 C s H0 ex pn) tg (gOf X.K g))
    (hc : ∀ C s H0 ex pn, PTsd (cxC X scope own N2 C s H0 ex pn) ifs c) (he : ∀ C s H0 ex pn, PEd (cxC X scope own N2 C s H0 ex pn) elt te) (hs : notSet iter = true)
    (hsw : swapsWith (.ListComp elt [⟨tg, iter, ifs, 0⟩] scope pos) (some (.Name y py)) spos.line X.env = pure true) : PSd X (.Assign [.Name y py] (.ListComp elt [⟨tg, iter, ifs, 0⟩] scope pos) spos) (wSetC i own.length t g c te) := by
  intro σ M ρ H E rs rm q
  obtain ⟨b1, b2⟩ := comp_bodies hc he
  refine tWS_of (ps_setC (te := bE X scope own N2 elt) (tc := bT X scope own N2 ifs) (i := i) cs hcalm hnd hy hl (pi_W tg iter) hg (fun C s H0 ex pn pins s' σ' H' Q' I h => h C s H0 ex pn pins s' I) (fun C s H0 ex pn pins s' σ' H' Q' I h => h C s H0 ex pn pins s' I) hsw ho rfl (noset hs)) ?_
  show iW X tg iter ρ H _
  refine iW_mono (hi σ M ρ H _ rs rm q) fun J H1 ⟨k1, xs, gd, M1, m1, g1, jok, hz, q1⟩ => ?_
  refine comp_run jok hz ((rs.mono k1).more own.length) m1 g1 b1 b2 ?_ q1
  intro ds vs H' M' k' m' rr f p hp
  have k2 : Kp H' (upd H' p (.lst vs)) := Kp.new hp
  exact ⟨(k1.trans k').trans k2, _, _, (rs.mono ((k1.trans k').trans k2)).set i (RV.ref_.2 rfl), m'.new (m := .lst ds) hp ⟨vs, upd_same, RVs.mono k2 _ rr⟩, f p (m'.fresh hp)⟩
end

/-! ### a def -/
def startD (N : List Str) (ds : List D) : DS := ds.map some ++ List.replicate (N.length - ds.length) none
theorem start_ok {K : PySem.W.Frag} {H : Hp} {N : List Str} {ds : List D} {vs : List V} (r : RVs K H ds vs) : RS K H (startD N ds) (L2.start N vs) := by
  unfold startD L2.start
  rw [r.len]
  refine pl_append ?_ (pl_replicate (fun d e => nomatch e) _)
  have p := r.p
  clear r
  induction p with
  | nil => exact .nil
  | cons r _ ih => exact .cons (fun d e => by cases e; exact ⟨_, rfl, r⟩) ih
end
section
variable {P : Program} {w : World} {K : PySem.W.Frag} {mg : Str → Option Value} {base : Heap}
theorem fnD {x : Str} {st : Stmt} {ps N : List Str} {f : Addr} {fd : FuncData} {k : Nat} {sp : SpD} {t : WS} (D0 : IsDef K mg x st ps f fd) (S : FnScope N ps (defScope st)) (len : ∀ ds M Q, sp ds M Q → ds.length = ps.length)
    (hb : ∀ cdv A outer s H E, Room k (A.deeper (envOfC x (defScope st) s.heap.objs.size f cdv)) → PSsd (cxOf CX0 P w K mg base N x (defScope st) f cdv A outer s H E).nox (defBody st) t)
    (h : ∀ ds M Q, sp ds M Q → t { nx := fun _ M' => Q .non M', rt := Q } (startD N ds) M) : FnD P w K mg base (k + 1) x sp := by
  refine ⟨st, ps, f, fd, D0, D0.fn.ok S (fun vs H Q E ⟨ds, M, Q0, r, _, s, _⟩ => by rw [← r.len]; exact len ds M Q0 s) fun cdv A outer s H vs Q E hr ⟨ds, M, Q0, r, m, sq, f0⟩ => ⟨tWSs _ _, pss_W _, ?_⟩⟩
  refine tWSs_mono (hb cdv A outer s H E hr (startD N ds) M (L2.start N vs) H _ (start_ok r) m (h ds M Q0 sq)) ⟨fun ρ' H' ⟨k', σ', M', _, m', q⟩ => f0 _ _ _ _ q k' (RV.non_.2 rfl) m', fun v H' ⟨k', d, M', r', m', q⟩ => f0 _ _ _ _ q k' r' m', fun _ _ ⟨_, _, _, _, _, q⟩ => q, fun _ _ ⟨_, _, _, _, _, q⟩ => q⟩
end
end DD

set_option Elab.async false
set_option maxRecDepth 100000
set_option maxHeartbeats 4000000
namespace DD
open PySem PySem.Spec PyProof.Rows L2
/-! ### for i, x in enumerate(xs) -/
section
variable {X : Cx} {pins : List (Addr × Obj)} {σ : L2.St} {H : Hp} {s : Shared} {h' : Heap}
end
section
variable {X : Cx} {H : Hp} {pos : Pos}
end
end DD

set_option Elab.async false
set_option maxRecDepth 100000
set_option maxHeartbeats 4000000
namespace DD
open PySem PySem.Spec PyProof.Rows L2
open AutoSeq1 (wpAny_loadPart')
/-! ### enumerate(xs, start=n) -/
section
variable {prog : Program} {w : World} {A : Around} {Z : Value → Shared → Prop} {s : Shared}
end
section
variable {X : Cx} {H : Hp} {pos : Pos}
end
end DD

set_option Elab.async false
set_option maxRecDepth 100000
set_option maxHeartbeats 4000000
namespace DD
open PySem PySem.Spec PyProof.Rows L2

/-! ### == of data that hold no address -/
mutual
def pureD : D → Bool
  | .ref _ => false
  | .ty _ => false
  | .tup ds => pureDs ds
  | _ => true
def pureDs : List D → Bool
  | [] => true
  | d :: ds => pureD d && pureDs ds
end
mutual
def depD : D → Nat
  | .tup ds => depDs ds + 1
  | _ => 0
def depDs : List D → Nat
  | [] => 0
  | d :: ds => max (depD d) (depDs ds)
end
mutual
def eqD : D → D → Bool
  | .non, .non => true
  | .bl a, .bl b => a == b
  | .bl a, .int b => (if a then 1 else 0) == b
  | .int a, .bl b => a == (if b then 1 else 0)
  | .int a, .int b => a == b
  | .str a, .str b => a == b
  | .tup as, .tup bs => eqDs as bs
  | _, _ => false
def eqDs : List D → List D → Bool
  | [], [] => true
  | a :: as, b :: bs => eqD a b && eqDs as bs
  | _, _ => false
end
mutual
theorem eqD_refl : ∀ d : D, pureD d = true → eqD d d = true
  | .non, _ => by rw [eqD]
  | .bl b, _ => by rw [eqD]; simp
  | .int b, _ => by rw [eqD]; simp
  | .str b, _ => by rw [eqD]; simp
  | .ref _, h => by rw [pureD] at h; cases h
  | .ty _, h => by rw [pureD] at h; cases h
  | .tup ds, h => by rw [pureD] at h; rw [eqD]; exact eqDs_refl ds h
theorem eqDs_refl : ∀ ds : List D, pureDs ds = true → eqDs ds ds = true
  | [], _ => by rw [eqDs]
  | d :: ds, h => by
    rw [pureDs, Bool.and_eq_true] at h
    rw [eqDs, eqD_refl d h.1, eqDs_refl ds h.2]; rfl
end
theorem eqDs_all : ∀ {as bs : List D}, eqDs as bs = ((List.range (min as.length bs.length)).all (fun j => eqD ((as[j]?).getD .non) ((bs[j]?).getD .non)) && as.length == bs.length)
  | [], [] => by rw [eqDs]; rfl
  | [], b :: bs => by rw [eqDs] <;> simp
  | a :: as, [] => by rw [eqDs] <;> simp
  | a :: as, b :: bs => by
    rw [eqDs, eqDs_all (as := as) (bs := bs)]
    have e : min (a :: as).length (b :: bs).length = min as.length bs.length + 1 := by simp only [List.length_cons]; omega
    rw [e, List.range_succ_eq_map, List.all_cons, List.all_map]
    simp only [List.getElem?_cons_zero, Option.getD_some, List.length_cons]
    rw [Bool.and_assoc]
    congr 1
    congr 1
    rw [Bool.eq_iff_iff]; simp
theorem pureDs_get : ∀ {ds : List D} {i : Nat} {d : D}, pureDs ds = true → ds[i]? = some d → pureD d = true
  | d :: ds, 0, _, h, e => by rw [pureDs, Bool.and_eq_true] at h; simp at e; subst e; exact h.1
  | d :: ds, i + 1, _, h, e => by rw [pureDs, Bool.and_eq_true] at h; exact pureDs_get (ds := ds) (i := i) h.2 (by simpa using e)
theorem depDs_get : ∀ {ds : List D} {i : Nat} {d : D}, ds[i]? = some d → depD d ≤ depDs ds
  | d :: ds, 0, _, e => by rw [depDs]; simp at e; subst e; omega
  | d :: ds, i + 1, _, e => by rw [depDs]; have := depDs_get (ds := ds) (i := i) (by simpa using e); omega
section
variable {X : Cx} {pins : List (Addr × Obj)} {ρ : L2.St} {H : Hp} {s : Shared}
def flatD : D → Bool
  | .non => true
  | .bl _ => true
  | .int _ => true
  | .str _ => true
  | _ => false
def toV : D → V
  | .non => .non
  | .bl b => .bl b
  | .int i => .int i
  | .str x => .str x
  | _ => .non
theorem flat_rv {K : PySem.W.Frag} {d : D} {v : V} (f : flatD d = true) (r : RV K H d v) : v = toV d ∧ flatV v = true := by
  cases d with
  | non => cases RV.non_.1 r; exact ⟨rfl, rfl⟩
  | bl b => cases RV.bl_.1 r; exact ⟨rfl, rfl⟩
  | int b => cases RV.int_.1 r; exact ⟨rfl, rfl⟩
  | str b => cases RV.str_.1 r; exact ⟨rfl, rfl⟩
  | _ => exact absurd (show false = true from f) Bool.false_ne_true
theorem flat_eq {d e : D} (f : flatD d = true) (g : flatD e = true) : eqD d e = eqV (toV d) (toV e) := by
  cases d <;> cases e <;> first | exact absurd (show false = true from f) Bool.false_ne_true | exact absurd (show false = true from g) Bool.false_ne_true | (rw [eqD] <;> first | rfl | (intros; contradiction) | skip)
mutual
theorem RV_inj (I : Inv X pins ρ H s) : ∀ (d e : D) {v : V}, pureD d = true → pureD e = true → RV X.K H d v → RV X.K H e v → d = e := fun d e v pd pe rd re => by
  cases d with
  | non => cases RV.non_.1 rd; cases e with
    | non => rfl
    | tup ds => obtain ⟨a, xs, z, _⟩ := RV.tup_.1 re; cases z
    | _ => rw [RV] at re; cases re
  | bl b => cases RV.bl_.1 rd; cases e with
    | bl b' => cases RV.bl_.1 re; rfl
    | tup ds => obtain ⟨a, xs, z, _⟩ := RV.tup_.1 re; cases z
    | _ => rw [RV] at re; cases re
  | int b => cases RV.int_.1 rd; cases e with
    | int b' => cases RV.int_.1 re; rfl
    | tup ds => obtain ⟨a, xs, z, _⟩ := RV.tup_.1 re; cases z
    | _ => rw [RV] at re; cases re
  | str b => cases RV.str_.1 rd; cases e with
    | str b' => cases RV.str_.1 re; rfl
    | tup ds => obtain ⟨a, xs, z, _⟩ := RV.tup_.1 re; cases z
    | _ => rw [RV] at re; cases re
  | ref a => rw [pureD] at pd; cases pd
  | ty a => rw [pureD] at pd; cases pd
  | tup ds =>
    obtain ⟨a, xs, rfl, sq, rr⟩ := RV.tup_.1 rd
    cases e with
    | tup es =>
      obtain ⟨a', xs', z, sq', rr'⟩ := RV.tup_.1 re
      cases z
      have := I.tuple_inj sq sq'
      subst this
      rw [pureD] at pd pe
      rw [RVs_inj I ds es pd pe rr rr']
    | ref a => rw [pureD] at pe; cases pe
    | _ => rw [RV] at re; cases re
theorem RVs_inj (I : Inv X pins ρ H s) : ∀ (ds es : List D) {vs : List V}, pureDs ds = true → pureDs es = true → RVs X.K H ds vs → RVs X.K H es vs → ds = es
  | [], [], _, _, _, _, _ => rfl
  | [], e :: es, _, _, _, rd, re => by have := rd.len; have := re.len; simp only [List.length_cons, List.length_nil] at *; omega
  | d :: ds, [], _, _, _, rd, re => by have := rd.len; have := re.len; simp only [List.length_cons, List.length_nil] at *; omega
  | d :: ds, e :: es, _, pd, pe, rd, re => by
    rw [RVs] at rd re
    rw [pureDs, Bool.and_eq_true] at pd pe
    obtain ⟨v, vs, rfl, r1, r2⟩ := rd
    obtain ⟨v', vs', z, r1', r2'⟩ := re
    cases z
    rw [RV_inj I d e pd.1 pe.1 r1 r1', RVs_inj I ds es pd.2 pe.2 r2 r2']
end
theorem eqAt_tf {A : Around} {ds : List D} {e : D} {v u : V} {v' u' : Value} (I : Inv X pins ρ H s) (hu : A.units < cLine) (f : flatD e = true) (rd : RV X.K H (.tup ds) v) (re : RV X.K H e u) (r : RelV v v') (r' : RelV u u') :
    SeqAt.EqAt A s v' u' false ∧ SeqAt.EqAt A s u' v' false := by
  obtain ⟨a, xs, rfl, sq, rr⟩ := RV.tup_.1 rd
  obtain ⟨its, _, tp, _⟩ := I.tuple sq
  cases r
  have tp : s.heap.IsTuple a its.toArray := tp
  cases e with
  | non => cases RV.non_.1 re; cases r'; exact ⟨SeqAt.EqAt.tuple_none tp hu, SeqAt.EqAt.none_tuple tp hu⟩
  | bl b => cases RV.bl_.1 re; cases r'; exact ⟨SeqAt.EqAt.tuple_bool b tp hu, SeqAt.EqAt.bool_tuple b tp hu⟩
  | int b => cases RV.int_.1 re; obtain ⟨t, rfl⟩ := r'; exact ⟨SeqAt.EqAt.tuple_int b t tp hu, SeqAt.EqAt.int_tuple b t tp hu⟩
  | str b => cases RV.str_.1 re; obtain ⟨t, rfl⟩ := r'; exact ⟨SeqAt.EqAt.tuple_str b t tp hu, SeqAt.EqAt.str_tuple b t tp hu⟩
  | _ => exact absurd (show false = true from f) Bool.false_ne_true
theorem eqD_tf {ds : List D} {e : D} (f : flatD e = true) : eqD (.tup ds) e = false ∧ eqD e (.tup ds) = false := by
  cases e <;> first | exact absurd (show false = true from f) Bool.false_ne_true | (constructor <;> (rw [eqD] <;> (intros; contradiction)))
theorem flat_or {d : D} (h : pureD d = true) : flatD d = true ∨ ∃ ds, d = .tup ds := by
  cases d with
  | ref a => rw [pureD] at h; cases h
  | ty a => rw [pureD] at h; cases h
  | tup ds => exact .inr ⟨ds, rfl⟩
  | _ => exact .inl rfl
theorem units_in1 (A : Around) : A.in1.units = A.units + 1 := rfl
/-- items, one by one -/
theorem items_at {K : PySem.W.Frag} {ds : List D} {vs : List V} {its : List Value} (rr : RVs K H ds vs) (rv : Vals vs its) {j : Nat} (h : j < its.toArray.size) :
    ∃ d v, ds[j]? = some d ∧ RV K H d v ∧ RelV v its.toArray[j] := by
  have h1 : j < its.length := by simpa using h
  have h2 : j < vs.length := by rw [rv.length]; exact h1
  have h3 : j < ds.length := by rw [rr.len]; exact h2
  obtain ⟨v, hv, r⟩ := pl_get rr.p (List.getElem?_eq_getElem h3)
  obtain ⟨u, hu, r'⟩ := rv.get hv
  have : its.toArray[j] = u := by
    have := List.getElem?_eq_getElem h1
    rw [this] at hu
    simpa using hu
  exact ⟨ds[j], v, List.getElem?_eq_getElem h3, r, by rw [this]; exact r'⟩
theorem eqAt_D (n : Nat) : ∀ {s : Shared} {A : Around} (d e : D) {v u : V} {v' u' : Value}, Inv X pins ρ H s → depD d ≤ n → A.units + n < cLine → pureD d = true → pureD e = true → RV X.K H d v → RV X.K H e u → RelV v v' → RelV u u' → SeqAt.EqAt A s v' u' (eqD d e) := by
  induction n with
  | zero =>
    intro s A d e v u v' u' I hd hu pd pe rd re r r'
    rcases flat_or pd with f | ⟨ds, rfl⟩
    · rcases flat_or pe with g | ⟨es, rfl⟩
      · rw [flat_eq f g]
        obtain ⟨z1, z2⟩ := flat_rv f rd
        obtain ⟨z3, z4⟩ := flat_rv g re
        rw [← z1, ← z3]
        exact eqAt_V r r' z2 z4
      · rw [(eqD_tf f).2]; exact (eqAt_tf I (by omega) f re rd r' r).2
    · rw [depD] at hd; omega
  | succ n ih =>
    intro s A d e v u v' u' I hd hu pd pe rd re r r'
    rcases flat_or pd with f | ⟨ds, rfl⟩
    · rcases flat_or pe with g | ⟨es, rfl⟩
      · rw [flat_eq f g]
        obtain ⟨z1, z2⟩ := flat_rv f rd
        obtain ⟨z3, z4⟩ := flat_rv g re
        rw [← z1, ← z3]
        exact eqAt_V r r' z2 z4
      · rw [(eqD_tf f).2]; exact (eqAt_tf I (by omega) f re rd r' r).2
    · rcases flat_or pe with g | ⟨es, rfl⟩
      · rw [(eqD_tf g).1]; exact (eqAt_tf I (by omega) g rd re r r').1
      · by_cases z : v = u
        · subst z
          have := RV_inj I _ _ pd pe rd re
          cases this
          rw [eqD_refl _ pd]
          obtain ⟨a, xs, rfl, _⟩ := RV.tup_.1 rd
          cases r; cases r'
          exact SeqAt.EqAt.same _
        · obtain ⟨a, xs, rfl, sq, rr⟩ := RV.tup_.1 rd
          obtain ⟨b, ys, rfl, sq', rr'⟩ := RV.tup_.1 re
          cases r; cases r'
          have hab : a ≠ b := fun q => z (by rw [q])
          obtain ⟨its, rv, tp, _⟩ := I.tuple sq
          obtain ⟨its', rv', tp', _⟩ := I.tuple sq'
          rw [depD] at hd
          rw [pureD] at pd pe
          have key := SeqAt.RcAt.tuples (A := A) (e := fun j => eqD ((ds[j]?).getD .non) ((es[j]?).getD .non)) (show s.heap.IsTuple a its.toArray from tp) (show s.heap.IsTuple b its'.toArray from tp') (by omega) (fun j h1 h2 => by
            obtain ⟨d, v, e1, r1, q1⟩ := items_at rr rv h1
            obtain ⟨e, u, e2, r2, q2⟩ := items_at rr' rv' h2
            rw [e1, e2]
            have := depDs_get e1
            exact ih d e I (by omega) (by rw [units_in1]; omega) (pureDs_get pd e1) (pureDs_get pe e2) r1 r2 q1 q2)
          have e : eqD (.tup ds) (.tup es) = ((List.range (min its.toArray.size its'.toArray.size)).all (fun j => eqD ((ds[j]?).getD .non) ((es[j]?).getD .non)) && its.toArray.size == its'.toArray.size) := by
            have l1 : its.toArray.size = ds.length := by rw [rr.len, rv.length]; simp
            have l2 : its'.toArray.size = es.length := by rw [rr'.len, rv'.length]; simp
            rw [eqD, eqDs_all, l1, l2]
          rw [e]
          exact SeqAt.EqAt.of_refs hab key
end
end DD

set_option Elab.async false
set_option maxRecDepth 100000
set_option maxHeartbeats 4000000
namespace DD
open PySem PySem.Spec PyProof.Rows L2
section
variable {X : Cx} {H : Hp}
/-! ### + - * // % and their like -/
def dAdd : D → D → MH → DK → Prop
  | .int i, .int j, M, Q => Q (.int (i + j)) M
  | .str i, .str j, M, Q => i.length + j.length ≤ sizeLine ∧ Q (.str (i ++ j)) M
  | .tup xs, .tup ys, M, Q => (xs ≠ [] ∧ xs.length + ys.length ≤ sizeLine) ∧ Q (.tup (xs ++ ys)) M
  | .ref a, .ref b, M, Q => match M a, M b with
    | some (.lst xs), some (.lst ys) => xs.length + ys.length ≤ sizeLine ∧ ∀ p, M p = none → Q (.ref p) (updM M p (.lst (xs ++ ys)))
    | _, _ => False
  | _, _, _, _ => False
theorem opd_add : OpD X (binaryOp .Add) dAdd := by
  intro x y v u H M Q rx ry rm h
  cases x with
  | int i => cases y with
    | int j => cases RV.int_.1 rx; cases RV.int_.1 ry; exact oW_of op_add ⟨i, j, rfl, rfl, lift_at (RV.int_.2 rfl) rm h⟩
    | _ => exact False.elim h
  | str i => cases y with
    | str j => cases RV.str_.1 rx; cases RV.str_.1 ry; exact oW_of op_add_str ⟨i, j, rfl, rfl, h.1, lift_at (RV.str_.2 rfl) rm h.2⟩
    | _ => exact False.elim h
  | tup xs => cases y with
    | tup ys =>
      obtain ⟨a, vs, rfl, sq, rr⟩ := RV.tup_.1 rx
      obtain ⟨b, us, rfl, sq', rr'⟩ := RV.tup_.1 ry
      obtain ⟨⟨h1, h2⟩, h3⟩ := h
      refine oW_of op_catT ⟨a, b, vs, us, rfl, rfl, sq, sq', fun z => h1 ?_, by rw [← rr.len, ← rr'.len]; exact h2, fun z => ?_, fun z p hp => ?_⟩
      · have := rr.len; rw [z] at this; exact List.eq_nil_of_length_eq_zero this
      · have := rr'.len; rw [z] at this
        have : ys = [] := List.eq_nil_of_length_eq_zero this
        subst this
        rw [List.append_nil] at h3
        exact lift_at rx rm h3
      · have k := Kp.new (o := .tup (vs ++ us)) hp
        exact ⟨k, .tup (xs ++ ys), M, RV.tup_.2 ⟨p, _, rfl, SqT.of upd_same, RVs.of (pl_append (RVs.mono k _ rr).p (RVs.mono k _ rr').p)⟩, rm.newH hp, h3⟩
    | _ => exact False.elim h
  | ref a => cases y with
    | ref b =>
      cases RV.ref_.1 rx; cases RV.ref_.1 ry
      have h : match M a, M b with
        | some (.lst xs), some (.lst ys) => xs.length + ys.length ≤ sizeLine ∧ ∀ p, M p = none → Q (.ref p) (updM M p (.lst (xs ++ ys)))
        | _, _ => False := h
      split at h
      · rename_i xs ys e1 e2
        obtain ⟨vs, q1, rr⟩ := rm a _ e1
        obtain ⟨us, q2, rr'⟩ := rm b _ e2
        refine oW_of op_cat ⟨a, b, vs, us, rfl, rfl, q1, q2, by rw [← rr.len, ← rr'.len]; exact h.1, fun p hp => ?_⟩
        have k := Kp.new (o := .lst (vs ++ us)) hp
        exact ⟨k, .ref p, _, RV.ref_.2 rfl, rm.new (m := .lst (xs ++ ys)) hp ⟨_, upd_same, RVs.of (pl_append (RVs.mono k _ rr).p (RVs.mono k _ rr').p)⟩, h.2 p (rm.fresh hp)⟩
      · exact False.elim h
    | _ => exact False.elim h
  | _ => exact False.elim h
/-- two ints -/
def dI (C : Int → Int → Prop) (g : Int → Int → Int) : D → D → MH → DK → Prop
  | .int i, .int j, M, Q => C i j ∧ Q (.int (g i j)) M
  | _, _, _, _ => False
theorem opd_I {f : Value → Value → Sem Value} {C : Int → Int → Prop} {g : Int → Int → Int} (h0 : OpR X f (rI C fun i j => .int (g i j))) : OpD X f (dI C g) := by
  intro x y v u H M Q rx ry rm h
  cases x with
  | int i => cases y with
    | int j => cases RV.int_.1 rx; cases RV.int_.1 ry; exact oW_of h0 ⟨i, j, rfl, rfl, h.1, lift_at (RV.int_.2 rfl) rm h.2⟩
    | _ => exact False.elim h
  | _ => exact False.elim h
def dI0 (g : Int → Int → Int) : D → D → MH → DK → Prop
  | .int i, .int j, M, Q => Q (.int (g i j)) M
  | _, _, _, _ => False
theorem opd_I0 {f : Value → Value → Sem Value} {g : Int → Int → Int} (h0 : OpR X f (rI0 fun i j => .int (g i j))) : OpD X f (dI0 g) := by
  intro x y v u H M Q rx ry rm h
  cases x with
  | int i => cases y with
    | int j => cases RV.int_.1 rx; cases RV.int_.1 ry; exact oW_of h0 ⟨i, j, rfl, rfl, lift_at (RV.int_.2 rfl) rm h⟩
    | _ => exact False.elim h
  | _ => exact False.elim h
def dMul : D → D → MH → DK → Prop
  | .int i, .int j, M, Q => CMul i j ∧ Q (.int (i * j)) M
  | .str z, .int n, M, Q => (0 ≤ n ∧ n ≤ 1048576 ∧ z.length * n.toNat ≤ 1048576) ∧ Q (.str (Txt.mul z n)) M
  | .ref a, .int k, M, Q => match M a with
    | some (.lst xs) => (-1000000 ≤ k ∧ k ≤ 1000000 ∧ xs.length * k.toNat ≤ sizeLine) ∧ ∀ p, M p = none → Q (.ref p) (updM M p (.lst (List.replicate k.toNat xs).flatten))
    | _ => False
  | _, _, _, _ => False
theorem opd_mul : OpD X (binaryOp .Mult) dMul := by
  intro x y v u H M Q rx ry rm h
  cases x with
  | int i => cases y with
    | int j => cases RV.int_.1 rx; cases RV.int_.1 ry; exact oW_of op_mul ⟨i, j, rfl, rfl, h.1, lift_at (RV.int_.2 rfl) rm h.2⟩
    | _ => exact False.elim h
  | str z => cases y with
    | int n => cases RV.str_.1 rx; cases RV.int_.1 ry; exact oW_of op_mul_str ⟨z, n, rfl, rfl, h.1.1, h.1.2.1, h.1.2.2, lift_at (RV.str_.2 rfl) rm h.2⟩
    | _ => exact False.elim h
  | ref a => cases y with
    | int k =>
      cases RV.ref_.1 rx; cases RV.int_.1 ry
      have h : match M a with
        | some (.lst xs) => (-1000000 ≤ k ∧ k ≤ 1000000 ∧ xs.length * k.toNat ≤ sizeLine) ∧ ∀ p, M p = none → Q (.ref p) (updM M p (.lst (List.replicate k.toNat xs).flatten))
        | _ => False := h
      split at h
      · rename_i xs e1
        obtain ⟨vs, q1, rr⟩ := rm a _ e1
        refine oW_of op_rep ⟨a, k, vs, rfl, rfl, q1, by omega, by omega, by rw [← rr.len]; exact h.1.2.2, fun p hp => ?_⟩
        have kk := Kp.new (o := .lst (List.replicate k.toNat vs).flatten) hp
        exact ⟨kk, .ref p, _, RV.ref_.2 rfl, rm.new (m := .lst (List.replicate k.toNat xs).flatten) hp ⟨_, upd_same, RVs.of (pl_rep (RVs.mono kk _ rr).p _)⟩, h.2 p (rm.fresh hp)⟩
      · exact False.elim h
    | _ => exact False.elim h
  | _ => exact False.elim h
def dBin : Operator → D → D → MH → DK → Prop
  | .Add => dAdd
  | .Sub => dI0 fun i j => i - j
  | .Mult => dMul
  | .FloorDiv => dI CDiv fun i j => i / j
  | .Mod => dI (fun _ j => 0 < j) fun i j => i % j
  | .Pow => dI CPow fun i j => i ^ j.toNat
  | .LShift => dI CPow fun i j => i * 2 ^ j.toNat
  | .RShift => dI (fun _ j => 0 ≤ j) fun i j => i / 2 ^ j.toNat
  | .BitAnd => dI0 Builtin.bitAnd
  | .BitOr => dI0 Builtin.bitOr
  | .BitXor => dI0 Builtin.bitXor
  | _ => fun _ _ _ _ => False
theorem opd_bin (op : Operator) : OpD X (binaryOp op) (dBin op) := by
  cases op with
  | Add => exact opd_add
  | Sub => exact opd_I0 op_sub
  | Mult => exact opd_mul
  | FloorDiv => exact opd_I op_fdiv
  | Mod => exact opd_I op_mod
  | Pow => exact opd_I op_pow
  | LShift => exact opd_I op_shl
  | RShift => exact opd_I op_shr
  | BitAnd => exact opd_I0 op_and
  | BitOr => exact opd_I0 op_or
  | BitXor => exact opd_I0 op_xor
  | _ => exact fun _ _ _ _ _ _ _ _ _ _ h => False.elim h

/-! ### comparisons -/
def dIB (g : Int → Int → Bool) : D → D → MH → DK → Prop
  | .int i, .int j, M, Q => Q (.bl (g i j)) M
  | _, _, _, _ => False
theorem opd_IB {f : Value → Value → Sem Value} {g : Int → Int → Bool} (h0 : OpR X f (rI0 fun i j => .bl (g i j))) : OpD X f (dIB g) := by
  intro x y v u H M Q rx ry rm h
  cases x with
  | int i => cases y with
    | int j => cases RV.int_.1 rx; cases RV.int_.1 ry; exact oW_of h0 ⟨i, j, rfl, rfl, lift_at (RV.bl_.2 rfl) rm h⟩
    | _ => exact False.elim h
  | _ => exact False.elim h
/-- x == y: whether, and what is asked -/
def dEq (x y : D) (M : MH) (Q : Bool → Prop) : Prop := match x, y with
  | .ref a, .ref b => match rdL (M a), rdL (M b) with
    | some xs, some ys => (pureDs xs = true ∧ pureDs ys = true ∧ depDs xs ≤ 30) ∧ Q (eqDs xs ys)
    | _, _ => False
  | .ref a, y => match rdL (M a) with
    | some _ => pureD y = true ∧ Q false
    | none => False
  | x, .ref b => match rdL (M b) with
    | some _ => pureD x = true ∧ Q false
    | none => False
  | x, y => (pureD x = true ∧ pureD y = true ∧ depD x ≤ 30) ∧ Q (eqD x y)
theorem rcAt_flat {A : Around} {s : Shared} {d e : D} {v u : V} {v' u' : Value} {K : PySem.W.Frag} (f : flatD d = true) (g : flatD e = true) (rd : RV K H d v) (re : RV K H e u) (r : RelV v v') (r' : RelV u u') :
    SeqAt.RcAt A s v' u' (eqD d e) ∧ SeqAt.RcNeAt A s v' u' (!eqD d e) := by
  cases d with
  | non =>
    cases RV.non_.1 rd; cases r
    cases e with
    | non => cases RV.non_.1 re; cases r'; rw [eqD]; exact ⟨SeqAt.RcAt.none_none, SeqAt.RcNeAt.none_none⟩
    | bl b => cases RV.bl_.1 re; cases r'; rw [eqD] <;> first | exact ⟨SeqAt.RcAt.none_bool b, SeqAt.RcNeAt.none_bool b⟩ | (intros; contradiction)
    | int b => cases RV.int_.1 re; obtain ⟨t, rfl⟩ := r'; rw [eqD] <;> first | exact ⟨SeqAt.RcAt.none_int b t, SeqAt.RcNeAt.none_int b t⟩ | (intros; contradiction)
    | str b => cases RV.str_.1 re; obtain ⟨t, rfl⟩ := r'; rw [eqD] <;> first | exact ⟨SeqAt.RcAt.none_str b t, SeqAt.RcNeAt.none_str b t⟩ | (intros; contradiction)
    | _ => exact absurd (show false = true from g) Bool.false_ne_true
  | bl a =>
    cases RV.bl_.1 rd; cases r
    cases e with
    | non => cases RV.non_.1 re; cases r'; rw [eqD] <;> first | exact ⟨SeqAt.RcAt.bool_none a, SeqAt.RcNeAt.bool_none a⟩ | (intros; contradiction)
    | bl b => cases RV.bl_.1 re; cases r'; rw [eqD]; exact ⟨SeqAt.RcAt.bool_bool a b, SeqAt.RcNeAt.bool_bool a b⟩
    | int b => cases RV.int_.1 re; obtain ⟨t, rfl⟩ := r'; rw [eqD]; exact ⟨SeqAt.RcAt.bool_int a b t, SeqAt.RcNeAt.bool_int a b t⟩
    | str b => cases RV.str_.1 re; obtain ⟨t, rfl⟩ := r'; rw [eqD] <;> first | exact ⟨SeqAt.RcAt.bool_str a b t, SeqAt.RcNeAt.bool_str a b t⟩ | (intros; contradiction)
    | _ => exact absurd (show false = true from g) Bool.false_ne_true
  | int a =>
    cases RV.int_.1 rd; obtain ⟨t', rfl⟩ := r
    cases e with
    | non => cases RV.non_.1 re; cases r'; rw [eqD] <;> first | exact ⟨SeqAt.RcAt.int_none a t', SeqAt.RcNeAt.int_none a t'⟩ | (intros; contradiction)
    | bl b => cases RV.bl_.1 re; cases r'; rw [eqD]; exact ⟨SeqAt.RcAt.int_bool a t' b, SeqAt.RcNeAt.int_bool a t' b⟩
    | int b => cases RV.int_.1 re; obtain ⟨t, rfl⟩ := r'; rw [eqD]; exact ⟨SeqAt.RcAt.int_int a t' b t, SeqAt.RcNeAt.int_int a t' b t⟩
    | str b => cases RV.str_.1 re; obtain ⟨t, rfl⟩ := r'; rw [eqD] <;> first | exact ⟨SeqAt.RcAt.int_str a t' b t, SeqAt.RcNeAt.int_str a t' b t⟩ | (intros; contradiction)
    | _ => exact absurd (show false = true from g) Bool.false_ne_true
  | str a =>
    cases RV.str_.1 rd; obtain ⟨t', rfl⟩ := r
    cases e with
    | non => cases RV.non_.1 re; cases r'; rw [eqD] <;> first | exact ⟨SeqAt.RcAt.str_none a t', SeqAt.RcNeAt.str_none a t'⟩ | (intros; contradiction)
    | bl b => cases RV.bl_.1 re; cases r'; rw [eqD] <;> first | exact ⟨SeqAt.RcAt.str_bool a t' b, SeqAt.RcNeAt.str_bool a t' b⟩ | (intros; contradiction)
    | int b => cases RV.int_.1 re; obtain ⟨t, rfl⟩ := r'; rw [eqD] <;> first | exact ⟨SeqAt.RcAt.str_int a t' b t, SeqAt.RcNeAt.str_int a t' b t⟩ | (intros; contradiction)
    | str b => cases RV.str_.1 re; obtain ⟨t, rfl⟩ := r'; rw [eqD]; exact ⟨SeqAt.RcAt.str_str a t' b t, SeqAt.RcNeAt.str_str a t' b t⟩
    | _ => exact absurd (show false = true from g) Bool.false_ne_true
  | _ => exact absurd (show false = true from f) Bool.false_ne_true
theorem rcAt_sf {A : Around} {s : Shared} {pins : List (Addr × Obj)} {ρ : L2.St} {a : Addr} {its : Array Value} {e : D} {u : V} {u' : Value} (hu : A.units < cLine) (f : flatD e = true) (tp : s.heap.IsTuple a its ∨ s.heap.IsList a its) (re : RV X.K H e u) (r' : RelV u u') :
    (SeqAt.RcAt A s (.ref a) u' false ∧ SeqAt.RcNeAt A s (.ref a) u' true) ∧ (SeqAt.RcAt A s u' (.ref a) false ∧ SeqAt.RcNeAt A s u' (.ref a) true) := by
  rcases tp with tp | tp
  · cases e with
    | non => cases RV.non_.1 re; cases r'; exact ⟨⟨SeqAt.RcAt.tuple_none tp hu, SeqAt.RcNeAt.tuple_none tp hu⟩, ⟨SeqAt.RcAt.none_tuple tp hu, SeqAt.RcNeAt.none_tuple tp hu⟩⟩
    | bl b => cases RV.bl_.1 re; cases r'; exact ⟨⟨SeqAt.RcAt.tuple_bool b tp hu, SeqAt.RcNeAt.tuple_bool b tp hu⟩, ⟨SeqAt.RcAt.bool_tuple b tp hu, SeqAt.RcNeAt.bool_tuple b tp hu⟩⟩
    | int b => cases RV.int_.1 re; obtain ⟨t, rfl⟩ := r'; exact ⟨⟨SeqAt.RcAt.tuple_int b t tp hu, SeqAt.RcNeAt.tuple_int b t tp hu⟩, ⟨SeqAt.RcAt.int_tuple b t tp hu, SeqAt.RcNeAt.int_tuple b t tp hu⟩⟩
    | str b => cases RV.str_.1 re; obtain ⟨t, rfl⟩ := r'; exact ⟨⟨SeqAt.RcAt.tuple_str b t tp hu, SeqAt.RcNeAt.tuple_str b t tp hu⟩, ⟨SeqAt.RcAt.str_tuple b t tp hu, SeqAt.RcNeAt.str_tuple b t tp hu⟩⟩
    | _ => exact absurd (show false = true from f) Bool.false_ne_true
  · cases e with
    | non => cases RV.non_.1 re; cases r'; exact ⟨⟨SeqAt.RcAt.list_none tp hu, SeqAt.RcNeAt.list_none tp hu⟩, ⟨SeqAt.RcAt.none_list tp hu, SeqAt.RcNeAt.none_list tp hu⟩⟩
    | bl b => cases RV.bl_.1 re; cases r'; exact ⟨⟨SeqAt.RcAt.list_bool b tp hu, SeqAt.RcNeAt.list_bool b tp hu⟩, ⟨SeqAt.RcAt.bool_list b tp hu, SeqAt.RcNeAt.bool_list b tp hu⟩⟩
    | int b => cases RV.int_.1 re; obtain ⟨t, rfl⟩ := r'; exact ⟨⟨SeqAt.RcAt.list_int b t tp hu, SeqAt.RcNeAt.list_int b t tp hu⟩, ⟨SeqAt.RcAt.int_list b t tp hu, SeqAt.RcNeAt.int_list b t tp hu⟩⟩
    | str b => cases RV.str_.1 re; obtain ⟨t, rfl⟩ := r'; exact ⟨⟨SeqAt.RcAt.list_str b t tp hu, SeqAt.RcNeAt.list_str b t tp hu⟩, ⟨SeqAt.RcAt.str_list b t tp hu, SeqAt.RcNeAt.str_list b t tp hu⟩⟩
    | _ => exact absurd (show false = true from f) Bool.false_ne_true
/-- both of two answers -/
def Rc2 (A : Around) (s : Shared) (v u : Value) (b : Bool) : Prop := SeqAt.RcAt A s v u b ∧ SeqAt.RcNeAt A s v u (!b)
theorem rc_tups {A : Around} {s : Shared} {pins : List (Addr × Obj)} {ρ : L2.St} {ds es : List D} {vs us : List V} {its its' : List Value} {a b : Addr} (I : Inv X pins ρ H s) (hd : depDs ds ≤ 30) (hu : A.units + 40 < cLine) (pd : pureDs ds = true) (pe : pureDs es = true)
    (rr : RVs X.K H ds vs) (rr' : RVs X.K H es us) (rv : Vals vs its) (rv' : Vals us its') (tp : s.heap.IsTuple a its.toArray) (tp' : s.heap.IsTuple b its'.toArray) : Rc2 A s (.ref a) (.ref b) (eqDs ds es) := by
  have l1 : its.toArray.size = ds.length := by rw [rr.len, rv.length]; simp
  have l2 : its'.toArray.size = es.length := by rw [rr'.len, rv'.length]; simp
  have he : ∀ j (h1 : j < its.toArray.size) (h2 : j < its'.toArray.size), SeqAt.EqAt A.in1 s its.toArray[j] its'.toArray[j] (eqD ((ds[j]?).getD .non) ((es[j]?).getD .non)) := fun j h1 h2 => by
    obtain ⟨d, v, e1, r1, q1⟩ := items_at rr rv h1
    obtain ⟨e, u, e2, r2, q2⟩ := items_at rr' rv' h2
    rw [e1, e2]
    have := depDs_get e1
    exact eqAt_D 30 d e I (by omega) (by rw [units_in1]; omega) (pureDs_get pd e1) (pureDs_get pe e2) r1 r2 q1 q2
  have e : eqDs ds es = ((List.range (min its.toArray.size its'.toArray.size)).all (fun j => eqD ((ds[j]?).getD .non) ((es[j]?).getD .non)) && its.toArray.size == its'.toArray.size) := by rw [eqDs_all, l1, l2]
  rw [e]
  exact ⟨SeqAt.RcAt.tuples tp tp' (by omega) he, SeqAt.RcNeAt.tuples tp tp' (by omega) he⟩
theorem rc_lists {A : Around} {s : Shared} {pins : List (Addr × Obj)} {ρ : L2.St} {ds es : List D} {vs us : List V} {its its' : List Value} {a b : Addr} (I : Inv X pins ρ H s) (hd : depDs ds ≤ 30) (hu : A.units + 40 < cLine) (pd : pureDs ds = true) (pe : pureDs es = true)
    (rr : RVs X.K H ds vs) (rr' : RVs X.K H es us) (rv : Vals vs its) (rv' : Vals us its') (tp : s.heap.IsList a its.toArray) (tp' : s.heap.IsList b its'.toArray) : Rc2 A s (.ref a) (.ref b) (eqDs ds es) := by
  have l1 : its.toArray.size = ds.length := by rw [rr.len, rv.length]; simp
  have l2 : its'.toArray.size = es.length := by rw [rr'.len, rv'.length]; simp
  have he : ∀ j (h1 : j < its.toArray.size) (h2 : j < its'.toArray.size), SeqAt.EqAt A.in1 s its.toArray[j] its'.toArray[j] (eqD ((ds[j]?).getD .non) ((es[j]?).getD .non)) := fun j h1 h2 => by
    obtain ⟨d, v, e1, r1, q1⟩ := items_at rr rv h1
    obtain ⟨e, u, e2, r2, q2⟩ := items_at rr' rv' h2
    rw [e1, e2]
    have := depDs_get e1
    exact eqAt_D 30 d e I (by omega) (by rw [units_in1]; omega) (pureDs_get pd e1) (pureDs_get pe e2) r1 r2 q1 q2
  by_cases hl : ds.length = es.length
  · have e : eqDs ds es = (List.range its.toArray.size).all (fun j => eqD ((ds[j]?).getD .non) ((es[j]?).getD .non)) := by rw [eqDs_all, l1, hl, Nat.min_self]; simp
    rw [e]
    exact ⟨SeqAt.RcAt.lists tp tp' (by omega) (by omega) he, SeqAt.RcNeAt.lists tp tp' (by omega) (by omega) he⟩
  · have e : eqDs ds es = false := by rw [eqDs_all]; simp [hl]
    rw [e]
    have hne : (its.toArray.size != its'.toArray.size) = true := by rw [l1, l2]; simpa using hl
    exact ⟨SeqAt.RcAt.lists_lengths tp tp' hne (by omega), SeqAt.RcNeAt.lists_lengths tp tp' hne (by omega)⟩
theorem RM.list {K : PySem.W.Frag} {M : MH} {a : Addr} {ds : List D} (m : RM K M H) (h : rdL (M a) = some ds) : ∃ vs, SqL K H a vs ∧ RVs K H ds vs := by
  cases e : M a with
  | none => rw [e] at h; cases h
  | some o =>
    rw [e] at h
    cases o with
    | lst xs => cases h; obtain ⟨vs, q, r⟩ := m a _ e; exact ⟨vs, SqL.of q, r⟩
    | rol xs => cases h; obtain ⟨vs, q, r⟩ := m a _ e; exact ⟨vs, .inl q, r⟩
    | _ => cases h
theorem rc_D {s : Shared} {pins : List (Addr × Obj)} {ρ : L2.St} {M : MH} {x y : D} {v u : V} {v' u' : Value} {Q : Bool → Prop} (I : Inv X pins ρ H s) (hu : X.A.units + 40 < cLine) (rx : RV X.K H x v) (ry : RV X.K H y u) (m : RM X.K M H) (r : RelV v v') (r' : RelV u u') (h : dEq x y M Q) :
    ∃ b, Rc2 X.A s v' u' b ∧ Q b := by
  have pp : pureD x = true → pureD y = true → depD x ≤ 30 → Q (eqD x y) → ∃ b, Rc2 X.A s v' u' b ∧ Q b := fun px py hd q => by
    rcases flat_or px with f | ⟨ds, rfl⟩
    · rcases flat_or py with g | ⟨es, rfl⟩
      · exact ⟨_, rcAt_flat f g rx ry r r', q⟩
      · obtain ⟨b, us, rfl, sq, rr⟩ := RV.tup_.1 ry
        obtain ⟨its, rv, tp, _⟩ := I.tuple sq
        cases r'
        rw [(eqD_tf f).2] at q
        exact ⟨false, (rcAt_sf (X := X) (pins := pins) (ρ := ρ) (by omega) f (.inl (show s.heap.IsTuple b its.toArray from tp)) rx r).2, q⟩
    · obtain ⟨a, vs, rfl, sq, rr⟩ := RV.tup_.1 rx
      obtain ⟨its, rv, tp, _⟩ := I.tuple sq
      cases r
      rcases flat_or py with g | ⟨es, rfl⟩
      · rw [(eqD_tf g).1] at q
        exact ⟨false, (rcAt_sf (X := X) (pins := pins) (ρ := ρ) (by omega) g (.inl (show s.heap.IsTuple a its.toArray from tp)) ry r').1, q⟩
      · obtain ⟨b, us, rfl, sq', rr'⟩ := RV.tup_.1 ry
        obtain ⟨its', rv', tp', _⟩ := I.tuple sq'
        cases r'
        rw [pureD] at px py
        rw [depD] at hd
        rw [eqD] at q
        exact ⟨_, rc_tups I (by omega) hu px py rr rr' rv rv' (show s.heap.IsTuple a its.toArray from tp) (show s.heap.IsTuple b its'.toArray from tp'), q⟩
  have lp : ∀ {a : Addr} {w : V} {w' : Value} {y : D} {xs : List D}, rdL (M a) = some xs → RV X.K H y w → RelV w w' → pureD y = true → (Rc2 X.A s (.ref a) w' false ∧ Rc2 X.A s w' (.ref a) false) := fun {a w w' y xs} hl ry r' py => by
    obtain ⟨vs, sq, rr⟩ := m.list hl
    obtain ⟨its, rv, tp, _⟩ := I.list sq
    rcases flat_or py with g | ⟨es, rfl⟩
    · have := rcAt_sf (X := X) (pins := pins) (ρ := ρ) (A := X.A) (by omega) g (.inr tp.isList) ry r'
      exact ⟨this.1, this.2⟩
    · obtain ⟨b, us, rfl, sq', rr'⟩ := RV.tup_.1 ry
      obtain ⟨its', rv', tp', _⟩ := I.tuple sq'
      cases r'
      have tp' : s.heap.IsTuple b its'.toArray := tp'
      exact ⟨⟨SeqAt.RcAt.list_tuple tp.isList tp' (by omega), SeqAt.RcNeAt.list_tuple tp.isList tp' (by omega)⟩, ⟨SeqAt.RcAt.tuple_list tp' tp.isList (by omega), SeqAt.RcNeAt.tuple_list tp' tp.isList (by omega)⟩⟩
  cases x with
  | ref a =>
    cases RV.ref_.1 rx; cases r
    cases y with
    | ref b =>
      cases RV.ref_.1 ry; cases r'
      have h : match rdL (M a), rdL (M b) with
        | some xs, some ys => (pureDs xs = true ∧ pureDs ys = true ∧ depDs xs ≤ 30) ∧ Q (eqDs xs ys)
        | _, _ => False := h
      split at h
      · rename_i xs ys e1 e2
        obtain ⟨vs, sq, rr⟩ := m.list e1
        obtain ⟨us, sq', rr'⟩ := m.list e2
        obtain ⟨its, rv, tp, _⟩ := I.list sq
        obtain ⟨its', rv', tp', _⟩ := I.list sq'
        exact ⟨_, rc_lists I h.1.2.2 hu h.1.1 h.1.2.1 rr rr' rv rv' tp.isList tp'.isList, h.2⟩
      · exact False.elim h
    | _ =>
      simp only [dEq] at h
      split at h
      · rename_i xs e1
        exact ⟨false, (lp e1 ry r' h.1).1, h.2⟩
      · exact False.elim h
  | _ =>
    cases y with
    | ref b =>
      cases RV.ref_.1 ry; cases r'
      simp only [dEq] at h
      split at h
      · rename_i ys e1
        exact ⟨false, (lp e1 rx r h.1).2, h.2⟩
      · exact False.elim h
    | _ => exact pp h.1.1 h.1.2.1 h.1.2.2 h.2
def dEqV : D → D → MH → DK → Prop := fun x y M Q => dEq x y M fun b => Q (.bl b) M
def dNeV : D → D → MH → DK → Prop := fun x y M Q => dEq x y M fun b => Q (.bl (!b)) M
theorem opd_eq (hu : X.A.units + 40 < cLine) : OpD X (compareOp .Eq) dEqV := by
  intro x y v u H M Q rx ry rm h pins s ρ v' u' I r r'
  obtain ⟨b, h1, q⟩ := rc_D I hu rx ry rm r r' h
  exact h1.1 _ _ _ _ ⟨.bl b, H, I, rfl, lift_at (RV.bl_.2 rfl) rm q⟩
theorem opd_ne (hu : X.A.units + 40 < cLine) : OpD X (compareOp .NotEq) dNeV := by
  intro x y v u H M Q rx ry rm h pins s ρ v' u' I r r'
  obtain ⟨b, h1, q⟩ := rc_D I hu rx ry rm r r' h
  exact h1.2 _ _ _ _ ⟨.bl (!b), H, I, rfl, lift_at (RV.bl_.2 rfl) rm q⟩
end
end DD

set_option Elab.async false
set_option maxRecDepth 100000
set_option maxHeartbeats 4000000
namespace DD
open PySem PySem.Spec PyProof.Rows L2
section
variable {X : Cx} {H : Hp} {e a b c : Expr} {es : List Expr} {pos : Pos}
/-! ### in -/
noncomputable def itemEq (K : PySem.W.Frag) (H : Hp) (ds : List D) (x : D) (y : Value) : Bool := @decide (∃ d v, d ∈ ds ∧ RV K H d v ∧ RelV v y ∧ eqD d x = true) (Classical.propDecidable _)
theorem itemEq_of {pins : List (Addr × Obj)} {ρ : L2.St} {s : Shared} {ds : List D} {x d : D} {v : V} {y : Value} (I : Inv X pins ρ H s) (pd : pureDs ds = true) (hd : d ∈ ds) (r : RV X.K H d v) (r' : RelV v y) : itemEq X.K H ds x y = eqD d x := by
  have pg : ∀ d ∈ ds, pureD d = true := fun d h => let ⟨i, hi⟩ := List.getElem?_of_mem h; pureDs_get pd hi
  unfold itemEq
  cases q : eqD d x with
  | true => exact @decide_eq_true _ (Classical.propDecidable _) ⟨d, v, hd, r, r', q⟩
  | false =>
    refine @decide_eq_false _ (Classical.propDecidable _) ?_
    rintro ⟨d', v', hd', r1, r2, q'⟩
    have := L2.RelV.inj r2 r'
    subst this
    have := RV_inj I d' d (pg d' hd') (pg d hd) r1 r
    subst this
    rw [q] at q'; cases q'
theorem any_items {K : PySem.W.Frag} {x : D} {f : Value → Bool} : ∀ {ds : List D} {vs : List V} {its : List Value}, RVs K H ds vs → Vals vs its → (∀ d v u, d ∈ ds → RV K H d v → RelV v u → f u = eqD d x) → its.any f = ds.any fun d => eqD d x
  | [], vs, its, r, rv, _ => by
    rw [RVs] at r; subst r; cases rv; rfl
  | d :: ds, vs, its, r, rv, h => by
    rw [RVs] at r
    obtain ⟨v, vs', rfl, r1, r2⟩ := r
    cases rv with
    | cons q1 q2 => rw [List.any_cons, List.any_cons, h d v _ (List.mem_cons_self) r1 q1, any_items r2 q2 fun d' v' u' hd => h d' v' u' (List.mem_cons_of_mem _ hd)]
theorem mem_items {K : PySem.W.Frag} : ∀ {ds : List D} {vs : List V} {its : List Value} {y : Value}, RVs K H ds vs → Vals vs its → y ∈ its → ∃ d v, d ∈ ds ∧ RV K H d v ∧ RelV v y
  | [], vs, its, y, r, rv, hy => by rw [RVs] at r; subst r; cases rv; cases hy
  | d :: ds, vs, its, y, r, rv, hy => by
    rw [RVs] at r
    obtain ⟨v, vs', rfl, r1, r2⟩ := r
    cases rv with
    | cons q1 q2 =>
      rcases List.mem_cons.mp hy with rfl | hy
      · exact ⟨d, v, List.mem_cons_self, r1, q1⟩
      · obtain ⟨d', v', h1, h2⟩ := mem_items r2 q2 hy
        exact ⟨d', v', List.mem_cons_of_mem _ h1, h2⟩
def keyD : D → Option Key
  | .int i => some (.inl i)
  | .str x => some (.inr x)
  | _ => none
theorem keyD_ok {K : PySem.W.Frag} {d : D} {k : Key} {v : V} (h : keyD d = some k) (r : RV K H d v) : v = kV k := by
  cases d with
  | int i => cases h; exact RV.int_.1 r
  | str i => cases h; exact RV.str_.1 r
  | _ => cases h
def valD (kvs : List (Key × D)) (k : Key) : Option D := (kvs.find? fun kv => decide (kv.1 = k)).map (·.2)
theorem val_some {k : Key} : ∀ {kvs : List (Key × D)} {kws : List (Key × V)}, kws.map (·.1) = kvs.map (·.1) → (valV kws k).isSome = (valD kvs k).isSome
  | [], [], _ => rfl
  | [], _ :: _, e => by cases e
  | _ :: _, [], e => by cases e
  | (k1, d1) :: kvs, (k2, v2) :: kws, e => by
    simp only [List.map_cons, List.cons.injEq] at e
    obtain ⟨e1, e2⟩ := e
    subst e1
    unfold valV valD
    rw [List.find?_cons, List.find?_cons]
    by_cases q : k2 = k
    · simp only [decide_eq_true q, Option.map_some, Option.isSome_some]
    · simp only [decide_eq_false q]
      exact val_some e2
def rdD : Option MO → Option (List (Key × D))
  | some (.dic kvs) => some kvs
  | some (.rod kvs) => some kvs
  | _ => none
theorem RM.dict {K : PySem.W.Frag} {H : Hp} {M : MH} {a : Addr} {kvs : List (Key × D)} (m : RM K M H) (h : rdD (M a) = some kvs) : ∃ kws : List (Key × V), Rd H a (.dK kws) ∧ kws.map (·.1) = kvs.map (·.1) ∧ RVs K H (kvs.map (·.2)) (kws.map (·.2)) := by
  cases e : M a with
  | none => rw [e] at h; cases h
  | some o =>
    rw [e] at h
    cases o with
    | dic xs => cases h; obtain ⟨kws, q, r⟩ := m a _ e; exact ⟨kws, .inl q, r⟩
    | rod xs => cases h; obtain ⟨u, kws, q, r⟩ := m a _ e; exact ⟨kws, .inr ⟨u, q⟩, r⟩
    | _ => cases h
def inD (x : D) (ds : List D) : Bool := ds.any fun d => eqD d x
def optD2 {α : Type} (o : Option α) (Q : α → Prop) : Prop := match o with
  | some x => Q x
  | none => False
theorem optD2_ex {α : Type} {o : Option α} {Q : α → Prop} (h : optD2 o Q) : ∃ x, o = some x ∧ Q x := by
  cases o with
  | none => exact False.elim h
  | some x => exact ⟨x, rfl, h⟩
/-- x in y -/
def dInP (x y : D) (M : MH) (Q : Bool → Prop) : Prop := match y with
  | .tup ds => (pureD x = true ∧ pureDs ds = true ∧ depDs ds ≤ 30) ∧ Q (inD x ds)
  | .ref a => match rdL (M a) with
    | some ds => (pureD x = true ∧ pureDs ds = true ∧ depDs ds ≤ 30) ∧ Q (inD x ds)
    | none => optD2 (rdD (M a)) fun kvs => optD2 (keyD x) fun k => Q (valD kvs k).isSome
  | .str j => match x with
    | .str i => Q (!(Builtin.Str.occurrences j i 0 j.length 1).isEmpty)
    | _ => False
  | _ => False
theorem in_D {s : Shared} {pins : List (Addr × Obj)} {ρ : L2.St} {M : MH} {x y : D} {v u : V} {v' u' : Value} {Q : Bool → Prop} (I : Inv X pins ρ H s) (hu : X.A.units + 40 < cLine) (rx : RV X.K H x v) (ry : RV X.K H y u) (m : RM X.K M H) (r : RelV v v') (r' : RelV u u') (h : dInP x y M Q) :
    ∃ k, Q k ∧ (∀ (Q' : Value → Shared → Prop), (∀ s', Inv X pins ρ H s' → Q' (.bool k) s') → wpAny (model X.prog X.w) X.A (compareOp .In v' u') Q' X.xe s) ∧ (∀ (Q' : Value → Shared → Prop), (∀ s', Inv X pins ρ H s' → Q' (.bool (!k)) s') → wpAny (model X.prog X.w) X.A (compareOp .NotIn v' u') Q' X.xe s) := by
  have key : ∀ {ds : List D} {vs : List V} {its : List Value}, pureD x = true → pureDs ds = true → depDs ds ≤ 30 → RVs X.K H ds vs → Vals vs its →
      (∀ y, y ∈ its.toArray → SeqAt.EqAt X.A.in1 s y v' (itemEq X.K H ds x y)) ∧ its.toArray.any (itemEq X.K H ds x) = inD x ds := fun {ds vs its} px pd hd rr rv => by
    refine ⟨fun y hy => ?_, ?_⟩
    · obtain ⟨d, w', h1, h2, h3⟩ := mem_items rr rv (by simpa using hy)
      rw [itemEq_of I pd h1 h2 h3]
      obtain ⟨i, hi⟩ := List.getElem?_of_mem h1
      have := depDs_get hi
      exact eqAt_D 30 d x I (by omega) (by rw [units_in1]; omega) (pureDs_get pd hi) px h2 rx h3 r
    · rw [List.any_toArray]
      exact any_items rr rv fun d w' u h1 h2 h3 => itemEq_of I pd h1 h2 h3
  cases y with
  | tup ds =>
    obtain ⟨b, us, rfl, sq, rr⟩ := RV.tup_.1 ry
    obtain ⟨its, rv, tp, _⟩ := I.tuple sq
    cases r'
    obtain ⟨k1, k2⟩ := key h.1.1 h.1.2.1 h.1.2.2 rr rv
    have tp : s.heap.IsTuple b its.toArray := tp
    exact ⟨_, h.2, fun Q' q => SeqAt.in_tupleAt _ tp k1 (by rw [k2]; exact q s I), fun Q' q => SeqAt.notIn_tupleAt _ tp k1 (by rw [k2]; exact q s I)⟩
  | ref b =>
    cases RV.ref_.1 ry; cases r'
    have h : match rdL (M b) with
      | some ds => (pureD x = true ∧ pureDs ds = true ∧ depDs ds ≤ 30) ∧ Q (inD x ds)
      | none => optD2 (rdD (M b)) fun kvs => optD2 (keyD x) fun k => Q (valD kvs k).isSome := h
    split at h
    · rename_i ds e1
      obtain ⟨vs, sq, rr⟩ := m.list e1
      obtain ⟨its, rv, tp, _⟩ := I.list sq
      obtain ⟨k1, k2⟩ := key h.1.1 h.1.2.1 h.1.2.2 rr rv
      exact ⟨_, h.2, fun Q' q => SeqAt.in_listAt _ tp.isList k1 (by rw [k2]; exact q s I), fun Q' q => SeqAt.notIn_listAt _ tp.isList k1 (by rw [k2]; exact q s I)⟩
    · obtain ⟨kvs, e1, h⟩ := optD2_ex h
      obtain ⟨k, e2, h⟩ := optD2_ex h
      obtain ⟨kws, e3, e4, _⟩ := m.dict e1
      have := keyD_ok e2 rx
      subst this
      have g : DGet H b (kV k) (valV kws k) := .inl ⟨kws, k, e3, rfl, rfl⟩
      refine ⟨_, h, fun Q' q => d_in (by omega) I g r fun s' I' => ?_, fun Q' q => d_notIn (by omega) I g r fun s' I' => ?_⟩
      · rw [val_some e4]; exact q s' I'
      · rw [val_some e4]; exact q s' I'
  | str j =>
    cases RV.str_.1 ry
    cases x with
    | str i =>
      cases RV.str_.1 rx
      obtain ⟨t, rfl⟩ := r
      obtain ⟨t', rfl⟩ := r'
      exact ⟨_, h, fun Q' q => P.in_str (q s I), fun Q' q => notIn_str (q s I)⟩
    | _ => exact False.elim h
  | _ => exact False.elim h
def dInV : R2d := fun x y M Q => dInP x y M fun b => Q (.bl b) M
def dNotInV : R2d := fun x y M Q => dInP x y M fun b => Q (.bl (!b)) M
theorem opd_in (hu : X.A.units + 40 < cLine) : OpD X (compareOp .In) dInV := by
  intro x y v u H M Q rx ry rm h pins s ρ v' u' I r r'
  obtain ⟨b, q, h1, _⟩ := in_D I hu rx ry rm r r' h
  exact h1 _ fun s' I' => ⟨.bl b, H, I', rfl, lift_at (RV.bl_.2 rfl) rm q⟩
theorem opd_notin (hu : X.A.units + 40 < cLine) : OpD X (compareOp .NotIn) dNotInV := by
  intro x y v u H M Q rx ry rm h pins s ρ v' u' I r r'
  obtain ⟨b, q, _, h1⟩ := in_D I hu rx ry rm r r' h
  exact h1 _ fun s' I' => ⟨.bl (!b), H, I', rfl, lift_at (RV.bl_.2 rfl) rm q⟩
/-! ### is None -/
def isNon : D → Bool
  | .non => true
  | _ => false
def dIsV : R2d := fun x y M Q => isNon y = true ∧ Q (.bl (isNon x)) M
def dIsNotV : R2d := fun x y M Q => isNon y = true ∧ Q (.bl (!isNon x)) M
theorem isNon_rv {K : PySem.W.Frag} {x : D} {v : V} (r : RV K H x v) : decide (v = .non) = isNon x := by
  cases x with
  | non => cases RV.non_.1 r; rfl
  | tup ds => obtain ⟨a, xs, rfl, _⟩ := RV.tup_.1 r; rfl
  | bl _ => cases RV.bl_.1 r; rfl
  | int _ => cases RV.int_.1 r; rfl
  | str _ => cases RV.str_.1 r; rfl
  | ref _ => cases RV.ref_.1 r; rfl
  | ty _ => cases RV.ty_.1 r; rfl
theorem opd_is : OpD X (compareOp .Is) dIsV := by
  intro x y v u H M Q rx ry rm h
  have : u = .non := by have := isNon_rv ry; rw [h.1] at this; exact of_decide_eq_true this
  exact oW_of op_isN ⟨this, by rw [isNon_rv rx]; exact lift_at (RV.bl_.2 rfl) rm h.2⟩
theorem opd_isnot : OpD X (compareOp .IsNot) dIsNotV := by
  intro x y v u H M Q rx ry rm h
  have : u = .non := by have := isNon_rv ry; rw [h.1] at this; exact of_decide_eq_true this
  exact oW_of op_notN ⟨this, by rw [isNon_rv rx]; exact lift_at (RV.bl_.2 rfl) rm h.2⟩
def dCmp : CmpOp → R2d
  | .Eq => dEqV
  | .NotEq => dNeV
  | .Lt => dIB fun i j => decide (i < j)
  | .LtE => dIB fun i j => decide (i ≤ j)
  | .Gt => dIB fun i j => decide (j < i)
  | .GtE => dIB fun i j => decide (j ≤ i)
  | .Is => dIsV
  | .IsNot => dIsNotV
  | .In => dInV
  | .NotIn => dNotInV
theorem opd_cmp (hu : X.A.units + 40 < cLine) (op : CmpOp) : OpD X (compareOp op) (dCmp op) := by
  cases op with
  | Eq => exact opd_eq hu
  | NotEq => exact opd_ne hu
  | Lt => exact opd_IB op_lt
  | LtE => exact opd_IB op_le
  | Gt => exact opd_IB op_gt
  | GtE => exact opd_IB op_ge
  | Is => exact opd_is
  | IsNot => exact opd_isnot
  | In => exact opd_in hu
  | NotIn => exact opd_notin hu
/-! ### an item -/
def xW (X : Cx) : R2 := fun x y H Q => ∀ value slice pins s ρ v u, Inv X pins ρ H s → RelV x v → RelV y u → subscripted slice false v u = operate [v, u] (getItem v u) → wpAny (model X.prog X.w) X.A (subscriptTail value slice v u) (EP X pins ρ Q) X.xe s
theorem ix_W : IxR X (xW X) := fun value slice pins s σ _ _ _ v u _ I rx ry h hs => h value slice pins s σ v u I rx ry hs
theorem xW_of {r : R2} {x y : V} {Q : VK} (h : IxR X r) (q : r x y H Q) : xW X x y H Q := fun value slice pins s ρ v u I rx ry hs => h value slice pins s ρ H x y v u Q I rx ry q hs
theorem xW_mono {x y : V} {Q Q' : VK} (h : xW X x y H Q) (g : ∀ v H', Q v H' → Q' v H') : xW X x y H Q' := fun value slice pins s ρ v u I rx ry hs => thn (h value slice pins s ρ v u I rx ry hs) fun _ _ ⟨v, H', I', r, q⟩ => ⟨v, H', I', r, g v H' q⟩
theorem ix_dict (hu : X.A.units + 1 < cLine) : IxR X (fun x y H Q => ∃ a v, x = .ref a ∧ DGet H a y (some v) ∧ Q v H) := by
  intro value slice pins s σ H x y v u Q I rx ry h hs
  obtain ⟨a, z, rfl, g, q⟩ := h
  cases rx
  exact tail_any (dict_typeIs I g) PySem.F.slot_dict_getitem.lookup (d_getItem hu I g ry fun w' s3 I3 rw' => ⟨z, H, I3, rw', q⟩) hs
theorem valD_ok {K : PySem.W.Frag} : ∀ {kvs : List (Key × D)} {kws : List (Key × V)} {k : Key} {d : D}, kws.map (·.1) = kvs.map (·.1) → RVs K H (kvs.map (·.2)) (kws.map (·.2)) → valD kvs k = some d → ∃ v, valV kws k = some v ∧ RV K H d v
  | [], _, _, _, _, _, h => by cases h
  | (k', d') :: kvs, [], _, _, e, _, _ => by cases e
  | (k', d') :: kvs, (k2, v2) :: kws, k, d, e, r, h => by
    simp only [List.map_cons, List.cons.injEq] at e
    obtain ⟨e1, e2⟩ := e
    subst e1
    simp only [List.map_cons] at r
    rw [RVs] at r
    obtain ⟨v, vs, z, r1, r2⟩ := r
    cases z
    unfold valD at h
    unfold valV
    rw [List.find?_cons] at h ⊢
    by_cases q : k2 = k
    · simp only [decide_eq_true q, Option.map_some] at h ⊢
      cases h
      exact ⟨v2, rfl, r1⟩
    · simp only [decide_eq_false q] at h ⊢
      exact valD_ok e2 r2 h
def optD {α : Type} (o : Option α) (Q : α → Prop) : Prop := match o with
  | some x => Q x
  | none => False
theorem optD_ex {α : Type} {o : Option α} {Q : α → Prop} (h : optD o Q) : ∃ x, o = some x ∧ Q x := by
  cases o with
  | none => exact False.elim h
  | some x => exact ⟨x, rfl, h⟩
def dIx : R2d := fun x y M Q => match x, y with
  | .tup ds, .int i => optD (atI ds i) fun d => Q d M
  | .str z, .int i => z.length ≤ sizeLine ∧ optD (atI z.cps.toList i) fun c => Q (.str ⟨#[c]⟩) M
  | .ref a, .int i => match M a with
    | some (.lst ds) => optD (atI ds i) fun d => Q d M
    | some (.rol ds) => optD (atI ds i) fun d => Q d M
    | some (.dic kvs) => optD (valD kvs (.inl i)) fun d => Q d M
    | some (.rod kvs) => optD (valD kvs (.inl i)) fun d => Q d M
    | _ => False
  | .ref a, .str k => match M a with
    | some (.dic kvs) => optD (valD kvs (.inr k)) fun d => Q d M
    | some (.rod kvs) => optD (valD kvs (.inr k)) fun d => Q d M
    | _ => False
  | _, _ => False
theorem atI_rv {K : PySem.W.Frag} {ds : List D} {vs : List V} {i : Int} {d : D} (rr : RVs K H ds vs) (h : atI ds i = some d) : ∃ v, atI vs i = some v ∧ RV K H d v := by
  unfold atI at h ⊢
  rw [← rr.len]
  cases q : ixN ds.length i with
  | none => rw [q] at h; cases h
  | some j =>
    rw [q] at h
    obtain ⟨v, hv, r⟩ := pl_get rr.p (show ds[j]? = some d from h)
    exact ⟨v, hv, r⟩
theorem ixd (hu : X.A.units + 40 < cLine) {x y : D} {v u : V} {M : MH} {Q : DK} (rx : RV X.K H x v) (ry : RV X.K H y u) (rm : RM X.K M H) (h : dIx x y M Q) : xW X v u H (lift X.K H Q) := by
  cases x with
  | tup ds => cases y with
    | int i =>
      obtain ⟨d, e1, q⟩ := optD_ex h
      obtain ⟨a, vs, rfl, sq, rr⟩ := RV.tup_.1 rx
      cases RV.int_.1 ry
      obtain ⟨w', e2, r⟩ := atI_rv rr e1
      exact xW_of ix_tup ⟨a, vs, i, w', rfl, rfl, sq, e2, lift_at r rm q⟩
    | _ => exact False.elim h
  | str z => cases y with
    | int i =>
      obtain ⟨h1, h⟩ := h
      obtain ⟨c, e1, q⟩ := optD_ex h
      cases RV.str_.1 rx
      cases RV.int_.1 ry
      exact xW_of ix_str ⟨z, i, c, rfl, rfl, h1, e1, lift_at (RV.str_.2 rfl) rm q⟩
    | _ => exact False.elim h
  | ref a =>
    cases RV.ref_.1 rx
    cases y with
    | int i =>
      cases RV.int_.1 ry
      have h : match M a with
        | some (.lst ds) => optD (atI ds i) fun d => Q d M
        | some (.rol ds) => optD (atI ds i) fun d => Q d M
        | some (.dic kvs) => optD (valD kvs (.inl i)) fun d => Q d M
        | some (.rod kvs) => optD (valD kvs (.inl i)) fun d => Q d M
        | _ => False := h
      split at h
      · rename_i ds e0
        obtain ⟨d, e1, q⟩ := optD_ex h
        obtain ⟨vs, e2, rr⟩ := rm a _ e0
        obtain ⟨w', e3, r⟩ := atI_rv rr e1
        exact xW_of ix_list ⟨a, vs, i, w', rfl, rfl, SqL.of e2, e3, lift_at r rm q⟩
      · rename_i ds e0
        obtain ⟨d, e1, q⟩ := optD_ex h
        obtain ⟨vs, e2, rr⟩ := rm a _ e0
        obtain ⟨w', e3, r⟩ := atI_rv rr e1
        exact xW_of ix_list ⟨a, vs, i, w', rfl, rfl, .inl e2, e3, lift_at r rm q⟩
      · rename_i kvs e0
        obtain ⟨d, e1, q⟩ := optD_ex h
        obtain ⟨kws, e2, e3, rr⟩ := rm a _ e0
        obtain ⟨w', e4, r⟩ := valD_ok e3 rr e1
        exact xW_of (ix_dict (by omega)) ⟨a, w', rfl, by rw [← e4]; exact DGet.k (k := .inl i) e2, lift_at r rm q⟩
      · rename_i kvs e0
        obtain ⟨d, e1, q⟩ := optD_ex h
        obtain ⟨u0, kws, e2, e3, rr⟩ := rm a _ e0
        obtain ⟨w', e4, r⟩ := valD_ok e3 rr e1
        exact xW_of (ix_dict (by omega)) ⟨a, w', rfl, by rw [← e4]; exact .inl ⟨kws, .inl i, .inr ⟨u0, e2⟩, rfl, rfl⟩, lift_at r rm q⟩
      · exact False.elim h
    | str k =>
      cases RV.str_.1 ry
      have h : match M a with
        | some (.dic kvs) => optD (valD kvs (.inr k)) fun d => Q d M
        | some (.rod kvs) => optD (valD kvs (.inr k)) fun d => Q d M
        | _ => False := h
      split at h
      · rename_i kvs e0
        obtain ⟨d, e1, q⟩ := optD_ex h
        obtain ⟨kws, e2, e3, rr⟩ := rm a _ e0
        obtain ⟨w', e4, r⟩ := valD_ok e3 rr e1
        exact xW_of (ix_dict (by omega)) ⟨a, w', rfl, by rw [← e4]; exact DGet.k (k := .inr k) e2, lift_at r rm q⟩
      · rename_i kvs e0
        obtain ⟨d, e1, q⟩ := optD_ex h
        obtain ⟨u0, kws, e2, e3, rr⟩ := rm a _ e0
        obtain ⟨w', e4, r⟩ := valD_ok e3 rr e1
        exact xW_of (ix_dict (by omega)) ⟨a, w', rfl, by rw [← e4]; exact .inl ⟨kws, .inr k, .inr ⟨u0, e2⟩, rfl, rfl⟩, lift_at r rm q⟩
      · exact False.elim h
    | _ => exact False.elim h
  | _ => exact False.elim h
def notSlice : Expr → Bool
  | .Slice _ _ _ _ => false
  | _ => true
theorem plainIx (h : notSlice b = true) : PlainIx b := by
  intro o i
  cases b <;> first | rfl | (exact absurd (show false = true from h) Bool.false_ne_true)
theorem ped_ix (hu : X.A.units + 40 < cLine) {ta tb : WE} (ha : PEd X a ta) (hb : PEd X b tb) (hs : notSlice b = true) : PEd X (.Subscript a b pos) (wOp dIx ta tb) := by
  intro σ M ρ H Q rs rm h
  refine tW_of (pe_ix ix_W (pe_W a) (pe_W b) (plainIx hs)) ?_
  show tW X a ρ H _
  refine tW_mono (two ha hb rs rm h) fun v H1 q1 => ?_
  show tW X b ρ H1 _
  refine tW_mono q1 fun u H2 ⟨k, x, y, M2, r1, r2, m2, q⟩ => ?_
  exact xW_mono (ixd hu r1 r2 m2 q) fun _ _ => lift_up k
end
end DD

set_option Elab.async false
set_option maxRecDepth 100000
set_option maxHeartbeats 4000000
namespace DD
open PySem PySem.Spec PyProof.Rows L2
section
variable {X : Cx} {H : Hp} {e a b c o : Expr} {es : List Expr} {pos : Pos}
/-! ### slices -/
theorem sl_str : SlR X (fun x lo hi H Q => ∃ z, x = .str z ∧ z.length ≤ sizeLine ∧ Q (.str (Txt.slice z lo hi)) H) := by
  intro pins s σ H x v vl vu lo hi sl Q I rx hs pl pu h
  obtain ⟨z, rfl, hz, q⟩ := h
  obtain ⟨t, rfl⟩ := rx
  obtain ⟨ob, h1, h2, h3⟩ := hs
  refine ⟨"str", _, F.slot_str_getitem.lookup, typeIs_str _ _ _, ?_⟩
  cases pl with
  | none => cases pu with
    | none => exact wpAny_getItem_str_slice (l := none) (u := none) (st := none) ⟨ob, h1, h2, h3⟩ rfl (post_val_or_str ⟨Nat.le_trans (Txt.slice_le z _ _) hz, fun t' k => ⟨.str _, H, I.tok _, ⟨t', rfl⟩, q⟩⟩)
    | int j u => exact wpAny_getItem_str_slice (l := none) (u := some (j, u)) (st := none) ⟨ob, h1, h2, h3⟩ rfl (post_val_or_str ⟨Nat.le_trans (Txt.slice_le z _ _) hz, fun t' k => ⟨.str _, H, I.tok _, ⟨t', rfl⟩, q⟩⟩)
  | int i t0 => cases pu with
    | none => exact wpAny_getItem_str_slice (l := some (i, t0)) (u := none) (st := none) ⟨ob, h1, h2, h3⟩ rfl (post_val_or_str ⟨Nat.le_trans (Txt.slice_le z _ _) hz, fun t' k => ⟨.str _, H, I.tok _, ⟨t', rfl⟩, q⟩⟩)
    | int j u => exact wpAny_getItem_str_slice (l := some (i, t0)) (u := some (j, u)) (st := none) ⟨ob, h1, h2, h3⟩ rfl (post_val_or_str ⟨Nat.le_trans (Txt.slice_le z _ _) hz, fun t' k => ⟨.str _, H, I.tok _, ⟨t', rfl⟩, q⟩⟩)
def slW (X : Cx) : V → Option Int → Option Int → Hp → VK → Prop := fun x lo hi H Q => ∀ pins s ρ v vl vu sl, Inv X pins ρ H s → RelV x v → s.heap.IsSliceOf sl vl vu .none → IsPart vl lo → IsPart vu hi →
  ∃ T id, typeLookup (.type T) "__getitem__" = pure (some (.builtin id)) ∧ s.TypeIs v T ∧ wpAny (model X.prog X.w) X.A (getItem v (.ref sl)) (EP X pins ρ Q) X.xe s
theorem sl_W : SlR X (slW X) := fun pins s σ _ _ v vl vu _ _ sl _ I rx hs pl pu h => h pins s σ v vl vu sl I rx hs pl pu
theorem slW_of {r : V → Option Int → Option Int → Hp → VK → Prop} {x : V} {lo hi : Option Int} {Q : VK} (h : SlR X r) (q : r x lo hi H Q) : slW X x lo hi H Q := fun pins s ρ v vl vu sl I rx hs pl pu => h pins s ρ H x v vl vu lo hi sl Q I rx hs pl pu q
theorem slW_mono {x : V} {lo hi : Option Int} {Q Q' : VK} (h : slW X x lo hi H Q) (g : ∀ v H', Q v H' → Q' v H') : slW X x lo hi H Q' := fun pins s ρ v vl vu sl I rx hs pl pu =>
  let ⟨T, id, h1, h2, h3⟩ := h pins s ρ v vl vu sl I rx hs pl pu
  ⟨T, id, h1, h2, thn h3 fun _ _ ⟨v, H', I', r, q⟩ => ⟨v, H', I', r, g v H' q⟩⟩
def cutL {α : Type} (xs : List α) (lo hi : Option Int) : List α := (xs.drop (HT.sIx xs.length 0 lo)).take (HT.sIx xs.length xs.length hi - HT.sIx xs.length 0 lo)
theorem cut_rv {K : PySem.W.Frag} {ds : List D} {vs : List V} (r : RVs K H ds vs) (lo hi : Option Int) : RVs K H (cutL ds lo hi) (cutV vs lo hi) := by
  unfold cutL cutV
  rw [← r.len]
  exact RVs.of (pl_take _ (pl_drop _ r.p))
def dSl (x : D) (lo hi : Option Int) (M : MH) (Q : DK) : Prop := match x with
  | .tup ds => ¬ (HT.sIx ds.length 0 lo = 0 ∧ HT.sIx ds.length ds.length hi = ds.length) ∧ Q (.tup (cutL ds lo hi)) M
  | .str z => z.length ≤ sizeLine ∧ Q (.str (Txt.slice z lo hi)) M
  | .ref a => optD (rdL (M a)) fun ds => ∀ p, M p = none → Q (.ref p) (updM M p (.lst (cutL ds lo hi)))
  | _ => False
theorem sld {x : D} {v : V} {lo hi : Option Int} {M : MH} {Q : DK} (rx : RV X.K H x v) (rm : RM X.K M H) (h : dSl x lo hi M Q) : slW X v lo hi H (lift X.K H Q) := by
  cases x with
  | tup ds =>
    obtain ⟨a, vs, rfl, sq, rr⟩ := RV.tup_.1 rx
    refine slW_of sl_tup ⟨a, vs, rfl, sq, by rw [← rr.len]; exact h.1, fun p hp => ?_⟩
    have k := Kp.new (o := .tup (cutV vs lo hi)) hp
    exact ⟨k, .tup (cutL ds lo hi), M, RV.tup_.2 ⟨p, _, rfl, SqT.of upd_same, RVs.mono k _ (cut_rv rr lo hi)⟩, rm.newH hp, h.2⟩
  | str z => cases RV.str_.1 rx; exact slW_of sl_str ⟨z, rfl, h.1, lift_at (RV.str_.2 rfl) rm h.2⟩
  | ref a =>
    cases RV.ref_.1 rx
    obtain ⟨ds, e1, q⟩ := optD_ex h
    obtain ⟨vs, sq, rr⟩ := rm.list e1
    refine slW_of sl_list ⟨a, vs, rfl, sq, fun p hp => ?_⟩
    have k := Kp.new (o := .lst (cutV vs lo hi)) hp
    exact ⟨k, .ref p, _, RV.ref_.2 rfl, rm.new (m := .lst (cutL ds lo hi)) hp ⟨_, upd_same, RVs.mono k _ (cut_rv rr lo hi)⟩, q p (rm.fresh hp)⟩
  | _ => exact False.elim h
def intD (x : D) (Q : Int → Prop) : Prop := match x with
  | .int i => Q i
  | _ => False
theorem intD_ex {x : D} {Q : Int → Prop} (h : intD x Q) : ∃ i, x = .int i ∧ Q i := by
  cases x with
  | int i => exact ⟨i, rfl, h⟩
  | _ => exact False.elim h
abbrev WO := DS → MH → (Option Int → MH → Prop) → Prop
def oWp (X : Cx) (e : Option Expr) : TO := fun ρ H Q => ∀ pins s, Inv X pins ρ H s → wpAny (model X.prog X.w) X.A (evalPart e X.env) (fun u s' => ∃ o H', Inv X pins ρ H' s' ∧ IsPart u o ∧ Q o H') X.xe s
theorem po_W (e : Option Expr) : PO X e (oWp X e) := fun pins s _ _ _ I h => h pins s I
def POd (X : Cx) (e : Option Expr) (t : WO) : Prop := ∀ σ M ρ H Q, RS X.K H σ ρ → RM X.K M H → t σ M Q → oWp X e ρ H fun o H' => Kp H H' ∧ ∃ M', RM X.K M' H' ∧ Q o M'
theorem pod_none : POd X none (fun _ M Q => Q none M) := fun σ M ρ H Q rs rm q pins s I => po_none pins s ρ H _ I ⟨Kp.refl H, M, rm, q⟩
theorem pod_some {t : WE} (h : PEd X e t) : POd X (some e) (fun σ M Q => t σ M fun x M1 => intD x fun i => Q (some i) M1) := fun σ M ρ H Q rs rm q pins s I =>
  po_some (pe_W e) pins s ρ H _ I (tW_mono (h σ M ρ H _ rs rm q) fun v H1 ⟨k1, x, M1, r1, m1, q1⟩ => by
    obtain ⟨i, rfl, q1⟩ := intD_ex q1
    exact ⟨i, RV.int_.1 r1, k1, M1, m1, q1⟩)
theorem oWp_mono {e : Option Expr} {ρ : L2.St} {Q Q' : Option Int → Hp → Prop} (h : oWp X e ρ H Q) (f : ∀ o H', Q o H' → Q' o H') : oWp X e ρ H Q' := fun pins s I => thn (h pins s I) fun _ _ ⟨o, H', I', r, q⟩ => ⟨o, H', I', r, f o H' q⟩
def wSl (ta : WE) (tl th : WO) : WE := fun σ M Q => ta σ M fun x M1 => tl σ M1 fun l M2 => th σ M2 fun u M3 => dSl x l u M3 Q
theorem ped_sl {ta : WE} {tl th : WO} {lo hi : Option Expr} {p2 : Pos} (ha : PEd X a ta) (hl : POd X lo tl) (hh : POd X hi th) : PEd X (.Subscript a (.Slice lo hi none p2) pos) (wSl ta tl th) := by
  intro σ M ρ H Q rs rm h
  refine tW_of (pe_slice sl_W (pe_W a) (po_W lo) (po_W hi)) ?_
  show tW X a ρ H _
  refine tW_mono (ha σ M ρ H _ rs rm h) fun v H1 ⟨k1, x, M1, r1, m1, q1⟩ => ?_
  show oWp X lo ρ H1 _
  refine oWp_mono (hl σ M1 ρ H1 _ (rs.mono k1) m1 q1) fun l H2 ⟨k2, M2, m2, q2⟩ => ?_
  show oWp X hi ρ H2 _
  refine oWp_mono (hh σ M2 ρ H2 _ (rs.mono (k1.trans k2)) m2 q2) fun u H3 ⟨k3, M3, m3, q3⟩ => ?_
  exact slW_mono (sld (RV.mono (k2.trans k3) x r1) m3 q3) fun _ _ => lift_up (k1.trans (k2.trans k3))

/-! ### calls of Python's own -/
def cW (X : Cx) (f : Value) : List V → Hp → VK → Prop := fun vs H Q => ∀ pins s ρ us, Inv X pins ρ H s → Vals vs us → wpAny (model X.prog X.w) X.A (call f us) (EP X pins ρ Q) X.xe s
theorem c_W (f : Value) : CallR X f (cW X f) := fun pins s σ _ _ us _ I r h => h pins s σ us I r
theorem cW_of {f : Value} {r : List V → Hp → VK → Prop} {vs : List V} {Q : VK} (h : CallR X f r) (q : r vs H Q) : cW X f vs H Q := fun pins s ρ us I rv => h pins s ρ H vs us Q I rv q
theorem cW_mono {f : Value} {vs : List V} {Q Q' : VK} (h : cW X f vs H Q) (g : ∀ v H', Q v H' → Q' v H') : cW X f vs H Q' := fun pins s ρ us I rv => thn (h pins s ρ us I rv) fun _ _ ⟨v, H', I', r, q⟩ => ⟨v, H', I', r, g v H' q⟩
def CallD (X : Cx) (f : Value) (r : SpD) : Prop := ∀ ds vs H M Q, RVs X.K H ds vs → RM X.K M H → r ds M Q → cW X f vs H (lift X.K H Q)
theorem ped_callB {x : Str} {id : String} {r : SpD} {t : WA} {p : Pos} (hc : CallD X (.builtin id) r) (hg : Gl X x) (hm : X.mg x = none) (hv : bootBuiltins x = some (.builtin id)) (hn : x ≠ "__name__") (hdb : (x == ("__debug__" : Str)) = false) (hs : notStar e = true) (hss : es.all notStar = true)
    (ha : PAd X (e :: es) t) : PEd X (.Call (.Name x p) (e :: es) [] pos) (wCall r t) := by
  intro σ M ρ H Q rs rm h
  refine tW_of (pe_callB (c_W _) hg hm hv (pa_W (e :: es)) hn hdb (star_cons hs) (star_none hss)) ?_
  show tWA X (e :: es) ρ H _
  exact tWA_mono (ha σ M ρ H _ rs rm h) fun vs H1 ⟨k1, ds, M1, r1, _, m1, q1⟩ => cW_mono (hc ds vs H1 M1 Q r1 m1 q1) fun _ _ => lift_up k1
theorem ped_callTy {x : Str} {id : String} {r : SpD} {t : WA} {p : Pos} (hc : CallD X (.type id) r) (hg : Gl X x) (hm : X.mg x = none) (hv : bootBuiltins x = some (.type id)) (hn : x ≠ "__name__") (hdb : (x == ("__debug__" : Str)) = false) (hs : notStar e = true) (hss : es.all notStar = true)
    (ha : PAd X (e :: es) t) : PEd X (.Call (.Name x p) (e :: es) [] pos) (wCall r t) := by
  intro σ M ρ H Q rs rm h
  refine tW_of (pe_callTy (c_W _) hg hm hv (pa_W (e :: es)) hn hdb (star_cons hs) (star_none hss)) ?_
  show tWA X (e :: es) ρ H _
  exact tWA_mono (ha σ M ρ H _ rs rm h) fun vs H1 ⟨k1, ds, M1, r1, _, m1, q1⟩ => cW_mono (hc ds vs H1 M1 Q r1 m1 q1) fun _ _ => lift_up k1
theorem rvs1 {K : PySem.W.Frag} {d : D} {vs : List V} (r : RVs K H [d] vs) : ∃ v, vs = [v] ∧ RV K H d v := by
  rw [RVs] at r
  obtain ⟨v, vs', rfl, r1, r2⟩ := r
  rw [RVs] at r2
  subst r2
  exact ⟨v, rfl, r1⟩
theorem rvs2 {K : PySem.W.Frag} {d d' : D} {vs : List V} (r : RVs K H [d, d'] vs) : ∃ v v', vs = [v, v'] ∧ RV K H d v ∧ RV K H d' v' := by
  rw [RVs] at r
  obtain ⟨v, vs', rfl, r1, r2⟩ := r
  obtain ⟨v', rfl, r3⟩ := rvs1 r2
  exact ⟨v, v', rfl, r1, r3⟩
/-- len -/
def dLen : SpD := fun ds M Q => match ds with
  | [.str z] => z.length ≤ sizeLine ∧ Q (.int z.length) M
  | [.tup xs] => Q (.int xs.length) M
  | [.ref a] => match M a with
    | some (.lst xs) => Q (.int xs.length) M
    | some (.rol xs) => Q (.int xs.length) M
    | some (.dic kvs) => Q (.int kvs.length) M
    | some (.rod kvs) => Q (.int kvs.length) M
    | _ => False
  | _ => False
theorem call_lenR : CallR X (.builtin "len") (fun xs H Q => ∃ a kvs, xs = [V.ref a] ∧ Rd H a (.dK kvs) ∧ Q (.int kvs.length) H) := by
  rintro pins s σ H xs us Q I r ⟨a, kvs, rfl, ha, q⟩
  obtain ⟨u, rfl, ru⟩ := vals1 r
  cases ru
  exact d_len I ha fun t s' I' => ⟨.int kvs.length, H, I', ⟨t, rfl⟩, q⟩
theorem cd_len : CallD X (.builtin "len") dLen := by
  intro ds vs H M Q r rm h
  unfold dLen at h
  split at h
  · obtain ⟨v, rfl, r1⟩ := rvs1 r
    cases RV.str_.1 r1
    exact cW_of call_len_str ⟨_, rfl, h.1, lift_at (RV.int_.2 rfl) rm h.2⟩
  · obtain ⟨v, rfl, r1⟩ := rvs1 r
    obtain ⟨a, us, rfl, sq, rr⟩ := RV.tup_.1 r1
    exact cW_of call_len_seq ⟨a, us, rfl, .inr sq, lift_at (RV.int_.2 (by rw [rr.len])) rm h⟩
  · obtain ⟨v, rfl, r1⟩ := rvs1 r
    cases RV.ref_.1 r1
    split at h
    · rename_i xs e1
      obtain ⟨us, sq, rr⟩ := rm _ _ e1
      exact cW_of call_len_seq ⟨_, us, rfl, .inl (SqL.of sq), lift_at (RV.int_.2 (by rw [rr.len])) rm h⟩
    · rename_i xs e1
      obtain ⟨us, sq, rr⟩ := rm _ _ e1
      exact cW_of call_len_seq ⟨_, us, rfl, .inl (.inl sq), lift_at (RV.int_.2 (by rw [rr.len])) rm h⟩
    · rename_i kvs e1
      obtain ⟨kws, q1, q2, rr⟩ := rm _ _ e1
      exact cW_of call_lenD ⟨_, kws, rfl, q1, lift_at (RV.int_.2 (by have := congrArg List.length q2; simp only [List.length_map] at this; rw [this])) rm h⟩
    · rename_i kvs e1
      obtain ⟨u0, kws, q1, q2, rr⟩ := rm _ _ e1
      exact cW_of call_lenR ⟨_, kws, rfl, .inr ⟨u0, q1⟩, lift_at (RV.int_.2 (by have := congrArg List.length q2; simp only [List.length_map] at this; rw [this])) rm h⟩
    · exact False.elim h
  · exact False.elim h
/-- isinstance(x, T), T one of Python's own -/
def tyD (x : D) (M : MH) : Option String := match x with
  | .non => some "NoneType"
  | .bl _ => some "bool"
  | .int _ => some "int"
  | .str _ => some "str"
  | .tup _ => some "tuple"
  | .ref a => match M a with
    | some (.lst _) => some "list"
    | some (.dic _) => some "dict"
    | _ => none
  | .ty _ => none
def isT (t T : String) : Bool := t == T || (t == "bool" && T == "int")
def kinds : List String := ["NoneType", "bool", "int", "str", "tuple", "list", "dict"]
theorem isT_ok : ∀ t ∈ kinds, ∀ T ∈ kinds, T ≠ "NoneType" → (if (Value.type t == Value.type T) = true then some true else if PySem.W.kitMeta T = true then (fastBuiltinMro t).map (·.contains (.type T)) else none) = some (isT t T) := by decide +kernel
def dIsinst : SpD := fun ds M Q => match ds with
  | [x, .ty T] => (T ∈ kinds ∧ T ≠ "NoneType") ∧ optD (tyD x M) fun t => Q (.bl (isT t T)) M
  | _ => False
theorem tyD_kind {x : D} {M : MH} {t : String} (h : tyD x M = some t) : t ∈ kinds := by
  cases x with
  | ref a =>
    have h : (match M a with
      | some (.lst _) => some "list"
      | some (.dic _) => some "dict"
      | _ => none) = some t := h
    split at h <;> first | (cases h; decide) | cases h
  | ty _ => cases h
  | _ => cases h; decide
theorem isinst_D {s : Shared} {pins : List (Addr × Obj)} {ρ : L2.St} {M : MH} {x : D} {v : V} {v' c : Value} {t : String} {k : Bool} {Q : Value → Shared → Prop} (I : Inv X pins ρ H s) (rx : RV X.K H x v) (rm : RM X.K M H) (r : RelV v v') (h : tyD x M = some t) (e : PySem.W.kitOne X.K (.type t) c = some k)
    (hq : ∀ tk, Q (.bool k) { s with toks := tk }) : wpAny (model X.prog X.w) X.A (call (.builtin "isinstance") [v', c]) Q X.xe s := by
  cases x with
  | non => cases h; cases RV.non_.1 rx; exact isinst_ok I r .non e hq
  | bl b => cases h; cases RV.bl_.1 rx; exact isinst_ok I r (.bl b) e hq
  | int b => cases h; cases RV.int_.1 rx; exact isinst_ok I r (.int b) e hq
  | str b => cases h; cases RV.str_.1 rx; exact isinst_ok I r (.str b) e hq
  | ty b => cases h
  | tup ds =>
    cases h
    obtain ⟨a, xs, rfl, sq, rr⟩ := RV.tup_.1 rx
    obtain ⟨_, _, tp, _⟩ := I.tuple sq
    cases r
    obtain ⟨o, h1, h2, _⟩ := tp
    exact PySem.W.kia_one PySem.W.kitx_tuple I.kIn ⟨o, h1, h2⟩ e (fun z => nomatch z) hq
  | ref a =>
    cases RV.ref_.1 rx
    have h : (match M a with
      | some (.lst _) => some "list"
      | some (.dic _) => some "dict"
      | _ => none) = some t := h
    split at h
    · rename_i e1; cases h
      obtain ⟨us, sq, rr⟩ := rm _ _ e1
      exact isinst_ok I r (.lst sq) e hq
    · rename_i e1; cases h
      obtain ⟨us, sq, _⟩ := rm _ _ e1
      exact isinst_ok I r (.dK sq) e hq
    · cases h
theorem cd_isinst : CallD X (.builtin "isinstance") dIsinst := by
  intro ds vs H M Q r rm h
  unfold dIsinst at h
  split at h
  · rename_i x T
    obtain ⟨v, w', rfl, r1, r2⟩ := rvs2 r
    cases RV.ty_.1 r2
    obtain ⟨t, e1, q⟩ := optD_ex h.2
    intro pins s ρ us I rv
    obtain ⟨u, u', rfl, q1, q2⟩ := rv.two
    cases q2
    exact isinst_D I r1 rm q1 e1 (kit_bt X.K (isT_ok t (tyD_kind e1) T h.1.1 h.1.2)) fun tk => ⟨.bl _, H, I.tok tk, rfl, lift_at (RV.bl_.2 rfl) rm q⟩
  · exact False.elim h
def dII (f : Int → Int → Int) : SpD := fun ds M Q => match ds with
  | [.int i, .int j] => Q (.int (f i j)) M
  | _ => False
theorem cd_max (hc : X.calm = true) : CallD X (.builtin "max") (dII fun i j => if j > i then j else i) := by
  intro ds vs H M Q r rm h
  unfold dII at h
  split at h
  · obtain ⟨v, v', rfl, r1, r2⟩ := rvs2 r
    cases RV.int_.1 r1; cases RV.int_.1 r2
    exact cW_of (call_max2 hc) ⟨_, _, rfl, lift_at (RV.int_.2 rfl) rm h⟩
  · exact False.elim h
theorem cd_min (hc : X.calm = true) : CallD X (.builtin "min") (dII fun i j => if j < i then j else i) := by
  intro ds vs H M Q r rm h
  unfold dII at h
  split at h
  · obtain ⟨v, v', rfl, r1, r2⟩ := rvs2 r
    cases RV.int_.1 r1; cases RV.int_.1 r2
    exact cW_of (call_min2 hc) ⟨_, _, rfl, lift_at (RV.int_.2 rfl) rm h⟩
  · exact False.elim h
/-- divmod by a divisor of up to 64 bits -/
theorem call_divmodW : CallR X (.builtin "divmod") (fun xs H Q => ∃ i j, xs = [.int i, .int j] ∧ (0 < j ∧ j < 18446744073709551616) ∧ ∀ p, H p = none → Q (.ref p) (upd H p (.tup [.int (i / j), .int (i % j)]))) := by
  intro pins s σ H xs us Q I r h
  obtain ⟨i, j, rfl, ⟨h1, h2⟩, q⟩ := h
  obtain ⟨u, w', rfl, ⟨t, rfl⟩, ⟨t', rfl⟩⟩ := vals2 r
  have hlog : j.natAbs.log2 < 9000 := Nat.lt_trans ((Nat.log2_lt (by omega)).2 (by omega : j.natAbs < 2 ^ 64)) (by decide)
  refine divmod_int (by omega) ?_ (.inl (PyProof.noPylong_of_log2 hlog))
  rw [Int.fdiv_eq_ediv_of_nonneg i (by omega), Int.fmod_eq_emod_of_nonneg i (by omega)]
  refine ⟨.ref s.heap.objs.size, _, ?_, rfl, q _ (I.hok.fresh (Nat.le_refl _))⟩
  refine I.laid (fun b o e => Heap.get?_push_of_some _ e) (Nat.le_refl _) ⟨by simp only [List.length_cons, List.length_nil]; rw [sizeLine_eq]; decide, [.int (i / j) s.toks, .int (i % j) (s.toks + 1)], .cons ⟨_, rfl⟩ (.cons ⟨_, rfl⟩ .nil), ?_⟩
  exact ⟨_, Heap.get?_push_size s.heap rfl, rfl, 0, rfl⟩
def dDivmod : SpD := fun ds M Q => match ds with
  | [.int i, .int j] => (0 < j ∧ j < 18446744073709551616) ∧ Q (.tup [.int (i / j), .int (i % j)]) M
  | _ => False
theorem cd_divmod : CallD X (.builtin "divmod") dDivmod := by
  intro ds vs H M Q r rm h
  unfold dDivmod at h
  split at h
  · obtain ⟨v, v', rfl, r1, r2⟩ := rvs2 r
    cases RV.int_.1 r1; cases RV.int_.1 r2
    refine cW_of call_divmodW ⟨_, _, rfl, h.1, fun p hp => ?_⟩
    exact ⟨Kp.new hp, _, M, RV.tup_.2 ⟨p, _, rfl, SqT.of upd_same, .cons (RV.int_.2 rfl) (.cons (RV.int_.2 rfl) .nil)⟩, rm.newH hp, h.2⟩
  · exact False.elim h
def dTuple : SpD := fun ds M Q => match ds with
  | [.tup xs] => Q (.tup xs) M
  | [.ref a] => optD (rdL (M a)) fun xs => Q (.tup xs) M
  | _ => False
theorem cd_tuple : CallD X (.type "tuple") dTuple := by
  intro ds vs H M Q r rm h
  unfold dTuple at h
  split at h
  · obtain ⟨v, rfl, r1⟩ := rvs1 r
    obtain ⟨a, us, rfl, sq, rr⟩ := RV.tup_.1 r1
    exact cW_of call_tuple_of ⟨a, us, rfl, .inr ⟨sq, lift_at r1 rm h⟩⟩
  · obtain ⟨v, rfl, r1⟩ := rvs1 r
    cases RV.ref_.1 r1
    obtain ⟨xs, e1, q⟩ := optD_ex h
    obtain ⟨us, sq, rr⟩ := rm.list e1
    refine cW_of call_tuple_of ⟨_, us, rfl, .inl ⟨sq, fun p hp => ?_⟩⟩
    have k := Kp.new (o := .tup us) hp
    exact ⟨k, .tup xs, M, RV.tup_.2 ⟨p, _, rfl, SqT.of upd_same, RVs.mono k _ rr⟩, rm.newH hp, q⟩
  · exact False.elim h
def dList : SpD := fun ds M Q => match ds with
  | [.tup xs] => ∀ p, M p = none → Q (.ref p) (updM M p (.lst xs))
  | [.ref a] => optD (rdL (M a)) fun xs => ∀ p, M p = none → Q (.ref p) (updM M p (.lst xs))
  | _ => False
theorem cd_list : CallD X (.type "list") dList := by
  intro ds vs H M Q r rm h
  unfold dList at h
  split at h
  · rename_i xs
    obtain ⟨v, rfl, r1⟩ := rvs1 r
    obtain ⟨a, us, rfl, sq, rr⟩ := RV.tup_.1 r1
    refine cW_of call_list_of ⟨a, us, rfl, .inr sq, fun p hp => ?_⟩
    have k := Kp.new (o := .lst us) hp
    exact ⟨k, .ref p, _, RV.ref_.2 rfl, rm.new (m := .lst xs) hp ⟨us, upd_same, RVs.mono k _ rr⟩, h p (rm.fresh hp)⟩
  · obtain ⟨v, rfl, r1⟩ := rvs1 r
    cases RV.ref_.1 r1
    obtain ⟨xs, e1, q⟩ := optD_ex h
    obtain ⟨us, sq, rr⟩ := rm.list e1
    refine cW_of call_list_of ⟨_, us, rfl, .inl sq, fun p hp => ?_⟩
    have k := Kp.new (o := .lst us) hp
    exact ⟨k, .ref p, _, RV.ref_.2 rfl, rm.new (m := .lst xs) hp ⟨us, upd_same, RVs.mono k _ rr⟩, q p (rm.fresh hp)⟩
  · exact False.elim h
inductive Bi where
  | len | isinst | max | min | divmod | tuple | list
  deriving DecidableEq
def dBi : Bi → SpD
  | .len => dLen
  | .isinst => dIsinst
  | .max => dII fun i j => if j > i then j else i
  | .min => dII fun i j => if j < i then j else i
  | .divmod => dDivmod
  | .tuple => dTuple
  | .list => dList
def biName : Bi → Str
  | .len => "len"
  | .isinst => "isinstance"
  | .max => "max"
  | .min => "min"
  | .divmod => "divmod"
  | .tuple => "tuple"
  | .list => "list"
theorem ped_bi (b : Bi) (hc : X.calm = true) {t : WA} {p : Pos} (hg : Gl X (biName b)) (hm : X.mg (biName b) = none) (hs : notStar e = true) (hss : es.all notStar = true) (ha : PAd X (e :: es) t) : PEd X (.Call (.Name (biName b) p) (e :: es) [] pos) (wCall (dBi b) t) := by
  cases b with
  | len => exact ped_callB cd_len hg hm PySem.boot_len (by decide) (by decide) hs hss ha
  | isinst => exact ped_callB cd_isinst hg hm PyProof.Rows.boot_isinstance (by decide) (by decide) hs hss ha
  | max => exact ped_callB (cd_max hc) hg hm PyProof.Rows.boot_max (by decide) (by decide) hs hss ha
  | min => exact ped_callB (cd_min hc) hg hm PyProof.Rows.boot_min (by decide) (by decide) hs hss ha
  | divmod => exact ped_callB cd_divmod hg hm PyProof.Rows.boot_divmod (by decide) (by decide) hs hss ha
  | tuple => exact ped_callTy cd_tuple hg hm (by decide +kernel) (by decide) (by decide) hs hss ha
  | list => exact ped_callTy cd_list hg hm (by decide +kernel) (by decide) (by decide) hs hss ha
end
end DD

set_option Elab.async false
set_option maxRecDepth 100000
set_option maxHeartbeats 4000000
namespace DD
open PySem PySem.Spec PyProof.Rows L2
section
variable {X : Cx} {H : Hp} {e a b c o : Expr} {es : List Expr} {pos : Pos}
/-! ### methods of Python's own values -/
def safeBase : Expr → Bool
  | .Call (.Name _ _) [] [] _ => false
  | _ => true
theorem base_ok {env : Env} {f : Str} {w : Sem Value} (h : safeBase o = true) : attributeBase o f env w = w := by
  unfold attributeBase
  split
  · exact absurd (show false = true from h) Bool.false_ne_true
  · rfl
theorem star_all {env : Env} {p : Pos} : ∀ {es : List Expr}, es.all notStar = true → (backTo p (starEach es env)).all (fun x => !x.1) = true
  | [], _ => rfl
  | e :: es, h => by
    rw [List.all_cons, Bool.and_eq_true] at h
    rw [star_cons h.1]
    show (true && (backTo p (starEach es env)).all (fun x => !x.1)) = true
    rw [star_all h.2]; rfl
def mW (X : Cx) (id : String) : V → List V → Hp → VK → Prop := fun x xs H Q => ∀ pins s ρ v us, Inv X pins ρ H s → RelV x v → Vals xs us → wpAny (model X.prog X.w) X.A (call (.builtin id) (v :: us)) (EP X pins ρ Q) X.xe s
theorem m_W (id : String) : MtR X id (mW X id) := fun pins s σ _ _ _ v us _ I r rv h => h pins s σ v us I r rv
theorem mW_of {id : String} {r : V → List V → Hp → VK → Prop} {x : V} {xs : List V} {Q : VK} (h : MtR X id r) (q : r x xs H Q) : mW X id x xs H Q := fun pins s ρ v us I rx rv => h pins s ρ H x xs v us Q I rx rv q
theorem mW_mono {id : String} {x : V} {xs : List V} {Q Q' : VK} (h : mW X id x xs H Q) (g : ∀ v H', Q v H' → Q' v H') : mW X id x xs H Q' := fun pins s ρ v us I rx rv => thn (h pins s ρ v us I rx rv) fun _ _ ⟨v, H', I', r, q⟩ => ⟨v, H', I', r, g v H' q⟩
abbrev SpM := D → List D → MH → DK → Prop
def MtD (X : Cx) (id : String) (r : SpM) : Prop := ∀ x ds v vs H M Q, RV X.K H x v → RVs X.K H ds vs → RM X.K M H → r x ds M Q → mW X id v vs H (lift X.K H Q)
inductive Rc where
  | str | lst | dic
def recvD : Rc → D → MH → Prop
  | .str, .str _, _ => True
  | .lst, .ref a, M => (rdL (M a)).isSome = true
  | .dic, .ref a, M => match M a with
    | some (.dic _) => True
    | _ => False
  | _, _, _ => False
def rcT : Rc → String
  | .str => "str"
  | .lst => "list"
  | .dic => "dict"
theorem recv_ok {K : PySem.W.Frag} {M : MH} {c : Rc} {x : D} {v : V} (r : RV K H x v) (m : RM K M H) (h : recvD c x M) : tyV K (rcT c) v H := by
  cases c with
  | str => cases x with
    | str z => cases RV.str_.1 r; rfl
    | _ => exact False.elim h
  | lst => cases x with
    | ref a =>
      cases RV.ref_.1 r
      obtain ⟨ds, e⟩ := Option.isSome_iff_exists.mp h
      obtain ⟨vs, sq, _⟩ := m.list e
      exact .inl ⟨rfl, vs, sq⟩
    | _ => exact False.elim h
  | dic => cases x with
    | ref a =>
      cases RV.ref_.1 r
      have h : match M a with
        | some (.dic _) => True
        | _ => False := h
      split at h
      · rename_i e
        obtain ⟨kws, q, _⟩ := m a _ e
        exact .inr (.inr (.inl ⟨rfl, .inl ⟨kws, q⟩⟩))
      · exact False.elim h
    | _ => exact False.elim h
def wMt (c : Rc) (r : SpM) (to : WE) (t : WA) : WE := fun σ M Q => to σ M fun x M1 => recvD c x M1 ∧ t σ M1 fun ds M2 => r x ds M2 Q
theorem ped_mt {c : Rc} {name : Str} {id : String} {r : SpM} {to : WE} {t : WA} {apos : Pos} (pa : PlainAttrs (rcT c)) (slot : Slot (rcT c) name id) (hty : typeOf (.builtin id) = pure (.type "method_descriptor")) (hm : MtD X id r) (ho : PEd X o to) (ha : PAd X (e :: es) t)
    (hb : safeBase o = true) (hs : notStar e = true) (hss : es.all notStar = true) (hl : es.length < 20) (hline : (apos.endLine == pos.line) = true) : PEd X (.Call (.Attribute o name apos) (e :: es) [] pos) (wMt c r to t) := by
  intro σ M ρ H Q rs rm h
  refine tW_of (pe_bm pa slot hty (m_W id) (pe_W o) (pa_W (e :: es)) (base_ok hb) ?_ hline (star_cons hs) (star_none hss)) ?_
  · rw [star_all (es := e :: es) (by rw [List.all_cons, hs, hss]; rfl)]
    show (true && true && decide ((e :: es).length + 0 + 0 < 30)) = true
    rw [Bool.and_self, Bool.true_and]
    exact decide_eq_true (by rw [List.length_cons]; omega)
  · show tW X o ρ H _
    refine tW_mono (ho σ M ρ H _ rs rm h) fun v H1 ⟨k1, x, M1, r1, m1, q1⟩ => ⟨recv_ok r1 m1 q1.1, ?_⟩
    show tWA X (e :: es) ρ H1 _
    exact tWA_mono (ha σ M1 ρ H1 _ (rs.mono k1) m1 q1.2) fun vs H2 ⟨k2, ds, M2, r2, _, m2, q2⟩ => mW_mono (hm x ds v vs H2 M2 Q (RV.mono k2 x r1) r2 m2 q2) fun _ _ => lift_up (k1.trans k2)
theorem ped_mt0 {c : Rc} {name : Str} {id : String} {r : SpM} {to : WE} {apos : Pos} (pa : PlainAttrs (rcT c)) (slot : Slot (rcT c) name id) (hty : typeOf (.builtin id) = pure (.type "method_descriptor")) (hm : MtD X id r) (ho : PEd X o to)
    (hb : safeBase o = true) (hline : (apos.endLine == pos.line) = true) : PEd X (.Call (.Attribute o name apos) [] [] pos) (wMt c r to wNil) := by
  intro σ M ρ H Q rs rm h
  refine tW_of (pe_bm0 pa slot hty (m_W id) (pe_W o) (base_ok hb) hline) ?_
  show tW X o ρ H _
  refine tW_mono (ho σ M ρ H _ rs rm h) fun v H1 ⟨k1, x, M1, r1, m1, q1⟩ => ⟨recv_ok r1 m1 q1.1, ?_⟩
  exact mW_mono (hm x [] v [] H1 M1 Q r1 RVs.nil m1 q1.2) fun _ _ => lift_up k1
/-- xs.pop(i), xs.pop(), xs.clear() -/
theorem pl_erase {α β : Type} {F : α → β → Prop} : ∀ {l : List α} {m : List β} (i : Nat), Paired F l m → Paired F (l.eraseIdx i) (m.eraseIdx i)
  | _, _, _, .nil => .nil
  | _, _, 0, .cons _ t => t
  | _, _, i + 1, .cons q t => .cons q (pl_erase i t)
theorem pl_dropLast {α β : Type} {F : α → β → Prop} {l : List α} {m : List β} (h : Paired F l m) : Paired F l.dropLast m.dropLast := by
  rw [List.dropLast_eq_take, List.dropLast_eq_take, ← pl_len h]
  exact pl_take _ h
def dPop : SpM := fun x ds M Q => match x, ds with
  | .ref a, [.int i] => match M a with
    | some (.lst xs) => (0 ≤ i ∧ i < 1000000) ∧ optD xs[i.toNat]? fun d => Q d (updM M a (.lst (xs.eraseIdx i.toNat)))
    | _ => False
  | .ref a, [] => match M a with
    | some (.lst xs) => optD xs[xs.length - 1]? fun d => Q d (updM M a (.lst xs.dropLast))
    | _ => False
  | _, _ => False
theorem md_pop : MtD X "list.pop" dPop := by
  intro x ds v vs H M Q rx r rm h
  unfold dPop at h
  split at h
  · rename_i a i
    obtain ⟨w', rfl, r1⟩ := rvs1 r
    cases RV.ref_.1 rx; cases RV.int_.1 r1
    split at h
    · rename_i xs e1
      obtain ⟨us, sq, rr⟩ := rm _ _ e1
      obtain ⟨d, ed, q⟩ := optD_ex h.2
      obtain ⟨u, eu, ru⟩ := pl_get rr.p ed
      have k := Kp.put (o' := .lst (us.eraseIdx i.toNat)) sq trivial
      have hlt : i.toNat < us.length := (List.getElem?_eq_some_iff.1 eu).1
      have hsi : seqIndex? i us.length = some i.toNat := by
        unfold seqIndex?
        have h1 : ¬ i < 0 := by omega
        have h2 : i < (us.length : Int) := by omega
        simp [h1, h.1.1, h2]
      exact mW_of mt_popAt ⟨a, us, i, i.toNat, u, rfl, rfl, sq, by omega, by omega, hsi, eu, k, d, _, RV.mono k _ ru, rm.put (m := .lst (xs.eraseIdx i.toNat)) sq trivial ⟨_, upd_same, RVs.of (pl_erase _ (RVs.mono k _ rr).p)⟩, q⟩
    · exact False.elim h
  · rename_i a
    obtain rfl : vs = [] := by rw [RVs] at r; exact r
    cases RV.ref_.1 rx
    split at h
    · rename_i xs e1
      obtain ⟨us, sq, rr⟩ := rm _ _ e1
      obtain ⟨d, ed, q⟩ := optD_ex h
      obtain ⟨u, eu, ru⟩ := pl_get rr.p ed
      have k := Kp.put (o' := .lst us.dropLast) sq trivial
      exact mW_of mt_pop ⟨a, us, u, rfl, rfl, sq, by rw [← rr.len]; exact eu, k, d, _, RV.mono k _ ru, rm.put (m := .lst xs.dropLast) sq trivial ⟨_, upd_same, RVs.of (pl_dropLast (RVs.mono k _ rr).p)⟩, q⟩
    · exact False.elim h
  · exact False.elim h
def dClear : SpM := fun x ds M Q => match x, ds with
  | .ref a, [] => match M a with
    | some (.lst _) => Q .non (updM M a (.lst []))
    | _ => False
  | _, _ => False
theorem md_clear : MtD X "list.clear" dClear := by
  intro x ds v vs H M Q rx r rm h
  unfold dClear at h
  split at h
  · rename_i a
    obtain rfl : vs = [] := by rw [RVs] at r; exact r
    cases RV.ref_.1 rx
    split at h
    · rename_i xs e1
      obtain ⟨us, sq, rr⟩ := rm _ _ e1
      have k := Kp.put (o' := .lst []) sq trivial
      exact mW_of mt_clear ⟨a, us, rfl, rfl, sq, k, .non, _, RV.non_.2 rfl, rm.put (m := .lst []) sq trivial ⟨_, upd_same, RVs.nil⟩, h⟩
    · exact False.elim h
  · exact False.elim h
inductive Mt where
  | pop | clear
  deriving DecidableEq
def mtName : Mt → Str
  | .pop => "pop"
  | .clear => "clear"
def mtRc : Mt → Rc
  | .pop => .lst
  | .clear => .lst
def dMt : Mt → SpM
  | .pop => dPop
  | .clear => dClear
theorem ped_mtd (m : Mt) {to : WE} {t : WA} {apos : Pos} (ho : PEd X o to) (ha : PAd X (e :: es) t) (hb : safeBase o = true) (hs : notStar e = true) (hss : es.all notStar = true) (hl : es.length < 20) (hline : (apos.endLine == pos.line) = true) :
    PEd X (.Call (.Attribute o (mtName m) apos) (e :: es) [] pos) (wMt (mtRc m) (dMt m) to t) := by
  cases m with
  | pop => exact ped_mt (c := .lst) PySem.F.plainAttrs_list PySem.F.slot_list_pop PySem.F.type_list_pop md_pop ho ha hb hs hss hl hline
  | clear => exact ped_mt (c := .lst) PySem.F.plainAttrs_list PySem.F.slot_list_clear PySem.F.type_list_clear md_clear ho ha hb hs hss hl hline
theorem ped_mtd0 (m : Mt) {to : WE} {apos : Pos} (ho : PEd X o to) (hb : safeBase o = true) (hline : (apos.endLine == pos.line) = true) :
    PEd X (.Call (.Attribute o (mtName m) apos) [] [] pos) (wMt (mtRc m) (dMt m) to wNil) := by
  cases m with
  | pop => exact ped_mt0 (c := .lst) PySem.F.plainAttrs_list PySem.F.slot_list_pop PySem.F.type_list_pop md_pop ho hb hline
  | clear => exact ped_mt0 (c := .lst) PySem.F.plainAttrs_list PySem.F.slot_list_clear PySem.F.type_list_clear md_clear ho hb hline
end
end DD

set_option Elab.async false
set_option maxRecDepth 100000
set_option maxHeartbeats 4000000
namespace DD
open PySem PySem.Spec PyProof.Rows L2
section
variable {X : Cx} {H : Hp} {e a b c o i v : Expr} {es : List Expr} {pos : Pos}
/-! ### - x -/
/-! ### o[i] = v -/
def putD (kvs : List (Key × D)) (k : Key) (d : D) : List (Key × D) := if (kvs.any fun kv => decide (kv.1 = k)) = true then kvs.map (fun kv => if kv.1 = k then (kv.1, d) else kv) else kvs ++ [(k, d)]
theorem any_keys {α β : Type} {l : List (Key × α)} {m : List (Key × β)} (e : m.map (·.1) = l.map (·.1)) (k : Key) : (m.any fun kv => decide (kv.1 = k)) = l.any fun kv => decide (kv.1 = k) := by
  have f : ∀ {γ : Type} (l : List (Key × γ)), (l.any fun kv => decide (kv.1 = k)) = (l.map (·.1)).any fun q => decide (q = k) := fun l => by rw [List.any_map]; rfl
  rw [f, f, e]
theorem map_put {K : PySem.W.Frag} {k : Key} {d : D} {v : V} (r : RV K H d v) : ∀ {l : List (Key × D)} {m : List (Key × V)}, m.map (·.1) = l.map (·.1) → RVs K H (l.map (·.2)) (m.map (·.2)) →
    ((m.map fun kv => if kv.1 = k then (kv.1, v) else kv).map (·.1) = (l.map fun kv => if kv.1 = k then (kv.1, d) else kv).map (·.1)) ∧ RVs K H ((l.map fun kv => if kv.1 = k then (kv.1, d) else kv).map (·.2)) ((m.map fun kv => if kv.1 = k then (kv.1, v) else kv).map (·.2))
  | [], [], _, _ => ⟨rfl, .nil⟩
  | [], _ :: _, e, _ => by cases e
  | _ :: _, [], e, _ => by cases e
  | (k1, d1) :: l, (k2, v2) :: m, e, rr => by
    simp only [List.map_cons, List.cons.injEq] at e
    obtain ⟨e1, e2⟩ := e
    subst e1
    simp only [List.map_cons] at rr
    rw [RVs] at rr
    obtain ⟨v', vs', z, r1, r2⟩ := rr
    cases z
    obtain ⟨q1, q2⟩ := map_put r (k := k) e2 r2
    by_cases q : k2 = k
    · simp only [List.map_cons, if_pos q]
      exact ⟨by rw [q1], .cons r q2⟩
    · simp only [List.map_cons, if_neg q]
      exact ⟨by rw [q1], .cons r1 q2⟩
theorem put_rv {K : PySem.W.Frag} {k : Key} {d : D} {v : V} {l : List (Key × D)} {m : List (Key × V)} (r : RV K H d v) (e : m.map (·.1) = l.map (·.1)) (rr : RVs K H (l.map (·.2)) (m.map (·.2))) : (putK m k v).map (·.1) = (putD l k d).map (·.1) ∧ RVs K H ((putD l k d).map (·.2)) ((putK m k v).map (·.2)) := by
  unfold putK putD
  rw [any_keys e k]
  split
  · exact map_put r e rr
  · refine ⟨by rw [List.map_append, List.map_append, e]; rfl, ?_⟩
    rw [List.map_append, List.map_append]
    exact RVs.of (pl_append rr.p (.cons r .nil))
def dPut (o i d : D) (M : MH) (Q : MH → Prop) : Prop := match o with
  | .ref a => match M a with
    | some (.lst xs) => intD i fun k => optD (ixN xs.length k) fun j => Q (updM M a (.lst (xs.set j d)))
    | some (.dic kvs) => optD (keyD i) fun k => kvs.length < sizeLine ∧ Q (updM M a (.dic (putD kvs k d)))
    | _ => False
  | _ => False
def pW (X : Cx) : TSet := fun o i v H Q => ∀ pins s ρ ov iv u, Inv X pins ρ H s → RelV o ov → RelV i iv → RelV v u → wpAny (model X.prog X.w) X.A (setItem ov iv u) (fun _ s' => ∃ H', Inv X pins ρ H' s' ∧ Q H') X.xe s
theorem p_W : PSet X (pW X) := fun pins s σ _ _ _ _ ov iv u _ I r1 r2 r3 h => h pins s σ ov iv u I r1 r2 r3
theorem pW_mono {o i v : V} {Q Q' : Hp → Prop} (h : pW X o i v H Q) (g : ∀ H', Q H' → Q' H') : pW X o i v H Q' := fun pins s ρ ov iv u I r1 r2 r3 => thn (h pins s ρ ov iv u I r1 r2 r3) fun _ _ ⟨H', I', q⟩ => ⟨H', I', g H' q⟩
theorem putd (hu : X.A.units + 40 < cLine) {x y d : D} {o i v : V} {M : MH} {Q : MH → Prop} (rx : RV X.K H x o) (ry : RV X.K H y i) (rd : RV X.K H d v) (rm : RM X.K M H) (h : dPut x y d M Q) : pW X o i v H fun H' => Kp H H' ∧ ∃ M', RM X.K M' H' ∧ Q M' := by
  cases x with
  | ref a =>
    cases RV.ref_.1 rx
    have h : match M a with
      | some (.lst xs) => intD y fun k => optD (ixN xs.length k) fun j => Q (updM M a (.lst (xs.set j d)))
      | some (.dic kvs) => optD (keyD y) fun k => kvs.length < sizeLine ∧ Q (updM M a (.dic (putD kvs k d)))
      | _ => False := h
    split at h
    · rename_i xs e1
      obtain ⟨k, rfl, h⟩ := intD_ex h
      obtain ⟨j, e2, q⟩ := optD_ex h
      cases RV.int_.1 ry
      obtain ⟨us, sq, rr⟩ := rm _ _ e1
      have kk := Kp.put (o' := .lst (us.set j v)) sq trivial
      intro pins s ρ ov iv u I r1 r2 r3
      exact set_list pins s ρ H _ _ _ ov iv u _ I r1 r2 r3 ⟨a, us, k, j, rfl, rfl, sq, by rw [← rr.len]; exact e2, kk, _, rm.put (m := .lst (xs.set j d)) sq trivial ⟨_, upd_same, RVs.of (pl_set (RV.mono kk _ rd) j (RVs.mono kk _ rr).p)⟩, q⟩
    · rename_i kvs e1
      obtain ⟨k, e2, hl, q⟩ := optD_ex h
      have := keyD_ok e2 ry
      subst this
      obtain ⟨kws, sq, ek, rr⟩ := rm _ _ e1
      have kk := Kp.put (o' := .dK (putK kws k v)) sq trivial
      obtain ⟨p1, p2⟩ := put_rv (k := k) (RV.mono kk _ rd) ek (RVs.mono kk _ rr)
      have hlen : kws.length < sizeLine := by have := congrArg List.length ek; simp only [List.length_map] at this; omega
      intro pins s ρ ov iv u I r1 r2 r3
      cases r1
      exact d_setItem (by omega) I (.inl ⟨kws, k, sq, rfl, hlen, rfl⟩) r2 r3 fun s' I' => ⟨_, I', kk, _, rm.put (m := .dic (putD kvs k d)) sq trivial ⟨_, upd_same, p1, p2⟩, q⟩
    · exact False.elim h
  | _ => exact False.elim h
theorem sole {tg : Expr} {n : Nat} {env : Env} (h : notComp v = true) : swapsWithSole [tg] v n env = pure false := noswap h
def wPutIx (tv to ti : WE) : WS := fun E σ M => tv σ M fun d M1 => to σ M1 fun x M2 => ti σ M2 fun y M3 => dPut x y d M3 fun M4 => E.nx σ M4
theorem psd_putIx {tv to ti : WE} {p : Pos} (hu : X.A.units + 40 < cLine) (hv : PEd X v tv) (ho : PEd X o to) (hi : PEd X i ti) (hc : notComp v = true) (hs : notSlice i = true) : PSd X (.Assign [.Subscript o i p] v pos) (wPutIx tv to ti) := by
  intro σ M ρ H E rs rm h
  refine tWS_of (ps_asg (pe_W v) (pg_sub (pe_W o) (pe_W i) p_W (by intro w; cases i <;> first | rfl | exact absurd (show false = true from hs) Bool.false_ne_true)) (sole hc) (by cases v <;> rfl) rfl) ?_
  show tW X v ρ H _
  refine tW_mono (hv σ M ρ H _ rs rm h) fun u H1 ⟨k1, d, M1, r1, m1, q1⟩ => ?_
  show tW X o ρ H1 _
  refine tW_mono (ho σ M1 ρ H1 _ (rs.mono k1) m1 q1) fun w' H2 ⟨k2, x, M2, r2, m2, q2⟩ => ?_
  show tW X i ρ H2 _
  refine tW_mono (hi σ M2 ρ H2 _ (rs.mono (k1.trans k2)) m2 q2) fun z H3 ⟨k3, y, M3, r3, m3, q3⟩ => ?_
  exact pW_mono (putd hu (RV.mono k3 x r2) r3 (RV.mono (k2.trans k3) d r1) m3 q3) fun H4 ⟨k4, M4, m4, q4⟩ => ⟨k1.trans (k2.trans (k3.trans k4)), σ, M4, rs.mono (k1.trans (k2.trans (k3.trans k4))), m4, q4⟩

/-! ### dict displays -/
inductive PPd (X : Cx) : List (Option Expr) → List Expr → List (WE × WE) → Prop where
  | nil : PPd X [] [] []
  | cons {k v : Expr} {ks : List (Option Expr)} {vs : List Expr} {tk tv : WE} {r : List (WE × WE)} : PEd X k tk → PEd X v tv → PPd X ks vs r → PPd X (some k :: ks) (v :: vs) ((tk, tv) :: r)
end
end DD

set_option Elab.async false
set_option maxRecDepth 100000
set_option maxHeartbeats 4000000
namespace DD
open PySem PySem.Spec PyProof.Rows L2
/-! ### objects of the text's own classes -/
/-- of which class which names are plain values of its objects -/
abbrev OK0 := Addr → Str → Prop
theorem lookup_keys {K : PySem.W.Frag} {H : Hp} {f : Str} : ∀ {fs : List (Str × D)} {gs : List (Str × V)}, gs.map (·.1) = fs.map (·.1) → RVs K H (fs.map (·.2)) (gs.map (·.2)) →
    (fs.lookup f = none → gs.lookup f = none) ∧ ∀ d, fs.lookup f = some d → ∃ v, gs.lookup f = some v ∧ RV K H d v
  | [], [], _, _ => ⟨fun _ => rfl, fun _ h => nomatch h⟩
  | [], _ :: _, e, _ => by cases e
  | _ :: _, [], e, _ => by cases e
  | (k1, d1) :: fs, (k2, v2) :: gs, e, r => by
    simp only [List.map_cons, List.cons.injEq] at e
    obtain ⟨e1, e2⟩ := e
    subst e1
    simp only [List.map_cons] at r
    rw [RVs] at r
    obtain ⟨v, vs, z, r1, r2⟩ := r
    cases z
    obtain ⟨h1, h2⟩ := lookup_keys (f := f) e2 r2
    cases q : f == k2 with
    | true => simp only [List.lookup_cons, q]; exact ⟨(fun z => nomatch z), fun d z => by cases z; exact ⟨v2, rfl, r1⟩⟩
    | false => simp only [List.lookup_cons, q]; exact ⟨h1, h2⟩
def putFD (f : Str) (v : D) : List (Str × D) → List (Str × D)
  | [] => [(f, v)]
  | (g, x) :: r => if g = f then (g, v) :: r else (g, x) :: putFD f v r
theorem putF_rv {K : PySem.W.Frag} {H : Hp} {f : Str} {d : D} {v : V} (rv : RV K H d v) : ∀ {fs : List (Str × D)} {gs : List (Str × V)}, gs.map (·.1) = fs.map (·.1) → RVs K H (fs.map (·.2)) (gs.map (·.2)) →
    (putF f v gs).map (·.1) = (putFD f d fs).map (·.1) ∧ RVs K H ((putFD f d fs).map (·.2)) ((putF f v gs).map (·.2))
  | [], [], _, _ => ⟨rfl, .cons rv .nil⟩
  | [], _ :: _, e, _ => by cases e
  | _ :: _, [], e, _ => by cases e
  | (k1, d1) :: fs, (k2, v2) :: gs, e, r => by
    simp only [List.map_cons, List.cons.injEq] at e
    obtain ⟨e1, e2⟩ := e
    subst e1
    simp only [List.map_cons] at r
    rw [RVs] at r
    obtain ⟨w', vs, z, r1, r2⟩ := r
    cases z
    obtain ⟨h1, h2⟩ := putF_rv (f := f) rv e2 r2
    unfold putF putFD
    by_cases q : k2 = f
    · rw [if_pos q, if_pos q]; exact ⟨by simp only [List.map_cons, e2], .cons rv r2⟩
    · rw [if_neg q, if_neg q]; exact ⟨by simp only [List.map_cons, h1], .cons r1 h2⟩
section
variable {X : Cx} {H : Hp} {e a b c o i v : Expr} {es : List Expr} {pos : Pos}
def fldD (O : OK0) (x : D) (f : Str) (M : MH) (Q : D → Prop) : Prop := match x with
  | .ref a => match M a with
    | some (.ins C fs) => O C f ∧ optD (fs.lookup f) Q
    | _ => False
  | _ => False
def wFld (O : OK0) (f : Str) (t : WE) : WE := fun σ M Q => t σ M fun x M1 => fldD O x f M1 fun d => Q d M1
theorem ped_fld {O : OK0} {f : Str} {t : WE} (hO : ∀ C f, O C f → Cls X.K C ∧ NoAttr X.K C f) (h : PEd X o t) (hb : safeBase o = true) : PEd X (.Attribute o f pos) (wFld O f t) := by
  intro σ M ρ H Q rs rm q
  refine tW_of (pe_fld (pe_W o) (base_ok hb)) ?_
  show tW X o ρ H _
  refine tW_mono (h σ M ρ H _ rs rm q) fun v H1 ⟨k1, x, M1, r1, m1, q1⟩ => ?_
  unfold fldD at q1
  dsimp only at q1
  split at q1
  · rename_i a
    split at q1
    · rename_i C fs e1
      obtain ⟨d, e2, q2⟩ := optD_ex q1.2
      cases RV.ref_.1 r1
      obtain ⟨dx, gs, sq, ek, rr⟩ := m1 _ _ e1
      obtain ⟨v2, e3, r3⟩ := (lookup_keys ek rr).2 d e2
      exact ⟨a, C, dx, gs, v2, rfl, sq, (hO C f q1.1).1, (hO C f q1.1).2, e3, k1, d, M1, r3, m1, q2⟩
    · exact False.elim q1
  · exact False.elim q1
def setFD (O : OK0) (x : D) (f : Str) (d : D) (M : MH) (Q : MH → Prop) : Prop := match x with
  | .ref a => match M a with
    | some (.ins C fs) => (O C f ∧ fs.length < 1000) ∧ Q (updM M a (.ins C (putFD f d fs)))
    | _ => False
  | _ => False
def wSetF (O : OK0) (f : Str) (to tv : WE) : WS := fun E σ M => tv σ M fun d M1 => to σ M1 fun x M2 => setFD O x f d M2 fun M3 => E.nx σ M3
theorem psd_setF {O : OK0} {f : Str} {to tv : WE} {p : Pos} (hO : ∀ C f, O C f → Cls X.K C ∧ NoAttr X.K C f) (ho : PEd X o to) (hv : PEd X v tv) (hc : notComp v = true) : PSd X (.Assign [.Attribute o f p] v pos) (wSetF O f to tv) := by
  intro σ M ρ H E rs rm q
  refine tWS_of (ps_fld (pe_W o) (pe_W v) (noswap hc)) ?_
  show tW X v ρ H _
  refine tW_mono (hv σ M ρ H _ rs rm q) fun u H1 ⟨k1, d, M1, r1, m1, q1⟩ => ?_
  show tW X o ρ H1 _
  refine tW_mono (ho σ M1 ρ H1 _ (rs.mono k1) m1 q1) fun w' H2 ⟨k2, x, M2, r2, m2, q2⟩ => ?_
  unfold setFD at q2
  dsimp only at q2
  split at q2
  · rename_i a
    split at q2
    · rename_i C fs e1
      cases RV.ref_.1 r2
      obtain ⟨dx, gs, sq, ek, rr⟩ := m2 _ _ e1
      have kk := Kp.put (o' := .ins C dx (putF f u gs)) sq trivial
      obtain ⟨p1, p2⟩ := putF_rv (f := f) (RV.mono (k2.trans kk) d r1) ek (RVs.mono kk _ rr)
      have hl : gs.length < 1000 := by have := congrArg List.length ek; simp only [List.length_map] at this; omega
      exact ⟨a, C, dx, gs, rfl, sq, (hO C f q2.1.1).1, (hO C f q2.1.1).2, hl, k1.trans (k2.trans kk), σ, _, rs.mono (k1.trans (k2.trans kk)), m2.put (m := .ins C (putFD f d fs)) sq trivial ⟨dx, _, upd_same, p1, p2⟩, q2.2⟩
    · exact False.elim q2
  · exact False.elim q2
/-! ### C(..) -/
def spMake (C : Addr) (sp : SpD) : SpD := fun ds M Q => ∀ x, M x = none → sp (.ref x :: ds) (updM M x (.ins C [])) fun d M2 => isNon d = true ∧ Q (.ref x) M2
/-- a class of the text, made by its __init__ -/
def MkD (P : Program) (w : World) (K : PySem.W.Frag) (mg : Str → Option Value) (base : Heap) (k : Nat) (x : Str) (sp : SpD) : Prop :=
  ∃ C f fd ps sp0, Mk K C f ∧ mg x = some (.ref C) ∧ Binds K fd ps [] ∧ FnOk P w K mg base CX0 k f fd ps (liftSp K sp0) ∧ sp = spMake C sp0
theorem ped_make {k : Nat} {x : Str} {sp : SpD} {t : WA} {p : Pos} (F : MkD X.prog X.w X.K X.mg X.base k x sp) (hr : Room (k + 1) X.A) (hg : Gl X x) (hdb : (x == ("__debug__" : Str)) = false) (hs : notStar e = true) (hss : es.all notStar = true) (ha : PAd X (e :: es) t) :
    PEd X (.Call (.Name x p) (e :: es) [] pos) (wCall sp t) := by
  obtain ⟨C, f, fd, ps, sp0, M0, hm, hb, F0, rfl⟩ := F
  intro σ M ρ H Q rs rm q
  refine tW_of (pe_make M0 F0 hr hg hm hb .nil pass0 (pa_W (e :: es)) hdb (star_cons hs) (star_none hss)) ?_
  show tWA X (e :: es) ρ H _
  refine tWA_mono (ha σ M ρ H _ rs rm q) fun vs H1 ⟨k1, ds, M1, r1, l1, m1, q1⟩ => ?_
  intro z dx hz hdx hne
  have kk1 := Kp.new (o := .own z) hdx
  have hz2 : (upd H1 dx (.own z)) z = none := by rw [upd_ne hne.symm]; exact hz
  have kk2 := Kp.new (o := .ins C dx []) hz2
  have kk := kk1.trans kk2
  rw [List.append_nil]
  refine ⟨.ref z :: ds, updM M1 z (.ins C []), _, .cons (RV.ref_.2 rfl) (RVs.mono kk _ r1), (m1.newH hdx).new (m := .ins C []) hz2 ⟨dx, [], upd_same, rfl, .nil⟩, q1 z (m1.fresh hz), fun d M' v H' qd kq rv mm => ⟨?_, k1.trans (kk.trans kq), .ref z, M', RV.ref_.2 rfl, mm, qd.2⟩⟩
  have := isNon_rv rv
  rw [qd.1] at this
  exact of_decide_eq_true this
/-! ### o.m(..) of an own class -/
abbrev MT0 := Addr → Str → Option SpD
def MethD (P : Program) (w : World) (K : PySem.W.Frag) (mg : Str → Option Value) (base : Heap) (k : Nat) (C : Addr) (m : Str) (sp : SpD) : Prop :=
  ∃ f fd ps, Cls K C ∧ Meth K C m f ∧ Binds K fd ps [] ∧ FnOk P w K mg base CX0 k f fd ps (liftSp K sp)
def MtsOk (X : Cx) (T : MT0) : Prop := ∀ C m sp, T C m = some sp → ∃ k, MethD X.prog X.w X.K X.mg X.base k C m sp ∧ Room k X.A
def methD (x : D) (m : Str) (M : MH) (Q : Addr → Prop) : Prop := match x with
  | .ref a => match M a with
    | some (.ins C fs) => fs.lookup m = none ∧ Q C
    | _ => False
  | _ => False
def wMeth (T : MT0) (m : Str) (to : WE) (t : WA) : WE := fun σ M Q => to σ M fun x M1 => methD x m M1 fun C => optD (T C m) fun sp => t σ M1 fun ds M2 => sp (x :: ds) M2 Q
theorem few_ok {env : Env} {p : Pos} (h : es.all notStar = true) (hl : es.length < 20) : methodCallForm (es.length + ([] : List Keyword).length) (backTo p (starEach es env)) (backToKw p (keywordEach [] env)) = true := by
  unfold methodCallForm
  rw [star_all h]
  show (true && true && decide (es.length + 0 + 0 < 30)) = true
  rw [Bool.and_self, Bool.true_and]
  exact decide_eq_true (by omega)
theorem ht_of {env : Env} {m : Str} {apos : Pos} (hb : safeBase o = true) (h : es.all notStar = true) (hl : es.length < 20) (hline : (apos.endLine == pos.line) = true) : eval (.Call (.Attribute o m apos) es [] pos) env = (do
      let ov ← eval o env
      standAt apos.atName
      let (f, first) ← holding [ov] (getMethod ov m (do return (← importBound o env).getD true))
      callWith pos f first (backTo pos (starEach es env)) (backToKw pos (keywordEach [] env))) := by
  rw [arm_eval_Call, base_ok hb]
  unfold methodCall calleeOf methodCallPos
  rw [few_ok h hl]
  simp [hline]
theorem ped_meth {T : MT0} {m : Str} {to : WE} {t : WA} {apos : Pos} (hT : MtsOk X T) (ho : PEd X o to) (ha : PAd X (e :: es) t) (hb : safeBase o = true) (hs : notStar e = true) (hss : es.all notStar = true) (hl : es.length < 19) (hline : (apos.endLine == pos.line) = true) :
    PEd X (.Call (.Attribute o m apos) (e :: es) [] pos) (wMeth T m to t) := by
  intro σ M ρ H Q rs rm h pins s I
  have hall : (e :: es).all notStar = true := by rw [List.all_cons, hs, hss]; rfl
  refine PySem.W.methodCall_KW (thn (ho σ M ρ H _ rs rm h pins s I) fun u s1 ⟨v, H1, I1, rv, ⟨k1, x, M1, r1, m1, q1⟩⟩ => ?_) (ht_of hb hall (by rw [List.length_cons]; omega) hline)
  unfold methD at q1
  dsimp only at q1
  split at q1
  · rename_i a
    split at q1
    · rename_i C fs e1
      obtain ⟨hn, q1⟩ := q1
      obtain ⟨sp, eT, q1⟩ := optD_ex q1
      cases RV.ref_.1 r1
      obtain rfl : u = Value.ref a := rv
      obtain ⟨dx, gs, sq, ek, rr⟩ := m1 _ _ e1
      obtain ⟨k, ⟨f, fd, ps, c, hm, hbd, F⟩, hr⟩ := hT C m sp eT
      · refine getmeth_ok I1 sq c hm ((lookup_keys ek rr).1 hn) ?_
        refine PySem.W.callWith_K (first := [.ref a]) (h₀ := X.base) I.ok.mod.kin hm.kp (thn (ha σ M1 ρ H1 _ (rs.mono k1) m1 q1 pos pins s1 I1) fun us s2 ⟨vs, H2, I2, r, ⟨k2, ds, M2, r2, l2, m2, q2⟩⟩ => ⟨I2.kIn, ?_⟩) (star_cons hs) (star_none hss)
        refine run_fn (us := .ref a :: us) (vs := .ref a :: vs) F hr hbd .nil pass0 I2 (.cons rfl r) ?_
        rw [List.append_nil]
        exact ⟨.ref a :: ds, M2, Q, .cons (RV.ref_.2 rfl) r2, m2, q2, fun d M' v H' qd kq rv mm => ⟨k1.trans (k2.trans kq), d, M', rv, mm, qd⟩⟩
    · exact False.elim q1
  · exact False.elim q1
theorem ped_meth0 {T : MT0} {m : Str} {to : WE} {apos : Pos} (hT : MtsOk X T) (ho : PEd X o to) (hb : safeBase o = true) (hline : (apos.endLine == pos.line) = true) :
    PEd X (.Call (.Attribute o m apos) [] [] pos) (wMeth T m to wNil) := by
  intro σ M ρ H Q rs rm h pins s I
  refine PySem.W.methodCall_KW (thn (ho σ M ρ H _ rs rm h pins s I) fun u s1 ⟨v, H1, I1, rv, ⟨k1, x, M1, r1, m1, q1⟩⟩ => ?_) (ht_of hb rfl (by decide) hline)
  unfold methD at q1
  dsimp only at q1
  split at q1
  · rename_i a
    split at q1
    · rename_i C fs e1
      obtain ⟨hn, q1⟩ := q1
      obtain ⟨sp, eT, q1⟩ := optD_ex q1
      cases RV.ref_.1 r1
      obtain rfl : u = Value.ref a := rv
      obtain ⟨dx, gs, sq, ek, rr⟩ := m1 _ _ e1
      obtain ⟨k, ⟨f, fd, ps, c, hm, hbd, F⟩, hr⟩ := hT C m sp eT
      refine getmeth_ok I1 sq c hm ((lookup_keys ek rr).1 hn) ?_
      refine PySem.W.callWith_K0 (first := [.ref a]) I1.kIn hm.kp (run_fn (us := [.ref a]) (vs := [.ref a]) F hr hbd .nil pass0 I1 (.cons rfl .nil) ?_)
      exact ⟨[.ref a], M1, Q, .cons (RV.ref_.2 rfl) .nil, m1, q1, fun d M' v H' qd kq rv mm => ⟨k1.trans kq, d, M', rv, mm, qd⟩⟩
    · exact False.elim q1
  · exact False.elim q1
end
end DD

set_option Elab.async false
set_option maxRecDepth 100000
set_option maxHeartbeats 4000000
namespace DD
open PySem PyProof.Rows L2
/-! ### set(xs) of texts or of ints -/
section
variable {K : Type} [DecidableEq K]
end
section
variable {prog : Program} {w : World} {A : Around} {R : Result → Shared → Prop} {K : Type} [DecidableEq K] {knd : KeyKind prog w K}
end
end DD

set_option Elab.async false
set_option maxRecDepth 100000
set_option maxHeartbeats 8000000
namespace DD
open PySem PyProof.Rows L2
section
variable {prog : Program} {w : World} {A : Around} {Z : Value → Shared → Prop} {s : Shared} {K : Type} [DecidableEq K] {knd : KeyKind prog w K}
end
end DD

set_option Elab.async false
set_option maxRecDepth 100000
set_option maxHeartbeats 4000000
namespace DD
open PySem PySem.Spec PyProof.Rows L2
/-! ### len(set(xs)) -/
def lstD (d : D) (M : MH) (Q : List D → Prop) : Prop := match d with
  | .ref a => match M a with
    | some (.lst xs) => Q xs
    | some (.rol xs) => Q xs
    | _ => False
  | _ => False
section
variable {X : Cx} {H : Hp} {pos : Pos}
theorem lstD_at {K : PySem.W.Frag} {d : D} {M : MH} {Q : List D → Prop} {v : V} (q : lstD d M Q) (rv : RV K H d v) (rm : RM K M H) : ∃ a xs vs, v = .ref a ∧ SqL K H a vs ∧ RVs K H xs vs ∧ Q xs := by
  unfold lstD at q
  split at q
  · rename_i a
    split at q
    · rename_i xs e
      obtain ⟨ys, e1, rr⟩ := rm a _ e
      exact ⟨a, xs, ys, RV.ref_.1 rv, SqL.of e1, rr, q⟩
    · rename_i xs e
      obtain ⟨ys, e1, rr⟩ := rm a _ e
      exact ⟨a, xs, ys, RV.ref_.1 rv, .inl e1, rr, q⟩
    · exact False.elim q
  · exact False.elim q
end
end DD

set_option Elab.async false
set_option maxRecDepth 100000
set_option maxHeartbeats 4000000
namespace DD
open PySem PySem.Spec PyProof.Rows L2
/-! ### sum(xs) of ints and truths -/
def cntD : List D → Option (List Int)
  | [] => some []
  | .int x :: r => (cntD r).map (x :: ·)
  | .bl b :: r => (cntD r).map ((if b = true then 1 else 0) :: ·)
  | _ => none
theorem preSum_take (ns : List Int) : ∀ j, j ≤ ns.length → preSum (fun i => ns.getD i 0) j = (ns.take j).sum
  | 0, _ => by simp [preSum]
  | j + 1, h => by
    have hj : j < ns.length := h
    rw [preSum, preSum_take ns j (by omega), List.take_add_one, List.sum_append, List.getElem?_eq_getElem hj]
    simp [List.getD, List.getElem?_eq_getElem hj]
theorem cntD_get {K : PySem.W.Frag} {H : Hp} : ∀ {ds : List D} {ns : List Int} {vs : List V} {us : List Value} {i : Nat} {u : Value}, cntD ds = some ns → RVs K H ds vs → Vals vs us → us[i]? = some u → NumOf (ns.getD i 0) u
  | [], ns, vs, us, i, u, h, r, rv, e => by
    rw [RVs] at r; subst r
    cases rv
    cases e
  | .int x :: ds, ns, vs, us, i, u, h, r, rv, e => by
    rw [RVs] at r
    obtain ⟨v, vs', rfl, r1, r2⟩ := r
    cases rv with
    | cons ra rb =>
      rw [cntD] at h
      cases q : cntD ds with
      | none => rw [q] at h; cases h
      | some js =>
        rw [q] at h; cases h
        cases RV.int_.1 r1
        cases i with
        | zero => simp at e; subst e; exact .inl ra
        | succ i => simpa using cntD_get q r2 rb (by simpa using e)
  | .bl x :: ds, ns, vs, us, i, u, h, r, rv, e => by
    rw [RVs] at r
    obtain ⟨v, vs', rfl, r1, r2⟩ := r
    cases rv with
    | cons ra rb =>
      rw [cntD] at h
      cases q : cntD ds with
      | none => rw [q] at h; cases h
      | some js =>
        rw [q] at h; cases h
        cases RV.bl_.1 r1
        cases i with
        | zero => simp at e; subst e; exact .inr ⟨x, ra, rfl⟩
        | succ i => simpa using cntD_get q r2 rb (by simpa using e)
  | .non :: _, _, _, _, _, _, h, _, _, _ => by cases h
  | .str _ :: _, _, _, _, _, _, h, _, _, _ => by cases h
  | .tup _ :: _, _, _, _, _, _, h, _, _, _ => by cases h
  | .ref _ :: _, _, _, _, _, _, h, _, _, _ => by cases h
  | .ty _ :: _, _, _, _, _, _, h, _, _, _ => by cases h
theorem cntD_len : ∀ {ds : List D} {ns : List Int}, cntD ds = some ns → ns.length = ds.length
  | [], _, h => by rw [cntD] at h; cases h; rfl
  | .int x :: ds, ns, h => by
    rw [cntD] at h
    cases q : cntD ds with
    | none => rw [q] at h; cases h
    | some js => rw [q] at h; cases h; simp [cntD_len q]
  | .bl x :: ds, ns, h => by
    rw [cntD] at h
    cases q : cntD ds with
    | none => rw [q] at h; cases h
    | some js => rw [q] at h; cases h; simp [cntD_len q]
  | .non :: _, _, h => by cases h
  | .str _ :: _, _, h => by cases h
  | .tup _ :: _, _, h => by cases h
  | .ref _ :: _, _, h => by cases h
  | .ty _ :: _, _, h => by cases h
def dSum : SpD := fun ds M Q => match ds with
  | [d] => lstD d M fun xs => optD (cntD xs) fun ns => Q (.int ns.sum) M
  | _ => False
section
variable {X : Cx} {H : Hp} {pos : Pos} {e : Expr} {es : List Expr}
theorem cd_sum (hc : X.calm = true) : CallD X (.builtin "sum") dSum := by
  intro ds vs H M Q r rm h
  unfold dSum at h
  split at h
  · obtain ⟨v, rfl, r1⟩ := rvs1 r
    obtain ⟨a, xs, ws, rfl, hq, rr, q⟩ := lstD_at h r1 rm
    obtain ⟨ns, e2, q⟩ := optD_ex q
    intro pins s ρ us I rv0
    obtain ⟨u, rfl, ru⟩ := vals1 rv0
    cases ru
    obtain ⟨its, rv, pl, hz⟩ := I.list hq
    have hlt : a < s.heap.objs.size := by obtain ⟨o, _, e, _⟩ := pl; exact Heap.lt_size e
    have len : its.toArray.size = ns.length := by rw [cntD_len e2, rr.len, rv.length]; simp
    refine call_sum_walkAnyB (wpAny_pyIter_list pl.isList ⟨s.heap.objs.size, _, _, _, _, _, _, fun i => ns.getD i 0, rfl, (Walks.list (A := X.A.in1) (I.ok.hd hc) s.heap.objs.size a (Nat.ne_of_lt hlt) its.toArray).toS,
      ⟨⟨_, Heap.get?_push_size _ rfl, rfl, rfl⟩, pl.isList.push _⟩, fun b hb => ?_, fun i v hv => cntD_get e2 rr rv (by simpa using hv), fun s' t' mv => ?_⟩)
    · show b < (s.heap.push _).objs.size
      rw [Heap.size_push]
      rcases List.mem_cons.1 hb with y | y
      · exact y ▸ Nat.lt_succ_self _
      · exact (List.mem_singleton.1 y) ▸ Nat.lt_succ_of_lt hlt
    · rw [len, preSum_take ns _ (Nat.le_refl _), List.take_length]
      obtain ⟨h', g', d', tk', os'⟩ := s'
      obtain rfl : g' = s.gens := mv.gens
      obtain rfl : d' = s.drawn := mv.drawn
      obtain rfl : os' = s.os := mv.os
      refine ⟨.int _, H, I.kept (t' := tk') fun b o e => mv.heap b o ?_ (Heap.get?_push_of_some _ e), ⟨_, rfl⟩, lift_at (RV.int_.2 rfl) rm q⟩
      simp only [List.mem_singleton]
      exact Nat.ne_of_lt (Heap.lt_size e)
  · exact False.elim h
end
end DD

set_option Elab.async false
set_option maxRecDepth 100000
set_option maxHeartbeats 4000000
namespace DD
open PySem L2
/-! ### int(x) of a figure's text -/
end DD

set_option Elab.async false
set_option maxRecDepth 100000
set_option maxHeartbeats 4000000
namespace DD
open PySem PySem.Spec PyProof.Rows L2
section
variable {X : Cx} {H : Hp} {pos : Pos} {e : Expr} {es : List Expr}
/-- more of Python's own functions -/
inductive Bj where
  | sum
  deriving DecidableEq
def dBj : Bj → SpD
  | .sum => dSum
def bjName : Bj → Str
  | .sum => "sum"
theorem ped_bj (b : Bj) (hc : X.calm = true) {t : WA} {p : Pos} (hg : Gl X (bjName b)) (hm : X.mg (bjName b) = none) (hs : notStar e = true) (hss : es.all notStar = true) (ha : PAd X (e :: es) t) : PEd X (.Call (.Name (bjName b) p) (e :: es) [] pos) (wCall (dBj b) t) := by
  cases b with
  | sum => exact ped_callB (cd_sum hc) hg hm (by decide +kernel) (by decide) (by decide) hs hss ha
end
end DD

set_option Elab.async false
set_option maxRecDepth 100000
set_option maxHeartbeats 4000000
namespace DD
open PySem PySem.Spec PyProof.Rows L2
/-! ### list(range(n)), list(range(a, b)) -/
def rangeV (a : Int) (n : Nat) : List V := (List.range n).map fun (i : Nat) => .int (a + (i : Int))
theorem rangeV_len (a : Int) (n : Nat) : (rangeV a n).length = n := by unfold rangeV; rw [List.length_map, List.length_range]
theorem rvs_map {K : PySem.W.Frag} {H : Hp} {α : Type} {f : α → D} {g : α → V} (h : ∀ x, RV K H (f x) (g x)) : ∀ (l : List α), RVs K H (l.map f) (l.map g)
  | [] => .nil
  | x :: l => .cons (h x) (rvs_map h l)
theorem range_rv {K : PySem.W.Frag} {H : Hp} (a b : Int) : RVs K H (rangeD a b) (rangeV a (b - a).toNat) := rvs_map (fun _ => RV.int_.2 rfl) _
theorem range_vals : ∀ (its : List Value) (a : Int), (∀ (j : Nat) v, its[j]? = some v → ∃ t, v = Value.int (a + j * 1) t) → Vals (rangeV a its.length) its
  | [], _, _ => .nil
  | u :: its, a, h => by
    have e : rangeV a (u :: its).length = .int a :: rangeV (a + 1) its.length := by
      unfold rangeV
      rw [List.length_cons, List.range_succ_eq_map, List.map_cons, List.map_map]
      congr 1
      · simp
      · refine List.map_congr_left fun i _ => ?_
        show V.int (a + ((i + 1 : Nat) : Int)) = V.int (a + 1 + (i : Int))
        congr 1
        omega
    rw [e]
    refine .cons ?_ (range_vals its (a + 1) fun j v e => ?_)
    · obtain ⟨t, e⟩ := h 0 u rfl
      exact ⟨t, by rw [e]; simp⟩
    · obtain ⟨t, e2⟩ := h (j + 1) v (by simpa using e)
      refine ⟨t, ?_⟩
      rw [e2]
      congr 1
      omega
def rngD (ds : List D) (Q : List D → Prop) : Prop := match ds with
  | [.int j] => (-1000000 < j ∧ j < 1000000) ∧ Q (rangeD 0 j)
  | [.int i, .int j] => (-1000000 < i ∧ i < 1000000 ∧ -1000000 < j ∧ j < 1000000) ∧ Q (rangeD i j)
  | _ => False
def wLrg (t : WA) : WE := fun σ M Q => t σ M fun ds M1 => rngD ds fun xs => ∀ p, M1 p = none → Q (.ref p) (updM M1 p (.lst xs))
end DD

set_option Elab.async false
set_option maxRecDepth 100000
set_option maxHeartbeats 4000000
namespace DD
open PySem PySem.Spec PyProof.Rows L2
section
variable {X : Cx} {H : Hp} {pos : Pos} {e : Expr} {es : List Expr}
theorem lrg_go {pins : List (Addr × Obj)} {ρ : L2.St} {s : Shared} {lo hi : Int} {t u v : Tok} {tk : Nat} {M : MH} {H0 : Hp} {Q : DK} (hc : X.calm = true) (I : Inv X pins ρ H s) (k0 : Kp H0 H) (rm : RM X.K M H) (h1 : -1000000 < lo) (h2 : lo < 1000000) (h3 : -1000000 < hi) (h4 : hi < 1000000)
    (q : ∀ p, M p = none → Q (.ref p) (updM M p (.lst (rangeD lo hi)))) :
    wpAny (model X.prog X.w) X.A (call (.type "list") [.ref s.heap.objs.size]) (EP X pins ρ (lift X.K H0 Q)) X.xe { s with heap := s.heap.push { cls := .type "range", data := .fields #[.int lo t, .int hi u, .int 1 v] }, toks := tk } := by
  have I1 : Inv X pins ρ H { s with heap := s.heap.push { cls := .type "range", data := .fields #[.int lo t, .int hi u, .int 1 v] }, toks := tk } := I.kept fun b o e => Heap.get?_push_of_some _ e
  refine call_list_range (s := { s with heap := s.heap.push { cls := .type "range", data := .fields #[.int lo t, .int hi u, .int 1 v] }, toks := tk }) (n := (hi - lo).toNat) (I.ok.hd hc) (IsRange.new ..) (small_one (by omega) (by omega) (by omega) (by omega))
    (by rw [rangeSize_one]; split <;> omega) (by omega) fun h' tk' acc c' hk he hi' => ?_
  obtain ⟨hs, hi'⟩ := hi'
  have hl : acc.toList.length = (hi - lo).toNat := by rw [← hs]; simp
  have hv : Vals (rangeV lo (hi - lo).toNat) acc.toList := by
    rw [← hl]
    refine range_vals acc.toList lo fun j w e => ?_
    exact hi' j w (by rw [← Array.getElem?_toList]; exact e)
  have hf : H (s.heap.push { cls := .type "range", data := .fields #[.int lo t, .int hi u, .int 1 v] }).objs.size = none := I1.hok.fresh (Nat.le_refl _)
  have k := Kp.new (o := .lst (rangeV lo (hi - lo).toNat)) hf
  have hz : (rangeV lo (hi - lo).toNat).length ≤ sizeLine := by
    rw [rangeV_len]
    have : (2000000 : Nat) ≤ sizeLine := by decide
    omega
  exact ⟨.ref _, _, I1.laid (t' := tk') hk (Nat.le_refl _) (show ObjOk X.prog X.w _ h' _ (.lst (rangeV lo (hi - lo).toNat)) from ⟨hz, acc.toList, c', hv, by simpa using he⟩), rfl, k0.trans k, .ref _, _, RV.ref_.2 rfl, rm.new (m := .lst (rangeD lo hi)) hf ⟨_, upd_same, range_rv _ _⟩, q _ (rm.fresh hf)⟩
theorem ped_lrg1 {a : Expr} {t : WA} {p p2 pos2 : Pos} (hc : X.calm = true) (hg : Gl X "list") (hm : X.mg "list" = none) (hg2 : Gl X "range") (hm2 : X.mg "range" = none) (ha : PAd X [a] t) (hs : notStar a = true) :
    PEd X (.Call (.Name "list" p) [.Call (.Name "range" p2) [a] [] pos2] [] pos) (wLrg t) := by
  intro σ M ρ H Q rs rm q pins s I
  refine Call_ (ld_blt I hg hm (by decide +kernel : bootBuiltins "list" = some (.type "list")) (PyProof.Rows.callWith_type1 (args_cons (Call_ (ld_blt I hg2 hm2 boot_range (PyProof.Rows.callWith_type1 (thn (ha σ M ρ H _ rs rm q _ pins s I) fun us s1 ⟨vs, H1, I1, r1, ⟨k1, ds, M1, r2, l2, m1, q1⟩⟩ => ?_) (star_cons hs) rfl)))) rfl rfl))
  unfold rngD at q1
  dsimp only at q1
  split at q1
  · obtain ⟨v, rfl, r3⟩ := rvs1 r2
    cases RV.int_.1 r3
    obtain ⟨u, rfl, ru⟩ := vals1 r1
    obtain ⟨t, rfl⟩ := ru
    obtain ⟨⟨b1, b2⟩, q1⟩ := q1
    refine call_range_1 (args_nil ?_)
    exact lrg_go hc I1 k1 m1 (by decide) (by decide) b1 b2 q1
  · rename_i i j
    exact absurd l2 (by simp)
  · exact False.elim q1
theorem ped_lrg2 {a b : Expr} {t : WA} {p p2 pos2 : Pos} (hc : X.calm = true) (hg : Gl X "list") (hm : X.mg "list" = none) (hg2 : Gl X "range") (hm2 : X.mg "range" = none) (ha : PAd X [a, b] t) (hs : notStar a = true) (hs2 : notStar b = true) :
    PEd X (.Call (.Name "list" p) [.Call (.Name "range" p2) [a, b] [] pos2] [] pos) (wLrg t) := by
  intro σ M ρ H Q rs rm q pins s I
  refine Call_ (ld_blt I hg hm (by decide +kernel : bootBuiltins "list" = some (.type "list")) (PyProof.Rows.callWith_type1 (args_cons (Call_ (ld_blt I hg2 hm2 boot_range (PyProof.Rows.callWith_type1 (thn (ha σ M ρ H _ rs rm q _ pins s I) fun us s1 ⟨vs, H1, I1, r1, ⟨k1, ds, M1, r2, l2, m1, q1⟩⟩ => ?_) (star_cons hs) (star_none (by rw [List.all_cons, hs2]; rfl)))))) rfl rfl))
  unfold rngD at q1
  dsimp only at q1
  split at q1
  · exact absurd l2 (by simp)
  · obtain ⟨v, w', rfl, r3, r4⟩ := rvs2 r2
    cases RV.int_.1 r3
    cases RV.int_.1 r4
    obtain ⟨u, u', rfl, ru, ru'⟩ := r1.two
    obtain ⟨t, rfl⟩ := ru
    obtain ⟨t', rfl⟩ := ru'
    obtain ⟨⟨b1, b2, b3, b4⟩, q1⟩ := q1
    refine call_range_2 (args_nil ?_)
    exact lrg_go hc I1 k1 m1 b1 b2 b3 b4 q1
  · exact False.elim q1
/-! ### isinstance(x, C), C a class of the text's own -/
structure IsiOk (K : PySem.W.Frag) (C D : Addr) (b : Bool) : Prop where
  cl : Cls K C
  ha : PySem.W.findIn K (.ref C) "__class__" = some (some (.builtin "object.__class__"))
  hn : PySem.W.specialIn K (.builtin "object.__class__") "__get__" = some (some (.builtin "getset_descriptor.__get__"))
  ht : PySem.W.takesIn K (.builtin "object.__class__") = some true
  hm : PySem.W.mroIn K C (.type "object") = some true
  ki : PySem.W.kitOne K (.ref C) (.ref D) = some b
abbrev IS0 := Addr → Addr → Option Bool
def isiD (T : IS0) (x y : D) (M : MH) (Q : Bool → Prop) : Prop := match x, y with
  | .ref a, .ref d => match M a with
    | some (.ins C _) => optD (T C d) Q
    | _ => False
  | _, _ => False
def wIsi (T : IS0) (t : WA) : WE := fun σ M Q => t σ M fun ds M1 => match ds with
  | [x, y] => isiD T x y M1 fun b => Q (.bl b) M1
  | _ => False
theorem ped_isi {T : IS0} {t : WA} {p : Pos} (hT : ∀ C d b, T C d = some b → IsiOk X.K C d b) (hg : Gl X "isinstance") (hm : X.mg "isinstance" = none) (hs : notStar e = true) (hss : es.all notStar = true) (ha : PAd X (e :: es) t) :
    PEd X (.Call (.Name "isinstance" p) (e :: es) [] pos) (wIsi T t) := by
  have cd : CallD X (.builtin "isinstance") (fun ds M Q => match ds with
    | [x, y] => isiD T x y M fun b => Q (.bl b) M
    | _ => False) := by
    intro ds vs H M Q r rm h
    split at h
    · rename_i x y
      obtain ⟨v, w', rfl, r1, r2⟩ := rvs2 r
      unfold isiD at h
      split at h
      · rename_i a d
        split at h
        · rename_i C fs e1
          obtain ⟨b, e2, q⟩ := optD_ex h
          cases RV.ref_.1 r1
          cases RV.ref_.1 r2
          obtain ⟨dx, gs, sq, _⟩ := rm _ _ e1
          have o := hT C d b e2
          intro pins s ρ us I rv
          obtain ⟨u, u', rfl, q1, q2⟩ := rv.two
          cases q2
          exact isinst_ok I q1 (.ins sq o.cl o.ha o.hn o.ht o.hm) o.ki fun tk => ⟨.bl b, H, I.tok tk, rfl, lift_at (RV.bl_.2 rfl) rm q⟩
        · exact False.elim h
      · exact False.elim h
    · exact False.elim h
  exact ped_callB cd hg hm PyProof.Rows.boot_isinstance (by decide) (by decide) hs hss ha
end
end DD

set_option Elab.async false
set_option maxRecDepth 100000
set_option maxHeartbeats 4000000
/-! ## the text as data of our own, its reading, and that it is read so -/
namespace DD
open PySem PySem.Spec PyProof.Rows L2

mutual
inductive E where
  | var (i : Nat) | int (i : Int) | str (x : Str) | bl (b : Bool) | non | glob (j : Nat) | ty (T : String)
  | bin (o : Operator) (a b : E) | cmp (o : CmpOp) (a b : E)
  | and (a b : E) | or (a b : E) | not (a : E)
  | fn (j : Nat) (es : Es) | bi (b : Bi) (es : Es) | mt (m : Mt) (o : E) (es : Es) | mt0 (m : Mt) (o : E)
  | ix (a b : E) | sl (a : E) (lo hi : Eo) | lst (es : Es) | tup (es : Es) | comp (n : Nat) (e : E) (t : Tgt) (i : I) (c : To)
  | fld (o : E) (f : Str) | mu (m : Str) (o : E) (es : Es) | mu0 (m : Str) (o : E) | bj (b : Bj) (es : Es) | lrg (es : Es) | isi (es : Es)
inductive Ps where
  | nil | cons (k v : E) (r : Ps)
inductive Es where
  | nil | cons (e : E) (es : Es)
inductive Eo where
  | no | yes (e : E)
inductive To where
  | no | yes (t : T)
inductive T where
  | val (e : E) | cmp (o : CmpOp) (a b : E) | and (t u : T) | or (t u : T) | not (t : T)
inductive I where
  | seq (e : E) | rg1 (es : Es) | rg2 (es : Es)
end
mutual
inductive S where
  | set (i : Nat) (e : E) | setC (i n : Nat) (e : E) (t : Tgt) (it : I) (c : To) | asg (g : Tgt) (e : E) | expr (e : E) | ret (e : E)
  | ite (t : T) (a b : Ss) | for (g : Tgt) (it : I) (b : Ss)
  | putIx (o i e : E) | setF (o : E) (f : Str) (e : E)
inductive Ss where
  | nil | cons (s : S) (r : Ss)
end
/-- what a text may name: promises of defs, constants, fields of own classes, methods of own classes -/
structure Cn where
  F : List SpD
  G : List D
  O : OK0
  T : MT0
  I : IS0 := fun _ _ => none
section
variable (c : Cn)
mutual
def wE : E → WE
  | .var i => fun σ M Q => getS σ i fun d => Q d M
  | .int i => fun _ M Q => Q (.int i) M
  | .str i => fun _ M Q => Q (.str i) M
  | .bl i => fun _ M Q => Q (.bl i) M
  | .non => fun _ M Q => Q .non M
  | .glob j => fun _ M Q => Q (c.G.getD j .non) M
  | .ty n => fun _ M Q => Q (.ty n) M
  | .bin o a b => wOp (dBin o) (wE a) (wE b)
  | .cmp o a b => wOp (dCmp o) (wE a) (wE b)
  | .and a b => wAndV (wE a) (wE b)
  | .or a b => wOrV (wE a) (wE b)
  | .not a => wNotV (wE a)
  | .fn j es => wCall (c.F.getD j fun _ _ _ => False) (wEs es)
  | .bi b es => wCall (dBi b) (wEs es)
  | .bj b es => wCall (dBj b) (wEs es)
  | .lrg es => wLrg (wEs es)
  | .isi es => wIsi c.I (wEs es)
  | .mt m o es => wMt (mtRc m) (dMt m) (wE o) (wEs es)
  | .mt0 m o => wMt (mtRc m) (dMt m) (wE o) wNil
  | .ix a b => wOp dIx (wE a) (wE b)
  | .sl a lo hi => wSl (wE a) (wEo lo) (wEo hi)
  | .lst es => wLst (wEs es)
  | .tup es => wTup (wEs es)
  | .comp n e t i d => wComp n (wI i) t (wTo d) (wE e)
  | .fld o f => wFld c.O f (wE o)
  | .mu m o es => wMeth c.T m (wE o) (wEs es)
  | .mu0 m o => wMeth c.T m (wE o) wNil
def wP : Ps → List (WE × WE)
  | .nil => []
  | .cons k v r => (wE k, wE v) :: wP r
def wEs : Es → WA
  | .nil => wNil
  | .cons e es => wCons (wE e) (wEs es)
def wEo : Eo → WO
  | .no => fun _ M Q => Q none M
  | .yes e => fun σ M Q => wE e σ M fun x M1 => intD x fun i => Q (some i) M1
def wTo : To → WT
  | .no => fun _ M Q => Q true M
  | .yes t => wT t
def wT : T → WT
  | .val e => wTru (wE e)
  | .cmp o a b => wTest (wOp (dCmp o) (wE a) (wE b))
  | .and t u => wAnd (wT t) (wT u)
  | .or t u => wOr (wT t) (wT u)
  | .not t => wNot (wT t)
def wI : I → WI
  | .seq e => wSeqI (wE e)
  | .rg1 es => wRng1 (wEs es)
  | .rg2 es => wRng2 (wEs es)
end
mutual
def wS : S → WS
  | .set i e => wSet i (wE c e)
  | .setC i n e t it d => wSetC i n (wI c it) t (wTo c d) (wE c e)
  | .asg g e => wAsg (wE c e) g
  | .expr e => wDrop (wE c e)
  | .ret e => wRet (wE c e)
  | .ite t a b => wIfS (wT c t) (wSs a) (wSs b)
  | .for g it b => wFor (wI c it) g (wSs b)
  | .putIx o i e => wPutIx (wE c e) (wE c o) (wE c i)
  | .setF o f e => wSetF c.O f (wE c o) (wE c e)
def wSs : Ss → WS
  | .nil => wNext
  | .cons s r => wSeq (wS s) (wSs r)
end
end

/-! ### the look -/
structure Gam where
  N : List Str
  sc : Scope
  all : Bool
  glob : List Str
  blt : List Str
  fns : List Str
def visOk : Option NameKind → Bool
  | some .local => true
  | some .cell => true
  | some .free => true
  | _ => false
def locOk : Option NameKind → Bool
  | some .local => true
  | some .cell => true
  | _ => false
def chkVar (Γ : Gam) (i : Nat) (x : Str) : Bool := decide (Γ.N[i]? = some x) && visOk (Γ.sc.names.lookup x) && !(x == ("__debug__" : Str)) && !(x == ("__classdict__" : Str))
def chkLoc (Γ : Gam) (i : Nat) (x : Str) : Bool := decide (Γ.N[i]? = some x) && locOk (Γ.sc.names.lookup x) && (Γ.all || decide (Γ.sc.names.lookup x = some .local))
def chkGl (Γ : Gam) (x : Str) : Bool := decide (Γ.sc.names.lookup x = some .globalImplicit) && !(x == ("__debug__" : Str))
def ownTys : List String := ["bool", "int", "str", "tuple", "list", "dict"]
def ownOf (sc : Scope) : List Str := sc.names.filterMap fun p => if p.2 = .local ∧ p.1 ≠ (".0" : Str) then some p.1 else none
def n2Of (Γ : Gam) (sc : Scope) : List Str := Γ.N.map fun y => if sc.names.lookup y = some .local then "" else y
def compOk (Γ : Gam) (sc : Scope) : Bool := decide (sc.kind = .function) && sc.names.all (fun y => decide (y.2 ≠ .cell)) && sc.names.all (fun y => decide (y.2 = .local → sc.names.lookup y.1 = some .local)) &&
  sc.names.all (fun y => decide (y.2 = .free → (Γ.sc.names.lookup y.1 = some .cell ∨ Γ.sc.names.lookup y.1 = some .free))) && ((n2Of Γ sc).zip Γ.N).all (fun p => decide ((sc.names.lookup p.1 = some .free → p.1 = p.2) ∧ sc.names.lookup p.1 ≠ some .local)) && decide ((n2Of Γ sc ++ ownOf sc).Nodup)
/-- a block's names as it sees them -/
def relS (sc osc : Scope) : Scope := { sc with names := sc.names.map fun (p : Str × NameKind) => if (p.2 == NameKind.free && osc.kind == .function && osc.names.lookup p.1 == some .cell) = true then (p.1, NameKind.cell) else (p.1, p.2) }
def inComp (Γ : Gam) (sc : Scope) : Gam := { Γ with N := n2Of Γ sc ++ ownOf sc, sc := relS sc Γ.sc, all := false }
def chkNms (Γ : Gam) : List Nat → List Expr → Bool
  | [], [] => true
  | i :: is, .Name x _ :: es => chkLoc Γ i x && chkNms Γ is es
  | _, _ => false
def chkTg (Γ : Gam) : Tgt → Expr → Bool
  | .nm i, .Name x _ => chkLoc Γ i x
  | .tp is, .Tuple es _ _ => chkNms Γ is es
  | _, _ => false
def plainT : Expr → Bool
  | .UnaryOp .Not _ _ => false
  | .BoolOp _ _ _ => false
  | .IfExp _ _ _ _ => false
  | .Compare _ _ _ _ => false
  | _ => true
mutual
def chkE : Gam → E → Expr → Bool
  | Γ, .var i, e => match e with
    | .Name x _ => chkVar Γ i x
    | _ => false
  | _, .int i, e => match e with
    | .Constant (.int j) _ _ => decide (i = j)
    | _ => false
  | _, .str i, e => match e with
    | .Constant (.str j) _ _ => decide (i = j)
    | _ => false
  | _, .bl i, e => match e with
    | .Constant (.bool j) _ _ => decide (i = j)
    | _ => false
  | _, .non, e => match e with
    | .Constant .none _ _ => true
    | _ => false
  | Γ, .glob j, e => match e with
    | .Name x _ => chkGl Γ x && decide (Γ.glob[j]? = some x)
    | _ => false
  | Γ, .ty n, e => match e with
    | .Name x _ => chkGl Γ x && Γ.blt.contains x && decide (x = Str.ofString n) && ownTys.contains n
    | _ => false
  | Γ, .bin o a b, e => match e with
    | .BinOp l op r _ => decide (o = op) && chkE Γ a l && chkE Γ b r
    | _ => false
  | Γ, .cmp o a b, e => match e with
    | .Compare l [op] [r] _ => decide (o = op) && chkE Γ a l && chkE Γ b r && !(behindInMarks op r)
    | _ => false
  | Γ, .and a b, e => match e with
    | .BoolOp .And [l, r] _ => chkE Γ a l && chkE Γ b r
    | .BoolOp .And (l :: r :: q :: rest) pos => chkE Γ a l && chkE Γ b (.BoolOp .And (r :: q :: rest) pos)
    | _ => false
  | Γ, .or a b, e => match e with
    | .BoolOp .Or [l, r] _ => chkE Γ a l && chkE Γ b r
    | .BoolOp .Or (l :: r :: q :: rest) pos => chkE Γ a l && chkE Γ b (.BoolOp .Or (r :: q :: rest) pos)
    | _ => false
  | Γ, .not a, e => match e with
    | .UnaryOp .Not l _ => chkE Γ a l
    | _ => false
  | Γ, .fn j es, e => match e with
    | .Call (.Name x _) (a :: as) [] _ => chkGl Γ x && decide (Γ.fns[j]? = some x) && notStar a && as.all notStar && chkEs Γ es (a :: as)
    | _ => false
  | Γ, .bi b es, e => match e with
    | .Call (.Name x _) (a :: as) [] _ => chkGl Γ x && Γ.blt.contains x && decide (x = biName b) && notStar a && as.all notStar && chkEs Γ es (a :: as)
    | _ => false
  | Γ, .bj b es, e => match e with
    | .Call (.Name x _) (a :: as) [] _ => chkGl Γ x && Γ.blt.contains x && decide (x = bjName b) && notStar a && as.all notStar && chkEs Γ es (a :: as)
    | _ => false
  | Γ, .lrg es, e => match e with
    | .Call (.Name x _) [.Call (.Name y _) [l] [] _] [] _ => chkGl Γ x && Γ.blt.contains x && decide (x = ("list" : Str)) && chkGl Γ y && Γ.blt.contains y && decide (y = ("range" : Str)) && notStar l && chkEs Γ es [l]
    | .Call (.Name x _) [.Call (.Name y _) [l, r] [] _] [] _ => chkGl Γ x && Γ.blt.contains x && decide (x = ("list" : Str)) && chkGl Γ y && Γ.blt.contains y && decide (y = ("range" : Str)) && notStar l && notStar r && chkEs Γ es [l, r]
    | _ => false
  | Γ, .isi es, e => match e with
    | .Call (.Name x _) (a :: as) [] _ => chkGl Γ x && Γ.blt.contains x && decide (x = ("isinstance" : Str)) && notStar a && as.all notStar && chkEs Γ es (a :: as)
    | _ => false
  | Γ, .mt m o es, e => match e with
    | .Call (.Attribute l x apos) (a :: as) [] pos => decide (x = mtName m) && chkE Γ o l && safeBase l && notStar a && as.all notStar && decide (as.length < 20) && (apos.endLine == pos.line) && chkEs Γ es (a :: as)
    | _ => false
  | Γ, .mt0 m o, e => match e with
    | .Call (.Attribute l x apos) [] [] pos => decide (x = mtName m) && chkE Γ o l && safeBase l && (apos.endLine == pos.line)
    | _ => false
  | Γ, .ix a b, e => match e with
    | .Subscript l r _ => chkE Γ a l && chkE Γ b r && notSlice r
    | _ => false
  | Γ, .sl a lo hi, e => match e with
    | .Subscript l (.Slice x y none _) _ => chkE Γ a l && chkEo Γ lo x && chkEo Γ hi y
    | _ => false
  | Γ, .lst es, e => match e with
    | .List as _ => chkEs Γ es as && decide (as.length ≤ 1000)
    | _ => false
  | Γ, .tup es, e => match e with
    | .Tuple as _ _ => chkEs Γ es as && decide (as.length ≤ 1000)
    | _ => false
  | Γ, .comp n e t i c, ex => match ex with
    | .ListComp elt [⟨tg, it, ifs, ia⟩] sc _ => compOk Γ sc && decide (n = (ownOf sc).length) && decide (ia = 0) && chkI Γ i tg it && notSet it && chkTg (inComp Γ sc) t tg && chkTo (inComp Γ sc) c ifs && chkE (inComp Γ sc) e elt
    | _ => false
  | Γ, .fld o f, e => match e with
    | .Attribute l x _ => chkE Γ o l && decide (x = f) && safeBase l
    | _ => false
  | Γ, .mu m o es, e => match e with
    | .Call (.Attribute l x apos) (a :: as) [] pos => decide (x = m) && chkE Γ o l && safeBase l && notStar a && as.all notStar && decide (as.length < 19) && (apos.endLine == pos.line) && chkEs Γ es (a :: as)
    | _ => false
  | Γ, .mu0 m o, e => match e with
    | .Call (.Attribute l x apos) [] [] pos => decide (x = m) && chkE Γ o l && safeBase l && (apos.endLine == pos.line)
    | _ => false
def chkP : Gam → Ps → List (Option Expr) → List Expr → Bool
  | _, .nil, ks, vs => match ks, vs with
    | [], [] => true
    | _, _ => false
  | Γ, .cons k v r, ks, vs => match ks, vs with
    | some x :: ks, y :: vs => chkE Γ k x && chkE Γ v y && chkP Γ r ks vs
    | _, _ => false
def chkEs : Gam → Es → List Expr → Bool
  | _, .nil, as => match as with
    | [] => true
    | _ => false
  | Γ, .cons e es, as => match as with
    | a :: as => chkE Γ e a && notStar a && chkEs Γ es as
    | _ => false
def chkEo : Gam → Eo → Option Expr → Bool
  | _, .no, a => match a with
    | none => true
    | _ => false
  | Γ, .yes e, a => match a with
    | some a => chkE Γ e a
    | _ => false
def chkTo : Gam → To → List Expr → Bool
  | _, .no, as => match as with
    | [] => true
    | _ => false
  | Γ, .yes t, as => match as with
    | [a] => chkT Γ t a
    | _ => false
def chkT : Gam → T → Expr → Bool
  | Γ, .val e, ex => chkE Γ e ex && plainT ex
  | Γ, .cmp o a b, e => match e with
    | .Compare l [op] [r] _ => decide (o = op) && chkE Γ a l && chkE Γ b r && !(behindInMarks op r)
    | _ => false
  | Γ, .and a b, e => match e with
    | .BoolOp .And [l, r] _ => chkT Γ a l && chkT Γ b r
    | .BoolOp .And (l :: r :: q :: rest) pos => chkT Γ a l && chkT Γ b (.BoolOp .And (r :: q :: rest) pos)
    | _ => false
  | Γ, .or a b, e => match e with
    | .BoolOp .Or [l, r] _ => chkT Γ a l && chkT Γ b r
    | .BoolOp .Or (l :: r :: q :: rest) pos => chkT Γ a l && chkT Γ b (.BoolOp .Or (r :: q :: rest) pos)
    | _ => false
  | Γ, .not a, e => match e with
    | .UnaryOp .Not l _ => chkT Γ a l
    | _ => false
def chkI : Gam → I → Expr → Expr → Bool
  | Γ, .seq e, _, ex => chkE Γ e ex
  | Γ, .rg1 es, _, e => match e with
    | .Call (.Name x _) [a] [] _ => chkGl Γ x && Γ.blt.contains x && decide (x = ("range" : Str)) && notStar a && chkEs Γ es [a]
    | _ => false
  | Γ, .rg2 es, _, e => match e with
    | .Call (.Name x _) [a, b] [] _ => chkGl Γ x && Γ.blt.contains x && decide (x = ("range" : Str)) && notStar a && notStar b && chkEs Γ es [a, b]
    | _ => false
end
def notTupE : Expr → Bool
  | .Tuple _ _ _ => false
  | _ => true
mutual
def chkS : Gam → S → Stmt → Bool
  | Γ, .set i e, st => match st with
    | .Assign [.Name x _] v _ => chkLoc Γ i x && notComp v && chkE Γ e v
    | _ => false
  | Γ, .setC i n e t j c, st => match st with
    | .Assign [.Name y py] (.ListComp elt [⟨tg, it, ifs, ia⟩] sc pos) spos => decide (Γ.N[i]? = some y) && decide (Γ.sc.names.lookup y = some .local) && (py.line == pos.line) && !(sc.names.any fun (p : Str × NameKind) => p.1 == y && (p.2 == .local || p.2 == .cell)) &&
      compOk Γ sc && decide (n = (ownOf sc).length) && decide (ia = 0) && chkI Γ j tg it && notSet it && chkTg (inComp Γ sc) t tg && chkTo (inComp Γ sc) c ifs && chkE (inComp Γ sc) e elt
    | _ => false
  | Γ, .asg g e, st => match st with
    | .Assign [.Tuple es k p] v _ => chkTg Γ g (.Tuple es k p) && notComp v && notTupE v && chkE Γ e v
    | _ => false
  | Γ, .expr e, st => match st with
    | .Expr v _ => notComp v && chkE Γ e v
    | _ => false
  | Γ, .ret e, st => match st with
    | .Return (some v) _ => chkE Γ e v
    | _ => false
  | Γ, .ite t a b, st => match st with
    | .If c x y _ => chkT Γ t c && chkSs Γ a x && chkSs Γ b y
    | _ => false
  | Γ, .for g j b, st => match st with
    | .For tg it body [] _ => chkTg Γ g tg && chkI Γ j tg it && notSet it && chkSs Γ b body
    | _ => false
  | Γ, .putIx o i e, st => match st with
    | .Assign [.Subscript l r _] v _ => chkE Γ o l && chkE Γ i r && chkE Γ e v && notComp v && notSlice r
    | _ => false
  | Γ, .setF o f e, st => match st with
    | .Assign [.Attribute l x _] v _ => chkE Γ o l && decide (x = f) && chkE Γ e v && notComp v
    | _ => false
def chkSs : Gam → Ss → List Stmt → Bool
  | _, .nil, l => match l with
    | [] => true
    | _ => false
  | Γ, .cons s r, l => match l with
    | st :: sts => chkS Γ s st && chkSs Γ r sts
    | _ => false
end
end DD

set_option Elab.async false
set_option maxRecDepth 100000
set_option maxHeartbeats 4000000
namespace DD
open PySem PySem.Spec PyProof.Rows L2
/-- a def, or a class that is made, with its promise -/
def FnAny (P : Program) (w : World) (K : PySem.W.Frag) (mg : Str → Option Value) (base : Heap) (k : Nat) (x : Str) (sp : SpD) : Prop := FnD P w K mg base k x sp ∨ ∃ k', k = k' + 1 ∧ MkD P w K mg base k' x sp
structure GOk (Γ : Gam) (c : Cn) (X : Cx) : Prop where
  N : X.N = Γ.N
  sc : X.env.scope = Γ.sc
  kind : Γ.sc.kind = .function
  nd : Γ.N.Nodup
  calm : X.calm = true
  fn : Γ.all = true → ∀ x, X.fn x = true
  own : PassesOwn (model X.prog X.w) X.A X.env X.xe
  glob : ∀ (j : Nat) x, Γ.glob[j]? = some x → GlobOk X.K X.mg x (c.G.getD j .non)
  blt : ∀ x, Γ.blt.contains x = true → X.mg x = none
  fns : ∀ (j : Nat) x, Γ.fns[j]? = some x → ∃ k, FnAny X.prog X.w X.K X.mg X.base k x (c.F.getD j fun _ _ _ => False) ∧ Room k X.A
  flds : ∀ C f, c.O C f → Cls X.K C ∧ NoAttr X.K C f
  mts : MtsOk X c.T
  isi : ∀ C d b, c.I C d = some b → IsiOk X.K C d b
  hu : X.A.units + 40 < cLine
section
variable {Γ : Gam} {X : Cx} {e : Expr} {pos : Pos} {cn : Cn}
theorem rel_eq (sc : Scope) (env : Env) : relabel sc env = relS sc env.scope := rfl
theorem GOk.comp {sc : Scope} {C : Addr} {s : Shared} {H : Hp} {ex : List Addr} {pn : List (Addr × Obj)} (g : GOk Γ cn X) (h : compOk Γ sc = true) : GOk (inComp Γ sc) cn (cxC X sc (ownOf sc) (n2Of Γ sc) C s H ex pn) := by
  unfold compOk at h
  simp only [Bool.and_eq_true, decide_eq_true_eq] at h
  obtain ⟨⟨⟨⟨⟨h1, h2⟩, h3⟩, h4⟩, h5⟩, h6⟩ := h
  refine ⟨rfl, ?_, h1, h6, g.calm, (fun z => nomatch z), PassesOwn.never, g.glob, g.blt, g.fns, g.flds, g.mts, g.isi, g.hu⟩
  show relabel sc X.env = relS sc Γ.sc
  rw [rel_eq, g.sc]
theorem GOk.cscope {sc : Scope} (g : GOk Γ cn X) (h : compOk Γ sc = true) : CompScope Γ.sc sc X.N (ownOf sc) (n2Of Γ sc) := by
  unfold compOk at h
  simp only [Bool.and_eq_true, decide_eq_true_eq] at h
  obtain ⟨⟨⟨⟨⟨h1, h2⟩, h3⟩, h4⟩, h5⟩, h6⟩ := h
  rw [List.all_eq_true] at h2 h3 h4 h5
  refine ⟨h1, fun y hy => of_decide_eq_true (h2 y hy), fun y hy => of_decide_eq_true (h3 y hy), fun y hy => of_decide_eq_true (h4 y hy), ?_, fun p hp => ?_⟩
  · rw [g.N]; unfold n2Of; rw [List.length_map]
  · rw [g.N] at hp; exact of_decide_eq_true (h5 p hp)
theorem visOk_ok {sc : Scope} {x : Str} (h : visOk (sc.names.lookup x) = true) : Vis sc x := by
  unfold visOk at h
  unfold Vis
  split at h
  · exact .inl (by assumption)
  · exact .inr (.inl (by assumption))
  · exact .inr (.inr (by assumption))
  · cases h
theorem locOk_ok {sc : Scope} {x : Str} (h : locOk (sc.names.lookup x) = true) : L2.Loc sc x := by
  unfold locOk at h
  unfold L2.Loc
  split at h
  · exact .inl (by assumption)
  · exact .inr (by assumption)
  · cases h
theorem s_loc {i : Nat} {x : Str} (g : GOk Γ cn X) (h : chkLoc Γ i x = true) : X.N.Nodup ∧ X.N[i]? = some x ∧ L2.Loc X.env.scope x ∧ (X.fn x = true ∨ X.env.scope.names.lookup x = some .local) := by
  unfold chkLoc at h
  simp only [Bool.and_eq_true, Bool.or_eq_true, decide_eq_true_eq] at h
  obtain ⟨⟨h1, h2⟩, h3⟩ := h
  rw [g.N, g.sc]
  exact ⟨g.nd, h1, locOk_ok h2, h3.imp (fun z => g.fn z x) id⟩
theorem s_gl {x : Str} (g : GOk Γ cn X) (h : chkGl Γ x = true) : Gl X x ∧ (x == ("__debug__" : Str)) = false := by
  unfold chkGl at h
  simp only [Bool.and_eq_true, decide_eq_true_eq, Bool.not_eq_true'] at h
  refine ⟨?_, h.2⟩
  show X.env.scope.names.lookup x = _
  rw [g.sc]; exact h.1
theorem s_nms (g : GOk Γ cn X) : ∀ {is : List Nat} {es : List Expr}, chkNms Γ is es = true → PGs X es (gsOf is) ∧ (assignEach es X.env).length = is.length ∧ (assignEach es X.env).findIdx? (·.1) = none
  | [], [], _ => ⟨pgs_nil, rfl, rfl⟩
  | i :: is, .Name x p :: es, h => by
    unfold chkNms at h
    rw [Bool.and_eq_true] at h
    obtain ⟨h1, h2, h3⟩ := s_nms g h.2
    obtain ⟨a, b, c, d⟩ := s_loc g h.1
    refine ⟨pgs_cons (pg_name a b c d) h1 rfl, ?_, ?_⟩
    · show (assignEach es X.env).length + 1 = is.length + 1; rw [h2]
    · show List.findIdx? (·.1) ((false, assign (.Name x p) X.env) :: assignEach es X.env) = none
      rw [List.findIdx?_cons]; simp [h3]
  | [], _ :: _, h => by cases h
  | _ :: _, [], h => by cases h
  | _ :: _, .BoolOp .. :: _, h => by cases h
  | _ :: _, .NamedExpr .. :: _, h => by cases h
  | _ :: _, .BinOp .. :: _, h => by cases h
  | _ :: _, .UnaryOp .. :: _, h => by cases h
  | _ :: _, .Lambda .. :: _, h => by cases h
  | _ :: _, .IfExp .. :: _, h => by cases h
  | _ :: _, .Dict .. :: _, h => by cases h
  | _ :: _, .Set .. :: _, h => by cases h
  | _ :: _, .ListComp .. :: _, h => by cases h
  | _ :: _, .SetComp .. :: _, h => by cases h
  | _ :: _, .DictComp .. :: _, h => by cases h
  | _ :: _, .GeneratorExp .. :: _, h => by cases h
  | _ :: _, .Await .. :: _, h => by cases h
  | _ :: _, .Yield .. :: _, h => by cases h
  | _ :: _, .YieldFrom .. :: _, h => by cases h
  | _ :: _, .Compare .. :: _, h => by cases h
  | _ :: _, .Call .. :: _, h => by cases h
  | _ :: _, .FormattedValue .. :: _, h => by cases h
  | _ :: _, .JoinedStr .. :: _, h => by cases h
  | _ :: _, .Constant .. :: _, h => by cases h
  | _ :: _, .Attribute .. :: _, h => by cases h
  | _ :: _, .Subscript .. :: _, h => by cases h
  | _ :: _, .Starred .. :: _, h => by cases h
  | _ :: _, .List .. :: _, h => by cases h
  | _ :: _, .Tuple .. :: _, h => by cases h
  | _ :: _, .Slice .. :: _, h => by cases h
theorem s_tg {t : Tgt} {tg : Expr} (g : GOk Γ cn X) (h : chkTg Γ t tg = true) : PG X tg (gOf X.K t) := by
  unfold chkTg at h
  split at h
  · obtain ⟨a, b, c, d⟩ := s_loc g h
    exact pg_name a b c d
  · obtain ⟨h1, h2, h3⟩ := s_nms g h
    exact pg_tup g.calm h1 h2 h3
  · cases h
theorem plainT_ok {env : Env} (h : plainT e = true) : ∀ whole, isTrue e env whole = (do let v ← whole; standAt e.pos; holding [v] (truthy v)) := by
  intro w
  cases e with
  | UnaryOp op a p => cases op <;> first | rfl | exact absurd (show false = true from h) Bool.false_ne_true
  | BoolOp _ _ _ => exact absurd (show false = true from h) Bool.false_ne_true
  | IfExp _ _ _ _ => exact absurd (show false = true from h) Bool.false_ne_true
  | Compare _ _ _ _ => exact absurd (show false = true from h) Bool.false_ne_true
  | _ => rfl
theorem boot_ty : ∀ n ∈ ownTys, bootBuiltins (Str.ofString n) = some (.type n) := by decide +kernel
theorem ty_name : ∀ n ∈ ownTys, Str.ofString n ≠ ("__name__" : Str) := by decide +kernel
/-- PWd for a test that is itself an and, an or -/
theorem wpd_or_val {t : WT} (h : PTd X e t) (hp : (∃ vs p, e = .BoolOp .And vs p) ∨ ∃ vs p, e = .BoolOp .Or vs p) : PWd X e t := by
  rcases hp with ⟨vs, p, rfl⟩ | ⟨vs, p, rfl⟩
  · intro σ M ρ H Q rs rm q whole pins s I
    exact h σ M ρ H Q rs rm q pins s I
  · intro σ M ρ H Q rs rm q whole pins s I
    exact h σ M ρ H Q rs rm q pins s I
mutual
theorem sE : ∀ (ir : E) {Γ : Gam} {cn : Cn} {X : Cx} {e : Expr}, GOk Γ cn X → chkE Γ ir e = true → PEd X e (wE cn ir)
  | .var i, Γ, cn, X, e, g, h => by
    unfold chkE at h
    split at h
    · unfold chkVar at h
      simp only [Bool.and_eq_true, decide_eq_true_eq, Bool.not_eq_true'] at h
      rw [wE]
      exact ped_var (by rw [g.N]; exact h.1.1.1) (by rw [g.sc]; exact visOk_ok h.1.1.2) h.1.2 h.2
    · cases h
  | .int i, Γ, cn, X, e, g, h => by
    unfold chkE at h
    split at h
    · cases of_decide_eq_true h; rw [wE]; exact ped_int
    · cases h
  | .str i, Γ, cn, X, e, g, h => by
    unfold chkE at h
    split at h
    · cases of_decide_eq_true h; rw [wE]; exact ped_str
    · cases h
  | .bl i, Γ, cn, X, e, g, h => by
    unfold chkE at h
    split at h
    · cases of_decide_eq_true h; rw [wE]; exact ped_bl
    · cases h
  | .non, Γ, cn, X, e, g, h => by
    unfold chkE at h
    split at h
    · rw [wE]; exact ped_non
    · cases h
  | .glob j, Γ, cn, X, e, g, h => by
    unfold chkE at h
    split at h
    · rw [Bool.and_eq_true] at h
      obtain ⟨h1, h2⟩ := s_gl g h.1
      rw [wE]
      exact ped_glob h1 (g.glob j _ (of_decide_eq_true h.2)) h2
    · cases h
  | .ty n, Γ, cn, X, e, g, h => by
    unfold chkE at h
    split at h
    · simp only [Bool.and_eq_true, decide_eq_true_eq] at h
      obtain ⟨⟨⟨h1, h2⟩, rfl⟩, h4⟩ := h
      obtain ⟨h5, h6⟩ := s_gl g h1
      have h4 : n ∈ ownTys := by simpa using h4
      rw [wE]
      exact ped_C (pe_bltn (v := .ty n) h5 (g.blt _ h2) (boot_ty n h4) rfl (ty_name n h4) h6) fun _ => RV.ty_.2 rfl
    · cases h
  | .bin o a b, Γ, cn, X, e, g, h => by
    unfold chkE at h
    split at h
    · simp only [Bool.and_eq_true, decide_eq_true_eq] at h
      obtain ⟨⟨rfl, h2⟩, h3⟩ := h
      rw [wE]
      exact ped_bin (opd_bin o) (sE a g h2) (sE b g h3)
    · cases h
  | .cmp o a b, Γ, cn, X, e, g, h => by
    unfold chkE at h
    split at h
    · simp only [Bool.and_eq_true, decide_eq_true_eq, Bool.not_eq_true'] at h
      obtain ⟨⟨⟨rfl, h2⟩, h3⟩, h4⟩ := h
      rw [wE]
      exact ped_cmp (opd_cmp g.hu o) (sE a g h2) (sE b g h3) h4
    · cases h
  | .and a b, Γ, cn, X, e, g, h => by
    unfold chkE at h
    split at h
    · rw [Bool.and_eq_true] at h
      rw [wE]; exact ped_and (sE a g h.1) (ped_one (sE b g h.2))
    · rw [Bool.and_eq_true] at h
      rw [wE]; exact ped_and (sE a g h.1) (sE b g h.2)
    · cases h
  | .or a b, Γ, cn, X, e, g, h => by
    unfold chkE at h
    split at h
    · rw [Bool.and_eq_true] at h
      rw [wE]; exact ped_or (sE a g h.1) (ped_one (sE b g h.2))
    · rw [Bool.and_eq_true] at h
      rw [wE]; exact ped_or (sE a g h.1) (sE b g h.2)
    · cases h
  | .not a, Γ, cn, X, e, g, h => by
    unfold chkE at h
    split at h
    · rw [wE]; exact ped_not (sE a g h)
    · cases h
  | .fn j es, Γ, cn, X, e, g, h => by
    unfold chkE at h
    split at h
    · simp only [Bool.and_eq_true, decide_eq_true_eq] at h
      obtain ⟨⟨⟨⟨h1, h2⟩, h3⟩, h4⟩, h5⟩ := h
      obtain ⟨h6, h7⟩ := s_gl g h1
      obtain ⟨k, Fj, hr⟩ := g.fns j _ h2
      rw [wE]
      rcases Fj with Fj | ⟨k', rfl, Fj⟩
      · exact ped_def Fj hr h6 h7 h3 h4 (sEs es g h5)
      · exact ped_make Fj hr h6 h7 h3 h4 (sEs es g h5)
    · cases h
  | .bi b es, Γ, cn, X, e, g, h => by
    unfold chkE at h
    split at h
    · simp only [Bool.and_eq_true, decide_eq_true_eq] at h
      obtain ⟨⟨⟨⟨⟨h1, h2⟩, rfl⟩, h3⟩, h4⟩, h5⟩ := h
      obtain ⟨h6, h7⟩ := s_gl g h1
      rw [wE]
      exact ped_bi b g.calm h6 (g.blt _ h2) h3 h4 (sEs es g h5)
    · cases h
  | .bj b es, Γ, cn, X, e, g, h => by
    unfold chkE at h
    split at h
    · simp only [Bool.and_eq_true, decide_eq_true_eq] at h
      obtain ⟨⟨⟨⟨⟨h1, h2⟩, rfl⟩, h3⟩, h4⟩, h5⟩ := h
      obtain ⟨h6, h7⟩ := s_gl g h1
      rw [wE]
      exact ped_bj b g.calm h6 (g.blt _ h2) h3 h4 (sEs es g h5)
    · cases h
  | .lrg es, Γ, cn, X, e, g, h => by
    unfold chkE at h
    split at h
    · simp only [Bool.and_eq_true, decide_eq_true_eq] at h
      obtain ⟨⟨⟨⟨⟨⟨⟨h1, h2⟩, rfl⟩, h3⟩, h4⟩, rfl⟩, h5⟩, h6⟩ := h
      rw [wE]
      exact ped_lrg1 g.calm (s_gl g h1).1 (g.blt _ h2) (s_gl g h3).1 (g.blt _ h4) (sEs es g h6) h5
    · simp only [Bool.and_eq_true, decide_eq_true_eq] at h
      obtain ⟨⟨⟨⟨⟨⟨⟨⟨h1, h2⟩, rfl⟩, h3⟩, h4⟩, rfl⟩, h5⟩, h5'⟩, h6⟩ := h
      rw [wE]
      exact ped_lrg2 g.calm (s_gl g h1).1 (g.blt _ h2) (s_gl g h3).1 (g.blt _ h4) (sEs es g h6) h5 h5'
    · cases h
  | .isi es, Γ, cn, X, e, g, h => by
    unfold chkE at h
    split at h
    · simp only [Bool.and_eq_true, decide_eq_true_eq] at h
      obtain ⟨⟨⟨⟨⟨h1, h2⟩, rfl⟩, h3⟩, h4⟩, h5⟩ := h
      rw [wE]
      exact ped_isi g.isi (s_gl g h1).1 (g.blt _ h2) h3 h4 (sEs es g h5)
    · cases h
  | .mt m o es, Γ, cn, X, e, g, h => by
    unfold chkE at h
    split at h
    · simp only [Bool.and_eq_true, decide_eq_true_eq] at h
      obtain ⟨⟨⟨⟨⟨⟨⟨rfl, h1⟩, h2⟩, h3⟩, h4⟩, h5⟩, h6⟩, h7⟩ := h
      rw [wE]
      exact ped_mtd m (sE o g h1) (sEs es g h7) h2 h3 h4 h5 h6
    · cases h
  | .mt0 m o, Γ, cn, X, e, g, h => by
    unfold chkE at h
    split at h
    · simp only [Bool.and_eq_true, decide_eq_true_eq] at h
      obtain ⟨⟨⟨rfl, h1⟩, h2⟩, h3⟩ := h
      rw [wE]
      exact ped_mtd0 m (sE o g h1) h2 h3
    · cases h
  | .ix a b, Γ, cn, X, e, g, h => by
    unfold chkE at h
    split at h
    · simp only [Bool.and_eq_true] at h
      rw [wE]; exact ped_ix g.hu (sE a g h.1.1) (sE b g h.1.2) h.2
    · cases h
  | .sl a lo hi, Γ, cn, X, e, g, h => by
    unfold chkE at h
    split at h
    · simp only [Bool.and_eq_true] at h
      rw [wE]; exact ped_sl (sE a g h.1.1) (sEo lo g h.1.2) (sEo hi g h.2)
    · cases h
  | .lst es, Γ, cn, X, e, g, h => by
    unfold chkE at h
    split at h
    · simp only [Bool.and_eq_true, decide_eq_true_eq] at h
      rw [wE]; exact ped_lst (sEs es g h.1) h.2
    · cases h
  | .tup es, Γ, cn, X, e, g, h => by
    unfold chkE at h
    split at h
    · simp only [Bool.and_eq_true, decide_eq_true_eq] at h
      rw [wE]; exact ped_tup (sEs es g h.1) h.2
    · cases h
  | .comp n el t i c, Γ, cn, X, e, g, h => by
    unfold chkE at h
    split at h
    · simp only [Bool.and_eq_true, decide_eq_true_eq] at h
      obtain ⟨⟨⟨⟨⟨⟨⟨h1, rfl⟩, rfl⟩, h2⟩, h3⟩, h4⟩, h5⟩, h6⟩ := h
      rw [wE]
      exact ped_comp (g.cscope h1) g.sc g.calm (sI i g h2) (fun C s H0 ex pn => s_tg (g.comp h1) h4) (fun C s H0 ex pn => sTo c (Γ := inComp Γ _) (g.comp h1) h5) (fun C s H0 ex pn => sE el (Γ := inComp Γ _) (g.comp h1) h6) h3
    · cases h
  | .fld o f, Γ, cn, X, e, g, h => by
    unfold chkE at h
    split at h
    · simp only [Bool.and_eq_true, decide_eq_true_eq] at h
      obtain ⟨⟨h1, rfl⟩, h3⟩ := h
      rw [wE]; exact ped_fld g.flds (sE o g h1) h3
    · cases h
  | .mu m o es, Γ, cn, X, e, g, h => by
    unfold chkE at h
    split at h
    · simp only [Bool.and_eq_true, decide_eq_true_eq] at h
      obtain ⟨⟨⟨⟨⟨⟨⟨rfl, h1⟩, h2⟩, h3⟩, h4⟩, h5⟩, h6⟩, h7⟩ := h
      rw [wE]
      exact ped_meth g.mts (sE o g h1) (sEs es g h7) h2 h3 h4 h5 h6
    · cases h
  | .mu0 m o, Γ, cn, X, e, g, h => by
    unfold chkE at h
    split at h
    · simp only [Bool.and_eq_true, decide_eq_true_eq] at h
      obtain ⟨⟨⟨rfl, h1⟩, h2⟩, h3⟩ := h
      rw [wE]
      exact ped_meth0 g.mts (sE o g h1) h2 h3
    · cases h
theorem sP : ∀ (ir : Ps) {Γ : Gam} {cn : Cn} {X : Cx} {ks : List (Option Expr)} {vs : List Expr}, GOk Γ cn X → chkP Γ ir ks vs = true → PPd X ks vs (wP cn ir)
  | .nil, Γ, cn, X, ks, vs, g, h => by
    unfold chkP at h
    split at h
    · rw [wP]; exact .nil
    · cases h
  | .cons k v r, Γ, cn, X, ks, vs, g, h => by
    unfold chkP at h
    split at h
    · simp only [Bool.and_eq_true] at h
      rw [wP]; exact .cons (sE k g h.1.1) (sE v g h.1.2) (sP r g h.2)
    · cases h
theorem sEs : ∀ (ir : Es) {Γ : Gam} {cn : Cn} {X : Cx} {es : List Expr}, GOk Γ cn X → chkEs Γ ir es = true → PAd X es (wEs cn ir)
  | .nil, Γ, cn, X, es, g, h => by
    unfold chkEs at h
    split at h
    · rw [wEs]; exact pad_nil
    · cases h
  | .cons e r, Γ, cn, X, es, g, h => by
    unfold chkEs at h
    split at h
    · simp only [Bool.and_eq_true] at h
      rw [wEs]; exact pad_cons (sE e g h.1.1) (sEs r g h.2) h.1.2
    · cases h
theorem sEo : ∀ (ir : Eo) {Γ : Gam} {cn : Cn} {X : Cx} {e : Option Expr}, GOk Γ cn X → chkEo Γ ir e = true → POd X e (wEo cn ir)
  | .no, Γ, cn, X, e, g, h => by
    unfold chkEo at h
    split at h
    · rw [wEo]; exact pod_none
    · cases h
  | .yes a, Γ, cn, X, e, g, h => by
    unfold chkEo at h
    split at h
    · rw [wEo]; exact pod_some (sE a g h)
    · cases h
theorem sTo : ∀ (ir : To) {Γ : Gam} {cn : Cn} {X : Cx} {e : List Expr}, GOk Γ cn X → chkTo Γ ir e = true → PTsd X e (wTo cn ir)
  | .no, Γ, cn, X, e, g, h => by
    unfold chkTo at h
    split at h
    · rw [wTo]; exact .inl ⟨rfl, rfl⟩
    · cases h
  | .yes a, Γ, cn, X, e, g, h => by
    unfold chkTo at h
    split at h
    · rw [wTo]; exact .inr ⟨_, rfl, sT a g h⟩
    · cases h
theorem sT : ∀ (ir : T) {Γ : Gam} {cn : Cn} {X : Cx} {e : Expr}, GOk Γ cn X → chkT Γ ir e = true → PTd X e (wT cn ir)
  | .val a, Γ, cn, X, e, g, h => by
    unfold chkT at h
    rw [Bool.and_eq_true] at h
    rw [wT]; exact ptd_val (sE a g h.1) (plainT_ok h.2)
  | .cmp o a b, Γ, cn, X, e, g, h => by
    unfold chkT at h
    split at h
    · simp only [Bool.and_eq_true, decide_eq_true_eq, Bool.not_eq_true'] at h
      obtain ⟨⟨⟨rfl, h2⟩, h3⟩, h4⟩ := h
      rw [wT]
      exact ptd_cmp (opd_cmp g.hu o) (sE a g h2) (sE b g h3) h4
    · cases h
  | .and a b, Γ, cn, X, e, g, h => by
    unfold chkT at h
    split at h
    · rw [Bool.and_eq_true] at h
      rw [wT]; exact (pwd_and (sT a g h.1) (pwd_and1 (sT b g h.2))).pt
    · rw [Bool.and_eq_true] at h
      rw [wT]; exact (pwd_and (sT a g h.1) (wpd_or_val (sT b g h.2) (.inl ⟨_, _, rfl⟩))).pt
    · cases h
  | .or a b, Γ, cn, X, e, g, h => by
    unfold chkT at h
    split at h
    · rw [Bool.and_eq_true] at h
      rw [wT]; exact (pwd_or (sT a g h.1) (pwd_or1 (sT b g h.2))).pt
    · rw [Bool.and_eq_true] at h
      rw [wT]; exact (pwd_or (sT a g h.1) (wpd_or_val (sT b g h.2) (.inr ⟨_, _, rfl⟩))).pt
    · cases h
  | .not a, Γ, cn, X, e, g, h => by
    unfold chkT at h
    split at h
    · rw [wT]; exact ptd_not (sT a g h)
    · cases h
theorem sI : ∀ (ir : I) {Γ : Gam} {cn : Cn} {X : Cx} {tg e : Expr}, GOk Γ cn X → chkI Γ ir tg e = true → PId X tg e (wI cn ir)
  | .seq a, Γ, cn, X, tg, e, g, h => by
    unfold chkI at h
    rw [wI]; exact pid_seq (sE a g h)
  | .rg1 es, Γ, cn, X, tg, e, g, h => by
    unfold chkI at h
    split at h
    · simp only [Bool.and_eq_true, decide_eq_true_eq] at h
      obtain ⟨⟨⟨⟨h1, h2⟩, rfl⟩, h3⟩, h4⟩ := h
      rw [wI]
      exact pid_range1 (s_gl g h1).1 (g.blt _ h2) (sEs es g h4) h3
    · cases h
  | .rg2 es, Γ, cn, X, tg, e, g, h => by
    unfold chkI at h
    split at h
    · simp only [Bool.and_eq_true, decide_eq_true_eq] at h
      obtain ⟨⟨⟨⟨⟨h1, h2⟩, rfl⟩, h3⟩, h3'⟩, h4⟩ := h
      rw [wI]
      exact pid_range2 (s_gl g h1).1 (g.blt _ h2) (sEs es g h4) h3 h3'
    · cases h
end
theorem swaps_true {y : Str} {py sp pos : Pos} {elt : Expr} {gs : List Comprehension} {sc : Scope} (g : GOk Γ cn X) (h1 : Γ.sc.names.lookup y = some .local) (h2 : (py.line == pos.line) = true) (h3 : (sc.names.any fun (p : Str × NameKind) => p.1 == y && (p.2 == .local || p.2 == .cell)) = false) :
    swapsWith (.ListComp elt gs sc pos) (some (.Name y py)) sp.line X.env = pure true := by
  show pure (X.env.blockKind == .function && X.env.kindOf y == some .local && py.line == pos.line && !(sc.names.any fun (p : Str × NameKind) => p.1 == y && (p.2 == .local || p.2 == .cell))) = (pure true : Sem Bool)
  have e1 : X.env.blockKind = .function := by
    unfold Env.blockKind; rw [g.sc, g.kind]; rfl
  have e2 : X.env.kindOf y = some .local := by show X.env.scope.names.lookup y = _; rw [g.sc]; exact h1
  rw [e1, e2, h2, h3]
  rfl
theorem asg_side {tg v : Expr} {n : Nat} {env : Env} (h : notComp v = true) (h' : notTupE v = true) : swapsWithSole [tg] v n env = pure false ∧ swappedStores [tg] v env = pure none := by
  refine ⟨noswap h, ?_⟩
  cases v <;> first | (cases tg <;> rfl) | exact absurd (show false = true from h') Bool.false_ne_true
mutual
theorem sS : ∀ (ir : S) {Γ : Gam} {cn : Cn} {X : Cx} {st : Stmt}, GOk Γ cn X → chkS Γ ir st = true → PSd X st (wS cn ir)
  | .set i e, Γ, cn, X, st, g, h => by
    unfold chkS at h
    split at h
    · simp only [Bool.and_eq_true] at h
      obtain ⟨a, b, c, d⟩ := s_loc g h.1.1
      rw [wS]; exact psd_set a b c d h.1.2 (sE e g h.2)
    · cases h
  | .setC i n e t j c, Γ, cn, X, st, g, h => by
    unfold chkS at h
    split at h
    · simp only [Bool.and_eq_true, decide_eq_true_eq, Bool.not_eq_true'] at h
      obtain ⟨⟨⟨⟨⟨⟨⟨⟨⟨⟨⟨a1, a2⟩, a3⟩, a4⟩, h1⟩, rfl⟩, rfl⟩, h2⟩, h3⟩, h4⟩, h5⟩, h6⟩ := h
      rw [wS]
      exact psd_setC (g.cscope h1) g.sc g.calm (by rw [g.N]; exact g.nd) (by rw [g.N]; exact a1) (by rw [g.sc]; exact a2) (sI j g h2) (fun C s H0 ex pn => s_tg (g.comp h1) h4)
        (fun C s H0 ex pn => sTo c (Γ := inComp Γ _) (g.comp h1) h5) (fun C s H0 ex pn => sE e (Γ := inComp Γ _) (g.comp h1) h6) h3 (swaps_true g a2 a3 a4)
    · cases h
  | .asg t e, Γ, cn, X, st, g, h => by
    unfold chkS at h
    split at h
    · simp only [Bool.and_eq_true] at h
      obtain ⟨⟨⟨h1, h2⟩, h3⟩, h4⟩ := h
      obtain ⟨q1, q2⟩ := asg_side h2 h3
      rw [wS]
      exact psd_asg (sE e g h4) (s_tg g h1) q1 q2 rfl
    · cases h
  | .expr e, Γ, cn, X, st, g, h => by
    unfold chkS at h
    split at h
    · simp only [Bool.and_eq_true] at h
      rw [wS]; exact psd_expr (sE e g h.2) h.1
    · cases h
  | .ret e, Γ, cn, X, st, g, h => by
    unfold chkS at h
    split at h
    · rw [wS]; exact psd_ret (sE e g h)
    · cases h
  | .ite t a b, Γ, cn, X, st, g, h => by
    unfold chkS at h
    split at h
    · simp only [Bool.and_eq_true] at h
      rw [wS]; exact psd_if (sT t g h.1.1) (sSs a g h.1.2) (sSs b g h.2)
    · cases h
  | .for t j b, Γ, cn, X, st, g, h => by
    unfold chkS at h
    split at h
    · simp only [Bool.and_eq_true] at h
      rw [wS]; exact psd_for g.own g.calm (sI j g h.1.1.2) (s_tg g h.1.1.1) (sSs b g h.2) h.1.2
    · cases h
  | .putIx o i e, Γ, cn, X, st, g, h => by
    unfold chkS at h
    split at h
    · simp only [Bool.and_eq_true] at h
      rw [wS]; exact psd_putIx g.hu (sE e g h.1.1.2) (sE o g h.1.1.1.1) (sE i g h.1.1.1.2) h.1.2 h.2
    · cases h
  | .setF o f e, Γ, cn, X, st, g, h => by
    unfold chkS at h
    split at h
    · simp only [Bool.and_eq_true, decide_eq_true_eq] at h
      obtain ⟨⟨⟨h1, rfl⟩, h3⟩, h4⟩ := h
      rw [wS]; exact psd_setF g.flds (sE o g h1) (sE e g h3) h4
    · cases h
theorem sSs : ∀ (ir : Ss) {Γ : Gam} {cn : Cn} {X : Cx} {st : List Stmt}, GOk Γ cn X → chkSs Γ ir st = true → PSsd X st (wSs cn ir)
  | .nil, Γ, cn, X, st, g, h => by
    unfold chkSs at h
    split at h
    · rw [wSs]; exact pssd_nil
    · cases h
  | .cons s r, Γ, cn, X, st, g, h => by
    unfold chkSs at h
    split at h
    · simp only [Bool.and_eq_true] at h
      rw [wSs]; exact pssd_cons (sS s g h.1) (sSs r g h.2)
    · cases h
end
end
/-! ### a def, by its text -/
section
variable {P : Program} {w : World} {K : PySem.W.Frag} {mg : Str → Option Value} {base : Heap}
/-- what a def's text may name: constants, Python's own names, defs and classes with their promises, fields, methods -/
structure Names (P : Program) (w : World) (K : PySem.W.Frag) (mg : Str → Option Value) (base : Heap) (k : Nat) (glob : List Str) (blt : List Str) (fns : List Str) (cn : Cn) : Prop where
  glob : ∀ (j : Nat) x, glob[j]? = some x → GlobOk K mg x (cn.G.getD j .non)
  blt : ∀ x, blt.contains x = true → mg x = none
  fns : ∀ (j : Nat) x, fns[j]? = some x → ∃ k', k' ≤ k ∧ FnAny P w K mg base k' x (cn.F.getD j fun _ _ _ => False)
  flds : ∀ C f, cn.O C f → Cls K C ∧ NoAttr K C f
  mts : ∀ C m sp, cn.T C m = some sp → ∃ k', k' ≤ k ∧ MethD P w K mg base k' C m sp
  isi : ∀ C d b, cn.I C d = some b → IsiOk K C d b
theorem fnD_ir {x : Str} {st : Stmt} {ps N : List Str} {f : Addr} {fd : FuncData} {k : Nat} {sp : SpD} {ir : Ss} {glob : List Str} {blt : List Str} {fns : List Str} {cn : Cn} (D0 : IsDef K mg x st ps f fd) (S : FnScope N ps (defScope st)) (nm : Names P w K mg base k glob blt fns cn)
    (hc : chkSs ⟨N, defScope st, true, glob, blt, fns⟩ ir (defBody st) = true) (len : ∀ ds M Q, sp ds M Q → ds.length = ps.length)
    (h : ∀ ds M Q, sp ds M Q → wSs cn ir { nx := fun _ M' => Q .non M', rt := Q } (startD N ds) M) : FnD P w K mg base (k + 1) x sp := by
  refine fnD D0 S len (fun cdv A outer s H E hr => ?_) h
  exact sSs ir (Γ := ⟨N, defScope st, true, glob, blt, fns⟩) ⟨rfl, rfl, S.kind, S.nd, rfl, fun _ _ => rfl, PassesOwn.never, nm.glob, nm.blt, fun j x e => let ⟨k', h1, h2⟩ := nm.fns j x e; ⟨k', h2, hr.mono h1⟩, nm.flds, fun C m sp e => let ⟨k', h1, h2⟩ := nm.mts C m sp e; ⟨k', h2, hr.mono h1⟩, nm.isi, Nat.lt_of_le_of_lt (Nat.add_le_add_left (by decide : 40 ≤ 64) _) hr.units⟩ hc
/-- a method (an __init__ too), by its text -/
theorem fnM_ir {x qual : Str} {st : Stmt} {ps N : List Str} {f : Addr} {fd : FuncData} {k : Nat} {sp : SpD} {ir : Ss} {glob : List Str} {blt : List Str} {fns : List Str} {cn : Cn} (D0 : Fun K x qual st f fd) (S : FnScope N ps (defScope st)) (nm : Names P w K mg base k glob blt fns cn)
    (hc : chkSs ⟨N, defScope st, true, glob, blt, fns⟩ ir (defBody st) = true) (len : ∀ ds M Q, sp ds M Q → ds.length = ps.length)
    (h : ∀ ds M Q, sp ds M Q → wSs cn ir { nx := fun _ M' => Q .non M', rt := Q } (startD N ds) M) : FnOk P w K mg base CX0 (k + 1) f fd ps (liftSp K sp) := by
  refine D0.ok S (fun vs H Q E ⟨ds, M, Q0, r, _, s, _⟩ => by rw [← r.len]; exact len ds M Q0 s) fun cdv A outer s H vs Q E hr ⟨ds, M, Q0, r, m, sq, f0⟩ => ⟨tWSs _ _, pss_W _, ?_⟩
  have hb := sSs ir (Γ := ⟨N, defScope st, true, glob, blt, fns⟩) (X := (cxOf CX0 P w K mg base N qual (defScope st) f cdv A outer s H E).nox) ⟨rfl, rfl, S.kind, S.nd, rfl, fun _ _ => rfl, PassesOwn.never, nm.glob, nm.blt, fun j x e => let ⟨k', h1, h2⟩ := nm.fns j x e; ⟨k', h2, hr.mono h1⟩, nm.flds, fun C m sp e => let ⟨k', h1, h2⟩ := nm.mts C m sp e; ⟨k', h2, hr.mono h1⟩, nm.isi, Nat.lt_of_le_of_lt (Nat.add_le_add_left (by decide : 40 ≤ 64) _) hr.units⟩ hc
  refine tWSs_mono (hb (startD N ds) M (L2.start N vs) H _ (start_ok r) m (h ds M Q0 sq)) ⟨fun ρ' H' ⟨k', σ', M', _, m', q⟩ => f0 _ _ _ _ q k' (RV.non_.2 rfl) m', fun v H' ⟨k', d, M', r', m', q⟩ => f0 _ _ _ _ q k' r' m', fun _ _ ⟨_, _, _, _, _, q⟩ => q, fun _ _ ⟨_, _, _, _, _, q⟩ => q⟩
end
end DD

set_option Elab.async false
set_option maxRecDepth 100000
set_option maxHeartbeats 4000000
namespace DD
open PySem PySem.Spec PyProof.Rows L2
/-! ### the last step: the script comes as a list that nobody writes -/
def noList (K : PySem.W.Frag) : Bool := K.all fun p => match p.2.cls with
  | .type t => !(t == "list")
  | _ => true
theorem noList_at {a : Addr} {o : Obj} : ∀ {K : PySem.W.Frag}, noList K = true → K.lookup a = some o → o.cls = .type "list" → False
  | [], _, h, _ => by cases h
  | (b, p) :: K, hn, h, hc => by
    unfold noList at hn
    rw [List.all_cons, Bool.and_eq_true] at hn
    rw [List.lookup_cons] at h
    split at h
    · cases h
      have h1 := hn.1
      simp only [hc] at h1
      exact absurd h1 (by decide)
    · exact noList_at (K := K) hn.2 h hc
theorem rvs_ints {K : PySem.W.Frag} {H : Hp} : ∀ (ns : List Int), RVs K H (ns.map D.int) (ns.map V.int)
  | [] => .nil
  | n :: ns => .cons (RV.int_.2 rfl) (rvs_ints ns)
def scriptM (a : Addr) (ns : List Int) : MH := fun b => if b = a then some (.rol (ns.map D.int)) else none
/-- what is asked of the law's promise -/
def LawSp (n : Nat) (sp : SpD) : Prop := ∀ a ns, ns.length ≤ n → sp [.ref a] (scriptM a ns) fun d _ => d = .bl true
theorem law_sp {K : PySem.W.Frag} {H : Hp} {a : Addr} {ns : List Int} {n : Nat} {sp : SpD} (hK : noList K = true) (hs : LawSp n sp) (hl : ns.length ≤ n) (hS : SqL K H a (ns.map V.int)) (E : XK) : liftSp K sp [.ref a] H (fun v _ => v = .bl true) E := by
  rcases hS with hS | ⟨o, its, m, h1, h2, _⟩
  · refine ⟨[.ref a], scriptM a ns, fun d _ => d = .bl true, .cons (RV.ref_.2 rfl) .nil, fun b o e => ?_, hs a ns hl, fun d M' v H' q _ r _ => ?_⟩
    · unfold scriptM at e
      split at e
      · rename_i hb
        subst hb
        cases e
        exact ⟨_, hS, rvs_ints ns⟩
      · cases e
    · subst q
      exact RV.bl_.1 r
  · exact (noList_at hK h1 h2).elim
/-! ### the module's constants, looked up in what the top has made -/
mutual
def valIn (K : PySem.W.Frag) : D → Value → Bool
  | .non, u => match u with
    | .none => true
    | _ => false
  | .bl b, u => match u with
    | .bool c => decide (b = c)
    | _ => false
  | .int i, u => match u with
    | .int j _ => decide (i = j)
    | _ => false
  | .str x, u => match u with
    | .str y _ => decide (x = y)
    | _ => false
  | .ty n, u => match u with
    | .type m => decide (n = m)
    | _ => false
  | .ref a, u => match u with
    | .ref b => decide (a = b)
    | _ => false
  | .tup ds, u => match u with
    | .ref a => (match K.lookup a with
      | some ⟨.type t, _, .seq its _, _⟩ => decide (t = "tuple") && decide (its.size ≤ sizeLine) && valsIn K ds its.toList
      | _ => false)
    | _ => false
def valsIn (K : PySem.W.Frag) : List D → List Value → Bool
  | [], us => us.isEmpty
  | d :: ds, us => match us with
    | u :: us => valIn K d u && valsIn K ds us
    | [] => false
end
mutual
theorem valIn_ok {K : PySem.W.Frag} : ∀ (d : D) {u : Value}, valIn K d u = true → ∃ v, RelV v u ∧ ∀ H, RV K H d v
  | .non, u, h => by
    unfold valIn at h
    split at h
    · exact ⟨.non, rfl, fun _ => RV.non_.2 rfl⟩
    · cases h
  | .bl b, u, h => by
    unfold valIn at h
    split at h
    · cases of_decide_eq_true h; exact ⟨.bl _, rfl, fun _ => RV.bl_.2 rfl⟩
    · cases h
  | .int b, u, h => by
    unfold valIn at h
    split at h
    · cases of_decide_eq_true h; exact ⟨.int _, ⟨_, rfl⟩, fun _ => RV.int_.2 rfl⟩
    · cases h
  | .str b, u, h => by
    unfold valIn at h
    split at h
    · cases of_decide_eq_true h; exact ⟨.str _, ⟨_, rfl⟩, fun _ => RV.str_.2 rfl⟩
    · cases h
  | .ty b, u, h => by
    unfold valIn at h
    split at h
    · cases of_decide_eq_true h; exact ⟨.ty _, rfl, fun _ => RV.ty_.2 rfl⟩
    · cases h
  | .ref a, u, h => by
    unfold valIn at h
    split at h
    · cases of_decide_eq_true h; exact ⟨.ref _, rfl, fun _ => RV.ref_.2 rfl⟩
    · cases h
  | .tup ds, u, h => by
    unfold valIn at h
    split at h
    · rename_i a
      split at h
      · rename_i t od its n sl e
        simp only [Bool.and_eq_true, decide_eq_true_eq] at h
        obtain ⟨⟨h1, h2⟩, h3⟩ := h
        obtain ⟨vs, r1, r2⟩ := valsIn_ok ds h3
        exact ⟨.ref a, rfl, fun H => RV.tup_.2 ⟨a, vs, rfl, .inr ⟨_, its, n, e, by rw [h1], rfl, h2, r1⟩, r2 H⟩⟩
      · cases h
    · cases h
theorem valsIn_ok {K : PySem.W.Frag} : ∀ (ds : List D) {us : List Value}, valsIn K ds us = true → ∃ vs, Vals vs us ∧ ∀ H, RVs K H ds vs
  | [], us, h => by
    unfold valsIn at h
    cases us with
    | nil => exact ⟨[], .nil, fun _ => .nil⟩
    | cons u us => cases h
  | d :: ds, us, h => by
    unfold valsIn at h
    split at h
    · rename_i u us
      rw [Bool.and_eq_true] at h
      obtain ⟨v, r1, r2⟩ := valIn_ok d h.1
      obtain ⟨vs, r3, r4⟩ := valsIn_ok ds h.2
      exact ⟨v :: vs, .cons r1 r3, fun H => .cons (r2 H) (r4 H)⟩
    · cases h
end
def globsIn (K : PySem.W.Frag) : List Str → List D → Bool
  | [], _ => true
  | x :: xs, ds => (match PySem.W.nsIn K mainGlobals x with
    | some (some u) => valIn K (ds.headD .non) u
    | _ => false) && globsIn K xs ds.tail
theorem globsIn_ok {K : PySem.W.Frag} {h : Heap} {mg : Str → Option Value} (X : K.In h) (G : h.Ns mainGlobals mg) : ∀ {xs : List Str} {ds : List D}, globsIn K xs ds = true → ∀ (j : Nat) x, xs[j]? = some x → GlobOk K mg x (ds.getD j .non)
  | [], _, _, j, x, e => by cases e
  | y :: xs, ds, hk, j, x, e => by
    unfold globsIn at hk
    rw [Bool.and_eq_true] at hk
    cases j with
    | zero =>
      have e : y = x := by simpa using e
      subst e
      have h1 := hk.1
      split at h1
      · rename_i u q
        obtain ⟨v, r1, r2⟩ := valIn_ok _ h1
        have : ds.getD 0 .non = ds.headD .non := by cases ds <;> rfl
        rw [this]
        exact ⟨v, u, PySem.W.mg_of X G q, r1, r2⟩
      · cases h1
    | succ j =>
      have := globsIn_ok X G hk.2 j x (by simpa using e)
      have e2 : ds.getD (j + 1) .non = ds.tail.getD j .non := by cases ds <;> simp
      rw [e2]; exact this
def bltsIn (K : PySem.W.Frag) (xs : List Str) : Bool := xs.all fun x => match PySem.W.nsIn K mainGlobals x with
  | some none => true
  | _ => false
theorem bltsIn_ok {K : PySem.W.Frag} {h : Heap} {mg : Str → Option Value} (X : K.In h) (G : h.Ns mainGlobals mg) {xs : List Str} (hk : bltsIn K xs = true) : ∀ x, xs.contains x = true → mg x = none := by
  intro x hx
  have := List.all_eq_true.1 hk x (by simpa using hx)
  split at this
  · rename_i q
    exact PySem.W.mg_none_of X G q
  · cases this
theorem walkD {l : PySem.W.OpenLaw} {n k : Nat} {q : Program} {loose : List Str} {XP : (Str → Option Value) → Heap → Prop} {YP : World → Heap → Prop} {d : DefRec} {K : Params → PySem.W.Frag} {sp : SpD} {x : Str}
    (hn : l.most = some n) (hn2 : n ≤ sizeLine) (hdf : d.params.defaults = []) (hr : Room k callerA) (hs : LawSp n sp)
    (hY : ∀ (w : World) (h : Heap), YP w h → (K w.params).In h) (hK : ∀ w : World, noList (K w.params) = true)
    (F : ∀ (w : World) (mg : Str → Option Value) (fa : Addr) (h : Heap), (K w.params).In h → h.Ns mainGlobals mg → mg d.name = some (.ref fa) →
      ∃ fd : FuncData, (∀ (s : Shared) (u : Value), BindsTo s fd ⟨[u], []⟩ [(x, u)]) ∧
        ∀ base : Heap, (K w.params).In base → base.Ns mainGlobals mg → FnOk l.prog w (K w.params) mg base CX0 k fa fd [x] (liftSp (K w.params) sp)) :
    PySem.W.WalkO q loose XP YP l.row.toRowW d [] (fun f vs => PySem.call f vs) :=
  L2.walk_of (n := n) (k := k) (x := x) (CX := fun _ => CX0) (sp := fun w => liftSp (K w.params) sp) hn hn2 hdf hr hY F (fun w _ a ns hl _ hS => law_sp (hK w) hs hl hS _) fun _ _ _ _ _ z => z
end DD

set_option Elab.async false
set_option maxRecDepth 100000
set_option maxHeartbeats 4000000
namespace DD
open PySem PySem.Spec PyProof.Rows L2
/-! ### a law's parts put together -/
section
variable {P : Program} {w : World} {K : PySem.W.Frag} {mg : Str → Option Value} {base : Heap} {k : Nat}
theorem fns_nil {F : List SpD} : ∀ (j : Nat) (x : Str), ([] : List Str)[j]? = some x → ∃ k', k' ≤ k ∧ FnAny P w K mg base k' x (F.getD j fun _ _ _ => False) := fun j x e => by simp at e
theorem fns_cons {y : Str} {ys : List Str} {sp : SpD} {F : List SpD} {k1 : Nat} (h1 : k1 ≤ k) (h : FnAny P w K mg base k1 y sp) (t : ∀ (j : Nat) (x : Str), ys[j]? = some x → ∃ k', k' ≤ k ∧ FnAny P w K mg base k' x (F.getD j fun _ _ _ => False)) :
    ∀ (j : Nat) (x : Str), (y :: ys)[j]? = some x → ∃ k', k' ≤ k ∧ FnAny P w K mg base k' x ((sp :: F).getD j fun _ _ _ => False) := fun j x e => by
  cases j with
  | zero =>
    have : y = x := by simpa using e
    subst this
    exact ⟨k1, h1, h⟩
  | succ j => exact t j x (by simpa using e)
/-- a def as the top has made it -/
structure DefAt (K : PySem.W.Frag) (x : Str) (st : Stmt) (f : Addr) (fd : FuncData) : Prop where
  ex : ∃ (oc : Value) (od an : Option Addr) (osl : Array (Option Value)) (kV doc pm cdv ct : Value), PySem.W.nsIn K mainGlobals x = some (some (.ref f)) ∧
    fd = PySem.W.fnOf x x (defArgs st) (defBody st) (defScope st) .none kV doc pm an cdv ct ∧ K.lookup f = some ⟨oc, od, .func fd, osl⟩ ∧ PySem.W.codeIn K cdv x = true ∧ PySem.W.keepIn K (.ref f) = true
theorem DefAt.mk' {x : Str} {st : Stmt} {f : Addr} {oc : Value} {od an : Option Addr} {osl : Array (Option Value)} {kV doc pm cdv ct : Value}
    (a : PySem.W.nsIn K mainGlobals x = some (some (.ref f))) (l : K.lookup f = some ⟨oc, od, .func (PySem.W.fnOf x x (defArgs st) (defBody st) (defScope st) .none kV doc pm an cdv ct), osl⟩)
    (c : PySem.W.codeIn K cdv x = true) (k : PySem.W.keepIn K (.ref f) = true) : DefAt K x st f (PySem.W.fnOf x x (defArgs st) (defBody st) (defScope st) .none kV doc pm an cdv ct) :=
  ⟨⟨oc, od, an, osl, kV, doc, pm, cdv, ct, a, rfl, l, c, k⟩⟩
theorem DefAt.def_ {h : Heap} {x : Str} {st : Stmt} {ps : List Str} {f : Addr} {fd : FuncData} (A : DefAt K x st f fd) (X : K.In h) (G : h.Ns mainGlobals mg)
    (hb : ∀ (kV doc pm : Value) (an : Option Addr) (cdv ct : Value) (us : List Value), us.length = ps.length → bindArgs (PySem.W.fnOf x x (defArgs st) (defBody st) (defScope st) .none kV doc pm an cdv ct) ⟨us, []⟩ = pure (ps.zip us)) :
    IsDef K mg x st ps f fd := by
  obtain ⟨oc, od, an, osl, kV, doc, pm, cdv, ct, a, rfl, l, c, k⟩ := A.ex
  exact isDef_mk X G a l c k hb
/-! ### an own class, by one look at what the top has made -/
def isBt : Option (Option Value) → String → Bool
  | some (some (.builtin n)), s => decide (n = s)
  | _, _ => false
def isNo : Option (Option Value) → Bool
  | some none => true
  | _ => false
def isYes : Option Bool → Bool
  | some true => true
  | _ => false
theorem isBt_ok {o : Option (Option Value)} {s : String} (h : isBt o s = true) : o = some (some (.builtin s)) := by
  unfold isBt at h
  split at h
  · cases of_decide_eq_true h; rfl
  · cases h
theorem isNo_ok {o : Option (Option Value)} (h : isNo o = true) : o = some none := by
  unfold isNo at h
  split at h
  · rfl
  · cases h
theorem isYes_ok {o : Option Bool} (h : isYes o = true) : o = some true := by
  unfold isYes at h
  split at h
  · rfl
  · cases h
/-- a class whose objects have plain fields of these names -/
def clsIn (K : PySem.W.Frag) (C : Addr) (fs : List Str) : Bool :=
  PySem.W.plainGet K C Str.empty && PySem.W.hasDictIn K C && PySem.W.plainOver K C && isBt (PySem.W.findIn K (.ref C) "__setattr__") "object.__setattr__" && fs.all (fun f => isNo (PySem.W.findIn K (.ref C) f))
theorem clsIn_cls {C : Addr} {fs : List Str} (h : clsIn K C fs = true) : Cls K C := by
  unfold clsIn at h
  simp only [Bool.and_eq_true] at h
  exact ⟨h.1.1.1.1, h.1.1.1.2, h.1.1.2, isBt_ok h.1.2⟩
theorem clsIn_no {C : Addr} {fs : List Str} {f : Str} (h : clsIn K C fs = true) (hf : f ∈ fs) : NoAttr K C f := by
  unfold clsIn at h
  simp only [Bool.and_eq_true] at h
  exact isNo_ok (List.all_eq_true.1 h.2 f hf)
/-- what isinstance(an object of C, D) asks; its answer -/
def isiIn (K : PySem.W.Frag) (C D : Addr) : Option Bool :=
  if (isBt (PySem.W.findIn K (.ref C) "__class__") "object.__class__" && isBt (PySem.W.specialIn K (.builtin "object.__class__") "__get__") "getset_descriptor.__get__" && isYes (PySem.W.takesIn K (.builtin "object.__class__")) && isYes (PySem.W.mroIn K C (.type "object"))) = true
  then PySem.W.kitOne K (.ref C) (.ref D) else none
theorem isiIn_ok {C D : Addr} {b : Bool} (cl : Cls K C) (h : isiIn K C D = some b) : IsiOk K C D b := by
  unfold isiIn at h
  split at h
  · rename_i q
    simp only [Bool.and_eq_true] at q
    exact ⟨cl, isBt_ok q.1.1.1, isBt_ok q.1.1.2, isYes_ok q.1.2, isYes_ok q.2, h⟩
  · cases h
/-- a method (an __init__ too) as the top has made it -/
structure MethAt (K : PySem.W.Frag) (C : Addr) (m qual : Str) (st : Stmt) (f : Addr) (fd : FuncData) : Prop where
  at_ : PySem.W.findIn K (.ref C) m = some (some (.ref f))
  fn : PySem.W.isFn K (.ref f) = true
  fun_ : Fun K m qual st f fd
theorem MethAt.mk' {C : Addr} {m qual : Str} {st : Stmt} {f : Addr} {oc : Value} {od an : Option Addr} {osl : Array (Option Value)} {kV doc pm cdv ct : Value}
    (a : PySem.W.findIn K (.ref C) m = some (some (.ref f))) (l : K.lookup f = some ⟨oc, od, .func (PySem.W.fnOf m qual (defArgs st) (defBody st) (defScope st) .none kV doc pm an cdv ct), osl⟩)
    (n : PySem.W.isFn K (.ref f) = true) (c : PySem.W.codeIn K cdv qual = true) (k : PySem.W.keepIn K (.ref f) = true) : MethAt K C m qual st f (PySem.W.fnOf m qual (defArgs st) (defBody st) (defScope st) .none kV doc pm an cdv ct) :=
  ⟨a, n, fun_mk l c k⟩
theorem MethAt.meth {C : Addr} {m qual : Str} {st : Stmt} {f : Addr} {fd : FuncData} (A : MethAt K C m qual st f fd) : Meth K C m f := ⟨A.at_, A.fn, A.fun_.kp⟩
/-- a method's promise, by its text -/
theorem methD_ir {C : Addr} {m qual : Str} {st : Stmt} {ps N : List Str} {f : Addr} {fd : FuncData} {sp : SpD} {ir : Ss} {glob : List Str} {blt : List Str} {fns : List Str} {cn : Cn} (cl : Cls K C) (A : MethAt K C m qual st f fd) (S : FnScope N ps (defScope st)) (nm : Names P w K mg base k glob blt fns cn)
    (hb : ∀ (kV doc pm : Value) (an : Option Addr) (cdv ct : Value) (us : List Value), us.length = ps.length → bindArgs (PySem.W.fnOf m qual (defArgs st) (defBody st) (defScope st) .none kV doc pm an cdv ct) ⟨us, []⟩ = pure (ps.zip us))
    (hc : chkSs ⟨N, defScope st, true, glob, blt, fns⟩ ir (defBody st) = true) (len : ∀ ds M Q, sp ds M Q → ds.length = ps.length)
    (h : ∀ ds M Q, sp ds M Q → wSs cn ir { nx := fun _ M' => Q .non M', rt := Q } (startD N ds) M) : MethD P w K mg base (k + 1) C m sp :=
  ⟨f, fd, ps, cl, A.meth, A.fun_.binds hb, fnM_ir A.fun_ S nm hc len h⟩
/-- a class's making, by its __init__ -/
theorem mkD_ir {x : Str} {C : Addr} {qual : Str} {st : Stmt} {ps N : List Str} {f : Addr} {fd : FuncData} {sp : SpD} {ir : Ss} {glob : List Str} {blt : List Str} {fns : List Str} {cn : Cn} (hx : mg x = some (.ref C)) (hm : PySem.W.makesIn K C = true) (hk : PySem.W.keepIn K (.ref C) = true) (A : MethAt K C "__init__" qual st f fd)
    (S : FnScope N ps (defScope st)) (nm : Names P w K mg base k glob blt fns cn)
    (hb : ∀ (kV doc pm : Value) (an : Option Addr) (cdv ct : Value) (us : List Value), us.length = ps.length → bindArgs (PySem.W.fnOf "__init__" qual (defArgs st) (defBody st) (defScope st) .none kV doc pm an cdv ct) ⟨us, []⟩ = pure (ps.zip us))
    (hc : chkSs ⟨N, defScope st, true, glob, blt, fns⟩ ir (defBody st) = true) (len : ∀ ds M Q, sp ds M Q → ds.length = ps.length)
    (h : ∀ ds M Q, sp ds M Q → wSs cn ir { nx := fun _ M' => Q .non M', rt := Q } (startD N ds) M) : FnAny P w K mg base (k + 2) x (spMake C sp) :=
  .inr ⟨k + 1, rfl, C, f, fd, ps, sp, ⟨hm, A.at_, A.fn, hk⟩, hx, A.fun_.binds hb, fnM_ir A.fun_ S nm hc len h, rfl⟩
end
end DD
namespace DD
open PySem PySem.Spec PyProof.Rows L2
theorem DefAt.fun_ {K : PySem.W.Frag} {x : Str} {st : Stmt} {f : Addr} {fd : FuncData} (A : DefAt K x st f fd) : Fun K x x st f fd := by
  obtain ⟨oc, od, an, osl, kV, doc, pm, cdv, ct, a, rfl, l, c, k⟩ := A.ex
  exact fun_mk l c k
end DD

set_option Elab.async false
set_option maxRecDepth 100000
set_option maxHeartbeats 4000000
set_option linter.all false
/-! ## readings of the defs that every law has: cells, digits -/
namespace SH
open PySem L2 DD
abbrev fin (Q : DK) : EndsD := { nx := fun _ M' => Q .non M', rt := Q }
/-- all that stood stands -/
def Ext (M M' : MH) : Prop := ∀ a o, M a = some o → M' a = some o
theorem Ext.refl (M : MH) : Ext M M := fun _ _ h => h
theorem Ext.trans {M M' M'' : MH} (a : Ext M M') (b : Ext M' M'') : Ext M M'' := fun c o h => b c o (a c o h)
theorem Ext.new {M : MH} {p : Addr} {o : MO} (h : M p = none) : Ext M (updM M p o) := fun a u e => by
  rw [updM_ne (fun z => by subst z; rw [h] at e; cases e)]; exact e
theorem Ext.then {M M' : MH} {p : Addr} {o : MO} (e : Ext M M') (h : M' p = none) : Ext M (updM M' p o) := e.trans (Ext.new h)
/-- all that stood stands, but at p -/
def ExtBut (p : Addr) (M M' : MH) : Prop := ∀ a o, a ≠ p → M a = some o → M' a = some o

def cellZ (ns : List Int) (k : Nat) : Int := if k < ns.length then (ns[k]?).getD 0 else 7919 * (k : Int) + 13
def mixN1 (c k : Int) : Int := (c % 2147483647 * 48271 + 7919 * k + 1) % 2147483647
def mixN2 (c k : Int) : Int := mixN1 c k * mixN1 c k % 2147483629
def mixZ (c k : Int) : Int := mixN2 c k * (mixN2 c k + 13) % 2147483647
def foldZ (c : Int) : Nat → Int
  | 0 => 0
  | n + 1 => foldZ c n * 2147483647 + mixZ c n
def boxZ (ns : List Int) (k : Nat) : Int := if cellZ ns 0 % 2 = 0 then cellZ ns k else foldZ (cellZ ns k) 6
def spCell : SpD := fun ds M Q => ∃ (a : Addr) (ns : List Int) (k : Nat), ds = [.ref a, .int (k : Int)] ∧ M a = some (.rol (ns.map .int)) ∧ Q (.int (cellZ ns k)) M
def spMix : SpD := fun ds M Q => ∃ (c k : Int), ds = [.int c, .int k] ∧ Q (.int (mixZ c k)) M
def spBox : SpD := fun ds M Q => ∃ (a : Addr) (ns : List Int) (k : Nat), ds = [.ref a, .int (k : Int)] ∧ M a = some (.rol (ns.map .int)) ∧ ∀ p, M p = none → Q (.ref p) (updM M p (.lst [.int (boxZ ns k)]))
def spTake : SpD := fun ds M Q => ∃ (p : Addr) (b m : Int), ds = [.ref p, .int m] ∧ M p = some (.lst [.int b]) ∧ (0 < m ∧ m < 18446744073709551616) ∧ Q (.int (b % m)) (updM M p (.lst [.int (b / m)]))

def ir_cell : Ss := .cons (.ite (.cmp .Lt (.var 1) (.bi .len (.cons (.var 0) .nil))) (.cons (.ret (.ix (.var 0) (.var 1))) .nil) .nil) (.cons (.ret (.bin .Add (.bin .Mult (.int 7919) (.var 1)) (.int 13))) .nil)
def ir_mix : Ss := .cons (.set 2 (.bin .Mod (.bin .Add (.bin .Add (.bin .Mult (.bin .Mod (.var 0) (.int 2147483647)) (.int 48271)) (.bin .Mult (.int 7919) (.var 1))) (.int 1)) (.int 2147483647))) (.cons (.set 2 (.bin .Mod (.bin .Mult (.var 2) (.var 2)) (.int 2147483629))) (.cons (.ret (.bin .Mod (.bin .Mult (.var 2) (.bin .Add (.var 2) (.int 13))) (.int 2147483647))) .nil))
def ir_box : Ss := .cons (.set 2 (.fn 1 (.cons (.var 0) (.cons (.var 1) .nil)))) (.cons (.ite (.cmp .Eq (.bin .Mod (.fn 1 (.cons (.var 0) (.cons (.int 0) .nil))) (.int 2)) (.int 0)) (.cons (.ret (.lst (.cons (.var 2) .nil))) .nil) .nil) (.cons (.set 3 (.int 0)) (.cons (.for (.nm 4) (.rg1 (.cons (.int 6) .nil)) (.cons (.set 3 (.bin .Add (.bin .Mult (.var 3) (.int 2147483647)) (.fn 0 (.cons (.var 2) (.cons (.var 4) .nil))))) .nil)) (.cons (.ret (.lst (.cons (.var 3) .nil))) .nil))))
def ir_take : Ss := .cons (.asg (.tp [2, 3]) (.bi .divmod (.cons (.ix (.var 0) (.int 0)) (.cons (.var 1) .nil)))) (.cons (.putIx (.var 0) (.int 0) (.var 2)) (.cons (.ret (.var 3)) .nil))
section
variable {cn : Cn}
theorem rd_cell {ds : List D} {M : MH} {Q : DK} (h : spCell ds M Q) : wSs cn ir_cell (fin Q) (startD ["", ""] ds) M := by
  obtain ⟨a, ns, k, rfl, hM, q⟩ := h
  show wSs cn ir_cell (fin Q) [some (.ref a), some (.int (k : Int))] M
  unfold ir_cell
  simp only [wSs, wS, wE, wEs, wEo, wTo, wT, wI, wSeq, wNext, wIfS, wTest, wTru, wOp, wAnd, wOr, wNot, wAndV, wOrV, wNotV, wRet, wSet, wAsg, wDrop, wCall, wMt, wSl, wLst, wTup, wNil, wCons, wFor, wSeqI, wRng1, wRng2, wComp, wSetC, wPutIx, wFld, wSetF, wMeth, getS, boolD, truD, intD, optD, bindT, setM, dBin, dCmp, dIB, dI, dI0, dMul, dAdd, dBi, dLen, dIsinst, dII, dDivmod, dTuple, dList, dMt, mtRc, recvD, dIx, dSl, dPut, dEqV, dNeV, dIsV, dIsNotV, dInV, dNotInV, dInP, dEq, isNon, seqD, fldD, setFD, methD, lstD, dBj, dSum, wLrg, rngD, wIsi, isiD, dPop, dClear, Bif_true, Bif_false, List.getElem?_cons_zero, List.getElem?_cons_succ, hM, List.length_map]
  unfold cellZ at q
  refine Bif_dec (fun hlt => ?_) (fun hlt => ?_)
  · have hk : k < ns.length := by omega
    rw [atI_nat (by rw [List.getElem?_map, List.getElem?_eq_getElem hk]; rfl)]
    rw [if_pos hk, List.getElem?_eq_getElem hk] at q
    exact q
  · have hk : ¬ k < ns.length := by omega
    rw [if_neg hk] at q
    exact ⟨.inl ⟨by decide, by decide⟩, q⟩
theorem mixN1_b (c k : Int) : 0 ≤ mixN1 c k ∧ mixN1 c k < 2147483647 := ⟨Int.emod_nonneg _ (by decide), Int.emod_lt_of_pos _ (by decide)⟩
theorem mixN2_b (c k : Int) : 0 ≤ mixN2 c k ∧ mixN2 c k < 2147483629 := ⟨Int.emod_nonneg _ (by decide), Int.emod_lt_of_pos _ (by decide)⟩
theorem rd_mix {ds : List D} {M : MH} {Q : DK} (h : spMix ds M Q) : wSs cn ir_mix (fin Q) (startD ["", "", ""] ds) M := by
  obtain ⟨c, k, rfl, q⟩ := h
  show wSs cn ir_mix (fin Q) [some (.int c), some (.int k), none] M
  unfold ir_mix
  simp only [wSs, wS, wE, wEs, wEo, wTo, wT, wI, wSeq, wNext, wIfS, wTest, wTru, wOp, wAnd, wOr, wNot, wAndV, wOrV, wNotV, wRet, wSet, wAsg, wDrop, wCall, wMt, wSl, wLst, wTup, wNil, wCons, wFor, wSeqI, wRng1, wRng2, wComp, wSetC, wPutIx, wFld, wSetF, wMeth, getS, boolD, truD, intD, optD, bindT, setM, dBin, dCmp, dIB, dI, dI0, dMul, dAdd, dBi, dLen, dIsinst, dII, dDivmod, dTuple, dList, dMt, mtRc, recvD, dIx, dSl, dPut, dEqV, dNeV, dIsV, dIsNotV, dInV, dNotInV, dInP, dEq, isNon, seqD, fldD, setFD, methD, lstD, dBj, dSum, wLrg, rngD, wIsi, isiD, dPop, dClear, Bif_true, Bif_false, List.getElem?_cons_zero, List.getElem?_cons_succ, List.set]
  have b0 : 0 ≤ c % 2147483647 ∧ c % 2147483647 < 2147483647 := ⟨Int.emod_nonneg _ (by decide), Int.emod_lt_of_pos _ (by decide)⟩
  have b1 := mixN1_b c k
  have b2 := mixN2_b c k
  unfold mixZ at q
  unfold mixN2 mixN1 at *
  exact ⟨by decide, .inl ⟨by omega, by omega⟩, .inl ⟨by decide, by decide⟩, by decide, .inl ⟨by omega, by omega⟩, by decide, .inl ⟨by omega, by omega⟩, by decide, q⟩
theorem rd_box {ds : List D} {M : MH} {Q : DK} (hF : cn.F = [spMix, spCell]) (h : spBox ds M Q) : wSs cn ir_box (fin Q) (startD ["", "", "", "", ""] ds) M := by
  obtain ⟨a, ns, k, rfl, hM, q⟩ := h
  show wSs cn ir_box (fin Q) [some (.ref a), some (.int (k : Int)), none, none, none] M
  unfold ir_box
  simp only [wSs, wS, wE, wEs, wEo, wTo, wT, wI, wSeq, wNext, wIfS, wTest, wTru, wOp, wAnd, wOr, wNot, wAndV, wOrV, wNotV, wRet, wSet, wAsg, wDrop, wCall, wMt, wSl, wLst, wTup, wNil, wCons, wFor, wSeqI, wRng1, wRng2, wComp, wSetC, wPutIx, wFld, wSetF, wMeth, getS, boolD, truD, intD, optD, bindT, setM, dBin, dCmp, dIB, dI, dI0, dMul, dAdd, dBi, dLen, dIsinst, dII, dDivmod, dTuple, dList, dMt, mtRc, recvD, dIx, dSl, dPut, dEqV, dNeV, dIsV, dIsNotV, dInV, dNotInV, dInP, dEq, isNon, seqD, fldD, setFD, methD, lstD, dBj, dSum, wLrg, rngD, wIsi, isiD, dPop, dClear, Bif_true, Bif_false, hF, List.getD_cons_zero, List.getD_cons_succ, List.getElem?_cons_zero, List.getElem?_cons_succ, List.set]
  refine ⟨a, ns, k, rfl, hM, a, ns, 0, rfl, hM, by decide, ?_⟩
  simp only [pureD, depD, eqD]
  refine ⟨⟨trivial, trivial, by decide⟩, ?_⟩
  unfold boxZ at q
  refine Bif2 (fun he => ?_) (fun he => ?_)
  · rw [if_pos (by simpa using he)] at q
    exact q
  · rw [if_neg (by simpa using he)] at q
    refine ⟨⟨by decide, by decide⟩, ?_⟩
    have e : rangeD 0 6 = [.int 0, .int 1, .int 2, .int 3, .int 4, .int 5] := rfl
    rw [e]
    simp only [loopD, wSs, wS, wE, wEs, wEo, wTo, wT, wI, wSeq, wNext, wIfS, wTest, wTru, wOp, wAnd, wOr, wNot, wAndV, wOrV, wNotV, wRet, wSet, wAsg, wDrop, wCall, wMt, wSl, wLst, wTup, wNil, wCons, wFor, wSeqI, wRng1, wRng2, wComp, wSetC, wPutIx, wFld, wSetF, wMeth, getS, boolD, truD, intD, optD, bindT, setM, dBin, dCmp, dIB, dI, dI0, dMul, dAdd, dBi, dLen, dIsinst, dII, dDivmod, dTuple, dList, dMt, mtRc, recvD, dIx, dSl, dPut, dEqV, dNeV, dIsV, dIsNotV, dInV, dNotInV, dInP, dEq, isNon, seqD, fldD, setFD, methD, lstD, dBj, dSum, wLrg, rngD, wIsi, isiD, dPop, dClear, Bif_true, Bif_false, List.getElem?_cons_zero, List.getElem?_cons_succ, List.set]
    refine ⟨.inr ⟨by decide, by decide⟩, _, _, rfl, trivial, .inr ⟨by decide, by decide⟩, _, _, rfl, trivial, .inr ⟨by decide, by decide⟩, _, _, rfl, trivial, .inr ⟨by decide, by decide⟩, _, _, rfl, trivial, .inr ⟨by decide, by decide⟩, _, _, rfl, trivial, .inr ⟨by decide, by decide⟩, _, _, rfl, trivial, ?_⟩
    exact q
theorem rd_take {ds : List D} {M : MH} {Q : DK} (h : spTake ds M Q) : wSs cn ir_take (fin Q) (startD ["", "", "", ""] ds) M := by
  obtain ⟨p, b, m, rfl, hM, hm, q⟩ := h
  show wSs cn ir_take (fin Q) [some (.ref p), some (.int m), none, none] M
  unfold ir_take
  have e : atI [D.int b] 0 = some (D.int b) := rfl
  have e2 : ixN ([D.int b] : List D).length 0 = some 0 := rfl
  simp only [wSs, wS, wE, wEs, wEo, wTo, wT, wI, wSeq, wNext, wIfS, wTest, wTru, wOp, wAnd, wOr, wNot, wAndV, wOrV, wNotV, wRet, wSet, wAsg, wDrop, wCall, wMt, wSl, wLst, wTup, wNil, wCons, wFor, wSeqI, wRng1, wRng2, wComp, wSetC, wPutIx, wFld, wSetF, wMeth, getS, boolD, truD, intD, optD, bindT, setM, dBin, dCmp, dIB, dI, dI0, dMul, dAdd, dBi, dLen, dIsinst, dII, dDivmod, dTuple, dList, dMt, mtRc, recvD, dIx, dSl, dPut, dEqV, dNeV, dIsV, dIsNotV, dInV, dNotInV, dInP, dEq, isNon, seqD, fldD, setFD, methD, lstD, dBj, dSum, wLrg, rngD, wIsi, isiD, dPop, dClear, Bif_true, Bif_false, List.getElem?_cons_zero, List.getElem?_cons_succ, List.set, hM, e, e2]
  exact ⟨hm, rfl, q⟩
end
end SH

set_option Elab.async false
set_option maxRecDepth 100000
set_option maxHeartbeats 4000000
set_option linter.all false
/-! ## conds: the program's and the law's -/
namespace SH
open PySem L2 DD
theorem comp_map {g : MH → Prop} {t : Tgt} {c : WT} {e : WE} {F : List D → MH → Prop} {f : D → D} {ok : DS → Prop} {M : MH} : ∀ {xs : List D} (acc : List D) (σ : DS), ok σ →
    (∀ x ∈ xs, ∀ σ acc rest, ok σ → (∀ σ', ok σ' → compD g t c e F rest (acc ++ [f x]) σ' M) → compD g t c e F (x :: rest) acc σ M) → F (acc ++ xs.map f) M → compD g t c e F xs acc σ M
  | [], acc, σ, _, _, q => by
    rw [List.map_nil, List.append_nil] at q
    exact q
  | x :: xs, acc, σ, h, st, q => st x List.mem_cons_self σ acc xs h fun σ' h' => comp_map (acc ++ [f x]) σ' h' (fun y hy => st y (.tail _ hy)) (by simpa using q)
/-- a block that keeps what passes a test -/
theorem comp_filter {g : MH → Prop} {t : Tgt} {c : WT} {e : WE} {F : List D → MH → Prop} {p : D → Bool} {ok : DS → Prop} {M : MH} : ∀ {xs : List D} (acc : List D) (σ : DS), ok σ →
    (∀ x ∈ xs, ∀ σ acc rest, ok σ → (∀ σ', ok σ' → compD g t c e F rest (acc ++ cond (p x) [x] []) σ' M) → compD g t c e F (x :: rest) acc σ M) → F (acc ++ xs.filter p) M → compD g t c e F xs acc σ M
  | [], acc, σ, _, _, q => by
    rw [List.filter_nil, List.append_nil] at q
    exact q
  | x :: xs, acc, σ, h, st, q => st x List.mem_cons_self σ acc xs h fun σ' h' => comp_filter (acc ++ cond (p x) [x] []) σ' h' (fun y hy => st y (.tail _ hy)) (by
    rw [List.filter_cons] at q
    cases e : p x with
    | true => rw [e] at q; simpa using q
    | false => rw [e] at q; simpa using q)
theorem at0 {α : Type} (x : α) (xs : List α) : atI (x :: xs) 0 = some x := atI_nat (j := 0) rfl
theorem at1 {α : Type} (x y : α) (xs : List α) : atI (x :: y :: xs) 1 = some y := atI_nat (j := 1) rfl
theorem at2 {α : Type} (x y z : α) (xs : List α) : atI (x :: y :: z :: xs) 2 = some z := atI_nat (j := 2) rfl
theorem pD_str (x : Str) : pureD (.str x) = true := rfl
theorem pD_int (x : Int) : pureD (.int x) = true := rfl
theorem pD_bl (x : Bool) : pureD (.bl x) = true := rfl
theorem dD_str (x : Str) : depD (.str x) = 0 := rfl
theorem dD_int (x : Int) : depD (.int x) = 0 := rfl
theorem dD_bl (x : Bool) : depD (.bl x) = 0 := rfl
theorem eD_int (x y : Int) : eqD (.int x) (.int y) = (x == y) := by rw [eqD]
theorem eD_str (x y : Str) : eqD (.str x) (.str y) = (x == y) := by rw [eqD]
/-- the digit of a set at a fact's place -/
def bitZ (h f : Int) : Int := h / 2 ^ f.toNat % 2
theorem bitZ_01 (h f : Int) : bitZ h f = 0 ∨ bitZ h f = 1 := by unfold bitZ; omega
def hasB (h f : Int) : Bool := bitZ h f == 1
theorem bit_no (h f : Int) : (bitZ h f == 0) = !hasB h f := by
  unfold hasB
  rcases bitZ_01 h f with e | e <;> rw [e] <;> rfl
def intL (fs : List Int) : List D := fs.map .int
def bits (h : Int) (fs : List Int) : List D := fs.map fun f => .int (bitZ h f)
def cntB (fs : List Int) (h : Int) : Nat := (fs.filter (hasB h)).length
theorem cntB_cons (f : Int) (fs : List Int) (h : Int) : cntB (f :: fs) h = (if hasB h f = true then 1 else 0) + cntB fs h := by
  unfold cntB
  rw [List.filter_cons]
  split <;> simp <;> omega
theorem bits_cnt (h : Int) : ∀ (fs : List Int), cntD (bits h fs) = some (fs.map (bitZ h))
  | [] => rfl
  | f :: fs => by
    show Option.map _ (cntD (bits h fs)) = _
    rw [bits_cnt h fs]; rfl
theorem bits_sum (h : Int) : ∀ (fs : List Int), (fs.map (bitZ h)).sum = ((cntB fs h : Nat) : Int)
  | [] => rfl
  | f :: fs => by
    rw [List.map_cons, List.sum_cons, bits_sum h fs, cntB_cons]
    unfold hasB
    rcases bitZ_01 h f with e | e <;> simp [e]
theorem bits_in (h : Int) : ∀ (fs : List Int), inD (.int 1) (bits h fs) = decide (0 < ((cntB fs h : Nat) : Int))
  | [] => rfl
  | f :: fs => by
    have ih := bits_in h fs
    unfold inD bits at ih ⊢
    rw [List.map_cons, List.any_cons, ih, cntB_cons, eD_int]
    show (hasB h f || _) = _
    cases hasB h f with
    | true => simp; omega
    | false => simp
theorem pure_ints : ∀ (fs : List Int), pureDs (intL fs) = true
  | [] => rfl
  | f :: fs => by
    show (pureD (.int f) && pureDs (intL fs)) = true
    rw [pure_ints fs]; rfl
theorem dep_ints : ∀ (fs : List Int), depDs (intL fs) = 0
  | [] => rfl
  | f :: fs => by
    show depDs (.int f :: intL fs) = 0
    rw [depDs, dep_ints fs]; rfl
theorem pure_bits (h : Int) (fs : List Int) : pureDs (bits h fs) = true := by
  have : bits h fs = intL (fs.map (bitZ h)) := by unfold bits intL; rw [List.map_map]; rfl
  rw [this]; exact pure_ints _
theorem dep_bits (h : Int) (fs : List Int) : depDs (bits h fs) = 0 := by
  have : bits h fs = intL (fs.map (bitZ h)) := by unfold bits intL; rw [List.map_map]; rfl
  rw [this]; exact dep_ints _
theorem ints_at {fs : List Int} {k : Nat} (h : k < fs.length) : atI (intL fs) (k : Int) = some (.int (fs.getD k 0)) := by
  refine atI_nat ?_
  unfold intL
  rw [List.getElem?_map, List.getElem?_eq_getElem h]
  simp [List.getD, List.getElem?_eq_getElem h]
theorem bits_at {x : Int} {fs : List Int} {k : Nat} (h : k < fs.length) : atI (bits x fs) (k : Int) = some (.int (bitZ x (fs.getD k 0))) := by
  refine atI_nat ?_
  unfold bits
  rw [List.getElem?_map, List.getElem?_eq_getElem h]
  simp [List.getD, List.getElem?_eq_getElem h]
theorem cutK {α : Type} (xs : List α) (k : Nat) : cutL xs none (some (k : Int)) = xs.take k := by
  unfold cutL
  rw [HT.sIx_nat, HT.sIx_none]
  simp
theorem cutInts (fs : List Int) (k : Nat) : cutL (intL fs) none (some (k : Int)) = intL (fs.take k) := by rw [cutK]; unfold intL; rw [List.map_take]
theorem cutBits (x : Int) (fs : List Int) (k : Nat) : cutL (bits x fs) none (some (k : Int)) = bits x (fs.take k) := by rw [cutK]; unfold bits; rw [List.map_take]
theorem len_intL (fs : List Int) : (intL fs).length = fs.length := by unfold intL; rw [List.length_map]
theorem not_whole {fs : List Int} {k : Nat} (h : k < fs.length) : ¬ (HT.sIx (intL fs).length 0 none = 0 ∧ HT.sIx (intL fs).length (intL fs).length (some (k : Int)) = (intL fs).length) := by
  rw [HT.sIx_nat, HT.sIx_none, len_intL]
  omega
/-- a cond, as it is told -/
inductive CT where
  | hav (f : Int) | lck (f : Int) | som (n : Int) (fs : List Int) | led (fs : List Int) (k : Nat)
def CT.ok : CT → Prop
  | .hav f => 0 ≤ f ∧ f < 120
  | .lck f => 0 ≤ f ∧ f < 120
  | .som _ fs => (0 < fs.length ∧ fs.length ≤ 6) ∧ ∀ f ∈ fs, 0 ≤ f ∧ f < 120
  | .led fs k => (k < fs.length ∧ fs.length ≤ 6) ∧ ∀ f ∈ fs, 0 ≤ f ∧ f < 120
def CT.told : CT → D
  | .hav f => .tup [.str "have", .int f]
  | .lck f => .tup [.str "lack", .int f]
  | .som n fs => .tup [.str "some", .int n, .tup (intL fs)]
  | .led fs k => .tup [.str "lead", .tup (intL fs), .int k]
def CT.flds : CT → List (Str × D)
  | .hav f => [("fact", .int f)]
  | .lck f => [("fact", .int f)]
  | .som n fs => [("number", .int n), ("facts", .tup (intL fs))]
  | .led fs k => [("facts", .tup (intL fs)), ("at", .int k)]
def CT.kind : CT → Nat
  | .hav _ => 0
  | .lck _ => 1
  | .som _ _ => 2
  | .led _ _ => 3
def CT.facts : CT → List Int
  | .hav f => [f]
  | .lck f => [f]
  | .som _ fs => fs
  | .led fs _ => fs
def CT.carried (h m : Int) : CT → Bool
  | .hav f => hasB h f
  | .lck f => !hasB m f
  | .som n fs => decide (n ≤ ((cntB fs h : Nat) : Int))
  | .led fs k => hasB h (fs.getD k 0) && (((cntB (fs.take k) m : Nat) : Int) == 0)
def CT.blocked (h m : Int) : CT → Bool
  | .hav f => !hasB m f
  | .lck f => hasB h f
  | .som n fs => decide (((cntB fs m : Nat) : Int) < n)
  | .led fs k => !hasB m (fs.getD k 0) || decide (0 < ((cntB (fs.take k) h : Nat) : Int))
def leanD (b : Bool) (f : Int) : D := .tup [.int f, .bl b]
def CT.leans : CT → List D
  | .hav f => [leanD false f]
  | .lck f => [leanD true f]
  | .som _ fs => fs.map (leanD false)
  | .led fs k => (fs.take k).map (leanD true) ++ [leanD false (fs.getD k 0)]
/-- the classes' addresses, by kind -/
structure CA where
  h : Addr
  l : Addr
  s : Addr
  d : Addr
def CA.at (c : CA) : Nat → Addr
  | 0 => c.h
  | 1 => c.l
  | 2 => c.s
  | _ => c.d
def CT.obj (c : CA) (t : CT) : MO := .ins (c.at t.kind) t.flds
theorem CT.kind_lt (t : CT) : t.kind < 4 := by
  cases t with
  | hav _ => exact (by decide : (0 : Nat) < 4)
  | lck _ => exact (by decide : (1 : Nat) < 4)
  | som _ _ => exact (by decide : (2 : Nat) < 4)
  | led _ _ => exact (by decide : (3 : Nat) < 4)
theorem getD_ok {fs : List Int} {k : Nat} (h : k < fs.length) (hf : ∀ f ∈ fs, 0 ≤ f ∧ f < 120) : 0 ≤ fs.getD k 0 := by
  have : fs.getD k 0 = fs[k] := by simp [List.getD, List.getElem?_eq_getElem h]
  rw [this]
  exact (hf _ (List.getElem_mem h)).1
/-! ### promises -/
def spHas : SpD := fun ds M Q => ∃ h f : Int, ds = [.int h, .int f] ∧ 0 ≤ f ∧ Q (.bl (hasB h f)) M
def spCount : SpD := fun ds M Q => ∃ (fs : List Int) (h : Int), ds = [.tup (intL fs), .int h] ∧ (∀ f ∈ fs, 0 ≤ f) ∧ ∀ M', Ext M M' → Q (.int (cntB fs h : Nat)) M'
def spShown (c : CA) (k : Nat) : SpD := fun ds M Q => ∃ (a : Addr) (t : CT), t.kind = k ∧ ds = [.ref a] ∧ M a = some (t.obj c) ∧ Q t.told M
def spCarried (c : CA) (k : Nat) : SpD := fun ds M Q => ∃ (a : Addr) (t : CT) (h m : Int), t.kind = k ∧ t.ok ∧ ds = [.ref a, .int h, .int m] ∧ M a = some (t.obj c) ∧ ∀ M', Ext M M' → Q (.bl (t.carried h m)) M'
def spBlocked (c : CA) (k : Nat) : SpD := fun ds M Q => ∃ (a : Addr) (t : CT) (h m : Int), t.kind = k ∧ t.ok ∧ ds = [.ref a, .int h, .int m] ∧ M a = some (t.obj c) ∧ ∀ M', Ext M M' → Q (.bl (t.blocked h m)) M'
def spLeaning (c : CA) (k : Nat) : SpD := fun ds M Q => ∃ (a : Addr) (t : CT), t.kind = k ∧ t.ok ∧ ds = [.ref a] ∧ M a = some (t.obj c) ∧ ∀ p M', M p = none → Ext M M' → M' p = some (.lst t.leans) → Q (.ref p) M'
def spInit (c : CA) (k : Nat) : SpD := fun ds M Q => ∃ (a : Addr) (t : CT), t.kind = k ∧ ds = .ref a :: t.flds.map (·.2) ∧ M a = some (.ins (c.at k) []) ∧ ∀ M', (∀ b, b ≠ a → M' b = M b) → M' a = some (t.obj c) → Q .non M'
def methsOf (c : CA) (k : Nat) : Str → Option SpD := fun m =>
  if m = "shown" then some (spShown c k) else if m = "carried" then some (spCarried c k) else if m = "blocked" then some (spBlocked c k) else if m = "leaning" then some (spLeaning c k) else none
def kindAt (c : CA) (a : Addr) : Option Nat := if a = c.h then some 0 else if a = c.l then some 1 else if a = c.s then some 2 else if a = c.d then some 3 else none
def metT (c : CA) : MT0 := fun a m => (kindAt c a).bind fun k => methsOf c k m
/-- the classes differ -/
def CA.apart (c : CA) : Prop := ∀ k, k < 4 → kindAt c (c.at k) = some k
def fldNames : List Str := ["fact", "number", "facts", "at"]
def fldO (c : CA) : OK0 := fun a f => ∃ k, k < 4 ∧ a = c.at k ∧ f ∈ fldNames
theorem fld_ok (c : CA) {k : Nat} {f : Str} (hk : k < 4) (h : f ∈ fldNames) : fldO c (c.at k) f := ⟨k, hk, rfl, h⟩
/-! ### the program -/
def ir_has_fact : Ss := .cons (.ret (.cmp .Eq (.bin .BitAnd (.bin .RShift (.var 0) (.var 1)) (.int 1)) (.int 1))) .nil
def ir_count_in : Ss := .cons (.ret (.bi .len (.cons (.comp 1 (.var 2) (.nm 2) (.seq (.var 0)) (.yes (.val (.fn 0 (.cons (.var 1) (.cons (.var 2) .nil)))))) .nil))) .nil
section
variable {cn : Cn}
theorem rd_has_fact {ds : List D} {M : MH} {Q : DK} (h : spHas ds M Q) : wSs cn ir_has_fact (fin Q) (startD ["", ""] ds) M := by
  obtain ⟨x, f, rfl, hf, q⟩ := h
  show wSs cn ir_has_fact (fin Q) [some (.int x), some (.int f)] M
  unfold ir_has_fact
  simp only [wSs, wS, wE, wEs, wEo, wTo, wT, wI, wSeq, wNext, wIfS, wTest, wTru, wOp, wAnd, wOr, wNot, wAndV, wOrV, wNotV, wRet, wSet, wAsg, wDrop, wCall, wMt, wSl, wLst, wTup, wNil, wCons, wFor, wSeqI, wRng1, wRng2, wComp, wSetC, wPutIx, wFld, wSetF, wMeth, getS, boolD, truD, intD, optD, bindT, setM, dBin, dCmp, dIB, dI, dI0, dMul, dAdd, dBi, dLen, dIsinst, dII, dDivmod, dTuple, dList, dMt, mtRc, recvD, dIx, dSl, dPut, dEqV, dNeV, dIsV, dIsNotV, dInV, dNotInV, dInP, dEq, isNon, seqD, fldD, setFD, methD, lstD, dBj, dSum, wLrg, rngD, wIsi, isiD, dPop, dClear, Bif_true, Bif_false, List.getElem?_cons_zero, List.getElem?_cons_succ]
  refine ⟨hf, ⟨rfl, rfl, (by decide : (0 : Nat) ≤ 30)⟩, ?_⟩
  rw [PyProof.Rows.bitAnd_m1]
  exact q
theorem rd_count_in {ds : List D} {M : MH} {Q : DK} (f0 : cn.F.getD 0 (fun _ _ _ => False) = spHas) (h : spCount ds M Q) : wSs cn ir_count_in (fin Q) (startD ["", ""] ds) M := by
  obtain ⟨fs, x, rfl, hf, q⟩ := h
  show wSs cn ir_count_in (fin Q) [some (.tup (intL fs)), some (.int x)] M
  unfold ir_count_in
  simp only [wSs, wS, wE, wEs, wEo, wTo, wT, wI, wSeq, wNext, wIfS, wTest, wTru, wOp, wAnd, wOr, wNot, wAndV, wOrV, wNotV, wRet, wSet, wAsg, wDrop, wCall, wMt, wSl, wLst, wTup, wNil, wCons, wFor, wSeqI, wRng1, wRng2, wComp, wSetC, wPutIx, wFld, wSetF, wMeth, getS, boolD, truD, intD, optD, bindT, setM, dBin, dCmp, dIB, dI, dI0, dMul, dAdd, dBi, dLen, dIsinst, dII, dDivmod, dTuple, dList, dMt, mtRc, recvD, dIx, dSl, dPut, dEqV, dNeV, dIsV, dIsNotV, dInV, dNotInV, dInP, dEq, isNon, seqD, fldD, setFD, methD, lstD, dBj, dSum, wLrg, rngD, wIsi, isiD, dPop, dClear, Bif_true, Bif_false, List.getElem?_cons_zero, List.getElem?_cons_succ, f0]
  refine comp_filter (p := fun d => match d with | .int f => hasB x f | _ => false) (ok := fun σ => ∃ v, σ = [some (.tup (intL fs)), some (.int x), v]) [] _ ⟨none, rfl⟩ ?_ ?_
  · intro d hd σ acc rest ⟨v, hv⟩ k
    subst hv
    obtain ⟨f, hfm, rfl⟩ := List.mem_map.1 hd
    refine ⟨x, f, rfl, hf f hfm, ?_⟩
    have k1 := k _ ⟨some (.int f), rfl⟩
    show Bif (hasB x f) _ _
    dsimp only at k1
    cases hb : hasB x f with
    | true => rw [hb] at k1; exact ⟨trivial, k1⟩
    | false => rw [hb] at k1; exact ⟨trivial, by simpa using k1⟩
  · intro p hp
    rw [updM_same]
    have e : ([] ++ (intL fs).filter (fun (d : D) => match d with | .int f => hasB x f | _ => false)).length = cntB fs x := by
      unfold intL cntB
      rw [List.nil_append, List.filter_map, List.length_map]
      rfl
    dsimp only
    rw [e]
    exact q _ (Ext.new hp)
end
end SH

set_option Elab.async false
set_option maxRecDepth 100000
set_option maxHeartbeats 4000000
set_option linter.all false
namespace SH
open PySem L2 DD
theorem lk_fact (x : D) : List.lookup ("fact" : Str) [("fact", x)] = some x := rfl
theorem lk_number (x y : D) : List.lookup ("number" : Str) [("number", x), ("facts", y)] = some x := rfl
theorem lk_facts (x y : D) : List.lookup ("facts" : Str) [("number", x), ("facts", y)] = some y := rfl
theorem lk_facts2 (x y : D) : List.lookup ("facts" : Str) [("facts", x), ("at", y)] = some x := rfl
theorem lk_at (x y : D) : List.lookup ("at" : Str) [("facts", x), ("at", y)] = some y := rfl
theorem in_fact : ("fact" : Str) ∈ fldNames := by decide +kernel
theorem in_number : ("number" : Str) ∈ fldNames := by decide +kernel
theorem in_facts : ("facts" : Str) ∈ fldNames := by decide +kernel
theorem in_at : ("at" : Str) ∈ fldNames := by decide +kernel
def ir_Fact_init : Ss := .cons (.setF (.var 0) "fact" (.var 1)) .nil
def ir_Have_shown : Ss := .cons (.ret (.tup (.cons (.str "have") (.cons (.fld (.var 0) "fact") .nil)))) .nil
def ir_Have_carried : Ss := .cons (.ret (.fn 0 (.cons (.var 1) (.cons (.fld (.var 0) "fact") .nil)))) .nil
def ir_Have_blocked : Ss := .cons (.ret (.not (.fn 0 (.cons (.var 2) (.cons (.fld (.var 0) "fact") .nil))))) .nil
def ir_Have_leaning : Ss := .cons (.ret (.lst (.cons (.tup (.cons (.fld (.var 0) "fact") (.cons (.bl false) .nil))) .nil))) .nil
def ir_Lack_shown : Ss := .cons (.ret (.tup (.cons (.str "lack") (.cons (.fld (.var 0) "fact") .nil)))) .nil
def ir_Lack_leaning : Ss := .cons (.ret (.lst (.cons (.tup (.cons (.fld (.var 0) "fact") (.cons (.bl true) .nil))) .nil))) .nil
def ir_Some_init_0 : Ss := .cons (.setF (.var 0) "facts" (.var 2)) .nil
def ir_Some_init : Ss := .cons (.setF (.var 0) "number" (.var 1)) ir_Some_init_0
def ir_Some_shown : Ss := .cons (.ret (.tup (.cons (.str "some") (.cons (.fld (.var 0) "number") (.cons (.fld (.var 0) "facts") .nil))))) .nil
def ir_Some_carried : Ss := .cons (.ret (.cmp .GtE (.fn 0 (.cons (.fld (.var 0) "facts") (.cons (.var 1) .nil))) (.fld (.var 0) "number"))) .nil
def ir_Some_blocked : Ss := .cons (.ret (.cmp .Lt (.fn 0 (.cons (.fld (.var 0) "facts") (.cons (.var 2) .nil))) (.fld (.var 0) "number"))) .nil
def ir_Some_leaning : Ss := .cons (.ret (.comp 1 (.tup (.cons (.var 1) (.cons (.bl false) .nil))) (.nm 1) (.seq (.fld (.var 0) "facts")) .no)) .nil
def ir_Lead_init_0 : Ss := .cons (.setF (.var 0) "at" (.var 2)) .nil
def ir_Lead_init : Ss := .cons (.setF (.var 0) "facts" (.var 1)) ir_Lead_init_0
def ir_Lead_shown : Ss := .cons (.ret (.tup (.cons (.str "lead") (.cons (.fld (.var 0) "facts") (.cons (.fld (.var 0) "at") .nil))))) .nil
def ir_Lead_carried : Ss := .cons (.ret (.and (.fn 0 (.cons (.var 1) (.cons (.ix (.fld (.var 0) "facts") (.fld (.var 0) "at")) .nil))) (.cmp .Eq (.fn 1 (.cons (.sl (.fld (.var 0) "facts") .no (.yes (.fld (.var 0) "at"))) (.cons (.var 2) .nil))) (.int 0)))) .nil
def ir_Lead_blocked : Ss := .cons (.ret (.or (.not (.fn 0 (.cons (.var 2) (.cons (.ix (.fld (.var 0) "facts") (.fld (.var 0) "at")) .nil)))) (.cmp .Gt (.fn 1 (.cons (.sl (.fld (.var 0) "facts") .no (.yes (.fld (.var 0) "at"))) (.cons (.var 1) .nil))) (.int 0)))) .nil
def ir_Lead_leaning : Ss := .cons (.ret (.bin .Add (.comp 1 (.tup (.cons (.var 1) (.cons (.bl true) .nil))) (.nm 1) (.seq (.sl (.fld (.var 0) "facts") .no (.yes (.fld (.var 0) "at")))) .no) (.lst (.cons (.tup (.cons (.ix (.fld (.var 0) "facts") (.fld (.var 0) "at")) (.cons (.bl false) .nil))) .nil)))) .nil
section
variable {cn : Cn} {c : CA} {ds : List D} {M : MH} {Q : DK}
theorem rd_Have_init (hO : cn.O = fldO c) (h : spInit c 0 ds M Q) : wSs cn ir_Fact_init (fin Q) (startD ["", ""] ds) M := by
  obtain ⟨a, t, hk, rfl, hM, q⟩ := h
  cases t with
  | hav f =>
    show wSs cn ir_Fact_init (fin Q) [some (.ref a), some (.int f)] M
    unfold ir_Fact_init
    simp only [wSs, wS, wE, wEs, wEo, wTo, wT, wI, wSeq, wNext, wIfS, wTest, wTru, wOp, wAnd, wOr, wNot, wAndV, wOrV, wNotV, wRet, wSet, wAsg, wDrop, wCall, wMt, wSl, wLst, wTup, wNil, wCons, wFor, wSeqI, wRng1, wRng2, wComp, wSetC, wPutIx, wFld, wSetF, wMeth, getS, boolD, truD, intD, optD, bindT, setM, dBin, dCmp, dIB, dI, dI0, dMul, dAdd, dBi, dLen, dIsinst, dII, dDivmod, dTuple, dList, dMt, mtRc, recvD, dIx, dSl, dPut, dEqV, dNeV, dIsV, dIsNotV, dInV, dNotInV, dInP, dEq, isNon, seqD, fldD, setFD, methD, lstD, dBj, dSum, wLrg, rngD, wIsi, isiD, dPop, dClear, Bif_true, Bif_false, List.getElem?_cons_zero, List.getElem?_cons_succ, hM, hO]
    exact ⟨⟨fld_ok c (by decide) in_fact, by decide⟩, q _ (fun b hb => updM_ne hb) updM_same⟩
  | lck f => cases hk
  | som n fs => cases hk
  | led fs k => cases hk
theorem rd_Lack_init (hO : cn.O = fldO c) (h : spInit c 1 ds M Q) : wSs cn ir_Fact_init (fin Q) (startD ["", ""] ds) M := by
  obtain ⟨a, t, hk, rfl, hM, q⟩ := h
  cases t with
  | lck f =>
    show wSs cn ir_Fact_init (fin Q) [some (.ref a), some (.int f)] M
    unfold ir_Fact_init
    simp only [wSs, wS, wE, wEs, wEo, wTo, wT, wI, wSeq, wNext, wIfS, wTest, wTru, wOp, wAnd, wOr, wNot, wAndV, wOrV, wNotV, wRet, wSet, wAsg, wDrop, wCall, wMt, wSl, wLst, wTup, wNil, wCons, wFor, wSeqI, wRng1, wRng2, wComp, wSetC, wPutIx, wFld, wSetF, wMeth, getS, boolD, truD, intD, optD, bindT, setM, dBin, dCmp, dIB, dI, dI0, dMul, dAdd, dBi, dLen, dIsinst, dII, dDivmod, dTuple, dList, dMt, mtRc, recvD, dIx, dSl, dPut, dEqV, dNeV, dIsV, dIsNotV, dInV, dNotInV, dInP, dEq, isNon, seqD, fldD, setFD, methD, lstD, dBj, dSum, wLrg, rngD, wIsi, isiD, dPop, dClear, Bif_true, Bif_false, List.getElem?_cons_zero, List.getElem?_cons_succ, hM, hO]
    exact ⟨⟨fld_ok c (by decide) in_fact, by decide⟩, q _ (fun b hb => updM_ne hb) updM_same⟩
  | hav f => cases hk
  | som n fs => cases hk
  | led fs k => cases hk
theorem rd_Some_init (hO : cn.O = fldO c) (h : spInit c 2 ds M Q) : wSs cn ir_Some_init (fin Q) (startD ["", "", ""] ds) M := by
  obtain ⟨a, t, hk, rfl, hM, q⟩ := h
  cases t with
  | som n fs =>
    show wSs cn ir_Some_init (fin Q) [some (.ref a), some (.int n), some (.tup (intL fs))] M
    unfold ir_Some_init
    simp only [wSs, wS, wE, wEs, wEo, wTo, wT, wI, wSeq, wNext, wIfS, wTest, wTru, wOp, wAnd, wOr, wNot, wAndV, wOrV, wNotV, wRet, wSet, wAsg, wDrop, wCall, wMt, wSl, wLst, wTup, wNil, wCons, wFor, wSeqI, wRng1, wRng2, wComp, wSetC, wPutIx, wFld, wSetF, wMeth, getS, boolD, truD, intD, optD, bindT, setM, dBin, dCmp, dIB, dI, dI0, dMul, dAdd, dBi, dLen, dIsinst, dII, dDivmod, dTuple, dList, dMt, mtRc, recvD, dIx, dSl, dPut, dEqV, dNeV, dIsV, dIsNotV, dInV, dNotInV, dInP, dEq, isNon, seqD, fldD, setFD, methD, lstD, dBj, dSum, wLrg, rngD, wIsi, isiD, dPop, dClear, Bif_true, Bif_false, List.getElem?_cons_zero, List.getElem?_cons_succ, hM, hO]
    refine ⟨⟨fld_ok c (by decide) in_number, by decide⟩, ?_⟩
    unfold ir_Some_init_0
    simp only [wSs, wS, wE, wEs, wEo, wTo, wT, wI, wSeq, wNext, wIfS, wTest, wTru, wOp, wAnd, wOr, wNot, wAndV, wOrV, wNotV, wRet, wSet, wAsg, wDrop, wCall, wMt, wSl, wLst, wTup, wNil, wCons, wFor, wSeqI, wRng1, wRng2, wComp, wSetC, wPutIx, wFld, wSetF, wMeth, getS, boolD, truD, intD, optD, bindT, setM, dBin, dCmp, dIB, dI, dI0, dMul, dAdd, dBi, dLen, dIsinst, dII, dDivmod, dTuple, dList, dMt, mtRc, recvD, dIx, dSl, dPut, dEqV, dNeV, dIsV, dIsNotV, dInV, dNotInV, dInP, dEq, isNon, seqD, fldD, setFD, methD, lstD, dBj, dSum, wLrg, rngD, wIsi, isiD, dPop, dClear, Bif_true, Bif_false, List.getElem?_cons_zero, List.getElem?_cons_succ, updM_same, hO]
    exact ⟨⟨fld_ok c (by decide) in_facts, (show (1 : Nat) < 1000 by decide)⟩, q _ (fun b hb => by rw [updM_ne hb, updM_ne hb]) updM_same⟩
  | hav f => cases hk
  | lck f => cases hk
  | led fs k => cases hk
theorem rd_Lead_init (hO : cn.O = fldO c) (h : spInit c 3 ds M Q) : wSs cn ir_Lead_init (fin Q) (startD ["", "", ""] ds) M := by
  obtain ⟨a, t, hk, rfl, hM, q⟩ := h
  cases t with
  | led fs k =>
    show wSs cn ir_Lead_init (fin Q) [some (.ref a), some (.tup (intL fs)), some (.int k)] M
    unfold ir_Lead_init
    simp only [wSs, wS, wE, wEs, wEo, wTo, wT, wI, wSeq, wNext, wIfS, wTest, wTru, wOp, wAnd, wOr, wNot, wAndV, wOrV, wNotV, wRet, wSet, wAsg, wDrop, wCall, wMt, wSl, wLst, wTup, wNil, wCons, wFor, wSeqI, wRng1, wRng2, wComp, wSetC, wPutIx, wFld, wSetF, wMeth, getS, boolD, truD, intD, optD, bindT, setM, dBin, dCmp, dIB, dI, dI0, dMul, dAdd, dBi, dLen, dIsinst, dII, dDivmod, dTuple, dList, dMt, mtRc, recvD, dIx, dSl, dPut, dEqV, dNeV, dIsV, dIsNotV, dInV, dNotInV, dInP, dEq, isNon, seqD, fldD, setFD, methD, lstD, dBj, dSum, wLrg, rngD, wIsi, isiD, dPop, dClear, Bif_true, Bif_false, List.getElem?_cons_zero, List.getElem?_cons_succ, hM, hO]
    refine ⟨⟨fld_ok c (by decide) in_facts, by decide⟩, ?_⟩
    unfold ir_Lead_init_0
    simp only [wSs, wS, wE, wEs, wEo, wTo, wT, wI, wSeq, wNext, wIfS, wTest, wTru, wOp, wAnd, wOr, wNot, wAndV, wOrV, wNotV, wRet, wSet, wAsg, wDrop, wCall, wMt, wSl, wLst, wTup, wNil, wCons, wFor, wSeqI, wRng1, wRng2, wComp, wSetC, wPutIx, wFld, wSetF, wMeth, getS, boolD, truD, intD, optD, bindT, setM, dBin, dCmp, dIB, dI, dI0, dMul, dAdd, dBi, dLen, dIsinst, dII, dDivmod, dTuple, dList, dMt, mtRc, recvD, dIx, dSl, dPut, dEqV, dNeV, dIsV, dIsNotV, dInV, dNotInV, dInP, dEq, isNon, seqD, fldD, setFD, methD, lstD, dBj, dSum, wLrg, rngD, wIsi, isiD, dPop, dClear, Bif_true, Bif_false, List.getElem?_cons_zero, List.getElem?_cons_succ, updM_same, hO]
    exact ⟨⟨fld_ok c (by decide) in_at, (show (1 : Nat) < 1000 by decide)⟩, q _ (fun b hb => by rw [updM_ne hb, updM_ne hb]) updM_same⟩
  | hav f => cases hk
  | lck f => cases hk
  | som n fs => cases hk
theorem rd_Have_shown (hO : cn.O = fldO c) (h : spShown c 0 ds M Q) : wSs cn ir_Have_shown (fin Q) (startD [""] ds) M := by
  obtain ⟨a, t, hk, rfl, hM, q⟩ := h
  cases t with
  | hav f =>
    have hM : M a = some (.ins (c.at 0) [("fact", .int f)]) := hM
    show wSs cn ir_Have_shown (fin Q) [some (.ref a)] M
    unfold ir_Have_shown
    simp only [wSs, wS, wE, wEs, wEo, wTo, wT, wI, wSeq, wNext, wIfS, wTest, wTru, wOp, wAnd, wOr, wNot, wAndV, wOrV, wNotV, wRet, wSet, wAsg, wDrop, wCall, wMt, wSl, wLst, wTup, wNil, wCons, wFor, wSeqI, wRng1, wRng2, wComp, wSetC, wPutIx, wFld, wSetF, wMeth, getS, boolD, truD, intD, optD, bindT, setM, dBin, dCmp, dIB, dI, dI0, dMul, dAdd, dBi, dLen, dIsinst, dII, dDivmod, dTuple, dList, dMt, mtRc, recvD, dIx, dSl, dPut, dEqV, dNeV, dIsV, dIsNotV, dInV, dNotInV, dInP, dEq, isNon, seqD, fldD, setFD, methD, lstD, dBj, dSum, wLrg, rngD, wIsi, isiD, dPop, dClear, Bif_true, Bif_false, List.getElem?_cons_zero, List.getElem?_cons_succ, hM, hO, lk_fact]
    exact ⟨fld_ok c (by decide) in_fact, q⟩
  | lck f => cases hk
  | som n fs => cases hk
  | led fs k => cases hk
theorem rd_Lack_shown (hO : cn.O = fldO c) (h : spShown c 1 ds M Q) : wSs cn ir_Lack_shown (fin Q) (startD [""] ds) M := by
  obtain ⟨a, t, hk, rfl, hM, q⟩ := h
  cases t with
  | lck f =>
    have hM : M a = some (.ins (c.at 1) [("fact", .int f)]) := hM
    show wSs cn ir_Lack_shown (fin Q) [some (.ref a)] M
    unfold ir_Lack_shown
    simp only [wSs, wS, wE, wEs, wEo, wTo, wT, wI, wSeq, wNext, wIfS, wTest, wTru, wOp, wAnd, wOr, wNot, wAndV, wOrV, wNotV, wRet, wSet, wAsg, wDrop, wCall, wMt, wSl, wLst, wTup, wNil, wCons, wFor, wSeqI, wRng1, wRng2, wComp, wSetC, wPutIx, wFld, wSetF, wMeth, getS, boolD, truD, intD, optD, bindT, setM, dBin, dCmp, dIB, dI, dI0, dMul, dAdd, dBi, dLen, dIsinst, dII, dDivmod, dTuple, dList, dMt, mtRc, recvD, dIx, dSl, dPut, dEqV, dNeV, dIsV, dIsNotV, dInV, dNotInV, dInP, dEq, isNon, seqD, fldD, setFD, methD, lstD, dBj, dSum, wLrg, rngD, wIsi, isiD, dPop, dClear, Bif_true, Bif_false, List.getElem?_cons_zero, List.getElem?_cons_succ, hM, hO, lk_fact]
    exact ⟨fld_ok c (by decide) in_fact, q⟩
  | hav f => cases hk
  | som n fs => cases hk
  | led fs k => cases hk
theorem rd_Some_shown (hO : cn.O = fldO c) (h : spShown c 2 ds M Q) : wSs cn ir_Some_shown (fin Q) (startD [""] ds) M := by
  obtain ⟨a, t, hk, rfl, hM, q⟩ := h
  cases t with
  | som n fs =>
    have hM : M a = some (.ins (c.at 2) [("number", .int n), ("facts", .tup (intL fs))]) := hM
    show wSs cn ir_Some_shown (fin Q) [some (.ref a)] M
    unfold ir_Some_shown
    simp only [wSs, wS, wE, wEs, wEo, wTo, wT, wI, wSeq, wNext, wIfS, wTest, wTru, wOp, wAnd, wOr, wNot, wAndV, wOrV, wNotV, wRet, wSet, wAsg, wDrop, wCall, wMt, wSl, wLst, wTup, wNil, wCons, wFor, wSeqI, wRng1, wRng2, wComp, wSetC, wPutIx, wFld, wSetF, wMeth, getS, boolD, truD, intD, optD, bindT, setM, dBin, dCmp, dIB, dI, dI0, dMul, dAdd, dBi, dLen, dIsinst, dII, dDivmod, dTuple, dList, dMt, mtRc, recvD, dIx, dSl, dPut, dEqV, dNeV, dIsV, dIsNotV, dInV, dNotInV, dInP, dEq, isNon, seqD, fldD, setFD, methD, lstD, dBj, dSum, wLrg, rngD, wIsi, isiD, dPop, dClear, Bif_true, Bif_false, List.getElem?_cons_zero, List.getElem?_cons_succ, hM, hO, lk_number, lk_facts]
    exact ⟨fld_ok c (by decide) in_number, fld_ok c (by decide) in_facts, q⟩
  | hav f => cases hk
  | lck f => cases hk
  | led fs k => cases hk
theorem rd_Lead_shown (hO : cn.O = fldO c) (h : spShown c 3 ds M Q) : wSs cn ir_Lead_shown (fin Q) (startD [""] ds) M := by
  obtain ⟨a, t, hk, rfl, hM, q⟩ := h
  cases t with
  | led fs k =>
    have hM : M a = some (.ins (c.at 3) [("facts", .tup (intL fs)), ("at", .int k)]) := hM
    show wSs cn ir_Lead_shown (fin Q) [some (.ref a)] M
    unfold ir_Lead_shown
    simp only [wSs, wS, wE, wEs, wEo, wTo, wT, wI, wSeq, wNext, wIfS, wTest, wTru, wOp, wAnd, wOr, wNot, wAndV, wOrV, wNotV, wRet, wSet, wAsg, wDrop, wCall, wMt, wSl, wLst, wTup, wNil, wCons, wFor, wSeqI, wRng1, wRng2, wComp, wSetC, wPutIx, wFld, wSetF, wMeth, getS, boolD, truD, intD, optD, bindT, setM, dBin, dCmp, dIB, dI, dI0, dMul, dAdd, dBi, dLen, dIsinst, dII, dDivmod, dTuple, dList, dMt, mtRc, recvD, dIx, dSl, dPut, dEqV, dNeV, dIsV, dIsNotV, dInV, dNotInV, dInP, dEq, isNon, seqD, fldD, setFD, methD, lstD, dBj, dSum, wLrg, rngD, wIsi, isiD, dPop, dClear, Bif_true, Bif_false, List.getElem?_cons_zero, List.getElem?_cons_succ, hM, hO, lk_facts2, lk_at]
    exact ⟨fld_ok c (by decide) in_facts, fld_ok c (by decide) in_at, q⟩
  | hav f => cases hk
  | lck f => cases hk
  | som n fs => cases hk
theorem rd_Have_carried (hO : cn.O = fldO c) (f0 : cn.F.getD 0 (fun _ _ _ => False) = spHas) (h : spCarried c 0 ds M Q) : wSs cn ir_Have_carried (fin Q) (startD ["", "", ""] ds) M := by
  obtain ⟨a, t, h, m, hk, ho, rfl, hM, q⟩ := h
  cases t with
  | hav f =>
    have hM : M a = some (.ins (c.at 0) [("fact", .int f)]) := hM
    show wSs cn ir_Have_carried (fin Q) [some (.ref a), some (.int h), some (.int m)] M
    unfold ir_Have_carried
    simp only [wSs, wS, wE, wEs, wEo, wTo, wT, wI, wSeq, wNext, wIfS, wTest, wTru, wOp, wAnd, wOr, wNot, wAndV, wOrV, wNotV, wRet, wSet, wAsg, wDrop, wCall, wMt, wSl, wLst, wTup, wNil, wCons, wFor, wSeqI, wRng1, wRng2, wComp, wSetC, wPutIx, wFld, wSetF, wMeth, getS, boolD, truD, intD, optD, bindT, setM, dBin, dCmp, dIB, dI, dI0, dMul, dAdd, dBi, dLen, dIsinst, dII, dDivmod, dTuple, dList, dMt, mtRc, recvD, dIx, dSl, dPut, dEqV, dNeV, dIsV, dIsNotV, dInV, dNotInV, dInP, dEq, isNon, seqD, fldD, setFD, methD, lstD, dBj, dSum, wLrg, rngD, wIsi, isiD, dPop, dClear, Bif_true, Bif_false, List.getElem?_cons_zero, List.getElem?_cons_succ, hM, hO, lk_fact, f0]
    exact ⟨fld_ok c (by decide) in_fact, h, f, rfl, ho.1, q M (Ext.refl M)⟩
  | lck f => cases hk
  | som n fs => cases hk
  | led fs k => cases hk
theorem rd_Lack_blocked (hO : cn.O = fldO c) (f0 : cn.F.getD 0 (fun _ _ _ => False) = spHas) (h : spBlocked c 1 ds M Q) : wSs cn ir_Have_carried (fin Q) (startD ["", "", ""] ds) M := by
  obtain ⟨a, t, h, m, hk, ho, rfl, hM, q⟩ := h
  cases t with
  | lck f =>
    have hM : M a = some (.ins (c.at 1) [("fact", .int f)]) := hM
    show wSs cn ir_Have_carried (fin Q) [some (.ref a), some (.int h), some (.int m)] M
    unfold ir_Have_carried
    simp only [wSs, wS, wE, wEs, wEo, wTo, wT, wI, wSeq, wNext, wIfS, wTest, wTru, wOp, wAnd, wOr, wNot, wAndV, wOrV, wNotV, wRet, wSet, wAsg, wDrop, wCall, wMt, wSl, wLst, wTup, wNil, wCons, wFor, wSeqI, wRng1, wRng2, wComp, wSetC, wPutIx, wFld, wSetF, wMeth, getS, boolD, truD, intD, optD, bindT, setM, dBin, dCmp, dIB, dI, dI0, dMul, dAdd, dBi, dLen, dIsinst, dII, dDivmod, dTuple, dList, dMt, mtRc, recvD, dIx, dSl, dPut, dEqV, dNeV, dIsV, dIsNotV, dInV, dNotInV, dInP, dEq, isNon, seqD, fldD, setFD, methD, lstD, dBj, dSum, wLrg, rngD, wIsi, isiD, dPop, dClear, Bif_true, Bif_false, List.getElem?_cons_zero, List.getElem?_cons_succ, hM, hO, lk_fact, f0]
    exact ⟨fld_ok c (by decide) in_fact, h, f, rfl, ho.1, q M (Ext.refl M)⟩
  | hav f => cases hk
  | som n fs => cases hk
  | led fs k => cases hk
theorem rd_Have_blocked (hO : cn.O = fldO c) (f0 : cn.F.getD 0 (fun _ _ _ => False) = spHas) (h : spBlocked c 0 ds M Q) : wSs cn ir_Have_blocked (fin Q) (startD ["", "", ""] ds) M := by
  obtain ⟨a, t, h, m, hk, ho, rfl, hM, q⟩ := h
  cases t with
  | hav f =>
    have hM : M a = some (.ins (c.at 0) [("fact", .int f)]) := hM
    show wSs cn ir_Have_blocked (fin Q) [some (.ref a), some (.int h), some (.int m)] M
    unfold ir_Have_blocked
    simp only [wSs, wS, wE, wEs, wEo, wTo, wT, wI, wSeq, wNext, wIfS, wTest, wTru, wOp, wAnd, wOr, wNot, wAndV, wOrV, wNotV, wRet, wSet, wAsg, wDrop, wCall, wMt, wSl, wLst, wTup, wNil, wCons, wFor, wSeqI, wRng1, wRng2, wComp, wSetC, wPutIx, wFld, wSetF, wMeth, getS, boolD, truD, intD, optD, bindT, setM, dBin, dCmp, dIB, dI, dI0, dMul, dAdd, dBi, dLen, dIsinst, dII, dDivmod, dTuple, dList, dMt, mtRc, recvD, dIx, dSl, dPut, dEqV, dNeV, dIsV, dIsNotV, dInV, dNotInV, dInP, dEq, isNon, seqD, fldD, setFD, methD, lstD, dBj, dSum, wLrg, rngD, wIsi, isiD, dPop, dClear, Bif_true, Bif_false, List.getElem?_cons_zero, List.getElem?_cons_succ, hM, hO, lk_fact, f0]
    exact ⟨fld_ok c (by decide) in_fact, m, f, rfl, ho.1, q M (Ext.refl M)⟩
  | lck f => cases hk
  | som n fs => cases hk
  | led fs k => cases hk
theorem rd_Lack_carried (hO : cn.O = fldO c) (f0 : cn.F.getD 0 (fun _ _ _ => False) = spHas) (h : spCarried c 1 ds M Q) : wSs cn ir_Have_blocked (fin Q) (startD ["", "", ""] ds) M := by
  obtain ⟨a, t, h, m, hk, ho, rfl, hM, q⟩ := h
  cases t with
  | lck f =>
    have hM : M a = some (.ins (c.at 1) [("fact", .int f)]) := hM
    show wSs cn ir_Have_blocked (fin Q) [some (.ref a), some (.int h), some (.int m)] M
    unfold ir_Have_blocked
    simp only [wSs, wS, wE, wEs, wEo, wTo, wT, wI, wSeq, wNext, wIfS, wTest, wTru, wOp, wAnd, wOr, wNot, wAndV, wOrV, wNotV, wRet, wSet, wAsg, wDrop, wCall, wMt, wSl, wLst, wTup, wNil, wCons, wFor, wSeqI, wRng1, wRng2, wComp, wSetC, wPutIx, wFld, wSetF, wMeth, getS, boolD, truD, intD, optD, bindT, setM, dBin, dCmp, dIB, dI, dI0, dMul, dAdd, dBi, dLen, dIsinst, dII, dDivmod, dTuple, dList, dMt, mtRc, recvD, dIx, dSl, dPut, dEqV, dNeV, dIsV, dIsNotV, dInV, dNotInV, dInP, dEq, isNon, seqD, fldD, setFD, methD, lstD, dBj, dSum, wLrg, rngD, wIsi, isiD, dPop, dClear, Bif_true, Bif_false, List.getElem?_cons_zero, List.getElem?_cons_succ, hM, hO, lk_fact, f0]
    exact ⟨fld_ok c (by decide) in_fact, m, f, rfl, ho.1, q M (Ext.refl M)⟩
  | hav f => cases hk
  | som n fs => cases hk
  | led fs k => cases hk
theorem rd_Some_carried (hO : cn.O = fldO c) (f0 : cn.F.getD 0 (fun _ _ _ => False) = spCount) (h : spCarried c 2 ds M Q) : wSs cn ir_Some_carried (fin Q) (startD ["", "", ""] ds) M := by
  obtain ⟨a, t, h, m, hk, ho, rfl, hM, q⟩ := h
  cases t with
  | som n fs =>
    have hM : M a = some (.ins (c.at 2) [("number", .int n), ("facts", .tup (intL fs))]) := hM
    show wSs cn ir_Some_carried (fin Q) [some (.ref a), some (.int h), some (.int m)] M
    unfold ir_Some_carried
    simp only [wSs, wS, wE, wEs, wEo, wTo, wT, wI, wSeq, wNext, wIfS, wTest, wTru, wOp, wAnd, wOr, wNot, wAndV, wOrV, wNotV, wRet, wSet, wAsg, wDrop, wCall, wMt, wSl, wLst, wTup, wNil, wCons, wFor, wSeqI, wRng1, wRng2, wComp, wSetC, wPutIx, wFld, wSetF, wMeth, getS, boolD, truD, intD, optD, bindT, setM, dBin, dCmp, dIB, dI, dI0, dMul, dAdd, dBi, dLen, dIsinst, dII, dDivmod, dTuple, dList, dMt, mtRc, recvD, dIx, dSl, dPut, dEqV, dNeV, dIsV, dIsNotV, dInV, dNotInV, dInP, dEq, isNon, seqD, fldD, setFD, methD, lstD, dBj, dSum, wLrg, rngD, wIsi, isiD, dPop, dClear, Bif_true, Bif_false, List.getElem?_cons_zero, List.getElem?_cons_succ, hM, hO, lk_number, lk_facts, f0]
    refine ⟨fld_ok c (by decide) in_facts, fs, h, rfl, fun f hf => (ho.2 f hf).1, fun M1 e1 => ?_⟩
    simp only [e1 a _ hM, lk_number]
    exact ⟨fld_ok c (by decide) in_number, q M1 e1⟩
  | hav f => cases hk
  | lck f => cases hk
  | led fs k => cases hk
theorem rd_Some_blocked (hO : cn.O = fldO c) (f0 : cn.F.getD 0 (fun _ _ _ => False) = spCount) (h : spBlocked c 2 ds M Q) : wSs cn ir_Some_blocked (fin Q) (startD ["", "", ""] ds) M := by
  obtain ⟨a, t, h, m, hk, ho, rfl, hM, q⟩ := h
  cases t with
  | som n fs =>
    have hM : M a = some (.ins (c.at 2) [("number", .int n), ("facts", .tup (intL fs))]) := hM
    show wSs cn ir_Some_blocked (fin Q) [some (.ref a), some (.int h), some (.int m)] M
    unfold ir_Some_blocked
    simp only [wSs, wS, wE, wEs, wEo, wTo, wT, wI, wSeq, wNext, wIfS, wTest, wTru, wOp, wAnd, wOr, wNot, wAndV, wOrV, wNotV, wRet, wSet, wAsg, wDrop, wCall, wMt, wSl, wLst, wTup, wNil, wCons, wFor, wSeqI, wRng1, wRng2, wComp, wSetC, wPutIx, wFld, wSetF, wMeth, getS, boolD, truD, intD, optD, bindT, setM, dBin, dCmp, dIB, dI, dI0, dMul, dAdd, dBi, dLen, dIsinst, dII, dDivmod, dTuple, dList, dMt, mtRc, recvD, dIx, dSl, dPut, dEqV, dNeV, dIsV, dIsNotV, dInV, dNotInV, dInP, dEq, isNon, seqD, fldD, setFD, methD, lstD, dBj, dSum, wLrg, rngD, wIsi, isiD, dPop, dClear, Bif_true, Bif_false, List.getElem?_cons_zero, List.getElem?_cons_succ, hM, hO, lk_number, lk_facts, f0]
    refine ⟨fld_ok c (by decide) in_facts, fs, m, rfl, fun f hf => (ho.2 f hf).1, fun M1 e1 => ?_⟩
    simp only [e1 a _ hM, lk_number]
    exact ⟨fld_ok c (by decide) in_number, q M1 e1⟩
  | hav f => cases hk
  | lck f => cases hk
  | led fs k => cases hk
theorem rd_Lead_carried (hO : cn.O = fldO c) (f0 : cn.F.getD 0 (fun _ _ _ => False) = spHas) (f1 : cn.F.getD 1 (fun _ _ _ => False) = spCount) (h : spCarried c 3 ds M Q) : wSs cn ir_Lead_carried (fin Q) (startD ["", "", ""] ds) M := by
  obtain ⟨a, t, h, m, hk, ho, rfl, hM, q⟩ := h
  cases t with
  | led fs k =>
    have hM : M a = some (.ins (c.at 3) [("facts", .tup (intL fs)), ("at", .int k)]) := hM
    show wSs cn ir_Lead_carried (fin Q) [some (.ref a), some (.int h), some (.int m)] M
    unfold ir_Lead_carried
    simp only [wSs, wS, wE, wEs, wEo, wTo, wT, wI, wSeq, wNext, wIfS, wTest, wTru, wOp, wAnd, wOr, wNot, wAndV, wOrV, wNotV, wRet, wSet, wAsg, wDrop, wCall, wMt, wSl, wLst, wTup, wNil, wCons, wFor, wSeqI, wRng1, wRng2, wComp, wSetC, wPutIx, wFld, wSetF, wMeth, getS, boolD, truD, intD, optD, bindT, setM, dBin, dCmp, dIB, dI, dI0, dMul, dAdd, dBi, dLen, dIsinst, dII, dDivmod, dTuple, dList, dMt, mtRc, recvD, dIx, dSl, dPut, dEqV, dNeV, dIsV, dIsNotV, dInV, dNotInV, dInP, dEq, isNon, seqD, fldD, setFD, methD, lstD, dBj, dSum, wLrg, rngD, wIsi, isiD, dPop, dClear, Bif_true, Bif_false, List.getElem?_cons_zero, List.getElem?_cons_succ, hM, hO, lk_facts2, lk_at, f0, f1, ints_at ho.1.1, cutInts]
    refine ⟨fld_ok c (by decide) in_facts, fld_ok c (by decide) in_at, h, fs.getD k 0, rfl, getD_ok ho.1.1 ho.2, ?_⟩
    have q : ∀ M', Ext M M' → Q (.bl (hasB h (fs.getD k 0) && (((cntB (fs.take k) m : Nat) : Int) == 0))) M' := q
    cases hb : hasB h (fs.getD k 0) with
    | false => rw [hb, Bool.false_and] at q; exact q M (Ext.refl M)
    | true =>
      rw [hb, Bool.true_and] at q
      simp only [Bif_true, hM, lk_facts2, lk_at, cutInts]
      refine ⟨fld_ok c (by decide) in_facts, fld_ok c (by decide) in_at, not_whole ho.1.1, fs.take k, m, rfl, fun f hf => (ho.2 f (List.mem_of_mem_take hf)).1, fun M1 e1 => ⟨⟨rfl, rfl, (by decide : (0 : Nat) ≤ 30)⟩, ?_⟩⟩
      rw [eD_int]
      exact q M1 e1
  | hav f => cases hk
  | lck f => cases hk
  | som n fs => cases hk
theorem rd_Lead_blocked (hO : cn.O = fldO c) (f0 : cn.F.getD 0 (fun _ _ _ => False) = spHas) (f1 : cn.F.getD 1 (fun _ _ _ => False) = spCount) (h : spBlocked c 3 ds M Q) : wSs cn ir_Lead_blocked (fin Q) (startD ["", "", ""] ds) M := by
  obtain ⟨a, t, h, m, hk, ho, rfl, hM, q⟩ := h
  cases t with
  | led fs k =>
    have hM : M a = some (.ins (c.at 3) [("facts", .tup (intL fs)), ("at", .int k)]) := hM
    show wSs cn ir_Lead_blocked (fin Q) [some (.ref a), some (.int h), some (.int m)] M
    unfold ir_Lead_blocked
    simp only [wSs, wS, wE, wEs, wEo, wTo, wT, wI, wSeq, wNext, wIfS, wTest, wTru, wOp, wAnd, wOr, wNot, wAndV, wOrV, wNotV, wRet, wSet, wAsg, wDrop, wCall, wMt, wSl, wLst, wTup, wNil, wCons, wFor, wSeqI, wRng1, wRng2, wComp, wSetC, wPutIx, wFld, wSetF, wMeth, getS, boolD, truD, intD, optD, bindT, setM, dBin, dCmp, dIB, dI, dI0, dMul, dAdd, dBi, dLen, dIsinst, dII, dDivmod, dTuple, dList, dMt, mtRc, recvD, dIx, dSl, dPut, dEqV, dNeV, dIsV, dIsNotV, dInV, dNotInV, dInP, dEq, isNon, seqD, fldD, setFD, methD, lstD, dBj, dSum, wLrg, rngD, wIsi, isiD, dPop, dClear, Bif_true, Bif_false, List.getElem?_cons_zero, List.getElem?_cons_succ, hM, hO, lk_facts2, lk_at, f0, f1, ints_at ho.1.1, cutInts]
    refine ⟨fld_ok c (by decide) in_facts, fld_ok c (by decide) in_at, m, fs.getD k 0, rfl, getD_ok ho.1.1 ho.2, ?_⟩
    have q : ∀ M', Ext M M' → Q (.bl (!hasB m (fs.getD k 0) || decide (0 < ((cntB (fs.take k) h : Nat) : Int)))) M' := q
    cases hb : hasB m (fs.getD k 0) with
    | false => rw [hb] at q; exact q M (Ext.refl M)
    | true =>
      rw [hb] at q
      simp only [Bool.not_true, Bif_false, hM, lk_facts2, lk_at, cutInts]
      refine ⟨fld_ok c (by decide) in_facts, fld_ok c (by decide) in_at, not_whole ho.1.1, fs.take k, h, rfl, fun f hf => (ho.2 f (List.mem_of_mem_take hf)).1, fun M1 e1 => ?_⟩
      exact q M1 e1
  | hav f => cases hk
  | lck f => cases hk
  | som n fs => cases hk
theorem rd_Have_leaning (hO : cn.O = fldO c) (h : spLeaning c 0 ds M Q) : wSs cn ir_Have_leaning (fin Q) (startD [""] ds) M := by
  obtain ⟨a, t, hk, ho, rfl, hM, q⟩ := h
  cases t with
  | hav f =>
    have hM : M a = some (.ins (c.at 0) [("fact", .int f)]) := hM
    show wSs cn ir_Have_leaning (fin Q) [some (.ref a)] M
    unfold ir_Have_leaning
    simp only [wSs, wS, wE, wEs, wEo, wTo, wT, wI, wSeq, wNext, wIfS, wTest, wTru, wOp, wAnd, wOr, wNot, wAndV, wOrV, wNotV, wRet, wSet, wAsg, wDrop, wCall, wMt, wSl, wLst, wTup, wNil, wCons, wFor, wSeqI, wRng1, wRng2, wComp, wSetC, wPutIx, wFld, wSetF, wMeth, getS, boolD, truD, intD, optD, bindT, setM, dBin, dCmp, dIB, dI, dI0, dMul, dAdd, dBi, dLen, dIsinst, dII, dDivmod, dTuple, dList, dMt, mtRc, recvD, dIx, dSl, dPut, dEqV, dNeV, dIsV, dIsNotV, dInV, dNotInV, dInP, dEq, isNon, seqD, fldD, setFD, methD, lstD, dBj, dSum, wLrg, rngD, wIsi, isiD, dPop, dClear, Bif_true, Bif_false, List.getElem?_cons_zero, List.getElem?_cons_succ, hM, hO, lk_fact]
    exact ⟨fld_ok c (by decide) in_fact, fun p hp => q p _ hp (Ext.new hp) updM_same⟩
  | lck f => cases hk
  | som n fs => cases hk
  | led fs k => cases hk
theorem rd_Lack_leaning (hO : cn.O = fldO c) (h : spLeaning c 1 ds M Q) : wSs cn ir_Lack_leaning (fin Q) (startD [""] ds) M := by
  obtain ⟨a, t, hk, ho, rfl, hM, q⟩ := h
  cases t with
  | lck f =>
    have hM : M a = some (.ins (c.at 1) [("fact", .int f)]) := hM
    show wSs cn ir_Lack_leaning (fin Q) [some (.ref a)] M
    unfold ir_Lack_leaning
    simp only [wSs, wS, wE, wEs, wEo, wTo, wT, wI, wSeq, wNext, wIfS, wTest, wTru, wOp, wAnd, wOr, wNot, wAndV, wOrV, wNotV, wRet, wSet, wAsg, wDrop, wCall, wMt, wSl, wLst, wTup, wNil, wCons, wFor, wSeqI, wRng1, wRng2, wComp, wSetC, wPutIx, wFld, wSetF, wMeth, getS, boolD, truD, intD, optD, bindT, setM, dBin, dCmp, dIB, dI, dI0, dMul, dAdd, dBi, dLen, dIsinst, dII, dDivmod, dTuple, dList, dMt, mtRc, recvD, dIx, dSl, dPut, dEqV, dNeV, dIsV, dIsNotV, dInV, dNotInV, dInP, dEq, isNon, seqD, fldD, setFD, methD, lstD, dBj, dSum, wLrg, rngD, wIsi, isiD, dPop, dClear, Bif_true, Bif_false, List.getElem?_cons_zero, List.getElem?_cons_succ, hM, hO, lk_fact]
    exact ⟨fld_ok c (by decide) in_fact, fun p hp => q p _ hp (Ext.new hp) updM_same⟩
  | hav f => cases hk
  | som n fs => cases hk
  | led fs k => cases hk
/-- a fact's leaning -/
def leanOf (b : Bool) : D → D
  | .int f => leanD b f
  | d => d
theorem lean_map (b : Bool) (fs : List Int) : (intL fs).map (leanOf b) = fs.map (leanD b) := by
  unfold intL
  rw [List.map_map]
  rfl
theorem rd_Some_leaning (hO : cn.O = fldO c) (h : spLeaning c 2 ds M Q) : wSs cn ir_Some_leaning (fin Q) (startD [""] ds) M := by
  obtain ⟨a, t, hk, ho, rfl, hM, q⟩ := h
  cases t with
  | som n fs =>
    have hM : M a = some (.ins (c.at 2) [("number", .int n), ("facts", .tup (intL fs))]) := hM
    show wSs cn ir_Some_leaning (fin Q) [some (.ref a)] M
    unfold ir_Some_leaning
    simp only [wSs, wS, wE, wEs, wEo, wTo, wT, wI, wSeq, wNext, wIfS, wTest, wTru, wOp, wAnd, wOr, wNot, wAndV, wOrV, wNotV, wRet, wSet, wAsg, wDrop, wCall, wMt, wSl, wLst, wTup, wNil, wCons, wFor, wSeqI, wRng1, wRng2, wComp, wSetC, wPutIx, wFld, wSetF, wMeth, getS, boolD, truD, intD, optD, bindT, setM, dBin, dCmp, dIB, dI, dI0, dMul, dAdd, dBi, dLen, dIsinst, dII, dDivmod, dTuple, dList, dMt, mtRc, recvD, dIx, dSl, dPut, dEqV, dNeV, dIsV, dIsNotV, dInV, dNotInV, dInP, dEq, isNon, seqD, fldD, setFD, methD, lstD, dBj, dSum, wLrg, rngD, wIsi, isiD, dPop, dClear, Bif_true, Bif_false, List.getElem?_cons_zero, List.getElem?_cons_succ, hM, hO, lk_facts]
    refine ⟨fld_ok c (by decide) in_facts, ?_⟩
    refine comp_map (f := leanOf false) (ok := fun σ => ∃ v, σ = [some (.ref a), v]) [] _ ⟨none, rfl⟩ ?_ ?_
    · intro d hd σ acc rest ⟨v, hv⟩ k
      subst hv
      obtain ⟨f, hfm, rfl⟩ := List.mem_map.1 hd
      exact ⟨trivial, k _ ⟨_, rfl⟩⟩
    · intro p hp
      rw [List.nil_append, lean_map]
      exact q p _ hp (Ext.new hp) updM_same
  | hav f => cases hk
  | lck f => cases hk
  | led fs k => cases hk
theorem rd_Lead_leaning (hO : cn.O = fldO c) (h : spLeaning c 3 ds M Q) : wSs cn ir_Lead_leaning (fin Q) (startD [""] ds) M := by
  obtain ⟨a, t, hk, ho, rfl, hM, q⟩ := h
  cases t with
  | led fs k =>
    have hM : M a = some (.ins (c.at 3) [("facts", .tup (intL fs)), ("at", .int k)]) := hM
    show wSs cn ir_Lead_leaning (fin Q) [some (.ref a)] M
    unfold ir_Lead_leaning
    simp only [wSs, wS, wE, wEs, wEo, wTo, wT, wI, wSeq, wNext, wIfS, wTest, wTru, wOp, wAnd, wOr, wNot, wAndV, wOrV, wNotV, wRet, wSet, wAsg, wDrop, wCall, wMt, wSl, wLst, wTup, wNil, wCons, wFor, wSeqI, wRng1, wRng2, wComp, wSetC, wPutIx, wFld, wSetF, wMeth, getS, boolD, truD, intD, optD, bindT, setM, dBin, dCmp, dIB, dI, dI0, dMul, dAdd, dBi, dLen, dIsinst, dII, dDivmod, dTuple, dList, dMt, mtRc, recvD, dIx, dSl, dPut, dEqV, dNeV, dIsV, dIsNotV, dInV, dNotInV, dInP, dEq, isNon, seqD, fldD, setFD, methD, lstD, dBj, dSum, wLrg, rngD, wIsi, isiD, dPop, dClear, Bif_true, Bif_false, List.getElem?_cons_zero, List.getElem?_cons_succ, hM, hO, lk_facts2, lk_at, cutInts]
    refine ⟨fld_ok c (by decide) in_facts, fld_ok c (by decide) in_at, not_whole ho.1.1, ?_⟩
    refine comp_map (f := leanOf true) (ok := fun σ => ∃ v, σ = [some (.ref a), v]) [] _ ⟨none, rfl⟩ ?_ ?_
    · intro d hd σ acc rest ⟨v, hv⟩ k
      subst hv
      obtain ⟨f, hfm, rfl⟩ := List.mem_map.1 hd
      exact ⟨trivial, k _ ⟨_, rfl⟩⟩
    · intro p hp
      rw [List.nil_append, lean_map]
      have e1 := Ext.new (o := MO.lst ((fs.take k).map (leanD true))) hp
      have h1 := e1 a _ hM
      have hpp : updM M p (MO.lst ((fs.take k).map (leanD true))) p = some (.lst ((fs.take k).map (leanD true))) := updM_same
      generalize updM M p (MO.lst ((fs.take k).map (leanD true))) = M1 at *
      simp only [h1, lk_facts2, lk_at, ints_at ho.1.1]
      refine ⟨fld_ok c (by decide) in_facts, fld_ok c (by decide) in_at, fun p2 hp2 => ?_⟩
      have e2 := Ext.new (o := MO.lst [D.tup [D.int (fs.getD k 0), D.bl false]]) hp2
      have h2 := e2 p _ hpp
      have hp22 : updM M1 p2 (MO.lst [D.tup [D.int (fs.getD k 0), D.bl false]]) p2 = some (.lst [D.tup [D.int (fs.getD k 0), D.bl false]]) := updM_same
      generalize updM M1 p2 (MO.lst [D.tup [D.int (fs.getD k 0), D.bl false]]) = M2 at *
      simp only [h2, hp22]
      refine ⟨?_, fun p3 hp3 => q p3 _ ?_ ((e1.trans e2).then hp3) updM_same⟩
      · have : ((fs.take k).map (leanD true)).length ≤ 6 := by rw [List.length_map]; exact Nat.le_trans (List.length_take_le' _ _) ho.1.2
        have h6 : (7 : Nat) ≤ sizeLine := by decide
        simp only [List.length_cons, List.length_nil]
        omega
      · cases e : M p3 with
        | none => rfl
        | some o => have := (e1.trans e2) p3 o e; rw [hp3] at this; cases this
  | hav f => cases hk
  | lck f => cases hk
  | som n fs => cases hk
end
end SH

set_option Elab.async false
set_option maxRecDepth 100000
set_option maxHeartbeats 4000000
set_option linter.all false
namespace SH
open PySem L2 DD
/-! ## the law of conds -/
theorem Ext.free {M M' : MH} {p : Addr} (e : Ext M M') (h : M' p = none) : M p = none := by
  cases q : M p with
  | none => rfl
  | some o => have := e p o q; rw [h] at this; cases this
theorem Ext.put {M M' : MH} {p : Addr} {o : MO} (e : Ext M M') (h : M p = none) : Ext M (updM M' p o) := fun a u q => by
  have : a ≠ p := fun z => by subst z; rw [h] at q; cases q
  rw [updM_ne this]; exact e a u q
theorem ext_mk {M M' : MH} {x : Addr} {o : MO} (hx : M x = none) (h : ∀ b, b ≠ x → M' b = updM M x o b) : Ext M M' := fun b u e => by
  have : b ≠ x := fun z => by subst z; rw [hx] at e; cases e
  rw [h b this, updM_ne this]; exact e
theorem ne_new {M : MH} {a p : Addr} {o : MO} (h : M a = some o) (hp : M p = none) : a ≠ p := fun z => by subst z; rw [hp] at h; cases h
theorem ExtBut.refl (p : Addr) (M : MH) : ExtBut p M M := fun _ _ _ h => h
theorem ExtBut.trans {p : Addr} {M M' M'' : MH} (a : ExtBut p M M') (b : ExtBut p M' M'') : ExtBut p M M'' := fun c o n h => b c o n (a c o n h)
theorem Ext.but {p : Addr} {M M' : MH} (a : Ext M M') : ExtBut p M M' := fun c o _ h => a c o h
theorem ExtBut.upd (p : Addr) (M : MH) (o : MO) : ExtBut p M (updM M p o) := fun c u n h => by rw [updM_ne n]; exact h
/-- changed at p, which is new here -/
theorem ExtBut.ext {p : Addr} {M M1 M2 : MH} (a : Ext M M1) (b : ExtBut p M1 M2) (h : M p = none) : Ext M M2 := fun c o q => b c o (ne_new q h) (a c o q)
/-- a loop that keeps P -/
theorem loop_inv {g : MH → Prop} {t : Tgt} {tb : WS} {E : EndsD} {P : DS → MH → Prop} : ∀ {xs : List D} (σ : DS) (M : MH), P σ M →
    (∀ x ∈ xs, ∀ σ M (N : DS → MH → Prop), P σ M → (∀ σ' M', P σ' M' → N σ' M') → bindT t x σ fun σ' => tb { E with nx := fun σ2 M2 => g M2 ∧ N σ2 M2, ct := fun σ2 M2 => g M2 ∧ N σ2 M2, bk := E.nx } σ' M) →
    (∀ σ M, P σ M → E.nx σ M) → loopD g t tb E xs σ M
  | [], σ, M, h, _, q => q σ M h
  | x :: xs, σ, M, h, st, q => st x List.mem_cons_self σ M (fun σ2 M2 => loopD g t tb E xs σ2 M2) h fun σ' M' h' => loop_inv σ' M' h' (fun y hy => st y (.tail _ hy)) q
/-- a block by what it has made so far -/
theorem comp_inv {g : MH → Prop} {t : Tgt} {c : WT} {e : WE} {F : List D → MH → Prop} {P : Nat → List D → DS → MH → Prop} {n : Nat} : ∀ {xs : List D} (i : Nat) (acc : List D) (σ : DS) (M : MH), i + xs.length = n → P i acc σ M →
    (∀ x ∈ xs, ∀ j acc rest σ M, j < n → P j acc σ M → (∀ y σ' M', P (j + 1) (acc ++ [y]) σ' M' → compD g t c e F rest (acc ++ [y]) σ' M') → compD g t c e F (x :: rest) acc σ M) → (∀ acc σ M, P n acc σ M → F acc M) → compD g t c e F xs acc σ M
  | [], i, acc, σ, M, hn, h, _, q => by
    have : i = n := by simpa using hn
    subst this
    exact q acc σ M h
  | x :: xs, i, acc, σ, M, hn, h, st, q => st x List.mem_cons_self i acc xs σ M (by rw [List.length_cons] at hn; omega) h fun y σ' M' h' => comp_inv (i + 1) (acc ++ [y]) σ' M' (by rw [List.length_cons] at hn; omega) h' (fun z hz => st z (.tail _ hz)) q
theorem sh_ : (("have" : Str) == "have") = true := beq_self_eq_true _
theorem s_ss : (("some" : Str) == "some") = true := beq_self_eq_true _
theorem s_ll : (("lack" : Str) == "lack") = true := beq_self_eq_true _
theorem s_dd : (("lead" : Str) == "lead") = true := beq_self_eq_true _
theorem s_hs : (("have" : Str) == "some") = false := by decide +kernel
theorem s_hd : (("have" : Str) == "lead") = false := by decide +kernel
theorem s_lh : (("lack" : Str) == "have") = false := by decide +kernel
theorem s_ls : (("lack" : Str) == "some") = false := by decide +kernel
theorem s_ld : (("lack" : Str) == "lead") = false := by decide +kernel
theorem s_sh : (("some" : Str) == "have") = false := by decide +kernel
theorem s_sl : (("some" : Str) == "lack") = false := by decide +kernel
theorem s_dh : (("lead" : Str) == "have") = false := by decide +kernel
theorem s_dl : (("lead" : Str) == "lack") = false := by decide +kernel
theorem s_ds : (("lead" : Str) == "some") = false := by decide +kernel
def spMade (c : CA) : SpD := fun ds M Q => ∃ t : CT, ds = [t.told] ∧ ∀ p M', M p = none → Ext M M' → M' p = some (t.obj c) → Q (.ref p) M'
def spFacts : SpD := fun ds M Q => ∃ t : CT, ds = [t.told] ∧ ∀ p, M p = none → Q (.ref p) (updM M p (.lst (intL t.facts)))
def spFields (c : CA) : SpD := fun ds M Q => ∃ (a : Addr) (t : CT), ds = [.ref a, t.told] ∧ M a = some (t.obj c) ∧ Q (.bl true) M
def spDue : SpD := fun ds M Q => ∃ (t : CT) (h m : Int), ds = [t.told, .int h, .int m] ∧ t.ok ∧ ∀ p M', M p = none → Ext M M' → M' p = some (.lst t.leans) → Q (.tup [.bl (t.carried h m), .bl (t.blocked h m), .ref p]) M'
def ir_law_made_0 : Ss := .cons (.ret (.fn 0 (.cons (.ix (.var 0) (.int 1)) (.cons (.ix (.var 0) (.int 2)) .nil)))) .nil
def ir_law_made_1 : Ss := .cons (.ite (.cmp .Eq (.ix (.var 0) (.int 0)) (.str "some")) (.cons (.ret (.fn 1 (.cons (.ix (.var 0) (.int 1)) (.cons (.ix (.var 0) (.int 2)) .nil)))) .nil) .nil) ir_law_made_0
def ir_law_made_2 : Ss := .cons (.ite (.cmp .Eq (.ix (.var 0) (.int 0)) (.str "lack")) (.cons (.ret (.fn 2 (.cons (.ix (.var 0) (.int 1)) .nil))) .nil) .nil) ir_law_made_1
def ir_law_made : Ss := .cons (.ite (.cmp .Eq (.ix (.var 0) (.int 0)) (.str "have")) (.cons (.ret (.fn 3 (.cons (.ix (.var 0) (.int 1)) .nil))) .nil) .nil) ir_law_made_2
def ir_law_facts_0 : Ss := .cons (.ret (.lst (.cons (.ix (.var 0) (.int 1)) .nil))) .nil
def ir_law_facts_1 : Ss := .cons (.ite (.cmp .Eq (.ix (.var 0) (.int 0)) (.str "lead")) (.cons (.ret (.bi .list (.cons (.ix (.var 0) (.int 1)) .nil))) .nil) .nil) ir_law_facts_0
def ir_law_facts : Ss := .cons (.ite (.cmp .Eq (.ix (.var 0) (.int 0)) (.str "some")) (.cons (.ret (.bi .list (.cons (.ix (.var 0) (.int 2)) .nil))) .nil) .nil) ir_law_facts_1
def ir_law_fields_0 : Ss := .cons (.ret (.cmp .Eq (.fld (.var 0) "fact") (.ix (.var 1) (.int 1)))) .nil
def ir_law_fields_1 : Ss := .cons (.ite (.cmp .Eq (.ix (.var 1) (.int 0)) (.str "lead")) (.cons (.ret (.and (.cmp .Eq (.fld (.var 0) "facts") (.ix (.var 1) (.int 1))) (.cmp .Eq (.fld (.var 0) "at") (.ix (.var 1) (.int 2))))) .nil) .nil) ir_law_fields_0
def ir_law_fields : Ss := .cons (.ite (.cmp .Eq (.ix (.var 1) (.int 0)) (.str "some")) (.cons (.ret (.and (.cmp .Eq (.fld (.var 0) "number") (.ix (.var 1) (.int 1))) (.cmp .Eq (.fld (.var 0) "facts") (.ix (.var 1) (.int 2))))) .nil) .nil) ir_law_fields_1
section
variable {cn : Cn} {c : CA} {ds : List D} {M : MH} {Q : DK}
theorem rd_made (hF : cn.F = [spMake (c.at 3) (spInit c 3), spMake (c.at 2) (spInit c 2), spMake (c.at 1) (spInit c 1), spMake (c.at 0) (spInit c 0)]) (h : spMade c ds M Q) : wSs cn ir_law_made (fin Q) (startD [""] ds) M := by
  obtain ⟨t, rfl, q⟩ := h
  show wSs cn ir_law_made (fin Q) [some t.told] M
  cases t with
  | hav f =>
    unfold ir_law_made
    simp only [wSs, wS, wE, wEs, wEo, wTo, wT, wI, wSeq, wNext, wIfS, wTest, wTru, wOp, wAnd, wOr, wNot, wAndV, wOrV, wNotV, wRet, wSet, wAsg, wDrop, wCall, wMt, wSl, wLst, wTup, wNil, wCons, wFor, wSeqI, wRng1, wRng2, wComp, wSetC, wPutIx, wFld, wSetF, wMeth, getS, boolD, truD, intD, optD, bindT, setM, dBin, dCmp, dIB, dI, dI0, dMul, dAdd, dBi, dLen, dIsinst, dII, dDivmod, dTuple, dList, dMt, mtRc, recvD, dIx, dSl, dPut, dEqV, dNeV, dIsV, dIsNotV, dInV, dNotInV, dInP, dEq, isNon, seqD, fldD, setFD, methD, lstD, dBj, dSum, wLrg, rngD, wIsi, isiD, dPop, dClear, Bif_true, Bif_false, pD_str, pD_int, pD_bl, dD_str, dD_int, dD_bl, eD_int, eD_str, Nat.zero_le, and_self, true_and, and_true, CT.told, List.getElem?_cons_zero, List.getElem?_cons_succ, at0, at1, at2, hF, List.getD_cons_zero, List.getD_cons_succ, sh_]
    exact fun x hx => ⟨x, .hav f, rfl, rfl, updM_same, fun M' h1 h2 => ⟨rfl, q x M' hx (ext_mk hx h1) h2⟩⟩
  | lck f =>
    unfold ir_law_made
    simp only [wSs, wS, wE, wEs, wEo, wTo, wT, wI, wSeq, wNext, wIfS, wTest, wTru, wOp, wAnd, wOr, wNot, wAndV, wOrV, wNotV, wRet, wSet, wAsg, wDrop, wCall, wMt, wSl, wLst, wTup, wNil, wCons, wFor, wSeqI, wRng1, wRng2, wComp, wSetC, wPutIx, wFld, wSetF, wMeth, getS, boolD, truD, intD, optD, bindT, setM, dBin, dCmp, dIB, dI, dI0, dMul, dAdd, dBi, dLen, dIsinst, dII, dDivmod, dTuple, dList, dMt, mtRc, recvD, dIx, dSl, dPut, dEqV, dNeV, dIsV, dIsNotV, dInV, dNotInV, dInP, dEq, isNon, seqD, fldD, setFD, methD, lstD, dBj, dSum, wLrg, rngD, wIsi, isiD, dPop, dClear, Bif_true, Bif_false, pD_str, pD_int, pD_bl, dD_str, dD_int, dD_bl, eD_int, eD_str, Nat.zero_le, and_self, true_and, and_true, CT.told, List.getElem?_cons_zero, List.getElem?_cons_succ, at0, at1, at2, hF, List.getD_cons_zero, List.getD_cons_succ, s_lh]
    unfold ir_law_made_2
    simp only [wSs, wS, wE, wEs, wEo, wTo, wT, wI, wSeq, wNext, wIfS, wTest, wTru, wOp, wAnd, wOr, wNot, wAndV, wOrV, wNotV, wRet, wSet, wAsg, wDrop, wCall, wMt, wSl, wLst, wTup, wNil, wCons, wFor, wSeqI, wRng1, wRng2, wComp, wSetC, wPutIx, wFld, wSetF, wMeth, getS, boolD, truD, intD, optD, bindT, setM, dBin, dCmp, dIB, dI, dI0, dMul, dAdd, dBi, dLen, dIsinst, dII, dDivmod, dTuple, dList, dMt, mtRc, recvD, dIx, dSl, dPut, dEqV, dNeV, dIsV, dIsNotV, dInV, dNotInV, dInP, dEq, isNon, seqD, fldD, setFD, methD, lstD, dBj, dSum, wLrg, rngD, wIsi, isiD, dPop, dClear, Bif_true, Bif_false, pD_str, pD_int, pD_bl, dD_str, dD_int, dD_bl, eD_int, eD_str, Nat.zero_le, and_self, true_and, and_true, CT.told, List.getElem?_cons_zero, List.getElem?_cons_succ, at0, at1, at2, hF, List.getD_cons_zero, List.getD_cons_succ, s_ll]
    exact fun x hx => ⟨x, .lck f, rfl, rfl, updM_same, fun M' h1 h2 => ⟨rfl, q x M' hx (ext_mk hx h1) h2⟩⟩
  | som n fs =>
    unfold ir_law_made
    simp only [wSs, wS, wE, wEs, wEo, wTo, wT, wI, wSeq, wNext, wIfS, wTest, wTru, wOp, wAnd, wOr, wNot, wAndV, wOrV, wNotV, wRet, wSet, wAsg, wDrop, wCall, wMt, wSl, wLst, wTup, wNil, wCons, wFor, wSeqI, wRng1, wRng2, wComp, wSetC, wPutIx, wFld, wSetF, wMeth, getS, boolD, truD, intD, optD, bindT, setM, dBin, dCmp, dIB, dI, dI0, dMul, dAdd, dBi, dLen, dIsinst, dII, dDivmod, dTuple, dList, dMt, mtRc, recvD, dIx, dSl, dPut, dEqV, dNeV, dIsV, dIsNotV, dInV, dNotInV, dInP, dEq, isNon, seqD, fldD, setFD, methD, lstD, dBj, dSum, wLrg, rngD, wIsi, isiD, dPop, dClear, Bif_true, Bif_false, pD_str, pD_int, pD_bl, dD_str, dD_int, dD_bl, eD_int, eD_str, Nat.zero_le, and_self, true_and, and_true, CT.told, List.getElem?_cons_zero, List.getElem?_cons_succ, at0, at1, at2, hF, List.getD_cons_zero, List.getD_cons_succ, s_sh]
    unfold ir_law_made_2
    simp only [wSs, wS, wE, wEs, wEo, wTo, wT, wI, wSeq, wNext, wIfS, wTest, wTru, wOp, wAnd, wOr, wNot, wAndV, wOrV, wNotV, wRet, wSet, wAsg, wDrop, wCall, wMt, wSl, wLst, wTup, wNil, wCons, wFor, wSeqI, wRng1, wRng2, wComp, wSetC, wPutIx, wFld, wSetF, wMeth, getS, boolD, truD, intD, optD, bindT, setM, dBin, dCmp, dIB, dI, dI0, dMul, dAdd, dBi, dLen, dIsinst, dII, dDivmod, dTuple, dList, dMt, mtRc, recvD, dIx, dSl, dPut, dEqV, dNeV, dIsV, dIsNotV, dInV, dNotInV, dInP, dEq, isNon, seqD, fldD, setFD, methD, lstD, dBj, dSum, wLrg, rngD, wIsi, isiD, dPop, dClear, Bif_true, Bif_false, pD_str, pD_int, pD_bl, dD_str, dD_int, dD_bl, eD_int, eD_str, Nat.zero_le, and_self, true_and, and_true, CT.told, List.getElem?_cons_zero, List.getElem?_cons_succ, at0, at1, at2, hF, List.getD_cons_zero, List.getD_cons_succ, s_sl]
    unfold ir_law_made_1
    simp only [wSs, wS, wE, wEs, wEo, wTo, wT, wI, wSeq, wNext, wIfS, wTest, wTru, wOp, wAnd, wOr, wNot, wAndV, wOrV, wNotV, wRet, wSet, wAsg, wDrop, wCall, wMt, wSl, wLst, wTup, wNil, wCons, wFor, wSeqI, wRng1, wRng2, wComp, wSetC, wPutIx, wFld, wSetF, wMeth, getS, boolD, truD, intD, optD, bindT, setM, dBin, dCmp, dIB, dI, dI0, dMul, dAdd, dBi, dLen, dIsinst, dII, dDivmod, dTuple, dList, dMt, mtRc, recvD, dIx, dSl, dPut, dEqV, dNeV, dIsV, dIsNotV, dInV, dNotInV, dInP, dEq, isNon, seqD, fldD, setFD, methD, lstD, dBj, dSum, wLrg, rngD, wIsi, isiD, dPop, dClear, Bif_true, Bif_false, pD_str, pD_int, pD_bl, dD_str, dD_int, dD_bl, eD_int, eD_str, Nat.zero_le, and_self, true_and, and_true, CT.told, List.getElem?_cons_zero, List.getElem?_cons_succ, at0, at1, at2, hF, List.getD_cons_zero, List.getD_cons_succ, s_ss]
    exact fun x hx => ⟨x, .som n fs, rfl, rfl, updM_same, fun M' h1 h2 => ⟨rfl, q x M' hx (ext_mk hx h1) h2⟩⟩
  | led fs k =>
    unfold ir_law_made
    simp only [wSs, wS, wE, wEs, wEo, wTo, wT, wI, wSeq, wNext, wIfS, wTest, wTru, wOp, wAnd, wOr, wNot, wAndV, wOrV, wNotV, wRet, wSet, wAsg, wDrop, wCall, wMt, wSl, wLst, wTup, wNil, wCons, wFor, wSeqI, wRng1, wRng2, wComp, wSetC, wPutIx, wFld, wSetF, wMeth, getS, boolD, truD, intD, optD, bindT, setM, dBin, dCmp, dIB, dI, dI0, dMul, dAdd, dBi, dLen, dIsinst, dII, dDivmod, dTuple, dList, dMt, mtRc, recvD, dIx, dSl, dPut, dEqV, dNeV, dIsV, dIsNotV, dInV, dNotInV, dInP, dEq, isNon, seqD, fldD, setFD, methD, lstD, dBj, dSum, wLrg, rngD, wIsi, isiD, dPop, dClear, Bif_true, Bif_false, pD_str, pD_int, pD_bl, dD_str, dD_int, dD_bl, eD_int, eD_str, Nat.zero_le, and_self, true_and, and_true, CT.told, List.getElem?_cons_zero, List.getElem?_cons_succ, at0, at1, at2, hF, List.getD_cons_zero, List.getD_cons_succ, s_dh]
    unfold ir_law_made_2
    simp only [wSs, wS, wE, wEs, wEo, wTo, wT, wI, wSeq, wNext, wIfS, wTest, wTru, wOp, wAnd, wOr, wNot, wAndV, wOrV, wNotV, wRet, wSet, wAsg, wDrop, wCall, wMt, wSl, wLst, wTup, wNil, wCons, wFor, wSeqI, wRng1, wRng2, wComp, wSetC, wPutIx, wFld, wSetF, wMeth, getS, boolD, truD, intD, optD, bindT, setM, dBin, dCmp, dIB, dI, dI0, dMul, dAdd, dBi, dLen, dIsinst, dII, dDivmod, dTuple, dList, dMt, mtRc, recvD, dIx, dSl, dPut, dEqV, dNeV, dIsV, dIsNotV, dInV, dNotInV, dInP, dEq, isNon, seqD, fldD, setFD, methD, lstD, dBj, dSum, wLrg, rngD, wIsi, isiD, dPop, dClear, Bif_true, Bif_false, pD_str, pD_int, pD_bl, dD_str, dD_int, dD_bl, eD_int, eD_str, Nat.zero_le, and_self, true_and, and_true, CT.told, List.getElem?_cons_zero, List.getElem?_cons_succ, at0, at1, at2, hF, List.getD_cons_zero, List.getD_cons_succ, s_dl]
    unfold ir_law_made_1
    simp only [wSs, wS, wE, wEs, wEo, wTo, wT, wI, wSeq, wNext, wIfS, wTest, wTru, wOp, wAnd, wOr, wNot, wAndV, wOrV, wNotV, wRet, wSet, wAsg, wDrop, wCall, wMt, wSl, wLst, wTup, wNil, wCons, wFor, wSeqI, wRng1, wRng2, wComp, wSetC, wPutIx, wFld, wSetF, wMeth, getS, boolD, truD, intD, optD, bindT, setM, dBin, dCmp, dIB, dI, dI0, dMul, dAdd, dBi, dLen, dIsinst, dII, dDivmod, dTuple, dList, dMt, mtRc, recvD, dIx, dSl, dPut, dEqV, dNeV, dIsV, dIsNotV, dInV, dNotInV, dInP, dEq, isNon, seqD, fldD, setFD, methD, lstD, dBj, dSum, wLrg, rngD, wIsi, isiD, dPop, dClear, Bif_true, Bif_false, pD_str, pD_int, pD_bl, dD_str, dD_int, dD_bl, eD_int, eD_str, Nat.zero_le, and_self, true_and, and_true, CT.told, List.getElem?_cons_zero, List.getElem?_cons_succ, at0, at1, at2, hF, List.getD_cons_zero, List.getD_cons_succ, s_ds]
    unfold ir_law_made_0
    simp only [wSs, wS, wE, wEs, wEo, wTo, wT, wI, wSeq, wNext, wIfS, wTest, wTru, wOp, wAnd, wOr, wNot, wAndV, wOrV, wNotV, wRet, wSet, wAsg, wDrop, wCall, wMt, wSl, wLst, wTup, wNil, wCons, wFor, wSeqI, wRng1, wRng2, wComp, wSetC, wPutIx, wFld, wSetF, wMeth, getS, boolD, truD, intD, optD, bindT, setM, dBin, dCmp, dIB, dI, dI0, dMul, dAdd, dBi, dLen, dIsinst, dII, dDivmod, dTuple, dList, dMt, mtRc, recvD, dIx, dSl, dPut, dEqV, dNeV, dIsV, dIsNotV, dInV, dNotInV, dInP, dEq, isNon, seqD, fldD, setFD, methD, lstD, dBj, dSum, wLrg, rngD, wIsi, isiD, dPop, dClear, Bif_true, Bif_false, pD_str, pD_int, pD_bl, dD_str, dD_int, dD_bl, eD_int, eD_str, Nat.zero_le, and_self, true_and, and_true, CT.told, List.getElem?_cons_zero, List.getElem?_cons_succ, at0, at1, at2, hF, List.getD_cons_zero, List.getD_cons_succ]
    exact fun x hx => ⟨x, .led fs k, rfl, rfl, updM_same, fun M' h1 h2 => ⟨rfl, q x M' hx (ext_mk hx h1) h2⟩⟩
theorem rd_facts (h : spFacts ds M Q) : wSs cn ir_law_facts (fin Q) (startD [""] ds) M := by
  obtain ⟨t, rfl, q⟩ := h
  show wSs cn ir_law_facts (fin Q) [some t.told] M
  cases t with
  | hav f =>
    unfold ir_law_facts
    simp only [wSs, wS, wE, wEs, wEo, wTo, wT, wI, wSeq, wNext, wIfS, wTest, wTru, wOp, wAnd, wOr, wNot, wAndV, wOrV, wNotV, wRet, wSet, wAsg, wDrop, wCall, wMt, wSl, wLst, wTup, wNil, wCons, wFor, wSeqI, wRng1, wRng2, wComp, wSetC, wPutIx, wFld, wSetF, wMeth, getS, boolD, truD, intD, optD, bindT, setM, dBin, dCmp, dIB, dI, dI0, dMul, dAdd, dBi, dLen, dIsinst, dII, dDivmod, dTuple, dList, dMt, mtRc, recvD, dIx, dSl, dPut, dEqV, dNeV, dIsV, dIsNotV, dInV, dNotInV, dInP, dEq, isNon, seqD, fldD, setFD, methD, lstD, dBj, dSum, wLrg, rngD, wIsi, isiD, dPop, dClear, Bif_true, Bif_false, pD_str, pD_int, pD_bl, dD_str, dD_int, dD_bl, eD_int, eD_str, Nat.zero_le, and_self, true_and, and_true, CT.told, List.getElem?_cons_zero, List.getElem?_cons_succ, at0, at1, at2, s_hs]
    unfold ir_law_facts_1
    simp only [wSs, wS, wE, wEs, wEo, wTo, wT, wI, wSeq, wNext, wIfS, wTest, wTru, wOp, wAnd, wOr, wNot, wAndV, wOrV, wNotV, wRet, wSet, wAsg, wDrop, wCall, wMt, wSl, wLst, wTup, wNil, wCons, wFor, wSeqI, wRng1, wRng2, wComp, wSetC, wPutIx, wFld, wSetF, wMeth, getS, boolD, truD, intD, optD, bindT, setM, dBin, dCmp, dIB, dI, dI0, dMul, dAdd, dBi, dLen, dIsinst, dII, dDivmod, dTuple, dList, dMt, mtRc, recvD, dIx, dSl, dPut, dEqV, dNeV, dIsV, dIsNotV, dInV, dNotInV, dInP, dEq, isNon, seqD, fldD, setFD, methD, lstD, dBj, dSum, wLrg, rngD, wIsi, isiD, dPop, dClear, Bif_true, Bif_false, pD_str, pD_int, pD_bl, dD_str, dD_int, dD_bl, eD_int, eD_str, Nat.zero_le, and_self, true_and, and_true, CT.told, List.getElem?_cons_zero, List.getElem?_cons_succ, at0, at1, at2, s_hd]
    unfold ir_law_facts_0
    simp only [wSs, wS, wE, wEs, wEo, wTo, wT, wI, wSeq, wNext, wIfS, wTest, wTru, wOp, wAnd, wOr, wNot, wAndV, wOrV, wNotV, wRet, wSet, wAsg, wDrop, wCall, wMt, wSl, wLst, wTup, wNil, wCons, wFor, wSeqI, wRng1, wRng2, wComp, wSetC, wPutIx, wFld, wSetF, wMeth, getS, boolD, truD, intD, optD, bindT, setM, dBin, dCmp, dIB, dI, dI0, dMul, dAdd, dBi, dLen, dIsinst, dII, dDivmod, dTuple, dList, dMt, mtRc, recvD, dIx, dSl, dPut, dEqV, dNeV, dIsV, dIsNotV, dInV, dNotInV, dInP, dEq, isNon, seqD, fldD, setFD, methD, lstD, dBj, dSum, wLrg, rngD, wIsi, isiD, dPop, dClear, Bif_true, Bif_false, pD_str, pD_int, pD_bl, dD_str, dD_int, dD_bl, eD_int, eD_str, Nat.zero_le, and_self, true_and, and_true, CT.told, List.getElem?_cons_zero, List.getElem?_cons_succ, at0, at1, at2]
    exact q
  | lck f =>
    unfold ir_law_facts
    simp only [wSs, wS, wE, wEs, wEo, wTo, wT, wI, wSeq, wNext, wIfS, wTest, wTru, wOp, wAnd, wOr, wNot, wAndV, wOrV, wNotV, wRet, wSet, wAsg, wDrop, wCall, wMt, wSl, wLst, wTup, wNil, wCons, wFor, wSeqI, wRng1, wRng2, wComp, wSetC, wPutIx, wFld, wSetF, wMeth, getS, boolD, truD, intD, optD, bindT, setM, dBin, dCmp, dIB, dI, dI0, dMul, dAdd, dBi, dLen, dIsinst, dII, dDivmod, dTuple, dList, dMt, mtRc, recvD, dIx, dSl, dPut, dEqV, dNeV, dIsV, dIsNotV, dInV, dNotInV, dInP, dEq, isNon, seqD, fldD, setFD, methD, lstD, dBj, dSum, wLrg, rngD, wIsi, isiD, dPop, dClear, Bif_true, Bif_false, pD_str, pD_int, pD_bl, dD_str, dD_int, dD_bl, eD_int, eD_str, Nat.zero_le, and_self, true_and, and_true, CT.told, List.getElem?_cons_zero, List.getElem?_cons_succ, at0, at1, at2, s_ls]
    unfold ir_law_facts_1
    simp only [wSs, wS, wE, wEs, wEo, wTo, wT, wI, wSeq, wNext, wIfS, wTest, wTru, wOp, wAnd, wOr, wNot, wAndV, wOrV, wNotV, wRet, wSet, wAsg, wDrop, wCall, wMt, wSl, wLst, wTup, wNil, wCons, wFor, wSeqI, wRng1, wRng2, wComp, wSetC, wPutIx, wFld, wSetF, wMeth, getS, boolD, truD, intD, optD, bindT, setM, dBin, dCmp, dIB, dI, dI0, dMul, dAdd, dBi, dLen, dIsinst, dII, dDivmod, dTuple, dList, dMt, mtRc, recvD, dIx, dSl, dPut, dEqV, dNeV, dIsV, dIsNotV, dInV, dNotInV, dInP, dEq, isNon, seqD, fldD, setFD, methD, lstD, dBj, dSum, wLrg, rngD, wIsi, isiD, dPop, dClear, Bif_true, Bif_false, pD_str, pD_int, pD_bl, dD_str, dD_int, dD_bl, eD_int, eD_str, Nat.zero_le, and_self, true_and, and_true, CT.told, List.getElem?_cons_zero, List.getElem?_cons_succ, at0, at1, at2, s_ld]
    unfold ir_law_facts_0
    simp only [wSs, wS, wE, wEs, wEo, wTo, wT, wI, wSeq, wNext, wIfS, wTest, wTru, wOp, wAnd, wOr, wNot, wAndV, wOrV, wNotV, wRet, wSet, wAsg, wDrop, wCall, wMt, wSl, wLst, wTup, wNil, wCons, wFor, wSeqI, wRng1, wRng2, wComp, wSetC, wPutIx, wFld, wSetF, wMeth, getS, boolD, truD, intD, optD, bindT, setM, dBin, dCmp, dIB, dI, dI0, dMul, dAdd, dBi, dLen, dIsinst, dII, dDivmod, dTuple, dList, dMt, mtRc, recvD, dIx, dSl, dPut, dEqV, dNeV, dIsV, dIsNotV, dInV, dNotInV, dInP, dEq, isNon, seqD, fldD, setFD, methD, lstD, dBj, dSum, wLrg, rngD, wIsi, isiD, dPop, dClear, Bif_true, Bif_false, pD_str, pD_int, pD_bl, dD_str, dD_int, dD_bl, eD_int, eD_str, Nat.zero_le, and_self, true_and, and_true, CT.told, List.getElem?_cons_zero, List.getElem?_cons_succ, at0, at1, at2]
    exact q
  | som n fs =>
    unfold ir_law_facts
    simp only [wSs, wS, wE, wEs, wEo, wTo, wT, wI, wSeq, wNext, wIfS, wTest, wTru, wOp, wAnd, wOr, wNot, wAndV, wOrV, wNotV, wRet, wSet, wAsg, wDrop, wCall, wMt, wSl, wLst, wTup, wNil, wCons, wFor, wSeqI, wRng1, wRng2, wComp, wSetC, wPutIx, wFld, wSetF, wMeth, getS, boolD, truD, intD, optD, bindT, setM, dBin, dCmp, dIB, dI, dI0, dMul, dAdd, dBi, dLen, dIsinst, dII, dDivmod, dTuple, dList, dMt, mtRc, recvD, dIx, dSl, dPut, dEqV, dNeV, dIsV, dIsNotV, dInV, dNotInV, dInP, dEq, isNon, seqD, fldD, setFD, methD, lstD, dBj, dSum, wLrg, rngD, wIsi, isiD, dPop, dClear, Bif_true, Bif_false, pD_str, pD_int, pD_bl, dD_str, dD_int, dD_bl, eD_int, eD_str, Nat.zero_le, and_self, true_and, and_true, CT.told, List.getElem?_cons_zero, List.getElem?_cons_succ, at0, at1, at2, s_ss]
    exact q
  | led fs k =>
    unfold ir_law_facts
    simp only [wSs, wS, wE, wEs, wEo, wTo, wT, wI, wSeq, wNext, wIfS, wTest, wTru, wOp, wAnd, wOr, wNot, wAndV, wOrV, wNotV, wRet, wSet, wAsg, wDrop, wCall, wMt, wSl, wLst, wTup, wNil, wCons, wFor, wSeqI, wRng1, wRng2, wComp, wSetC, wPutIx, wFld, wSetF, wMeth, getS, boolD, truD, intD, optD, bindT, setM, dBin, dCmp, dIB, dI, dI0, dMul, dAdd, dBi, dLen, dIsinst, dII, dDivmod, dTuple, dList, dMt, mtRc, recvD, dIx, dSl, dPut, dEqV, dNeV, dIsV, dIsNotV, dInV, dNotInV, dInP, dEq, isNon, seqD, fldD, setFD, methD, lstD, dBj, dSum, wLrg, rngD, wIsi, isiD, dPop, dClear, Bif_true, Bif_false, pD_str, pD_int, pD_bl, dD_str, dD_int, dD_bl, eD_int, eD_str, Nat.zero_le, and_self, true_and, and_true, CT.told, List.getElem?_cons_zero, List.getElem?_cons_succ, at0, at1, at2, s_ds]
    unfold ir_law_facts_1
    simp only [wSs, wS, wE, wEs, wEo, wTo, wT, wI, wSeq, wNext, wIfS, wTest, wTru, wOp, wAnd, wOr, wNot, wAndV, wOrV, wNotV, wRet, wSet, wAsg, wDrop, wCall, wMt, wSl, wLst, wTup, wNil, wCons, wFor, wSeqI, wRng1, wRng2, wComp, wSetC, wPutIx, wFld, wSetF, wMeth, getS, boolD, truD, intD, optD, bindT, setM, dBin, dCmp, dIB, dI, dI0, dMul, dAdd, dBi, dLen, dIsinst, dII, dDivmod, dTuple, dList, dMt, mtRc, recvD, dIx, dSl, dPut, dEqV, dNeV, dIsV, dIsNotV, dInV, dNotInV, dInP, dEq, isNon, seqD, fldD, setFD, methD, lstD, dBj, dSum, wLrg, rngD, wIsi, isiD, dPop, dClear, Bif_true, Bif_false, pD_str, pD_int, pD_bl, dD_str, dD_int, dD_bl, eD_int, eD_str, Nat.zero_le, and_self, true_and, and_true, CT.told, List.getElem?_cons_zero, List.getElem?_cons_succ, at0, at1, at2, s_dd]
    exact q
theorem tup_refl (fs : List Int) : (pureD (.tup (intL fs)) = true ∧ pureD (.tup (intL fs)) = true ∧ depD (.tup (intL fs)) ≤ 30) ∧ eqD (.tup (intL fs)) (.tup (intL fs)) = true := by
  have h : pureD (.tup (intL fs)) = true := by rw [pureD]; exact pure_ints fs
  refine ⟨⟨h, h, ?_⟩, eqD_refl _ h⟩
  rw [depD, dep_ints]
  decide
theorem rd_fields (hO : cn.O = fldO c) (h : spFields c ds M Q) : wSs cn ir_law_fields (fin Q) (startD ["", ""] ds) M := by
  obtain ⟨a, t, rfl, hM, q⟩ := h
  show wSs cn ir_law_fields (fin Q) [some (.ref a), some t.told] M
  cases t with
  | hav f =>
    have hM : M a = some (.ins (c.at 0) [("fact", .int f)]) := hM
    unfold ir_law_fields
    simp only [wSs, wS, wE, wEs, wEo, wTo, wT, wI, wSeq, wNext, wIfS, wTest, wTru, wOp, wAnd, wOr, wNot, wAndV, wOrV, wNotV, wRet, wSet, wAsg, wDrop, wCall, wMt, wSl, wLst, wTup, wNil, wCons, wFor, wSeqI, wRng1, wRng2, wComp, wSetC, wPutIx, wFld, wSetF, wMeth, getS, boolD, truD, intD, optD, bindT, setM, dBin, dCmp, dIB, dI, dI0, dMul, dAdd, dBi, dLen, dIsinst, dII, dDivmod, dTuple, dList, dMt, mtRc, recvD, dIx, dSl, dPut, dEqV, dNeV, dIsV, dIsNotV, dInV, dNotInV, dInP, dEq, isNon, seqD, fldD, setFD, methD, lstD, dBj, dSum, wLrg, rngD, wIsi, isiD, dPop, dClear, Bif_true, Bif_false, pD_str, pD_int, pD_bl, dD_str, dD_int, dD_bl, eD_int, eD_str, Nat.zero_le, and_self, true_and, and_true, CT.told, List.getElem?_cons_zero, List.getElem?_cons_succ, at0, at1, at2, s_hs]
    unfold ir_law_fields_1
    simp only [wSs, wS, wE, wEs, wEo, wTo, wT, wI, wSeq, wNext, wIfS, wTest, wTru, wOp, wAnd, wOr, wNot, wAndV, wOrV, wNotV, wRet, wSet, wAsg, wDrop, wCall, wMt, wSl, wLst, wTup, wNil, wCons, wFor, wSeqI, wRng1, wRng2, wComp, wSetC, wPutIx, wFld, wSetF, wMeth, getS, boolD, truD, intD, optD, bindT, setM, dBin, dCmp, dIB, dI, dI0, dMul, dAdd, dBi, dLen, dIsinst, dII, dDivmod, dTuple, dList, dMt, mtRc, recvD, dIx, dSl, dPut, dEqV, dNeV, dIsV, dIsNotV, dInV, dNotInV, dInP, dEq, isNon, seqD, fldD, setFD, methD, lstD, dBj, dSum, wLrg, rngD, wIsi, isiD, dPop, dClear, Bif_true, Bif_false, pD_str, pD_int, pD_bl, dD_str, dD_int, dD_bl, eD_int, eD_str, Nat.zero_le, and_self, true_and, and_true, CT.told, List.getElem?_cons_zero, List.getElem?_cons_succ, at0, at1, at2, s_hd]
    unfold ir_law_fields_0
    simp only [wSs, wS, wE, wEs, wEo, wTo, wT, wI, wSeq, wNext, wIfS, wTest, wTru, wOp, wAnd, wOr, wNot, wAndV, wOrV, wNotV, wRet, wSet, wAsg, wDrop, wCall, wMt, wSl, wLst, wTup, wNil, wCons, wFor, wSeqI, wRng1, wRng2, wComp, wSetC, wPutIx, wFld, wSetF, wMeth, getS, boolD, truD, intD, optD, bindT, setM, dBin, dCmp, dIB, dI, dI0, dMul, dAdd, dBi, dLen, dIsinst, dII, dDivmod, dTuple, dList, dMt, mtRc, recvD, dIx, dSl, dPut, dEqV, dNeV, dIsV, dIsNotV, dInV, dNotInV, dInP, dEq, isNon, seqD, fldD, setFD, methD, lstD, dBj, dSum, wLrg, rngD, wIsi, isiD, dPop, dClear, Bif_true, Bif_false, pD_str, pD_int, pD_bl, dD_str, dD_int, dD_bl, eD_int, eD_str, Nat.zero_le, and_self, true_and, and_true, CT.told, List.getElem?_cons_zero, List.getElem?_cons_succ, at0, at1, at2, hM, hO, lk_fact, beq_self_eq_true]
    exact ⟨fld_ok c (by decide) in_fact, q⟩
  | lck f =>
    have hM : M a = some (.ins (c.at 1) [("fact", .int f)]) := hM
    unfold ir_law_fields
    simp only [wSs, wS, wE, wEs, wEo, wTo, wT, wI, wSeq, wNext, wIfS, wTest, wTru, wOp, wAnd, wOr, wNot, wAndV, wOrV, wNotV, wRet, wSet, wAsg, wDrop, wCall, wMt, wSl, wLst, wTup, wNil, wCons, wFor, wSeqI, wRng1, wRng2, wComp, wSetC, wPutIx, wFld, wSetF, wMeth, getS, boolD, truD, intD, optD, bindT, setM, dBin, dCmp, dIB, dI, dI0, dMul, dAdd, dBi, dLen, dIsinst, dII, dDivmod, dTuple, dList, dMt, mtRc, recvD, dIx, dSl, dPut, dEqV, dNeV, dIsV, dIsNotV, dInV, dNotInV, dInP, dEq, isNon, seqD, fldD, setFD, methD, lstD, dBj, dSum, wLrg, rngD, wIsi, isiD, dPop, dClear, Bif_true, Bif_false, pD_str, pD_int, pD_bl, dD_str, dD_int, dD_bl, eD_int, eD_str, Nat.zero_le, and_self, true_and, and_true, CT.told, List.getElem?_cons_zero, List.getElem?_cons_succ, at0, at1, at2, s_ls]
    unfold ir_law_fields_1
    simp only [wSs, wS, wE, wEs, wEo, wTo, wT, wI, wSeq, wNext, wIfS, wTest, wTru, wOp, wAnd, wOr, wNot, wAndV, wOrV, wNotV, wRet, wSet, wAsg, wDrop, wCall, wMt, wSl, wLst, wTup, wNil, wCons, wFor, wSeqI, wRng1, wRng2, wComp, wSetC, wPutIx, wFld, wSetF, wMeth, getS, boolD, truD, intD, optD, bindT, setM, dBin, dCmp, dIB, dI, dI0, dMul, dAdd, dBi, dLen, dIsinst, dII, dDivmod, dTuple, dList, dMt, mtRc, recvD, dIx, dSl, dPut, dEqV, dNeV, dIsV, dIsNotV, dInV, dNotInV, dInP, dEq, isNon, seqD, fldD, setFD, methD, lstD, dBj, dSum, wLrg, rngD, wIsi, isiD, dPop, dClear, Bif_true, Bif_false, pD_str, pD_int, pD_bl, dD_str, dD_int, dD_bl, eD_int, eD_str, Nat.zero_le, and_self, true_and, and_true, CT.told, List.getElem?_cons_zero, List.getElem?_cons_succ, at0, at1, at2, s_ld]
    unfold ir_law_fields_0
    simp only [wSs, wS, wE, wEs, wEo, wTo, wT, wI, wSeq, wNext, wIfS, wTest, wTru, wOp, wAnd, wOr, wNot, wAndV, wOrV, wNotV, wRet, wSet, wAsg, wDrop, wCall, wMt, wSl, wLst, wTup, wNil, wCons, wFor, wSeqI, wRng1, wRng2, wComp, wSetC, wPutIx, wFld, wSetF, wMeth, getS, boolD, truD, intD, optD, bindT, setM, dBin, dCmp, dIB, dI, dI0, dMul, dAdd, dBi, dLen, dIsinst, dII, dDivmod, dTuple, dList, dMt, mtRc, recvD, dIx, dSl, dPut, dEqV, dNeV, dIsV, dIsNotV, dInV, dNotInV, dInP, dEq, isNon, seqD, fldD, setFD, methD, lstD, dBj, dSum, wLrg, rngD, wIsi, isiD, dPop, dClear, Bif_true, Bif_false, pD_str, pD_int, pD_bl, dD_str, dD_int, dD_bl, eD_int, eD_str, Nat.zero_le, and_self, true_and, and_true, CT.told, List.getElem?_cons_zero, List.getElem?_cons_succ, at0, at1, at2, hM, hO, lk_fact, beq_self_eq_true]
    exact ⟨fld_ok c (by decide) in_fact, q⟩
  | som n fs =>
    have hM : M a = some (.ins (c.at 2) [("number", .int n), ("facts", .tup (intL fs))]) := hM
    unfold ir_law_fields
    simp only [wSs, wS, wE, wEs, wEo, wTo, wT, wI, wSeq, wNext, wIfS, wTest, wTru, wOp, wAnd, wOr, wNot, wAndV, wOrV, wNotV, wRet, wSet, wAsg, wDrop, wCall, wMt, wSl, wLst, wTup, wNil, wCons, wFor, wSeqI, wRng1, wRng2, wComp, wSetC, wPutIx, wFld, wSetF, wMeth, getS, boolD, truD, intD, optD, bindT, setM, dBin, dCmp, dIB, dI, dI0, dMul, dAdd, dBi, dLen, dIsinst, dII, dDivmod, dTuple, dList, dMt, mtRc, recvD, dIx, dSl, dPut, dEqV, dNeV, dIsV, dIsNotV, dInV, dNotInV, dInP, dEq, isNon, seqD, fldD, setFD, methD, lstD, dBj, dSum, wLrg, rngD, wIsi, isiD, dPop, dClear, Bif_true, Bif_false, pD_str, pD_int, pD_bl, dD_str, dD_int, dD_bl, eD_int, eD_str, Nat.zero_le, and_self, true_and, and_true, CT.told, List.getElem?_cons_zero, List.getElem?_cons_succ, at0, at1, at2, s_ss, hM, hO, lk_number, lk_facts, beq_self_eq_true]
    refine ⟨fld_ok c (by decide) in_number, fld_ok c (by decide) in_facts, (tup_refl fs).1, ?_⟩
    rw [(tup_refl fs).2]
    exact q
  | led fs k =>
    have hM : M a = some (.ins (c.at 3) [("facts", .tup (intL fs)), ("at", .int k)]) := hM
    unfold ir_law_fields
    simp only [wSs, wS, wE, wEs, wEo, wTo, wT, wI, wSeq, wNext, wIfS, wTest, wTru, wOp, wAnd, wOr, wNot, wAndV, wOrV, wNotV, wRet, wSet, wAsg, wDrop, wCall, wMt, wSl, wLst, wTup, wNil, wCons, wFor, wSeqI, wRng1, wRng2, wComp, wSetC, wPutIx, wFld, wSetF, wMeth, getS, boolD, truD, intD, optD, bindT, setM, dBin, dCmp, dIB, dI, dI0, dMul, dAdd, dBi, dLen, dIsinst, dII, dDivmod, dTuple, dList, dMt, mtRc, recvD, dIx, dSl, dPut, dEqV, dNeV, dIsV, dIsNotV, dInV, dNotInV, dInP, dEq, isNon, seqD, fldD, setFD, methD, lstD, dBj, dSum, wLrg, rngD, wIsi, isiD, dPop, dClear, Bif_true, Bif_false, pD_str, pD_int, pD_bl, dD_str, dD_int, dD_bl, eD_int, eD_str, Nat.zero_le, and_self, true_and, and_true, CT.told, List.getElem?_cons_zero, List.getElem?_cons_succ, at0, at1, at2, s_ds]
    unfold ir_law_fields_1
    simp only [wSs, wS, wE, wEs, wEo, wTo, wT, wI, wSeq, wNext, wIfS, wTest, wTru, wOp, wAnd, wOr, wNot, wAndV, wOrV, wNotV, wRet, wSet, wAsg, wDrop, wCall, wMt, wSl, wLst, wTup, wNil, wCons, wFor, wSeqI, wRng1, wRng2, wComp, wSetC, wPutIx, wFld, wSetF, wMeth, getS, boolD, truD, intD, optD, bindT, setM, dBin, dCmp, dIB, dI, dI0, dMul, dAdd, dBi, dLen, dIsinst, dII, dDivmod, dTuple, dList, dMt, mtRc, recvD, dIx, dSl, dPut, dEqV, dNeV, dIsV, dIsNotV, dInV, dNotInV, dInP, dEq, isNon, seqD, fldD, setFD, methD, lstD, dBj, dSum, wLrg, rngD, wIsi, isiD, dPop, dClear, Bif_true, Bif_false, pD_str, pD_int, pD_bl, dD_str, dD_int, dD_bl, eD_int, eD_str, Nat.zero_le, and_self, true_and, and_true, CT.told, List.getElem?_cons_zero, List.getElem?_cons_succ, at0, at1, at2, s_dd, hM, hO, lk_facts2, lk_at, beq_self_eq_true, (tup_refl fs).2]
    exact ⟨fld_ok c (by decide) in_facts, (tup_refl fs).1, fld_ok c (by decide) in_at, q⟩
end
end SH

set_option Elab.async false
set_option maxRecDepth 100000
set_option maxHeartbeats 4000000
set_option linter.all false
namespace SH
open PySem L2 DD
def ir_law_due_0 : Ss := .cons (.ret (.tup (.cons (.var 8) (.cons (.or (.cmp .Eq (.ix (.var 5) (.var 6)) (.int 0)) (.cmp .In (.int 1) (.sl (.var 4) .no (.yes (.var 6))))) (.cons (.var 7) .nil))))) .nil
def ir_law_due_1 : Ss := .cons (.set 8 (.and (.cmp .Eq (.ix (.var 4) (.var 6)) (.int 1)) (.cmp .NotIn (.int 1) (.sl (.var 5) .no (.yes (.var 6)))))) ir_law_due_0
def ir_law_due_2 : Ss := .cons (.set 7 (.bin .Add (.comp 1 (.tup (.cons (.var 9) (.cons (.bl true) .nil))) (.nm 9) (.seq (.sl (.var 3) .no (.yes (.var 6)))) .no) (.lst (.cons (.tup (.cons (.ix (.var 3) (.var 6)) (.cons (.bl false) .nil))) .nil)))) ir_law_due_1
def ir_law_due_3 : Ss := .cons (.set 6 (.ix (.var 0) (.int 2))) ir_law_due_2
def ir_law_due_4 : Ss := .cons (.ite (.cmp .Eq (.ix (.var 0) (.int 0)) (.str "some")) (.cons (.ret (.tup (.cons (.cmp .GtE (.bj .sum (.cons (.var 4) .nil)) (.ix (.var 0) (.int 1))) (.cons (.cmp .Lt (.bj .sum (.cons (.var 5) .nil)) (.ix (.var 0) (.int 1))) (.cons (.comp 1 (.tup (.cons (.var 9) (.cons (.bl false) .nil))) (.nm 9) (.seq (.var 3)) .no) .nil))))) .nil) .nil) ir_law_due_3
def ir_law_due_5 : Ss := .cons (.ite (.cmp .Eq (.ix (.var 0) (.int 0)) (.str "lack")) (.cons (.ret (.tup (.cons (.cmp .Eq (.var 5) (.lst (.cons (.int 0) .nil))) (.cons (.cmp .Eq (.var 4) (.lst (.cons (.int 1) .nil))) (.cons (.lst (.cons (.tup (.cons (.ix (.var 3) (.int 0)) (.cons (.bl true) .nil))) .nil)) .nil))))) .nil) .nil) ir_law_due_4
def ir_law_due_6 : Ss := .cons (.ite (.cmp .Eq (.ix (.var 0) (.int 0)) (.str "have")) (.cons (.ret (.tup (.cons (.cmp .Eq (.var 4) (.lst (.cons (.int 1) .nil))) (.cons (.cmp .Eq (.var 5) (.lst (.cons (.int 0) .nil))) (.cons (.lst (.cons (.tup (.cons (.ix (.var 3) (.int 0)) (.cons (.bl false) .nil))) .nil)) .nil))))) .nil) .nil) ir_law_due_5
def ir_law_due_7 : Ss := .cons (.setC 5 1 (.bin .BitAnd (.bin .RShift (.var 2) (.var 9)) (.int 1)) (.nm 9) (.seq (.var 3)) .no) ir_law_due_6
def ir_law_due_8 : Ss := .cons (.setC 4 1 (.bin .BitAnd (.bin .RShift (.var 1) (.var 9)) (.int 1)) (.nm 9) (.seq (.var 3)) .no) ir_law_due_7
def ir_law_due : Ss := .cons (.set 3 (.fn 0 (.cons (.var 0) .nil))) ir_law_due_8
def bitOf (h : Int) : D → D
  | .int f => .int (Builtin.bitAnd (h / 2 ^ f.toNat) 1)
  | d => d
theorem bit_map (h : Int) (fs : List Int) : (intL fs).map (bitOf h) = bits h fs := by
  unfold intL bits
  rw [List.map_map]
  refine List.map_congr_left fun f _ => ?_
  show D.int (Builtin.bitAnd (h / 2 ^ f.toNat) 1) = _
  rw [PyProof.Rows.bitAnd_m1]
  rfl
theorem CT.facts_ok {t : CT} (h : t.ok) : ∀ f ∈ t.facts, 0 ≤ f ∧ f < 120 := by
  cases t with
  | hav f => intro g hg; have : g = f := by simpa [CT.facts] using hg
             subst this; exact h
  | lck f => intro g hg; have : g = f := by simpa [CT.facts] using hg
             subst this; exact h
  | som n fs => exact h.2
  | led fs k => exact h.2
theorem pure1 (x : Int) : pureDs [D.int x] = true := rfl
theorem dep1 (x : Int) : depDs [D.int x] ≤ 30 := by rw [show depDs [D.int x] = 0 from rfl]; decide
theorem eq1 (x y : Int) : eqDs [D.int x] [D.int y] = (x == y) := by
  rw [eqDs, eqDs, eD_int, Bool.and_true]
theorem cnt_no (n : Nat) : (!decide (0 < (n : Int))) = ((n : Int) == 0) := by
  cases n with
  | zero => rfl
  | succ n =>
    have h1 : decide (0 < ((n + 1 : Nat) : Int)) = true := decide_eq_true (by omega)
    have h2 : (((n + 1 : Nat) : Int) == 0) = false := by rw [beq_eq_false_iff_ne]; omega
    rw [h1, h2]; rfl
section
variable {cn : Cn} {ds : List D} {M : MH} {Q : DK}
theorem rd_due (f0 : cn.F.getD 0 (fun _ _ _ => False) = spFacts) (h : spDue ds M Q) : wSs cn ir_law_due (fin Q) (startD ["", "", "", "", "", "", "", "", ""] ds) M := by
  obtain ⟨t, x, m, rfl, ho, q⟩ := h
  show wSs cn ir_law_due (fin Q) [some t.told, some (.int x), some (.int m), none, none, none, none, none, none] M
  have hf := CT.facts_ok ho
  unfold ir_law_due
  simp only [wSs, wS, wE, wEs, wEo, wTo, wT, wI, wSeq, wNext, wIfS, wTest, wTru, wOp, wAnd, wOr, wNot, wAndV, wOrV, wNotV, wRet, wSet, wAsg, wDrop, wCall, wMt, wSl, wLst, wTup, wNil, wCons, wFor, wSeqI, wRng1, wRng2, wComp, wSetC, wPutIx, wFld, wSetF, wMeth, getS, boolD, truD, intD, optD, bindT, setM, dBin, dCmp, dIB, dI, dI0, dMul, dAdd, dBi, dLen, dIsinst, dII, dDivmod, dTuple, dList, dMt, mtRc, recvD, dIx, dSl, dPut, dEqV, dNeV, dIsV, dIsNotV, dInV, dNotInV, dInP, dEq, isNon, seqD, fldD, setFD, methD, lstD, dBj, dSum, wLrg, rngD, wIsi, isiD, dPop, dClear, Bif_true, Bif_false, List.getElem?_cons_zero, List.getElem?_cons_succ, List.set, f0]
  refine ⟨t, rfl, fun p hp => ?_⟩
  have e1 := Ext.new (o := MO.lst (intL t.facts)) hp
  have g1 : updM M p (MO.lst (intL t.facts)) p = some (.lst (intL t.facts)) := updM_same
  generalize updM M p (MO.lst (intL t.facts)) = M1 at *
  unfold ir_law_due_8
  simp only [wSs, wS, wE, wEs, wEo, wTo, wT, wI, wSeq, wNext, wIfS, wTest, wTru, wOp, wAnd, wOr, wNot, wAndV, wOrV, wNotV, wRet, wSet, wAsg, wDrop, wCall, wMt, wSl, wLst, wTup, wNil, wCons, wFor, wSeqI, wRng1, wRng2, wComp, wSetC, wPutIx, wFld, wSetF, wMeth, getS, boolD, truD, intD, optD, bindT, setM, dBin, dCmp, dIB, dI, dI0, dMul, dAdd, dBi, dLen, dIsinst, dII, dDivmod, dTuple, dList, dMt, mtRc, recvD, dIx, dSl, dPut, dEqV, dNeV, dIsV, dIsNotV, dInV, dNotInV, dInP, dEq, isNon, seqD, fldD, setFD, methD, lstD, dBj, dSum, wLrg, rngD, wIsi, isiD, dPop, dClear, Bif_true, Bif_false, List.getElem?_cons_zero, List.getElem?_cons_succ, List.set, g1, List.cons_append, List.nil_append, List.replicate]
  refine comp_map (f := bitOf x) (ok := fun σ => ∃ v, σ = [some t.told, some (.int x), some (.int m), some (.ref p), none, none, none, none, none, v]) [] _ ⟨none, rfl⟩ ?_ ?_
  · intro d hd σ acc rest ⟨v, hv⟩ k
    subst hv
    obtain ⟨f, hfm, rfl⟩ := List.mem_map.1 hd
    exact ⟨(hf f hfm).1, g1, k _ ⟨_, rfl⟩⟩
  intro p2 hp2
  rw [List.nil_append, bit_map]
  have e2 := e1.then (o := MO.lst (bits x t.facts)) hp2
  have g2 := Ext.new (o := MO.lst (bits x t.facts)) hp2 p _ g1
  have h2 : updM M1 p2 (MO.lst (bits x t.facts)) p2 = some (.lst (bits x t.facts)) := updM_same
  generalize updM M1 p2 (MO.lst (bits x t.facts)) = M2 at *
  unfold ir_law_due_7
  simp only [wSs, wS, wE, wEs, wEo, wTo, wT, wI, wSeq, wNext, wIfS, wTest, wTru, wOp, wAnd, wOr, wNot, wAndV, wOrV, wNotV, wRet, wSet, wAsg, wDrop, wCall, wMt, wSl, wLst, wTup, wNil, wCons, wFor, wSeqI, wRng1, wRng2, wComp, wSetC, wPutIx, wFld, wSetF, wMeth, getS, boolD, truD, intD, optD, bindT, setM, dBin, dCmp, dIB, dI, dI0, dMul, dAdd, dBi, dLen, dIsinst, dII, dDivmod, dTuple, dList, dMt, mtRc, recvD, dIx, dSl, dPut, dEqV, dNeV, dIsV, dIsNotV, dInV, dNotInV, dInP, dEq, isNon, seqD, fldD, setFD, methD, lstD, dBj, dSum, wLrg, rngD, wIsi, isiD, dPop, dClear, Bif_true, Bif_false, List.getElem?_cons_zero, List.getElem?_cons_succ, List.set, g2, List.cons_append, List.nil_append, List.replicate]
  refine comp_map (f := bitOf m) (ok := fun σ => ∃ v, σ = [some t.told, some (.int x), some (.int m), some (.ref p), some (.ref p2), none, none, none, none, v]) [] _ ⟨none, rfl⟩ ?_ ?_
  · intro d hd σ acc rest ⟨v, hv⟩ k
    subst hv
    obtain ⟨f, hfm, rfl⟩ := List.mem_map.1 hd
    exact ⟨(hf f hfm).1, g2, k _ ⟨_, rfl⟩⟩
  intro p3 hp3
  rw [List.nil_append, bit_map]
  have e3 := e2.then (o := MO.lst (bits m t.facts)) hp3
  have g3 := Ext.new (o := MO.lst (bits m t.facts)) hp3 p _ g2
  have h3 := Ext.new (o := MO.lst (bits m t.facts)) hp3 p2 _ h2
  have i3 : updM M2 p3 (MO.lst (bits m t.facts)) p3 = some (.lst (bits m t.facts)) := updM_same
  generalize updM M2 p3 (MO.lst (bits m t.facts)) = M3 at *
  clear e1 e2 g1 g2 h2 hp hp2 hp3
  cases t with
  | hav f =>
    have g3 : M3 p = some (.lst [.int f]) := g3
    have h3 : M3 p2 = some (.lst [.int (bitZ x f)]) := h3
    have i3 : M3 p3 = some (.lst [.int (bitZ m f)]) := i3
    unfold ir_law_due_6
    simp only [wSs, wS, wE, wEs, wEo, wTo, wT, wI, wSeq, wNext, wIfS, wTest, wTru, wOp, wAnd, wOr, wNot, wAndV, wOrV, wNotV, wRet, wSet, wAsg, wDrop, wCall, wMt, wSl, wLst, wTup, wNil, wCons, wFor, wSeqI, wRng1, wRng2, wComp, wSetC, wPutIx, wFld, wSetF, wMeth, getS, boolD, truD, intD, optD, bindT, setM, dBin, dCmp, dIB, dI, dI0, dMul, dAdd, dBi, dLen, dIsinst, dII, dDivmod, dTuple, dList, dMt, mtRc, recvD, dIx, dSl, dPut, dEqV, dNeV, dIsV, dIsNotV, dInV, dNotInV, dInP, dEq, isNon, seqD, fldD, setFD, methD, lstD, dBj, dSum, wLrg, rngD, wIsi, isiD, dPop, dClear, Bif_true, Bif_false, pD_str, pD_int, pD_bl, dD_str, dD_int, dD_bl, eD_int, eD_str, Nat.zero_le, and_self, true_and, and_true, CT.told, List.getElem?_cons_zero, List.getElem?_cons_succ, at0, at1, at2, sh_]
    intro q1 hq1
    have e4 := Ext.new (o := MO.lst [D.int 1]) hq1
    have j4 : updM M3 q1 (MO.lst [D.int 1]) q1 = some (.lst [D.int 1]) := updM_same
    generalize updM M3 q1 (MO.lst [D.int 1]) = M4 at *
    simp only [j4, e4 p2 _ h3, rdL]
    refine ⟨⟨pure1 _, pure1 _, dep1 _⟩, fun q2 hq2 => ?_⟩
    have e5 := Ext.new (o := MO.lst [D.int 0]) hq2
    have j5 : updM M4 q2 (MO.lst [D.int 0]) q2 = some (.lst [D.int 0]) := updM_same
    generalize updM M4 q2 (MO.lst [D.int 0]) = M5 at *
    simp only [j5, (e4.trans e5) p3 _ i3, rdL]
    refine ⟨⟨pure1 _, pure1 _, dep1 _⟩, ?_⟩
    simp only [(e4.trans e5) p _ g3, at0, eq1, bit_no]
    exact fun q3 hq3 => q q3 _ ((e3.trans (e4.trans e5)).free hq3) ((e3.trans (e4.trans e5)).then hq3) updM_same
  | lck f =>
    have g3 : M3 p = some (.lst [.int f]) := g3
    have h3 : M3 p2 = some (.lst [.int (bitZ x f)]) := h3
    have i3 : M3 p3 = some (.lst [.int (bitZ m f)]) := i3
    unfold ir_law_due_6
    simp only [wSs, wS, wE, wEs, wEo, wTo, wT, wI, wSeq, wNext, wIfS, wTest, wTru, wOp, wAnd, wOr, wNot, wAndV, wOrV, wNotV, wRet, wSet, wAsg, wDrop, wCall, wMt, wSl, wLst, wTup, wNil, wCons, wFor, wSeqI, wRng1, wRng2, wComp, wSetC, wPutIx, wFld, wSetF, wMeth, getS, boolD, truD, intD, optD, bindT, setM, dBin, dCmp, dIB, dI, dI0, dMul, dAdd, dBi, dLen, dIsinst, dII, dDivmod, dTuple, dList, dMt, mtRc, recvD, dIx, dSl, dPut, dEqV, dNeV, dIsV, dIsNotV, dInV, dNotInV, dInP, dEq, isNon, seqD, fldD, setFD, methD, lstD, dBj, dSum, wLrg, rngD, wIsi, isiD, dPop, dClear, Bif_true, Bif_false, pD_str, pD_int, pD_bl, dD_str, dD_int, dD_bl, eD_int, eD_str, Nat.zero_le, and_self, true_and, and_true, CT.told, List.getElem?_cons_zero, List.getElem?_cons_succ, at0, at1, at2, s_lh]
    unfold ir_law_due_5
    simp only [wSs, wS, wE, wEs, wEo, wTo, wT, wI, wSeq, wNext, wIfS, wTest, wTru, wOp, wAnd, wOr, wNot, wAndV, wOrV, wNotV, wRet, wSet, wAsg, wDrop, wCall, wMt, wSl, wLst, wTup, wNil, wCons, wFor, wSeqI, wRng1, wRng2, wComp, wSetC, wPutIx, wFld, wSetF, wMeth, getS, boolD, truD, intD, optD, bindT, setM, dBin, dCmp, dIB, dI, dI0, dMul, dAdd, dBi, dLen, dIsinst, dII, dDivmod, dTuple, dList, dMt, mtRc, recvD, dIx, dSl, dPut, dEqV, dNeV, dIsV, dIsNotV, dInV, dNotInV, dInP, dEq, isNon, seqD, fldD, setFD, methD, lstD, dBj, dSum, wLrg, rngD, wIsi, isiD, dPop, dClear, Bif_true, Bif_false, pD_str, pD_int, pD_bl, dD_str, dD_int, dD_bl, eD_int, eD_str, Nat.zero_le, and_self, true_and, and_true, CT.told, List.getElem?_cons_zero, List.getElem?_cons_succ, at0, at1, at2, s_ll]
    intro q1 hq1
    have e4 := Ext.new (o := MO.lst [D.int 0]) hq1
    have j4 : updM M3 q1 (MO.lst [D.int 0]) q1 = some (.lst [D.int 0]) := updM_same
    generalize updM M3 q1 (MO.lst [D.int 0]) = M4 at *
    simp only [j4, e4 p3 _ i3, rdL]
    refine ⟨⟨pure1 _, pure1 _, dep1 _⟩, fun q2 hq2 => ?_⟩
    have e5 := Ext.new (o := MO.lst [D.int 1]) hq2
    have j5 : updM M4 q2 (MO.lst [D.int 1]) q2 = some (.lst [D.int 1]) := updM_same
    generalize updM M4 q2 (MO.lst [D.int 1]) = M5 at *
    simp only [j5, (e4.trans e5) p2 _ h3, rdL]
    refine ⟨⟨pure1 _, pure1 _, dep1 _⟩, ?_⟩
    simp only [(e4.trans e5) p _ g3, at0, eq1, bit_no]
    exact fun q3 hq3 => q q3 _ ((e3.trans (e4.trans e5)).free hq3) ((e3.trans (e4.trans e5)).then hq3) updM_same
  | som n fs =>
    have g3 : M3 p = some (.lst (intL fs)) := g3
    have h3 : M3 p2 = some (.lst (bits x fs)) := h3
    have i3 : M3 p3 = some (.lst (bits m fs)) := i3
    unfold ir_law_due_6
    simp only [wSs, wS, wE, wEs, wEo, wTo, wT, wI, wSeq, wNext, wIfS, wTest, wTru, wOp, wAnd, wOr, wNot, wAndV, wOrV, wNotV, wRet, wSet, wAsg, wDrop, wCall, wMt, wSl, wLst, wTup, wNil, wCons, wFor, wSeqI, wRng1, wRng2, wComp, wSetC, wPutIx, wFld, wSetF, wMeth, getS, boolD, truD, intD, optD, bindT, setM, dBin, dCmp, dIB, dI, dI0, dMul, dAdd, dBi, dLen, dIsinst, dII, dDivmod, dTuple, dList, dMt, mtRc, recvD, dIx, dSl, dPut, dEqV, dNeV, dIsV, dIsNotV, dInV, dNotInV, dInP, dEq, isNon, seqD, fldD, setFD, methD, lstD, dBj, dSum, wLrg, rngD, wIsi, isiD, dPop, dClear, Bif_true, Bif_false, pD_str, pD_int, pD_bl, dD_str, dD_int, dD_bl, eD_int, eD_str, Nat.zero_le, and_self, true_and, and_true, CT.told, List.getElem?_cons_zero, List.getElem?_cons_succ, at0, at1, at2, s_sh]
    unfold ir_law_due_5
    simp only [wSs, wS, wE, wEs, wEo, wTo, wT, wI, wSeq, wNext, wIfS, wTest, wTru, wOp, wAnd, wOr, wNot, wAndV, wOrV, wNotV, wRet, wSet, wAsg, wDrop, wCall, wMt, wSl, wLst, wTup, wNil, wCons, wFor, wSeqI, wRng1, wRng2, wComp, wSetC, wPutIx, wFld, wSetF, wMeth, getS, boolD, truD, intD, optD, bindT, setM, dBin, dCmp, dIB, dI, dI0, dMul, dAdd, dBi, dLen, dIsinst, dII, dDivmod, dTuple, dList, dMt, mtRc, recvD, dIx, dSl, dPut, dEqV, dNeV, dIsV, dIsNotV, dInV, dNotInV, dInP, dEq, isNon, seqD, fldD, setFD, methD, lstD, dBj, dSum, wLrg, rngD, wIsi, isiD, dPop, dClear, Bif_true, Bif_false, pD_str, pD_int, pD_bl, dD_str, dD_int, dD_bl, eD_int, eD_str, Nat.zero_le, and_self, true_and, and_true, CT.told, List.getElem?_cons_zero, List.getElem?_cons_succ, at0, at1, at2, s_sl]
    unfold ir_law_due_4
    simp only [wSs, wS, wE, wEs, wEo, wTo, wT, wI, wSeq, wNext, wIfS, wTest, wTru, wOp, wAnd, wOr, wNot, wAndV, wOrV, wNotV, wRet, wSet, wAsg, wDrop, wCall, wMt, wSl, wLst, wTup, wNil, wCons, wFor, wSeqI, wRng1, wRng2, wComp, wSetC, wPutIx, wFld, wSetF, wMeth, getS, boolD, truD, intD, optD, bindT, setM, dBin, dCmp, dIB, dI, dI0, dMul, dAdd, dBi, dLen, dIsinst, dII, dDivmod, dTuple, dList, dMt, mtRc, recvD, dIx, dSl, dPut, dEqV, dNeV, dIsV, dIsNotV, dInV, dNotInV, dInP, dEq, isNon, seqD, fldD, setFD, methD, lstD, dBj, dSum, wLrg, rngD, wIsi, isiD, dPop, dClear, Bif_true, Bif_false, pD_str, pD_int, pD_bl, dD_str, dD_int, dD_bl, eD_int, eD_str, Nat.zero_le, and_self, true_and, and_true, CT.told, List.getElem?_cons_zero, List.getElem?_cons_succ, at0, at1, at2, s_ss, g3, h3, i3, bits_cnt, bits_sum, List.cons_append, List.nil_append, List.replicate]
    refine comp_map (f := leanOf false) (ok := fun σ => ∃ v, σ = [some (D.tup [.str "some", .int n, .tup (intL fs)]), some (.int x), some (.int m), some (.ref p), some (.ref p2), some (.ref p3), none, none, none, v]) [] _ ⟨none, rfl⟩ ?_ ?_
    · intro d hd σ acc rest ⟨v, hv⟩ k
      subst hv
      obtain ⟨f, hfm, rfl⟩ := List.mem_map.1 hd
      exact ⟨g3, k _ ⟨_, rfl⟩⟩
    · intro q1 hq1
      rw [List.nil_append, lean_map]
      exact q q1 _ (e3.free hq1) (e3.then hq1) updM_same
  | led fs k =>
    have g3 : M3 p = some (.lst (intL fs)) := g3
    have h3 : M3 p2 = some (.lst (bits x fs)) := h3
    have i3 : M3 p3 = some (.lst (bits m fs)) := i3
    have q : ∀ p M', M p = none → Ext M M' → M' p = some (.lst ((fs.take k).map (leanD true) ++ [leanD false (fs.getD k 0)])) → Q (.tup [.bl (hasB x (fs.getD k 0) && (((cntB (fs.take k) m : Nat) : Int) == 0)), .bl (!hasB m (fs.getD k 0) || decide (0 < ((cntB (fs.take k) x : Nat) : Int))), .ref p]) M' := q
    unfold ir_law_due_6
    simp only [wSs, wS, wE, wEs, wEo, wTo, wT, wI, wSeq, wNext, wIfS, wTest, wTru, wOp, wAnd, wOr, wNot, wAndV, wOrV, wNotV, wRet, wSet, wAsg, wDrop, wCall, wMt, wSl, wLst, wTup, wNil, wCons, wFor, wSeqI, wRng1, wRng2, wComp, wSetC, wPutIx, wFld, wSetF, wMeth, getS, boolD, truD, intD, optD, bindT, setM, dBin, dCmp, dIB, dI, dI0, dMul, dAdd, dBi, dLen, dIsinst, dII, dDivmod, dTuple, dList, dMt, mtRc, recvD, dIx, dSl, dPut, dEqV, dNeV, dIsV, dIsNotV, dInV, dNotInV, dInP, dEq, isNon, seqD, fldD, setFD, methD, lstD, dBj, dSum, wLrg, rngD, wIsi, isiD, dPop, dClear, Bif_true, Bif_false, pD_str, pD_int, pD_bl, dD_str, dD_int, dD_bl, eD_int, eD_str, Nat.zero_le, and_self, true_and, and_true, CT.told, List.getElem?_cons_zero, List.getElem?_cons_succ, at0, at1, at2, s_dh]
    unfold ir_law_due_5
    simp only [wSs, wS, wE, wEs, wEo, wTo, wT, wI, wSeq, wNext, wIfS, wTest, wTru, wOp, wAnd, wOr, wNot, wAndV, wOrV, wNotV, wRet, wSet, wAsg, wDrop, wCall, wMt, wSl, wLst, wTup, wNil, wCons, wFor, wSeqI, wRng1, wRng2, wComp, wSetC, wPutIx, wFld, wSetF, wMeth, getS, boolD, truD, intD, optD, bindT, setM, dBin, dCmp, dIB, dI, dI0, dMul, dAdd, dBi, dLen, dIsinst, dII, dDivmod, dTuple, dList, dMt, mtRc, recvD, dIx, dSl, dPut, dEqV, dNeV, dIsV, dIsNotV, dInV, dNotInV, dInP, dEq, isNon, seqD, fldD, setFD, methD, lstD, dBj, dSum, wLrg, rngD, wIsi, isiD, dPop, dClear, Bif_true, Bif_false, pD_str, pD_int, pD_bl, dD_str, dD_int, dD_bl, eD_int, eD_str, Nat.zero_le, and_self, true_and, and_true, CT.told, List.getElem?_cons_zero, List.getElem?_cons_succ, at0, at1, at2, s_dl]
    unfold ir_law_due_4
    simp only [wSs, wS, wE, wEs, wEo, wTo, wT, wI, wSeq, wNext, wIfS, wTest, wTru, wOp, wAnd, wOr, wNot, wAndV, wOrV, wNotV, wRet, wSet, wAsg, wDrop, wCall, wMt, wSl, wLst, wTup, wNil, wCons, wFor, wSeqI, wRng1, wRng2, wComp, wSetC, wPutIx, wFld, wSetF, wMeth, getS, boolD, truD, intD, optD, bindT, setM, dBin, dCmp, dIB, dI, dI0, dMul, dAdd, dBi, dLen, dIsinst, dII, dDivmod, dTuple, dList, dMt, mtRc, recvD, dIx, dSl, dPut, dEqV, dNeV, dIsV, dIsNotV, dInV, dNotInV, dInP, dEq, isNon, seqD, fldD, setFD, methD, lstD, dBj, dSum, wLrg, rngD, wIsi, isiD, dPop, dClear, Bif_true, Bif_false, pD_str, pD_int, pD_bl, dD_str, dD_int, dD_bl, eD_int, eD_str, Nat.zero_le, and_self, true_and, and_true, CT.told, List.getElem?_cons_zero, List.getElem?_cons_succ, at0, at1, at2, s_ds]
    unfold ir_law_due_3
    simp only [wSs, wS, wE, wEs, wEo, wTo, wT, wI, wSeq, wNext, wIfS, wTest, wTru, wOp, wAnd, wOr, wNot, wAndV, wOrV, wNotV, wRet, wSet, wAsg, wDrop, wCall, wMt, wSl, wLst, wTup, wNil, wCons, wFor, wSeqI, wRng1, wRng2, wComp, wSetC, wPutIx, wFld, wSetF, wMeth, getS, boolD, truD, intD, optD, bindT, setM, dBin, dCmp, dIB, dI, dI0, dMul, dAdd, dBi, dLen, dIsinst, dII, dDivmod, dTuple, dList, dMt, mtRc, recvD, dIx, dSl, dPut, dEqV, dNeV, dIsV, dIsNotV, dInV, dNotInV, dInP, dEq, isNon, seqD, fldD, setFD, methD, lstD, dBj, dSum, wLrg, rngD, wIsi, isiD, dPop, dClear, Bif_true, Bif_false, pD_str, pD_int, pD_bl, dD_str, dD_int, dD_bl, eD_int, eD_str, Nat.zero_le, and_self, true_and, and_true, CT.told, List.getElem?_cons_zero, List.getElem?_cons_succ, at0, at1, at2, List.set]
    unfold ir_law_due_2
    simp only [wSs, wS, wE, wEs, wEo, wTo, wT, wI, wSeq, wNext, wIfS, wTest, wTru, wOp, wAnd, wOr, wNot, wAndV, wOrV, wNotV, wRet, wSet, wAsg, wDrop, wCall, wMt, wSl, wLst, wTup, wNil, wCons, wFor, wSeqI, wRng1, wRng2, wComp, wSetC, wPutIx, wFld, wSetF, wMeth, getS, boolD, truD, intD, optD, bindT, setM, dBin, dCmp, dIB, dI, dI0, dMul, dAdd, dBi, dLen, dIsinst, dII, dDivmod, dTuple, dList, dMt, mtRc, recvD, dIx, dSl, dPut, dEqV, dNeV, dIsV, dIsNotV, dInV, dNotInV, dInP, dEq, isNon, seqD, fldD, setFD, methD, lstD, dBj, dSum, wLrg, rngD, wIsi, isiD, dPop, dClear, Bif_true, Bif_false, pD_str, pD_int, pD_bl, dD_str, dD_int, dD_bl, eD_int, eD_str, Nat.zero_le, and_self, true_and, and_true, CT.told, List.getElem?_cons_zero, List.getElem?_cons_succ, at0, at1, at2, List.set, g3, rdL, cutInts, List.cons_append, List.nil_append, List.replicate]
    intro q0 hq0
    have e4 := Ext.new (o := MO.lst (intL (fs.take k))) hq0
    have j4 : updM M3 q0 (MO.lst (intL (fs.take k))) q0 = some (.lst (intL (fs.take k))) := updM_same
    have g4 := e4 p _ g3
    have h4 := e4 p2 _ h3
    have i4 := e4 p3 _ i3
    generalize updM M3 q0 (MO.lst (intL (fs.take k))) = M4 at *
    simp only [j4]
    refine comp_map (f := leanOf true) (ok := fun σ => ∃ v, σ = [some (D.tup [.str "lead", .tup (intL fs), .int k]), some (.int x), some (.int m), some (.ref p), some (.ref p2), some (.ref p3), some (.int k), none, none, v]) [] _ ⟨none, rfl⟩ ?_ ?_
    · intro d hd σ acc rest ⟨v, hv⟩ kk
      subst hv
      obtain ⟨f, hfm, rfl⟩ := List.mem_map.1 hd
      exact ⟨j4, kk _ ⟨_, rfl⟩⟩
    intro q1 hq1
    rw [List.nil_append, lean_map]
    have e5 := Ext.new (o := MO.lst ((fs.take k).map (leanD true))) hq1
    have j5 : updM M4 q1 (MO.lst ((fs.take k).map (leanD true))) q1 = some (.lst ((fs.take k).map (leanD true))) := updM_same
    have g5 := e5 p _ g4
    have h5 := e5 p2 _ h4
    have i5 := e5 p3 _ i4
    generalize updM M4 q1 (MO.lst ((fs.take k).map (leanD true))) = M5 at *
    simp only [g5, ints_at ho.1.1]
    intro q2 hq2
    have e6 := Ext.new (o := MO.lst [D.tup [D.int (fs.getD k 0), D.bl false]]) hq2
    have j6 : updM M5 q2 (MO.lst [D.tup [D.int (fs.getD k 0), D.bl false]]) q2 = some (.lst [D.tup [D.int (fs.getD k 0), D.bl false]]) := updM_same
    have k6 := e6 q1 _ j5
    have h6 := e6 p2 _ h5
    have i6 := e6 p3 _ i5
    generalize updM M5 q2 (MO.lst [D.tup [D.int (fs.getD k 0), D.bl false]]) = M6 at *
    simp only [j6, k6]
    refine ⟨?_, fun q3 hq3 => ?_⟩
    · have : ((fs.take k).map (leanD true)).length ≤ 6 := by rw [List.length_map]; exact Nat.le_trans (List.length_take_le' _ _) ho.1.2
      have h6 : (7 : Nat) ≤ sizeLine := by decide
      simp only [List.length_cons, List.length_nil]
      omega
    have e7 := Ext.new (o := MO.lst ((fs.take k).map (leanD true) ++ [D.tup [D.int (fs.getD k 0), D.bl false]])) hq3
    have j7 : updM M6 q3 (MO.lst ((fs.take k).map (leanD true) ++ [D.tup [D.int (fs.getD k 0), D.bl false]])) q3 = some (.lst ((fs.take k).map (leanD true) ++ [D.tup [D.int (fs.getD k 0), D.bl false]])) := updM_same
    have h7 := e7 p2 _ h6
    have i7 := e7 p3 _ i6
    have ee := e3.trans (e4.trans (e5.trans e6))
    have f7 := ee.free hq3
    have e8 := ee.trans e7
    generalize updM M6 q3 (MO.lst ((fs.take k).map (leanD true) ++ [D.tup [D.int (fs.getD k 0), D.bl false]])) = M7 at *
    clear e3 e4 e5 e6 e7 ee g3 h3 i3 g4 h4 i4 g5 h5 i5 h6 i6 j4 j5 j6 k6 hq0 hq1 hq2 hq3
    unfold ir_law_due_1
    have last : ∀ (b : Bool) (M8 : MH), Ext M M8 → M8 q3 = some (.lst ((fs.take k).map (leanD true) ++ [D.tup [D.int (fs.getD k 0), D.bl false]])) → M8 p2 = some (.lst (bits x fs)) → M8 p3 = some (.lst (bits m fs)) → b = (hasB x (fs.getD k 0) && (((cntB (fs.take k) m : Nat) : Int) == 0)) →
        wSs cn ir_law_due_0 (fin Q) [some (D.tup [.str "lead", .tup (intL fs), .int k]), some (.int x), some (.int m), some (.ref p), some (.ref p2), some (.ref p3), some (.int k), some (.ref q3), some (.bl b)] M8 := by
      intro b M8 e9 j9 h9 i9 hb
      unfold ir_law_due_0
      simp only [wSs, wS, wE, wEs, wEo, wTo, wT, wI, wSeq, wNext, wIfS, wTest, wTru, wOp, wAnd, wOr, wNot, wAndV, wOrV, wNotV, wRet, wSet, wAsg, wDrop, wCall, wMt, wSl, wLst, wTup, wNil, wCons, wFor, wSeqI, wRng1, wRng2, wComp, wSetC, wPutIx, wFld, wSetF, wMeth, getS, boolD, truD, intD, optD, bindT, setM, dBin, dCmp, dIB, dI, dI0, dMul, dAdd, dBi, dLen, dIsinst, dII, dDivmod, dTuple, dList, dMt, mtRc, recvD, dIx, dSl, dPut, dEqV, dNeV, dIsV, dIsNotV, dInV, dNotInV, dInP, dEq, isNon, seqD, fldD, setFD, methD, lstD, dBj, dSum, wLrg, rngD, wIsi, isiD, dPop, dClear, Bif_true, Bif_false, pD_str, pD_int, pD_bl, dD_str, dD_int, dD_bl, eD_int, eD_str, Nat.zero_le, and_self, true_and, and_true, List.getElem?_cons_zero, List.getElem?_cons_succ, h9, i9, bits_at ho.1.1, rdL, cutBits, bit_no]
      subst hb
      cases b2 : hasB m (fs.getD k 0) with
      | false =>
        have := q q3 M8 f7 e9 j9
        rw [b2] at this
        exact this
      | true =>
        intro q4 hq4
        have e10 := Ext.new (o := MO.lst (bits x (fs.take k))) hq4
        simp only [updM_same]
        refine ⟨⟨pure_bits _ _, by rw [dep_bits]; decide⟩, ?_⟩
        have := q q3 _ f7 (e9.trans e10) (e10 q3 _ j9)
        rw [b2] at this
        rw [bits_in]
        exact this
    simp only [wSs, wS, wE, wEs, wEo, wTo, wT, wI, wSeq, wNext, wIfS, wTest, wTru, wOp, wAnd, wOr, wNot, wAndV, wOrV, wNotV, wRet, wSet, wAsg, wDrop, wCall, wMt, wSl, wLst, wTup, wNil, wCons, wFor, wSeqI, wRng1, wRng2, wComp, wSetC, wPutIx, wFld, wSetF, wMeth, getS, boolD, truD, intD, optD, bindT, setM, dBin, dCmp, dIB, dI, dI0, dMul, dAdd, dBi, dLen, dIsinst, dII, dDivmod, dTuple, dList, dMt, mtRc, recvD, dIx, dSl, dPut, dEqV, dNeV, dIsV, dIsNotV, dInV, dNotInV, dInP, dEq, isNon, seqD, fldD, setFD, methD, lstD, dBj, dSum, wLrg, rngD, wIsi, isiD, dPop, dClear, Bif_true, Bif_false, pD_str, pD_int, pD_bl, dD_str, dD_int, dD_bl, eD_int, eD_str, Nat.zero_le, and_self, true_and, and_true, List.getElem?_cons_zero, List.getElem?_cons_succ, List.set, h7, i7, bits_at ho.1.1, rdL, cutBits]
    show Bif (hasB x (fs.getD k 0)) _ _
    cases b1 : hasB x (fs.getD k 0) with
    | false => exact last false M7 e8 j7 h7 i7 (by rw [b1]; rfl)
    | true =>
      intro q4 hq4
      have e9 := Ext.new (o := MO.lst (bits m (fs.take k))) hq4
      simp only [updM_same]
      refine ⟨⟨pure_bits _ _, by rw [dep_bits]; decide⟩, ?_⟩
      refine last _ _ (e8.trans e9) (e9 q3 _ j7) (e9 p2 _ h7) (e9 p3 _ i7) ?_
      rw [b1, bits_in, cnt_no]
      rfl
end
end SH

set_option Elab.async false
set_option maxRecDepth 100000
set_option maxHeartbeats 4000000
set_option linter.all false
namespace SH
open PySem L2 DD
def ir_law_listed_0 : Ss := .cons (.ret (.bi .tuple (.cons (.comp 1 (.mt .pop (.var 1) (.cons (.fn 0 (.cons (.var 0) (.cons (.bi .len (.cons (.var 1) .nil)) .nil))) .nil)) (.nm 2) (.rg1 (.cons (.bin .Add (.int 1) (.fn 0 (.cons (.var 0) (.cons (.int 6) .nil)))) .nil)) .no) .nil))) .nil
def ir_law_listed : Ss := .cons (.set 1 (.lrg (.cons (.int 120) .nil))) ir_law_listed_0
def ir_law_drawn_0 : Ss := .cons (.ret (.tup (.cons (.str "lead") (.cons (.var 2) (.cons (.fn 0 (.cons (.var 0) (.cons (.bi .len (.cons (.var 2) .nil)) .nil))) .nil))))) .nil
def ir_law_drawn_1 : Ss := .cons (.ite (.cmp .Eq (.var 1) (.int 2)) (.cons (.ret (.tup (.cons (.str "some") (.cons (.bin .Add (.int 1) (.fn 0 (.cons (.var 0) (.cons (.int 6) .nil)))) (.cons (.var 2) .nil))))) .nil) .nil) ir_law_drawn_0
def ir_law_drawn_2 : Ss := .cons (.set 2 (.fn 1 (.cons (.var 0) .nil))) ir_law_drawn_1
def ir_law_drawn_3 : Ss := .cons (.ite (.cmp .Eq (.var 1) (.int 1)) (.cons (.ret (.tup (.cons (.str "lack") (.cons (.fn 0 (.cons (.var 0) (.cons (.int 120) .nil))) .nil)))) .nil) .nil) ir_law_drawn_2
def ir_law_drawn_4 : Ss := .cons (.ite (.cmp .Eq (.var 1) (.int 0)) (.cons (.ret (.tup (.cons (.str "have") (.cons (.fn 0 (.cons (.var 0) (.cons (.int 120) .nil))) .nil)))) .nil) .nil) ir_law_drawn_3
def ir_law_drawn : Ss := .cons (.set 1 (.fn 0 (.cons (.var 0) (.cons (.int 4) .nil)))) ir_law_drawn_4
def ir_law_set_0 : Ss := .cons (.ret (.var 2)) .nil
def ir_law_set_1 : Ss := .cons (.ite (.cmp .Eq (.fn 0 (.cons (.var 0) (.cons (.int 2) .nil))) (.int 0)) (.cons (.set 2 (.bin .BitOr (.var 2) (.fn 0 (.cons (.var 0) (.cons (.bin .Pow (.int 2) (.int 60)) .nil))))) .nil) .nil) ir_law_set_0
def ir_law_set_2 : Ss := .cons (.set 2 (.bin .Add (.var 2) (.bin .LShift (.fn 0 (.cons (.var 0) (.cons (.int 2) .nil))) (.var 3)))) .nil
def ir_law_set_3 : Ss := .cons (.for (.nm 3) (.seq (.fn 1 (.cons (.var 1) .nil))) ir_law_set_2) ir_law_set_1
def ir_law_set : Ss := .cons (.set 2 (.int 0)) ir_law_set_3
/-- what a box is like: one int, and nothing else has changed -/
structure BoxAt (b : Addr) (M M' : MH) (y : Int) : Prop where
  but : ExtBut b M M'
  at_ : M' b = some (.lst [.int y])
theorem BoxAt.take {b : Addr} {M M' : MH} {y : Int} (h : BoxAt b M M' y) (z : Int) : BoxAt b M (updM M' b (.lst [.int z])) z := ⟨h.but.trans (ExtBut.upd _ _ _), updM_same⟩
theorem BoxAt.new {b p : Addr} {o : MO} {M M' : MH} {y : Int} (h : BoxAt b M M' y) (hp : M' p = none) : BoxAt b M (updM M' p o) y := ⟨h.but.trans (Ext.new hp).but, Ext.new hp b _ h.at_⟩
def spListed : SpD := fun ds M Q => ∃ (b : Addr) (y : Int), ds = [.ref b] ∧ M b = some (.lst [.int y]) ∧ ∀ (fs : List Int) M' y', (0 < fs.length ∧ fs.length ≤ 6) → (∀ f ∈ fs, 0 ≤ f ∧ f < 120) → BoxAt b M M' y' → Q (.tup (intL fs)) M'
def spDrawn : SpD := fun ds M Q => ∃ (b : Addr) (y : Int), ds = [.ref b] ∧ M b = some (.lst [.int y]) ∧ ∀ (t : CT) M' y', t.ok → BoxAt b M M' y' → Q t.told M'
def spSet : SpD := fun ds M Q => ∃ (b : Addr) (y : Int) (t : CT), ds = [.ref b, t.told] ∧ t.ok ∧ M b = some (.lst [.int y]) ∧ ∀ v M' y', BoxAt b M M' y' → Q (.int v) M'
theorem mod_b {y m : Int} (h : 0 < m) : 0 ≤ y % m ∧ y % m < m := ⟨Int.emod_nonneg _ (by omega), Int.emod_lt_of_pos _ h⟩
theorem ints_erase (ls : List Int) (i : Nat) : (intL ls).eraseIdx i = intL (ls.eraseIdx i) := by
  unfold intL
  induction ls generalizing i with
  | nil => rfl
  | cons a r ih =>
    cases i with
    | zero => rfl
    | succ i => rw [List.map_cons, List.eraseIdx_cons_succ, List.eraseIdx_cons_succ, List.map_cons, ih]
theorem mem_erase {ls : List Int} {i : Nat} {f : Int} (h : f ∈ ls.eraseIdx i) : f ∈ ls := List.mem_of_mem_eraseIdx h
theorem range_ints : rangeD 0 120 = intL ((List.range 120).map fun (i : Nat) => (0 : Int) + (i : Int)) := by
  unfold rangeD intL
  rw [List.map_map]
  rfl
section
variable {cn : Cn} {ds : List D} {M : MH} {Q : DK}
theorem rd_listed (f0 : cn.F.getD 0 (fun _ _ _ => False) = spTake) (h : spListed ds M Q) : wSs cn ir_law_listed (fin Q) (startD ["", ""] ds) M := by
  obtain ⟨b, y, rfl, hM, q⟩ := h
  show wSs cn ir_law_listed (fin Q) [some (.ref b), none] M
  unfold ir_law_listed
  simp only [wSs, wS, wE, wEs, wEo, wTo, wT, wI, wSeq, wNext, wIfS, wTest, wTru, wOp, wAnd, wOr, wNot, wAndV, wOrV, wNotV, wRet, wSet, wAsg, wDrop, wCall, wMt, wSl, wLst, wTup, wNil, wCons, wFor, wSeqI, wRng1, wRng2, wComp, wSetC, wPutIx, wFld, wSetF, wMeth, getS, boolD, truD, intD, optD, bindT, setM, dBin, dCmp, dIB, dI, dI0, dMul, dAdd, dBi, dLen, dIsinst, dII, dDivmod, dTuple, dList, dMt, mtRc, recvD, dIx, dSl, dPut, dEqV, dNeV, dIsV, dIsNotV, dInV, dNotInV, dInP, dEq, isNon, seqD, fldD, setFD, methD, lstD, dBj, dSum, wLrg, rngD, wIsi, isiD, dPop, dClear, Bif_true, Bif_false, List.getElem?_cons_zero, List.getElem?_cons_succ, List.set]
  refine ⟨⟨by decide, by decide⟩, fun p hp => ?_⟩
  rw [range_ints]
  have hr : ∀ f ∈ ((List.range 120).map fun (i : Nat) => (0 : Int) + (i : Int)), 0 ≤ f ∧ f < 120 := by
    intro f hf
    obtain ⟨i, hi, rfl⟩ := List.mem_map.1 hf
    have := List.mem_range.1 hi
    omega
  have hl : ((List.range 120).map fun (i : Nat) => (0 : Int) + (i : Int)).length = 120 := by rw [List.length_map, List.length_range]
  generalize ((List.range 120).map fun (i : Nat) => (0 : Int) + (i : Int)) = ls at *
  have hbp : b ≠ p := ne_new hM hp
  have B1 : BoxAt b M (updM M p (.lst (intL ls))) y := ⟨(Ext.new hp).but, Ext.new hp b _ hM⟩
  have g1 : updM M p (MO.lst (intL ls)) p = some (.lst (intL ls)) := updM_same
  generalize updM M p (MO.lst (intL ls)) = M1 at *
  unfold ir_law_listed_0
  simp only [wSs, wS, wE, wEs, wEo, wTo, wT, wI, wSeq, wNext, wIfS, wTest, wTru, wOp, wAnd, wOr, wNot, wAndV, wOrV, wNotV, wRet, wSet, wAsg, wDrop, wCall, wMt, wSl, wLst, wTup, wNil, wCons, wFor, wSeqI, wRng1, wRng2, wComp, wSetC, wPutIx, wFld, wSetF, wMeth, getS, boolD, truD, intD, optD, bindT, setM, dBin, dCmp, dIB, dI, dI0, dMul, dAdd, dBi, dLen, dIsinst, dII, dDivmod, dTuple, dList, dMt, mtRc, recvD, dIx, dSl, dPut, dEqV, dNeV, dIsV, dIsNotV, dInV, dNotInV, dInP, dEq, isNon, seqD, fldD, setFD, methD, lstD, dBj, dSum, wLrg, rngD, wIsi, isiD, dPop, dClear, Bif_true, Bif_false, List.getElem?_cons_zero, List.getElem?_cons_succ, List.set, f0, List.cons_append, List.nil_append, List.replicate]
  refine ⟨b, y, 6, rfl, B1.at_, ⟨by decide, by decide⟩, ?_⟩
  have B2 := B1.take (y / 6)
  have g2 : updM M1 b (MO.lst [D.int (y / 6)]) p = some (.lst (intL ls)) := by rw [updM_ne hbp.symm]; exact g1
  generalize updM M1 b (MO.lst [D.int (y / 6)]) = M2 at *
  have d6 := mod_b (y := y) (m := 6) (by decide)
  refine ⟨⟨by omega, by omega⟩, ?_⟩
  have hn : (rangeD 0 (1 + y % 6)).length = (1 + y % 6).toNat := by unfold rangeD; rw [List.length_map, List.length_range]; congr 1; omega
  have hn6 : (1 + y % 6).toNat ≤ 6 ∧ 0 < (1 + y % 6).toNat := by omega
  generalize (1 + y % 6).toNat = n at *
  refine comp_inv (n := n) (P := fun j acc σ M' => ∃ (v : Option D) (y' : Int) (ls ac : List Int), σ = [some (.ref b), some (.ref p), v] ∧ BoxAt b M M' y' ∧ M' p = some (.lst (intL ls)) ∧ ls.length + j = 120 ∧ acc = intL ac ∧ ac.length = j ∧ (∀ f ∈ ls, 0 ≤ f ∧ f < 120) ∧ ∀ f ∈ ac, 0 ≤ f ∧ f < 120) 0 [] _ M2 (by rw [hn]; omega)
    ⟨none, y / 6, ls, [], rfl, B2, g2, by omega, rfl, rfl, hr, fun f hf => nomatch hf⟩ ?_ ?_
  · rintro x hx j acc rest σ M3 hj ⟨v, y', ls', ac, rfl, B3, g3, hlen, rfl, has, hls, hac⟩ k
    rw [compD]
    simp only [wSs, wS, wE, wEs, wEo, wTo, wT, wI, wSeq, wNext, wIfS, wTest, wTru, wOp, wAnd, wOr, wNot, wAndV, wOrV, wNotV, wRet, wSet, wAsg, wDrop, wCall, wMt, wSl, wLst, wTup, wNil, wCons, wFor, wSeqI, wRng1, wRng2, wComp, wSetC, wPutIx, wFld, wSetF, wMeth, getS, boolD, truD, intD, optD, bindT, setM, dBin, dCmp, dIB, dI, dI0, dMul, dAdd, dBi, dLen, dIsinst, dII, dDivmod, dTuple, dList, dMt, mtRc, recvD, dIx, dSl, dPut, dEqV, dNeV, dIsV, dIsNotV, dInV, dNotInV, dInP, dEq, isNon, seqD, fldD, setFD, methD, lstD, dBj, dSum, wLrg, rngD, wIsi, isiD, dPop, dClear, Bif_true, Bif_false, List.getElem?_cons_zero, List.getElem?_cons_succ, List.set, g3, len_intL]
    have hpos : (0 : Int) < (ls'.length : Int) := by omega
    refine ⟨rfl, b, y', (ls'.length : Int), rfl, B3.at_, ⟨hpos, by omega⟩, ?_⟩
    have B4 := B3.take (y' / (ls'.length : Int))
    have g4 : updM M3 b (MO.lst [D.int (y' / (ls'.length : Int))]) p = some (.lst (intL ls')) := by rw [updM_ne hbp.symm]; exact g3
    generalize updM M3 b (MO.lst [D.int (y' / (ls'.length : Int))]) = M4 at *
    have dm := mod_b (y := y') hpos
    generalize y' % (ls'.length : Int) = i at *
    have hi : i.toNat < ls'.length := by omega
    have hget : (intL ls')[i.toNat]? = some (.int ls'[i.toNat]) := by unfold intL; rw [List.getElem?_map, List.getElem?_eq_getElem hi]; rfl
    simp only [g4, hget, ints_erase]
    refine ⟨⟨dm.1, by omega⟩, trivial, ?_⟩
    refine k (.int ls'[i.toNat]) _ _ ⟨some x, y' / (ls'.length : Int), ls'.eraseIdx i.toNat, ac ++ [ls'[i.toNat]], rfl, ⟨?_, ?_⟩, updM_same, ?_, ?_, ?_, fun f hf => hls f (mem_erase hf), ?_⟩
    · intro a o ha e
      have : a ≠ p := ne_new e hp
      rw [updM_ne this]
      exact B4.but a o ha e
    · rw [updM_ne hbp]; exact B4.at_
    · rw [List.length_eraseIdx, if_pos hi]; omega
    · unfold intL; rw [List.map_append]; rfl
    · rw [List.length_append, has]; rfl
    · intro f hf
      rcases List.mem_append.1 hf with h | h
      · exact hac f h
      · have : f = ls'[i.toNat] := by simpa using h
        subst this
        exact hls _ (List.getElem_mem hi)
  · rintro acc σ M3 ⟨v, y', ls', ac, rfl, B3, g3, hlen, rfl, has, hls, hac⟩ p5 hp5
    simp only [updM_same, rdL]
    exact q ac _ y' (by omega) hac (B3.new hp5)
theorem rd_drawn (f0 : cn.F.getD 0 (fun _ _ _ => False) = spTake) (f1 : cn.F.getD 1 (fun _ _ _ => False) = spListed) (h : spDrawn ds M Q) : wSs cn ir_law_drawn (fin Q) (startD ["", "", ""] ds) M := by
  obtain ⟨b, y, rfl, hM, q⟩ := h
  show wSs cn ir_law_drawn (fin Q) [some (.ref b), none, none] M
  unfold ir_law_drawn
  simp only [wSs, wS, wE, wEs, wEo, wTo, wT, wI, wSeq, wNext, wIfS, wTest, wTru, wOp, wAnd, wOr, wNot, wAndV, wOrV, wNotV, wRet, wSet, wAsg, wDrop, wCall, wMt, wSl, wLst, wTup, wNil, wCons, wFor, wSeqI, wRng1, wRng2, wComp, wSetC, wPutIx, wFld, wSetF, wMeth, getS, boolD, truD, intD, optD, bindT, setM, dBin, dCmp, dIB, dI, dI0, dMul, dAdd, dBi, dLen, dIsinst, dII, dDivmod, dTuple, dList, dMt, mtRc, recvD, dIx, dSl, dPut, dEqV, dNeV, dIsV, dIsNotV, dInV, dNotInV, dInP, dEq, isNon, seqD, fldD, setFD, methD, lstD, dBj, dSum, wLrg, rngD, wIsi, isiD, dPop, dClear, Bif_true, Bif_false, List.getElem?_cons_zero, List.getElem?_cons_succ, List.set, f0]
  have B0 : BoxAt b M M y := ⟨ExtBut.refl _ _, hM⟩
  refine ⟨b, y, 4, rfl, hM, ⟨by decide, by decide⟩, ?_⟩
  have B1 := B0.take (y / 4)
  generalize updM M b (MO.lst [D.int (y / 4)]) = M1 at *
  generalize y % 4 = w at *
  generalize y / 4 = y1 at *
  have d120 := fun y => mod_b (y := y) (m := 120) (by decide)
  have d6 := fun y => mod_b (y := y) (m := 6) (by decide)
  unfold ir_law_drawn_4
  simp only [wSs, wS, wE, wEs, wEo, wTo, wT, wI, wSeq, wNext, wIfS, wTest, wTru, wOp, wAnd, wOr, wNot, wAndV, wOrV, wNotV, wRet, wSet, wAsg, wDrop, wCall, wMt, wSl, wLst, wTup, wNil, wCons, wFor, wSeqI, wRng1, wRng2, wComp, wSetC, wPutIx, wFld, wSetF, wMeth, getS, boolD, truD, intD, optD, bindT, setM, dBin, dCmp, dIB, dI, dI0, dMul, dAdd, dBi, dLen, dIsinst, dII, dDivmod, dTuple, dList, dMt, mtRc, recvD, dIx, dSl, dPut, dEqV, dNeV, dIsV, dIsNotV, dInV, dNotInV, dInP, dEq, isNon, seqD, fldD, setFD, methD, lstD, dBj, dSum, wLrg, rngD, wIsi, isiD, dPop, dClear, Bif_true, Bif_false, pD_str, pD_int, pD_bl, dD_str, dD_int, dD_bl, eD_int, eD_str, Nat.zero_le, and_self, true_and, and_true, List.getElem?_cons_zero, List.getElem?_cons_succ, List.set, f0]
  cases b1 : w == 0 with
  | true => exact ⟨b, y1, 120, rfl, B1.at_, ⟨by decide, by decide⟩, q (.hav (y1 % 120)) _ _ (d120 y1) (B1.take _)⟩
  | false =>
    show wSs cn ir_law_drawn_3 (fin Q) _ M1
    unfold ir_law_drawn_3
    simp only [wSs, wS, wE, wEs, wEo, wTo, wT, wI, wSeq, wNext, wIfS, wTest, wTru, wOp, wAnd, wOr, wNot, wAndV, wOrV, wNotV, wRet, wSet, wAsg, wDrop, wCall, wMt, wSl, wLst, wTup, wNil, wCons, wFor, wSeqI, wRng1, wRng2, wComp, wSetC, wPutIx, wFld, wSetF, wMeth, getS, boolD, truD, intD, optD, bindT, setM, dBin, dCmp, dIB, dI, dI0, dMul, dAdd, dBi, dLen, dIsinst, dII, dDivmod, dTuple, dList, dMt, mtRc, recvD, dIx, dSl, dPut, dEqV, dNeV, dIsV, dIsNotV, dInV, dNotInV, dInP, dEq, isNon, seqD, fldD, setFD, methD, lstD, dBj, dSum, wLrg, rngD, wIsi, isiD, dPop, dClear, Bif_true, Bif_false, pD_str, pD_int, pD_bl, dD_str, dD_int, dD_bl, eD_int, eD_str, Nat.zero_le, and_self, true_and, and_true, List.getElem?_cons_zero, List.getElem?_cons_succ, List.set, f0]
    cases b2 : w == 1 with
    | true => exact ⟨b, y1, 120, rfl, B1.at_, ⟨by decide, by decide⟩, q (.lck (y1 % 120)) _ _ (d120 y1) (B1.take _)⟩
    | false =>
      show wSs cn ir_law_drawn_2 (fin Q) _ M1
      unfold ir_law_drawn_2
      simp only [wSs, wS, wE, wEs, wEo, wTo, wT, wI, wSeq, wNext, wIfS, wTest, wTru, wOp, wAnd, wOr, wNot, wAndV, wOrV, wNotV, wRet, wSet, wAsg, wDrop, wCall, wMt, wSl, wLst, wTup, wNil, wCons, wFor, wSeqI, wRng1, wRng2, wComp, wSetC, wPutIx, wFld, wSetF, wMeth, getS, boolD, truD, intD, optD, bindT, setM, dBin, dCmp, dIB, dI, dI0, dMul, dAdd, dBi, dLen, dIsinst, dII, dDivmod, dTuple, dList, dMt, mtRc, recvD, dIx, dSl, dPut, dEqV, dNeV, dIsV, dIsNotV, dInV, dNotInV, dInP, dEq, isNon, seqD, fldD, setFD, methD, lstD, dBj, dSum, wLrg, rngD, wIsi, isiD, dPop, dClear, Bif_true, Bif_false, pD_str, pD_int, pD_bl, dD_str, dD_int, dD_bl, eD_int, eD_str, Nat.zero_le, and_self, true_and, and_true, List.getElem?_cons_zero, List.getElem?_cons_succ, List.set, f1]
      refine ⟨b, y1, rfl, B1.at_, fun fs M2 y2 hl hf B2' => ?_⟩
      have B2 : BoxAt b M M2 y2 := ⟨B1.but.trans B2'.but, B2'.at_⟩
      unfold ir_law_drawn_1
      simp only [wSs, wS, wE, wEs, wEo, wTo, wT, wI, wSeq, wNext, wIfS, wTest, wTru, wOp, wAnd, wOr, wNot, wAndV, wOrV, wNotV, wRet, wSet, wAsg, wDrop, wCall, wMt, wSl, wLst, wTup, wNil, wCons, wFor, wSeqI, wRng1, wRng2, wComp, wSetC, wPutIx, wFld, wSetF, wMeth, getS, boolD, truD, intD, optD, bindT, setM, dBin, dCmp, dIB, dI, dI0, dMul, dAdd, dBi, dLen, dIsinst, dII, dDivmod, dTuple, dList, dMt, mtRc, recvD, dIx, dSl, dPut, dEqV, dNeV, dIsV, dIsNotV, dInV, dNotInV, dInP, dEq, isNon, seqD, fldD, setFD, methD, lstD, dBj, dSum, wLrg, rngD, wIsi, isiD, dPop, dClear, Bif_true, Bif_false, pD_str, pD_int, pD_bl, dD_str, dD_int, dD_bl, eD_int, eD_str, Nat.zero_le, and_self, true_and, and_true, List.getElem?_cons_zero, List.getElem?_cons_succ, List.set, f0]
      cases b3 : w == 2 with
      | true => exact ⟨b, y2, 6, rfl, B2.at_, ⟨by decide, by decide⟩, q (.som (1 + y2 % 6) fs) _ _ ⟨hl, hf⟩ (B2.take _)⟩
      | false =>
        show wSs cn ir_law_drawn_0 (fin Q) _ M2
        unfold ir_law_drawn_0
        simp only [wSs, wS, wE, wEs, wEo, wTo, wT, wI, wSeq, wNext, wIfS, wTest, wTru, wOp, wAnd, wOr, wNot, wAndV, wOrV, wNotV, wRet, wSet, wAsg, wDrop, wCall, wMt, wSl, wLst, wTup, wNil, wCons, wFor, wSeqI, wRng1, wRng2, wComp, wSetC, wPutIx, wFld, wSetF, wMeth, getS, boolD, truD, intD, optD, bindT, setM, dBin, dCmp, dIB, dI, dI0, dMul, dAdd, dBi, dLen, dIsinst, dII, dDivmod, dTuple, dList, dMt, mtRc, recvD, dIx, dSl, dPut, dEqV, dNeV, dIsV, dIsNotV, dInV, dNotInV, dInP, dEq, isNon, seqD, fldD, setFD, methD, lstD, dBj, dSum, wLrg, rngD, wIsi, isiD, dPop, dClear, Bif_true, Bif_false, pD_str, pD_int, pD_bl, dD_str, dD_int, dD_bl, eD_int, eD_str, Nat.zero_le, and_self, true_and, and_true, List.getElem?_cons_zero, List.getElem?_cons_succ, List.set, f0, len_intL]
        have hpos : (0 : Int) < (fs.length : Int) := by omega
        refine ⟨b, y2, (fs.length : Int), rfl, B2.at_, ⟨hpos, by omega⟩, ?_⟩
        have dm := mod_b (y := y2) hpos
        have e : y2 % (fs.length : Int) = (((y2 % (fs.length : Int)).toNat : Nat) : Int) := by omega
        rw [e]
        exact q (.led fs (y2 % (fs.length : Int)).toNat) _ _ ⟨⟨by omega, hl.2⟩, hf⟩ (B2.take _)
theorem rd_set (f0 : cn.F.getD 0 (fun _ _ _ => False) = spTake) (f1 : cn.F.getD 1 (fun _ _ _ => False) = spFacts) (h : spSet ds M Q) : wSs cn ir_law_set (fin Q) (startD ["", "", "", ""] ds) M := by
  obtain ⟨b, y, t, rfl, ho, hM, q⟩ := h
  show wSs cn ir_law_set (fin Q) [some (.ref b), some t.told, none, none] M
  have hf := CT.facts_ok ho
  unfold ir_law_set
  simp only [wSs, wS, wE, wEs, wEo, wTo, wT, wI, wSeq, wNext, wIfS, wTest, wTru, wOp, wAnd, wOr, wNot, wAndV, wOrV, wNotV, wRet, wSet, wAsg, wDrop, wCall, wMt, wSl, wLst, wTup, wNil, wCons, wFor, wSeqI, wRng1, wRng2, wComp, wSetC, wPutIx, wFld, wSetF, wMeth, getS, boolD, truD, intD, optD, bindT, setM, dBin, dCmp, dIB, dI, dI0, dMul, dAdd, dBi, dLen, dIsinst, dII, dDivmod, dTuple, dList, dMt, mtRc, recvD, dIx, dSl, dPut, dEqV, dNeV, dIsV, dIsNotV, dInV, dNotInV, dInP, dEq, isNon, seqD, fldD, setFD, methD, lstD, dBj, dSum, wLrg, rngD, wIsi, isiD, dPop, dClear, Bif_true, Bif_false, List.getElem?_cons_zero, List.getElem?_cons_succ, List.set]
  unfold ir_law_set_3
  simp only [wSs, wS, wE, wEs, wEo, wTo, wT, wI, wSeq, wNext, wIfS, wTest, wTru, wOp, wAnd, wOr, wNot, wAndV, wOrV, wNotV, wRet, wSet, wAsg, wDrop, wCall, wMt, wSl, wLst, wTup, wNil, wCons, wFor, wSeqI, wRng1, wRng2, wComp, wSetC, wPutIx, wFld, wSetF, wMeth, getS, boolD, truD, intD, optD, bindT, setM, dBin, dCmp, dIB, dI, dI0, dMul, dAdd, dBi, dLen, dIsinst, dII, dDivmod, dTuple, dList, dMt, mtRc, recvD, dIx, dSl, dPut, dEqV, dNeV, dIsV, dIsNotV, dInV, dNotInV, dInP, dEq, isNon, seqD, fldD, setFD, methD, lstD, dBj, dSum, wLrg, rngD, wIsi, isiD, dPop, dClear, Bif_true, Bif_false, List.getElem?_cons_zero, List.getElem?_cons_succ, List.set, f1]
  refine ⟨t, rfl, fun p hp => ?_⟩
  have hbp : b ≠ p := ne_new hM hp
  have B1 : BoxAt b M (updM M p (.lst (intL t.facts))) y := ⟨(Ext.new hp).but, Ext.new hp b _ hM⟩
  have g1 : updM M p (MO.lst (intL t.facts)) p = some (.lst (intL t.facts)) := updM_same
  generalize updM M p (MO.lst (intL t.facts)) = M1 at *
  simp only [g1]
  refine loop_inv (P := fun σ M' => ∃ v w y', σ = [some (.ref b), some t.told, some (.int v), w] ∧ BoxAt b M M' y' ∧ M' p = some (.lst (intL t.facts))) _ _ ⟨0, none, y, rfl, B1, g1⟩ ?_ ?_
  · rintro x hx σ M2 N ⟨v, w, y', rfl, B2, g2⟩ k
    obtain ⟨f, hfm, rfl⟩ := List.mem_map.1 hx
    unfold ir_law_set_2
    simp only [wSs, wS, wE, wEs, wEo, wTo, wT, wI, wSeq, wNext, wIfS, wTest, wTru, wOp, wAnd, wOr, wNot, wAndV, wOrV, wNotV, wRet, wSet, wAsg, wDrop, wCall, wMt, wSl, wLst, wTup, wNil, wCons, wFor, wSeqI, wRng1, wRng2, wComp, wSetC, wPutIx, wFld, wSetF, wMeth, getS, boolD, truD, intD, optD, bindT, setM, dBin, dCmp, dIB, dI, dI0, dMul, dAdd, dBi, dLen, dIsinst, dII, dDivmod, dTuple, dList, dMt, mtRc, recvD, dIx, dSl, dPut, dEqV, dNeV, dIsV, dIsNotV, dInV, dNotInV, dInP, dEq, isNon, seqD, fldD, setFD, methD, lstD, dBj, dSum, wLrg, rngD, wIsi, isiD, dPop, dClear, Bif_true, Bif_false, List.getElem?_cons_zero, List.getElem?_cons_succ, List.set, f0]
    have d2 := mod_b (y := y') (m := 2) (by decide)
    have hff := hf f hfm
    refine ⟨b, y', 2, rfl, B2.at_, ⟨by decide, by decide⟩, ⟨hff.1, by omega, by omega⟩, ?_, ?_⟩
    · rw [updM_ne hbp.symm]; exact g2
    · exact k _ _ ⟨_, _, _, rfl, B2.take _, by rw [updM_ne hbp.symm]; exact g2⟩
  · rintro σ M2 ⟨v, w, y', rfl, B2, g2⟩
    unfold ir_law_set_1
    simp only [wSs, wS, wE, wEs, wEo, wTo, wT, wI, wSeq, wNext, wIfS, wTest, wTru, wOp, wAnd, wOr, wNot, wAndV, wOrV, wNotV, wRet, wSet, wAsg, wDrop, wCall, wMt, wSl, wLst, wTup, wNil, wCons, wFor, wSeqI, wRng1, wRng2, wComp, wSetC, wPutIx, wFld, wSetF, wMeth, getS, boolD, truD, intD, optD, bindT, setM, dBin, dCmp, dIB, dI, dI0, dMul, dAdd, dBi, dLen, dIsinst, dII, dDivmod, dTuple, dList, dMt, mtRc, recvD, dIx, dSl, dPut, dEqV, dNeV, dIsV, dIsNotV, dInV, dNotInV, dInP, dEq, isNon, seqD, fldD, setFD, methD, lstD, dBj, dSum, wLrg, rngD, wIsi, isiD, dPop, dClear, Bif_true, Bif_false, pD_str, pD_int, pD_bl, dD_str, dD_int, dD_bl, eD_int, eD_str, Nat.zero_le, and_self, true_and, and_true, List.getElem?_cons_zero, List.getElem?_cons_succ, List.set, f0]
    refine ⟨b, y', 2, rfl, B2.at_, ⟨by decide, by decide⟩, ?_⟩
    have B3 := B2.take (y' / 2)
    generalize updM M2 b (MO.lst [D.int (y' / 2)]) = M3 at *
    simp only [pD_str, pD_int, pD_bl, dD_str, dD_int, dD_bl, eD_int, eD_str, Nat.zero_le, and_self, true_and, and_true]
    cases b1 : y' % 2 == 0 with
    | true =>
      refine ⟨⟨by decide, by decide, by decide⟩, b, y' / 2, 2 ^ (60 : Int).toNat, rfl, B3.at_, ⟨by decide, by decide⟩, ?_⟩
      show wSs cn ir_law_set_0 (fin Q) _ _
      unfold ir_law_set_0
      simp only [wSs, wS, wE, wEs, wEo, wTo, wT, wI, wSeq, wNext, wIfS, wTest, wTru, wOp, wAnd, wOr, wNot, wAndV, wOrV, wNotV, wRet, wSet, wAsg, wDrop, wCall, wMt, wSl, wLst, wTup, wNil, wCons, wFor, wSeqI, wRng1, wRng2, wComp, wSetC, wPutIx, wFld, wSetF, wMeth, getS, boolD, truD, intD, optD, bindT, setM, dBin, dCmp, dIB, dI, dI0, dMul, dAdd, dBi, dLen, dIsinst, dII, dDivmod, dTuple, dList, dMt, mtRc, recvD, dIx, dSl, dPut, dEqV, dNeV, dIsV, dIsNotV, dInV, dNotInV, dInP, dEq, isNon, seqD, fldD, setFD, methD, lstD, dBj, dSum, wLrg, rngD, wIsi, isiD, dPop, dClear, Bif_true, Bif_false, pD_str, pD_int, pD_bl, dD_str, dD_int, dD_bl, eD_int, eD_str, Nat.zero_le, and_self, true_and, and_true, List.getElem?_cons_zero, List.getElem?_cons_succ, List.set]
      exact q _ _ _ (B3.take _)
    | false =>
      show wSs cn ir_law_set_0 (fin Q) _ _
      unfold ir_law_set_0
      simp only [wSs, wS, wE, wEs, wEo, wTo, wT, wI, wSeq, wNext, wIfS, wTest, wTru, wOp, wAnd, wOr, wNot, wAndV, wOrV, wNotV, wRet, wSet, wAsg, wDrop, wCall, wMt, wSl, wLst, wTup, wNil, wCons, wFor, wSeqI, wRng1, wRng2, wComp, wSetC, wPutIx, wFld, wSetF, wMeth, getS, boolD, truD, intD, optD, bindT, setM, dBin, dCmp, dIB, dI, dI0, dMul, dAdd, dBi, dLen, dIsinst, dII, dDivmod, dTuple, dList, dMt, mtRc, recvD, dIx, dSl, dPut, dEqV, dNeV, dIsV, dIsNotV, dInV, dNotInV, dInP, dEq, isNon, seqD, fldD, setFD, methD, lstD, dBj, dSum, wLrg, rngD, wIsi, isiD, dPop, dClear, Bif_true, Bif_false, pD_str, pD_int, pD_bl, dD_str, dD_int, dD_bl, eD_int, eD_str, Nat.zero_le, and_self, true_and, and_true, List.getElem?_cons_zero, List.getElem?_cons_succ, List.set]
      exact q _ _ _ B3
end
end SH

set_option Elab.async false
set_option maxRecDepth 100000
set_option maxHeartbeats 4000000
set_option linter.all false
namespace SH
open PySem L2 DD
def ir_law_right_0 : Ss := .cons (.ret (.and (.cmp .Eq (.mu0 "leaning" (.var 3)) (.ix (.var 4) (.int 2))) (.cmp .Eq (.mu0 "shown" (.var 3)) (.var 0)))) .nil
def ir_law_right_1 : Ss := .cons (.expr (.mt0 .clear (.var 6))) ir_law_right_0
def ir_law_right_2 : Ss := .cons (.ite (.or (.not (.val (.bi .isinst (.cons (.var 6) (.cons (.ty "list") .nil))))) (.cmp .NotEq (.var 6) (.ix (.var 4) (.int 2)))) (.cons (.ret (.bl false)) .nil) .nil) ir_law_right_1
def ir_law_right_3 : Ss := .cons (.set 6 (.mu0 "leaning" (.var 3))) ir_law_right_2
def ir_law_right_4 : Ss := .cons (.ite (.or (.not (.val (.bi .isinst (.cons (.ix (.var 5) (.int 0)) (.cons (.ty "bool") .nil))))) (.or (.not (.val (.bi .isinst (.cons (.ix (.var 5) (.int 1)) (.cons (.ty "bool") .nil))))) (.cmp .NotEq (.var 5) (.lst (.cons (.ix (.var 4) (.int 0)) (.cons (.ix (.var 4) (.int 1)) .nil)))))) (.cons (.ret (.bl false)) .nil) .nil) ir_law_right_3
def ir_law_right_5 : Ss := .cons (.set 5 (.lst (.cons (.mu "carried" (.var 3) (.cons (.var 1) (.cons (.var 2) .nil))) (.cons (.mu "blocked" (.var 3) (.cons (.var 1) (.cons (.var 2) .nil))) .nil)))) ir_law_right_4
def ir_law_right_6 : Ss := .cons (.ite (.or (.not (.val (.isi (.cons (.var 3) (.cons (.glob 0) .nil))))) (.or (.cmp .NotEq (.mu0 "shown" (.var 3)) (.var 0)) (.not (.val (.fn 0 (.cons (.var 3) (.cons (.var 0) .nil))))))) (.cons (.ret (.bl false)) .nil) .nil) ir_law_right_5
def ir_law_right_7 : Ss := .cons (.set 4 (.fn 1 (.cons (.var 0) (.cons (.var 1) (.cons (.var 2) .nil))))) ir_law_right_6
def ir_law_right : Ss := .cons (.set 3 (.fn 2 (.cons (.var 0) .nil))) ir_law_right_7
def ir_law_0 : Ss := .cons (.ret (.bl true)) .nil
def ir_law_1 : Ss := .cons (.ite (.or (.not (.val (.fn 0 (.cons (.var 3) (.cons (.var 4) (.cons (.bin .BitOr (.var 4) (.fn 1 (.cons (.var 2) (.cons (.var 3) .nil)))) .nil)))))) (.not (.val (.fn 0 (.cons (.var 3) (.cons (.var 4) (.cons (.fn 1 (.cons (.var 2) (.cons (.var 3) .nil))) .nil))))))) (.cons (.ret (.bl false)) .nil) .nil) .nil
def ir_law_2 : Ss := .cons (.set 4 (.fn 1 (.cons (.var 2) (.cons (.var 3) .nil)))) ir_law_1
def ir_law_3 : Ss := .cons (.set 3 (.fn 2 (.cons (.var 2) .nil))) ir_law_2
def ir_law_4 : Ss := .cons (.set 2 (.fn 3 (.cons (.var 0) (.cons (.var 1) .nil)))) ir_law_3
def ir_law : Ss := .cons (.for (.nm 1) (.rg2 (.cons (.int 1) (.cons (.bi .max (.cons (.int 2) (.cons (.bi .min (.cons (.bi .len (.cons (.var 0) .nil)) (.cons (.int 60) .nil))) .nil))) .nil))) ir_law_4) ir_law_0
def spRight : SpD := fun ds M Q => ∃ (t : CT) (h m : Int), ds = [t.told, .int h, .int m] ∧ t.ok ∧ ∀ M', Ext M M' → Q (.bl true) M'
def spLaw : SpD := fun ds M Q => ∃ (a : Addr) (ns : List Int), ds = [.ref a] ∧ M a = some (.rol (ns.map .int)) ∧ ns.length ≤ 63 ∧ ∀ M', Q (.bl true) M'
theorem met_shown {c : CA} (h : c.apart) (t : CT) : metT c (c.at t.kind) "shown" = some (spShown c t.kind) := by
  unfold metT; rw [h _ t.kind_lt]; rfl
theorem met_carried {c : CA} (h : c.apart) (t : CT) : metT c (c.at t.kind) "carried" = some (spCarried c t.kind) := by
  unfold metT; rw [h _ t.kind_lt]; rfl
theorem met_blocked {c : CA} (h : c.apart) (t : CT) : metT c (c.at t.kind) "blocked" = some (spBlocked c t.kind) := by
  unfold metT; rw [h _ t.kind_lt]; rfl
theorem met_leaning {c : CA} (h : c.apart) (t : CT) : metT c (c.at t.kind) "leaning" = some (spLeaning c t.kind) := by
  unfold metT; rw [h _ t.kind_lt]; rfl
theorem no_shown (t : CT) : t.flds.lookup ("shown" : Str) = none := by cases t <;> rfl
theorem no_carried (t : CT) : t.flds.lookup ("carried" : Str) = none := by cases t <;> rfl
theorem no_blocked (t : CT) : t.flds.lookup ("blocked" : Str) = none := by cases t <;> rfl
theorem no_leaning (t : CT) : t.flds.lookup ("leaning" : Str) = none := by cases t <;> rfl
theorem pure_told (t : CT) : pureD t.told = true := by
  cases t with
  | hav f => rfl
  | lck f => rfl
  | som n fs =>
    show (true && (true && (pureDs (intL fs) && true))) = true
    rw [pure_ints]; rfl
  | led fs k =>
    show (true && (pureDs (intL fs) && (true && true))) = true
    rw [pure_ints]; rfl
theorem dep_told (t : CT) : depD t.told ≤ 30 := by
  cases t with
  | hav f => exact (by decide : (1 : Nat) ≤ 30)
  | lck f => exact (by decide : (1 : Nat) ≤ 30)
  | som n fs =>
    show max 0 (max 0 (max (depDs (intL fs) + 1) 0)) + 1 ≤ 30
    rw [dep_ints]; decide
  | led fs k =>
    show max 0 (max (depDs (intL fs) + 1) (max 0 0)) + 1 ≤ 30
    rw [dep_ints]; decide
theorem pure_lean (b : Bool) : ∀ (fs : List Int), pureDs (fs.map (leanD b)) = true
  | [] => rfl
  | f :: fs => by
    show (pureD (leanD b f) && pureDs (fs.map (leanD b))) = true
    rw [pure_lean b fs]; rfl
theorem dep_lean (b : Bool) : ∀ (fs : List Int), depDs (fs.map (leanD b)) ≤ 1
  | [] => Nat.zero_le _
  | f :: fs => by
    have := dep_lean b fs
    show max (depD (leanD b f)) (depDs (fs.map (leanD b))) ≤ 1
    have h : depD (leanD b f) = 1 := rfl
    omega
theorem pureDs_app : ∀ {as bs : List D}, pureDs as = true → pureDs bs = true → pureDs (as ++ bs) = true
  | [], bs, _, h => h
  | a :: as, bs, h, h' => by
    rw [pureDs, Bool.and_eq_true] at h
    rw [List.cons_append, pureDs, h.1, pureDs_app h.2 h']; rfl
theorem depDs_app : ∀ {as bs : List D} {n : Nat}, depDs as ≤ n → depDs bs ≤ n → depDs (as ++ bs) ≤ n
  | [], bs, _, _, h => h
  | a :: as, bs, n, h, h' => by
    rw [depDs] at h
    rw [List.cons_append, depDs]
    have := depDs_app (as := as) (bs := bs) (n := n) (by omega) h'
    omega
theorem pure_leans (t : CT) : pureDs t.leans = true := by
  cases t with
  | hav f => rfl
  | lck f => rfl
  | som n fs => exact pure_lean _ _
  | led fs k => exact pureDs_app (pure_lean _ _) rfl
theorem dep_leans (t : CT) : depDs t.leans ≤ 30 := by
  cases t with
  | hav f => exact (by decide : (1 : Nat) ≤ 30)
  | lck f => exact (by decide : (1 : Nat) ≤ 30)
  | som n fs => exact Nat.le_trans (dep_lean _ _) (by decide)
  | led fs k => exact Nat.le_trans (depDs_app (dep_lean _ _) (by exact (by decide : (1 : Nat) ≤ 1))) (by decide)
theorem told_tup (t : CT) : ∃ l, t.told = .tup l := by cases t <;> exact ⟨_, rfl⟩
theorem is_bool (b : Bool) (M : MH) : tyD (.bl b) M = some "bool" := rfl
section
variable {cn : Cn} {c : CA} {cC : Addr} {ds : List D} {M : MH} {Q : DK}
theorem rd_right (hO : cn.O = fldO c) (hT : cn.T = metT c) (ha : c.apart) (hG : cn.G.getD 0 .non = .ref cC) (hI : ∀ k, k < 4 → cn.I (c.at k) cC = some true) (hF : cn.F = [spFields c, spDue, spMade c]) (h : spRight ds M Q) :
    wSs cn ir_law_right (fin Q) (startD ["", "", "", "", "", "", ""] ds) M := by
  obtain ⟨t, x, m, rfl, ho, q⟩ := h
  show wSs cn ir_law_right (fin Q) [some t.told, some (.int x), some (.int m), none, none, none, none] M
  obtain ⟨tl, htl⟩ := told_tup t
  have pt : pureD (.tup tl) = true := by rw [← htl]; exact pure_told t
  have dt : depD (.tup tl) ≤ 30 := by rw [← htl]; exact dep_told t
  rw [htl]
  unfold ir_law_right
  simp only [wSs, wS, wE, wEs, wEo, wTo, wT, wI, wSeq, wNext, wIfS, wTest, wTru, wOp, wAnd, wOr, wNot, wAndV, wOrV, wNotV, wRet, wSet, wAsg, wDrop, wCall, wMt, wSl, wLst, wTup, wNil, wCons, wFor, wSeqI, wRng1, wRng2, wComp, wSetC, wPutIx, wFld, wSetF, wMeth, getS, boolD, truD, intD, optD, bindT, setM, dBin, dCmp, dIB, dI, dI0, dMul, dAdd, dBi, dLen, dIsinst, dII, dDivmod, dTuple, dList, dMt, mtRc, recvD, dIx, dSl, dPut, dEqV, dNeV, dIsV, dIsNotV, dInV, dNotInV, dInP, dEq, isNon, seqD, fldD, setFD, methD, lstD, dBj, dSum, wLrg, rngD, wIsi, isiD, dPop, dClear, Bif_true, Bif_false, List.getElem?_cons_zero, List.getElem?_cons_succ, List.set, hF, List.getD_cons_zero, List.getD_cons_succ]
  refine ⟨t, by rw [htl], fun p M1 hp e1 g1 => ?_⟩
  have g1 : M1 p = some (.ins (c.at t.kind) t.flds) := g1
  unfold ir_law_right_7
  simp only [wSs, wS, wE, wEs, wEo, wTo, wT, wI, wSeq, wNext, wIfS, wTest, wTru, wOp, wAnd, wOr, wNot, wAndV, wOrV, wNotV, wRet, wSet, wAsg, wDrop, wCall, wMt, wSl, wLst, wTup, wNil, wCons, wFor, wSeqI, wRng1, wRng2, wComp, wSetC, wPutIx, wFld, wSetF, wMeth, getS, boolD, truD, intD, optD, bindT, setM, dBin, dCmp, dIB, dI, dI0, dMul, dAdd, dBi, dLen, dIsinst, dII, dDivmod, dTuple, dList, dMt, mtRc, recvD, dIx, dSl, dPut, dEqV, dNeV, dIsV, dIsNotV, dInV, dNotInV, dInP, dEq, isNon, seqD, fldD, setFD, methD, lstD, dBj, dSum, wLrg, rngD, wIsi, isiD, dPop, dClear, Bif_true, Bif_false, List.getElem?_cons_zero, List.getElem?_cons_succ, List.set, hF, List.getD_cons_zero, List.getD_cons_succ]
  refine ⟨t, x, m, by rw [htl], ho, fun p2 M2 hp2 e2 g2 => ?_⟩
  have h2 := e2 p _ g1
  have hpp : p ≠ p2 := ne_new g1 hp2
  have f2 := e1.free hp2
  have e3 := e1.trans e2
  unfold ir_law_right_6
  simp only [wSs, wS, wE, wEs, wEo, wTo, wT, wI, wSeq, wNext, wIfS, wTest, wTru, wOp, wAnd, wOr, wNot, wAndV, wOrV, wNotV, wRet, wSet, wAsg, wDrop, wCall, wMt, wSl, wLst, wTup, wNil, wCons, wFor, wSeqI, wRng1, wRng2, wComp, wSetC, wPutIx, wFld, wSetF, wMeth, getS, boolD, truD, intD, optD, bindT, setM, dBin, dCmp, dIB, dI, dI0, dMul, dAdd, dBi, dLen, dIsinst, dII, dDivmod, dTuple, dList, dMt, mtRc, recvD, dIx, dSl, dPut, dEqV, dNeV, dIsV, dIsNotV, dInV, dNotInV, dInP, dEq, isNon, seqD, fldD, setFD, methD, lstD, dBj, dSum, wLrg, rngD, wIsi, isiD, dPop, dClear, Bif_true, Bif_false, List.getElem?_cons_zero, List.getElem?_cons_succ, List.set, hF, List.getD_cons_zero, List.getD_cons_succ, hG, h2, hI _ t.kind_lt, hT, met_shown ha, no_shown, Bool.not_true]
  refine ⟨trivial, p, t, rfl, rfl, h2, ?_⟩
  rw [htl]
  refine ⟨⟨pt, pt, dt⟩, ?_⟩
  simp only [eqD_refl _ pt, Bool.not_true, Bif_false]
  refine ⟨p, t, by rw [htl], h2, ?_⟩
  simp only [Bool.not_true, Bif_false]
  show wSs cn ir_law_right_5 (fin Q) _ M2
  unfold ir_law_right_5
  simp only [wSs, wS, wE, wEs, wEo, wTo, wT, wI, wSeq, wNext, wIfS, wTest, wTru, wOp, wAnd, wOr, wNot, wAndV, wOrV, wNotV, wRet, wSet, wAsg, wDrop, wCall, wMt, wSl, wLst, wTup, wNil, wCons, wFor, wSeqI, wRng1, wRng2, wComp, wSetC, wPutIx, wFld, wSetF, wMeth, getS, boolD, truD, intD, optD, bindT, setM, dBin, dCmp, dIB, dI, dI0, dMul, dAdd, dBi, dLen, dIsinst, dII, dDivmod, dTuple, dList, dMt, mtRc, recvD, dIx, dSl, dPut, dEqV, dNeV, dIsV, dIsNotV, dInV, dNotInV, dInP, dEq, isNon, seqD, fldD, setFD, methD, lstD, dBj, dSum, wLrg, rngD, wIsi, isiD, dPop, dClear, Bif_true, Bif_false, List.getElem?_cons_zero, List.getElem?_cons_succ, List.set, h2, hT, met_carried ha, no_carried]
  refine ⟨trivial, p, t, x, m, rfl, ho, rfl, h2, fun M3 e4 => ?_⟩
  have h3 := e4 p _ h2
  simp only [h3, met_blocked ha, no_blocked]
  refine ⟨trivial, p, t, x, m, rfl, ho, rfl, h3, fun M4 e5 p3 hp3 => ?_⟩
  have e6 := e4.trans e5
  have e7 := Ext.new (o := MO.lst [D.bl (t.carried x m), D.bl (t.blocked x m)]) hp3
  have g3 : updM M4 p3 (MO.lst [D.bl (t.carried x m), D.bl (t.blocked x m)]) p3 = some (.lst [D.bl (t.carried x m), D.bl (t.blocked x m)]) := updM_same
  have h4 := (e6.trans e7) p _ h2
  have i4 := (e6.trans e7) p2 _ g2
  have e8 := e3.trans (e6.trans e7)
  generalize updM M4 p3 (MO.lst [D.bl (t.carried x m), D.bl (t.blocked x m)]) = M5 at *
  clear e1 e2 e3 e4 e5 e6 e7 h2 h3 g2 g1
  unfold ir_law_right_4
  simp only [wSs, wS, wE, wEs, wEo, wTo, wT, wI, wSeq, wNext, wIfS, wTest, wTru, wOp, wAnd, wOr, wNot, wAndV, wOrV, wNotV, wRet, wSet, wAsg, wDrop, wCall, wMt, wSl, wLst, wTup, wNil, wCons, wFor, wSeqI, wRng1, wRng2, wComp, wSetC, wPutIx, wFld, wSetF, wMeth, getS, boolD, truD, intD, optD, bindT, setM, dBin, dCmp, dIB, dI, dI0, dMul, dAdd, dBi, dLen, dIsinst, dII, dDivmod, dTuple, dList, dMt, mtRc, recvD, dIx, dSl, dPut, dEqV, dNeV, dIsV, dIsNotV, dInV, dNotInV, dInP, dEq, isNon, seqD, fldD, setFD, methD, lstD, dBj, dSum, wLrg, rngD, wIsi, isiD, dPop, dClear, Bif_true, Bif_false, List.getElem?_cons_zero, List.getElem?_cons_succ, List.set, g3, at0, at1, at2, is_bool]
  refine ⟨by decide, ?_⟩
  show Bif false _ _
  refine ⟨by decide, ?_⟩
  show Bif false _ _
  intro p4 hp4
  have e9 := Ext.new (o := MO.lst [D.bl (t.carried x m), D.bl (t.blocked x m)]) hp4
  simp only [updM_same, e9 p3 _ g3, rdL]
  refine ⟨⟨rfl, rfl, (by decide : (0 : Nat) ≤ 30)⟩, ?_⟩
  rw [eqDs_refl _ (by rfl)]
  have h5 := e9 p _ h4
  have i5 := e9 p2 _ i4
  have e10 := e8.trans e9
  generalize updM M5 p4 (MO.lst [D.bl (t.carried x m), D.bl (t.blocked x m)]) = M6 at *
  clear e8 e9 h4 i4 g3
  show wSs cn ir_law_right_3 (fin Q) _ M6
  unfold ir_law_right_3
  simp only [wSs, wS, wE, wEs, wEo, wTo, wT, wI, wSeq, wNext, wIfS, wTest, wTru, wOp, wAnd, wOr, wNot, wAndV, wOrV, wNotV, wRet, wSet, wAsg, wDrop, wCall, wMt, wSl, wLst, wTup, wNil, wCons, wFor, wSeqI, wRng1, wRng2, wComp, wSetC, wPutIx, wFld, wSetF, wMeth, getS, boolD, truD, intD, optD, bindT, setM, dBin, dCmp, dIB, dI, dI0, dMul, dAdd, dBi, dLen, dIsinst, dII, dDivmod, dTuple, dList, dMt, mtRc, recvD, dIx, dSl, dPut, dEqV, dNeV, dIsV, dIsNotV, dInV, dNotInV, dInP, dEq, isNon, seqD, fldD, setFD, methD, lstD, dBj, dSum, wLrg, rngD, wIsi, isiD, dPop, dClear, Bif_true, Bif_false, List.getElem?_cons_zero, List.getElem?_cons_succ, List.set, h5, hT, met_leaning ha, no_leaning]
  refine ⟨trivial, p, t, rfl, ho, rfl, h5, fun p5 M7 hp5 e11 g7 => ?_⟩
  have h7 := e11 p _ h5
  have i7 := e11 p2 _ i5
  have e12 := e10.trans e11
  have f5 := e10.free hp5
  have np : p ≠ p5 := ne_new h5 hp5
  have np2 : p2 ≠ p5 := ne_new i5 hp5
  clear e10 e11 h5 i5
  unfold ir_law_right_2
  simp only [wSs, wS, wE, wEs, wEo, wTo, wT, wI, wSeq, wNext, wIfS, wTest, wTru, wOp, wAnd, wOr, wNot, wAndV, wOrV, wNotV, wRet, wSet, wAsg, wDrop, wCall, wMt, wSl, wLst, wTup, wNil, wCons, wFor, wSeqI, wRng1, wRng2, wComp, wSetC, wPutIx, wFld, wSetF, wMeth, getS, boolD, truD, intD, optD, bindT, setM, dBin, dCmp, dIB, dI, dI0, dMul, dAdd, dBi, dLen, dIsinst, dII, dDivmod, dTuple, dList, dMt, mtRc, recvD, dIx, dSl, dPut, dEqV, dNeV, dIsV, dIsNotV, dInV, dNotInV, dInP, dEq, isNon, seqD, fldD, setFD, methD, lstD, dBj, dSum, wLrg, rngD, wIsi, isiD, dPop, dClear, Bif_true, Bif_false, List.getElem?_cons_zero, List.getElem?_cons_succ, List.set, g7, i7, at0, at1, at2, tyD, rdL]
  refine ⟨by decide, ?_⟩
  show Bif false _ _
  refine ⟨⟨pure_leans t, pure_leans t, dep_leans t⟩, ?_⟩
  rw [eqDs_refl _ (pure_leans t)]
  show wSs cn ir_law_right_1 (fin Q) _ M7
  unfold ir_law_right_1
  simp only [wSs, wS, wE, wEs, wEo, wTo, wT, wI, wSeq, wNext, wIfS, wTest, wTru, wOp, wAnd, wOr, wNot, wAndV, wOrV, wNotV, wRet, wSet, wAsg, wDrop, wCall, wMt, wSl, wLst, wTup, wNil, wCons, wFor, wSeqI, wRng1, wRng2, wComp, wSetC, wPutIx, wFld, wSetF, wMeth, getS, boolD, truD, intD, optD, bindT, setM, dBin, dCmp, dIB, dI, dI0, dMul, dAdd, dBi, dLen, dIsinst, dII, dDivmod, dTuple, dList, dMt, mtRc, recvD, dIx, dSl, dPut, dEqV, dNeV, dIsV, dIsNotV, dInV, dNotInV, dInP, dEq, isNon, seqD, fldD, setFD, methD, lstD, dBj, dSum, wLrg, rngD, wIsi, isiD, dPop, dClear, Bif_true, Bif_false, List.getElem?_cons_zero, List.getElem?_cons_succ, List.set, g7]
  refine ⟨rfl, ?_⟩
  have e13 := e12.put (o := MO.lst []) f5
  have h8 : updM M7 p5 (MO.lst []) p = some (.ins (c.at t.kind) t.flds) := by rw [updM_ne np]; exact h7
  have i8 : updM M7 p5 (MO.lst []) p2 = some (.lst t.leans) := by rw [updM_ne np2]; exact i7
  generalize updM M7 p5 (MO.lst []) = M8 at *
  show wSs cn ir_law_right_0 (fin Q) _ M8
  unfold ir_law_right_0
  simp only [wSs, wS, wE, wEs, wEo, wTo, wT, wI, wSeq, wNext, wIfS, wTest, wTru, wOp, wAnd, wOr, wNot, wAndV, wOrV, wNotV, wRet, wSet, wAsg, wDrop, wCall, wMt, wSl, wLst, wTup, wNil, wCons, wFor, wSeqI, wRng1, wRng2, wComp, wSetC, wPutIx, wFld, wSetF, wMeth, getS, boolD, truD, intD, optD, bindT, setM, dBin, dCmp, dIB, dI, dI0, dMul, dAdd, dBi, dLen, dIsinst, dII, dDivmod, dTuple, dList, dMt, mtRc, recvD, dIx, dSl, dPut, dEqV, dNeV, dIsV, dIsNotV, dInV, dNotInV, dInP, dEq, isNon, seqD, fldD, setFD, methD, lstD, dBj, dSum, wLrg, rngD, wIsi, isiD, dPop, dClear, Bif_true, Bif_false, List.getElem?_cons_zero, List.getElem?_cons_succ, List.set, h8, hT, met_leaning ha, no_leaning]
  refine ⟨trivial, p, t, rfl, ho, rfl, h8, fun p6 M9 hp6 e14 g9 => ?_⟩
  simp only [at2, g9, e14 p2 _ i8, rdL]
  refine ⟨⟨pure_leans t, pure_leans t, dep_leans t⟩, ?_⟩
  rw [eqDs_refl _ (pure_leans t)]
  simp only [Bif_true, e14 p _ h8, met_shown ha, no_shown]
  refine ⟨trivial, p, t, rfl, rfl, e14 p _ h8, ?_⟩
  rw [htl]
  refine ⟨⟨pt, pt, dt⟩, ?_⟩
  rw [eqD_refl _ pt]
  exact q M9 (e13.trans e14)
theorem rd_law (hF : cn.F = [spRight, spSet, spDrawn, spBox]) (h : spLaw ds M Q) : wSs cn ir_law (fin Q) (startD ["", "", "", "", ""] ds) M := by
  obtain ⟨a, ns, rfl, hM, hl, q⟩ := h
  show wSs cn ir_law (fin Q) [some (.ref a), none, none, none, none] M
  unfold ir_law
  simp only [wSs, wS, wE, wEs, wEo, wTo, wT, wI, wSeq, wNext, wIfS, wTest, wTru, wOp, wAnd, wOr, wNot, wAndV, wOrV, wNotV, wRet, wSet, wAsg, wDrop, wCall, wMt, wSl, wLst, wTup, wNil, wCons, wFor, wSeqI, wRng1, wRng2, wComp, wSetC, wPutIx, wFld, wSetF, wMeth, getS, boolD, truD, intD, optD, bindT, setM, dBin, dCmp, dIB, dI, dI0, dMul, dAdd, dBi, dLen, dIsinst, dII, dDivmod, dTuple, dList, dMt, mtRc, recvD, dIx, dSl, dPut, dEqV, dNeV, dIsV, dIsNotV, dInV, dNotInV, dInP, dEq, isNon, seqD, fldD, setFD, methD, lstD, dBj, dSum, wLrg, rngD, wIsi, isiD, dPop, dClear, Bif_true, Bif_false, List.getElem?_cons_zero, List.getElem?_cons_succ, List.set, hM, List.length_map]
  refine ⟨?_, ?_⟩
  · refine ⟨by decide, by decide, ?_, ?_⟩ <;> (repeat' split) <;> omega
  generalize (if (if (60 : Int) < (ns.length : Int) then (60 : Int) else (ns.length : Int)) > 2 then (if (60 : Int) < (ns.length : Int) then (60 : Int) else (ns.length : Int)) else 2) = z
  refine loop_inv (P := fun σ M' => ∃ v1 v2 v3 v4, σ = [some (.ref a), v1, v2, v3, v4] ∧ M' a = some (.rol (ns.map .int))) _ _ ⟨none, none, none, none, rfl, hM⟩ ?_ ?_
  · rintro x hx σ M1 N ⟨v1, v2, v3, v4, rfl, g1⟩ k
    unfold rangeD at hx
    obtain ⟨i, _, rfl⟩ := List.mem_map.1 hx
    have ei : (1 : Int) + (i : Int) = ((1 + i : Nat) : Int) := by omega
    unfold ir_law_4
    simp only [wSs, wS, wE, wEs, wEo, wTo, wT, wI, wSeq, wNext, wIfS, wTest, wTru, wOp, wAnd, wOr, wNot, wAndV, wOrV, wNotV, wRet, wSet, wAsg, wDrop, wCall, wMt, wSl, wLst, wTup, wNil, wCons, wFor, wSeqI, wRng1, wRng2, wComp, wSetC, wPutIx, wFld, wSetF, wMeth, getS, boolD, truD, intD, optD, bindT, setM, dBin, dCmp, dIB, dI, dI0, dMul, dAdd, dBi, dLen, dIsinst, dII, dDivmod, dTuple, dList, dMt, mtRc, recvD, dIx, dSl, dPut, dEqV, dNeV, dIsV, dIsNotV, dInV, dNotInV, dInP, dEq, isNon, seqD, fldD, setFD, methD, lstD, dBj, dSum, wLrg, rngD, wIsi, isiD, dPop, dClear, Bif_true, Bif_false, List.getElem?_cons_zero, List.getElem?_cons_succ, List.set, hF, List.getD_cons_zero, List.getD_cons_succ, ei]
    refine ⟨a, ns, 1 + i, rfl, g1, fun b hb => ?_⟩
    have hab : a ≠ b := ne_new g1 hb
    have g2 := Ext.new (o := MO.lst [D.int (boxZ ns (1 + i))]) hb a _ g1
    have h2 : updM M1 b (MO.lst [D.int (boxZ ns (1 + i))]) b = some (.lst [D.int (boxZ ns (1 + i))]) := updM_same
    generalize updM M1 b (MO.lst [D.int (boxZ ns (1 + i))]) = M2 at *
    unfold ir_law_3
    simp only [wSs, wS, wE, wEs, wEo, wTo, wT, wI, wSeq, wNext, wIfS, wTest, wTru, wOp, wAnd, wOr, wNot, wAndV, wOrV, wNotV, wRet, wSet, wAsg, wDrop, wCall, wMt, wSl, wLst, wTup, wNil, wCons, wFor, wSeqI, wRng1, wRng2, wComp, wSetC, wPutIx, wFld, wSetF, wMeth, getS, boolD, truD, intD, optD, bindT, setM, dBin, dCmp, dIB, dI, dI0, dMul, dAdd, dBi, dLen, dIsinst, dII, dDivmod, dTuple, dList, dMt, mtRc, recvD, dIx, dSl, dPut, dEqV, dNeV, dIsV, dIsNotV, dInV, dNotInV, dInP, dEq, isNon, seqD, fldD, setFD, methD, lstD, dBj, dSum, wLrg, rngD, wIsi, isiD, dPop, dClear, Bif_true, Bif_false, List.getElem?_cons_zero, List.getElem?_cons_succ, List.set, hF, List.getD_cons_zero, List.getD_cons_succ]
    refine ⟨b, _, rfl, h2, fun t M3 y3 ho B3 => ?_⟩
    have g3 := B3.but a _ hab g2
    unfold ir_law_2
    simp only [wSs, wS, wE, wEs, wEo, wTo, wT, wI, wSeq, wNext, wIfS, wTest, wTru, wOp, wAnd, wOr, wNot, wAndV, wOrV, wNotV, wRet, wSet, wAsg, wDrop, wCall, wMt, wSl, wLst, wTup, wNil, wCons, wFor, wSeqI, wRng1, wRng2, wComp, wSetC, wPutIx, wFld, wSetF, wMeth, getS, boolD, truD, intD, optD, bindT, setM, dBin, dCmp, dIB, dI, dI0, dMul, dAdd, dBi, dLen, dIsinst, dII, dDivmod, dTuple, dList, dMt, mtRc, recvD, dIx, dSl, dPut, dEqV, dNeV, dIsV, dIsNotV, dInV, dNotInV, dInP, dEq, isNon, seqD, fldD, setFD, methD, lstD, dBj, dSum, wLrg, rngD, wIsi, isiD, dPop, dClear, Bif_true, Bif_false, List.getElem?_cons_zero, List.getElem?_cons_succ, List.set, hF, List.getD_cons_zero, List.getD_cons_succ]
    refine ⟨b, _, t, rfl, ho, B3.at_, fun v M4 y4 B4 => ?_⟩
    have g4 := B4.but a _ hab g3
    unfold ir_law_1
    simp only [wSs, wS, wE, wEs, wEo, wTo, wT, wI, wSeq, wNext, wIfS, wTest, wTru, wOp, wAnd, wOr, wNot, wAndV, wOrV, wNotV, wRet, wSet, wAsg, wDrop, wCall, wMt, wSl, wLst, wTup, wNil, wCons, wFor, wSeqI, wRng1, wRng2, wComp, wSetC, wPutIx, wFld, wSetF, wMeth, getS, boolD, truD, intD, optD, bindT, setM, dBin, dCmp, dIB, dI, dI0, dMul, dAdd, dBi, dLen, dIsinst, dII, dDivmod, dTuple, dList, dMt, mtRc, recvD, dIx, dSl, dPut, dEqV, dNeV, dIsV, dIsNotV, dInV, dNotInV, dInP, dEq, isNon, seqD, fldD, setFD, methD, lstD, dBj, dSum, wLrg, rngD, wIsi, isiD, dPop, dClear, Bif_true, Bif_false, List.getElem?_cons_zero, List.getElem?_cons_succ, List.set, hF, List.getD_cons_zero, List.getD_cons_succ]
    refine ⟨b, _, t, rfl, ho, B4.at_, fun v5 M5 y5 B5 => ?_⟩
    have g5 := B5.but a _ hab g4
    refine ⟨t, v, _, rfl, ho, fun M6 e6 => ?_⟩
    simp only [Bool.not_true, Bif_false]
    refine ⟨b, _, t, rfl, ho, e6 b _ B5.at_, fun v7 M7 y7 B7 => ?_⟩
    have g7 := B7.but a _ hab (e6 a _ g5)
    refine ⟨t, v, _, rfl, ho, fun M8 e8 => ?_⟩
    simp only [Bool.not_true, Bif_false]
    exact ⟨trivial, k _ _ ⟨_, _, _, _, rfl, e8 a _ g7⟩⟩
  · rintro σ M1 ⟨v1, v2, v3, v4, rfl, g1⟩
    unfold ir_law_0
    simp only [wSs, wS, wE, wEs, wEo, wTo, wT, wI, wSeq, wNext, wIfS, wTest, wTru, wOp, wAnd, wOr, wNot, wAndV, wOrV, wNotV, wRet, wSet, wAsg, wDrop, wCall, wMt, wSl, wLst, wTup, wNil, wCons, wFor, wSeqI, wRng1, wRng2, wComp, wSetC, wPutIx, wFld, wSetF, wMeth, getS, boolD, truD, intD, optD, bindT, setM, dBin, dCmp, dIB, dI, dI0, dMul, dAdd, dBi, dLen, dIsinst, dII, dDivmod, dTuple, dList, dMt, mtRc, recvD, dIx, dSl, dPut, dEqV, dNeV, dIsV, dIsNotV, dInV, dNotInV, dInP, dEq, isNon, seqD, fldD, setFD, methD, lstD, dBj, dSum, wLrg, rngD, wIsi, isiD, dPop, dClear, Bif_true, Bif_false, List.getElem?_cons_zero, List.getElem?_cons_succ, List.set]
    exact q M1
end
end SH

set_option Elab.async false
set_option maxRecDepth 100000
set_option maxHeartbeats 4000000
namespace K11
open PySem L2 DD
def top (i : Nat) : Stmt := PySem.Challenge.pw_notring_k11_conds_by_two_sets.main.body.getD i (.Pass ⟨0, 0, 0, 0⟩)
abbrev bltL : List Str := ["bool", "divmod", "isinstance", "len", "list", "max", "min", "range", "sum", "tuple"]
abbrev globN : List Str := ["Cond"]
abbrev globD (cCond : Addr) : List D := [.ref cCond]
/-! has_fact: calls none -/
abbrev s_has_fact : Stmt := top 1
abbrev N_has_fact : List Str := ["facts", "fact"]
abbrev ps_has_fact : List Str := ["facts", "fact"]
def ir_has_fact : Ss := .cons (.ret (.cmp .Eq (.bin .BitAnd (.bin .RShift (.var 0) (.var 1)) (.int 1)) (.int 1))) .nil
theorem sc_has_fact : FnScope N_has_fact ps_has_fact (defScope s_has_fact) := ⟨rfl, rfl, rfl, by decide +kernel, rfl, by decide +kernel, by decide +kernel⟩
abbrev fn_has_fact : List Str := []
theorem ck_has_fact : chkSs ⟨N_has_fact, defScope s_has_fact, true, globN, bltL, fn_has_fact⟩ ir_has_fact (defBody s_has_fact) = true := by decide +kernel
/-! count_in: calls has_fact -/
abbrev s_count_in : Stmt := top 8
abbrev N_count_in : List Str := ["facts", "found"]
abbrev ps_count_in : List Str := ["facts", "found"]
def ir_count_in : Ss := .cons (.ret (.bi .len (.cons (.comp 1 (.var 2) (.nm 2) (.seq (.var 0)) (.yes (.val (.fn 0 (.cons (.var 1) (.cons (.var 2) .nil)))))) .nil))) .nil
theorem sc_count_in : FnScope N_count_in ps_count_in (defScope s_count_in) := ⟨rfl, rfl, rfl, by decide +kernel, rfl, by decide +kernel, by decide +kernel⟩
abbrev fn_count_in : List Str := ["has_fact"]
theorem ck_count_in : chkSs ⟨N_count_in, defScope s_count_in, true, globN, bltL, fn_count_in⟩ ir_count_in (defBody s_count_in) = true := by decide +kernel
/-! _law_cell: calls none -/
abbrev s_law_cell : Stmt := top 10
abbrev N_law_cell : List Str := ["_law_script", "_law_k"]
abbrev ps_law_cell : List Str := ["_law_script", "_law_k"]
def ir_law_cell_0 : Ss := .cons (.ret (.bin .Add (.bin .Mult (.int 7919) (.var 1)) (.int 13))) .nil
def ir_law_cell : Ss := .cons (.ite (.cmp .Lt (.var 1) (.bi .len (.cons (.var 0) .nil))) (.cons (.ret (.ix (.var 0) (.var 1))) .nil) .nil) ir_law_cell_0
theorem sc_law_cell : FnScope N_law_cell ps_law_cell (defScope s_law_cell) := ⟨rfl, rfl, rfl, by decide +kernel, rfl, by decide +kernel, by decide +kernel⟩
abbrev fn_law_cell : List Str := []
theorem ck_law_cell : chkSs ⟨N_law_cell, defScope s_law_cell, true, globN, bltL, fn_law_cell⟩ ir_law_cell (defBody s_law_cell) = true := by decide +kernel
/-! _law_mix: calls none -/
abbrev s_law_mix : Stmt := top 11
abbrev N_law_mix : List Str := ["_law_cell_here", "_law_k", "_law_number"]
abbrev ps_law_mix : List Str := ["_law_cell_here", "_law_k"]
def ir_law_mix_0 : Ss := .cons (.ret (.bin .Mod (.bin .Mult (.var 2) (.bin .Add (.var 2) (.int 13))) (.int 2147483647))) .nil
def ir_law_mix_1 : Ss := .cons (.set 2 (.bin .Mod (.bin .Mult (.var 2) (.var 2)) (.int 2147483629))) ir_law_mix_0
def ir_law_mix : Ss := .cons (.set 2 (.bin .Mod (.bin .Add (.bin .Add (.bin .Mult (.bin .Mod (.var 0) (.int 2147483647)) (.int 48271)) (.bin .Mult (.int 7919) (.var 1))) (.int 1)) (.int 2147483647))) ir_law_mix_1
theorem sc_law_mix : FnScope N_law_mix ps_law_mix (defScope s_law_mix) := ⟨rfl, rfl, rfl, by decide +kernel, rfl, by decide +kernel, by decide +kernel⟩
abbrev fn_law_mix : List Str := []
theorem ck_law_mix : chkSs ⟨N_law_mix, defScope s_law_mix, true, globN, bltL, fn_law_mix⟩ ir_law_mix (defBody s_law_mix) = true := by decide +kernel
/-! _law_box: calls _law_mix, _law_cell -/
abbrev s_law_box : Stmt := top 12
abbrev N_law_box : List Str := ["_law_script", "_law_k", "_law_cell_here", "_law_number", "_law_j"]
abbrev ps_law_box : List Str := ["_law_script", "_law_k"]
def ir_law_box_0 : Ss := .cons (.ret (.lst (.cons (.var 3) .nil))) .nil
def ir_law_box_1 : Ss := .cons (.set 3 (.bin .Add (.bin .Mult (.var 3) (.int 2147483647)) (.fn 0 (.cons (.var 2) (.cons (.var 4) .nil))))) .nil
def ir_law_box_2 : Ss := .cons (.for (.nm 4) (.rg1 (.cons (.int 6) .nil)) ir_law_box_1) ir_law_box_0
def ir_law_box_3 : Ss := .cons (.set 3 (.int 0)) ir_law_box_2
def ir_law_box_4 : Ss := .cons (.ite (.cmp .Eq (.bin .Mod (.fn 1 (.cons (.var 0) (.cons (.int 0) .nil))) (.int 2)) (.int 0)) (.cons (.ret (.lst (.cons (.var 2) .nil))) .nil) .nil) ir_law_box_3
def ir_law_box : Ss := .cons (.set 2 (.fn 1 (.cons (.var 0) (.cons (.var 1) .nil)))) ir_law_box_4
theorem sc_law_box : FnScope N_law_box ps_law_box (defScope s_law_box) := ⟨rfl, rfl, rfl, by decide +kernel, rfl, by decide +kernel, by decide +kernel⟩
abbrev fn_law_box : List Str := ["_law_mix", "_law_cell"]
theorem ck_law_box : chkSs ⟨N_law_box, defScope s_law_box, true, globN, bltL, fn_law_box⟩ ir_law_box (defBody s_law_box) = true := by decide +kernel
/-! _law_take: calls none -/
abbrev s_law_take : Stmt := top 13
abbrev N_law_take : List Str := ["_law_box_here", "_law_many", "_law_number", "_law_digit"]
abbrev ps_law_take : List Str := ["_law_box_here", "_law_many"]
def ir_law_take_0 : Ss := .cons (.ret (.var 3)) .nil
def ir_law_take_1 : Ss := .cons (.putIx (.var 0) (.int 0) (.var 2)) ir_law_take_0
def ir_law_take : Ss := .cons (.asg (.tp [2, 3]) (.bi .divmod (.cons (.ix (.var 0) (.int 0)) (.cons (.var 1) .nil)))) ir_law_take_1
theorem sc_law_take : FnScope N_law_take ps_law_take (defScope s_law_take) := ⟨rfl, rfl, rfl, by decide +kernel, rfl, by decide +kernel, by decide +kernel⟩
abbrev fn_law_take : List Str := []
theorem ck_law_take : chkSs ⟨N_law_take, defScope s_law_take, true, globN, bltL, fn_law_take⟩ ir_law_take (defBody s_law_take) = true := by decide +kernel
/-! _law_listed: calls _law_take -/
abbrev s_law_listed : Stmt := top 14
abbrev N_law_listed : List Str := ["_law_box_here", "_law_left"]
abbrev ps_law_listed : List Str := ["_law_box_here"]
def ir_law_listed_0 : Ss := .cons (.ret (.bi .tuple (.cons (.comp 1 (.mt .pop (.var 1) (.cons (.fn 0 (.cons (.var 0) (.cons (.bi .len (.cons (.var 1) .nil)) .nil))) .nil)) (.nm 2) (.rg1 (.cons (.bin .Add (.int 1) (.fn 0 (.cons (.var 0) (.cons (.int 6) .nil)))) .nil)) .no) .nil))) .nil
def ir_law_listed : Ss := .cons (.set 1 (.lrg (.cons (.int 120) .nil))) ir_law_listed_0
theorem sc_law_listed : FnScope N_law_listed ps_law_listed (defScope s_law_listed) := ⟨rfl, rfl, rfl, by decide +kernel, rfl, by decide +kernel, by decide +kernel⟩
abbrev fn_law_listed : List Str := ["_law_take"]
theorem ck_law_listed : chkSs ⟨N_law_listed, defScope s_law_listed, true, globN, bltL, fn_law_listed⟩ ir_law_listed (defBody s_law_listed) = true := by decide +kernel
/-! _law_drawn: calls _law_take, _law_listed -/
abbrev s_law_drawn : Stmt := top 15
abbrev N_law_drawn : List Str := ["_law_box_here", "_law_way", "_law_facts_here"]
abbrev ps_law_drawn : List Str := ["_law_box_here"]
def ir_law_drawn_0 : Ss := .cons (.ret (.tup (.cons (.str "lead") (.cons (.var 2) (.cons (.fn 0 (.cons (.var 0) (.cons (.bi .len (.cons (.var 2) .nil)) .nil))) .nil))))) .nil
def ir_law_drawn_1 : Ss := .cons (.ite (.cmp .Eq (.var 1) (.int 2)) (.cons (.ret (.tup (.cons (.str "some") (.cons (.bin .Add (.int 1) (.fn 0 (.cons (.var 0) (.cons (.int 6) .nil)))) (.cons (.var 2) .nil))))) .nil) .nil) ir_law_drawn_0
def ir_law_drawn_2 : Ss := .cons (.set 2 (.fn 1 (.cons (.var 0) .nil))) ir_law_drawn_1
def ir_law_drawn_3 : Ss := .cons (.ite (.cmp .Eq (.var 1) (.int 1)) (.cons (.ret (.tup (.cons (.str "lack") (.cons (.fn 0 (.cons (.var 0) (.cons (.int 120) .nil))) .nil)))) .nil) .nil) ir_law_drawn_2
def ir_law_drawn_4 : Ss := .cons (.ite (.cmp .Eq (.var 1) (.int 0)) (.cons (.ret (.tup (.cons (.str "have") (.cons (.fn 0 (.cons (.var 0) (.cons (.int 120) .nil))) .nil)))) .nil) .nil) ir_law_drawn_3
def ir_law_drawn : Ss := .cons (.set 1 (.fn 0 (.cons (.var 0) (.cons (.int 4) .nil)))) ir_law_drawn_4
theorem sc_law_drawn : FnScope N_law_drawn ps_law_drawn (defScope s_law_drawn) := ⟨rfl, rfl, rfl, by decide +kernel, rfl, by decide +kernel, by decide +kernel⟩
abbrev fn_law_drawn : List Str := ["_law_take", "_law_listed"]
theorem ck_law_drawn : chkSs ⟨N_law_drawn, defScope s_law_drawn, true, globN, bltL, fn_law_drawn⟩ ir_law_drawn (defBody s_law_drawn) = true := by decide +kernel
/-! _law_made: calls Lead, Some, Lack, Have -/
abbrev s_law_made : Stmt := top 16
abbrev N_law_made : List Str := ["_law_told"]
abbrev ps_law_made : List Str := ["_law_told"]
def ir_law_made_0 : Ss := .cons (.ret (.fn 0 (.cons (.ix (.var 0) (.int 1)) (.cons (.ix (.var 0) (.int 2)) .nil)))) .nil
def ir_law_made_1 : Ss := .cons (.ite (.cmp .Eq (.ix (.var 0) (.int 0)) (.str "some")) (.cons (.ret (.fn 1 (.cons (.ix (.var 0) (.int 1)) (.cons (.ix (.var 0) (.int 2)) .nil)))) .nil) .nil) ir_law_made_0
def ir_law_made_2 : Ss := .cons (.ite (.cmp .Eq (.ix (.var 0) (.int 0)) (.str "lack")) (.cons (.ret (.fn 2 (.cons (.ix (.var 0) (.int 1)) .nil))) .nil) .nil) ir_law_made_1
def ir_law_made : Ss := .cons (.ite (.cmp .Eq (.ix (.var 0) (.int 0)) (.str "have")) (.cons (.ret (.fn 3 (.cons (.ix (.var 0) (.int 1)) .nil))) .nil) .nil) ir_law_made_2
theorem sc_law_made : FnScope N_law_made ps_law_made (defScope s_law_made) := ⟨rfl, rfl, rfl, by decide +kernel, rfl, by decide +kernel, by decide +kernel⟩
abbrev fn_law_made : List Str := ["Lead", "Some", "Lack", "Have"]
theorem ck_law_made : chkSs ⟨N_law_made, defScope s_law_made, true, globN, bltL, fn_law_made⟩ ir_law_made (defBody s_law_made) = true := by decide +kernel
/-! _law_facts: calls none -/
abbrev s_law_facts : Stmt := top 17
abbrev N_law_facts : List Str := ["_law_told"]
abbrev ps_law_facts : List Str := ["_law_told"]
def ir_law_facts_0 : Ss := .cons (.ret (.lst (.cons (.ix (.var 0) (.int 1)) .nil))) .nil
def ir_law_facts_1 : Ss := .cons (.ite (.cmp .Eq (.ix (.var 0) (.int 0)) (.str "lead")) (.cons (.ret (.bi .list (.cons (.ix (.var 0) (.int 1)) .nil))) .nil) .nil) ir_law_facts_0
def ir_law_facts : Ss := .cons (.ite (.cmp .Eq (.ix (.var 0) (.int 0)) (.str "some")) (.cons (.ret (.bi .list (.cons (.ix (.var 0) (.int 2)) .nil))) .nil) .nil) ir_law_facts_1
theorem sc_law_facts : FnScope N_law_facts ps_law_facts (defScope s_law_facts) := ⟨rfl, rfl, rfl, by decide +kernel, rfl, by decide +kernel, by decide +kernel⟩
abbrev fn_law_facts : List Str := []
theorem ck_law_facts : chkSs ⟨N_law_facts, defScope s_law_facts, true, globN, bltL, fn_law_facts⟩ ir_law_facts (defBody s_law_facts) = true := by decide +kernel
/-! _law_set: calls _law_take, _law_facts -/
abbrev s_law_set : Stmt := top 18
abbrev N_law_set : List Str := ["_law_box_here", "_law_told", "_law_found", "_law_fact"]
abbrev ps_law_set : List Str := ["_law_box_here", "_law_told"]
def ir_law_set_0 : Ss := .cons (.ret (.var 2)) .nil
def ir_law_set_1 : Ss := .cons (.ite (.cmp .Eq (.fn 0 (.cons (.var 0) (.cons (.int 2) .nil))) (.int 0)) (.cons (.set 2 (.bin .BitOr (.var 2) (.fn 0 (.cons (.var 0) (.cons (.bin .Pow (.int 2) (.int 60)) .nil))))) .nil) .nil) ir_law_set_0
def ir_law_set_2 : Ss := .cons (.set 2 (.bin .Add (.var 2) (.bin .LShift (.fn 0 (.cons (.var 0) (.cons (.int 2) .nil))) (.var 3)))) .nil
def ir_law_set_3 : Ss := .cons (.for (.nm 3) (.seq (.fn 1 (.cons (.var 1) .nil))) ir_law_set_2) ir_law_set_1
def ir_law_set : Ss := .cons (.set 2 (.int 0)) ir_law_set_3
theorem sc_law_set : FnScope N_law_set ps_law_set (defScope s_law_set) := ⟨rfl, rfl, rfl, by decide +kernel, rfl, by decide +kernel, by decide +kernel⟩
abbrev fn_law_set : List Str := ["_law_take", "_law_facts"]
theorem ck_law_set : chkSs ⟨N_law_set, defScope s_law_set, true, globN, bltL, fn_law_set⟩ ir_law_set (defBody s_law_set) = true := by decide +kernel
/-! _law_due: calls _law_facts -/
abbrev s_law_due : Stmt := top 19
abbrev N_law_due : List Str := ["_law_told", "_law_have", "_law_may", "_law_facts_here", "_law_there", "_law_open_ones", "_law_at", "_law_leans", "_law_carried"]
abbrev ps_law_due : List Str := ["_law_told", "_law_have", "_law_may"]
def ir_law_due_0 : Ss := .cons (.ret (.tup (.cons (.var 8) (.cons (.or (.cmp .Eq (.ix (.var 5) (.var 6)) (.int 0)) (.cmp .In (.int 1) (.sl (.var 4) .no (.yes (.var 6))))) (.cons (.var 7) .nil))))) .nil
def ir_law_due_1 : Ss := .cons (.set 8 (.and (.cmp .Eq (.ix (.var 4) (.var 6)) (.int 1)) (.cmp .NotIn (.int 1) (.sl (.var 5) .no (.yes (.var 6)))))) ir_law_due_0
def ir_law_due_2 : Ss := .cons (.set 7 (.bin .Add (.comp 1 (.tup (.cons (.var 9) (.cons (.bl true) .nil))) (.nm 9) (.seq (.sl (.var 3) .no (.yes (.var 6)))) .no) (.lst (.cons (.tup (.cons (.ix (.var 3) (.var 6)) (.cons (.bl false) .nil))) .nil)))) ir_law_due_1
def ir_law_due_3 : Ss := .cons (.set 6 (.ix (.var 0) (.int 2))) ir_law_due_2
def ir_law_due_4 : Ss := .cons (.ite (.cmp .Eq (.ix (.var 0) (.int 0)) (.str "some")) (.cons (.ret (.tup (.cons (.cmp .GtE (.bj .sum (.cons (.var 4) .nil)) (.ix (.var 0) (.int 1))) (.cons (.cmp .Lt (.bj .sum (.cons (.var 5) .nil)) (.ix (.var 0) (.int 1))) (.cons (.comp 1 (.tup (.cons (.var 9) (.cons (.bl false) .nil))) (.nm 9) (.seq (.var 3)) .no) .nil))))) .nil) .nil) ir_law_due_3
def ir_law_due_5 : Ss := .cons (.ite (.cmp .Eq (.ix (.var 0) (.int 0)) (.str "lack")) (.cons (.ret (.tup (.cons (.cmp .Eq (.var 5) (.lst (.cons (.int 0) .nil))) (.cons (.cmp .Eq (.var 4) (.lst (.cons (.int 1) .nil))) (.cons (.lst (.cons (.tup (.cons (.ix (.var 3) (.int 0)) (.cons (.bl true) .nil))) .nil)) .nil))))) .nil) .nil) ir_law_due_4
def ir_law_due_6 : Ss := .cons (.ite (.cmp .Eq (.ix (.var 0) (.int 0)) (.str "have")) (.cons (.ret (.tup (.cons (.cmp .Eq (.var 4) (.lst (.cons (.int 1) .nil))) (.cons (.cmp .Eq (.var 5) (.lst (.cons (.int 0) .nil))) (.cons (.lst (.cons (.tup (.cons (.ix (.var 3) (.int 0)) (.cons (.bl false) .nil))) .nil)) .nil))))) .nil) .nil) ir_law_due_5
def ir_law_due_7 : Ss := .cons (.setC 5 1 (.bin .BitAnd (.bin .RShift (.var 2) (.var 9)) (.int 1)) (.nm 9) (.seq (.var 3)) .no) ir_law_due_6
def ir_law_due_8 : Ss := .cons (.setC 4 1 (.bin .BitAnd (.bin .RShift (.var 1) (.var 9)) (.int 1)) (.nm 9) (.seq (.var 3)) .no) ir_law_due_7
def ir_law_due : Ss := .cons (.set 3 (.fn 0 (.cons (.var 0) .nil))) ir_law_due_8
theorem sc_law_due : FnScope N_law_due ps_law_due (defScope s_law_due) := ⟨rfl, rfl, rfl, by decide +kernel, rfl, by decide +kernel, by decide +kernel⟩
abbrev fn_law_due : List Str := ["_law_facts"]
theorem ck_law_due : chkSs ⟨N_law_due, defScope s_law_due, true, globN, bltL, fn_law_due⟩ ir_law_due (defBody s_law_due) = true := by decide +kernel
/-! _law_fields: calls none -/
abbrev s_law_fields : Stmt := top 20
abbrev N_law_fields : List Str := ["_law_one", "_law_told"]
abbrev ps_law_fields : List Str := ["_law_one", "_law_told"]
def ir_law_fields_0 : Ss := .cons (.ret (.cmp .Eq (.fld (.var 0) "fact") (.ix (.var 1) (.int 1)))) .nil
def ir_law_fields_1 : Ss := .cons (.ite (.cmp .Eq (.ix (.var 1) (.int 0)) (.str "lead")) (.cons (.ret (.and (.cmp .Eq (.fld (.var 0) "facts") (.ix (.var 1) (.int 1))) (.cmp .Eq (.fld (.var 0) "at") (.ix (.var 1) (.int 2))))) .nil) .nil) ir_law_fields_0
def ir_law_fields : Ss := .cons (.ite (.cmp .Eq (.ix (.var 1) (.int 0)) (.str "some")) (.cons (.ret (.and (.cmp .Eq (.fld (.var 0) "number") (.ix (.var 1) (.int 1))) (.cmp .Eq (.fld (.var 0) "facts") (.ix (.var 1) (.int 2))))) .nil) .nil) ir_law_fields_1
theorem sc_law_fields : FnScope N_law_fields ps_law_fields (defScope s_law_fields) := ⟨rfl, rfl, rfl, by decide +kernel, rfl, by decide +kernel, by decide +kernel⟩
abbrev fn_law_fields : List Str := []
theorem ck_law_fields : chkSs ⟨N_law_fields, defScope s_law_fields, true, globN, bltL, fn_law_fields⟩ ir_law_fields (defBody s_law_fields) = true := by decide +kernel
/-! _law_right: calls _law_fields, _law_due, _law_made -/
abbrev s_law_right : Stmt := top 21
abbrev N_law_right : List Str := ["_law_told", "_law_have", "_law_may", "_law_one", "_law_due_here", "_law_found", "_law_leans"]
abbrev ps_law_right : List Str := ["_law_told", "_law_have", "_law_may"]
def ir_law_right_0 : Ss := .cons (.ret (.and (.cmp .Eq (.mu0 "leaning" (.var 3)) (.ix (.var 4) (.int 2))) (.cmp .Eq (.mu0 "shown" (.var 3)) (.var 0)))) .nil
def ir_law_right_1 : Ss := .cons (.expr (.mt0 .clear (.var 6))) ir_law_right_0
def ir_law_right_2 : Ss := .cons (.ite (.or (.not (.val (.bi .isinst (.cons (.var 6) (.cons (.ty "list") .nil))))) (.cmp .NotEq (.var 6) (.ix (.var 4) (.int 2)))) (.cons (.ret (.bl false)) .nil) .nil) ir_law_right_1
def ir_law_right_3 : Ss := .cons (.set 6 (.mu0 "leaning" (.var 3))) ir_law_right_2
def ir_law_right_4 : Ss := .cons (.ite (.or (.not (.val (.bi .isinst (.cons (.ix (.var 5) (.int 0)) (.cons (.ty "bool") .nil))))) (.or (.not (.val (.bi .isinst (.cons (.ix (.var 5) (.int 1)) (.cons (.ty "bool") .nil))))) (.cmp .NotEq (.var 5) (.lst (.cons (.ix (.var 4) (.int 0)) (.cons (.ix (.var 4) (.int 1)) .nil)))))) (.cons (.ret (.bl false)) .nil) .nil) ir_law_right_3
def ir_law_right_5 : Ss := .cons (.set 5 (.lst (.cons (.mu "carried" (.var 3) (.cons (.var 1) (.cons (.var 2) .nil))) (.cons (.mu "blocked" (.var 3) (.cons (.var 1) (.cons (.var 2) .nil))) .nil)))) ir_law_right_4
def ir_law_right_6 : Ss := .cons (.ite (.or (.not (.val (.isi (.cons (.var 3) (.cons (.glob 0) .nil))))) (.or (.cmp .NotEq (.mu0 "shown" (.var 3)) (.var 0)) (.not (.val (.fn 0 (.cons (.var 3) (.cons (.var 0) .nil))))))) (.cons (.ret (.bl false)) .nil) .nil) ir_law_right_5
def ir_law_right_7 : Ss := .cons (.set 4 (.fn 1 (.cons (.var 0) (.cons (.var 1) (.cons (.var 2) .nil))))) ir_law_right_6
def ir_law_right : Ss := .cons (.set 3 (.fn 2 (.cons (.var 0) .nil))) ir_law_right_7
theorem sc_law_right : FnScope N_law_right ps_law_right (defScope s_law_right) := ⟨rfl, rfl, rfl, by decide +kernel, rfl, by decide +kernel, by decide +kernel⟩
abbrev fn_law_right : List Str := ["_law_fields", "_law_due", "_law_made"]
theorem ck_law_right : chkSs ⟨N_law_right, defScope s_law_right, true, globN, bltL, fn_law_right⟩ ir_law_right (defBody s_law_right) = true := by decide +kernel
/-! law: calls _law_right, _law_set, _law_drawn, _law_box -/
abbrev s_law : Stmt := top 22
abbrev N_law : List Str := ["_law_script", "_law_k", "_law_box_here", "_law_told", "_law_have"]
abbrev ps_law : List Str := ["_law_script"]
def ir_law_0 : Ss := .cons (.ret (.bl true)) .nil
def ir_law_1 : Ss := .cons (.ite (.or (.not (.val (.fn 0 (.cons (.var 3) (.cons (.var 4) (.cons (.bin .BitOr (.var 4) (.fn 1 (.cons (.var 2) (.cons (.var 3) .nil)))) .nil)))))) (.not (.val (.fn 0 (.cons (.var 3) (.cons (.var 4) (.cons (.fn 1 (.cons (.var 2) (.cons (.var 3) .nil))) .nil))))))) (.cons (.ret (.bl false)) .nil) .nil) .nil
def ir_law_2 : Ss := .cons (.set 4 (.fn 1 (.cons (.var 2) (.cons (.var 3) .nil)))) ir_law_1
def ir_law_3 : Ss := .cons (.set 3 (.fn 2 (.cons (.var 2) .nil))) ir_law_2
def ir_law_4 : Ss := .cons (.set 2 (.fn 3 (.cons (.var 0) (.cons (.var 1) .nil)))) ir_law_3
def ir_law : Ss := .cons (.for (.nm 1) (.rg2 (.cons (.int 1) (.cons (.bi .max (.cons (.int 2) (.cons (.bi .min (.cons (.bi .len (.cons (.var 0) .nil)) (.cons (.int 60) .nil))) .nil))) .nil))) ir_law_4) ir_law_0
theorem sc_law : FnScope N_law ps_law (defScope s_law) := ⟨rfl, rfl, rfl, by decide +kernel, rfl, by decide +kernel, by decide +kernel⟩
abbrev fn_law : List Str := ["_law_right", "_law_set", "_law_drawn", "_law_box"]
theorem ck_law : chkSs ⟨N_law, defScope s_law, true, globN, bltL, fn_law⟩ ir_law (defBody s_law) = true := by decide +kernel
/-! Have.__init__: calls none -/
abbrev s_Have_init : Stmt := inClass (top 4) 0
abbrev N_Have_init : List Str := ["self", "fact"]
abbrev ps_Have_init : List Str := ["self", "fact"]
def ir_Have_init : Ss := .cons (.setF (.var 0) "fact" (.var 1)) .nil
theorem sc_Have_init : FnScope N_Have_init ps_Have_init (defScope s_Have_init) := ⟨rfl, rfl, rfl, by decide +kernel, rfl, by decide +kernel, by decide +kernel⟩
abbrev fn_Have_init : List Str := []
theorem ck_Have_init : chkSs ⟨N_Have_init, defScope s_Have_init, true, globN, bltL, fn_Have_init⟩ ir_Have_init (defBody s_Have_init) = true := by decide +kernel
/-! Have.shown: calls none -/
abbrev s_Have_shown : Stmt := inClass (top 4) 1
abbrev N_Have_shown : List Str := ["self"]
abbrev ps_Have_shown : List Str := ["self"]
def ir_Have_shown : Ss := .cons (.ret (.tup (.cons (.str "have") (.cons (.fld (.var 0) "fact") .nil)))) .nil
theorem sc_Have_shown : FnScope N_Have_shown ps_Have_shown (defScope s_Have_shown) := ⟨rfl, rfl, rfl, by decide +kernel, rfl, by decide +kernel, by decide +kernel⟩
abbrev fn_Have_shown : List Str := []
theorem ck_Have_shown : chkSs ⟨N_Have_shown, defScope s_Have_shown, true, globN, bltL, fn_Have_shown⟩ ir_Have_shown (defBody s_Have_shown) = true := by decide +kernel
/-! Have.carried: calls has_fact -/
abbrev s_Have_carried : Stmt := inClass (top 4) 2
abbrev N_Have_carried : List Str := ["self", "have", "may"]
abbrev ps_Have_carried : List Str := ["self", "have", "may"]
def ir_Have_carried : Ss := .cons (.ret (.fn 0 (.cons (.var 1) (.cons (.fld (.var 0) "fact") .nil)))) .nil
theorem sc_Have_carried : FnScope N_Have_carried ps_Have_carried (defScope s_Have_carried) := ⟨rfl, rfl, rfl, by decide +kernel, rfl, by decide +kernel, by decide +kernel⟩
abbrev fn_Have_carried : List Str := ["has_fact"]
theorem ck_Have_carried : chkSs ⟨N_Have_carried, defScope s_Have_carried, true, globN, bltL, fn_Have_carried⟩ ir_Have_carried (defBody s_Have_carried) = true := by decide +kernel
/-! Have.blocked: calls has_fact -/
abbrev s_Have_blocked : Stmt := inClass (top 4) 3
abbrev N_Have_blocked : List Str := ["self", "have", "may"]
abbrev ps_Have_blocked : List Str := ["self", "have", "may"]
def ir_Have_blocked : Ss := .cons (.ret (.not (.fn 0 (.cons (.var 2) (.cons (.fld (.var 0) "fact") .nil))))) .nil
theorem sc_Have_blocked : FnScope N_Have_blocked ps_Have_blocked (defScope s_Have_blocked) := ⟨rfl, rfl, rfl, by decide +kernel, rfl, by decide +kernel, by decide +kernel⟩
abbrev fn_Have_blocked : List Str := ["has_fact"]
theorem ck_Have_blocked : chkSs ⟨N_Have_blocked, defScope s_Have_blocked, true, globN, bltL, fn_Have_blocked⟩ ir_Have_blocked (defBody s_Have_blocked) = true := by decide +kernel
/-! Have.leaning: calls none -/
abbrev s_Have_leaning : Stmt := inClass (top 4) 4
abbrev N_Have_leaning : List Str := ["self"]
abbrev ps_Have_leaning : List Str := ["self"]
def ir_Have_leaning : Ss := .cons (.ret (.lst (.cons (.tup (.cons (.fld (.var 0) "fact") (.cons (.bl false) .nil))) .nil))) .nil
theorem sc_Have_leaning : FnScope N_Have_leaning ps_Have_leaning (defScope s_Have_leaning) := ⟨rfl, rfl, rfl, by decide +kernel, rfl, by decide +kernel, by decide +kernel⟩
abbrev fn_Have_leaning : List Str := []
theorem ck_Have_leaning : chkSs ⟨N_Have_leaning, defScope s_Have_leaning, true, globN, bltL, fn_Have_leaning⟩ ir_Have_leaning (defBody s_Have_leaning) = true := by decide +kernel
/-! Lack.__init__: calls none -/
abbrev s_Lack_init : Stmt := inClass (top 5) 0
abbrev N_Lack_init : List Str := ["self", "fact"]
abbrev ps_Lack_init : List Str := ["self", "fact"]
def ir_Lack_init : Ss := .cons (.setF (.var 0) "fact" (.var 1)) .nil
theorem sc_Lack_init : FnScope N_Lack_init ps_Lack_init (defScope s_Lack_init) := ⟨rfl, rfl, rfl, by decide +kernel, rfl, by decide +kernel, by decide +kernel⟩
abbrev fn_Lack_init : List Str := []
theorem ck_Lack_init : chkSs ⟨N_Lack_init, defScope s_Lack_init, true, globN, bltL, fn_Lack_init⟩ ir_Lack_init (defBody s_Lack_init) = true := by decide +kernel
/-! Lack.shown: calls none -/
abbrev s_Lack_shown : Stmt := inClass (top 5) 1
abbrev N_Lack_shown : List Str := ["self"]
abbrev ps_Lack_shown : List Str := ["self"]
def ir_Lack_shown : Ss := .cons (.ret (.tup (.cons (.str "lack") (.cons (.fld (.var 0) "fact") .nil)))) .nil
theorem sc_Lack_shown : FnScope N_Lack_shown ps_Lack_shown (defScope s_Lack_shown) := ⟨rfl, rfl, rfl, by decide +kernel, rfl, by decide +kernel, by decide +kernel⟩
abbrev fn_Lack_shown : List Str := []
theorem ck_Lack_shown : chkSs ⟨N_Lack_shown, defScope s_Lack_shown, true, globN, bltL, fn_Lack_shown⟩ ir_Lack_shown (defBody s_Lack_shown) = true := by decide +kernel
/-! Lack.carried: calls has_fact -/
abbrev s_Lack_carried : Stmt := inClass (top 5) 2
abbrev N_Lack_carried : List Str := ["self", "have", "may"]
abbrev ps_Lack_carried : List Str := ["self", "have", "may"]
def ir_Lack_carried : Ss := .cons (.ret (.not (.fn 0 (.cons (.var 2) (.cons (.fld (.var 0) "fact") .nil))))) .nil
theorem sc_Lack_carried : FnScope N_Lack_carried ps_Lack_carried (defScope s_Lack_carried) := ⟨rfl, rfl, rfl, by decide +kernel, rfl, by decide +kernel, by decide +kernel⟩
abbrev fn_Lack_carried : List Str := ["has_fact"]
theorem ck_Lack_carried : chkSs ⟨N_Lack_carried, defScope s_Lack_carried, true, globN, bltL, fn_Lack_carried⟩ ir_Lack_carried (defBody s_Lack_carried) = true := by decide +kernel
/-! Lack.blocked: calls has_fact -/
abbrev s_Lack_blocked : Stmt := inClass (top 5) 3
abbrev N_Lack_blocked : List Str := ["self", "have", "may"]
abbrev ps_Lack_blocked : List Str := ["self", "have", "may"]
def ir_Lack_blocked : Ss := .cons (.ret (.fn 0 (.cons (.var 1) (.cons (.fld (.var 0) "fact") .nil)))) .nil
theorem sc_Lack_blocked : FnScope N_Lack_blocked ps_Lack_blocked (defScope s_Lack_blocked) := ⟨rfl, rfl, rfl, by decide +kernel, rfl, by decide +kernel, by decide +kernel⟩
abbrev fn_Lack_blocked : List Str := ["has_fact"]
theorem ck_Lack_blocked : chkSs ⟨N_Lack_blocked, defScope s_Lack_blocked, true, globN, bltL, fn_Lack_blocked⟩ ir_Lack_blocked (defBody s_Lack_blocked) = true := by decide +kernel
/-! Lack.leaning: calls none -/
abbrev s_Lack_leaning : Stmt := inClass (top 5) 4
abbrev N_Lack_leaning : List Str := ["self"]
abbrev ps_Lack_leaning : List Str := ["self"]
def ir_Lack_leaning : Ss := .cons (.ret (.lst (.cons (.tup (.cons (.fld (.var 0) "fact") (.cons (.bl true) .nil))) .nil))) .nil
theorem sc_Lack_leaning : FnScope N_Lack_leaning ps_Lack_leaning (defScope s_Lack_leaning) := ⟨rfl, rfl, rfl, by decide +kernel, rfl, by decide +kernel, by decide +kernel⟩
abbrev fn_Lack_leaning : List Str := []
theorem ck_Lack_leaning : chkSs ⟨N_Lack_leaning, defScope s_Lack_leaning, true, globN, bltL, fn_Lack_leaning⟩ ir_Lack_leaning (defBody s_Lack_leaning) = true := by decide +kernel
/-! Some.__init__: calls none -/
abbrev s_Some_init : Stmt := inClass (top 6) 0
abbrev N_Some_init : List Str := ["self", "number", "facts"]
abbrev ps_Some_init : List Str := ["self", "number", "facts"]
def ir_Some_init_0 : Ss := .cons (.setF (.var 0) "facts" (.var 2)) .nil
def ir_Some_init : Ss := .cons (.setF (.var 0) "number" (.var 1)) ir_Some_init_0
theorem sc_Some_init : FnScope N_Some_init ps_Some_init (defScope s_Some_init) := ⟨rfl, rfl, rfl, by decide +kernel, rfl, by decide +kernel, by decide +kernel⟩
abbrev fn_Some_init : List Str := []
theorem ck_Some_init : chkSs ⟨N_Some_init, defScope s_Some_init, true, globN, bltL, fn_Some_init⟩ ir_Some_init (defBody s_Some_init) = true := by decide +kernel
/-! Some.shown: calls none -/
abbrev s_Some_shown : Stmt := inClass (top 6) 1
abbrev N_Some_shown : List Str := ["self"]
abbrev ps_Some_shown : List Str := ["self"]
def ir_Some_shown : Ss := .cons (.ret (.tup (.cons (.str "some") (.cons (.fld (.var 0) "number") (.cons (.fld (.var 0) "facts") .nil))))) .nil
theorem sc_Some_shown : FnScope N_Some_shown ps_Some_shown (defScope s_Some_shown) := ⟨rfl, rfl, rfl, by decide +kernel, rfl, by decide +kernel, by decide +kernel⟩
abbrev fn_Some_shown : List Str := []
theorem ck_Some_shown : chkSs ⟨N_Some_shown, defScope s_Some_shown, true, globN, bltL, fn_Some_shown⟩ ir_Some_shown (defBody s_Some_shown) = true := by decide +kernel
/-! Some.carried: calls count_in -/
abbrev s_Some_carried : Stmt := inClass (top 6) 2
abbrev N_Some_carried : List Str := ["self", "have", "may"]
abbrev ps_Some_carried : List Str := ["self", "have", "may"]
def ir_Some_carried : Ss := .cons (.ret (.cmp .GtE (.fn 0 (.cons (.fld (.var 0) "facts") (.cons (.var 1) .nil))) (.fld (.var 0) "number"))) .nil
theorem sc_Some_carried : FnScope N_Some_carried ps_Some_carried (defScope s_Some_carried) := ⟨rfl, rfl, rfl, by decide +kernel, rfl, by decide +kernel, by decide +kernel⟩
abbrev fn_Some_carried : List Str := ["count_in"]
theorem ck_Some_carried : chkSs ⟨N_Some_carried, defScope s_Some_carried, true, globN, bltL, fn_Some_carried⟩ ir_Some_carried (defBody s_Some_carried) = true := by decide +kernel
/-! Some.blocked: calls count_in -/
abbrev s_Some_blocked : Stmt := inClass (top 6) 3
abbrev N_Some_blocked : List Str := ["self", "have", "may"]
abbrev ps_Some_blocked : List Str := ["self", "have", "may"]
def ir_Some_blocked : Ss := .cons (.ret (.cmp .Lt (.fn 0 (.cons (.fld (.var 0) "facts") (.cons (.var 2) .nil))) (.fld (.var 0) "number"))) .nil
theorem sc_Some_blocked : FnScope N_Some_blocked ps_Some_blocked (defScope s_Some_blocked) := ⟨rfl, rfl, rfl, by decide +kernel, rfl, by decide +kernel, by decide +kernel⟩
abbrev fn_Some_blocked : List Str := ["count_in"]
theorem ck_Some_blocked : chkSs ⟨N_Some_blocked, defScope s_Some_blocked, true, globN, bltL, fn_Some_blocked⟩ ir_Some_blocked (defBody s_Some_blocked) = true := by decide +kernel
/-! Some.leaning: calls none -/
abbrev s_Some_leaning : Stmt := inClass (top 6) 4
abbrev N_Some_leaning : List Str := ["self"]
abbrev ps_Some_leaning : List Str := ["self"]
def ir_Some_leaning : Ss := .cons (.ret (.comp 1 (.tup (.cons (.var 1) (.cons (.bl false) .nil))) (.nm 1) (.seq (.fld (.var 0) "facts")) .no)) .nil
theorem sc_Some_leaning : FnScope N_Some_leaning ps_Some_leaning (defScope s_Some_leaning) := ⟨rfl, rfl, rfl, by decide +kernel, rfl, by decide +kernel, by decide +kernel⟩
abbrev fn_Some_leaning : List Str := []
theorem ck_Some_leaning : chkSs ⟨N_Some_leaning, defScope s_Some_leaning, true, globN, bltL, fn_Some_leaning⟩ ir_Some_leaning (defBody s_Some_leaning) = true := by decide +kernel
/-! Lead.__init__: calls none -/
abbrev s_Lead_init : Stmt := inClass (top 7) 0
abbrev N_Lead_init : List Str := ["self", "facts", "at"]
abbrev ps_Lead_init : List Str := ["self", "facts", "at"]
def ir_Lead_init_0 : Ss := .cons (.setF (.var 0) "at" (.var 2)) .nil
def ir_Lead_init : Ss := .cons (.setF (.var 0) "facts" (.var 1)) ir_Lead_init_0
theorem sc_Lead_init : FnScope N_Lead_init ps_Lead_init (defScope s_Lead_init) := ⟨rfl, rfl, rfl, by decide +kernel, rfl, by decide +kernel, by decide +kernel⟩
abbrev fn_Lead_init : List Str := []
theorem ck_Lead_init : chkSs ⟨N_Lead_init, defScope s_Lead_init, true, globN, bltL, fn_Lead_init⟩ ir_Lead_init (defBody s_Lead_init) = true := by decide +kernel
/-! Lead.shown: calls none -/
abbrev s_Lead_shown : Stmt := inClass (top 7) 1
abbrev N_Lead_shown : List Str := ["self"]
abbrev ps_Lead_shown : List Str := ["self"]
def ir_Lead_shown : Ss := .cons (.ret (.tup (.cons (.str "lead") (.cons (.fld (.var 0) "facts") (.cons (.fld (.var 0) "at") .nil))))) .nil
theorem sc_Lead_shown : FnScope N_Lead_shown ps_Lead_shown (defScope s_Lead_shown) := ⟨rfl, rfl, rfl, by decide +kernel, rfl, by decide +kernel, by decide +kernel⟩
abbrev fn_Lead_shown : List Str := []
theorem ck_Lead_shown : chkSs ⟨N_Lead_shown, defScope s_Lead_shown, true, globN, bltL, fn_Lead_shown⟩ ir_Lead_shown (defBody s_Lead_shown) = true := by decide +kernel
/-! Lead.carried: calls has_fact, count_in -/
abbrev s_Lead_carried : Stmt := inClass (top 7) 2
abbrev N_Lead_carried : List Str := ["self", "have", "may"]
abbrev ps_Lead_carried : List Str := ["self", "have", "may"]
def ir_Lead_carried : Ss := .cons (.ret (.and (.fn 0 (.cons (.var 1) (.cons (.ix (.fld (.var 0) "facts") (.fld (.var 0) "at")) .nil))) (.cmp .Eq (.fn 1 (.cons (.sl (.fld (.var 0) "facts") .no (.yes (.fld (.var 0) "at"))) (.cons (.var 2) .nil))) (.int 0)))) .nil
theorem sc_Lead_carried : FnScope N_Lead_carried ps_Lead_carried (defScope s_Lead_carried) := ⟨rfl, rfl, rfl, by decide +kernel, rfl, by decide +kernel, by decide +kernel⟩
abbrev fn_Lead_carried : List Str := ["has_fact", "count_in"]
theorem ck_Lead_carried : chkSs ⟨N_Lead_carried, defScope s_Lead_carried, true, globN, bltL, fn_Lead_carried⟩ ir_Lead_carried (defBody s_Lead_carried) = true := by decide +kernel
/-! Lead.blocked: calls has_fact, count_in -/
abbrev s_Lead_blocked : Stmt := inClass (top 7) 3
abbrev N_Lead_blocked : List Str := ["self", "have", "may"]
abbrev ps_Lead_blocked : List Str := ["self", "have", "may"]
def ir_Lead_blocked : Ss := .cons (.ret (.or (.not (.fn 0 (.cons (.var 2) (.cons (.ix (.fld (.var 0) "facts") (.fld (.var 0) "at")) .nil)))) (.cmp .Gt (.fn 1 (.cons (.sl (.fld (.var 0) "facts") .no (.yes (.fld (.var 0) "at"))) (.cons (.var 1) .nil))) (.int 0)))) .nil
theorem sc_Lead_blocked : FnScope N_Lead_blocked ps_Lead_blocked (defScope s_Lead_blocked) := ⟨rfl, rfl, rfl, by decide +kernel, rfl, by decide +kernel, by decide +kernel⟩
abbrev fn_Lead_blocked : List Str := ["has_fact", "count_in"]
theorem ck_Lead_blocked : chkSs ⟨N_Lead_blocked, defScope s_Lead_blocked, true, globN, bltL, fn_Lead_blocked⟩ ir_Lead_blocked (defBody s_Lead_blocked) = true := by decide +kernel
/-! Lead.leaning: calls none -/
abbrev s_Lead_leaning : Stmt := inClass (top 7) 4
abbrev N_Lead_leaning : List Str := ["self"]
abbrev ps_Lead_leaning : List Str := ["self"]
def ir_Lead_leaning : Ss := .cons (.ret (.bin .Add (.comp 1 (.tup (.cons (.var 1) (.cons (.bl true) .nil))) (.nm 1) (.seq (.sl (.fld (.var 0) "facts") .no (.yes (.fld (.var 0) "at")))) .no) (.lst (.cons (.tup (.cons (.ix (.fld (.var 0) "facts") (.fld (.var 0) "at")) (.cons (.bl false) .nil))) .nil)))) .nil
theorem sc_Lead_leaning : FnScope N_Lead_leaning ps_Lead_leaning (defScope s_Lead_leaning) := ⟨rfl, rfl, rfl, by decide +kernel, rfl, by decide +kernel, by decide +kernel⟩
abbrev fn_Lead_leaning : List Str := []
theorem ck_Lead_leaning : chkSs ⟨N_Lead_leaning, defScope s_Lead_leaning, true, globN, bltL, fn_Lead_leaning⟩ ir_Lead_leaning (defBody s_Lead_leaning) = true := by decide +kernel
end K11

set_option Elab.async false
set_option maxRecDepth 100000
set_option maxHeartbeats 4000000
namespace K11
open PySem PySem.Spec PyProof.Rows L2 DD
section
variable {P : Program} {w : World} {K : PySem.W.Frag} {mg : Str → Option Value} {base : Heap} {c : SH.CA} {cC : Addr} {k : Nat}
/-- what of the top every def may name -/
structure Env0 (K : PySem.W.Frag) (mg : Str → Option Value) (c : SH.CA) (cC : Addr) : Prop where
  gl : ∀ (j : Nat) x, globN[j]? = some x → GlobOk K mg x ((globD cC).getD j .non)
  bl : ∀ x, bltL.contains x = true → mg x = none
  cl : ∀ i, i < 4 → clsIn K (c.at i) SH.fldNames = true
theorem Env0.fl (E : Env0 K mg c cC) : ∀ C f, SH.fldO c C f → Cls K C ∧ NoAttr K C f := by
  rintro C f ⟨i, hi, rfl, hf⟩
  exact ⟨clsIn_cls (E.cl i hi), clsIn_no (E.cl i hi) hf⟩
theorem nm0 {fns : List Str} {F : List SpD} (E : Env0 K mg c cC) (hf : ∀ (j : Nat) (x : Str), fns[j]? = some x → ∃ k', k' ≤ k ∧ FnAny P w K mg base k' x (F.getD j fun _ _ _ => False)) :
    Names P w K mg base k globN bltL fns ⟨F, globD cC, SH.fldO c, fun _ _ => none, fun _ _ => none⟩ := ⟨E.gl, E.bl, hf, E.fl, (fun _ _ _ z => nomatch z), (fun _ _ _ z => nomatch z)⟩
theorem len_init (i : Nat) {n : Nat} (h : ∀ t : SH.CT, t.kind = i → t.flds.length + 1 = n) {ps : List Str} (hp : ps.length = n) : ∀ ds M Q, SH.spInit c i ds M Q → ds.length = ps.length := by
  rintro ds M Q ⟨a, t, hk, rfl, _⟩
  rw [List.length_cons, List.length_map, h t hk, hp]

theorem all_ok (E : Env0 K mg c cC)
    (ap : c.apart)
    (hI : ∀ i, i < 4 → isiIn K (c.at i) cC = some true)
    {hp : Heap}
    (X : K.In hp)
    (G : hp.Ns mainGlobals mg)
    {f_has_fact : Addr} {d_has_fact : FuncData} (a_has_fact : DefAt K "has_fact" s_has_fact f_has_fact d_has_fact)
    {f_count_in : Addr} {d_count_in : FuncData} (a_count_in : DefAt K "count_in" s_count_in f_count_in d_count_in)
    {f_law_cell : Addr} {d_law_cell : FuncData} (a_law_cell : DefAt K "_law_cell" s_law_cell f_law_cell d_law_cell)
    {f_law_mix : Addr} {d_law_mix : FuncData} (a_law_mix : DefAt K "_law_mix" s_law_mix f_law_mix d_law_mix)
    {f_law_box : Addr} {d_law_box : FuncData} (a_law_box : DefAt K "_law_box" s_law_box f_law_box d_law_box)
    {f_law_take : Addr} {d_law_take : FuncData} (a_law_take : DefAt K "_law_take" s_law_take f_law_take d_law_take)
    {f_law_listed : Addr} {d_law_listed : FuncData} (a_law_listed : DefAt K "_law_listed" s_law_listed f_law_listed d_law_listed)
    {f_law_drawn : Addr} {d_law_drawn : FuncData} (a_law_drawn : DefAt K "_law_drawn" s_law_drawn f_law_drawn d_law_drawn)
    {f_law_made : Addr} {d_law_made : FuncData} (a_law_made : DefAt K "_law_made" s_law_made f_law_made d_law_made)
    {f_law_facts : Addr} {d_law_facts : FuncData} (a_law_facts : DefAt K "_law_facts" s_law_facts f_law_facts d_law_facts)
    {f_law_set : Addr} {d_law_set : FuncData} (a_law_set : DefAt K "_law_set" s_law_set f_law_set d_law_set)
    {f_law_due : Addr} {d_law_due : FuncData} (a_law_due : DefAt K "_law_due" s_law_due f_law_due d_law_due)
    {f_law_fields : Addr} {d_law_fields : FuncData} (a_law_fields : DefAt K "_law_fields" s_law_fields f_law_fields d_law_fields)
    {f_law_right : Addr} {d_law_right : FuncData} (a_law_right : DefAt K "_law_right" s_law_right f_law_right d_law_right)
    {f_law : Addr} {d_law : FuncData} (a_law : DefAt K "law" s_law f_law d_law)
    (mg_Have : mg "Have" = some (.ref (c.at 0))) (mk_Have : PySem.W.makesIn K (c.at 0) = true) (kp_Have : PySem.W.keepIn K (.ref (c.at 0)) = true)
    {f_Have_init : Addr} {d_Have_init : FuncData} (a_Have_init : MethAt K (c.at 0) "__init__" "Have.__init__" s_Have_init f_Have_init d_Have_init)
    {f_Have_shown : Addr} {d_Have_shown : FuncData} (a_Have_shown : MethAt K (c.at 0) "shown" "Have.shown" s_Have_shown f_Have_shown d_Have_shown)
    {f_Have_carried : Addr} {d_Have_carried : FuncData} (a_Have_carried : MethAt K (c.at 0) "carried" "Have.carried" s_Have_carried f_Have_carried d_Have_carried)
    {f_Have_blocked : Addr} {d_Have_blocked : FuncData} (a_Have_blocked : MethAt K (c.at 0) "blocked" "Have.blocked" s_Have_blocked f_Have_blocked d_Have_blocked)
    {f_Have_leaning : Addr} {d_Have_leaning : FuncData} (a_Have_leaning : MethAt K (c.at 0) "leaning" "Have.leaning" s_Have_leaning f_Have_leaning d_Have_leaning)
    (mg_Lack : mg "Lack" = some (.ref (c.at 1))) (mk_Lack : PySem.W.makesIn K (c.at 1) = true) (kp_Lack : PySem.W.keepIn K (.ref (c.at 1)) = true)
    {f_Lack_init : Addr} {d_Lack_init : FuncData} (a_Lack_init : MethAt K (c.at 1) "__init__" "Lack.__init__" s_Lack_init f_Lack_init d_Lack_init)
    {f_Lack_shown : Addr} {d_Lack_shown : FuncData} (a_Lack_shown : MethAt K (c.at 1) "shown" "Lack.shown" s_Lack_shown f_Lack_shown d_Lack_shown)
    {f_Lack_carried : Addr} {d_Lack_carried : FuncData} (a_Lack_carried : MethAt K (c.at 1) "carried" "Lack.carried" s_Lack_carried f_Lack_carried d_Lack_carried)
    {f_Lack_blocked : Addr} {d_Lack_blocked : FuncData} (a_Lack_blocked : MethAt K (c.at 1) "blocked" "Lack.blocked" s_Lack_blocked f_Lack_blocked d_Lack_blocked)
    {f_Lack_leaning : Addr} {d_Lack_leaning : FuncData} (a_Lack_leaning : MethAt K (c.at 1) "leaning" "Lack.leaning" s_Lack_leaning f_Lack_leaning d_Lack_leaning)
    (mg_Some : mg "Some" = some (.ref (c.at 2))) (mk_Some : PySem.W.makesIn K (c.at 2) = true) (kp_Some : PySem.W.keepIn K (.ref (c.at 2)) = true)
    {f_Some_init : Addr} {d_Some_init : FuncData} (a_Some_init : MethAt K (c.at 2) "__init__" "Some.__init__" s_Some_init f_Some_init d_Some_init)
    {f_Some_shown : Addr} {d_Some_shown : FuncData} (a_Some_shown : MethAt K (c.at 2) "shown" "Some.shown" s_Some_shown f_Some_shown d_Some_shown)
    {f_Some_carried : Addr} {d_Some_carried : FuncData} (a_Some_carried : MethAt K (c.at 2) "carried" "Some.carried" s_Some_carried f_Some_carried d_Some_carried)
    {f_Some_blocked : Addr} {d_Some_blocked : FuncData} (a_Some_blocked : MethAt K (c.at 2) "blocked" "Some.blocked" s_Some_blocked f_Some_blocked d_Some_blocked)
    {f_Some_leaning : Addr} {d_Some_leaning : FuncData} (a_Some_leaning : MethAt K (c.at 2) "leaning" "Some.leaning" s_Some_leaning f_Some_leaning d_Some_leaning)
    (mg_Lead : mg "Lead" = some (.ref (c.at 3))) (mk_Lead : PySem.W.makesIn K (c.at 3) = true) (kp_Lead : PySem.W.keepIn K (.ref (c.at 3)) = true)
    {f_Lead_init : Addr} {d_Lead_init : FuncData} (a_Lead_init : MethAt K (c.at 3) "__init__" "Lead.__init__" s_Lead_init f_Lead_init d_Lead_init)
    {f_Lead_shown : Addr} {d_Lead_shown : FuncData} (a_Lead_shown : MethAt K (c.at 3) "shown" "Lead.shown" s_Lead_shown f_Lead_shown d_Lead_shown)
    {f_Lead_carried : Addr} {d_Lead_carried : FuncData} (a_Lead_carried : MethAt K (c.at 3) "carried" "Lead.carried" s_Lead_carried f_Lead_carried d_Lead_carried)
    {f_Lead_blocked : Addr} {d_Lead_blocked : FuncData} (a_Lead_blocked : MethAt K (c.at 3) "blocked" "Lead.blocked" s_Lead_blocked f_Lead_blocked d_Lead_blocked)
    {f_Lead_leaning : Addr} {d_Lead_leaning : FuncData} (a_Lead_leaning : MethAt K (c.at 3) "leaning" "Lead.leaning" s_Lead_leaning f_Lead_leaning d_Lead_leaning) :
    FnOk P w K mg base CX0 5 f_law d_law ["_law_script"] (liftSp K SH.spLaw) := by
  have F_has_fact : FnD P w K mg base 1 "has_fact" (SH.spHas) := fnD_ir (a_has_fact.def_ (ps := ps_has_fact) X G (fun _ _ _ _ _ _ us hl => match us, hl with | [_, _], _ => rfl)) sc_has_fact (nm0 (F := []) (k := 0) E (fns_nil (F := []))) ck_has_fact (fun ds M Q h => by obtain ⟨_, _, rfl, _⟩ := h; rfl) (fun ds M Q h => SH.rd_has_fact h)
  have F_count_in : FnD P w K mg base 2 "count_in" (SH.spCount) := fnD_ir (a_count_in.def_ (ps := ps_count_in) X G (fun _ _ _ _ _ _ us hl => match us, hl with | [_, _], _ => rfl)) sc_count_in (nm0 (F := [SH.spHas]) (k := 1) E (fns_cons (by decide) (.inl F_has_fact) (fns_nil (F := [])))) ck_count_in (fun ds M Q h => by obtain ⟨_, _, rfl, _⟩ := h; rfl) (fun ds M Q h => SH.rd_count_in rfl h)
  have F_Have : FnAny P w K mg base 2 "Have" (spMake (c.at 0) (SH.spInit c 0)) := mkD_ir mg_Have mk_Have kp_Have a_Have_init sc_Have_init (nm0 (F := []) (k := 0) E (fns_nil (F := []))) (fun _ _ _ _ _ _ us hl => match us, hl with | [_, _], _ => rfl) ck_Have_init (len_init 0 (n := 2) (fun t ht => by cases t <;> first | rfl | cases ht) rfl) (fun ds M Q h => SH.rd_Have_init rfl h)
  have M_Have_shown : MethD P w K mg base 1 (c.at 0) "shown" (SH.spShown c 0) := methD_ir (clsIn_cls (E.cl 0 (by decide))) a_Have_shown sc_Have_shown (nm0 (F := []) (k := 0) E (fns_nil (F := []))) (fun _ _ _ _ _ _ us hl => match us, hl with | [_], _ => rfl) ck_Have_shown (fun ds M Q h => by obtain ⟨_, _, _, rfl, _⟩ := h; rfl) (fun ds M Q h => SH.rd_Have_shown rfl h)
  have M_Have_carried : MethD P w K mg base 2 (c.at 0) "carried" (SH.spCarried c 0) := methD_ir (clsIn_cls (E.cl 0 (by decide))) a_Have_carried sc_Have_carried (nm0 (F := [SH.spHas]) (k := 1) E (fns_cons (by decide) (.inl F_has_fact) (fns_nil (F := [])))) (fun _ _ _ _ _ _ us hl => match us, hl with | [_, _, _], _ => rfl) ck_Have_carried (fun ds M Q h => by obtain ⟨_, _, _, _, _, _, rfl, _⟩ := h; rfl) (fun ds M Q h => SH.rd_Have_carried rfl rfl h)
  have M_Have_blocked : MethD P w K mg base 2 (c.at 0) "blocked" (SH.spBlocked c 0) := methD_ir (clsIn_cls (E.cl 0 (by decide))) a_Have_blocked sc_Have_blocked (nm0 (F := [SH.spHas]) (k := 1) E (fns_cons (by decide) (.inl F_has_fact) (fns_nil (F := [])))) (fun _ _ _ _ _ _ us hl => match us, hl with | [_, _, _], _ => rfl) ck_Have_blocked (fun ds M Q h => by obtain ⟨_, _, _, _, _, _, rfl, _⟩ := h; rfl) (fun ds M Q h => SH.rd_Have_blocked rfl rfl h)
  have M_Have_leaning : MethD P w K mg base 1 (c.at 0) "leaning" (SH.spLeaning c 0) := methD_ir (clsIn_cls (E.cl 0 (by decide))) a_Have_leaning sc_Have_leaning (nm0 (F := []) (k := 0) E (fns_nil (F := []))) (fun _ _ _ _ _ _ us hl => match us, hl with | [_], _ => rfl) ck_Have_leaning (fun ds M Q h => by obtain ⟨_, _, _, _, rfl, _⟩ := h; rfl) (fun ds M Q h => SH.rd_Have_leaning rfl h)
  have F_Lack : FnAny P w K mg base 2 "Lack" (spMake (c.at 1) (SH.spInit c 1)) := mkD_ir mg_Lack mk_Lack kp_Lack a_Lack_init sc_Lack_init (nm0 (F := []) (k := 0) E (fns_nil (F := []))) (fun _ _ _ _ _ _ us hl => match us, hl with | [_, _], _ => rfl) ck_Lack_init (len_init 1 (n := 2) (fun t ht => by cases t <;> first | rfl | cases ht) rfl) (fun ds M Q h => SH.rd_Lack_init rfl h)
  have M_Lack_shown : MethD P w K mg base 1 (c.at 1) "shown" (SH.spShown c 1) := methD_ir (clsIn_cls (E.cl 1 (by decide))) a_Lack_shown sc_Lack_shown (nm0 (F := []) (k := 0) E (fns_nil (F := []))) (fun _ _ _ _ _ _ us hl => match us, hl with | [_], _ => rfl) ck_Lack_shown (fun ds M Q h => by obtain ⟨_, _, _, rfl, _⟩ := h; rfl) (fun ds M Q h => SH.rd_Lack_shown rfl h)
  have M_Lack_carried : MethD P w K mg base 2 (c.at 1) "carried" (SH.spCarried c 1) := methD_ir (clsIn_cls (E.cl 1 (by decide))) a_Lack_carried sc_Lack_carried (nm0 (F := [SH.spHas]) (k := 1) E (fns_cons (by decide) (.inl F_has_fact) (fns_nil (F := [])))) (fun _ _ _ _ _ _ us hl => match us, hl with | [_, _, _], _ => rfl) ck_Lack_carried (fun ds M Q h => by obtain ⟨_, _, _, _, _, _, rfl, _⟩ := h; rfl) (fun ds M Q h => SH.rd_Lack_carried rfl rfl h)
  have M_Lack_blocked : MethD P w K mg base 2 (c.at 1) "blocked" (SH.spBlocked c 1) := methD_ir (clsIn_cls (E.cl 1 (by decide))) a_Lack_blocked sc_Lack_blocked (nm0 (F := [SH.spHas]) (k := 1) E (fns_cons (by decide) (.inl F_has_fact) (fns_nil (F := [])))) (fun _ _ _ _ _ _ us hl => match us, hl with | [_, _, _], _ => rfl) ck_Lack_blocked (fun ds M Q h => by obtain ⟨_, _, _, _, _, _, rfl, _⟩ := h; rfl) (fun ds M Q h => SH.rd_Lack_blocked rfl rfl h)
  have M_Lack_leaning : MethD P w K mg base 1 (c.at 1) "leaning" (SH.spLeaning c 1) := methD_ir (clsIn_cls (E.cl 1 (by decide))) a_Lack_leaning sc_Lack_leaning (nm0 (F := []) (k := 0) E (fns_nil (F := []))) (fun _ _ _ _ _ _ us hl => match us, hl with | [_], _ => rfl) ck_Lack_leaning (fun ds M Q h => by obtain ⟨_, _, _, _, rfl, _⟩ := h; rfl) (fun ds M Q h => SH.rd_Lack_leaning rfl h)
  have F_Some : FnAny P w K mg base 2 "Some" (spMake (c.at 2) (SH.spInit c 2)) := mkD_ir mg_Some mk_Some kp_Some a_Some_init sc_Some_init (nm0 (F := []) (k := 0) E (fns_nil (F := []))) (fun _ _ _ _ _ _ us hl => match us, hl with | [_, _, _], _ => rfl) ck_Some_init (len_init 2 (n := 3) (fun t ht => by cases t <;> first | rfl | cases ht) rfl) (fun ds M Q h => SH.rd_Some_init rfl h)
  have M_Some_shown : MethD P w K mg base 1 (c.at 2) "shown" (SH.spShown c 2) := methD_ir (clsIn_cls (E.cl 2 (by decide))) a_Some_shown sc_Some_shown (nm0 (F := []) (k := 0) E (fns_nil (F := []))) (fun _ _ _ _ _ _ us hl => match us, hl with | [_], _ => rfl) ck_Some_shown (fun ds M Q h => by obtain ⟨_, _, _, rfl, _⟩ := h; rfl) (fun ds M Q h => SH.rd_Some_shown rfl h)
  have M_Some_carried : MethD P w K mg base 3 (c.at 2) "carried" (SH.spCarried c 2) := methD_ir (clsIn_cls (E.cl 2 (by decide))) a_Some_carried sc_Some_carried (nm0 (F := [SH.spCount]) (k := 2) E (fns_cons (by decide) (.inl F_count_in) (fns_nil (F := [])))) (fun _ _ _ _ _ _ us hl => match us, hl with | [_, _, _], _ => rfl) ck_Some_carried (fun ds M Q h => by obtain ⟨_, _, _, _, _, _, rfl, _⟩ := h; rfl) (fun ds M Q h => SH.rd_Some_carried rfl rfl h)
  have M_Some_blocked : MethD P w K mg base 3 (c.at 2) "blocked" (SH.spBlocked c 2) := methD_ir (clsIn_cls (E.cl 2 (by decide))) a_Some_blocked sc_Some_blocked (nm0 (F := [SH.spCount]) (k := 2) E (fns_cons (by decide) (.inl F_count_in) (fns_nil (F := [])))) (fun _ _ _ _ _ _ us hl => match us, hl with | [_, _, _], _ => rfl) ck_Some_blocked (fun ds M Q h => by obtain ⟨_, _, _, _, _, _, rfl, _⟩ := h; rfl) (fun ds M Q h => SH.rd_Some_blocked rfl rfl h)
  have M_Some_leaning : MethD P w K mg base 1 (c.at 2) "leaning" (SH.spLeaning c 2) := methD_ir (clsIn_cls (E.cl 2 (by decide))) a_Some_leaning sc_Some_leaning (nm0 (F := []) (k := 0) E (fns_nil (F := []))) (fun _ _ _ _ _ _ us hl => match us, hl with | [_], _ => rfl) ck_Some_leaning (fun ds M Q h => by obtain ⟨_, _, _, _, rfl, _⟩ := h; rfl) (fun ds M Q h => SH.rd_Some_leaning rfl h)
  have F_Lead : FnAny P w K mg base 2 "Lead" (spMake (c.at 3) (SH.spInit c 3)) := mkD_ir mg_Lead mk_Lead kp_Lead a_Lead_init sc_Lead_init (nm0 (F := []) (k := 0) E (fns_nil (F := []))) (fun _ _ _ _ _ _ us hl => match us, hl with | [_, _, _], _ => rfl) ck_Lead_init (len_init 3 (n := 3) (fun t ht => by cases t <;> first | rfl | cases ht) rfl) (fun ds M Q h => SH.rd_Lead_init rfl h)
  have M_Lead_shown : MethD P w K mg base 1 (c.at 3) "shown" (SH.spShown c 3) := methD_ir (clsIn_cls (E.cl 3 (by decide))) a_Lead_shown sc_Lead_shown (nm0 (F := []) (k := 0) E (fns_nil (F := []))) (fun _ _ _ _ _ _ us hl => match us, hl with | [_], _ => rfl) ck_Lead_shown (fun ds M Q h => by obtain ⟨_, _, _, rfl, _⟩ := h; rfl) (fun ds M Q h => SH.rd_Lead_shown rfl h)
  have M_Lead_carried : MethD P w K mg base 3 (c.at 3) "carried" (SH.spCarried c 3) := methD_ir (clsIn_cls (E.cl 3 (by decide))) a_Lead_carried sc_Lead_carried (nm0 (F := [SH.spHas, SH.spCount]) (k := 2) E (fns_cons (by decide) (.inl F_has_fact) (fns_cons (by decide) (.inl F_count_in) (fns_nil (F := []))))) (fun _ _ _ _ _ _ us hl => match us, hl with | [_, _, _], _ => rfl) ck_Lead_carried (fun ds M Q h => by obtain ⟨_, _, _, _, _, _, rfl, _⟩ := h; rfl) (fun ds M Q h => SH.rd_Lead_carried rfl rfl rfl h)
  have M_Lead_blocked : MethD P w K mg base 3 (c.at 3) "blocked" (SH.spBlocked c 3) := methD_ir (clsIn_cls (E.cl 3 (by decide))) a_Lead_blocked sc_Lead_blocked (nm0 (F := [SH.spHas, SH.spCount]) (k := 2) E (fns_cons (by decide) (.inl F_has_fact) (fns_cons (by decide) (.inl F_count_in) (fns_nil (F := []))))) (fun _ _ _ _ _ _ us hl => match us, hl with | [_, _, _], _ => rfl) ck_Lead_blocked (fun ds M Q h => by obtain ⟨_, _, _, _, _, _, rfl, _⟩ := h; rfl) (fun ds M Q h => SH.rd_Lead_blocked rfl rfl rfl h)
  have M_Lead_leaning : MethD P w K mg base 1 (c.at 3) "leaning" (SH.spLeaning c 3) := methD_ir (clsIn_cls (E.cl 3 (by decide))) a_Lead_leaning sc_Lead_leaning (nm0 (F := []) (k := 0) E (fns_nil (F := []))) (fun _ _ _ _ _ _ us hl => match us, hl with | [_], _ => rfl) ck_Lead_leaning (fun ds M Q h => by obtain ⟨_, _, _, _, rfl, _⟩ := h; rfl) (fun ds M Q h => SH.rd_Lead_leaning rfl h)
  have MT : ∀ C m sp, SH.metT c C m = some sp → ∃ k', k' ≤ 3 ∧ MethD P w K mg base k' C m sp := by
    intro C m sp e
    unfold SH.metT at e
    have at_ : ∀ i, SH.kindAt c C = some i → C = c.at i ∧ i < 4 := by
      intro i hi
      unfold SH.kindAt at hi
      split at hi
      · cases hi; exact ⟨by assumption, by decide⟩
      · split at hi
        · cases hi; exact ⟨by assumption, by decide⟩
        · split at hi
          · cases hi; exact ⟨by assumption, by decide⟩
          · split at hi
            · cases hi; exact ⟨by assumption, by decide⟩
            · cases hi
    cases q : SH.kindAt c C with
    | none => rw [q] at e; cases e
    | some i =>
      rw [q] at e
      obtain ⟨rfl, hi⟩ := at_ i q
      have e : SH.methsOf c i m = some sp := e
      unfold SH.methsOf at e
      have i4 : i = 0 ∨ i = 1 ∨ i = 2 ∨ i = 3 := by omega
      split at e
      · rename_i hm
        subst hm
        cases e
        rcases i4 with rfl | rfl | rfl | rfl
        · exact ⟨_, by decide, M_Have_shown⟩
        · exact ⟨_, by decide, M_Lack_shown⟩
        · exact ⟨_, by decide, M_Some_shown⟩
        · exact ⟨_, by decide, M_Lead_shown⟩
      · split at e
        · rename_i hm
          subst hm
          cases e
          rcases i4 with rfl | rfl | rfl | rfl
          · exact ⟨_, by decide, M_Have_carried⟩
          · exact ⟨_, by decide, M_Lack_carried⟩
          · exact ⟨_, by decide, M_Some_carried⟩
          · exact ⟨_, by decide, M_Lead_carried⟩
        · split at e
          · rename_i hm
            subst hm
            cases e
            rcases i4 with rfl | rfl | rfl | rfl
            · exact ⟨_, by decide, M_Have_blocked⟩
            · exact ⟨_, by decide, M_Lack_blocked⟩
            · exact ⟨_, by decide, M_Some_blocked⟩
            · exact ⟨_, by decide, M_Lead_blocked⟩
          · split at e
            · rename_i hm
              subst hm
              cases e
              rcases i4 with rfl | rfl | rfl | rfl
              · exact ⟨_, by decide, M_Have_leaning⟩
              · exact ⟨_, by decide, M_Lack_leaning⟩
              · exact ⟨_, by decide, M_Some_leaning⟩
              · exact ⟨_, by decide, M_Lead_leaning⟩
            · cases e
  have kat : ∀ C, (SH.kindAt c C).isSome = true → ∃ i, i < 4 ∧ C = c.at i := by
    intro C hC
    unfold SH.kindAt at hC
    split at hC
    · exact ⟨0, by decide, by assumption⟩
    · split at hC
      · exact ⟨1, by decide, by assumption⟩
      · split at hC
        · exact ⟨2, by decide, by assumption⟩
        · split at hC
          · exact ⟨3, by decide, by assumption⟩
          · cases hC
  have IT : ∀ C d b, (if d = cC then (if (SH.kindAt c C).isSome = true then some true else none) else none) = some b → IsiOk K C d b := by
    intro C d b e
    split at e
    · rename_i hd
      split at e
      · rename_i hs
        cases e
        obtain ⟨i, hi, rfl⟩ := kat C hs
        subst hd
        exact isiIn_ok (clsIn_cls (E.cl i hi)) (hI i hi)
      · cases e
    · cases e
  have hI2 : ∀ i, i < 4 → (if cC = cC then (if (SH.kindAt c (c.at i)).isSome = true then some true else none) else none) = some true := by
    intro i hi
    rw [if_pos rfl, ap i hi]
    rfl
  have F_law_cell : FnD P w K mg base 1 "_law_cell" (SH.spCell) := fnD_ir (a_law_cell.def_ (ps := ps_law_cell) X G (fun _ _ _ _ _ _ us hl => match us, hl with | [_, _], _ => rfl)) sc_law_cell (nm0 (F := []) (k := 0) E (fns_nil (F := []))) ck_law_cell (fun ds M Q h => by obtain ⟨_, _, _, rfl, _⟩ := h; rfl) (fun ds M Q h => SH.rd_cell h)
  have F_law_mix : FnD P w K mg base 1 "_law_mix" (SH.spMix) := fnD_ir (a_law_mix.def_ (ps := ps_law_mix) X G (fun _ _ _ _ _ _ us hl => match us, hl with | [_, _], _ => rfl)) sc_law_mix (nm0 (F := []) (k := 0) E (fns_nil (F := []))) ck_law_mix (fun ds M Q h => by obtain ⟨_, _, rfl, _⟩ := h; rfl) (fun ds M Q h => SH.rd_mix h)
  have F_law_box : FnD P w K mg base 2 "_law_box" (SH.spBox) := fnD_ir (a_law_box.def_ (ps := ps_law_box) X G (fun _ _ _ _ _ _ us hl => match us, hl with | [_, _], _ => rfl)) sc_law_box (nm0 (F := [SH.spMix, SH.spCell]) (k := 1) E (fns_cons (by decide) (.inl F_law_mix) (fns_cons (by decide) (.inl F_law_cell) (fns_nil (F := []))))) ck_law_box (fun ds M Q h => by obtain ⟨_, _, _, rfl, _⟩ := h; rfl) (fun ds M Q h => SH.rd_box rfl h)
  have F_law_take : FnD P w K mg base 1 "_law_take" (SH.spTake) := fnD_ir (a_law_take.def_ (ps := ps_law_take) X G (fun _ _ _ _ _ _ us hl => match us, hl with | [_, _], _ => rfl)) sc_law_take (nm0 (F := []) (k := 0) E (fns_nil (F := []))) ck_law_take (fun ds M Q h => by obtain ⟨_, _, _, rfl, _⟩ := h; rfl) (fun ds M Q h => SH.rd_take h)
  have F_law_listed : FnD P w K mg base 2 "_law_listed" (SH.spListed) := fnD_ir (a_law_listed.def_ (ps := ps_law_listed) X G (fun _ _ _ _ _ _ us hl => match us, hl with | [_], _ => rfl)) sc_law_listed (nm0 (F := [SH.spTake]) (k := 1) E (fns_cons (by decide) (.inl F_law_take) (fns_nil (F := [])))) ck_law_listed (fun ds M Q h => by obtain ⟨_, _, rfl, _⟩ := h; rfl) (fun ds M Q h => SH.rd_listed rfl h)
  have F_law_drawn : FnD P w K mg base 3 "_law_drawn" (SH.spDrawn) := fnD_ir (a_law_drawn.def_ (ps := ps_law_drawn) X G (fun _ _ _ _ _ _ us hl => match us, hl with | [_], _ => rfl)) sc_law_drawn (nm0 (F := [SH.spTake, SH.spListed]) (k := 2) E (fns_cons (by decide) (.inl F_law_take) (fns_cons (by decide) (.inl F_law_listed) (fns_nil (F := []))))) ck_law_drawn (fun ds M Q h => by obtain ⟨_, _, rfl, _⟩ := h; rfl) (fun ds M Q h => SH.rd_drawn rfl rfl h)
  have F_law_made : FnD P w K mg base 3 "_law_made" (SH.spMade c) := fnD_ir (a_law_made.def_ (ps := ps_law_made) X G (fun _ _ _ _ _ _ us hl => match us, hl with | [_], _ => rfl)) sc_law_made (nm0 (F := [spMake (c.at 3) (SH.spInit c 3), spMake (c.at 2) (SH.spInit c 2), spMake (c.at 1) (SH.spInit c 1), spMake (c.at 0) (SH.spInit c 0)]) (k := 2) E (fns_cons (by decide) F_Lead (fns_cons (by decide) F_Some (fns_cons (by decide) F_Lack (fns_cons (by decide) F_Have (fns_nil (F := []))))))) ck_law_made (fun ds M Q h => by obtain ⟨_, rfl, _⟩ := h; rfl) (fun ds M Q h => SH.rd_made (c := c) rfl h)
  have F_law_facts : FnD P w K mg base 1 "_law_facts" (SH.spFacts) := fnD_ir (a_law_facts.def_ (ps := ps_law_facts) X G (fun _ _ _ _ _ _ us hl => match us, hl with | [_], _ => rfl)) sc_law_facts (nm0 (F := []) (k := 0) E (fns_nil (F := []))) ck_law_facts (fun ds M Q h => by obtain ⟨_, rfl, _⟩ := h; rfl) (fun ds M Q h => SH.rd_facts h)
  have F_law_set : FnD P w K mg base 2 "_law_set" (SH.spSet) := fnD_ir (a_law_set.def_ (ps := ps_law_set) X G (fun _ _ _ _ _ _ us hl => match us, hl with | [_, _], _ => rfl)) sc_law_set (nm0 (F := [SH.spTake, SH.spFacts]) (k := 1) E (fns_cons (by decide) (.inl F_law_take) (fns_cons (by decide) (.inl F_law_facts) (fns_nil (F := []))))) ck_law_set (fun ds M Q h => by obtain ⟨_, _, _, rfl, _⟩ := h; rfl) (fun ds M Q h => SH.rd_set rfl rfl h)
  have F_law_due : FnD P w K mg base 2 "_law_due" (SH.spDue) := fnD_ir (a_law_due.def_ (ps := ps_law_due) X G (fun _ _ _ _ _ _ us hl => match us, hl with | [_, _, _], _ => rfl)) sc_law_due (nm0 (F := [SH.spFacts]) (k := 1) E (fns_cons (by decide) (.inl F_law_facts) (fns_nil (F := [])))) ck_law_due (fun ds M Q h => by obtain ⟨_, _, _, rfl, _⟩ := h; rfl) (fun ds M Q h => SH.rd_due rfl h)
  have F_law_fields : FnD P w K mg base 1 "_law_fields" (SH.spFields c) := fnD_ir (a_law_fields.def_ (ps := ps_law_fields) X G (fun _ _ _ _ _ _ us hl => match us, hl with | [_, _], _ => rfl)) sc_law_fields (nm0 (F := []) (k := 0) E (fns_nil (F := []))) ck_law_fields (fun ds M Q h => by obtain ⟨_, _, rfl, _⟩ := h; rfl) (fun ds M Q h => SH.rd_fields (c := c) rfl h)
  have N_r : Names P w K mg base 3 globN bltL fn_law_right ⟨[SH.spFields c, SH.spDue, SH.spMade c], globD cC, SH.fldO c, SH.metT c, fun a d => if d = cC then (if (SH.kindAt c a).isSome = true then some true else none) else none⟩ := ⟨E.gl, E.bl, (fns_cons (by decide) (.inl F_law_fields) (fns_cons (by decide) (.inl F_law_due) (fns_cons (by decide) (.inl F_law_made) (fns_nil (F := []))))), E.fl, MT, IT⟩
  have F_law_right : FnD P w K mg base 4 "_law_right" (SH.spRight) := fnD_ir (a_law_right.def_ (ps := ps_law_right) X G (fun _ _ _ _ _ _ us hl => match us, hl with | [_, _, _], _ => rfl)) sc_law_right (N_r) ck_law_right (fun ds M Q h => by obtain ⟨_, _, _, rfl, _⟩ := h; rfl) (fun ds M Q h => SH.rd_right (c := c) (cC := cC) rfl rfl ap rfl hI2 rfl h)
  exact fnM_ir (a_law.fun_) sc_law (nm0 (F := [SH.spRight, SH.spSet, SH.spDrawn, SH.spBox]) (k := 4) E (fns_cons (by decide) (.inl F_law_right) (fns_cons (by decide) (.inl F_law_set) (fns_cons (by decide) (.inl F_law_drawn) (fns_cons (by decide) (.inl F_law_box) (fns_nil (F := []))))))) ck_law (fun ds M Q h => by obtain ⟨_, _, rfl, _⟩ := h; rfl) (fun ds M Q h => SH.rd_law rfl h)
end
end K11

set_option Elab.async false
set_option maxRecDepth 100000
namespace K11
open PySem PySem.Spec PyProof.Rows L2 DD
theorem apart_of {a b d e : Addr} (h : (decide (a ≠ b) && decide (a ≠ d) && decide (a ≠ e) && decide (b ≠ d) && decide (b ≠ e) && decide (d ≠ e)) = true) : SH.CA.apart ⟨a, b, d, e⟩ := by
  simp only [Bool.and_eq_true, decide_eq_true_eq] at h
  obtain ⟨⟨⟨⟨⟨h1, h2⟩, h3⟩, h4⟩, h5⟩, h6⟩ := h
  intro k hk
  have i4 : k = 0 ∨ k = 1 ∨ k = 2 ∨ k = 3 := by omega
  rcases i4 with rfl | rfl | rfl | rfl
  · show (if a = a then some 0 else if a = b then some 1 else if a = d then some 2 else if a = e then some 3 else none) = some 0
    rw [if_pos rfl]
  · show (if b = a then some 0 else if b = b then some 1 else if b = d then some 2 else if b = e then some 3 else none) = some 1
    rw [if_neg (fun z => h1 z.symm), if_pos rfl]
  · show (if d = a then some 0 else if d = b then some 1 else if d = d then some 2 else if d = e then some 3 else none) = some 2
    rw [if_neg (fun z => h2 z.symm), if_neg (fun z => h4 z.symm), if_pos rfl]
  · show (if e = a then some 0 else if e = b then some 1 else if e = d then some 2 else if e = e then some 3 else none) = some 3
    rw [if_neg (fun z => h3 z.symm), if_neg (fun z => h5 z.symm), if_neg (fun z => h6 z.symm), if_pos rfl]
theorem all4 {p : Nat → Prop} (h0 : p 0) (h1 : p 1) (h2 : p 2) (h3 : p 3) : ∀ i, i < 4 → p i := by
  intro i hi
  have i4 : i = 0 ∨ i = 1 ∨ i = 2 ∨ i = 3 := by omega
  rcases i4 with rfl | rfl | rfl | rfl <;> assumption
theorem law_ok : LawSp 63 SH.spLaw := fun a ns hl => ⟨a, ns, rfl, by unfold scriptM; rw [if_pos rfl], hl, fun _ => rfl⟩
theorem all_mk {l : PySem.W.OpenLaw} {w : World} {K : PySem.W.Frag} {h : Heap} {mg : Str → Option Value} {fa cH cL cS cD cC : Addr} (X : K.In h) (G : h.Ns mainGlobals mg) (hfa : mg "law" = some (.ref fa))
    (ap : (decide (cH ≠ cL) && decide (cH ≠ cS) && decide (cH ≠ cD) && decide (cL ≠ cS) && decide (cL ≠ cD) && decide (cS ≠ cD)) = true) (gl : globsIn K globN (globD cC) = true) (bl : bltsIn K bltL = true)
    (n_Cond : PySem.W.nsIn K mainGlobals "Cond" = some (some (.ref cC)))
    (n_Have : PySem.W.nsIn K mainGlobals "Have" = some (some (.ref cH))) (k_Have : (clsIn K cH SH.fldNames && PySem.W.makesIn K cH && PySem.W.keepIn K (.ref cH) && isYes (isiIn K cH cC)) = true)
    (n_Lack : PySem.W.nsIn K mainGlobals "Lack" = some (some (.ref cL))) (k_Lack : (clsIn K cL SH.fldNames && PySem.W.makesIn K cL && PySem.W.keepIn K (.ref cL) && isYes (isiIn K cL cC)) = true)
    (n_Some : PySem.W.nsIn K mainGlobals "Some" = some (some (.ref cS))) (k_Some : (clsIn K cS SH.fldNames && PySem.W.makesIn K cS && PySem.W.keepIn K (.ref cS) && isYes (isiIn K cS cC)) = true)
    (n_Lead : PySem.W.nsIn K mainGlobals "Lead" = some (some (.ref cD))) (k_Lead : (clsIn K cD SH.fldNames && PySem.W.makesIn K cD && PySem.W.keepIn K (.ref cD) && isYes (isiIn K cD cC)) = true)
    {f_has_fact : Addr} {d_has_fact : FuncData} (a_has_fact : DefAt K "has_fact" s_has_fact f_has_fact d_has_fact)
    {f_count_in : Addr} {d_count_in : FuncData} (a_count_in : DefAt K "count_in" s_count_in f_count_in d_count_in)
    {f_law_cell : Addr} {d_law_cell : FuncData} (a_law_cell : DefAt K "_law_cell" s_law_cell f_law_cell d_law_cell)
    {f_law_mix : Addr} {d_law_mix : FuncData} (a_law_mix : DefAt K "_law_mix" s_law_mix f_law_mix d_law_mix)
    {f_law_box : Addr} {d_law_box : FuncData} (a_law_box : DefAt K "_law_box" s_law_box f_law_box d_law_box)
    {f_law_take : Addr} {d_law_take : FuncData} (a_law_take : DefAt K "_law_take" s_law_take f_law_take d_law_take)
    {f_law_listed : Addr} {d_law_listed : FuncData} (a_law_listed : DefAt K "_law_listed" s_law_listed f_law_listed d_law_listed)
    {f_law_drawn : Addr} {d_law_drawn : FuncData} (a_law_drawn : DefAt K "_law_drawn" s_law_drawn f_law_drawn d_law_drawn)
    {f_law_made : Addr} {d_law_made : FuncData} (a_law_made : DefAt K "_law_made" s_law_made f_law_made d_law_made)
    {f_law_facts : Addr} {d_law_facts : FuncData} (a_law_facts : DefAt K "_law_facts" s_law_facts f_law_facts d_law_facts)
    {f_law_set : Addr} {d_law_set : FuncData} (a_law_set : DefAt K "_law_set" s_law_set f_law_set d_law_set)
    {f_law_due : Addr} {d_law_due : FuncData} (a_law_due : DefAt K "_law_due" s_law_due f_law_due d_law_due)
    {f_law_fields : Addr} {d_law_fields : FuncData} (a_law_fields : DefAt K "_law_fields" s_law_fields f_law_fields d_law_fields)
    {f_law_right : Addr} {d_law_right : FuncData} (a_law_right : DefAt K "_law_right" s_law_right f_law_right d_law_right)
    {f_law : Addr} {d_law : FuncData} (a_law : DefAt K "law" s_law f_law d_law)
    {f_Have_init : Addr} {d_Have_init : FuncData} (a_Have_init : MethAt K cH "__init__" "Have.__init__" s_Have_init f_Have_init d_Have_init)
    {f_Have_shown : Addr} {d_Have_shown : FuncData} (a_Have_shown : MethAt K cH "shown" "Have.shown" s_Have_shown f_Have_shown d_Have_shown)
    {f_Have_carried : Addr} {d_Have_carried : FuncData} (a_Have_carried : MethAt K cH "carried" "Have.carried" s_Have_carried f_Have_carried d_Have_carried)
    {f_Have_blocked : Addr} {d_Have_blocked : FuncData} (a_Have_blocked : MethAt K cH "blocked" "Have.blocked" s_Have_blocked f_Have_blocked d_Have_blocked)
    {f_Have_leaning : Addr} {d_Have_leaning : FuncData} (a_Have_leaning : MethAt K cH "leaning" "Have.leaning" s_Have_leaning f_Have_leaning d_Have_leaning)
    {f_Lack_init : Addr} {d_Lack_init : FuncData} (a_Lack_init : MethAt K cL "__init__" "Lack.__init__" s_Lack_init f_Lack_init d_Lack_init)
    {f_Lack_shown : Addr} {d_Lack_shown : FuncData} (a_Lack_shown : MethAt K cL "shown" "Lack.shown" s_Lack_shown f_Lack_shown d_Lack_shown)
    {f_Lack_carried : Addr} {d_Lack_carried : FuncData} (a_Lack_carried : MethAt K cL "carried" "Lack.carried" s_Lack_carried f_Lack_carried d_Lack_carried)
    {f_Lack_blocked : Addr} {d_Lack_blocked : FuncData} (a_Lack_blocked : MethAt K cL "blocked" "Lack.blocked" s_Lack_blocked f_Lack_blocked d_Lack_blocked)
    {f_Lack_leaning : Addr} {d_Lack_leaning : FuncData} (a_Lack_leaning : MethAt K cL "leaning" "Lack.leaning" s_Lack_leaning f_Lack_leaning d_Lack_leaning)
    {f_Some_init : Addr} {d_Some_init : FuncData} (a_Some_init : MethAt K cS "__init__" "Some.__init__" s_Some_init f_Some_init d_Some_init)
    {f_Some_shown : Addr} {d_Some_shown : FuncData} (a_Some_shown : MethAt K cS "shown" "Some.shown" s_Some_shown f_Some_shown d_Some_shown)
    {f_Some_carried : Addr} {d_Some_carried : FuncData} (a_Some_carried : MethAt K cS "carried" "Some.carried" s_Some_carried f_Some_carried d_Some_carried)
    {f_Some_blocked : Addr} {d_Some_blocked : FuncData} (a_Some_blocked : MethAt K cS "blocked" "Some.blocked" s_Some_blocked f_Some_blocked d_Some_blocked)
    {f_Some_leaning : Addr} {d_Some_leaning : FuncData} (a_Some_leaning : MethAt K cS "leaning" "Some.leaning" s_Some_leaning f_Some_leaning d_Some_leaning)
    {f_Lead_init : Addr} {d_Lead_init : FuncData} (a_Lead_init : MethAt K cD "__init__" "Lead.__init__" s_Lead_init f_Lead_init d_Lead_init)
    {f_Lead_shown : Addr} {d_Lead_shown : FuncData} (a_Lead_shown : MethAt K cD "shown" "Lead.shown" s_Lead_shown f_Lead_shown d_Lead_shown)
    {f_Lead_carried : Addr} {d_Lead_carried : FuncData} (a_Lead_carried : MethAt K cD "carried" "Lead.carried" s_Lead_carried f_Lead_carried d_Lead_carried)
    {f_Lead_blocked : Addr} {d_Lead_blocked : FuncData} (a_Lead_blocked : MethAt K cD "blocked" "Lead.blocked" s_Lead_blocked f_Lead_blocked d_Lead_blocked)
    {f_Lead_leaning : Addr} {d_Lead_leaning : FuncData} (a_Lead_leaning : MethAt K cD "leaning" "Lead.leaning" s_Lead_leaning f_Lead_leaning d_Lead_leaning) :
    ∃ fd : FuncData, (∀ (s : Shared) (v : Value), BindsTo s fd ⟨[v], []⟩ [("_law_script", v)]) ∧ ∀ base : Heap, K.In base → base.Ns mainGlobals mg → FnOk l.prog w K mg base CX0 5 fa fd ["_law_script"] (liftSp K SH.spLaw) := by
  have y_Have := k_Have
  simp only [Bool.and_eq_true] at y_Have
  have y_Lack := k_Lack
  simp only [Bool.and_eq_true] at y_Lack
  have y_Some := k_Some
  simp only [Bool.and_eq_true] at y_Some
  have y_Lead := k_Lead
  simp only [Bool.and_eq_true] at y_Lead
  have E : Env0 K mg ⟨cH, cL, cS, cD⟩ cC := ⟨globsIn_ok X G gl, bltsIn_ok X G bl, all4 y_Have.1.1.1 y_Lack.1.1.1 y_Some.1.1.1 y_Lead.1.1.1⟩
  have hI : ∀ i, i < 4 → isiIn K ((⟨cH, cL, cS, cD⟩ : SH.CA).at i) cC = some true := all4 (isYes_ok y_Have.2) (isYes_ok y_Lack.2) (isYes_ok y_Some.2) (isYes_ok y_Lead.2)
  have bL : ∀ (s : Shared) (v : Value), BindsTo s d_law ⟨[v], []⟩ [("_law_script", v)] := by
    obtain ⟨oc, od, an, osl, kV, doc, pm, cdv, ct, a, rfl, l, c, k⟩ := a_law.ex
    exact fun s v => .of_eq rfl
  have FL := a_law.def_ (ps := ["_law_script"]) X G fun _ _ _ _ _ _ us hl => match us, hl with | [_], _ => rfl
  have e := hfa.symm.trans FL.mgf
  cases e
  exact ⟨d_law, bL, fun base _ _ => all_ok (c := ⟨cH, cL, cS, cD⟩) (cC := cC) E (apart_of ap) hI X G a_has_fact a_count_in a_law_cell a_law_mix a_law_box a_law_take a_law_listed a_law_drawn a_law_made a_law_facts a_law_set a_law_due a_law_fields a_law_right a_law (PySem.W.mg_of X G n_Have) y_Have.1.1.2 y_Have.1.2 a_Have_init a_Have_shown a_Have_carried a_Have_blocked a_Have_leaning (PySem.W.mg_of X G n_Lack) y_Lack.1.1.2 y_Lack.1.2 a_Lack_init a_Lack_shown a_Lack_carried a_Lack_blocked a_Lack_leaning (PySem.W.mg_of X G n_Some) y_Some.1.1.2 y_Some.1.2 a_Some_init a_Some_shown a_Some_carried a_Some_blocked a_Some_leaning (PySem.W.mg_of X G n_Lead) y_Lead.1.1.2 y_Lead.1.2 a_Lead_init a_Lead_shown a_Lead_carried a_Lead_blocked a_Lead_leaning⟩
end K11
open PySem PySem.W PyProof.Rows L2 DD
/-- the text without its rows that name a file -/
def K11.viewQ : Program := PySem.W.view PySem.Challenge.pw_notring_k11_conds_by_two_sets [1, 3, 4, 5, 6, 7, 8, 10, 11, 12, 13, 14, 15, 16, 17, 18, 19, 20, 21, 22]
local macro_rules
  | `(tactic| o_head $H:term) => `(tactic| refine holds_open (q := K11.viewQ) (loose := []) (Xt := fun s => xlAt K11.viewQ [] s && recOk [] s) (XP := XL K11.viewQ []) (Yf := Hook.obs $H) (Ya := Hook.val $H) (YP := Hook.says $H) (N := 4446) ?$(Lean.mkIdent `hl) (Hook.of $H) (Hook.keeps $H)
      (fun s e => xl_of s (Bool.and_eq_true_iff.mp e).1) XL.keeps (by rfl) (by rfl) (by rfl) (fun s e => recFacts_of (Bool.and_eq_true_iff.mp e).2) (by rfl) (by first | assumption | decide +kernel) (by decide +kernel) ⟨rfl, rfl, rfl, rfl, rfl, by decide +kernel⟩ ?$(Lean.mkIdent `hw) ?$(Lean.mkIdent `hc))
set_option maxRecDepth 100000 in
set_option maxHeartbeats 0 in
theorem PySem.Challenge.cw_notring_k11_conds_by_two_sets_holds : PySem.Challenge.rw_notring_k11_conds_by_two_sets.Holds := by
  w_on; o_law; k_head
  (case hl => intro w; kernel_rfl)
  (case hw => w_witness2)
  k_fill
  refine DD.walkD (l := PySem.Challenge.rw_notring_k11_conds_by_two_sets) (n := 63) (k := 5) (x := "_law_script") rfl (by decide) rfl ⟨rfl, by decide, by decide⟩ K11.law_ok (fun w h Y => PySem.W.kIn_of Y) ?noL ?defs
  case noL => intro w; kernel_rfl
  case defs =>
    intro w mg fa h KX G hmg
    refine' K11.all_mk KX G hmg ?ap ?gl ?bl ?n_Cond ?n_Have ?k_Have ?n_Lack ?k_Lack ?n_Some ?k_Some ?n_Lead ?k_Lead (DefAt.mk' ?a_has_fact ?l_has_fact ?c_has_fact ?k_has_fact) (DefAt.mk' ?a_count_in ?l_count_in ?c_count_in ?k_count_in) (DefAt.mk' ?a_law_cell ?l_law_cell ?c_law_cell ?k_law_cell) (DefAt.mk' ?a_law_mix ?l_law_mix ?c_law_mix ?k_law_mix) (DefAt.mk' ?a_law_box ?l_law_box ?c_law_box ?k_law_box) (DefAt.mk' ?a_law_take ?l_law_take ?c_law_take ?k_law_take) (DefAt.mk' ?a_law_listed ?l_law_listed ?c_law_listed ?k_law_listed) (DefAt.mk' ?a_law_drawn ?l_law_drawn ?c_law_drawn ?k_law_drawn) (DefAt.mk' ?a_law_made ?l_law_made ?c_law_made ?k_law_made) (DefAt.mk' ?a_law_facts ?l_law_facts ?c_law_facts ?k_law_facts) (DefAt.mk' ?a_law_set ?l_law_set ?c_law_set ?k_law_set) (DefAt.mk' ?a_law_due ?l_law_due ?c_law_due ?k_law_due) (DefAt.mk' ?a_law_fields ?l_law_fields ?c_law_fields ?k_law_fields) (DefAt.mk' ?a_law_right ?l_law_right ?c_law_right ?k_law_right) (DefAt.mk' ?a_law ?l_law ?c_law ?k_law) (MethAt.mk' ?a_Have_init ?l_Have_init ?n_Have_init ?c_Have_init ?k_Have_init) (MethAt.mk' ?a_Have_shown ?l_Have_shown ?n_Have_shown ?c_Have_shown ?k_Have_shown) (MethAt.mk' ?a_Have_carried ?l_Have_carried ?n_Have_carried ?c_Have_carried ?k_Have_carried) (MethAt.mk' ?a_Have_blocked ?l_Have_blocked ?n_Have_blocked ?c_Have_blocked ?k_Have_blocked) (MethAt.mk' ?a_Have_leaning ?l_Have_leaning ?n_Have_leaning ?c_Have_leaning ?k_Have_leaning) (MethAt.mk' ?a_Lack_init ?l_Lack_init ?n_Lack_init ?c_Lack_init ?k_Lack_init) (MethAt.mk' ?a_Lack_shown ?l_Lack_shown ?n_Lack_shown ?c_Lack_shown ?k_Lack_shown) (MethAt.mk' ?a_Lack_carried ?l_Lack_carried ?n_Lack_carried ?c_Lack_carried ?k_Lack_carried) (MethAt.mk' ?a_Lack_blocked ?l_Lack_blocked ?n_Lack_blocked ?c_Lack_blocked ?k_Lack_blocked) (MethAt.mk' ?a_Lack_leaning ?l_Lack_leaning ?n_Lack_leaning ?c_Lack_leaning ?k_Lack_leaning) (MethAt.mk' ?a_Some_init ?l_Some_init ?n_Some_init ?c_Some_init ?k_Some_init) (MethAt.mk' ?a_Some_shown ?l_Some_shown ?n_Some_shown ?c_Some_shown ?k_Some_shown) (MethAt.mk' ?a_Some_carried ?l_Some_carried ?n_Some_carried ?c_Some_carried ?k_Some_carried) (MethAt.mk' ?a_Some_blocked ?l_Some_blocked ?n_Some_blocked ?c_Some_blocked ?k_Some_blocked) (MethAt.mk' ?a_Some_leaning ?l_Some_leaning ?n_Some_leaning ?c_Some_leaning ?k_Some_leaning) (MethAt.mk' ?a_Lead_init ?l_Lead_init ?n_Lead_init ?c_Lead_init ?k_Lead_init) (MethAt.mk' ?a_Lead_shown ?l_Lead_shown ?n_Lead_shown ?c_Lead_shown ?k_Lead_shown) (MethAt.mk' ?a_Lead_carried ?l_Lead_carried ?n_Lead_carried ?c_Lead_carried ?k_Lead_carried) (MethAt.mk' ?a_Lead_blocked ?l_Lead_blocked ?n_Lead_blocked ?c_Lead_blocked ?k_Lead_blocked) (MethAt.mk' ?a_Lead_leaning ?l_Lead_leaning ?n_Lead_leaning ?c_Lead_leaning ?k_Lead_leaning)
    (case n_Cond => k_is)
    (case n_Have => k_is)
    (case n_Lack => k_is)
    (case n_Some => k_is)
    (case n_Lead => k_is)
    (case a_has_fact => k_is)
    (case l_has_fact => k_is)
    (case c_has_fact => k_is)
    (case k_has_fact => k_is)
    (case a_count_in => k_is)
    (case l_count_in => k_is)
    (case c_count_in => k_is)
    (case k_count_in => k_is)
    (case a_law_cell => k_is)
    (case l_law_cell => k_is)
    (case c_law_cell => k_is)
    (case k_law_cell => k_is)
    (case a_law_mix => k_is)
    (case l_law_mix => k_is)
    (case c_law_mix => k_is)
    (case k_law_mix => k_is)
    (case a_law_box => k_is)
    (case l_law_box => k_is)
    (case c_law_box => k_is)
    (case k_law_box => k_is)
    (case a_law_take => k_is)
    (case l_law_take => k_is)
    (case c_law_take => k_is)
    (case k_law_take => k_is)
    (case a_law_listed => k_is)
    (case l_law_listed => k_is)
    (case c_law_listed => k_is)
    (case k_law_listed => k_is)
    (case a_law_drawn => k_is)
    (case l_law_drawn => k_is)
    (case c_law_drawn => k_is)
    (case k_law_drawn => k_is)
    (case a_law_made => k_is)
    (case l_law_made => k_is)
    (case c_law_made => k_is)
    (case k_law_made => k_is)
    (case a_law_facts => k_is)
    (case l_law_facts => k_is)
    (case c_law_facts => k_is)
    (case k_law_facts => k_is)
    (case a_law_set => k_is)
    (case l_law_set => k_is)
    (case c_law_set => k_is)
    (case k_law_set => k_is)
    (case a_law_due => k_is)
    (case l_law_due => k_is)
    (case c_law_due => k_is)
    (case k_law_due => k_is)
    (case a_law_fields => k_is)
    (case l_law_fields => k_is)
    (case c_law_fields => k_is)
    (case k_law_fields => k_is)
    (case a_law_right => k_is)
    (case l_law_right => k_is)
    (case c_law_right => k_is)
    (case k_law_right => k_is)
    (case a_law => k_is)
    (case l_law => k_is)
    (case c_law => k_is)
    (case k_law => k_is)
    (case a_Have_init => k_is)
    (case l_Have_init => k_is)
    (case n_Have_init => k_is)
    (case c_Have_init => k_is)
    (case k_Have_init => k_is)
    (case a_Have_shown => k_is)
    (case l_Have_shown => k_is)
    (case n_Have_shown => k_is)
    (case c_Have_shown => k_is)
    (case k_Have_shown => k_is)
    (case a_Have_carried => k_is)
    (case l_Have_carried => k_is)
    (case n_Have_carried => k_is)
    (case c_Have_carried => k_is)
    (case k_Have_carried => k_is)
    (case a_Have_blocked => k_is)
    (case l_Have_blocked => k_is)
    (case n_Have_blocked => k_is)
    (case c_Have_blocked => k_is)
    (case k_Have_blocked => k_is)
    (case a_Have_leaning => k_is)
    (case l_Have_leaning => k_is)
    (case n_Have_leaning => k_is)
    (case c_Have_leaning => k_is)
    (case k_Have_leaning => k_is)
    (case a_Lack_init => k_is)
    (case l_Lack_init => k_is)
    (case n_Lack_init => k_is)
    (case c_Lack_init => k_is)
    (case k_Lack_init => k_is)
    (case a_Lack_shown => k_is)
    (case l_Lack_shown => k_is)
    (case n_Lack_shown => k_is)
    (case c_Lack_shown => k_is)
    (case k_Lack_shown => k_is)
    (case a_Lack_carried => k_is)
    (case l_Lack_carried => k_is)
    (case n_Lack_carried => k_is)
    (case c_Lack_carried => k_is)
    (case k_Lack_carried => k_is)
    (case a_Lack_blocked => k_is)
    (case l_Lack_blocked => k_is)
    (case n_Lack_blocked => k_is)
    (case c_Lack_blocked => k_is)
    (case k_Lack_blocked => k_is)
    (case a_Lack_leaning => k_is)
    (case l_Lack_leaning => k_is)
    (case n_Lack_leaning => k_is)
    (case c_Lack_leaning => k_is)
    (case k_Lack_leaning => k_is)
    (case a_Some_init => k_is)
    (case l_Some_init => k_is)
    (case n_Some_init => k_is)
    (case c_Some_init => k_is)
    (case k_Some_init => k_is)
    (case a_Some_shown => k_is)
    (case l_Some_shown => k_is)
    (case n_Some_shown => k_is)
    (case c_Some_shown => k_is)
    (case k_Some_shown => k_is)
    (case a_Some_carried => k_is)
    (case l_Some_carried => k_is)
    (case n_Some_carried => k_is)
    (case c_Some_carried => k_is)
    (case k_Some_carried => k_is)
    (case a_Some_blocked => k_is)
    (case l_Some_blocked => k_is)
    (case n_Some_blocked => k_is)
    (case c_Some_blocked => k_is)
    (case k_Some_blocked => k_is)
    (case a_Some_leaning => k_is)
    (case l_Some_leaning => k_is)
    (case n_Some_leaning => k_is)
    (case c_Some_leaning => k_is)
    (case k_Some_leaning => k_is)
    (case a_Lead_init => k_is)
    (case l_Lead_init => k_is)
    (case n_Lead_init => k_is)
    (case c_Lead_init => k_is)
    (case k_Lead_init => k_is)
    (case a_Lead_shown => k_is)
    (case l_Lead_shown => k_is)
    (case n_Lead_shown => k_is)
    (case c_Lead_shown => k_is)
    (case k_Lead_shown => k_is)
    (case a_Lead_carried => k_is)
    (case l_Lead_carried => k_is)
    (case n_Lead_carried => k_is)
    (case c_Lead_carried => k_is)
    (case k_Lead_carried => k_is)
    (case a_Lead_blocked => k_is)
    (case l_Lead_blocked => k_is)
    (case n_Lead_blocked => k_is)
    (case c_Lead_blocked => k_is)
    (case k_Lead_blocked => k_is)
    (case a_Lead_leaning => k_is)
    (case l_Lead_leaning => k_is)
    (case n_Lead_leaning => k_is)
    (case c_Lead_leaning => k_is)
    (case k_Lead_leaning => k_is)
    (case ap => kernel_rfl)
    (case gl => kernel_rfl)
    (case bl => kernel_rfl)
    (case k_Have => kernel_rfl)
    (case k_Lack => kernel_rfl)
    (case k_Some => kernel_rfl)
    (case k_Lead => kernel_rfl)
#print axioms PySem.Challenge.cw_notring_k11_conds_by_two_sets_holds
