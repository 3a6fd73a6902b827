import PyProof.Rows.All
import Wide.All
import OpenK.AllK
import Wide.FinOn
import Lean
import PyProof.EqAt
import PyProof.EqKinds
import PyProof.TupleCall
import PySem.Challenge.RW_rollcode_k11_cells_that_were_out
set_option Elab.async false
set_option maxRecDepth 100000
set_option maxHeartbeats 4000000
set_option linter.unusedVariables false
-- CHANGE: your row's module here, as the last of these rows
set_option linter.all false
/-! THE HAND LAYER, for ints, bools, texts, own classes, LISTS and tuples (index, slices, in, append, pop ..), calls, loops. Paste it whole ahead of your own text; what your proof does not reach may be deleted. -/
namespace L2
open PySem PySem.Spec PyProof.Rows

/-- a key: an int or a str -/
abbrev Key := Sum Int Str
def keyIs : Key → Value → Bool
  | .inl k, v => Value.isInt k v
  | .inr x, v => Value.isStrOf x v
def keyH (w : World) : Key → Int
  | .inl k => hashInt k
  | .inr x => hashStr w x
theorem keyIs_shape : ∀ {k : Key} {v : Value}, keyIs k v = true → (∃ i t, k = Sum.inl i ∧ v = Value.int i t) ∨ (∃ x t, k = Sum.inr x ∧ v = Value.str x t)
  | .inl i, v, h => by
    obtain ⟨t, e⟩ := Value.isInt_shape (k := i) (v := v) h
    exact .inl ⟨i, t, rfl, e⟩
  | .inr x, v, h => by
    obtain ⟨t, e⟩ := Value.isStrOf_shape (x := x) (v := v) h
    exact .inr ⟨x, t, rfl, e⟩
theorem keyIs_int (i : Int) (t : Tok) : keyIs (.inl i) (.int i t) = true := by simp [keyIs, Value.isInt]
theorem keyIs_str (x : Str) (t : Tok) : keyIs (.inr x) (.str x t) = true := by simp [keyIs, Value.isStrOf]
theorem key_ll (a b : Int) : decide ((Sum.inl a : Key) = Sum.inl b) = (a == b) := by
  by_cases e : a = b
  · subst e; simp
  · have h : ¬ (Sum.inl a : Key) = Sum.inl b := fun q => e (Sum.inl.inj q)
    rw [decide_eq_false h]
    exact (beq_eq_false_iff_ne.mpr e).symm
theorem key_rr (a b : Str) : decide ((Sum.inr a : Key) = Sum.inr b) = decide (a = b) := by
  by_cases e : a = b
  · subst e; simp
  · have h : ¬ (Sum.inr a : Key) = Sum.inr b := fun q => e (Sum.inr.inj q)
    rw [decide_eq_false h, decide_eq_false e]
theorem key_lr (a : Int) (b : Str) : decide ((Sum.inl a : Key) = Sum.inr b) = false := decide_eq_false (fun q => nomatch q)
theorem key_rl (a : Str) (b : Int) : decide ((Sum.inr a : Key) = Sum.inl b) = false := decide_eq_false (fun q => nomatch q)

def mixKind (prog : Program) (w : World) : PySem.KeyKind prog w Key where
  is := keyIs
  hash := keyH w
  inj := fun v a b ha hb => by
    rcases keyIs_shape ha with ⟨i, t, rfl, rfl⟩ | ⟨x, t, rfl, rfl⟩
    · rcases keyIs_shape hb with ⟨j, u, rfl, e⟩ | ⟨y, u, rfl, e⟩
      · injection e with e1 _; rw [e1]
      · exact nomatch e
    · rcases keyIs_shape hb with ⟨j, u, rfl, e⟩ | ⟨y, u, rfl, e⟩
      · exact nomatch e
      · injection e with e1 _; rw [e1]
  byValue := fun k v h => by
    rcases keyIs_shape h with ⟨i, t, rfl, rfl⟩ | ⟨x, t, rfl, rfl⟩ <;> rfl
  pyHash := fun hv h => by
    rcases keyIs_shape hv with ⟨i, t, rfl, rfl⟩ | ⟨x, t, rfl, rfl⟩
    · exact wpAny_pyHash_int h
    · exact wpAny_pyHash_str h
  eqBool := fun hu hv h => by
    rcases keyIs_shape hu with ⟨i, t, rfl, rfl⟩ | ⟨x, t, rfl, rfl⟩
    · rcases keyIs_shape hv with ⟨j, u, rfl, rfl⟩ | ⟨y, u, rfl, rfl⟩
      · rw [key_ll] at h; exact wpAny_eqBool_int h
      · rw [key_lr] at h; exact SeqAt.EqAt.int_str i t y u _ _ _ _ h
    · rcases keyIs_shape hv with ⟨j, u, rfl, rfl⟩ | ⟨y, u, rfl, rfl⟩
      · rw [key_rl] at h; exact SeqAt.EqAt.str_int x t j u _ _ _ _ h
      · rw [key_rr] at h; exact wpAny_eqBool_str h
  «strs» := fun k x t v h => by
    rcases keyIs_shape h with ⟨i, u, rfl, e⟩ | ⟨y, u, rfl, e⟩
    · exact nomatch e
    · injection e with e1 _
      subst e1
      cases v <;> rfl

theorem mixKind_is (prog : Program) (w : World) (k : Key) (v : Value) : (mixKind prog w).is k v = keyIs k v := rfl
theorem mixKind_int (prog : Program) (w : World) (i : Int) (t : Tok) : (mixKind prog w).is (.inl i) (.int i t) = true := keyIs_int i t
theorem mixKind_str (prog : Program) (w : World) (x : Str) (t : Tok) : (mixKind prog w).is (.inr x) (.str x t) = true := keyIs_str x t
end L2

namespace L2
open PySem PySem.Spec PyProof.Rows

/-- a value, without the heap -/
inductive V where
  | non | bl (b : Bool) | int (i : Int) | str (x : Str) | byt (b : Array UInt8) | flt (b : UInt64) | ref (a : Addr) | ty (n : String)
  deriving DecidableEq

def RelV : V → Value → Prop
  | .non, u => u = Value.none
  | .bl b, u => u = Value.bool b
  | .int i, u => ∃ t, u = Value.int i t
  | .str x, u => ∃ t, u = Value.str x t
  | .byt b, u => ∃ t, u = Value.bytes b t
  | .flt b, u => ∃ t, u = Value.float b t
  | .ref a, u => u = Value.ref a
  | .ty n, u => u = Value.type n

abbrev Vals : List V → List Value → Prop := Paired RelV
theorem Vals.length {xs : List V} {us : List Value} (r : Vals xs us) : xs.length = us.length := Paired.length r
theorem Vals.get : ∀ {xs : List V} {us : List Value} {i : Nat} {x : V}, Vals xs us → xs[i]? = some x → ∃ u, us[i]? = some u ∧ RelV x u
  | _, _, _, _, .nil, e => by simp at e
  | _, _, 0, _, .cons r _, e => by simp at e; subst e; exact ⟨_, rfl, r⟩
  | _, _, i + 1, x, .cons _ t, e => by
    obtain ⟨u, h1, h2⟩ := Vals.get (i := i) (x := x) t (by simpa using e)
    exact ⟨u, by simpa using h1, h2⟩
theorem Vals.set {x : V} {u : Value} (r : RelV x u) : ∀ {xs : List V} {us : List Value} (i : Nat), Vals xs us → Vals (xs.set i x) (us.set i u)
  | _, _, _, .nil => .nil
  | _, _, 0, .cons _ t => .cons r t
  | _, _, i + 1, .cons q t => .cons q (Vals.set r i t)
theorem Vals.append : ∀ {xs ys : List V} {us ws : List Value}, Vals xs us → Vals ys ws → Vals (xs ++ ys) (us ++ ws)
  | _, _, _, _, .nil, s => s
  | _, _, _, _, .cons r t, s => .cons r (Vals.append t s)
theorem Vals.take : ∀ {xs : List V} {us : List Value} (n : Nat), Vals xs us → Vals (xs.take n) (us.take n)
  | _, _, 0, _ => .nil
  | _, _, _ + 1, .nil => .nil
  | _, _, n + 1, .cons r t => .cons r (Vals.take n t)
theorem Vals.drop : ∀ {xs : List V} {us : List Value} (n : Nat), Vals xs us → Vals (xs.drop n) (us.drop n)
  | _, _, 0, r => r
  | _, _, _ + 1, .nil => .nil
  | _, _, n + 1, .cons _ t => Vals.drop n t
theorem Vals.none_of : ∀ {xs : List V} {us : List Value} {i : Nat}, Vals xs us → xs[i]? = none → us[i]? = none := fun {xs us i} r e => by
  have h1 := r.length
  have h2 : xs.length ≤ i := List.getElem?_eq_none_iff.mp e
  exact List.getElem?_eq_none_iff.mpr (by omega)

def RelO : Option V → Option Value → Prop
  | some v, some u => RelV v u
  | none, none => True
  | _, _ => False
def KV {κ : Type} : List (κ × V) → List (κ × Value) → Prop := Paired fun (p : κ × V) (q : κ × Value) => p.1 = q.1 ∧ RelV p.2 q.2

/-- a key of a dict (00_mix): an int or a text -/
def kV : Key → V
  | .inl i => .int i
  | .inr x => .str x

/-- what stands at a tracked address -/
inductive HO where
  /-- a list -/
  | lst (xs : List V)
  /-- a tuple (never changes) -/
  | tup (xs : List V)
  /-- a dict whose keys are ints and texts; one whose keys are tuples of ints and texts (the empty one is both) -/
  | dK (kvs : List (Key × V)) | dT (kvs : List (List Key × V))
  /-- a set of ints: its members, its size -/
  | set (S : Int → Bool) (n : Nat)
  /-- an instance of the class at C, its dict at dx, its attributes -/
  | ins (C dx : Addr) (fs : List (Str × V))
  /-- the dict of the instance at x -/
  | own (x : Addr)
  /-- the dict of an exception -/
  | xd (fs : List (Str × V))
  /-- a bound method, f of x -/
  | met (f x : Addr)
  /-- a range object lo, lo + 1, .. below hi -/
  | rng (lo hi : Int)
  /-- a thing that is known to the object (the script; a dict while a loop walks it): read, never written while it is so -/
  | frz (o : Obj) (u : HO)
  /-- a code object's table -/
  | tbl (ps : Array Value)
  /-- any other thing, by what is true of its one object (a def of one's own: SetO a S n := HO.ext fun h => ..) -/
  | ext (φ : Heap → Prop)

abbrev Hp := Addr → Option HO
def upd (H : Hp) (a : Addr) (o : HO) : Hp := fun b => if b = a then some o else H b
theorem upd_same {H : Hp} {a : Addr} {o : HO} : upd H a o a = some o := by unfold upd; rw [if_pos rfl]
theorem upd_ne {H : Hp} {a b : Addr} {o : HO} (h : b ≠ a) : upd H a o b = H b := by unfold upd; rw [if_neg h]
theorem upd_upd {H : Hp} {a : Addr} {o u : HO} : upd (upd H a o) a u = upd H a u := by
  funext b; unfold upd; split <;> rfl
/-- two objects of different content stand apart -/
theorem ne_of {H : Hp} {a b : Addr} {o u : HO} (h : H a = some o) (h' : H b = some u) (d : o ≠ u) : a ≠ b := by
  intro e; subst e; rw [h] at h'; exact d (Option.some.inj h')
theorem ne_of_none {H : Hp} {a b : Addr} {o : HO} (h : H a = some o) (h' : H b = none) : a ≠ b := by
  intro e; subst e; rw [h] at h'; cases h'

section
variable (P : Program) (w : World)
def ObjOk (H : Hp) (h : Heap) (a : Addr) : HO → Prop
  | .lst xs => xs.length ≤ sizeLine ∧ ∃ (its : List Value) (n : Nat), Vals xs its ∧ h.get? a = some { cls := .type "list", data := .seq its.toArray n }
  | .tup xs => xs.length ≤ sizeLine ∧ ∃ its : List Value, Vals xs its ∧ IsTup h a its.toArray
  | .dK kvs => kvs.length ≤ sizeLine ∧ (a == sysModules) = false ∧ ∃ vs, KV kvs vs ∧ h.DictOf (mixKind P w) a vs
  | .dT kvs => kvs.length ≤ sizeLine ∧ (a == sysModules) = false ∧ ∃ xs : List (List Key × Addr × Value),
      Paired (fun (p : List Key × V) (q : List Key × Addr × Value) => p.1 = q.1 ∧ H q.2.1 = some (.tup (p.1.map kV)) ∧ RelV p.2 q.2.2) kvs xs ∧
      ∃ o es ep, h.get? a = some o ∧ o.ExactDict ∧ o.data = .dict es ep ∧ es.toList = xs.map (entryOfKey (tupleKind (mixKind P w))) ∧ (xs.map (·.1)).Nodup
  | .set S n => h.SetOf (intKind P w) a S n
  | .ins C dx fs => H dx = some (.own a) ∧ fs.length ≤ 1000 ∧ dx ≠ a ∧ h.get? a = some (PySem.W.instObj C dx) ∧
      ∃ mA, h.Ns1 dx mA ∧ (∀ f, RelO (fs.lookup f) (mA f)) ∧ PySem.Within mA (fs.map (·.1))
  | .own _ => ∃ o, h.get? a = some o
  | .xd fs => ∃ mA, h.Ns1 a mA ∧ ∀ f, RelO (fs.lookup f) (mA f)
  | .rng lo hi => ∃ t u v, h.get? a = some { cls := .type "range", data := .fields #[.int lo t, .int hi u, .int 1 v] }
  | .frz o u => h.get? a = some o ∧ ObjOk H h a u
  | .tbl ps => h.get? a = some { cls := .none, data := .fields ps }
  | .met f x => h.get? a = some (PySem.W.methodObj (.ref f) (.ref x))
  | .ext φ => φ h ∧ (∃ o, h.get? a = some o) ∧ ∀ h1 h2 : Heap, φ h1 → (∀ o, h1.get? a = some o → h2.get? a = some o) → φ h2
/-- the abstract heap is held -/
def HOk (H : Hp) (h : Heap) : Prop := ∀ a o, H a = some o → ObjOk P w H h a o
end

section
variable {P : Program} {w : World} {H H' : Hp} {h h' : Heap} {a : Addr} {o : HO}
theorem ObjOk.lt (x : ObjOk P w H h a o) : a < h.objs.size := by
  cases o with
  | lst xs => obtain ⟨_, _, _, _, e⟩ := x; exact Heap.lt_size e
  | tup xs => obtain ⟨_, _, _, p⟩ := x; exact p.lt
  | dK kvs => obtain ⟨_, _, _, _, o, _, _, e, _⟩ := x; exact Heap.lt_size e
  | dT kvs => obtain ⟨_, _, _, _, o, _, _, e, _⟩ := x; exact Heap.lt_size e
  | set S n => obtain ⟨o, _, _, _, e, _⟩ := x; exact Heap.lt_size e
  | ins C dx fs => obtain ⟨_, _, _, e, _⟩ := x; exact Heap.lt_size e
  | own y => obtain ⟨_, e⟩ := x; exact Heap.lt_size e
  | xd fs => obtain ⟨_, ⟨_, _, _, e, _⟩, _⟩ := x; exact Heap.lt_size e
  | rng lo hi => obtain ⟨_, _, _, e⟩ := x; exact Heap.lt_size e
  | frz ob u => obtain ⟨e, _⟩ := x; exact Heap.lt_size e
  | tbl ps => exact Heap.lt_size (show h.get? a = some _ from x)
  | met f y => exact Heap.lt_size (show h.get? a = some _ from x)
  | ext φ => obtain ⟨_, ⟨_, e⟩, _⟩ := x; exact Heap.lt_size e
theorem Paired.mapP {α β : Type} {F G : α → β → Prop} : ∀ {l₁ : List α} {l₂ : List β}, Paired F l₁ l₂ → (∀ a b, F a b → G a b) → Paired G l₁ l₂
  | _, _, .nil, _ => .nil
  | _, _, .cons r t, f => .cons (f _ _ r) (Paired.mapP t f)
theorem Paired.imp' {α β : Type} {F G : α → β → Prop} (f : ∀ a b, F a b → G a b) {l₁ : List α} {l₂ : List β} (r : Paired F l₁ l₂) : Paired G l₁ l₂ := Paired.mapP r f
/-- what an object's description leans on: its own object, its own dict, the tuples -/
theorem ObjOk.stay (x : ObjOk P w H h a o) (k : ∀ b u, (b = a ∨ H b = some (.own a)) → h.get? b = some u → h'.get? b = some u)
    (ho : ∀ b, H b = some (.own a) → H' b = some (.own a)) (ht : ∀ b xs, H b = some (.tup xs) → H' b = some (.tup xs)) : ObjOk P w H' h' a o := by
  induction o with
  | lst xs => obtain ⟨z, its, n, r, e⟩ := x; exact ⟨z, its, n, r, k _ _ (.inl rfl) e⟩
  | tup xs => obtain ⟨z, its, r, ob, e, c⟩ := x; exact ⟨z, its, r, ob, k _ _ (.inl rfl) e, c⟩
  | dK kvs => obtain ⟨z, y, vs, r, ob, es, ep, e, c⟩ := x; exact ⟨z, y, vs, r, ob, es, ep, k _ _ (.inl rfl) e, c⟩
  | dT kvs =>
    obtain ⟨z, y, xs, r, ob, es, ep, e, c⟩ := x
    exact ⟨z, y, xs, Paired.mapP r fun p q z => ⟨z.1, ht _ _ z.2.1, z.2.2⟩, ob, es, ep, k _ _ (.inl rfl) e, c⟩
  | set S n => obtain ⟨ob, es, ep, t, e, c⟩ := x; exact ⟨ob, es, ep, t, k _ _ (.inl rfl) e, c⟩
  | ins C dx fs =>
    obtain ⟨d, z, ne, e, mA, ⟨od, es, ep, e2, c⟩, r⟩ := x
    exact ⟨ho _ d, z, ne, k _ _ (.inl rfl) e, mA, ⟨od, es, ep, k _ _ (.inr d) e2, c⟩, r⟩
  | own y => obtain ⟨ob, e⟩ := x; exact ⟨ob, k _ _ (.inl rfl) e⟩
  | xd fs => obtain ⟨mA, ⟨od, es, ep, e, c⟩, r⟩ := x; exact ⟨mA, ⟨od, es, ep, k _ _ (.inl rfl) e, c⟩, r⟩
  | rng lo hi => obtain ⟨t, u, v, e⟩ := x; exact ⟨t, u, v, k _ _ (.inl rfl) e⟩
  | frz ob u ih => obtain ⟨e, q⟩ := x; exact ⟨k _ _ (.inl rfl) e, ih q⟩
  | tbl ps =>
    have e : h.get? a = some { cls := .none, data := .fields ps } := x
    show h'.get? a = some { cls := .none, data := .fields ps }
    exact k a _ (.inl rfl) e
  | met f y =>
    have e : h.get? a = some (PySem.W.methodObj (.ref f) (.ref y)) := x
    show h'.get? a = some (PySem.W.methodObj (.ref f) (.ref y))
    exact k a _ (.inl rfl) e
  | ext φ => obtain ⟨p, ⟨o, e⟩, st⟩ := x; exact ⟨st _ _ p fun o q => k _ _ (.inl rfl) q, ⟨o, k _ _ (.inl rfl) e⟩, st⟩
theorem HOk.lt (x : HOk P w H h) (e : H a = some o) : a < h.objs.size := (x a o e).lt
theorem HOk.fresh (x : HOk P w H h) (e : h.objs.size ≤ a) : H a = none := by
  cases q : H a with
  | none => rfl
  | some u => exact absurd (Nat.lt_of_lt_of_le (x.lt q) e) (Nat.lt_irrefl _)
/-- every object of the heap is kept -/
theorem HOk.kept (x : HOk P w H h) (k : ∀ b u, h.get? b = some u → h'.get? b = some u) : HOk P w H h' := fun a o e =>
  (x a o e).stay (fun b u _ q => k b u q) (fun _ q => q) fun _ _ q => q
/-- a new object is laid and tracked -/
theorem HOk.laid (x : HOk P w H h) (k : ∀ b u, h.get? b = some u → h'.get? b = some u) (hp : h.objs.size ≤ a) (new : ObjOk P w (upd H a o) h' a o) : HOk P w (upd H a o) h' := fun b u e => by
  have hn := x.fresh hp
  by_cases hb : b = a
  · subst hb; rw [upd_same] at e; cases e; exact new
  · rw [upd_ne hb] at e
    exact (x b u e).stay (fun c v _ q => k c v q) (fun c q => by rw [upd_ne (ne_of_none q hn)]; exact q) fun c xs q => by rw [upd_ne (ne_of_none q hn)]; exact q
end

/-- what may be read as u: it is u, or a known u -/
def Rd (H : Hp) (a : Addr) (u : HO) : Prop := H a = some u ∨ ∃ o, H a = some (.frz o u)
theorem Rd.of {H : Hp} {a : Addr} {u : HO} (h : H a = some u) : Rd H a u := .inl h
theorem Rd.ok {P : Program} {w : World} {H : Hp} {h : Heap} {a : Addr} {u : HO} (r : Rd H a u) (x : HOk P w H h) : ObjOk P w H h a u := by
  rcases r with r | ⟨o, r⟩
  · exact x a u r
  · obtain ⟨_, q⟩ := x a _ r
    exact q
/-- what may be written -/
def Mut : Option HO → Prop
  | some (.lst _) => True
  | some (.dK _) => True
  | some (.dT _) => True
  | some (.set _ _) => True
  | some (.ins _ _ _) => True
  | some (.ext _) => True
  | _ => False
section
variable {P : Program} {w : World} {H : Hp} {h h' : Heap} {x e : Addr} {o' : HO}
/-- the object at e is changed: x itself, or the dict of the instance x -/
theorem HOk.write (ok : HOk P w H h) (mu : Mut (H x)) (he : e = x ∨ H e = some (.own x)) (k : ∀ b u, b ≠ e → h.get? b = some u → h'.get? b = some u) (heo : ∃ u, h'.get? e = some u)
    (new : ObjOk P w (upd H x o') h' x o') : HOk P w (upd H x o') h' := fun b u q => by
  have nown : ∀ c y, H c = some (.own y) → c ≠ x := fun c y r z => by subst z; rw [r] at mu; exact mu
  have ntup : ∀ c xs, H c = some (.tup xs) → c ≠ x := fun c xs r z => by subst z; rw [r] at mu; exact mu
  by_cases hb : b = x
  · subst hb; rw [upd_same] at q; cases q; exact new
  · rw [upd_ne hb] at q
    by_cases hbe : b = e
    · have q' : H b = some (.own x) := by
        rcases he with z | z
        · exact absurd (hbe.trans z) hb
        · rw [hbe]; exact z
      rw [q] at q'; cases q'
      obtain ⟨v, hv⟩ := heo
      exact ⟨v, by rw [hbe]; exact hv⟩
    · refine (ok b u q).stay (fun c v hc r => k c v ?_ r) (fun c r => by rw [upd_ne (nown c b r)]; exact r) fun c xs r => by rw [upd_ne (ntup c xs r)]; exact r
      rcases hc with rfl | hc
      · exact hbe
      · rintro rfl
        rcases he with z | z
        · exact nown c b hc z
        · rw [hc] at z; cases z; exact hb rfl
end

/-! ### kept unless tracked; of the frames at fs (the callers') the slots may change (an exception that passes writes there); of the records at ex (iterators) nothing is said -/
structure Un (fs ex : List Addr) (H H' : Hp) (h h' : Heap) : Prop where
  keep : ∀ b o, h.get? b = some o → H b = none → b ∉ fs → b ∉ ex → h'.get? b = some o
  slot : ∀ b o, h.get? b = some o → H b = none → b ∈ fs → b ∉ ex → ∃ sl, h'.get? b = some { o with slots := sl }
  free : ∀ b o, h.get? b = some o → H b = none → b ∉ ex → H' b = none
  there : ∀ b o, h.get? b = some o → b ∉ ex → ∃ o', h'.get? b = some o'
  tups : ∀ b xs, H b = some (.tup xs) → H' b = some (.tup xs)
  frzs : ∀ b o u, H b = some (.frz o u) → H' b = some (.frz o u)
  tbls : ∀ b ps, H b = some (.tbl ps) → ∃ more, H' b = some (.tbl (ps ++ more))
section
variable {fs fs' ex ex' : List Addr} {H H1 H2 : Hp} {h h1 h2 h' : Heap} {a x e : Addr} {o : HO}
theorem Un.any (u : Un fs ex H H1 h h1) {b : Addr} {ob : Obj} (q : h.get? b = some ob) (n : H b = none) (hx : b ∉ ex) : ∃ sl, h1.get? b = some { ob with slots := sl } := by
  by_cases hb : b ∈ fs
  · exact u.slot b ob q n hb hx
  · exact ⟨ob.slots, u.keep b ob q n hb hx⟩
theorem Un.trans (a : Un fs ex H H1 h h1) (b : Un fs ex H1 H2 h1 h2) : Un fs ex H H2 h h2 where
  keep := fun c ob q n hc hx => b.keep c ob (a.keep c ob q n hc hx) (a.free c ob q n hx) hc hx
  slot := fun c ob q n hc hx => by
    obtain ⟨sl, e1⟩ := a.slot c ob q n hc hx
    obtain ⟨sl', e2⟩ := b.slot c _ e1 (a.free c ob q n hx) hc hx
    exact ⟨sl', e2⟩
  free := fun c ob q n hx => by
    obtain ⟨o', e1⟩ := a.there c ob q hx
    exact b.free c o' e1 (a.free c ob q n hx) hx
  there := fun c ob q hx => by
    obtain ⟨o', e1⟩ := a.there c ob q hx
    exact b.there c o' e1 hx
  tups := fun c xs q => b.tups c xs (a.tups c xs q)
  frzs := fun c ob xs q => b.frzs c ob xs (a.frzs c ob xs q)
  tbls := fun c ps q => by
    obtain ⟨m1, e1⟩ := a.tbls c ps q
    obtain ⟨m2, e2⟩ := b.tbls c _ e1
    exact ⟨m1 ++ m2, by rw [e2, Array.append_assoc]⟩
theorem Un.kept (k : ∀ b u, h.get? b = some u → h'.get? b = some u) : Un fs ex H H h h' :=
  ⟨fun b ob q _ _ _ => k b ob q, fun b ob q _ _ _ => ⟨ob.slots, k b ob q⟩, fun _ _ _ n _ => n, fun b ob q _ => ⟨ob, k b ob q⟩, fun _ _ q => q, fun _ _ _ q => q, fun _ ps q => ⟨#[], by rw [q]; simp⟩⟩
theorem Un.refl : Un fs ex H H h h := Un.kept fun _ _ q => q
theorem Un.laid (k : ∀ b u, h.get? b = some u → h'.get? b = some u) (hp : h.objs.size ≤ a) (hn : H a = none) : Un fs ex H (upd H a o) h h' where
  keep := fun b u q _ _ _ => k b u q
  slot := fun b u q _ _ _ => ⟨u.slots, k b u q⟩
  free := fun b u q n _ => by rw [upd_ne (Nat.ne_of_lt (Nat.lt_of_lt_of_le (Heap.lt_size q) hp))]; exact n
  there := fun b u q _ => ⟨u, k b u q⟩
  tups := fun b xs q => by rw [upd_ne (ne_of_none q hn)]; exact q
  frzs := fun b u xs q => by rw [upd_ne (ne_of_none q hn)]; exact q
  tbls := fun b ps q => ⟨#[], by rw [upd_ne (ne_of_none q hn), q]; simp⟩
theorem Un.write (mu : Mut (H x)) (he : e = x ∨ H e = some (.own x)) (k : ∀ b u, b ≠ e → h.get? b = some u → h'.get? b = some u) (heo : ∃ u, h'.get? e = some u) : Un fs ex H (upd H x o) h h' := by
  have hx : ∀ b, H b = none → b ≠ x := fun b n z => by subst z; rw [n] at mu; exact mu
  have hb : ∀ b, H b = none → b ≠ e := fun b n z => by
    subst z
    rcases he with r | r
    · exact hx b n r
    · rw [n] at r; cases r
  have hm : ∀ b u, H b = some u → ¬ Mut (some u) → b ≠ x := fun b u q nm z => by subst z; rw [q] at mu; exact nm mu
  refine ⟨fun b u q n _ _ => k b u (hb b n) q, fun b u q n _ _ => ⟨u.slots, k b u (hb b n) q⟩, fun b u q n _ => by rw [upd_ne (hx b n)]; exact n, fun b u q _ => ?_,
    fun b xs q => by rw [upd_ne (hm b _ q fun z => z)]; exact q, fun b u xs q => by rw [upd_ne (hm b _ q fun z => z)]; exact q, fun b ps q => ⟨#[], by rw [upd_ne (hm b _ q fun z => z), q]; simp⟩⟩
  by_cases hbe : b = e
  · subst hbe; exact heo
  · exact ⟨u, k b u hbe q⟩
theorem Un.mono (u : Un fs ex H H1 h h1) (hs : ∀ b ∈ fs, b ∈ fs') (hx : ∀ b ∈ ex, b ∈ ex') : Un fs' ex' H H1 h h1 :=
  ⟨fun b ob q n hb he => u.keep b ob q n (fun z => hb (hs b z)) fun z => he (hx b z), fun _ _ q n _ he => u.any q n fun z => he (hx _ z), fun b ob q n he => u.free b ob q n fun z => he (hx b z), fun b ob q he => u.there b ob q fun z => he (hx b z), u.tups, u.frzs, u.tbls⟩
end

/-! ### the heap without what is tracked -/
def trk (h : Heap) (H : Hp) : List Addr := (List.range h.objs.size).filter fun a => (H a).isSome
def hidT (h : Heap) (H : Hp) : Heap := PySem.W.hideAll h (trk h H)
theorem hidT_size (h : Heap) (H : Hp) : (hidT h H).objs.size = h.objs.size := PySem.W.hideAll_size _ _
theorem hidT_get {h : Heap} {H : Hp} {b : Addr} {o : Obj} (e : h.get? b = some o) (n : H b = none) : (hidT h H).get? b = some o :=
  PySem.W.hideAll_get _ e fun hm => by
    have q : (H b).isSome = true := (List.mem_filter.mp hm).2
    rw [n] at q; simp at q
theorem of_hidT {h : Heap} {H : Hp} {b : Addr} {o : Obj} (e : (hidT h H).get? b = some o) : h.get? b = some o ∧ H b = none := by
  have e' : h.get? b = some o := PySem.W.of_hideAll (trk h H) e
  refine ⟨e', ?_⟩
  cases q : H b with
  | none => rfl
  | some x =>
    have hm : b ∈ trk h H := List.mem_filter.mpr ⟨List.mem_range.mpr (Heap.lt_size e'), by simp [q]⟩
    have z : (hidT h H).get? b = none := PySem.W.hideAll_none (trk h H) hm
    rw [z] at e; cases e

/-! ### OpenK's ledger, filled with every new object but one -/
def allNews (g h : Heap) (L : Addr) : List (Addr × Obj) := (List.range h.objs.size).filterMap fun a => if a = L ∨ (g.get? a).isSome = true then none else (h.get? a).map fun o => (a, o)
theorem mem_allNews {g h : Heap} {L a : Addr} {o : Obj} (h1 : a ≠ L) (h2 : g.get? a = none) (h3 : h.get? a = some o) : (a, o) ∈ allNews g h L :=
  List.mem_filterMap.mpr ⟨a, List.mem_range.mpr (Heap.lt_size h3), by simp [h1, h2, h3]⟩
theorem of_mem_allNews {g h : Heap} {L : Addr} {p : Addr × Obj} (hp : p ∈ allNews g h L) : p.1 ≠ L ∧ g.get? p.1 = none ∧ h.get? p.1 = some p.2 := by
  obtain ⟨b, _, e⟩ := List.mem_filterMap.mp hp
  split at e
  · cases e
  · rename_i hn
    cases q : h.get? b with
    | none => rw [q] at e; simp at e
    | some u =>
      rw [q] at e
      simp only [Option.map_some, Option.some.injEq] at e
      subst e
      refine ⟨fun z => hn (.inl z), ?_, q⟩
      show g.get? b = none
      cases r : g.get? b with
      | none => rfl
      | some v => exact (hn (.inr (by simp [r]))).elim
def rest (g h : Heap) (L d : Addr) : List (Addr × Obj) := (allNews g h L).filter fun p => decide (p.1 ≠ d)
theorem rest_ne {g h : Heap} {L d : Addr} : ∀ p ∈ rest g h L d, p.1 ≠ d := fun p hp => of_decide_eq_true (List.mem_filter.mp hp).2
theorem mem_rest {g h : Heap} {L d a : Addr} {o : Obj} (h1 : a ≠ L) (h2 : g.get? a = none) (h3 : h.get? a = some o) (h4 : a ≠ d) : (a, o) ∈ rest g h L d :=
  List.mem_filter.mpr ⟨mem_allNews h1 h2 h3, decide_eq_true h4⟩
theorem news_all {g h : Heap} {L : Addr} : News g L h (allNews g h L) := fun p hp => let ⟨a, b, c⟩ := of_mem_allNews hp; ⟨c, a, b⟩
theorem news_at {g h : Heap} {L d : Addr} {o : Obj} (h1 : d ≠ L) (h2 : g.get? d = none) (h3 : h.get? d = some o) : News g L h ((d, o) :: rest g h L d) := fun p hp => by
  rcases List.mem_cons.mp hp with rfl | hp
  · exact ⟨h3, h1, h2⟩
  · exact news_all p (List.mem_filter.mp hp).1
/-- behind a rule that changed d alone: all else but the frame is kept -/
theorem kept_of_news {g h h' : Heap} {L d : Addr} {m : Str → Option Value} (k : ∀ b o, g.get? b = some o → h.get? b = some o) (F : Fr g L h' m) (N : News g L h' (rest g h L d)) :
    ∀ b o, b ≠ L → b ≠ d → h.get? b = some o → h'.get? b = some o := fun b o h1 h2 e => by
  cases q : g.get? b with
  | some u =>
    have := k b u q
    rw [e] at this; cases this
    exact F.keep b _ q
  | none => exact (N (b, o) (mem_rest h1 q e h2)).1
end L2

namespace L2
open PySem PySem.Spec PyProof.Rows

/-- the module's facts, over the base: the heap at the law's entry without what is tracked there -/
structure Mod (K : PySem.W.Frag) (mg : Str → Option Value) (base : Heap) : Prop where
  kin : K.In base
  glob : base.Ns mainGlobals mg
  blt : ∃ mb, base.Ns builtinsNs mb ∧ ∀ x : Str, x ≠ "__name__" → mb x = bootBuiltins x
  nolimit : base.NoLimit

/-- the context: a def's body (or a comprehension's block) running. base: fixed through the whole law; s₀, H₀: the entry; outer: the frames whose slots others may change (a def's callers); stack: all frames that run;
   ex: iterators that were made ahead of the entry and are walked here (a comprehension's); fn: the names whose cells were made at the entry (a def: all; a comprehension's block: its own); calm: not within an except suite; pn: pins that every state bears; xe: what is wanted of an exception that leaves the code -/
structure Cx where
  prog : Program
  w : World
  K : PySem.W.Frag
  mg : Str → Option Value
  base : Heap
  A : Around
  N : List Str
  s₀ : Shared
  H₀ : Hp
  env : Env
  outer : List Env
  stack : List Env
  ex : List Addr
  fn : Str → Bool
  calm : Bool
  pn : List (Addr × Obj)
  xe : Value → Shared → Prop
/-- the callers' frames -/
def frs (l : List Env) : List Addr := l.filterMap (·.frame)
abbrev Cx.fs (X : Cx) : List Addr := frs X.outer

def Vis (sc : Scope) (x : Str) : Prop := sc.names.lookup x = some .local ∨ sc.names.lookup x = some .cell ∨ sc.names.lookup x = some .free
def Loc (sc : Scope) (x : Str) : Prop := sc.names.lookup x = some .local ∨ sc.names.lookup x = some .cell
def Look (env : Env) (h : Heap) (m : Str → Option Value) (x : Str) (u : Value) : Prop :=
  (env.kindOf x = some .local ∧ m x = some u) ∨ ((env.kindOf x = some .cell ∨ env.kindOf x = some .free) ∧ ∃ c, env.cells.lookup x = some c ∧ h.IsCell c (some u))

structure Cx.Ok (X : Cx) : Prop where
  mod : Mod X.K X.mg X.base
  kind : X.env.scope.kind = .function
  glob : X.env.globals = mainGlobals
  blt : X.env.builtins = builtinsNs
  above : X.s₀.heap.objs.size ≤ X.env.locals
  inj : ∀ x y c, X.env.cells.lookup x = some c → X.env.cells.lookup y = some c → x = y
  has : ∀ x, (X.env.kindOf x = some .cell ∨ X.env.kindOf x = some .free) → ∃ c, X.env.cells.lookup x = some c
  cab : ∀ x c, X.fn x = true → X.env.cells.lookup x = some c → X.s₀.heap.objs.size ≤ c
  hd : X.calm = true → X.A.handled = none
  frames : X.A.frames = some X.stack
  stk : X.stack = X.outer ∨ (X.stack = X.env :: X.outer ∧ X.env.frame = some X.env.locals)
  exf : ∀ b ∈ X.ex, b ≠ X.env.locals ∧ ∀ x c, X.env.cells.lookup x = some c → c ≠ b
  bs : ∀ b o, X.base.get? b = some o → X.s₀.heap.get? b = some o ∧ X.H₀ b = none
  bsz : X.base.objs.size ≤ X.s₀.heap.objs.size
  noex : ∀ b o, X.base.get? b = some o → b ∉ X.ex
  exfs : ∀ b ∈ X.ex, b ∉ X.fs
  funs : X.s₀.heap.FunFrames X.base X.outer
  frf : ∀ b ∈ X.fs, X.H₀ b = none

structure Inv (X : Cx) (pins : List (Addr × Obj)) (σ : List (Option V)) (H : Hp) (s : Shared) : Prop where
  ok : X.Ok
  os : s.os = X.s₀.os
  bare : AllBare s.gens
  base : Un X.fs X.ex X.H₀ H X.s₀.heap s.heap
  loc : ∃ m, s.heap.Ns X.env.locals m ∧ ∀ (i : Nat) (x : Str) (v : V), X.N[i]? = some x → σ[i]? = some (some v) → Vis X.env.scope x → ∃ u, RelV v u ∧ Look X.env s.heap m x u
  cell : ∀ x c, X.env.cells.lookup x = some c → ∃ v, s.heap.IsCell c v
  free : H X.env.locals = none
  freeC : ∀ x c, X.env.cells.lookup x = some c → H c = none
  pin : ∀ p ∈ X.pn ++ pins, s.heap.get? p.1 = some p.2 ∧ H p.1 = none ∧ p.1 ≠ X.env.locals ∧ p.1 ∉ X.fs ∧ ∀ v, p.2.data ≠ .cell v
  hok : HOk X.prog X.w H s.heap
  len : σ.length = X.N.length

section
variable {X : Cx} {pins : List (Addr × Obj)} {σ : List (Option V)} {H H' : Hp} {s : Shared} {h' : Heap}

theorem Cx.Ok.nofr (ok : X.Ok) {b : Addr} {o : Obj} (e : X.base.get? b = some o) : b ∉ X.fs := fun hb => by
  have := (ok.funs.mem hb).1
  rw [e] at this; cases this
theorem Inv.bs (I : Inv X pins σ H s) : ∀ b o, X.base.get? b = some o → s.heap.get? b = some o ∧ H b = none := fun b o e =>
  ⟨I.base.keep b o (I.ok.bs b o e).1 (I.ok.bs b o e).2 (I.ok.nofr e) (I.ok.noex b o e), I.base.free b o (I.ok.bs b o e).1 (I.ok.bs b o e).2 (I.ok.noex b o e)⟩
theorem Inv.bk (I : Inv X pins σ H s) : ∀ b o, X.base.get? b = some o → s.heap.get? b = some o := fun b o e => (I.bs b o e).1
theorem Inv.mod (I : Inv X pins σ H s) : Mod X.K X.mg X.base := I.ok.mod
theorem Inv.kIn (I : Inv X pins σ H s) : X.K.In s.heap := I.ok.mod.kin.keeps I.bk
theorem Inv.nolimit (I : Inv X pins σ H s) : s.heap.NoLimit := I.ok.mod.nolimit.keeps I.bk
/-- the frame over the base: for OpenK's rules (K.In X.base is I.mod.kin) -/
theorem Inv.fr (I : Inv X pins σ H s) : ∃ m, Fr X.base X.env.locals s.heap m :=
  let ⟨m, hn, _⟩ := I.loc
  ⟨m, hn, I.bk, Nat.le_trans I.ok.bsz I.ok.above⟩
theorem Inv.lt (I : Inv X pins σ H s) : X.env.locals < s.heap.objs.size := let ⟨_, hn, _⟩ := I.loc; hn.lt
theorem Inv.sz (I : Inv X pins σ H s) : X.s₀.heap.objs.size ≤ s.heap.objs.size := Nat.le_trans I.ok.above (Nat.le_of_lt I.lt)
theorem Inv.nofs (I : Inv X pins σ H s) {a : Addr} (h : s.heap.objs.size ≤ a) : a ∉ X.fs := fun hb => by
  obtain ⟨_, o, ho, _⟩ := I.ok.funs.mem hb
  exact absurd (Nat.lt_of_lt_of_le (Heap.lt_size ho) (Nat.le_trans I.sz h)) (Nat.lt_irrefl _)
theorem Inv.cne (I : Inv X pins σ H s) : ∀ x c, X.env.cells.lookup x = some c → c ≠ X.env.locals := fun x c e z => by
  obtain ⟨v, o, ho, hd⟩ := I.cell x c e
  obtain ⟨m, ⟨o', es, ep, ho', hd', _⟩, _⟩ := I.loc
  rw [z, ho'] at ho; cases ho; rw [hd'] at hd; cases hd
theorem Inv.funs (I : Inv X pins σ H s) : s.heap.FunFrames X.base X.outer := by
  have all : ∀ (l : List Env), (∀ b ∈ frs l, b ∈ X.fs) → X.s₀.heap.FunFrames X.base l → s.heap.FunFrames X.base l := by
    intro l
    induction l with
    | nil => intro _ _; trivial
    | cons env r ih =>
      intro hs hl
      obtain ⟨hk, ⟨L, o, hf, hn, ho, hd⟩, hr⟩ := hl
      have hL : L ∈ X.fs := hs L (by unfold frs; rw [List.filterMap_cons, hf]; exact List.mem_cons_self)
      obtain ⟨sl, e⟩ := I.base.slot L o ho (I.ok.frf L hL) hL fun z => I.ok.exfs L z hL
      exact ⟨hk, ⟨L, _, hf, hn, e, hd⟩, ih (fun b hb => hs b (by unfold frs; rw [List.filterMap_cons, hf]; exact List.mem_cons_of_mem _ hb)) hr⟩
  exact all X.outer (fun _ hb => hb) I.ok.funs

/-- the frames that run, for a call -/
theorem Inv.stack (I : Inv X pins σ H s) : s.heap.FunFrames X.base X.stack := by
  rcases I.ok.stk with e | ⟨e, hf⟩
  · rw [e]; exact I.funs
  · rw [e]
    obtain ⟨m, hn, _⟩ := I.loc
    refine .cons (by rw [I.ok.kind]; decide) hf hn ?_ I.funs
    exact Heap.get?_none_of_le (Nat.le_trans I.ok.bsz I.ok.above)
theorem Inv.stkSub (I : Inv X pins σ H s) : ∀ b ∈ frs X.stack, b ∈ X.env.locals :: X.fs := fun b hb => by
  rcases I.ok.stk with e | ⟨e, hf⟩
  · rw [e] at hb; exact List.mem_cons_of_mem _ hb
  · rw [e] at hb
    unfold frs at hb
    rw [List.filterMap_cons, hf] at hb
    exact hb
theorem Inv.stkFree (I : Inv X pins σ H s) : ∀ b ∈ frs X.stack, H b = none := fun b hb => by
  rcases List.mem_cons.mp (I.stkSub b hb) with e | hb
  · rw [e]; exact I.free
  · obtain ⟨_, o, ho, _⟩ := I.ok.funs.mem hb
    exact I.base.free b o ho (I.ok.frf b hb) fun z => I.ok.exfs b z hb

/-- THE STEP: the untracked objects but the frame and the records at ch are kept (the callers' frames up to slots), the frame's map is kept, the new abstract heap is held -/
theorem Inv.step {g' : Array GenState} {t' : Nat} {d' : Drawn} {ch : List Addr} (I : Inv X pins σ H s)
    (hch : ∀ b ∈ ch, (b ∈ X.ex ∨ X.s₀.heap.objs.size ≤ b) ∧ b ≠ X.env.locals ∧ (∀ x c, X.env.cells.lookup x = some c → c ≠ b) ∧ ∀ p ∈ X.pn ++ pins, p.1 ≠ b)
    (keep : ∀ b o, b ≠ X.env.locals → b ∉ X.fs → b ∉ ch → s.heap.get? b = some o → H b = none → h'.get? b = some o)
    (slot : ∀ b o, b ≠ X.env.locals → b ∈ X.fs → b ∉ ch → s.heap.get? b = some o → H b = none → ∃ sl, h'.get? b = some { o with slots := sl }) (free : ∀ b o, b ∉ ch → s.heap.get? b = some o → H b = none → H' b = none)
    (there : ∀ b o, b ∉ ch → s.heap.get? b = some o → ∃ o', h'.get? b = some o')
    (tups : ∀ b xs, H b = some (.tup xs) → H' b = some (.tup xs)) (frzs : ∀ b o u, H b = some (.frz o u) → H' b = some (.frz o u)) (tbls : ∀ b ps, H b = some (.tbl ps) → ∃ more, H' b = some (.tbl (ps ++ more)))
    (ns : ∀ m, s.heap.Ns X.env.locals m → h'.Ns X.env.locals m) (hok : HOk X.prog X.w H' h') (hg : AllBare g') :
    Inv X pins σ H' { s with heap := h', gens := g', drawn := d', toks := t' } := by
  have neL : ∀ b o, X.s₀.heap.get? b = some o → b ≠ X.env.locals := fun b o e => Nat.ne_of_lt (Nat.lt_of_lt_of_le (Heap.lt_size e) I.ok.above)
  have neC : ∀ b o, X.s₀.heap.get? b = some o → b ∉ X.ex → b ∉ ch := fun b o e hx hb => by
    rcases (hch b hb).1 with z | z
    · exact hx z
    · exact absurd (Nat.lt_of_lt_of_le (Heap.lt_size e) z) (Nat.lt_irrefl _)
  have cellK : ∀ x c, X.env.cells.lookup x = some c → ∀ v, s.heap.IsCell c v → h'.IsCell c v := fun x c e v ⟨o, ho, hd⟩ => by
    have nch : c ∉ ch := fun z => (hch c z).2.2.1 x c e rfl
    by_cases hc : c ∈ X.fs
    · obtain ⟨sl, q⟩ := slot c o (I.cne x c e) hc nch ho (I.freeC x c e)
      exact ⟨_, q, hd⟩
    · exact ⟨o, keep c o (I.cne x c e) hc nch ho (I.freeC x c e), hd⟩
  refine ⟨I.ok, I.os, hg, ⟨fun b o e n hb hx => ?_, fun b o e n hb hx => ?_, fun b o e n hx => ?_, fun b o e hx => ?_, fun b xs e => tups b xs (I.base.tups b xs e), fun b o xs e => frzs b o xs (I.base.frzs b o xs e), fun b ps e => ?_⟩, ?_, fun x c e => ?_, ?_, fun x c e => ?_, fun p hp => ?_, hok, I.len⟩
  · exact keep b o (neL b o e) hb (neC b o e hx) (I.base.keep b o e n hb hx) (I.base.free b o e n hx)
  · obtain ⟨sl, e1⟩ := I.base.slot b o e n hb hx
    obtain ⟨sl', e2⟩ := slot b _ (neL b o e) hb (neC b o e hx) e1 (I.base.free b o e n hx)
    exact ⟨sl', e2⟩
  · obtain ⟨o', e1⟩ := I.base.there b o e hx
    exact free b o' (neC b o e hx) e1 (I.base.free b o e n hx)
  · obtain ⟨o', e1⟩ := I.base.there b o e hx
    exact there b o' (neC b o e hx) e1
  · obtain ⟨m1, e1⟩ := I.base.tbls b ps e
    obtain ⟨m2, e2⟩ := tbls b _ e1
    exact ⟨m1 ++ m2, by rw [e2, Array.append_assoc]⟩
  · obtain ⟨m, hn, hl⟩ := I.loc
    refine ⟨m, ns m hn, fun i x v e1 e2 e3 => ?_⟩
    obtain ⟨u, r, l⟩ := hl i x v e1 e2 e3
    refine ⟨u, r, ?_⟩
    rcases l with l | ⟨k, c, e, z⟩
    · exact .inl l
    · exact .inr ⟨k, c, e, cellK x c e _ z⟩
  · obtain ⟨v, z⟩ := I.cell x c e
    exact ⟨v, cellK x c e v z⟩
  · obtain ⟨m, ⟨o, _, _, ho, _⟩, _⟩ := I.loc
    exact free _ o (fun z => (hch _ z).2.1 rfl) ho I.free
  · obtain ⟨v, o, ho, hd⟩ := I.cell x c e
    exact free c o (fun z => (hch c z).2.2.1 x c e rfl) ho (I.freeC x c e)
  · obtain ⟨e, n, ne, nf, d⟩ := I.pin p hp
    have nch : p.1 ∉ ch := fun z => (hch p.1 z).2.2.2 p hp rfl
    exact ⟨keep p.1 p.2 ne nf nch e n, free p.1 p.2 nch e n, ne, nf, d⟩
/-- .. where the frame's own object is kept too -/
theorem Inv.un {t' : Nat} (I : Inv X pins σ H s) (u : Un X.fs [] H H' s.heap h') (hok : HOk X.prog X.w H' h') : Inv X pins σ H' { s with heap := h', toks := t' } := by
  obtain ⟨m, ⟨o, es, ep, ho, r⟩, _⟩ := id I.loc
  obtain ⟨sl, hL⟩ := u.any ho I.free (by simp)
  exact I.step (g' := s.gens) (d' := s.drawn) (ch := []) (fun _ z => nomatch z) (fun b o _ hb _ e n => u.keep b o e n hb (by simp)) (fun b o _ hb _ e n => u.slot b o e n hb (by simp)) (fun b o _ e n => u.free b o e n (by simp)) (fun b o _ e => u.there b o e (by simp)) u.tups u.frzs u.tbls (fun m' hm => by
    obtain ⟨o', es', ep', ho', r'⟩ := hm
    rw [ho] at ho'; cases ho'
    exact ⟨_, es', ep', hL, r'⟩) hok I.bare
/-- behind a call (or a comprehension's block): the slots of this frame may have changed too, the records at ch may have turned -/
theorem Inv.call {g' : Array GenState} {t' : Nat} {d' : Drawn} {ch : List Addr} (I : Inv X pins σ H s) (u : Un (frs X.stack) ch H H' s.heap h') (hok : HOk X.prog X.w H' h') (hg : AllBare g')
    (hch : ∀ b ∈ ch, (b ∈ X.ex ∨ X.s₀.heap.objs.size ≤ b) ∧ b ≠ X.env.locals ∧ (∀ x c, X.env.cells.lookup x = some c → c ≠ b) ∧ ∀ p ∈ X.pn ++ pins, p.1 ≠ b) :
    Inv X pins σ H' { s with heap := h', gens := g', drawn := d', toks := t' } := by
  obtain ⟨m, ⟨o, es, ep, ho, r⟩, _⟩ := id I.loc
  obtain ⟨sl, hL⟩ := u.any ho I.free fun z => (hch _ z).2.1 rfl
  exact I.step (ch := ch) hch (fun b o hL hb hc e n => u.keep b o e n (fun z => (List.mem_cons.mp (I.stkSub b z)).elim hL hb) hc) (fun b o _ _ hc e n => u.any e n hc) (fun b o hc e n => u.free b o e n hc) (fun b o hc e => u.there b o e hc) u.tups u.frzs u.tbls (fun m' hm => by
    obtain ⟨o', es', ep', ho', r'⟩ := hm
    rw [ho] at ho'; cases ho'
    exact ⟨_, es', ep', hL, r'⟩) hok hg
/-- an untracked record of ours (an iterator) has turned -/
theorem Inv.turned {t' : Nat} {it : Addr} (I : Inv X pins σ H s) (k : ∀ b o, b ≠ it → s.heap.get? b = some o → h'.get? b = some o) (hn : H it = none) (hL : it ≠ X.env.locals)
    (h1 : it ∈ X.ex ∨ X.s₀.heap.objs.size ≤ it) (h2 : ∀ x c, X.env.cells.lookup x = some c → c ≠ it) (h3 : ∀ p ∈ X.pn ++ pins, p.1 ≠ it) : Inv X pins σ H { s with heap := h', toks := t' } := by
  have nit : ∀ b u, H b = some u → b ≠ it := fun b u e z => by rw [z, hn] at e; cases e
  refine I.step (g' := s.gens) (d' := s.drawn) (ch := [it]) (fun b hb => ?_) (fun b o _ _ hc e _ => k b o (fun z => hc (by simp [z])) e) (fun b o _ _ hc e _ => ⟨o.slots, k b o (fun z => hc (by simp [z])) e⟩) (fun _ _ _ _ n => n)
    (fun b o hc e => ⟨o, k b o (fun z => hc (by simp [z])) e⟩) (fun _ _ e => e) (fun _ _ _ e => e) (fun b ps e => ⟨#[], by rw [e]; simp⟩) (fun m hm => ?_) (fun b u e => ?_) I.bare
  · have e : b = it := by simpa using hb
    subst e
    exact ⟨h1, hL, h2, h3⟩
  · obtain ⟨o, es, ep, ho, r⟩ := hm
    exact ⟨o, es, ep, k _ o (Ne.symm hL) ho, r⟩
  · refine (I.hok b u e).stay (fun c v hc q => k c v ?_ q) (fun _ q => q) fun _ _ q => q
    rcases hc with z | z
    · rw [z]; exact nit b u e
    · exact nit c _ z
theorem Inv.tok (I : Inv X pins σ H s) (t : Nat) : Inv X pins σ H { s with toks := t } := I.un (h' := s.heap) (t' := t) Un.refl I.hok
/-- all objects kept -/
theorem Inv.kept {t' : Nat} (I : Inv X pins σ H s) (k : ∀ b u, s.heap.get? b = some u → h'.get? b = some u) : Inv X pins σ H { s with heap := h', toks := t' } := I.un (Un.kept k) (I.hok.kept k)
/-- a new object laid and tracked -/
theorem Inv.laid {a : Addr} {o : HO} {t' : Nat} (I : Inv X pins σ H s) (k : ∀ b u, s.heap.get? b = some u → h'.get? b = some u) (hp : s.heap.objs.size ≤ a) (new : ObjOk X.prog X.w (upd H a o) h' a o) :
    Inv X pins σ (upd H a o) { s with heap := h', toks := t' } := I.un (Un.laid k hp (I.hok.fresh hp)) (I.hok.laid k hp new)
/-- an object written -/
theorem Inv.write {x e : Addr} {o : HO} {t' : Nat} (I : Inv X pins σ H s) (mu : Mut (H x)) (he : e = x ∨ H e = some (.own x)) (k : ∀ b u, b ≠ e → s.heap.get? b = some u → h'.get? b = some u) (heo : ∃ u, h'.get? e = some u)
    (new : ObjOk X.prog X.w (upd H x o) h' x o) : Inv X pins σ (upd H x o) { s with heap := h', toks := t' } := I.un (Un.write mu he k heo) (I.hok.write mu he k heo new)
/-- forgetting slots, pins -/
theorem Inv.weak {σ' : List (Option V)} (I : Inv X pins σ H s) (hl : σ'.length = σ.length) (w : ∀ (i : Nat) v, σ'[i]? = some (some v) → σ[i]? = some (some v)) : Inv X pins σ' H s :=
  ⟨I.ok, I.os, I.bare, I.base, let ⟨m, hn, hl'⟩ := I.loc; ⟨m, hn, fun i x v e1 e2 e3 => hl' i x v e1 (w i v e2) e3⟩, I.cell, I.free, I.freeC, I.pin, I.hok, hl.trans I.len⟩
theorem Inv.pins_of {pins' : List (Addr × Obj)} (I : Inv X pins σ H s) (h : ∀ p ∈ pins', s.heap.get? p.1 = some p.2 ∧ H p.1 = none ∧ p.1 ≠ X.env.locals ∧ p.1 ∉ X.fs ∧ ∀ v, p.2.data ≠ .cell v) : Inv X pins' σ H s :=
  ⟨I.ok, I.os, I.bare, I.base, I.loc, I.cell, I.free, I.freeC, fun p hp => (List.mem_append.mp hp).elim (fun z => I.pin p (List.mem_append_left _ z)) (h p), I.hok, I.len⟩

theorem nodup_ix {N : List Str} (hN : N.Nodup) {i j : Nat} {x : Str} (a : N[i]? = some x) (b : N[j]? = some x) : i = j := by
  obtain ⟨h1, e1⟩ := List.getElem?_eq_some_iff.mp a
  obtain ⟨h2, e2⟩ := List.getElem?_eq_some_iff.mp b
  exact (List.getElem_inj hN).mp (e1.trans e2.symm)

/-- a name is stored; what changed -/
theorem store_ok2 {M : Model} {A : Around} {E : Value → Shared → Prop} {i : Nat} {x : Str} {v : V} {u : Value} {Q : Unit → Shared → Prop} (I : Inv X pins σ H s) (hN : X.N.Nodup) (hi : X.N[i]? = some x) (hx : Loc X.env.scope x) (r : RelV v u)
    (h : ∀ s', Inv X pins (σ.set i (some v)) H s' → (∃ a, Heap.SameBut a s.heap s'.heap ∧ (a = X.env.locals ∨ X.env.cells.lookup x = some a)) → Q () s') (hf : X.fn x = true ∨ X.env.scope.names.lookup x = some .local := by first | exact .inl rfl | exact .inr rfl | assumption) : wpAny M A (storeName X.env x u) Q E s := by
  obtain ⟨m, hn, hl⟩ := id I.loc
  have hcls : (X.env.scope.kind == .class || (X.env.scope.kind == .module && X.env.locals != X.env.globals)) = false := by rw [I.ok.kind]; rfl
  have hiσ : i < σ.length := by rw [I.len]; exact (List.getElem?_eq_some_iff.mp hi).1
  have cne := I.cne
  have tracked : ∀ {a : Addr} {h' : Heap}, (∃ o, s.heap.get? a = some o ∧ H a = none) → Heap.SameBut a s.heap h' → HOk X.prog X.w H h' := fun {a h'} ha hs b ob e => by
    obtain ⟨_, _, hfree⟩ := ha
    refine (I.hok b ob e).stay (fun c w' hc q => (hs.2 c ?_).trans q) (fun _ q => q) fun _ _ q => q
    rintro rfl
    rcases hc with rfl | hc
    · rw [hfree] at e; cases e
    · rw [hfree] at hc; cases hc
  rcases hx with hk | hk
  · refine wpAny_storeName_local hk hn (fun h' hn' hs => ?_) hcls
    obtain ⟨oL, _, _, hoL, _⟩ := id hn
    refine h _ ⟨I.ok, I.os, I.bare, ⟨fun b o e n hb hx => ?_, fun b o e n hb hx => ?_, I.base.free, fun b o e hx => ?_, I.base.tups, I.base.frzs, I.base.tbls⟩, ⟨_, hn', fun j y v' e1 e2 e3 => ?_⟩, fun y c e => ?_, I.free, I.freeC, fun p hp => ?_, tracked ⟨oL, hoL, I.free⟩ hs, by simpa using I.len⟩ ⟨_, hs, .inl rfl⟩
    · exact (hs.2 b (Nat.ne_of_lt (Nat.lt_of_lt_of_le (Heap.lt_size e) I.ok.above))).trans (I.base.keep b o e n hb hx)
    · obtain ⟨sl, e1⟩ := I.base.slot b o e n hb hx
      exact ⟨sl, (hs.2 b (Nat.ne_of_lt (Nat.lt_of_lt_of_le (Heap.lt_size e) I.ok.above))).trans e1⟩
    · obtain ⟨o', e1⟩ := I.base.there b o e hx
      exact ⟨o', (hs.2 b (Nat.ne_of_lt (Nat.lt_of_lt_of_le (Heap.lt_size e) I.ok.above))).trans e1⟩
    · by_cases hj : j = i
      · subst hj
        rw [hi] at e1; cases e1
        rw [List.getElem?_set_self hiσ] at e2
        cases e2
        exact ⟨u, r, .inl ⟨hk, by simp⟩⟩
      · rw [List.getElem?_set_ne (Ne.symm hj)] at e2
        obtain ⟨u', r', q⟩ := hl j y v' e1 e2 e3
        refine ⟨u', r', ?_⟩
        rcases q with ⟨k, e⟩ | ⟨k, c, e, z⟩
        · refine .inl ⟨k, ?_⟩
          have : y ≠ x := fun e => hj (nodup_ix hN e1 (e ▸ hi))
          simp [this, e]
        · exact .inr ⟨k, c, e, z.sameBut hs (cne y c e)⟩
    · obtain ⟨w', z⟩ := I.cell y c e
      exact ⟨w', z.sameBut hs (cne y c e)⟩
    · obtain ⟨e, n, ne, nf, d⟩ := I.pin p hp
      exact ⟨(hs.2 p.1 ne).trans e, n, ne, nf, d⟩
  · have hfn : X.fn x = true := by
      rcases hf with z | z
      · exact z
      · rw [z] at hk; cases hk
    obtain ⟨c, hc⟩ := I.ok.has x (.inl hk)
    obtain ⟨w', z⟩ := I.cell x c hc
    refine wpAny_storeName_cell I.ok.kind hk hc z (fun h' hc' hs => ?_)
    obtain ⟨oc, hoc, hocd⟩ := id z
    refine h { s with heap := h' } ⟨I.ok, I.os, I.bare, ⟨fun b o e n hb hx => ?_, fun b o e n hb hx => ?_, I.base.free, fun b o e hx => ?_, I.base.tups, I.base.frzs, I.base.tbls⟩, ⟨m, hn.sameBut hs (Ne.symm (cne x c hc)), fun j y v' e1 e2 e3 => ?_⟩, fun y c' e => ?_, I.free, I.freeC, fun p hp => ?_, tracked ⟨oc, hoc, I.freeC x c hc⟩ hs, by simpa using I.len⟩ ⟨c, hs, .inr hc⟩
    · exact (hs.2 b (Nat.ne_of_lt (Nat.lt_of_lt_of_le (Heap.lt_size e) (I.ok.cab x c hfn hc)))).trans (I.base.keep b o e n hb hx)
    · obtain ⟨sl, e1⟩ := I.base.slot b o e n hb hx
      exact ⟨sl, (hs.2 b (Nat.ne_of_lt (Nat.lt_of_lt_of_le (Heap.lt_size e) (I.ok.cab x c hfn hc)))).trans e1⟩
    · obtain ⟨o', e1⟩ := I.base.there b o e hx
      exact ⟨o', (hs.2 b (Nat.ne_of_lt (Nat.lt_of_lt_of_le (Heap.lt_size e) (I.ok.cab x c hfn hc)))).trans e1⟩
    · by_cases hj : j = i
      · subst hj
        rw [hi] at e1; cases e1
        rw [List.getElem?_set_self hiσ] at e2
        cases e2
        exact ⟨u, r, .inr ⟨.inl hk, c, hc, hc'⟩⟩
      · rw [List.getElem?_set_ne (Ne.symm hj)] at e2
        obtain ⟨u', r', q⟩ := hl j y v' e1 e2 e3
        refine ⟨u', r', ?_⟩
        rcases q with q | ⟨k, c', e, z'⟩
        · exact .inl q
        · refine .inr ⟨k, c', e, z'.sameBut hs ?_⟩
          rintro rfl
          exact hj (nodup_ix hN e1 (I.ok.inj _ _ _ e hc ▸ hi))
    · by_cases hcc : c' = c
      · subst hcc; exact ⟨_, hc'⟩
      · obtain ⟨w2, z2⟩ := I.cell y c' e
        exact ⟨w2, z2.sameBut hs hcc⟩
    · obtain ⟨e, n, ne, nf, d⟩ := I.pin p hp
      refine ⟨(hs.2 p.1 ?_).trans e, n, ne, nf, d⟩
      intro q
      rw [q, hoc] at e
      have q' : oc = p.2 := Option.some.inj e
      exact d w' (by rw [← q']; exact hocd)
theorem store_ok {M : Model} {A : Around} {E : Value → Shared → Prop} {i : Nat} {x : Str} {v : V} {u : Value} {Q : Unit → Shared → Prop} (I : Inv X pins σ H s) (hN : X.N.Nodup) (hi : X.N[i]? = some x) (hx : Loc X.env.scope x) (r : RelV v u)
    (h : ∀ s', Inv X pins (σ.set i (some v)) H s' → Q () s') (hf : X.fn x = true ∨ X.env.scope.names.lookup x = some .local := by first | exact .inl rfl | exact .inr rfl | assumption) : wpAny M A (storeName X.env x u) Q E s :=
  store_ok2 I hN hi hx r (fun s' I' _ => h s' I') hf
/-- behind a call or a block, the state as it is -/
theorem Inv.call' {s' : Shared} {ch : List Addr} (I : Inv X pins σ H s) (ho : s'.os = s.os) (u : Un (frs X.stack) ch H H' s.heap s'.heap) (hok : HOk X.prog X.w H' s'.heap) (hg : AllBare s'.gens)
    (hch : ∀ b ∈ ch, (b ∈ X.ex ∨ X.s₀.heap.objs.size ≤ b) ∧ b ≠ X.env.locals ∧ (∀ x c, X.env.cells.lookup x = some c → c ≠ b) ∧ ∀ p ∈ X.pn ++ pins, p.1 ≠ b) : Inv X pins σ H' s' := by
  obtain ⟨h', g', d', t', o'⟩ := s'
  have e : o' = s.os := ho
  subst e
  exact I.call (g' := g') (t' := t') (d' := d') u hok hg hch
end

/-! ### the judgements -/
/-- an exception: its class, its own dict's address (where it has one), the abstract heap behind it -/
abbrev XK := Value → Option Addr → Hp → Prop
abbrev St := List (Option V)
abbrev VK := V → Hp → Prop
/-- an expression's reading; a test's; an argument list's -/
abbrev TE := St → Hp → VK → Prop
abbrev TT := St → Hp → (Bool → Hp → Prop) → Prop
abbrev TA := St → Hp → (List V → Hp → Prop) → Prop
/-- what is wanted behind a statement -/
structure Ends where
  nx : St → Hp → Prop
  rt : VK
  bk : St → Hp → Prop := fun _ _ => False
  ct : St → Hp → Prop := fun _ _ => False
abbrev TS := Ends → St → Hp → Prop

def EP (X : Cx) (pins : List (Addr × Obj)) (σ : St) (Q : VK) (u : Value) (s' : Shared) : Prop := ∃ v H', Inv X pins σ H' s' ∧ RelV v u ∧ Q v H'
def TP (X : Cx) (pins : List (Addr × Obj)) (σ : St) (Q : Bool → Hp → Prop) (b : Bool) (s' : Shared) : Prop := ∃ H', Inv X pins σ H' s' ∧ Q b H'
def AP (X : Cx) (pins : List (Addr × Obj)) (σ : St) (Q : List V → Hp → Prop) (us : List Value) (s' : Shared) : Prop := ∃ vs H', Inv X pins σ H' s' ∧ Vals vs us ∧ Q vs H'
def SP (X : Cx) (pins : List (Addr × Obj)) (D : Ends) (f : Flow) (s' : Shared) : Prop :=
  match f with
  | .next => ∃ σ' H', Inv X pins σ' H' s' ∧ D.nx σ' H'
  | .brk => ∃ σ' H', Inv X pins σ' H' s' ∧ D.bk σ' H'
  | .cont => ∃ σ' H', Inv X pins σ' H' s' ∧ D.ct σ' H'
  | .ret u => ∃ v σ' H', Inv X pins σ' H' s' ∧ RelV v u ∧ D.rt v H'

def PE (X : Cx) (e : Expr) (t : TE) : Prop :=
  ∀ (pins : List (Addr × Obj)) (s : Shared) (σ : St) (H : Hp) (Q : VK), Inv X pins σ H s → t σ H Q → wpAny (model X.prog X.w) X.A (eval e X.env) (EP X pins σ Q) X.xe s
def PT (X : Cx) (e : Expr) (t : TT) : Prop :=
  ∀ (pins : List (Addr × Obj)) (s : Shared) (σ : St) (H : Hp) (Q : Bool → Hp → Prop), Inv X pins σ H s → t σ H Q → wpAny (model X.prog X.w) X.A (isTrue e X.env (eval e X.env)) (TP X pins σ Q) X.xe s
/-- a test whatever its 'whole' is (and, or) -/
def PW (X : Cx) (e : Expr) (t : TT) : Prop :=
  ∀ (whole : Sem Value) (pins : List (Addr × Obj)) (s : Shared) (σ : St) (H : Hp) (Q : Bool → Hp → Prop), Inv X pins σ H s → t σ H Q → wpAny (model X.prog X.w) X.A (isTrue e X.env whole) (TP X pins σ Q) X.xe s
theorem PW.pt {X : Cx} {e : Expr} {t : TT} (h : PW X e t) : PT X e t := h _
/-- an argument list (no star), from the left -/
def PA (X : Cx) (es : List Expr) (t : TA) : Prop :=
  ∀ (pos : Pos) (pins : List (Addr × Obj)) (s : Shared) (σ : St) (H : Hp) (Q : List V → Hp → Prop), Inv X pins σ H s → t σ H Q → wpAny (model X.prog X.w) X.A (spliced (backTo pos (starEach es X.env))) (AP X pins σ Q) X.xe s
def PS (X : Cx) (st : Stmt) (t : TS) : Prop :=
  ∀ (pins : List (Addr × Obj)) (s : Shared) (σ : St) (H : Hp) (D : Ends), Inv X pins σ H s → t D σ H → wpAny (model X.prog X.w) X.A (exec st X.env) (SP X pins D) X.xe s
def PSs (X : Cx) (st : List Stmt) (t : TS) : Prop :=
  ∀ (pins : List (Addr × Obj)) (s : Shared) (σ : St) (H : Hp) (D : Ends), Inv X pins σ H s → t D σ H → wpAny (model X.prog X.w) X.A (execs st X.env) (SP X pins D) X.xe s
/-- weaken the end -/
theorem thn {α : Type} {t : Sem α} {Q Q' : α → Shared → Prop} {M : Model} {A : Around} {E : Value → Shared → Prop} {s : Shared} (h : wpAny M A t Q E s) (hQ : ∀ a s, Q a s → Q' a s) : wpAny M A t Q' E s := wpAny_mono h hQ fun _ _ x => x
end L2

namespace L2
open PySem PySem.Spec PyProof.Rows
section
variable {X : Cx}

/-- two expressions in a row -/
theorem bin {a b : Expr} {ta tb : TE} (ha : PE X a ta) (hb : PE X b tb) {pins : List (Addr × Obj)} {s : Shared} {σ : St} {H : Hp} {R : V → V → Hp → Prop} (I : Inv X pins σ H s) (h : ta σ H fun x H1 => tb σ H1 fun y H2 => R x y H2)
    {α : Type} {Q : α → Shared → Prop} {f : Value → Value → Sem α}
    (hf : ∀ v u s2 x y H2, Inv X pins σ H2 s2 → RelV x v → RelV y u → R x y H2 → wpAny (model X.prog X.w) X.A (f v u) Q X.xe s2) :
    wpAny (model X.prog X.w) X.A (eval a X.env) (fun v s₁ => wpAny (model X.prog X.w) X.A (eval b X.env) (fun u s₂ => wpAny (model X.prog X.w) X.A (f v u) Q X.xe s₂) X.xe s₁) X.xe s := by
  refine thn (ha pins s σ H _ I h) fun v s1 ⟨x, H1, I1, r1, q1⟩ => ?_
  refine thn (hb pins s1 σ H1 _ I1 q1) fun u s2 ⟨y, H2, I2, r2, q2⟩ => ?_
  exact hf v u s2 x y H2 I2 r1 r2 q2

/-! ### names and constants -/
def tVar (i : Nat) : TE := fun σ H Q => ∃ v, σ[i]? = some (some v) ∧ Q v H
def tC (v : V) : TE := fun _ H Q => Q v H
theorem pe_var {i : Nat} {x : Str} {pos : Pos} (hN : X.N[i]? = some x) (hv : Vis X.env.scope x) (hd : (x == ("__debug__" : Str)) = false := by decide) (hcd : (x == ("__classdict__" : Str)) = false := by decide) : PE X (.Name x pos) (tVar i) := by
  intro pins s σ H Q I h
  obtain ⟨v, e, h⟩ := h
  obtain ⟨m, hn, hl⟩ := I.loc
  obtain ⟨u, r, l⟩ := hl i x v hN e hv
  have fin : EP X pins σ Q u s := ⟨v, H, I, r, h⟩
  rcases l with ⟨hk, hm⟩ | ⟨hk, c, hc, hcell⟩
  · exact wpAny_Name (wpAny_loadName_local I.ok.kind hk hn hm fin) hd
  · rcases hk with hk | hk
    · exact wpAny_Name (wpAny_loadName_cell I.ok.kind hk hc hcell fin) hd
    · exact wpAny_Name (wpAny_loadName_free I.ok.kind hk hc hcell fin hcd) hd
theorem pe_int {i j pos} : PE X (.Constant (.int i) j pos) (tC (.int i)) := fun _ _ _ H _ I h => wpAny_Constant_int ⟨.int i, H, I.tok _, ⟨_, rfl⟩, h⟩
theorem pe_bl {b j pos} : PE X (.Constant (.bool b) j pos) (tC (.bl b)) := fun _ _ _ H _ I h => Constant_bool ⟨.bl b, H, I, rfl, h⟩
theorem pe_non {j pos} : PE X (.Constant .none j pos) (tC .non) := fun _ _ _ H _ I h => Constant_none ⟨.non, H, I, rfl, h⟩
theorem pe_str {x j pos} : PE X (.Constant (.str x) j pos) (tC (.str x)) := fun _ _ _ H _ I h => Calls.Constant_str ⟨.str x, H, I.tok _, ⟨_, rfl⟩, h⟩

/-- a global name of the def -/
def Gl (X : Cx) (x : Str) : Prop := X.env.kindOf x = some .globalImplicit
theorem ld_glob {E : Value → Shared → Prop} {pins : List (Addr × Obj)} {s : Shared} {σ : St} {H : Hp} {x : Str} {u : Value} {pos : Pos} {Q : Value → Shared → Prop} (I : Inv X pins σ H s) (hg : Gl X x) (hm : X.mg x = some u) (h : Q u s)
    (hd : (x == ("__debug__" : Str)) = false := by decide) : wpAny (model X.prog X.w) X.A (eval (.Name x pos) X.env) Q E s :=
  Calls.Name_function_global I.ok.kind hg (Calls.loadGlobal_global (by rw [I.ok.glob]; exact I.mod.glob.keeps I.bk) hm h) hd
theorem ld_blt {E : Value → Shared → Prop} {pins : List (Addr × Obj)} {s : Shared} {σ : St} {H : Hp} {x : Str} {u : Value} {pos : Pos} {Q : Value → Shared → Prop} (I : Inv X pins σ H s) (hg : Gl X x) (hm : X.mg x = none) (hv : bootBuiltins x = some u) (h : Q u s)
    (hn : x ≠ "__name__" := by decide) (hd : (x == ("__debug__" : Str)) = false := by decide) : wpAny (model X.prog X.w) X.A (eval (.Name x pos) X.env) Q E s := by
  obtain ⟨mb, h1, h2⟩ := I.mod.blt
  exact Calls.Name_function_global I.ok.kind hg (Calls.loadGlobal_builtin (by rw [I.ok.glob]; exact I.mod.glob.keeps I.bk) hm (by rw [I.ok.blt]; exact h1.keeps I.bk) ((h2 x hn).trans hv) h) hd
/-- a module's constant, a class, a function, as a value -/
theorem pe_glob {x : Str} {v : V} {u : Value} {pos : Pos} (hg : Gl X x) (hm : X.mg x = some u) (r : RelV v u) (hd : (x == ("__debug__" : Str)) = false := by decide) : PE X (.Name x pos) (tC v) :=
  fun _ _ _ H _ I h => ld_glob I hg hm ⟨v, H, I, r, h⟩ hd
theorem pe_bltn {x : Str} {v : V} {u : Value} {pos : Pos} (hg : Gl X x) (hm : X.mg x = none) (hv : bootBuiltins x = some u) (r : RelV v u) (hn : x ≠ "__name__" := by decide) (hd : (x == ("__debug__" : Str)) = false := by decide) : PE X (.Name x pos) (tC v) :=
  fun _ _ _ H _ I h => ld_blt I hg hm hv ⟨v, H, I, r, h⟩ hn hd

/-! ### arithmetic -/
/-- two ints -/
def t2I (ta tb : TE) (k : Int → Int → Hp → Prop) : St → Hp → Prop := fun σ H => ta σ H fun x H1 => tb σ H1 fun y H2 => ∃ i j, x = .int i ∧ y = .int j ∧ k i j H2
def tAdd (ta tb : TE) : TE := fun σ H Q => t2I ta tb (fun i j H2 => Q (.int (i + j)) H2) σ H
def tSub (ta tb : TE) : TE := fun σ H Q => t2I ta tb (fun i j H2 => Q (.int (i - j)) H2) σ H
/-- the left factor below 2^64 -/
def tMul (ta tb : TE) : TE := fun σ H Q => t2I ta tb (fun i j H2 => (-(2 ^ 64) < i ∧ i < 2 ^ 64) ∧ Q (.int (i * j)) H2) σ H
variable {a b : Expr} {ta tb : TE} {pos : Pos}
theorem pe_add (ha : PE X a ta) (hb : PE X b tb) : PE X (.BinOp a .Add b pos) (tAdd ta tb) := by
  intro pins s σ H Q I h
  refine wpAny_BinOp (bin ha hb I h fun v u s2 x y H2 I2 rx ry q => ?_)
  obtain ⟨i, j, rfl, rfl, q⟩ := q
  obtain ⟨t, rfl⟩ := rx
  obtain ⟨t', rfl⟩ := ry
  exact add_int ⟨.int _, H2, I2.tok _, ⟨_, rfl⟩, q⟩
theorem pe_sub (ha : PE X a ta) (hb : PE X b tb) : PE X (.BinOp a .Sub b pos) (tSub ta tb) := by
  intro pins s σ H Q I h
  refine wpAny_BinOp (bin ha hb I h fun v u s2 x y H2 I2 rx ry q => ?_)
  obtain ⟨i, j, rfl, rfl, q⟩ := q
  obtain ⟨t, rfl⟩ := rx
  obtain ⟨t', rfl⟩ := ry
  exact sub_int ⟨.int _, H2, I2.tok _, ⟨_, rfl⟩, q⟩
theorem pe_mul (ha : PE X a ta) (hb : PE X b tb) : PE X (.BinOp a .Mult b pos) (tMul ta tb) := by
  intro pins s σ H Q I h
  refine wpAny_BinOp (bin ha hb I h fun v u s2 x y H2 I2 rx ry q => ?_)
  obtain ⟨i, j, rfl, rfl, ⟨q1, q2⟩, q⟩ := q
  obtain ⟨t, rfl⟩ := rx
  obtain ⟨t', rfl⟩ := ry
  exact mul_int ⟨.int _, H2, I2.tok _, ⟨_, rfl⟩, q⟩ (.of_left (intBits_le_64 q1 q2))

/-! ### comparisons -/
def PC (X : Cx) (op : CmpOp) (a b : Expr) (t : TE) : Prop :=
  ∀ (pins : List (Addr × Obj)) (s : Shared) (σ : St) (H : Hp) (Q : VK), Inv X pins σ H s → t σ H Q →
    wpAny (model X.prog X.w) X.A (eval a X.env) (fun v s₁ => wpAny (model X.prog X.w) X.A (eval b X.env) (fun u s₂ => wpAny (model X.prog X.w) X.A (compareOp op v u) (EP X pins σ Q) X.xe s₂) X.xe s₁) X.xe s
theorem nobehind (b : Expr) {op : CmpOp} (h : op ≠ .In) (h2 : op ≠ .NotIn) : behindInMarks op b = false := by
  have e1 : (op == CmpOp.In) = false := by cases op <;> first | rfl | exact absurd rfl h
  have e2 : (op == CmpOp.NotIn) = false := by cases op <;> first | rfl | exact absurd rfl h2
  cases b <;> simp [behindInMarks, e1, e2]
def tCmp (p : Int → Int → Bool) (ta tb : TE) : TE := fun σ H Q => t2I ta tb (fun i j H2 => Q (.bl (p i j)) H2) σ H
abbrev tLt : TE → TE → TE := tCmp fun i j => decide (i < j)
abbrev tLe : TE → TE → TE := tCmp fun i j => decide (i ≤ j)
abbrev tGt : TE → TE → TE := tCmp fun i j => decide (j < i)
abbrev tGe : TE → TE → TE := tCmp fun i j => decide (j ≤ i)
abbrev tEqI : TE → TE → TE := tCmp fun i j => decide (i = j)
abbrev tNeI : TE → TE → TE := tCmp fun i j => !decide (i = j)
/-- a comparison of two ints, by its rule -/
theorem pc_int {op : CmpOp} {p : Int → Int → Bool} (ha : PE X a ta) (hb : PE X b tb)
    (rule : ∀ (i j : Int) (t u : Tok) (Q : Value → Shared → Prop) (s : Shared), Q (.bool (p i j)) s → wpAny (model X.prog X.w) X.A (compareOp op (.int i t) (.int j u)) Q X.xe s) : PC X op a b (tCmp p ta tb) := by
  intro pins s σ H Q I h
  refine bin ha hb I h fun v u s2 x y H2 I2 rx ry q => ?_
  obtain ⟨i, j, rfl, rfl, q⟩ := q
  obtain ⟨t, rfl⟩ := rx
  obtain ⟨t', rfl⟩ := ry
  exact rule i j t t' _ s2 ⟨.bl _, H2, I2, rfl, q⟩
theorem pc_lt (ha : PE X a ta) (hb : PE X b tb) : PC X .Lt a b (tLt ta tb) := pc_int ha hb fun _ _ _ _ _ _ h => lt_int h
theorem pc_le (ha : PE X a ta) (hb : PE X b tb) : PC X .LtE a b (tLe ta tb) := pc_int ha hb fun _ _ _ _ _ _ h => le_int h
theorem pc_gt (ha : PE X a ta) (hb : PE X b tb) : PC X .Gt a b (tGt ta tb) := pc_int ha hb fun _ _ _ _ _ _ h => gt_int h
theorem pc_ge (ha : PE X a ta) (hb : PE X b tb) : PC X .GtE a b (tGe ta tb) := pc_int ha hb fun _ _ _ _ _ _ h => ge_int h
theorem pc_eqI (ha : PE X a ta) (hb : PE X b tb) : PC X .Eq a b (tEqI ta tb) := pc_int ha hb fun _ _ _ _ _ _ h => eq_int (by rw [Bool.beq_eq_decide_eq]; exact h)
theorem pc_neI (ha : PE X a ta) (hb : PE X b tb) : PC X .NotEq a b (tNeI ta tb) := pc_int ha hb fun _ _ _ _ _ _ h => ne_int (by rw [bne, Bool.beq_eq_decide_eq]; exact h)
/-- is None -/
def tIsN (ta : TE) : TE := fun σ H Q => ta σ H fun x H1 => Q (.bl (decide (x = .non))) H1
def tNotN (ta : TE) : TE := fun σ H Q => ta σ H fun x H1 => Q (.bl (!decide (x = .non))) H1
theorem RelV.none_iff {x : V} {v : Value} (r : RelV x v) : (v == Value.none) = decide (x = .non) := by
  cases x with
  | non => cases r; rfl
  | bl _ => cases r; rfl
  | int _ => obtain ⟨t, rfl⟩ := r; rfl
  | str _ => obtain ⟨t, rfl⟩ := r; rfl
  | byt _ => obtain ⟨t, rfl⟩ := r; rfl
  | flt _ => obtain ⟨t, rfl⟩ := r; rfl
  | ref _ => cases r; rfl
  | ty _ => cases r; rfl
theorem pc_isN {j pos'} (ha : PE X a ta) : PC X .Is a (.Constant .none j pos') (tIsN ta) := by
  intro pins s σ H Q I h
  refine thn (ha pins s σ H _ I h) fun v s1 ⟨x, H1, I1, r1, q1⟩ => ?_
  exact Constant_none (is_none_gen ⟨.bl _, H1, I1, by rw [r1.none_iff]; rfl, q1⟩)
theorem pc_notN {j pos'} (ha : PE X a ta) : PC X .IsNot a (.Constant .none j pos') (tNotN ta) := by
  intro pins s σ H Q I h
  refine thn (ha pins s σ H _ I h) fun v s1 ⟨x, H1, I1, r1, q1⟩ => ?_
  exact Constant_none (isnot_none_gen ⟨.bl _, H1, I1, by rw [r1.none_iff]; rfl, q1⟩)
/-- a comparison as a value, as a test -/
def tB (t : TE) : TT := fun σ H Q => t σ H fun x H1 => ∃ c, x = .bl c ∧ Q c H1
theorem pe_cmp {op : CmpOp} {t : TE} (h : PC X op a b t) (h1 : behindInMarks op b = false := by first | exact nobehind _ (by decide) (by decide) | rfl) : PE X (.Compare a [op] [b] pos) t := fun pins s σ H Q I hw => wpAny_Compare1 (h pins s σ H Q I hw) h1
theorem pt_cmp {op : CmpOp} {t : TE} (h : PC X op a b t) (h1 : behindInMarks op b = false := by first | exact nobehind _ (by decide) (by decide) | rfl) : PT X (.Compare a [op] [b] pos) (tB t) := by
  intro pins s σ H Q I hw
  refine wpAny_isTrue_Compare1 (thn (h pins s σ H _ I hw) fun v s1 h1 => thn h1 fun u s2 h2 => thn h2 fun c s3 ⟨x, H1, I1, r1, q1⟩ => ?_) h1
  obtain ⟨d, rfl, q⟩ := q1
  cases r1
  exact wpAny_truthy_bool ⟨H1, I1, q⟩
/-- an expression whose value is a bool, as a test -/
theorem pt_val {e : Expr} {t : TE} (h : PE X e t) (he : ∀ whole, isTrue e X.env whole = (do let v ← whole; standAt e.pos; holding [v] (truthy v)) := by intro _; rfl) : PT X e (tB t) := by
  intro pins s σ H Q I hw
  refine isTrue_plain (thn (h pins s σ H _ I hw) fun v s1 ⟨x, H1, I1, r1, q1⟩ => ?_) (he _)
  obtain ⟨d, rfl, q⟩ := q1
  cases r1
  exact wpAny_truthy_bool ⟨H1, I1, q⟩

/-! ### and, or, not -/
variable {tA tB' : TT} {rest : List Expr}
def tAnd (t u : TT) : TT := fun σ H Q => t σ H fun c H1 => if c = true then u σ H1 Q else Q false H1
def tOr (t u : TT) : TT := fun σ H Q => t σ H fun c H1 => if c = true then Q true H1 else u σ H1 Q
def tNot (t : TT) : TT := fun σ H Q => t σ H fun c H1 => Q (!c) H1
theorem pw_and1 (ha : PT X a tA) : PW X (.BoolOp .And [a] pos) tA := by
  intro wh pins s σ H Q I h
  refine isTrue_and (thn (ha pins s σ H Q I h) fun c s1 e => ?_)
  cases c with
  | true => exact isTrue_and_nil e
  | false => exact e
theorem pw_or1 (ha : PT X a tA) : PW X (.BoolOp .Or [a] pos) tA := by
  intro wh pins s σ H Q I h
  refine isTrue_or (thn (ha pins s σ H Q I h) fun c s1 e => ?_)
  cases c with
  | false => exact isTrue_or_nil e
  | true => exact e
theorem pw_and (ha : PT X a tA) (hb : PW X (.BoolOp .And (b :: rest) pos) tB') : PW X (.BoolOp .And (a :: b :: rest) pos) (tAnd tA tB') := by
  intro wh pins s σ H Q I h
  refine isTrue_and (thn (ha pins s σ H _ I h) fun c s1 ⟨H1, I1, q1⟩ => ?_)
  cases c with
  | true => exact hb wh pins s1 σ H1 Q I1 q1
  | false => exact ⟨H1, I1, q1⟩
theorem pw_or (ha : PT X a tA) (hb : PW X (.BoolOp .Or (b :: rest) pos) tB') : PW X (.BoolOp .Or (a :: b :: rest) pos) (tOr tA tB') := by
  intro wh pins s σ H Q I h
  refine isTrue_or (thn (ha pins s σ H _ I h) fun c s1 ⟨H1, I1, q1⟩ => ?_)
  cases c with
  | true => exact ⟨H1, I1, q1⟩
  | false => exact hb wh pins s1 σ H1 Q I1 q1
theorem pt_not (ha : PT X a tA) : PT X (.UnaryOp .Not a pos) (tNot tA) := by
  intro pins s σ H Q I h
  exact isTrue_not (ha pins s σ H (fun c H1 => Q (!c) H1) I h)
/-- .. as values (bools) -/
def tAndV (ta tb : TE) : TE := fun σ H Q => ta σ H fun x H1 => ∃ c, x = .bl c ∧ if c = true then tb σ H1 Q else Q (.bl false) H1
def tOrV (ta tb : TE) : TE := fun σ H Q => ta σ H fun x H1 => ∃ c, x = .bl c ∧ if c = true then Q (.bl true) H1 else tb σ H1 Q
def tNotV (ta : TE) : TE := fun σ H Q => ta σ H fun x H1 => ∃ c, x = .bl c ∧ Q (.bl (!c)) H1
theorem pe_one {op} {t : TE} (h : PE X a t) : PE X (.BoolOp op [a] pos) t := fun pins s σ H Q I hw => BoolOp_one (h pins s σ H Q I hw)
theorem pe_and (ha : PE X a ta) (hb : PE X (.BoolOp .And (b :: rest) pos) tb) : PE X (.BoolOp .And (a :: b :: rest) pos) (tAndV ta tb) := by
  intro pins s σ H Q I h
  refine BoolOp_and (thn (ha pins s σ H _ I h) fun v s1 ⟨x, H1, I1, r1, q1⟩ => ?_)
  obtain ⟨c, rfl, q1⟩ := q1
  cases r1
  refine wpAny_truthy_bool ?_
  cases c with
  | true => exact hb pins s1 σ H1 Q I1 q1
  | false => exact ⟨.bl false, H1, I1, rfl, q1⟩
theorem pe_or (ha : PE X a ta) (hb : PE X (.BoolOp .Or (b :: rest) pos) tb) : PE X (.BoolOp .Or (a :: b :: rest) pos) (tOrV ta tb) := by
  intro pins s σ H Q I h
  refine BoolOp_or (thn (ha pins s σ H _ I h) fun v s1 ⟨x, H1, I1, r1, q1⟩ => ?_)
  obtain ⟨c, rfl, q1⟩ := q1
  cases r1
  refine wpAny_truthy_bool ?_
  cases c with
  | false => exact hb pins s1 σ H1 Q I1 q1
  | true => exact ⟨.bl true, H1, I1, rfl, q1⟩
theorem pe_not (ha : PE X a ta) : PE X (.UnaryOp .Not a pos) (tNotV ta) := by
  intro pins s σ H Q I h
  refine UnaryOp_ (thn (ha pins s σ H _ I h) fun v s1 ⟨x, H1, I1, r1, q1⟩ => ?_)
  obtain ⟨c, rfl, q1⟩ := q1
  cases r1
  exact not_of (wpAny_truthy_bool ⟨.bl (!c), H1, I1, rfl, q1⟩)
/-- a if t else b -/
def tIf (t : TT) (ta tb : TE) : TE := fun σ H Q => t σ H fun c H1 => if c = true then ta σ H1 Q else tb σ H1 Q
theorem pe_ifExp {c : Expr} (hc : PT X c tA) (ha : PE X a ta) (hb : PE X b tb) : PE X (.IfExp c a b pos) (tIf tA ta tb) := by
  intro pins s σ H Q I h
  refine wpAny_IfExp (thn (hc pins s σ H _ I h) fun d s1 ⟨H1, I1, q1⟩ => ?_)
  cases d with
  | true => exact ha pins s1 σ H1 Q I1 q1
  | false => exact hb pins s1 σ H1 Q I1 q1
end
end L2

namespace L2
open PySem PySem.Spec PyProof.Rows

/-! ### a list, a tuple that is read: tracked, frozen, or an object of the module -/
def SqL (K : PySem.W.Frag) (H : Hp) (a : Addr) (xs : List V) : Prop :=
  Rd H a (.lst xs) ∨
    ∃ (o : Obj) (its : Array Value) (n : Nat), K.lookup a = some o ∧ o.cls = .type "list" ∧ o.dict = none ∧ o.data = .seq its n ∧ its.size ≤ sizeLine ∧ Vals xs its.toList
def SqT (K : PySem.W.Frag) (H : Hp) (a : Addr) (xs : List V) : Prop :=
  Rd H a (.tup xs) ∨
    ∃ (o : Obj) (its : Array Value) (n : Nat), K.lookup a = some o ∧ o.cls = .type "tuple" ∧ o.data = .seq its n ∧ its.size ≤ sizeLine ∧ Vals xs its.toList
def absV : Value → Option V
  | .none => some .non
  | .bool b => some (.bl b)
  | .int i _ => some (.int i)
  | .str x _ => some (.str x)
  | .bytes b _ => some (.byt b)
  | .float b _ => some (.flt b)
  | .ref a => some (.ref a)
  | .type n => some (.ty n)
  | _ => none
theorem RelV.abs {x : V} {u : Value} (r : RelV x u) : absV u = some x := by
  cases x with
  | non => cases r; rfl
  | bl _ => cases r; rfl
  | int _ => obtain ⟨t, rfl⟩ := r; rfl
  | str _ => obtain ⟨t, rfl⟩ := r; rfl
  | byt _ => obtain ⟨t, rfl⟩ := r; rfl
  | flt _ => obtain ⟨t, rfl⟩ := r; rfl
  | ref _ => cases r; rfl
  | ty _ => cases r; rfl
theorem RelV.inj {x y : V} {u : Value} (r : RelV x u) (q : RelV y u) : x = y := Option.some.inj (r.abs.symm.trans q.abs)
theorem Vals.inj : ∀ {xs ys : List V} {us : List Value}, Vals xs us → Vals ys us → xs = ys
  | _, _, _, .nil, .nil => rfl
  | _, _, _, .cons r t, .cons r' t' => by rw [r.inj r', Vals.inj t t']
section
variable {X : Cx} {pins : List (Addr × Obj)} {σ : St} {H : Hp} {s : Shared} {a : Addr} {xs ys : List V}
theorem SqL.of {K : PySem.W.Frag} (h : H a = some (.lst xs)) : SqL K H a xs := .inl (.inl h)
theorem SqT.of {K : PySem.W.Frag} (h : H a = some (.tup xs)) : SqT K H a xs := .inl (.inl h)
theorem Inv.list (I : Inv X pins σ H s) (h : SqL X.K H a xs) : ∃ its : List Value, Vals xs its ∧ PlainL s.heap a its.toArray ∧ xs.length ≤ sizeLine := by
  rcases h with h | ⟨o, its, n, hk, hc, hd, hs, hz, r⟩
  · obtain ⟨z, its, n, r, e⟩ := h.ok I.hok
    exact ⟨its, r, ⟨_, n, e, rfl, rfl, rfl⟩, z⟩
  · refine ⟨its.toList, r, ⟨o, n, I.kIn a o hk, hc, hd, by simpa using hs⟩, ?_⟩
    have e := r.length
    simp only [Array.length_toList] at e
    omega
theorem Inv.tuple (I : Inv X pins σ H s) (h : SqT X.K H a xs) : ∃ its : List Value, Vals xs its ∧ IsTup s.heap a its.toArray ∧ xs.length ≤ sizeLine := by
  rcases h with h | ⟨o, its, n, hk, hc, hs, hz, r⟩
  · obtain ⟨z, its, r, p⟩ := h.ok I.hok
    exact ⟨its, r, p, z⟩
  · refine ⟨its.toList, r, ⟨o, I.kIn a o hk, hc, n, by simpa using hs⟩, ?_⟩
    have e := r.length
    simp only [Array.length_toList] at e
    omega
theorem Inv.list_inj (I : Inv X pins σ H s) (h : SqL X.K H a xs) (h' : SqL X.K H a ys) : xs = ys := by
  obtain ⟨its, r, ⟨o, n, e, _, _, d⟩, _⟩ := I.list h
  obtain ⟨its', r', ⟨o', n', e', _, _, d'⟩, _⟩ := I.list h'
  rw [e] at e'; cases e'
  rw [d] at d'
  injection d' with d1 _
  have : its = its' := by simpa using congrArg Array.toList d1
  subst this
  exact r.inj r'
theorem Inv.tuple_inj (I : Inv X pins σ H s) (h : SqT X.K H a xs) (h' : SqT X.K H a ys) : xs = ys := by
  obtain ⟨its, r, ⟨o, e, _, n, d⟩, _⟩ := I.tuple h
  obtain ⟨its', r', ⟨o', e', _, n', d'⟩, _⟩ := I.tuple h'
  rw [e] at e'; cases e'
  rw [d] at d'
  injection d' with d1 _
  have : its = its' := by simpa using congrArg Array.toList d1
  subst this
  exact r.inj r'
end

/-! ### another wish about exceptions -/
abbrev Cx.wish (X : Cx) (E : Value → Shared → Prop) : Cx := { X with xe := E }
/-- no exception leaves -/
abbrev Cx.nox (X : Cx) : Cx := X.wish fun _ _ => False
theorem Cx.Ok.wish {X : Cx} (ok : X.Ok) (E : Value → Shared → Prop) : (X.wish E).Ok :=
  ⟨ok.mod, ok.kind, ok.glob, ok.blt, ok.above, ok.inj, ok.has, ok.cab, ok.hd, ok.frames, ok.stk, ok.exf, ok.bs, ok.bsz, ok.noex, ok.exfs, ok.funs, ok.frf⟩
theorem Cx.Ok.unwish {X : Cx} {E : Value → Shared → Prop} (ok : (X.wish E).Ok) : X.Ok :=
  ⟨ok.mod, ok.kind, ok.glob, ok.blt, ok.above, ok.inj, ok.has, ok.cab, ok.hd, ok.frames, ok.stk, ok.exf, ok.bs, ok.bsz, ok.noex, ok.exfs, ok.funs, ok.frf⟩
section
variable {X : Cx} {pins : List (Addr × Obj)} {σ : St} {H : Hp} {s : Shared} {E : Value → Shared → Prop}
theorem Inv.wish (I : Inv X pins σ H s) (E : Value → Shared → Prop) : Inv (X.wish E) pins σ H s := ⟨I.ok.wish E, I.os, I.bare, I.base, I.loc, I.cell, I.free, I.freeC, I.pin, I.hok, I.len⟩
theorem Inv.unwish (I : Inv (X.wish E) pins σ H s) : Inv X pins σ H s := ⟨I.ok.unwish, I.os, I.bare, I.base, I.loc, I.cell, I.free, I.freeC, I.pin, I.hok, I.len⟩
theorem SP.unwish {D : Ends} {f : Flow} {s' : Shared} (h : SP (X.wish E) pins D f s') : SP X pins D f s' := by
  cases f with
  | next => obtain ⟨σ', H', I, q⟩ := h; exact ⟨σ', H', I.unwish, q⟩
  | brk => obtain ⟨σ', H', I, q⟩ := h; exact ⟨σ', H', I.unwish, q⟩
  | cont => obtain ⟨σ', H', I, q⟩ := h; exact ⟨σ', H', I.unwish, q⟩
  | ret u => obtain ⟨v, σ', H', I, r, q⟩ := h; exact ⟨v, σ', H', I.unwish, r, q⟩
theorem PE.nox {e : Expr} {t : TE} (h : PE X.nox e t) : PE X e t := fun pins s σ H Q I hw =>
  wpAny_mono (h pins s σ H Q (I.wish _) hw) (fun _ _ ⟨v, H', I', r, q⟩ => ⟨v, H', I'.unwish, r, q⟩) fun _ _ z => False.elim z
theorem PT.nox {e : Expr} {t : TT} (h : PT X.nox e t) : PT X e t := fun pins s σ H Q I hw =>
  wpAny_mono (h pins s σ H Q (I.wish _) hw) (fun _ _ ⟨H', I', q⟩ => ⟨H', I'.unwish, q⟩) fun _ _ z => False.elim z
theorem PSs.nox {st : List Stmt} {t : TS} (h : PSs X.nox st t) : PSs X st t := fun pins s σ H D I hw =>
  wpAny_mono (h pins s σ H D (I.wish _) hw) (fun _ _ q => q.unwish) fun _ _ z => False.elim z
end

/-! ### blocks and small statements -/
section
variable {X : Cx} {st : Stmt} {rest : List Stmt} {t u : TS} {e : Expr} {te : TE} {pos : Pos}
def tNext : TS := fun D σ H => D.nx σ H
def tSeq (t u : TS) : TS := fun D σ H => t { D with nx := u D } σ H
theorem pss_nil : PSs X [] tNext := fun _ _ σ H _ I h => wpAny_execs_nil ⟨σ, H, I, h⟩
theorem pss_cons (h1 : PS X st t) (h2 : PSs X rest u) : PSs X (st :: rest) (tSeq t u) := by
  intro pins s σ H D I h
  refine wpAny_execs_cons (thn (h1 pins s σ H { D with nx := u D } I h) fun f s1 q => ?_)
  cases f with
  | next =>
    obtain ⟨σ', H', I', q⟩ := q
    exact h2 pins s1 σ' H' D I' q
  | ret v => exact q
  | brk => exact q
  | cont => exact q
theorem pss_one (h1 : PS X st t) : PSs X [st] t := by
  intro pins s σ H D I h
  refine wpAny_execs_cons (thn (h1 pins s σ H D I h) fun f s1 q => ?_)
  cases f with
  | next => exact wpAny_execs_nil q
  | ret v => exact q
  | brk => exact q
  | cont => exact q
def tBreak : TS := fun D σ H => D.bk σ H
def tCont : TS := fun D σ H => D.ct σ H
theorem ps_pass : PS X (.Pass pos) tNext := fun _ _ σ H _ I h => wpAny_Pass ⟨σ, H, I, h⟩
theorem ps_break : PS X (.Break pos) tBreak := fun _ _ σ H _ I h => wpAny_Break ⟨σ, H, I, h⟩
theorem ps_continue : PS X (.Continue pos) tCont := fun _ _ σ H _ I h => wpAny_Continue ⟨σ, H, I, h⟩
/-- in a def's body nothing is shown -/
theorem Inv.quiet {pins : List (Addr × Obj)} {σ : St} {H : Hp} {s : Shared} (I : Inv X pins σ H s) : interactive X.env = false := by simp [interactive, I.ok.kind]
/-- a docstring -/
theorem ps_doc {x j pos pos'} : PS X (.Expr (.Constant (.str x) j pos) pos') tNext := fun _ s σ H _ I h => wpAny_Expr (Calls.Constant_str (show SP X _ _ .next { s with toks := s.toks + 1 } from ⟨σ, H, I.tok _, h⟩)) I.quiet
/-- an expression whose value is dropped -/
def tDrop (te : TE) : TS := fun D σ H => te σ H fun _ H1 => D.nx σ H1
theorem ps_expr (he : PE X e te) (hs : swapsWith e none pos.line X.env = pure false := by rfl) : PS X (.Expr e pos) (tDrop te) := by
  intro pins s σ H D I h
  exact wpAny_Expr_any (thn (he pins s σ H _ I h) fun v s1 ⟨x, H1, I1, r1, q1⟩ => ⟨σ, H1, I1, q1⟩) I.quiet hs
def tRet (te : TE) : TS := fun D σ H => te σ H D.rt
theorem ps_ret (he : PE X e te) : PS X (.Return (some e) pos) (tRet te) := by
  intro pins s σ H D I h
  exact wpAny_Return_some (thn (he pins s σ H _ I h) fun v s1 ⟨x, H1, I1, r1, q1⟩ => ⟨x, σ, H1, I1, r1, q1⟩)
def tRetN : TS := fun D _ H => D.rt .non H
theorem ps_retN : PS X (.Return none pos) tRetN := fun _ _ σ H _ I h => wpAny_Return_none ⟨.non, σ, H, I, rfl, h⟩
def tIfS (c : TT) (t u : TS) : TS := fun D σ H => c σ H fun b H1 => if b = true then t D σ H1 else u D σ H1
theorem ps_if {c : Expr} {a b : List Stmt} {tc : TT} (hc : PT X c tc) (ha : PSs X a t) (hb : PSs X b u) : PS X (.If c a b pos) (tIfS tc t u) := by
  intro pins s σ H D I h
  refine wpAny_If (thn (hc pins s σ H _ I h) fun d s1 ⟨H1, I1, q1⟩ => ?_)
  cases d with
  | true => exact ha pins s1 σ H1 D I1 q1
  | false => exact hb pins s1 σ H1 D I1 q1
/-- code that the proof never comes to -/
def tNever : TS := fun _ _ _ => False
theorem ps_never : PS X st tNever := fun _ _ _ _ _ _ h => h.elim
theorem pss_never {sts : List Stmt} : PSs X sts tNever := fun _ _ _ _ _ _ h => h.elim
end

/-! ### targets -/
abbrev TG := V → St → Hp → (St → Hp → Prop) → Prop
abbrev TGs := List V → St → Hp → (St → Hp → Prop) → Prop
def PG (X : Cx) (target : Expr) (t : TG) : Prop :=
  ∀ (pins : List (Addr × Obj)) (s : Shared) (σ : St) (H : Hp) (v : V) (u : Value) (Q : St → Hp → Prop), Inv X pins σ H s → RelV v u → t v σ H Q →
    wpAny (model X.prog X.w) X.A (assign target X.env u) (fun _ s' => ∃ σ' H', Inv X pins σ' H' s' ∧ Q σ' H') X.xe s
/-- several targets, one after another -/
def PGs (X : Cx) (ts : List Expr) (t : TGs) : Prop :=
  ∀ (pins : List (Addr × Obj)) (s : Shared) (σ : St) (H : Hp) (vs : List V) (us : List Value) (Q : St → Hp → Prop), Inv X pins σ H s → Vals vs us → t vs σ H Q →
    wpAny (model X.prog X.w) X.A (assignInOrder ((assignEach ts X.env).map (·.2)) us) (fun _ s' => ∃ σ' H', Inv X pins σ' H' s' ∧ Q σ' H') X.xe s
/-- o[i] = v, by values -/
abbrev TSet := V → V → V → Hp → (Hp → Prop) → Prop
def PSet (X : Cx) (t : TSet) : Prop :=
  ∀ (pins : List (Addr × Obj)) (s : Shared) (σ : St) (H : Hp) (o i v : V) (ov iv u : Value) (Q : Hp → Prop), Inv X pins σ H s → RelV o ov → RelV i iv → RelV v u → t o i v H Q →
    wpAny (model X.prog X.w) X.A (setItem ov iv u) (fun _ s' => ∃ H', Inv X pins σ H' s' ∧ Q H') X.xe s
/-- a op= b, by values -/
abbrev TIp := V → V → Hp → VK → Prop
def PIp (X : Cx) (op : Operator) (t : TIp) : Prop :=
  ∀ (pins : List (Addr × Obj)) (s : Shared) (σ : St) (H : Hp) (x y : V) (v u : Value) (Q : VK), Inv X pins σ H s → RelV x v → RelV y u → t x y H Q →
    wpAny (model X.prog X.w) X.A (inplaceOp op v u) (EP X pins σ Q) X.xe s
section
variable {X : Cx} {pos : Pos}
def gName (i : Nat) : TG := fun v σ H Q => Q (σ.set i (some v)) H
theorem pg_name {i : Nat} {x : Str} (hN : X.N.Nodup) (hi : X.N[i]? = some x) (hx : Loc X.env.scope x) (hf : X.fn x = true ∨ X.env.scope.names.lookup x = some .local := by first | exact .inl rfl | exact .inr rfl | assumption) : PG X (.Name x pos) (gName i) := by
  intro pins s σ H v u Q I r h
  exact wpAny_assign_Name (store_ok I hN hi hx r (fun s' I' => ⟨_, H, I', h⟩) hf)
def gNil : TGs := fun vs σ H Q => vs = [] ∧ Q σ H
def gCons (t : TG) (u : TGs) : TGs := fun vs σ H Q => ∃ v r, vs = v :: r ∧ t v σ H fun σ' H' => u r σ' H' Q
theorem pgs_nil : PGs X [] gNil := by
  intro pins s σ H vs us Q I r h
  obtain ⟨e, h⟩ := h
  subst e
  cases r
  exact assignInOrder_nil ⟨σ, H, I, h⟩
theorem pgs_cons {e : Expr} {es : List Expr} {t : TG} {u : TGs} (h1 : PG X e t) (h2 : PGs X es u)
    (hs : (assignEach (e :: es) X.env).map (·.2) = assign e X.env :: (assignEach es X.env).map (·.2) := by rfl) : PGs X (e :: es) (gCons t u) := by
  intro pins s σ H vs us Q I r h
  obtain ⟨v, vr, e1, h⟩ := h
  subst e1
  cases r with
  | cons r rr =>
    rw [hs]
    refine assignInOrder_cons (thn (h1 pins s σ H _ _ _ I r h) fun _ s1 ⟨σ1, H1, I1, q1⟩ => ?_)
    exact h2 pins s1 σ1 H1 _ _ Q I1 rr q1
/-- (a, b, ..) = a tuple of that length -/
def gTup (K : PySem.W.Frag) (n : Nat) (t : TGs) : TG := fun v σ H Q => ∃ a xs, v = .ref a ∧ SqT K H a xs ∧ xs.length = n ∧ t xs σ H Q
theorem pg_tup {es : List Expr} {k : Nat} {t : TGs} {n : Nat} (hc : X.calm = true) (h : PGs X es t)
    (hn : (assignEach es X.env).length = n := by rfl) (hst : (assignEach es X.env).findIdx? (·.1) = none := by rfl) : PG X (.Tuple es k pos) (gTup X.K n t) := by
  intro pins s σ H v u Q I r hw
  obtain ⟨a, xs, e1, hq, hl, hw⟩ := hw
  subst e1
  cases r
  obtain ⟨its, rv, ht, hz⟩ := I.tuple hq
  refine assign_Tuple_tuple (I.ok.hd hc) ht (by simp [hn, ← hl, rv.length]) hst fun h' hx => ?_
  have I1 : Inv X pins σ H { s with heap := h' } := I.kept (t' := s.toks) fun b o e => hx b o (Nat.ne_of_lt (Heap.lt_size e)) e
  exact h pins _ σ H xs _ Q I1 (by simpa using rv) hw
/-- o[i] = .. -/
def gSub (to ti : TE) (t : TSet) : TG := fun v σ H Q => to σ H fun o H1 => ti σ H1 fun i H2 => t o i v H2 fun H3 => Q σ H3
theorem pg_sub {o i : Expr} {to ti : TE} {t : TSet} (ho : PE X o to) (hi : PE X i ti) (hs : PSet X t)
    (ha : ∀ v, assign (.Subscript o i pos) X.env v = (do
      let ov ← holding [v] (eval o X.env)
      let iv ← holding [v, ov] (eval i X.env)
      standAt pos
      holding [v, ov, iv] (setItem ov iv v)
      release [v, ov, iv] []) := by intro _; rfl) : PG X (.Subscript o i pos) (gSub to ti t) := by
  intro pins s σ H v u Q I r h
  rw [ha]
  refine wpAny_bind (wpAny_holding (thn (ho pins s σ H _ I h) fun ov s1 ⟨x, H1, I1, r1, q1⟩ => ?_))
  refine wpAny_bind (wpAny_holding (thn (hi pins s1 σ H1 _ I1 q1) fun iv s2 ⟨y, H2, I2, r2, q2⟩ => ?_))
  refine wpAny_bind (wpAny_standAt (wpAny_bind (wpAny_holding (thn (hs pins s2 σ H2 x y v ov iv u _ I2 r1 r2 r q2) fun _ s3 ⟨H3, I3, q3⟩ => ?_))))
  exact wpAny_release ⟨σ, H3, I3, q3⟩
/-- target = value -/
def tAsg (te : TE) (g : TG) : TS := fun D σ H => te σ H fun x H1 => g x σ H1 D.nx
theorem ps_asg {tg e : Expr} {te : TE} {g : TG} (he : PE X e te) (hg : PG X tg g) (hs : swapsWithSole [tg] e pos.line X.env = pure false := by rfl) (hw : swappedStores [tg] e X.env = pure none := by rfl)
    (h1 : (assignEach [tg] X.env).map (·.2) = [assign tg X.env] := by rfl) : PS X (.Assign [tg] e pos) (tAsg te g) := by
  intro pins s σ H D I h
  refine wpAny_Assign_stores (thn (he pins s σ H _ I h) fun v s1 ⟨x, H1, I1, r1, q1⟩ => ?_) hs hw
  rw [h1]
  exact thn (hg pins s1 σ H1 x v _ I1 r1 q1) fun _ s2 q => q
/-- name = value -/
theorem ps_set {i : Nat} {x : Str} {e : Expr} {te : TE} {pos' : Pos} (hN : X.N.Nodup) (hi : X.N[i]? = some x) (hx : Loc X.env.scope x) (he : PE X e te) (hs : swapsWith e (some (.Name x pos')) pos.line X.env = pure false := by rfl) (hf : X.fn x = true ∨ X.env.scope.names.lookup x = some .local := by first | exact .inl rfl | exact .inr rfl | assumption) :
    PS X (.Assign [.Name x pos'] e pos) (tAsg te (gName i)) := by
  intro pins s σ H D I h
  refine wpAny_Assign_Name (thn (he pins s σ H _ I h) fun v s1 ⟨y, H1, I1, r1, q1⟩ => ?_) hs
  exact store_ok I1 hN hi hx r1 (fun s2 I2 => ⟨_, H1, I2, q1⟩) hf
/-- a, b = x, y with plain local names: stored from the right; the pair itself is not tracked (the opening rows as in PyProof/Rows/TupAssign.lean:23) -/
def tPar (i j : Nat) (ta : TA) : TS := fun D σ H => ta σ H fun vs H1 => ∃ v w, vs = [v, w] ∧ D.nx ((σ.set i (some v)).set j (some w)) H1
theorem ps_par {i j : Nat} {x y : Str} {a b : Expr} {ta : TA} {px py pt : Pos} {kt k2 pt2} (hc : X.calm = true) (hN : X.N.Nodup) (hi : X.N[i]? = some x) (hj : X.N[j]? = some y) (hij : i ≠ j)
    (hx : X.env.scope.names.lookup x = some .local) (hy : X.env.scope.names.lookup y = some .local) (ha : PA X [a, b] ta)
    (hw : swappedStores [.Tuple [.Name x px, .Name y py] kt pt] (.Tuple [a, b] k2 pt2) X.env = pure (some [x, y]))
    (hs : swapsWithSole [.Tuple [.Name x px, .Name y py] kt pt] (.Tuple [a, b] k2 pt2) pos.line X.env = pure false := by rfl) :
    PS X (.Assign [.Tuple [.Name x px, .Name y py] kt pt] (.Tuple [a, b] k2 pt2) pos) (tPar i j ta) := by
  intro pins s σ H D I h
  rw [exec_Assign_arm]
  refine wpAny_bind (wpAny_standAt ?_)
  rw [hs]
  refine wpAny_bind (wpAny_pure ?_)
  rw [if_neg (by decide)]
  refine wpAny_bind (Tuple_ (thn (ha _ pins s σ H _ I h) fun us s1 ⟨vs, H1, I1, r1, q1⟩ => ?_))
  obtain ⟨v, w, e1, q1⟩ := q1
  subst e1
  obtain ⟨u1, u2, rfl, rv, rw'⟩ : ∃ u1 u2, us = [u1, u2] ∧ RelV v u1 ∧ RelV w u2 := by
    cases r1 with
    | cons p q =>
      cases q with
      | cons p' q' =>
        cases q'
        exact ⟨_, _, rfl, p, p'⟩
  refine wpAny_newObj_type ?_ (by show 2 ≤ sizeLine; decide)
  have I2 : Inv X pins σ H1 { s1 with heap := s1.heap.push { cls := .type "tuple", data := .seq [u1, u2].toArray } } := I1.kept (t' := s1.toks) fun b o e => Heap.get?_push_of_some _ e
  rw [hw]
  refine wpAny_bind (wpAny_pure ?_)
  show wpAny (model X.prog X.w) X.A (do rule "assign.swapped-stores"; let items ← unpackItems (.ref s1.heap.objs.size) 2 none; assignInOrder [fun v => bindName X.env y v, fun v => bindName X.env x v] items.reverse; pure Flow.next) _ _ _
  refine wpAny_bind (wpAny_rule (wpAny_bind (unpackItems_tuple (items := #[u1, u2]) (I.ok.hd hc) (IsTup.new s1.heap _) fun h' hx' => ?_)))
  have I3 := I2.kept (h' := h') (t' := s1.toks) fun b o e => hx' b o (Nat.ne_of_lt (Heap.lt_size e)) e
  show wpAny _ _ (assignInOrder [fun v => bindName X.env y v, fun v => bindName X.env x v] [u2, u1] >>= fun _ => pure Flow.next) _ _ _
  refine wpAny_bind (assignInOrder_cons (wpAny_bindName (store_ok I3 hN hj (.inl hy) rw' (fun s2 I4 => ?_) (.inr hy))))
  refine assignInOrder_cons (wpAny_bindName (store_ok I4 hN hi (.inl hx) rv (fun s3 I5 => assignInOrder_nil (wpAny_pure ?_)) (.inr hx)))
  rw [List.set_comm _ _ (Ne.symm hij)] at I5
  exact ⟨_, H1, I5, q1⟩
/-- name op= e -/
def tAug (i : Nat) (te : TE) (ti : TIp) : TS := fun D σ H => ∃ x, σ[i]? = some (some x) ∧ te σ H fun y H1 => ti x y H1 fun z H2 => D.nx (σ.set i (some z)) H2
theorem ps_aug {i : Nat} {x : Str} {e : Expr} {te : TE} {op : Operator} {ti : TIp} {pos' : Pos} (hN : X.N.Nodup) (hi : X.N[i]? = some x) (hx : Loc X.env.scope x) (he : PE X e te) (ho : PIp X op ti) (hf : X.fn x = true ∨ X.env.scope.names.lookup x = some .local := by first | exact .inl rfl | exact .inr rfl | assumption) :
    PS X (.AugAssign (.Name x pos') op e pos) (tAug i te ti) := by
  intro pins s σ H D I h
  obtain ⟨v, e1, h⟩ := h
  obtain ⟨m, hn, hl⟩ := I.loc
  have vis : Vis X.env.scope x := by rcases hx with k | k; exact .inl k; exact .inr (.inl k)
  obtain ⟨u, r, l⟩ := hl i x v hi e1 vis
  refine wpAny_AugAssign_Name ?_
  have go : wpAny (model X.prog X.w) X.A (eval e X.env) (fun w s₂ => wpAny (model X.prog X.w) X.A (inplaceOp op u w) (fun r s₃ => wpAny (model X.prog X.w) X.A (storeName X.env x r) (fun _ => SP X pins D .next) X.xe s₃) X.xe s₂) X.xe s := by
    refine thn (he pins s σ H _ I h) fun w s1 ⟨y, H1, I1, r1, q1⟩ => ?_
    refine thn (ho pins s1 σ H1 v y u w _ I1 r r1 q1) fun z s2 ⟨zv, H2, I2, r2, q2⟩ => ?_
    exact store_ok I2 hN hi hx r2 (fun s3 I3 => ⟨_, H2, I3, q2⟩) hf
  rcases l with ⟨hk, hm⟩ | ⟨hk, c, hc, hcell⟩
  · exact wpAny_loadName_local I.ok.kind hk hn hm go
  · rcases hk with hk | hk
    · exact wpAny_loadName_cell I.ok.kind hk hc hcell go
    · rcases hx with k | k
      · have : X.env.scope.names.lookup x = some .free := hk
        rw [k] at this; cases this
      · have : X.env.scope.names.lookup x = some .free := hk
        rw [k] at this; cases this
/-- o[i] op= e -/
def tAugS (to ti te : TE) (tget : V → V → Hp → VK → Prop) (tip : TIp) (tset : TSet) : TS := fun D σ H => to σ H fun o H1 => ti σ H1 fun i H2 => tget o i H2 fun x H3 => te σ H3 fun y H4 => tip x y H4 fun z H5 => tset o i z H5 fun H6 => D.nx σ H6
/-- o[i], by values -/
def PGet (X : Cx) (t : V → V → Hp → VK → Prop) : Prop :=
  ∀ (pins : List (Addr × Obj)) (s : Shared) (σ : St) (H : Hp) (o i : V) (ov iv : Value) (Q : VK), Inv X pins σ H s → RelV o ov → RelV i iv → t o i H Q →
    wpAny (model X.prog X.w) X.A (getItem ov iv) (EP X pins σ Q) X.xe s
theorem ps_augS {o i e : Expr} {to ti te : TE} {tget : V → V → Hp → VK → Prop} {tip : TIp} {tset : TSet} {op : Operator} {tpos : Pos} (ho : PE X o to) (hi : PE X i ti) (hg : PGet X tget) (he : PE X e te) (hp : PIp X op tip) (hs : PSet X tset)
    (ha : ∀ ov iv new, augStore i ov iv new = (do holding [new, ov, iv] (setItem ov iv new); release [new, ov, iv] []; pure .next) := by intros; rfl) : PS X (.AugAssign (.Subscript o i tpos) op e pos) (tAugS to ti te tget tip tset) := by
  intro pins s σ H D I h
  refine wpAny_AugAssign_SubscriptAny (thn (ho pins s σ H _ I h) fun ov s1 ⟨x1, H1, I1, r1, q1⟩ => ?_) ha
  refine thn (hi pins s1 σ H1 _ I1 q1) fun iv s2 ⟨x2, H2, I2, r2, q2⟩ => ?_
  refine thn (hg pins s2 σ H2 x1 x2 ov iv _ I2 r1 r2 q2) fun old s3 ⟨x3, H3, I3, r3, q3⟩ => ?_
  refine thn (he pins s3 σ H3 _ I3 q3) fun v s4 ⟨x4, H4, I4, r4, q4⟩ => ?_
  refine thn (hp pins s4 σ H4 x3 x4 old v _ I4 r3 r4 q4) fun new s5 ⟨x5, H5, I5, r5, q5⟩ => ?_
  exact thn (hs pins s5 σ H5 x1 x2 x5 ov iv new _ I5 r1 r2 r5 q5) fun _ s6 ⟨H6, I6, q6⟩ => ⟨σ, H6, I6, q6⟩
/-- ints -/
def ipI (f : Int → Int → Int) : TIp := fun x y H Q => ∃ i j, x = .int i ∧ y = .int j ∧ Q (.int (f i j)) H
theorem ip_add : PIp X .Add (ipI fun i j => i + j) := by
  intro pins s σ H x y v u Q I r1 r2 h
  obtain ⟨i, j, e1, e2, q⟩ := h
  subst e1; subst e2
  obtain ⟨t, rfl⟩ := r1
  obtain ⟨t', rfl⟩ := r2
  exact iadd_int ⟨.int _, H, I.tok _, ⟨_, rfl⟩, q⟩
theorem ip_sub : PIp X .Sub (ipI fun i j => i - j) := by
  intro pins s σ H x y v u Q I r1 r2 h
  obtain ⟨i, j, e1, e2, q⟩ := h
  subst e1; subst e2
  obtain ⟨t, rfl⟩ := r1
  obtain ⟨t', rfl⟩ := r2
  exact isub_int ⟨.int _, H, I.tok _, ⟨_, rfl⟩, q⟩
end

/-! ### while -/
section
variable {X : Cx} {pos : Pos}
/-- the invariant W with its measure -/
def tWhile (c : TT) (tb : TS) : TS := fun D σ H => ∃ W : Nat → St → Hp → Prop, (∃ m, W m σ H) ∧ ∀ m σ H, W m σ H →
  c σ H fun b H1 => if b = true then ∃ N : St → Hp → Prop, (∀ σ' H', N σ' H' → ∃ m', m' < m ∧ W m' σ' H') ∧ tb { D with nx := N, ct := N, bk := D.nx } σ H1 else D.nx σ H1
theorem ps_while {c : Expr} {body : List Stmt} {tc : TT} {tb : TS} (hp : PassesOwn (model X.prog X.w) X.A X.env X.xe) (hc : PT X c tc) (hb : PSs X body tb) : PS X (.While c body [] pos) (tWhile tc tb) := by
  intro pins s σ H D I h
  obtain ⟨W, ⟨m0, w0⟩, turn⟩ := h
  refine wpAny_While (codeAny_whileLoop (fun n s' => ∃ σ' H', Inv X pins σ' H' s' ∧ W n σ' H') ?_ m0 ⟨σ, H, I, w0⟩)
  rintro n s1 ⟨σ1, H1, I1, w1⟩
  refine wpAny_passesOwn hp (thn (hc pins s1 σ1 H1 _ I1 (turn n σ1 H1 w1)) fun b s2 ⟨H2, I2, q2⟩ => ?_)
  cases b with
  | true =>
    obtain ⟨N, hN, q2⟩ := q2
    rw [if_pos rfl]
    refine wpAny_passesOwn hp (thn (hb pins s2 σ1 H2 _ I2 q2) fun f s3 q3 => ?_)
    cases f with
    | next =>
      obtain ⟨σ3, H3, I3, n3⟩ := q3
      obtain ⟨m', hm, w3⟩ := hN σ3 H3 n3
      exact ⟨m', hm, σ3, H3, I3, w3⟩
    | cont =>
      obtain ⟨σ3, H3, I3, n3⟩ := q3
      obtain ⟨m', hm, w3⟩ := hN σ3 H3 n3
      exact ⟨m', hm, σ3, H3, I3, w3⟩
    | brk => exact q3
    | ret v => exact q3
  | false =>
    rw [if_neg Bool.false_ne_true]
    exact wpAny_execs_nil ⟨σ1, H2, I2, q2⟩
end

/-! ### what a loop or a comprehension walks -/
/-- at turn i: it yields x (the heap may grow), or it stops -/
structure It where
  go : Nat → Hp → Prop
  yld : Nat → Hp → V → Hp → Prop
  stop : Nat → Hp → Prop
/-- the iterator's own objects may turn: they are not the frame's, not pinned, younger than the entry (or a comprehension's own) -/
def FpOk (X : Cx) (pins : List (Addr × Obj)) (H : Hp) (b : Addr) : Prop :=
  H b = none ∧ b ≠ X.env.locals ∧ b ∉ X.fs ∧ (b ∈ X.ex ∨ X.s₀.heap.objs.size ≤ b) ∧ (∀ x c, X.env.cells.lookup x = some c → c ≠ b) ∧ ∀ p ∈ X.pn ++ pins, p.1 ≠ b
theorem Inv.fpOk {X : Cx} {pins : List (Addr × Obj)} {σ : St} {H H' : Hp} {s : Shared} {b : Addr} (I : Inv X pins σ H s) (hb : s.heap.objs.size ≤ b) (hn : H' b = none) : FpOk X pins H' b := by
  refine ⟨hn, Nat.ne_of_gt (Nat.lt_of_lt_of_le I.lt hb), I.nofs hb, .inr (Nat.le_trans I.sz hb), fun x c e z => ?_, fun p hp z => ?_⟩
  · obtain ⟨v, q⟩ := I.cell x c e
    exact absurd (Nat.lt_of_lt_of_le q.lt (by rw [z]; exact hb)) (Nat.lt_irrefl _)
  · exact absurd (Nat.lt_of_lt_of_le (Heap.lt_size (I.pin p hp).1) (by rw [z]; exact hb)) (Nat.lt_irrefl _)
structure Turn (P : Program) (w : World) (K : PySem.W.Frag) (tg : Expr) (J : It) (fp : List Addr) (it : Addr) (tn : Nat → Heap → Prop) : Prop where
  mem : it ∈ fp
  obj : ∀ i h, tn i h → ∀ b ∈ fp, ∃ o, h.get? b = some o ∧ ∀ v, o.data ≠ .cell v
  keep : ∀ i h h', tn i h → (∀ b ∈ fp, ∀ o, h.get? b = some o → h'.get? b = some o) → tn i h'
  item : ∀ (X : Cx), X.prog = P → X.w = w → X.K = K → X.calm = true → ∀ (i : Nat) (pins : List (Addr × Obj)) (s : Shared) (σ : St) (H : Hp) (E : Value → Shared → Prop), Inv X pins σ H s → (∀ b ∈ fp, FpOk X pins H b) → tn i s.heap → J.go i H →
    wpAny (model P w) X.A (pyNext (.ref it)) (fun r s1 => ∃ u, r = some u ∧
      wpAny (model P w) X.A (letOwnedTupleGo tg (.ref it) u) (fun _ s2 => ∃ x H', Inv X pins σ H' s2 ∧ RelV x u ∧ J.yld i H x H' ∧ tn (i + 1) s2.heap ∧ ∀ b ∈ fp, H' b = none) E s1) E s
  done : ∀ (X : Cx), X.prog = P → X.w = w → X.K = K → X.calm = true → ∀ (i : Nat) (pins : List (Addr × Obj)) (s : Shared) (σ : St) (H : Hp) (E : Value → Shared → Prop), Inv X pins σ H s → (∀ b ∈ fp, FpOk X pins H b) → tn i s.heap → J.stop i H →
    wpAny (model P w) X.A (pyNext (.ref it)) (fun r s1 => r = none ∧ Inv X pins σ H s1) E s
  self : ∀ (A : Around) (i : Nat) (s : Shared) (Q : Value → Shared → Prop) (E : Value → Shared → Prop), tn i s.heap → Q (.ref it) s → wpAny (model P w) A (pyIter (.ref it)) Q E s
abbrev TI := St → Hp → (It → Hp → Prop) → Prop
/-- an iterator has come -/
def PIE (X : Cx) (pins : List (Addr × Obj)) (σ : St) (tg : Expr) (R : It → Hp → Prop) (itv : Value) (s2 : Shared) : Prop :=
  ∃ (it : Addr) (fp : List Addr) (tn : Nat → Heap → Prop) (J : It) (H' : Hp), itv = .ref it ∧ Inv X pins σ H' s2 ∧ Turn X.prog X.w X.K tg J fp it tn ∧ tn 0 s2.heap ∧ (∀ b ∈ fp, FpOk X pins H' b) ∧ R J H'
def PI (X : Cx) (tg iter : Expr) (wi : TI) : Prop :=
  ∀ (pins : List (Addr × Obj)) (s : Shared) (σ : St) (H : Hp) (R : It → Hp → Prop), Inv X pins σ H s → wi σ H R →
    wpAny (model X.prog X.w) X.A (eval iter X.env) (fun v s1 => wpAny (model X.prog X.w) X.A (pyIter v) (PIE X pins σ tg R) X.xe s1) X.xe s

/-- the step ahead of the store is nothing for an iterator that keeps no tuple -/
theorem go_of {M : Model} {A : Around} {E : Value → Shared → Prop} {s : Shared} {tg : Expr} {it : Addr} {u : Value} {o : Obj} {n : String} {vs : Array Value} {Q : Unit → Shared → Prop} (ho : s.heap.get? it = some o) (hc : o.cls = .type n) (hd : o.data = .fields vs)
    (hn : ["enumerate", "zip", "dict_itemiterator", "dict_reverseitemiterator", "odict_iterator", "itertools.zip_longest", "itertools.pairwise"].contains n = false) (hQ : Q () s) : wpAny M A (letOwnedTupleGo tg (.ref it) u) Q E s := by
  unfold letOwnedTupleGo
  cases tg <;> first
    | exact wpAny_pure hQ
    | (cases u <;> first
        | exact wpAny_pure hQ
        | (refine wpAny_bind (wpAny_load ho ?_)
           rw [hc, hd]
           show wpAny M A (if (["enumerate", "zip", "dict_itemiterator", "dict_reverseitemiterator", "odict_iterator", "itertools.zip_longest", "itertools.pairwise"].contains n && vs[0]? == some (rawInt _)) = true then _ else _) Q E s
           rw [if_neg (by intro h; rw [hn, Bool.false_and] at h; cases h)]
           exact wpAny_pure hQ))

/-- the list at a, as it stands at each turn (a loop may append to it) -/
def Itl (K : PySem.W.Frag) (a : Addr) : It :=
  ⟨fun i H => ∃ xs x, SqL K H a xs ∧ xs[i]? = some x, fun i H x H' => H' = H ∧ ∀ xs, SqL K H a xs → xs[i]? = some x, fun i H => ∃ xs, SqL K H a xs ∧ xs.length ≤ i⟩
def Itt (K : PySem.W.Frag) (a : Addr) : It :=
  ⟨fun i H => ∃ xs x, SqT K H a xs ∧ xs[i]? = some x, fun i H x H' => H' = H ∧ ∀ xs, SqT K H a xs → xs[i]? = some x, fun i H => ∃ xs, SqT K H a xs ∧ xs.length ≤ i⟩
/-- lo, lo + 1, .. (n of them) -/
def Itr (lo : Int) (n : Nat) : It := ⟨fun i _ => i < n, fun i H x H' => H' = H ∧ x = .int (lo + i), fun i _ => n ≤ i⟩
theorem turn_list {P : Program} {w : World} {K : PySem.W.Frag} {tg : Expr} (a it : Addr) : Turn P w K tg (Itl K a) [it] it (fun i h => h.IsListIter it a i) where
  mem := by simp
  obj := fun i h st b hb => by
    have e : b = it := by simpa using hb
    subst e
    obtain ⟨o, e, c, d⟩ := st
    exact ⟨o, e, fun v z => by rw [d] at z; cases z⟩
  keep := fun i h h' st k => st.at fun o e => k it (by simp) o e
  item := by
    intro X hP hw hK hc i pins s σ H E I hf st hg
    subst hP hw hK
    obtain ⟨xs, x, hq, hx⟩ := hg
    obtain ⟨its, rv, p, hz⟩ := I.list hq
    obtain ⟨u, hu, ru⟩ := rv.get hx
    obtain ⟨f0, f1, f2, f3, f4, f5⟩ := hf it (by simp)
    refine wpAny_pyNext_list_item st p.isList (x := u) (by simpa using hu) fun h' st' sb => ?_
    have I1 : Inv X pins σ H { s with heap := h' } := I.turned (t' := s.toks) (fun b o hb e => (sb.2 b hb).trans e) f0 f1 f3 f4 f5
    obtain ⟨o, e, c, d⟩ := id st'
    exact ⟨u, rfl, go_of (s := { s with heap := h' }) e c d (by decide) ⟨x, H, I1, ru, ⟨rfl, fun ys hy => by rw [I.list_inj hy hq]; exact hx⟩, st', fun b hb => (hf b hb).1⟩⟩
  done := by
    intro X hP hw hK hc i pins s σ H E I hf st hg
    subst hP hw hK
    obtain ⟨xs, hq, hx⟩ := hg
    obtain ⟨its, rv, p, hz⟩ := I.list hq
    obtain ⟨f0, f1, f2, f3, f4, f5⟩ := hf it (by simp)
    have hl := rv.length
    exact wpAny_pyNext_list_end (I.ok.hd hc) st p.isList (by simp; omega) fun h' eb => ⟨rfl, I.turned (t' := s.toks) (fun b o hb e => eb b o hb e) f0 f1 f3 f4 f5⟩
  self := fun _ _ _ _ _ st h => wpAny_pyIter_listiter st h
theorem turn_tuple {P : Program} {w : World} {K : PySem.W.Frag} {tg : Expr} (a it : Addr) : Turn P w K tg (Itt K a) [it] it (fun i h => h.IsTupleIter it a i) where
  mem := by simp
  obj := fun i h st b hb => by
    have e : b = it := by simpa using hb
    subst e
    obtain ⟨o, e, c, d⟩ := st
    exact ⟨o, e, fun v z => by rw [d] at z; cases z⟩
  keep := fun i h h' st k => st.at fun o e => k it (by simp) o e
  item := by
    intro X hP hw hK hc i pins s σ H E I hf st hg
    subst hP hw hK
    obtain ⟨xs, x, hq, hx⟩ := hg
    obtain ⟨its, rv, p, hz⟩ := I.tuple hq
    obtain ⟨u, hu, ru⟩ := rv.get hx
    obtain ⟨f0, f1, f2, f3, f4, f5⟩ := hf it (by simp)
    refine wpAny_pyNext_tuple_item st (show s.heap.IsTuple a its.toArray from p) (x := u) (by simpa using hu) fun h' st' sb => ?_
    have I1 : Inv X pins σ H { s with heap := h' } := I.turned (t' := s.toks) (fun b o hb e => (sb.2 b hb).trans e) f0 f1 f3 f4 f5
    obtain ⟨o, e, c, d⟩ := id st'
    exact ⟨u, rfl, go_of (s := { s with heap := h' }) e c d (by decide) ⟨x, H, I1, ru, ⟨rfl, fun ys hy => by rw [I.tuple_inj hy hq]; exact hx⟩, st', fun b hb => (hf b hb).1⟩⟩
  done := by
    intro X hP hw hK hc i pins s σ H E I hf st hg
    subst hP hw hK
    obtain ⟨xs, hq, hx⟩ := hg
    obtain ⟨its, rv, p, hz⟩ := I.tuple hq
    obtain ⟨f0, f1, f2, f3, f4, f5⟩ := hf it (by simp)
    have hl := rv.length
    exact wpAny_pyNext_tuple_end (I.ok.hd hc) st (show s.heap.IsTuple a its.toArray from p) (by simp; omega) fun h' eb => ⟨rfl, I.turned (t' := s.toks) (fun b o hb e => eb b o hb e) f0 f1 f3 f4 f5⟩
  self := fun _ _ _ _ _ st h => wpAny_pyIter_tupleiter st h
theorem turn_range {P : Program} {w : World} {K : PySem.W.Frag} {tg : Expr} (it : Addr) (lo : Int) (n : Nat) : Turn P w K tg (Itr lo n) [it] it (fun i h => IsRangeIter h it (lo + (i : Nat) * 1) ((n : Int) - (i : Nat)) 1) where
  mem := by simp
  obj := fun i h st b hb => by
    have e : b = it := by simpa using hb
    subst e
    exact ⟨_, st, fun v z => by
      have z' : Data.fields _ = Data.cell v := z
      cases z'⟩
  keep := fun i h h' st k => k it (by simp) _ st
  item := by
    intro X hP hw hK hc i pins s σ H E I hf st hg
    subst hP hw hK
    obtain ⟨f0, f1, f2, f3, f4, f5⟩ := hf it (by simp)
    have W := Walks.range (prog := X.prog) (w := X.w) (I.ok.hd hc) it lo 1 n
    refine W.item i s _ _ hg st fun v h' tk hv st' kk => ?_
    obtain ⟨t, rfl⟩ := hv
    have I1 : Inv X pins σ H { s with heap := h', toks := tk } := I.turned (fun b o hb e => kk b o (by simpa using hb) e) f0 f1 f3 f4 f5
    refine ⟨_, rfl, go_of (s := { s with heap := h', toks := tk }) (n := "range_iterator") st' rfl rfl (by decide) ⟨.int (lo + i), H, I1, ⟨t, ?_⟩, ⟨rfl, rfl⟩, st', fun b hb => (hf b hb).1⟩⟩
    rw [Int.mul_one]
  done := by
    intro X hP hw hK hc i pins s σ H E I hf st hg
    subst hP hw hK
    obtain ⟨f0, f1, f2, f3, f4, f5⟩ := hf it (by simp)
    exact wpAny_pyNext_range_end (I.ok.hd hc) st (by have : n ≤ i := hg; omega) fun h' eb => ⟨rfl, I.turned (t' := s.toks) (fun b o hb e => eb b o hb e) f0 f1 f3 f4 f5⟩
  self := fun _ _ _ _ _ st h => wpAny_pyIter_rangeiter st h
end L2

namespace L2
open PySem PySem.Spec PyProof.Rows
section
variable {X : Cx} {tg : Expr}
def iList (K : PySem.W.Frag) (tl : TE) : TI := fun σ H R => tl σ H fun x H1 => ∃ a, x = .ref a ∧ (∃ xs, SqL K H1 a xs) ∧ R (Itl K a) H1
def iTup (K : PySem.W.Frag) (tl : TE) : TI := fun σ H R => tl σ H fun x H1 => ∃ a, x = .ref a ∧ (∃ xs, SqT K H1 a xs) ∧ R (Itt K a) H1
theorem pi_list {l : Expr} {tl : TE} (hl : PE X l tl) : PI X tg l (iList X.K tl) := by
  intro pins s σ H R I h
  refine thn (hl pins s σ H _ I h) fun v s1 ⟨x, H1, I1, r1, q1⟩ => ?_
  obtain ⟨a, e, ⟨xs, hq⟩, q⟩ := q1
  subst e
  cases r1
  obtain ⟨its, rv, p, hz⟩ := I1.list hq
  refine wpAny_pyIter_list p.isList ?_
  refine ⟨s1.heap.objs.size, [s1.heap.objs.size], _, _, H1, rfl, I1.kept (t' := s1.toks) fun b o e => Heap.get?_push_of_some _ e, turn_list a _, ⟨_, Heap.get?_push_size _ rfl, rfl, rfl⟩, fun b hb => ?_, q⟩
  have e : b = s1.heap.objs.size := by simpa using hb
  subst e
  exact I1.fpOk (Nat.le_refl _) (I1.hok.fresh (Nat.le_refl _))
theorem pi_tup {l : Expr} {tl : TE} (hl : PE X l tl) : PI X tg l (iTup X.K tl) := by
  intro pins s σ H R I h
  refine thn (hl pins s σ H _ I h) fun v s1 ⟨x, H1, I1, r1, q1⟩ => ?_
  obtain ⟨a, e, ⟨xs, hq⟩, q⟩ := q1
  subst e
  cases r1
  obtain ⟨its, rv, p, hz⟩ := I1.tuple hq
  refine wpAny_pyIter_tuple (show s1.heap.IsTuple a its.toArray from p) ?_
  refine ⟨s1.heap.objs.size, [s1.heap.objs.size], _, _, H1, rfl, I1.kept (t' := s1.toks) fun b o e => Heap.get?_push_of_some _ e, turn_tuple a _, ⟨_, Heap.get?_push_size _ rfl, rfl, rfl⟩, fun b hb => ?_, q⟩
  have e : b = s1.heap.objs.size := by simpa using hb
  subst e
  exact I1.fpOk (Nat.le_refl _) (I1.hok.fresh (Nat.le_refl _))
/-- a range object just made, walked -/
theorem range_it {pins : List (Addr × Obj)} {σ : St} {H : Hp} {s : Shared} {R : It → Hp → Prop} {E : Value → Shared → Prop} {lo hi : Int} {t u v : Tok} {tk : Nat} (I : Inv X pins σ H s) (h1 : -(2 ^ 62) ≤ lo) (h2 : lo < 2 ^ 62) (h3 : -(2 ^ 62) ≤ hi) (h4 : hi < 2 ^ 62)
    (q : R (Itr lo (hi - lo).toNat) H) : wpAny (model X.prog X.w) X.A (pyIter (.ref s.heap.objs.size)) (PIE X pins σ tg R) E { s with heap := s.heap.push { cls := .type "range", data := .fields #[.int lo t, .int hi u, .int 1 v] }, toks := tk } := by
  refine wpAny_pyIter_range (IsRange.new ..) (small_one h1 h2 h3 h4) ?_
  have I1 : Inv X pins σ H { s with heap := s.heap.push { cls := .type "range", data := .fields #[.int lo t, .int hi u, .int 1 v] }, toks := tk } := I.kept fun b o e => Heap.get?_push_of_some _ e
  refine ⟨(s.heap.push { cls := .type "range", data := .fields #[.int lo t, .int hi u, .int 1 v] }).objs.size, [(s.heap.push { cls := .type "range", data := .fields #[.int lo t, .int hi u, .int 1 v] }).objs.size], _, _, H, rfl,
    I1.kept (t' := tk) fun b o e => Heap.get?_push_of_some _ e, turn_range _ lo (hi - lo).toNat, ?_, fun b hb => ?_, q⟩
  · have e1 : lo + ((0 : Nat) : Int) * 1 = lo := by simp
    have e2 : (((hi - lo).toNat : Nat) : Int) - ((0 : Nat) : Int) = Builtin.Range.rangeSize lo hi 1 := by rw [rangeSize_one]; split <;> omega
    show IsRangeIter _ _ (lo + ((0 : Nat) : Int) * 1) ((((hi - lo).toNat : Nat) : Int) - ((0 : Nat) : Int)) 1
    rw [e1, e2]
    exact Heap.get?_push_size _ rfl
  · have e : b = (s.heap.push { cls := .type "range", data := .fields #[.int lo t, .int hi u, .int 1 v] }).objs.size := by simpa using hb
    subst e
    exact I1.fpOk (Nat.le_refl _) (I1.hok.fresh (Nat.le_refl _))
def iRng1 (ta : TA) : TI := fun σ H R => ta σ H fun vs H1 => ∃ j : Int, vs = [.int j] ∧ -(2 ^ 62) ≤ j ∧ j < 2 ^ 62 ∧ R (Itr 0 j.toNat) H1
def iRng2 (ta : TA) : TI := fun σ H R => ta σ H fun vs H1 => ∃ i j : Int, vs = [.int i, .int j] ∧ (-(2 ^ 62) ≤ i ∧ i < 2 ^ 62 ∧ -(2 ^ 62) ≤ j ∧ j < 2 ^ 62) ∧ R (Itr i (j - i).toNat) H1
theorem pi_range1 {a : Expr} {ta : TA} {p pos : Pos} (hg : Gl X "range") (hm : X.mg "range" = none) (ha : PA X [a] ta) (hs : starEach [a] X.env = [(false, eval a X.env)] := by rfl) : PI X tg (.Call (.Name "range" p) [a] [] pos) (iRng1 ta) := by
  intro pins s σ H R I h
  refine Call_ (ld_blt I hg hm boot_range (PyProof.Rows.callWith_type1 (thn (ha pos pins s σ H _ I h) fun us s1 ⟨vs, H1, I1, r1, q1⟩ => ?_) hs rfl))
  obtain ⟨j, e, q1, q2, q⟩ := q1
  subst e
  cases r1 with
  | cons r rr =>
    cases rr
    obtain ⟨t, rfl⟩ := r
    exact call_range_1 (range_it I1 (by omega) (by omega) q1 q2 (by simpa using q))
theorem pi_range2 {a b : Expr} {ta : TA} {p pos : Pos} (hg : Gl X "range") (hm : X.mg "range" = none) (ha : PA X [a, b] ta) (hs : starEach [a, b] X.env = [(false, eval a X.env), (false, eval b X.env)] := by rfl) (hs2 : starEach [b] X.env = [(false, eval b X.env)] := by rfl) :
    PI X tg (.Call (.Name "range" p) [a, b] [] pos) (iRng2 ta) := by
  intro pins s σ H R I h
  refine Call_ (ld_blt I hg hm boot_range (PyProof.Rows.callWith_type1 (thn (ha pos pins s σ H _ I h) fun us s1 ⟨vs, H1, I1, r1, q1⟩ => ?_) (by rw [hs, hs2]) (by rw [hs2]; rfl)))
  obtain ⟨i, j, e, ⟨q1, q2, q3, q4⟩, q⟩ := q1
  subst e
  cases r1 with
  | cons r rr =>
    cases rr with
    | cons r' rr =>
      cases rr
      obtain ⟨t, rfl⟩ := r
      obtain ⟨t', rfl⟩ := r'
      exact call_range_2 (range_it I1 q1 q2 q3 q4 q)

/-! ### for -/
/-- W: the invariant by the turn and a measure; N: what the body is to reach -/
def tFor (wi : TI) (g : TG) (tb : TS) : TS := fun D σ H => wi σ H fun J H1 => ∃ W : Nat → Nat → St → Hp → Prop, (∃ m, W 0 m σ H1) ∧ ∀ i m σ H, W i m σ H →
  (J.stop i H ∧ D.nx σ H) ∨ (J.go i H ∧ ∃ N : St → Hp → Prop, (∀ σ' H', N σ' H' → ∃ m', m' < m ∧ W (i + 1) m' σ' H') ∧ ∀ x H', J.yld i H x H' → g x σ H' fun σ2 H2 => tb { D with nx := N, ct := N, bk := D.nx } σ2 H2)
/-- the records at fp as they stand -/
def pinsAt (fp : List Addr) (h : Heap) : List (Addr × Obj) := fp.filterMap fun b => (h.get? b).map fun o => (b, o)
theorem mem_pinsAt {fp : List Addr} {h : Heap} {b : Addr} {o : Obj} (hb : b ∈ fp) (e : h.get? b = some o) : (b, o) ∈ pinsAt fp h := List.mem_filterMap.mpr ⟨b, hb, by rw [e]; rfl⟩
theorem of_pinsAt {fp : List Addr} {h : Heap} {p : Addr × Obj} (hp : p ∈ pinsAt fp h) : p.1 ∈ fp ∧ h.get? p.1 = some p.2 := by
  obtain ⟨b, hb, e⟩ := List.mem_filterMap.mp hp
  cases q : h.get? b with
  | none => rw [q] at e; cases e
  | some o =>
    rw [q] at e
    have e' : (b, o) = p := Option.some.inj e
    subst e'
    exact ⟨hb, q⟩
theorem Inv.pinned {pins : List (Addr × Obj)} {σ : St} {H : Hp} {s : Shared} {fp : List Addr} (I : Inv X pins σ H s) (hf : ∀ b ∈ fp, FpOk X pins H b) (ho : ∀ b ∈ fp, ∃ o, s.heap.get? b = some o ∧ ∀ v, o.data ≠ .cell v) : Inv X (pins ++ pinsAt fp s.heap) σ H s :=
  I.pins_of fun p hp => (List.mem_append.mp hp).elim (fun z => I.pin p (List.mem_append_right _ z)) fun z => by
    obtain ⟨hb, e⟩ := of_pinsAt z
    obtain ⟨f0, f1, f2, _⟩ := hf p.1 hb
    obtain ⟨o, e', d⟩ := ho p.1 hb
    rw [e] at e'; cases e'
    exact ⟨e, f0, f1, f2, d⟩
theorem Inv.unpinned {pins pl : List (Addr × Obj)} {σ : St} {H : Hp} {s : Shared} (I : Inv X (pins ++ pl) σ H s) : Inv X pins σ H s := I.pins_of fun p hp => I.pin p (List.mem_append_right _ (List.mem_append_left _ hp))
theorem ps_for {iter : Expr} {body : List Stmt} {wi : TI} {g : TG} {tb : TS} {pos : Pos} (hp : PassesOwn (model X.prog X.w) X.A X.env X.xe) (hc : X.calm = true) (hi : PI X tg iter wi) (hg : PG X tg g) (hb : PSs X body tb)
    (hs : ∀ x, foldedSetIterable iter X.env x = pure x := by intro _; rfl) : PS X (.For tg iter body [] pos) (tFor wi g tb) := by
  intro pins s σ H D I h
  refine wpAny_For (thn (hi pins s σ H _ I h) fun v s1 h1 => thn h1 fun itv s2 h2 => ?_) hs
  obtain ⟨it, fp, tn, J, H2, e, I2, T, st2, f2, W, ⟨m0, w0⟩, turn⟩ := h2
  subst e
  -- what stays true of the iterator's objects through the loop
  have stat : ∀ {H' : Hp}, (∀ b ∈ fp, H' b = none) → ∀ b ∈ fp, FpOk X pins H' b := fun hn b hb => ⟨hn b hb, (f2 b hb).2⟩
  refine codeAny_forLoop_any (fun n s' => ∃ i σ' H', Inv X pins σ' H' s' ∧ tn i s'.heap ∧ (∀ b ∈ fp, H' b = none) ∧ W i n σ' H') ?_ m0 ⟨0, σ, H2, I2, st2, fun b hb => (f2 b hb).1, w0⟩
  rintro n s3 ⟨i, σ3, H3, I3, st3, fr3, w3⟩
  rcases turn i n σ3 H3 w3 with ⟨stop, qn⟩ | ⟨go, N, hN, step⟩
  · refine wpAny_passesOwn hp (thn (T.done X rfl rfl rfl hc i pins s3 σ3 H3 X.xe I3 (stat fr3) st3 stop) fun r s4 ⟨hr, I4⟩ => ?_)
    subst hr
    exact wpAny_execs_nil ⟨σ3, H3, I4, qn⟩
  · refine wpAny_passesOwn hp (thn (T.item X rfl rfl rfl hc i pins s3 σ3 H3 X.xe I3 (stat fr3) st3 go) fun r s4 ⟨u, hr, h4⟩ => ?_)
    subst hr
    refine wpAny_passesOwn hp (thn h4 fun _ s5 ⟨x, H5, I5, r5, y5, st5, fr5⟩ => ?_)
    have I5' := I5.pinned (stat fr5) (T.obj _ _ st5)
    refine wpAny_passesOwn hp (thn (hg _ s5 σ3 H5 x u _ I5' r5 (step x H5 y5)) fun _ s6 ⟨σ6, H6, I6, q6⟩ => ?_)
    refine wpAny_passesOwn hp (thn (hb _ s6 σ6 H6 _ I6 q6) fun f s7 q7 => ?_)
    have again : ∀ {σ7 : St} {H7 : Hp}, Inv X (pins ++ pinsAt fp s5.heap) σ7 H7 s7 → N σ7 H7 → ∃ m, m < n ∧ ∃ i σ' H', Inv X pins σ' H' s7 ∧ tn i s7.heap ∧ (∀ b ∈ fp, H' b = none) ∧ W i m σ' H' := fun {σ7 H7} I7 n7 => by
      obtain ⟨m', hm, w7⟩ := hN σ7 H7 n7
      refine ⟨m', hm, i + 1, σ7, H7, I7.unpinned, T.keep _ _ _ st5 fun b hb o e => (I7.pin (b, o) (List.mem_append_right _ (List.mem_append_right _ (mem_pinsAt hb e)))).1, fun b hb => ?_, w7⟩
      obtain ⟨o, e, d⟩ := T.obj _ _ st5 b hb
      exact (I7.pin (b, o) (List.mem_append_right _ (List.mem_append_right _ (mem_pinsAt hb e)))).2.1
    cases f with
    | next => obtain ⟨σ7, H7, I7, n7⟩ := q7; exact again I7 n7
    | cont => obtain ⟨σ7, H7, I7, n7⟩ := q7; exact again I7 n7
    | brk => obtain ⟨σ7, H7, I7, q7⟩ := q7; exact ⟨σ7, H7, I7.unpinned, q7⟩
    | ret v => obtain ⟨x7, σ7, H7, I7, r7, q7⟩ := q7; exact ⟨x7, σ7, H7, I7.unpinned, r7, q7⟩
end

/-! ### the forms one uses -/
/-- over a list that the body leaves as it is -/
theorem for_list {K : PySem.W.Frag} {a : Addr} {xs : List V} {g : TG} {tb : TS} {D : Ends} {σ : St} {H : Hp} (Pv : Nat → St → Hp → Prop) (h0 : Pv 0 σ H) (hl : ∀ i σ H, i ≤ xs.length → Pv i σ H → SqL K H a xs)
    (hs : ∀ i x σ H, xs[i]? = some x → Pv i σ H → g x σ H fun σ2 H2 => tb { D with nx := Pv (i + 1), ct := Pv (i + 1), bk := D.nx } σ2 H2) (hd : ∀ σ H, Pv xs.length σ H → D.nx σ H) :
    ∃ W : Nat → Nat → St → Hp → Prop, (∃ m, W 0 m σ H) ∧ ∀ i m σ H, W i m σ H →
      ((Itl K a).stop i H ∧ D.nx σ H) ∨ ((Itl K a).go i H ∧ ∃ N : St → Hp → Prop, (∀ σ' H', N σ' H' → ∃ m', m' < m ∧ W (i + 1) m' σ' H') ∧ ∀ x H', (Itl K a).yld i H x H' → g x σ H' fun σ2 H2 => tb { D with nx := N, ct := N, bk := D.nx } σ2 H2) := by
  refine ⟨fun i m σ H => m = xs.length - i ∧ i ≤ xs.length ∧ Pv i σ H, ⟨xs.length, by simp, Nat.zero_le _, h0⟩, ?_⟩
  rintro i m σ H ⟨rfl, hi, p⟩
  have q := hl i σ H hi p
  by_cases hlt : i < xs.length
  · refine .inr ⟨⟨xs, xs[i], q, by simp [hlt]⟩, Pv (i + 1), fun σ' H' p' => ⟨xs.length - (i + 1), by omega, rfl, hlt, p'⟩, fun x H' y => ?_⟩
    obtain ⟨e, y⟩ := y
    subst e
    exact hs i x σ _ (y xs q) p
  · have e : i = xs.length := by omega
    subst e
    exact .inl ⟨⟨xs, q, Nat.le_refl _⟩, hd σ H p⟩
theorem for_tup {K : PySem.W.Frag} {a : Addr} {xs : List V} {g : TG} {tb : TS} {D : Ends} {σ : St} {H : Hp} (Pv : Nat → St → Hp → Prop) (h0 : Pv 0 σ H) (hl : ∀ i σ H, i ≤ xs.length → Pv i σ H → SqT K H a xs)
    (hs : ∀ i x σ H, xs[i]? = some x → Pv i σ H → g x σ H fun σ2 H2 => tb { D with nx := Pv (i + 1), ct := Pv (i + 1), bk := D.nx } σ2 H2) (hd : ∀ σ H, Pv xs.length σ H → D.nx σ H) :
    ∃ W : Nat → Nat → St → Hp → Prop, (∃ m, W 0 m σ H) ∧ ∀ i m σ H, W i m σ H →
      ((Itt K a).stop i H ∧ D.nx σ H) ∨ ((Itt K a).go i H ∧ ∃ N : St → Hp → Prop, (∀ σ' H', N σ' H' → ∃ m', m' < m ∧ W (i + 1) m' σ' H') ∧ ∀ x H', (Itt K a).yld i H x H' → g x σ H' fun σ2 H2 => tb { D with nx := N, ct := N, bk := D.nx } σ2 H2) := by
  refine ⟨fun i m σ H => m = xs.length - i ∧ i ≤ xs.length ∧ Pv i σ H, ⟨xs.length, by simp, Nat.zero_le _, h0⟩, ?_⟩
  rintro i m σ H ⟨rfl, hi, p⟩
  have q := hl i σ H hi p
  by_cases hlt : i < xs.length
  · refine .inr ⟨⟨xs, xs[i], q, by simp [hlt]⟩, Pv (i + 1), fun σ' H' p' => ⟨xs.length - (i + 1), by omega, rfl, hlt, p'⟩, fun x H' y => ?_⟩
    obtain ⟨e, y⟩ := y
    subst e
    exact hs i x σ _ (y xs q) p
  · have e : i = xs.length := by omega
    subst e
    exact .inl ⟨⟨xs, q, Nat.le_refl _⟩, hd σ H p⟩
theorem for_range {lo : Int} {n : Nat} {g : TG} {tb : TS} {D : Ends} {σ : St} {H : Hp} (Pv : Nat → St → Hp → Prop) (h0 : Pv 0 σ H)
    (hs : ∀ i σ H, i < n → Pv i σ H → g (.int (lo + i)) σ H fun σ2 H2 => tb { D with nx := Pv (i + 1), ct := Pv (i + 1), bk := D.nx } σ2 H2) (hd : ∀ σ H, Pv n σ H → D.nx σ H) :
    ∃ W : Nat → Nat → St → Hp → Prop, (∃ m, W 0 m σ H) ∧ ∀ i m σ H, W i m σ H →
      ((Itr lo n).stop i H ∧ D.nx σ H) ∨ ((Itr lo n).go i H ∧ ∃ N : St → Hp → Prop, (∀ σ' H', N σ' H' → ∃ m', m' < m ∧ W (i + 1) m' σ' H') ∧ ∀ x H', (Itr lo n).yld i H x H' → g x σ H' fun σ2 H2 => tb { D with nx := N, ct := N, bk := D.nx } σ2 H2) := by
  refine ⟨fun i m σ H => m = n - i ∧ i ≤ n ∧ Pv i σ H, ⟨n, by simp, Nat.zero_le _, h0⟩, ?_⟩
  rintro i m σ H ⟨rfl, hi, p⟩
  by_cases hlt : i < n
  · refine .inr ⟨hlt, Pv (i + 1), fun σ' H' p' => ⟨n - (i + 1), by omega, rfl, hlt, p'⟩, fun x H' y => ?_⟩
    obtain ⟨e, y⟩ := y
    subst e y
    exact hs i σ _ hlt p
  · have e : i = n := by omega
    subst e
    exact .inl ⟨Nat.le_refl _, hd σ H p⟩
/-- while, by a word and a measure of the state -/
theorem while_by {c : TT} {tb : TS} {D : Ends} {σ : St} {H : Hp} (Pv : St → Hp → Prop) (μ : St → Hp → Nat) (h0 : Pv σ H)
    (hs : ∀ σ H, Pv σ H → c σ H fun b H1 => if b = true then tb { D with nx := fun σ' H' => Pv σ' H' ∧ μ σ' H' < μ σ H, ct := fun σ' H' => Pv σ' H' ∧ μ σ' H' < μ σ H, bk := D.nx } σ H1 else D.nx σ H1)
    (mono : ∀ σ H Q Q', (∀ b H1, Q b H1 → Q' b H1) → c σ H Q → c σ H Q') : tWhile c tb D σ H := by
  refine ⟨fun m σ H => m = μ σ H ∧ Pv σ H, ⟨_, rfl, h0⟩, ?_⟩
  rintro m σ H ⟨rfl, p⟩
  refine mono σ H _ _ (fun b H1 q => ?_) (hs σ H p)
  cases b with
  | true => exact ⟨_, fun σ' H' ⟨p', l⟩ => ⟨_, l, rfl, p'⟩, q⟩
  | false => exact q
end L2

namespace L2
open PySem PySem.Spec PyProof.Rows

abbrev R2 := V → V → Hp → VK → Prop
/-- a two-place operation on values: f is binaryOp op, inplaceOp op or compareOp op -/
def OpR (X : Cx) (f : Value → Value → Sem Value) (r : R2) : Prop :=
  ∀ (pins : List (Addr × Obj)) (s : Shared) (σ : St) (H : Hp) (x y : V) (v u : Value) (Q : VK), Inv X pins σ H s → RelV x v → RelV y u → r x y H Q →
    wpAny (model X.prog X.w) X.A (f v u) (EP X pins σ Q) X.xe s
/-- a one-place operation -/
def UnR (X : Cx) (f : Value → Sem Value) (r : V → Hp → VK → Prop) : Prop :=
  ∀ (pins : List (Addr × Obj)) (s : Shared) (σ : St) (H : Hp) (x : V) (v : Value) (Q : VK), Inv X pins σ H s → RelV x v → r x H Q →
    wpAny (model X.prog X.w) X.A (f v) (EP X pins σ Q) X.xe s
/-- a call of a value that is known (a builtin, a type) with values -/
def CallR (X : Cx) (f : Value) (r : List V → Hp → VK → Prop) : Prop :=
  ∀ (pins : List (Addr × Obj)) (s : Shared) (σ : St) (H : Hp) (xs : List V) (us : List Value) (Q : VK), Inv X pins σ H s → Vals xs us → r xs H Q →
    wpAny (model X.prog X.w) X.A (call f us) (EP X pins σ Q) X.xe s
/-- a value's truth -/
def TruR (X : Cx) (r : V → Hp → (Bool → Hp → Prop) → Prop) : Prop :=
  ∀ (pins : List (Addr × Obj)) (s : Shared) (σ : St) (H : Hp) (x : V) (v : Value) (Q : Bool → Hp → Prop), Inv X pins σ H s → RelV x v → r x H Q →
    wpAny (model X.prog X.w) X.A (truthy v) (TP X pins σ Q) X.xe s

def tOp (r : R2) (ta tb : TE) : TE := fun σ H Q => ta σ H fun x H1 => tb σ H1 fun y H2 => r x y H2 Q
def tUn (r : V → Hp → VK → Prop) (ta : TE) : TE := fun σ H Q => ta σ H fun x H1 => r x H1 Q
/-- ints in, under C, and a value out -/
def rI (C : Int → Int → Prop) (g : Int → Int → V) : R2 := fun x y H Q => ∃ i j, x = .int i ∧ y = .int j ∧ C i j ∧ Q (g i j) H
def rI0 (g : Int → Int → V) : R2 := fun x y H Q => ∃ i j, x = .int i ∧ y = .int j ∧ Q (g i j) H
def rU (g : Int → V) : V → Hp → VK → Prop := fun x H Q => ∃ i, x = .int i ∧ Q (g i) H

section
variable {X : Cx} {a b c : Expr} {ta tb tc : TE} {pos : Pos}

theorem binT (ha : PE X a ta) (hb : PE X b tb) {pins : List (Addr × Obj)} {s : Shared} {σ : St} {H : Hp} {R : V → V → Hp → Prop} (I : Inv X pins σ H s)
    (h : ta σ H fun x H1 => tb σ H1 fun y H2 => R x y H2) {Q : Value → Shared → Prop} {f : Value → Value → Sem Value}
    (hf : ∀ v u s2 x y H2, Inv X pins σ H2 s2 → RelV x v → RelV y u → R x y H2 → wpAny (model X.prog X.w) X.A (f v u) Q X.xe s2) :
    wpAny (model X.prog X.w) X.A (eval a X.env) (fun v s₁ => wpAny (model X.prog X.w) X.A (eval b X.env) (fun u s₂ => wpAny (model X.prog X.w) X.A (f v u) Q X.xe s₂) X.xe s₁) X.xe s := by
  refine thn (ha pins s σ H _ I h) fun v s1 ⟨x, H1, I1, r1, q1⟩ => ?_
  refine thn (hb pins s1 σ H1 _ I1 q1) fun u s2 ⟨y, H2, I2, r2, q2⟩ => ?_
  exact hf v u s2 x y H2 I2 r1 r2 q2

theorem pe_op {op : Operator} {r : R2} (ho : OpR X (binaryOp op) r) (ha : PE X a ta) (hb : PE X b tb) : PE X (.BinOp a op b pos) (tOp r ta tb) := by
  intro pins s σ H Q I h
  exact wpAny_BinOp (binT ha hb I h fun v u s2 x y H2 I2 rx ry q => ho pins s2 σ H2 x y v u Q I2 rx ry q)
theorem pe_un {op : UnaryOp} {r : V → Hp → VK → Prop} (ho : UnR X (unaryOp op) r) (ha : PE X a ta) : PE X (.UnaryOp op a pos) (tUn r ta) := by
  intro pins s σ H Q I h
  exact UnaryOp_ (thn (ha pins s σ H _ I h) fun v s1 ⟨x, H1, I1, r1, q1⟩ => ho pins s1 σ H1 x v Q I1 r1 q1)
/-- a op= e at a name: the name's slot i -/
theorem augR {op : Operator} {r : R2} (ho : OpR X (inplaceOp op) r) {pins : List (Addr × Obj)} {s : Shared} {σ : St} {H : Hp} {x y : V} {v u : Value} {Q : VK} (I : Inv X pins σ H s)
    (rx : RelV x v) (ry : RelV y u) (q : r x y H Q) : wpAny (model X.prog X.w) X.A (inplaceOp op v u) (EP X pins σ Q) X.xe s := ho pins s σ H x y v u Q I rx ry q

/-! ### ints -/
theorem opI {f : Value → Value → Sem Value} {C : Int → Int → Prop} {g : Int → Int → Int}
    (rule : ∀ (i j : Int) (t u : Tok) (s : Shared) (Q : Value → Shared → Prop) (E : Value → Shared → Prop), C i j → Q (.int (g i j) s.toks) { s with toks := s.toks + 1 } → wpAny (model X.prog X.w) X.A (f (.int i t) (.int j u)) Q E s) :
    OpR X f (rI C fun i j => .int (g i j)) := by
  intro pins s σ H x y v u Q I rx ry h
  obtain ⟨i, j, rfl, rfl, hc, q⟩ := h
  obtain ⟨t, rfl⟩ := rx
  obtain ⟨t', rfl⟩ := ry
  exact rule i j t t' s _ _ hc ⟨.int (g i j), H, I.tok _, ⟨_, rfl⟩, q⟩
theorem opI0 {f : Value → Value → Sem Value} {g : Int → Int → Int}
    (rule : ∀ (i j : Int) (t u : Tok) (s : Shared) (Q : Value → Shared → Prop) (E : Value → Shared → Prop), Q (.int (g i j) s.toks) { s with toks := s.toks + 1 } → wpAny (model X.prog X.w) X.A (f (.int i t) (.int j u)) Q E s) :
    OpR X f (rI0 fun i j => .int (g i j)) := by
  intro pins s σ H x y v u Q I rx ry h
  obtain ⟨i, j, rfl, rfl, q⟩ := h
  obtain ⟨t, rfl⟩ := rx
  obtain ⟨t', rfl⟩ := ry
  exact rule i j t t' s _ _ ⟨.int (g i j), H, I.tok _, ⟨_, rfl⟩, q⟩
theorem opB0 {f : Value → Value → Sem Value} {g : Int → Int → Bool}
    (rule : ∀ (i j : Int) (t u : Tok) (s : Shared) (Q : Value → Shared → Prop) (E : Value → Shared → Prop), Q (.bool (g i j)) s → wpAny (model X.prog X.w) X.A (f (.int i t) (.int j u)) Q E s) :
    OpR X f (rI0 fun i j => .bl (g i j)) := by
  intro pins s σ H x y v u Q I rx ry h
  obtain ⟨i, j, rfl, rfl, q⟩ := h
  obtain ⟨t, rfl⟩ := rx
  obtain ⟨t', rfl⟩ := ry
  exact rule i j t t' s _ _ ⟨.bl (g i j), H, I, rfl, q⟩

def CDiv (i j : Int) : Prop := 0 < j ∧ j < 1073741824
def CDivN (i j : Int) : Prop := j ≠ 0 ∧ j.natAbs < 1073741824
def CPow (i j : Int) : Prop := 0 ≤ j ∧ j ≤ 1000000 ∧ i.natAbs < 2 ^ 64
def CMul (i j : Int) : Prop := (-(2 ^ 64) < i ∧ i < 2 ^ 64) ∨ (-(2 ^ 64) < j ∧ j < 2 ^ 64)
theorem CMul.ok {i j : Int} (h : CMul i j) : IntMulOk i j := by
  rcases h with ⟨h1, h2⟩ | ⟨h1, h2⟩
  · exact .of_left (intBits_le_64 h1 h2)
  · exact .of_right (intBits_le_64 h1 h2)
theorem two_pow_nn (k : Nat) : (0 : Int) ≤ 2 ^ k := by
  rw [two_pow_cast]
  exact Int.natCast_nonneg _

theorem op_add : OpR X (binaryOp .Add) (rI0 fun i j => .int (i + j)) := opI0 fun _ _ _ _ _ _ _ q => add_int q
theorem op_sub : OpR X (binaryOp .Sub) (rI0 fun i j => .int (i - j)) := opI0 fun _ _ _ _ _ _ _ q => sub_int q
theorem op_mul : OpR X (binaryOp .Mult) (rI CMul fun i j => .int (i * j)) := opI fun _ _ _ _ _ _ _ hc q => mul_int q hc.ok
/-- // by a positive divisor -/
theorem op_fdiv : OpR X (binaryOp .FloorDiv) (rI CDiv fun i j => .int (i / j)) := opI fun i j _ _ _ _ _ hc q => by
  have h1 : (0 : Int) < j := hc.1
  have h2 : j < 1073741824 := hc.2
  exact floordiv_int (by omega) (by rw [Int.fdiv_eq_ediv_of_nonneg i (by omega)]; exact q) (.inl (PyProof.noPylong_small (by omega)))
theorem op_fdivN : OpR X (binaryOp .FloorDiv) (rI CDivN fun i j => .int (i.fdiv j)) := opI fun _ _ _ _ _ _ _ hc q => floordiv_int hc.1 q (.inl (PyProof.noPylong_small hc.2))
/-- % by a positive divisor of any size -/
theorem op_mod : OpR X (binaryOp .Mod) (rI (fun _ j => 0 < j) fun i j => .int (i % j)) := opI fun i j _ _ _ _ _ hc q => by
  have h1 : (0 : Int) < j := hc
  exact mod_int' (by omega) (by rw [Int.fmod_eq_emod_of_nonneg i (by omega)]; exact q)
theorem op_modN : OpR X (binaryOp .Mod) (rI (fun _ j => j ≠ 0) fun i j => .int (i.fmod j)) := opI fun _ _ _ _ _ _ _ hc q => mod_int' hc q
theorem op_pow : OpR X (binaryOp .Pow) (rI CPow fun i j => .int (i ^ j.toNat)) := opI fun _ _ _ _ _ _ _ hc q => pow_int_small hc.1 hc.2.1 hc.2.2 q
theorem op_shl : OpR X (binaryOp .LShift) (rI CPow fun i j => .int (i * 2 ^ j.toNat)) := opI fun _ _ _ _ _ _ _ hc q => lshift_int_small hc.1 hc.2.1 hc.2.2 q
theorem op_shr : OpR X (binaryOp .RShift) (rI (fun _ j => 0 ≤ j) fun i j => .int (i / 2 ^ j.toNat)) := opI fun i j _ _ _ _ _ hc q =>
  rshift_int hc (by rw [Int.fdiv_eq_ediv_of_nonneg i (two_pow_nn _)]; exact q)
theorem op_and : OpR X (binaryOp .BitAnd) (rI0 fun i j => .int (Builtin.bitAnd i j)) := opI0 fun _ _ _ _ _ _ _ q => and_int q
theorem op_or : OpR X (binaryOp .BitOr) (rI0 fun i j => .int (Builtin.bitOr i j)) := opI0 fun _ _ _ _ _ _ _ q => or_int q
theorem op_xor : OpR X (binaryOp .BitXor) (rI0 fun i j => .int (Builtin.bitXor i j)) := opI0 fun _ _ _ _ _ _ _ q => xor_int q

theorem iop_add : OpR X (inplaceOp .Add) (rI0 fun i j => .int (i + j)) := opI0 fun _ _ _ _ _ _ _ q => iadd_int q
theorem iop_sub : OpR X (inplaceOp .Sub) (rI0 fun i j => .int (i - j)) := opI0 fun _ _ _ _ _ _ _ q => isub_int q
theorem iop_mul : OpR X (inplaceOp .Mult) (rI CMul fun i j => .int (i * j)) := opI fun _ _ _ _ _ _ _ hc q => imul_int q hc.ok
theorem iop_fdiv : OpR X (inplaceOp .FloorDiv) (rI CDiv fun i j => .int (i / j)) := opI fun i j _ _ _ _ _ hc q => by
  have h1 : (0 : Int) < j := hc.1
  have h2 : j < 1073741824 := hc.2
  exact ifloordiv_int (by omega) (by rw [Int.fdiv_eq_ediv_of_nonneg i (by omega)]; exact q) (.inl (PyProof.noPylong_small (by omega)))
theorem iop_mod : OpR X (inplaceOp .Mod) (rI (fun _ j => 0 < j) fun i j => .int (i % j)) := opI fun i j _ _ _ _ _ hc q => by
  have h1 : (0 : Int) < j := hc
  exact imod_int (by omega) (by rw [Int.fmod_eq_emod_of_nonneg i (by omega)]; exact q)
theorem iop_shl : OpR X (inplaceOp .LShift) (rI CPow fun i j => .int (i * 2 ^ j.toNat)) := opI fun _ _ _ _ _ _ _ hc q => ilshift_int_small hc.1 hc.2.1 hc.2.2 q
theorem iop_shr : OpR X (inplaceOp .RShift) (rI (fun _ j => 0 ≤ j) fun i j => .int (i / 2 ^ j.toNat)) := opI fun i j _ _ _ _ _ hc q =>
  irshift_int hc (by rw [Int.fdiv_eq_ediv_of_nonneg i (two_pow_nn _)]; exact q)
theorem iop_and : OpR X (inplaceOp .BitAnd) (rI0 fun i j => .int (Builtin.bitAnd i j)) := opI0 fun _ _ _ _ _ _ _ q => iand_int q
theorem iop_or : OpR X (inplaceOp .BitOr) (rI0 fun i j => .int (Builtin.bitOr i j)) := opI0 fun _ _ _ _ _ _ _ q => ior_int q
theorem iop_xor : OpR X (inplaceOp .BitXor) (rI0 fun i j => .int (Builtin.bitXor i j)) := opI0 fun _ _ _ _ _ _ _ q => ixor_int q

theorem unI {f : Value → Sem Value} {g : Int → Int}
    (rule : ∀ (i : Int) (t : Tok) (s : Shared) (Q : Value → Shared → Prop) (E : Value → Shared → Prop), Q (.int (g i) s.toks) { s with toks := s.toks + 1 } → wpAny (model X.prog X.w) X.A (f (.int i t)) Q E s) :
    UnR X f (rU fun i => .int (g i)) := by
  intro pins s σ H x v Q I rx h
  obtain ⟨i, rfl, q⟩ := h
  obtain ⟨t, rfl⟩ := rx
  exact rule i t s _ _ ⟨.int (g i), H, I.tok _, ⟨_, rfl⟩, q⟩
theorem un_neg : UnR X (unaryOp .USub) (rU fun i => .int (-i)) := unI fun _ _ _ _ _ q => neg_int q
theorem un_inv : UnR X (unaryOp .Invert) (rU fun i => .int (Builtin.bitNot i)) := unI fun _ _ _ _ _ q => invert_int q

/-! ### bools among ints: n += (a < b) -/
theorem op_add_ib : OpR X (binaryOp .Add) (fun x y H Q => ∃ i k, x = .int i ∧ y = .bl k ∧ Q (.int (i + b2i k)) H) := by
  intro pins s σ H x y v u Q I rx ry h
  obtain ⟨i, k, rfl, rfl, q⟩ := h
  obtain ⟨t, rfl⟩ := rx
  cases ry
  exact add_int_bool ⟨.int (i + b2i k), H, I.tok _, ⟨_, rfl⟩, q⟩
end

/-! ### comparisons -/
/-- the scalars that == tells apart as data does -/
def scal : V → V → Bool
  | .non, .non => true | .non, .int _ => true | .int _, .non => true | .non, .bl _ => true | .bl _, .non => true | .non, .str _ => true | .str _, .non => true
  | .int _, .int _ => true | .bl _, .bl _ => true | .str _, .str _ => true | .byt _, .byt _ => true
  | .int _, .str _ => true | .str _, .int _ => true | .bl _, .str _ => true | .str _, .bl _ => true
  | _, _ => false
def rEq : R2 := fun x y H Q => scal x y = true ∧ Q (.bl (decide (x = y))) H
def rNe : R2 := fun x y H Q => scal x y = true ∧ Q (.bl (!decide (x = y))) H

theorem dec_int {i j : Int} : decide (V.int i = V.int j) = (i == j) := by
  rw [Bool.eq_iff_iff]
  simp
theorem dec_bl {i j : Bool} : decide (V.bl i = V.bl j) = (i == j) := by
  rw [Bool.eq_iff_iff]
  simp
theorem dec_str {i j : Str} : decide (V.str i = V.str j) = (i == j) := by
  rw [Bool.eq_iff_iff]
  simp
theorem dec_byt {i j : Array UInt8} : decide (V.byt i = V.byt j) = (i.toList == j.toList) := by
  rw [Bool.eq_iff_iff]
  cases i
  cases j
  simp

section
variable {X : Cx} {a b c : Expr} {ta tb tc : TE} {pos : Pos}
theorem fin_bl {pins : List (Addr × Obj)} {σ : St} {H : Hp} {s : Shared} {Q : VK} {k k' : Bool} (I : Inv X pins σ H s) (q : Q (.bl k) H) (e : k = k') : EP X pins σ Q (.bool k') s := by
  subst e
  exact ⟨.bl k, H, I, rfl, q⟩
theorem op_eq : OpR X (compareOp .Eq) rEq := by
  intro pins s σ H x y v u Q I rx ry h
  obtain ⟨hs, q⟩ := h
  cases x with
  | non =>
    cases rx
    cases y with
    | non => cases ry; exact PySem.EqNone.eq_none_none (fin_bl I q (by simp))
    | bl j => cases ry; exact PySem.EqNone.eq_none_bool (fin_bl I q (by simp))
    | int j => obtain ⟨t', rfl⟩ := ry; exact PySem.EqNone.eq_none_int (fin_bl I q (by simp))
    | str j => obtain ⟨t', rfl⟩ := ry; exact PySem.EqNone.eq_none_str (fin_bl I q (by simp))
    | _ => exact absurd (show false = true from hs) Bool.false_ne_true
  | bl i =>
    cases rx
    cases y with
    | non => cases ry; exact PySem.EqNone.eq_bool_none (fin_bl I q (by simp))
    | bl j => cases ry; exact eq_bool (fin_bl I q dec_bl)
    | str j => obtain ⟨t', rfl⟩ := ry; exact PySem.EqMixed.eq_bool_str (fin_bl I q (by simp))
    | _ => exact absurd (show false = true from hs) Bool.false_ne_true
  | int i =>
    obtain ⟨t, rfl⟩ := rx
    cases y with
    | non => cases ry; exact PySem.EqNone.eq_int_none (fin_bl I q (by simp))
    | int j => obtain ⟨t', rfl⟩ := ry; exact eq_int (fin_bl I q dec_int)
    | str j => obtain ⟨t', rfl⟩ := ry; exact PySem.EqMixed.eq_int_str (fin_bl I q (by simp))
    | _ => exact absurd (show false = true from hs) Bool.false_ne_true
  | str i =>
    obtain ⟨t, rfl⟩ := rx
    cases y with
    | non => cases ry; exact PySem.EqNone.eq_str_none (fin_bl I q (by simp))
    | bl j => cases ry; exact PySem.EqMixed.eq_str_bool (fin_bl I q (by simp))
    | int j => obtain ⟨t', rfl⟩ := ry; exact PySem.EqMixed.eq_str_int (fin_bl I q (by simp))
    | str j => obtain ⟨t', rfl⟩ := ry; exact eq_str (fin_bl I q dec_str)
    | _ => exact absurd (show false = true from hs) Bool.false_ne_true
  | byt i =>
    obtain ⟨t, rfl⟩ := rx
    cases y with
    | byt j => obtain ⟨t', rfl⟩ := ry; exact PySem.W.eq_bytes (fin_bl I q dec_byt)
    | _ => exact absurd (show false = true from hs) Bool.false_ne_true
  | _ => cases y <;> exact absurd (show false = true from hs) Bool.false_ne_true
theorem op_ne : OpR X (compareOp .NotEq) rNe := by
  intro pins s σ H x y v u Q I rx ry h
  obtain ⟨hs, q⟩ := h
  cases x with
  | non =>
    cases rx
    cases y with
    | non => cases ry; exact PySem.EqNone.ne_none_none (fin_bl I q (by simp))
    | bl j => cases ry; exact PySem.EqNone.ne_none_bool (fin_bl I q (by simp))
    | int j => obtain ⟨t', rfl⟩ := ry; exact PySem.EqNone.ne_none_int (fin_bl I q (by simp))
    | str j => obtain ⟨t', rfl⟩ := ry; exact PySem.EqNone.ne_none_str (fin_bl I q (by simp))
    | _ => exact absurd (show false = true from hs) Bool.false_ne_true
  | bl i =>
    cases rx
    cases y with
    | non => cases ry; exact PySem.EqNone.ne_bool_none (fin_bl I q (by simp))
    | bl j => cases ry; exact ne_bool (fin_bl I q (congrArg not dec_bl))
    | str j => obtain ⟨t', rfl⟩ := ry; exact PySem.EqMixed.ne_bool_str (fin_bl I q (by simp))
    | _ => exact absurd (show false = true from hs) Bool.false_ne_true
  | int i =>
    obtain ⟨t, rfl⟩ := rx
    cases y with
    | non => cases ry; exact PySem.EqNone.ne_int_none (fin_bl I q (by simp))
    | int j => obtain ⟨t', rfl⟩ := ry; exact ne_int (fin_bl I q (congrArg not dec_int))
    | str j => obtain ⟨t', rfl⟩ := ry; exact PySem.EqMixed.ne_int_str (fin_bl I q (by simp))
    | _ => exact absurd (show false = true from hs) Bool.false_ne_true
  | str i =>
    obtain ⟨t, rfl⟩ := rx
    cases y with
    | non => cases ry; exact PySem.EqNone.ne_str_none (fin_bl I q (by simp))
    | bl j => cases ry; exact PySem.EqMixed.ne_str_bool (fin_bl I q (by simp))
    | int j => obtain ⟨t', rfl⟩ := ry; exact PySem.EqMixed.ne_str_int (fin_bl I q (by simp))
    | str j => obtain ⟨t', rfl⟩ := ry; exact ne_str (fin_bl I q (congrArg not dec_str))
    | _ => exact absurd (show false = true from hs) Bool.false_ne_true
  | byt i =>
    obtain ⟨t, rfl⟩ := rx
    cases y with
    | byt j => obtain ⟨t', rfl⟩ := ry; exact PySem.W.ne_bytes (fin_bl I q (congrArg not dec_byt))
    | _ => exact absurd (show false = true from hs) Bool.false_ne_true
  | _ => cases y <;> exact absurd (show false = true from hs) Bool.false_ne_true

theorem op_lt : OpR X (compareOp .Lt) (rI0 fun i j => .bl (decide (i < j))) := opB0 fun _ _ _ _ _ _ _ q => lt_int q
theorem op_le : OpR X (compareOp .LtE) (rI0 fun i j => .bl (decide (i ≤ j))) := opB0 fun _ _ _ _ _ _ _ q => le_int q
theorem op_gt : OpR X (compareOp .Gt) (rI0 fun i j => .bl (decide (j < i))) := opB0 fun _ _ _ _ _ _ _ q => gt_int q
theorem op_ge : OpR X (compareOp .GtE) (rI0 fun i j => .bl (decide (j ≤ i))) := opB0 fun _ _ _ _ _ _ _ q => ge_int q
theorem op_lt_str : OpR X (compareOp .Lt) (fun x y H Q => ∃ i j, x = .str i ∧ y = .str j ∧ Q (.bl (decide (i.cps.toList < j.cps.toList))) H) := by
  intro pins s σ H x y v u Q I rx ry h
  obtain ⟨i, j, rfl, rfl, q⟩ := h
  obtain ⟨t, rfl⟩ := rx
  obtain ⟨t', rfl⟩ := ry
  exact lt_str (fin_bl I q rfl)
/-- the one string within the other -/
theorem op_in_str : OpR X (compareOp .In) (fun x y H Q => ∃ i j, x = .str i ∧ y = .str j ∧ Q (.bl (!(Builtin.Str.occurrences j i 0 j.length 1).isEmpty)) H) := by
  intro pins s σ H x y v u Q I rx ry h
  obtain ⟨i, j, rfl, rfl, q⟩ := h
  obtain ⟨t, rfl⟩ := rx
  obtain ⟨t', rfl⟩ := ry
  exact in_str (fin_bl I q rfl)

/-- is None, is not None: the right side a value none -/
theorem op_isN : OpR X (compareOp .Is) (fun x y H Q => y = .non ∧ Q (.bl (decide (x = .non))) H) := by
  intro pins s σ H x y v u Q I rx ry h
  obtain ⟨rfl, q⟩ := h
  cases ry
  refine is_none_gen (fin_bl I q ?_)
  cases x <;> first
    | (cases rx; rfl)
    | (obtain ⟨t, rfl⟩ := rx; rfl)
theorem op_notN : OpR X (compareOp .IsNot) (fun x y H Q => y = .non ∧ Q (.bl (!decide (x = .non))) H) := by
  intro pins s σ H x y v u Q I rx ry h
  obtain ⟨rfl, q⟩ := h
  cases ry
  refine isnot_none_gen (fin_bl I q ?_)
  cases x <;> first
    | (cases rx; rfl)
    | (obtain ⟨t, rfl⟩ := rx; rfl)

theorem op_notin_str : OpR X (compareOp .NotIn) (fun x y H Q => ∃ i j, x = .str i ∧ y = .str j ∧ Q (.bl (!(!(Builtin.Str.occurrences j i 0 j.length 1).isEmpty))) H) := by
  intro pins s σ H x y v u Q I rx ry h
  obtain ⟨i, j, rfl, rfl, q⟩ := h
  obtain ⟨t, rfl⟩ := rx
  obtain ⟨t', rfl⟩ := ry
  exact notIn_str (fin_bl I q rfl)
/-- is, is not of two objects that are tracked lists or instances -/
def isObj : HO → Bool
  | .lst _ => true
  | .ins _ _ _ => true
  | _ => false
theorem obj_there {pins : List (Addr × Obj)} {s : Shared} {σ : St} {H : Hp} {a : Addr} {o : HO} (I : Inv X pins σ H s) (h : H a = some o) (p : isObj o = true) : ∃ ob, s.heap.get? a = some ob ∧ ob.cls ≠ .type "tuple" := by
  cases o with
  | lst xs =>
    obtain ⟨_, its, n, _, e⟩ : xs.length ≤ sizeLine ∧ ∃ (its : List Value) (n : Nat), Vals xs its ∧ s.heap.get? a = some { cls := .type "list", data := .seq its.toArray n } := I.hok a _ h
    exact ⟨_, e, (by show Value.type "list" ≠ .type "tuple"; decide +kernel)⟩
  | ins C dx fs =>
    have x := I.hok a _ h
    obtain ⟨_, _, _, e, _⟩ := x
    exact ⟨_, e, (by show Value.ref C ≠ .type "tuple"; exact fun z => by cases z)⟩
  | _ => exact absurd (show false = true from p) Bool.false_ne_true
theorem op_is_ref : OpR X (compareOp .Is) (fun x y H Q => ∃ a b oa ob, x = .ref a ∧ y = .ref b ∧ H a = some oa ∧ isObj oa = true ∧ H b = some ob ∧ isObj ob = true ∧ Q (.bl (decide (a = b))) H) := by
  intro pins s σ H x y v u Q I rx ry h
  obtain ⟨a, b, oa, ob, rfl, rfl, ha, pa, hb, pb, q⟩ := h
  cases rx
  cases ry
  obtain ⟨o1, e1, n1⟩ := obj_there I ha pa
  obtain ⟨o2, e2, _⟩ := obj_there I hb pb
  by_cases z : a = b
  · subst z
    exact wpAny_is_ref_self (fin_bl I q (by simp))
  · exact wpAny_is_ref_other z e1 e2 n1 (fin_bl I q (by simp [z]))
theorem op_isnot_ref : OpR X (compareOp .IsNot) (fun x y H Q => ∃ a b oa ob, x = .ref a ∧ y = .ref b ∧ H a = some oa ∧ isObj oa = true ∧ H b = some ob ∧ isObj ob = true ∧ Q (.bl (!decide (a = b))) H) := by
  intro pins s σ H x y v u Q I rx ry h
  obtain ⟨a, b, oa, ob, rfl, rfl, ha, pa, hb, pb, q⟩ := h
  cases rx
  cases ry
  obtain ⟨o1, e1, n1⟩ := obj_there I ha pa
  obtain ⟨o2, e2, _⟩ := obj_there I hb pb
  by_cases z : a = b
  · subst z
    exact wpAny_isNot_ref_self (fin_bl I q (by simp))
  · exact wpAny_isNot_ref_other z e1 e2 n1 (fin_bl I q (by simp [z]))

/-- two rules for one operation: by cases -/
theorem OpR.or {f : Value → Value → Sem Value} {r r' : R2} (h : OpR X f r) (h' : OpR X f r') : OpR X f (fun x y H Q => r x y H Q ∨ r' x y H Q) := by
  intro pins s σ H x y v u Q I rx ry q
  rcases q with q | q
  · exact h pins s σ H x y v u Q I rx ry q
  · exact h' pins s σ H x y v u Q I rx ry q

theorem nomark (b : Expr) {op : CmpOp} (h : op ≠ .In := by decide) (h2 : op ≠ .NotIn := by decide) : behindInMarks op b = false := by
  have e1 : (op == CmpOp.In) = false := by cases op <;> first | rfl | exact absurd rfl h
  have e2 : (op == CmpOp.NotIn) = false := by cases op <;> first | rfl | exact absurd rfl h2
  cases b <;> simp [behindInMarks, e1, e2]
/-- a comparison as a value; hm: nomark b, or (for in, not in) by with_unfolding_all rfl -/
theorem pe_cmpR {op : CmpOp} {r : R2} (ho : OpR X (compareOp op) r) (ha : PE X a ta) (hb : PE X b tb) (hm : behindInMarks op b = false) : PE X (.Compare a [op] [b] pos) (tOp r ta tb) := by
  intro pins s σ H Q I h
  exact wpAny_Compare1 (binT ha hb I h fun v u s2 x y H2 I2 rx ry q => ho pins s2 σ H2 x y v u Q I2 rx ry q) hm
/-- a reading of a value as a test -/
def tTest (t : TE) : TT := fun σ H Q => t σ H fun x H' => ∃ k, x = .bl k ∧ Q k H'
theorem pt_cmpR {op : CmpOp} {r : R2} (ho : OpR X (compareOp op) r) (ha : PE X a ta) (hb : PE X b tb) (hm : behindInMarks op b = false) : PT X (.Compare a [op] [b] pos) (tTest (tOp r ta tb)) := by
  intro pins s σ H Q I h
  refine wpAny_isTrue_Compare1 (thn (ha pins s σ H _ I h) fun v s1 ⟨x, H1, I1, r1, q1⟩ => thn (hb pins s1 σ H1 _ I1 q1) fun u s2 ⟨y, H2, I2, r2, q2⟩ =>
    thn (ho pins s2 σ H2 x y v u _ I2 r1 r2 q2) fun c s3 ⟨z, H3, I3, r3, k, e, q3⟩ => ?_) hm
  subst e
  cases r3
  exact wpAny_truthy_bool ⟨H3, I3, q3⟩
/-- a op1 b op2 c -/
def tChain (r r' : R2) (ta tb tc : TE) : TE := fun σ H Q => ta σ H fun x H1 => tb σ H1 fun y H2 => r x y H2 fun z H3 => ∃ k, z = .bl k ∧
  (if k = true then tc σ H3 fun w' H4 => r' y w' H4 Q else Q (.bl false) H3)
theorem pe_chain {op op' : CmpOp} {r r' : R2} (ho : OpR X (compareOp op) r) (ho' : OpR X (compareOp op') r') (ha : PE X a ta) (hb : PE X b tb) (hc : PE X c tc)
    (hm : lastMarks [op, op'] [b, c] = false := by with_unfolding_all rfl) : PE X (.Compare a [op, op'] [b, c] pos) (tChain r r' ta tb tc) := by
  intro pins s σ H Q I h
  refine Compare_chain (thn (ha pins s σ H _ I h) fun v s1 ⟨x, H1, I1, r1, q1⟩ => chain_link (thn (hb pins s1 σ H1 _ I1 q1) fun u s2 ⟨y, H2, I2, r2, q2⟩ =>
    thn (ho pins s2 σ H2 x y v u _ I2 r1 r2 q2) fun d s3 ⟨z, H3, I3, r3, k, e, q3⟩ => ?_)) hm
  subst e
  cases r3
  refine wpAny_truthy_bool ?_
  cases k with
  | false => exact ite_ff ⟨.bl false, H3, I3, rfl, q3⟩
  | true => exact ite_tt (chain_last (thn (hc pins s3 σ H3 _ I3 q3) fun w' s4 ⟨z', H4, I4, r4, q4⟩ => ho' pins s4 σ H4 y z' u w' Q I4 r2 r4 q4))
theorem pt_chain {op op' : CmpOp} {r r' : R2} (ho : OpR X (compareOp op) r) (ho' : OpR X (compareOp op') r') (ha : PE X a ta) (hb : PE X b tb) (hc : PE X c tc)
    (hm : lastMarks [op, op'] [b, c] = false := by with_unfolding_all rfl) : PT X (.Compare a [op, op'] [b, c] pos) (tTest (tChain r r' ta tb tc)) := by
  intro pins s σ H Q I h
  refine isTrue_chain (thn (ha pins s σ H _ I h) fun v s1 ⟨x, H1, I1, r1, q1⟩ => test_link (thn (hb pins s1 σ H1 _ I1 q1) fun u s2 ⟨y, H2, I2, r2, q2⟩ =>
    thn (ho pins s2 σ H2 x y v u _ I2 r1 r2 q2) fun d s3 ⟨z, H3, I3, r3, k, e, q3⟩ => ?_)) hm
  subst e
  cases r3
  refine wpAny_truthy_bool ?_
  cases k with
  | false =>
    obtain ⟨k', e', q'⟩ := q3
    cases e'
    exact ite_ff ⟨H3, I3, q'⟩
  | true =>
    refine ite_tt (test_last (thn (hc pins s3 σ H3 _ I3 q3) fun w' s4 ⟨z', H4, I4, r4, q4⟩ => thn (ho' pins s4 σ H4 y z' u w' _ I4 r2 r4 q4) fun d' s5 ⟨z2, H5, I5, r5, k2, e2, q5⟩ => ?_))
    subst e2
    cases r5
    exact wpAny_truthy_bool ⟨H5, I5, q5⟩

/-! ### truth -/
/-- a value's truth by the abstract heap -/
def TruV (K : PySem.W.Frag) (x : V) (H : Hp) (k : Bool) : Prop :=
  match x with
  | .non => k = false
  | .bl b => k = b
  | .int i => k = (i != 0)
  | .str y => y.length ≤ sizeLine ∧ k = ((y.length : Int) != 0)
  | .byt y => y.size ≤ sizeLine ∧ k = ((y.size : Int) != 0)
  | .ref p => (∃ xs, SqL K H p xs ∧ k = !xs.isEmpty) ∨ (∃ xs, SqT K H p xs ∧ k = !xs.isEmpty) ∨ ∃ kvs, H p = some (.dK kvs) ∧ k = !kvs.isEmpty
  | _ => False
theorem isEmpty_kv {κ : Type} {kvs : List (κ × V)} {vs : List (κ × Value)} (r : KV kvs vs) : (!vs.isEmpty) = !kvs.isEmpty := by
  cases r <;> rfl
theorem isEmpty_of {xs : List V} {its : List Value} (r : Vals xs its) : (!its.toArray.isEmpty) = !xs.isEmpty := by
  cases r <;> simp
theorem line63 : (sizeLine : Nat) < 2 ^ 63 := by rw [sizeLine_eq]; decide
theorem tru_ok : TruR X (fun x H Q => ∃ k, TruV X.K x H k ∧ Q k H) := by
  intro pins s σ H x v Q I rx h
  obtain ⟨k, e, q⟩ := h
  have hl := line63
  have hs : sizeLine = 16777216 := sizeLine_eq
  cases x with
  | non =>
    cases rx
    have e' : k = false := e
    subst e'
    exact truthy_none ⟨H, I, q⟩
  | bl b =>
    cases rx
    have e' : k = b := e
    subst e'
    exact wpAny_truthy_bool ⟨H, I, q⟩
  | int i =>
    obtain ⟨t, rfl⟩ := rx
    have e' : k = (i != 0) := e
    subst e'
    exact PySem.P.truthy_int ⟨H, I, q⟩
  | str y =>
    obtain ⟨t, rfl⟩ := rx
    obtain ⟨hy, e'⟩ : y.length ≤ sizeLine ∧ k = ((y.length : Int) != 0) := e
    subst e'
    exact PySem.P.truthy_str (by omega) ⟨H, I.tok _, q⟩
  | byt y =>
    obtain ⟨t, rfl⟩ := rx
    obtain ⟨hy, e'⟩ : y.size ≤ sizeLine ∧ k = ((y.size : Int) != 0) := e
    subst e'
    exact PySem.W.truthy_bytes (by omega) ⟨H, I.tok _, q⟩
  | ref p =>
    cases rx
    have e' : (∃ xs, SqL X.K H p xs ∧ k = !xs.isEmpty) ∨ (∃ xs, SqT X.K H p xs ∧ k = !xs.isEmpty) ∨ ∃ kvs, H p = some (.dK kvs) ∧ k = !kvs.isEmpty := e
    rcases e' with ⟨xs, hx, e'⟩ | ⟨xs, hx, e'⟩ | ⟨kvs, hx, e'⟩
    · subst e'
      obtain ⟨its, r, pl, hz⟩ := I.list hx
      have hlen := r.length
      exact wpAny_truthy_list pl.isList (by simp only [List.size_toArray]; omega) ⟨H, I.tok _, by rw [isEmpty_of r]; exact q⟩
    · subst e'
      obtain ⟨its, r, pl, hz⟩ := I.tuple hx
      have hlen := r.length
      exact truthy_tuple pl (by simp only [List.size_toArray]; omega) ⟨H, I.tok _, by rw [isEmpty_of r]; exact q⟩
    · subst e'
      obtain ⟨hz, hS, vs, r, m⟩ : kvs.length ≤ sizeLine ∧ (p == sysModules) = false ∧ ∃ vs, KV kvs vs ∧ s.heap.DictOf (mixKind X.prog X.w) p vs := I.hok p _ hx
      have hlen : kvs.length = vs.length := Paired.length r
      exact wpAny_truthy_dict hS m (by omega) ⟨H, I.tok _, by rw [isEmpty_kv r]; exact q⟩
  | _ => exact (show False from e).elim
/-- any expression whose test is its value's truth (a name, a call, a subscript, a field ..: he by fun _ => rfl) -/
theorem pt_truth (ha : PE X a ta) (he : ∀ whole, isTrue a X.env whole = (do let v ← whole; standAt a.pos; holding [v] (truthy v))) :
    PT X a (fun σ H Q => ta σ H fun x H' => ∃ k, TruV X.K x H' k ∧ Q k H') := by
  intro pins s σ H Q I h
  exact isTrue_plain (thn (ha pins s σ H _ I h) fun v s1 ⟨x, H1, I1, r1, q1⟩ => tru_ok pins s1 σ H1 x v Q I1 r1 q1) (he _)

/-! ### strs and bytes -/
theorem pe_byt {x : List UInt8} {k : Nat} : PE X (.Constant (.bytes x) k pos) (fun _ H Q => Q (.byt x.toArray) H) := fun _ _ _ H _ I h => PySem.W.Constant_bytes ⟨.byt x.toArray, H, I.tok _, ⟨_, rfl⟩, h⟩
theorem op_add_str : OpR X (binaryOp .Add) (fun x y H Q => ∃ i j, x = .str i ∧ y = .str j ∧ i.length + j.length ≤ sizeLine ∧ Q (.str (i ++ j)) H) := by
  intro pins s σ H x y v u Q I rx ry h
  obtain ⟨i, j, rfl, rfl, hz, q⟩ := h
  obtain ⟨t, rfl⟩ := rx
  obtain ⟨t', rfl⟩ := ry
  exact add_str (fun t' tk => ⟨.str (i ++ j), H, I.tok _, ⟨_, rfl⟩, q⟩) hz
theorem iop_add_str : OpR X (inplaceOp .Add) (fun x y H Q => ∃ i j, x = .str i ∧ y = .str j ∧ i.length + j.length ≤ sizeLine ∧ Q (.str (i ++ j)) H) := by
  intro pins s σ H x y v u Q I rx ry h
  obtain ⟨i, j, rfl, rfl, hz, q⟩ := h
  obtain ⟨t, rfl⟩ := rx
  obtain ⟨t', rfl⟩ := ry
  exact iadd_str (fun t' tk => ⟨.str (i ++ j), H, I.tok _, ⟨_, rfl⟩, q⟩) hz
theorem op_add_byt : OpR X (binaryOp .Add) (fun x y H Q => ∃ i j, x = .byt i ∧ y = .byt j ∧ i.size + j.size ≤ 16777216 ∧ Q (.byt (i ++ j)) H) := by
  intro pins s σ H x y v u Q I rx ry h
  obtain ⟨i, j, rfl, rfl, hz, q⟩ := h
  obtain ⟨t, rfl⟩ := rx
  obtain ⟨t', rfl⟩ := ry
  exact PySem.W.KBy.add_bytes hz (fun t' tk => ⟨.byt (i ++ j), H, I.tok _, ⟨_, rfl⟩, q⟩)

def PlainIxT (b : Expr) : Prop := ∀ o i, subscripted b false o i = operate [o, i] (getItem o i)
/-- s[i], 0 ≤ i < len -/
theorem pe_item_str (ha : PE X a ta) (hb : PE X b tb) (hs : PlainIxT b) :
    PE X (.Subscript a b pos) (tOp (fun x y H Q => ∃ z i c, x = .str z ∧ y = .int i ∧ 0 ≤ i ∧ i < 2 ^ 63 ∧ i < z.length ∧ z.cps[i.toNat]? = some c ∧ Q (.str ⟨#[c]⟩) H) ta tb) := by
  intro pins s σ H Q I h
  refine Subscript_ (binT ha hb I h fun v u s2 x y H2 I2 rx ry q => ?_)
  obtain ⟨z, i, c, rfl, rfl, h0, h63, h1, hc, q⟩ := q
  obtain ⟨t, rfl⟩ := rx
  obtain ⟨t', rfl⟩ := ry
  have e : seqIndex? i z.length = some i.toNat := PySem.StrLaws.seqIndex_nonneg h0 h1
  exact tail_any (typeIs_str s2 z t) slot_str_getitem.lookup (getItem_str (c := c) (by
    have e1 : decide (i < -(2 ^ 63 : Int)) = false := decide_eq_false (by omega)
    have e2 : decide (i ≥ 2 ^ 63) = false := decide_eq_false (by omega)
    rw [e1, e2] <;> rfl) (by rw [e]; exact hc) ⟨.str ⟨#[c]⟩, H2, I2.tok _, ⟨_, rfl⟩, q⟩) (hs _ _)
/-- b[i], 0 ≤ i < len -/
theorem pe_item_byt (ha : PE X a ta) (hb : PE X b tb) (hs : PlainIxT b) :
    PE X (.Subscript a b pos) (tOp (fun x y H Q => ∃ (z : List UInt8) (i : Int), x = .byt z.toArray ∧ y = .int i ∧ z.length ≤ sizeLine ∧ 0 ≤ i ∧ i < z.length ∧ Q (.int ((z.getD i.toNat 0).toNat : Nat)) H) ta tb) := by
  intro pins s σ H Q I h
  refine Subscript_ (binT ha hb I h fun v u s2 x y H2 I2 rx ry q => ?_)
  obtain ⟨z, i, rfl, rfl, hz, h0, h1, q⟩ := q
  obtain ⟨t, rfl⟩ := rx
  obtain ⟨t', rfl⟩ := ry
  have hl : sizeLine = 16777216 := sizeLine_eq
  exact tail_any (PySem.W.typeIs_bytes s2 z.toArray t) PySem.W.FB.slot_bytes_getitem.lookup (PySem.W.getItem_bytes (by omega) h0 h1 ⟨.int ((z.getD i.toNat 0).toNat : Nat), H2, I2.tok _, ⟨_, rfl⟩, q⟩) (hs _ _)

/-! ### scalar builtins, by CallR -/
theorem vals1 {x : V} {us : List Value} (r : Vals [x] us) : ∃ u, us = [u] ∧ RelV x u := by
  cases r with
  | cons r1 r2 => cases r2; exact ⟨_, rfl, r1⟩
theorem vals2 {x y : V} {us : List Value} (r : Vals [x, y] us) : ∃ u w', us = [u, w'] ∧ RelV x u ∧ RelV y w' := by
  cases r with
  | cons r1 r2 =>
    cases r2 with
    | cons r3 r4 => cases r4; exact ⟨_, _, rfl, r1, r3⟩
theorem call_abs : CallR X (.builtin "abs") (fun xs H Q => ∃ i, xs = [.int i] ∧ Q (.int (if i < 0 then -i else i)) H) := by
  intro pins s σ H xs us Q I r h
  obtain ⟨i, rfl, q⟩ := h
  obtain ⟨u, rfl, t, rfl⟩ := vals1 r
  exact call_abs_int fun u tk => ⟨.int (if i < 0 then -i else i), H, I.tok _, ⟨_, rfl⟩, q⟩
theorem call_max2 (hc : X.calm = true) : CallR X (.builtin "max") (fun xs H Q => ∃ i j, xs = [.int i, .int j] ∧ Q (.int (if j > i then j else i)) H) := by
  intro pins s σ H xs us Q I r h
  obtain ⟨i, j, rfl, q⟩ := h
  obtain ⟨u, w', rfl, ⟨t, rfl⟩, ⟨t', rfl⟩⟩ := vals2 r
  refine max_two_ints (I.ok.hd hc) fun h' tk k => ⟨_, H, I.kept k, ?_, q⟩
  by_cases hj : j > i
  · rw [if_pos hj, if_pos hj]; exact ⟨_, rfl⟩
  · rw [if_neg hj, if_neg hj]; exact ⟨_, rfl⟩
theorem call_min2 (hc : X.calm = true) : CallR X (.builtin "min") (fun xs H Q => ∃ i j, xs = [.int i, .int j] ∧ Q (.int (if j < i then j else i)) H) := by
  intro pins s σ H xs us Q I r h
  obtain ⟨i, j, rfl, q⟩ := h
  obtain ⟨u, w', rfl, ⟨t, rfl⟩, ⟨t', rfl⟩⟩ := vals2 r
  refine min_two_ints (I.ok.hd hc) fun h' tk k => ⟨_, H, I.kept k, ?_, q⟩
  by_cases hj : j < i
  · rw [if_pos hj, if_pos hj]; exact ⟨_, rfl⟩
  · rw [if_neg hj, if_neg hj]; exact ⟨_, rfl⟩
theorem call_int1 : CallR X (.type "int") (fun xs H Q => (∃ i, xs = [.int i] ∧ Q (.int i) H) ∨ ∃ k, xs = [.bl k] ∧ Q (.int (if k then 1 else 0)) H) := by
  intro pins s σ H xs us Q I r h
  rcases h with ⟨i, rfl, q⟩ | ⟨k, rfl, q⟩
  · obtain ⟨u, rfl, t, rfl⟩ := vals1 r
    exact call_int_int ⟨.int i, H, I, ⟨_, rfl⟩, q⟩
  · obtain ⟨u, rfl, r1⟩ := vals1 r
    cases r1
    exact call_int_bool ⟨.int (if k then 1 else 0), H, I.tok _, ⟨_, rfl⟩, q⟩
theorem call_bool1 : CallR X (.type "bool") (fun xs H Q => (∃ i, xs = [.int i] ∧ Q (.bl (i != 0)) H) ∨ ∃ k, xs = [.bl k] ∧ Q (.bl k) H) := by
  intro pins s σ H xs us Q I r h
  rcases h with ⟨i, rfl, q⟩ | ⟨k, rfl, q⟩
  · obtain ⟨u, rfl, t, rfl⟩ := vals1 r
    exact call_bool_int ⟨.bl (i != 0), H, I, rfl, q⟩
  · obtain ⟨u, rfl, r1⟩ := vals1 r
    cases r1
    exact call_bool_bool ⟨.bl k, H, I, rfl, q⟩
theorem call_str_int : CallR X (.type "str") (fun xs H Q => ∃ i, xs = [.int i] ∧ i.natAbs.log2 < 1920 ∧ Q (.str (toString i)) H) := by
  intro pins s σ H xs us Q I r h
  obtain ⟨i, rfl, hz, q⟩ := h
  obtain ⟨u, rfl, t, rfl⟩ := vals1 r
  exact PySem.P.str_of_int hz ⟨.str _, H, I.tok _, ⟨_, rfl⟩, q⟩
theorem call_ord : CallR X (.builtin "ord") (fun xs H Q => ∃ x, xs = [.str x] ∧ x.length = 1 ∧ Q (.int (x.cps.getD 0 0 : Nat)) H) := by
  intro pins s σ H xs us Q I r h
  obtain ⟨x, rfl, hz, q⟩ := h
  obtain ⟨u, rfl, t, rfl⟩ := vals1 r
  exact ord_of_one hz ⟨.int _, H, I.tok _, ⟨_, rfl⟩, q⟩
theorem call_chr : CallR X (.builtin "chr") (fun xs H Q => ∃ i, xs = [.int i] ∧ 0 ≤ i ∧ i ≤ 1114111 ∧ Q (.str ⟨#[i.toNat]⟩) H) := by
  intro pins s σ H xs us Q I r h
  obtain ⟨i, rfl, h0, h1, q⟩ := h
  obtain ⟨u, rfl, t, rfl⟩ := vals1 r
  exact chr_of_range h0 h1 ⟨.str _, H, I.tok _, ⟨_, rfl⟩, q⟩
/-- len of a str, a bytes, a list, a tuple -/
def LenV (K : PySem.W.Frag) (x : V) (H : Hp) (n : Nat) : Prop :=
  match x with
  | .str y => y.length ≤ sizeLine ∧ n = y.length
  | .byt y => y.size ≤ sizeLine ∧ n = y.size
  | .ref p => (∃ xs, SqL K H p xs ∧ n = xs.length) ∨ ∃ xs, SqT K H p xs ∧ n = xs.length
  | _ => False
theorem call_len : CallR X (.builtin "len") (fun xs H Q => ∃ x n, xs = [x] ∧ LenV X.K x H n ∧ Q (.int n) H) := by
  intro pins s σ H xs us Q I r h
  obtain ⟨x, n, rfl, e, q⟩ := h
  obtain ⟨u, rfl, rx⟩ := vals1 r
  have hl := line63
  have hs : sizeLine = 16777216 := sizeLine_eq
  cases x with
  | str y =>
    obtain ⟨t, rfl⟩ := rx
    obtain ⟨hy, e'⟩ : y.length ≤ sizeLine ∧ n = y.length := e
    subst e'
    exact len_str (by omega) ⟨.int _, H, I.tok _, ⟨_, rfl⟩, q⟩
  | byt y =>
    obtain ⟨t, rfl⟩ := rx
    obtain ⟨hy, e'⟩ : y.size ≤ sizeLine ∧ n = y.size := e
    subst e'
    exact PySem.W.len_bytes (by omega) ⟨.int _, H, I.tok _, ⟨_, rfl⟩, q⟩
  | ref p =>
    cases rx
    have e' : (∃ xs, SqL X.K H p xs ∧ n = xs.length) ∨ ∃ xs, SqT X.K H p xs ∧ n = xs.length := e
    rcases e' with ⟨xs, hx, e'⟩ | ⟨xs, hx, e'⟩
    · subst e'
      obtain ⟨its, r', pl, hz⟩ := I.list hx
      have hlen := r'.length
      exact Calls.call_len_list pl.isList (by simp only [List.size_toArray]; omega) ⟨.int xs.length, H, I.tok _, ⟨_, by simp only [List.size_toArray]; rw [hlen]⟩, q⟩
    · subst e'
      obtain ⟨its, r', pl, hz⟩ := I.tuple hx
      have hlen := r'.length
      exact len_tuple pl (by simp only [List.size_toArray]; omega) ⟨.int xs.length, H, I.tok _, ⟨_, by simp only [List.size_toArray]; rw [hlen]⟩, q⟩
  | _ => exact (show False from e).elim
/-- divmod: a new tuple -/
theorem call_divmod : CallR X (.builtin "divmod") (fun xs H Q => ∃ i j, xs = [.int i, .int j] ∧ CDiv i j ∧ ∀ p, H p = none → Q (.ref p) (upd H p (.tup [.int (i / j), .int (i % j)]))) := by
  intro pins s σ H xs us Q I r h
  obtain ⟨i, j, rfl, ⟨h1, h2⟩, q⟩ := h
  obtain ⟨u, w', rfl, ⟨t, rfl⟩, ⟨t', rfl⟩⟩ := vals2 r
  refine divmod_int (by omega) ?_ (.inl (PyProof.noPylong_small (by omega)))
  rw [Int.fdiv_eq_ediv_of_nonneg i (by omega), Int.fmod_eq_emod_of_nonneg i (by omega)]
  have hn : H s.heap.objs.size = none := I.hok.fresh (Nat.le_refl _)
  refine ⟨.ref s.heap.objs.size, _, ?_, rfl, q _ hn⟩
  refine I.laid (fun b o e => Heap.get?_push_of_some _ e) (Nat.le_refl _) ⟨by simp only [List.length_cons, List.length_nil]; rw [sizeLine_eq]; decide, [.int (i / j) s.toks, .int (i % j) (s.toks + 1)], .cons ⟨_, rfl⟩ (.cons ⟨_, rfl⟩ .nil), ?_⟩
  exact ⟨_, Heap.get?_push_size s.heap rfl, rfl, 0, rfl⟩
end
end L2

namespace L2
open PySem PySem.Spec PyProof.Rows

/-! ### an instance, its attributes a map -/
structure ObjM (h : Heap) (x dx C : Addr) (mA : Str → Option Value) : Prop where
  obj : h.get? x = some (PySem.W.instObj C dx)
  ns : h.Ns1 dx mA
  ne : dx ≠ x

theorem lookIn_ns {h : Heap} {dx : Addr} {mA : Str → Option Value} (n : h.Ns1 dx mA) : ∃ od, h.get? dx = some od ∧ ∀ name, PySem.W.lookIn name od = some (mA name) := by
  obtain ⟨o, es, ep, ho, hd, hk, _, hm⟩ := n
  refine ⟨o, ho, fun name => ?_⟩
  have e := hm name
  unfold nsFind findBy at e
  rw [← Array.find?_toList] at e
  unfold PySem.W.lookIn
  rw [hd]
  dsimp only
  split
  · rename_i y q
    rw [q] at e
    exact congrArg some e
  · rename_i q
    rw [q] at e
    have a : es.toList.any (·.refKey) = false := by
      rw [List.any_eq_false]
      intro y hy
      obtain ⟨z, t, hkey⟩ := hk y (Array.mem_toList_iff.mp hy)
      simp [DictEntry.refKey, hkey]
    have a' : ¬ es.toList.any (·.refKey) = true := by rw [a]; exact Bool.false_ne_true
    rw [if_neg a']
    exact congrArg some e

theorem ObjM.look {h : Heap} {x dx C : Addr} {mA : Str → Option Value} (I : ObjM h x dx C mA) : ∃ od, PySem.W.InstAt h x (PySem.W.instObj C dx) C (some od) ∧ ∀ name, PySem.W.lookIn name od = some (mA name) :=
  let ⟨od, ho, hl⟩ := lookIn_ns I.ns
  ⟨od, ⟨I.obj, rfl, rfl, ho⟩, hl⟩

section
variable {prog : Program} {w : World} {A : Around} {E : Value → Shared → Prop} {s : Shared} {K : PySem.W.Frag} {x dx C f : Addr} {mA : Str → Option Value} {name : Str} {v : Value}

theorem get_map {expr : Bool} {Q : Value → Shared → Prop} (X : K.In s.heap) (I : ObjM s.heap x dx C mA) (hg : PySem.W.plainGet K C name = true) (hh : PySem.W.hasDictIn K C = true)
    (ha : PySem.W.findIn K (.ref C) name = some none) (hv : mA name = some v) (hv' : PySem.W.handedIn v = true) (h : Q v { s with toks := s.toks + 1 }) :
    wpAny (model prog w) A (getAttr (.ref x) name expr) Q E s := by
  obtain ⟨od, J, hl⟩ := I.look
  exact PySem.W.get_value X J (PySem.W.plainGet_of hg).1 (PySem.W.findObj_own hh ha rfl (by rw [hl, hv])) hv' h

theorem get_const {expr : Bool} {a : Value} {Q : Value → Shared → Prop} (X : K.In s.heap) (I : ObjM s.heap x dx C mA) (hg : PySem.W.plainGet K C name = true) (hh : PySem.W.hasDictIn K C = true)
    (ha : PySem.W.findIn K (.ref C) name = some (some a)) (hn : PySem.W.specialIn K a "__get__" = some none) (hc : PySem.W.copiedNames.contains name = false) (hv : mA name = none) (hv' : PySem.W.handedIn a = true)
    (h : Q a { s with toks := s.toks + 1 }) : wpAny (model prog w) A (getAttr (.ref x) name expr) Q E s := by
  obtain ⟨od, J, hl⟩ := I.look
  exact PySem.W.get_value X J (PySem.W.plainGet_of hg).1 (PySem.W.findObj_cls hh ha hn hv' hc (by rw [hl, hv])) hv' h

theorem get_meth {pl : Sem Bool} {Q : Value × List Value → Shared → Prop} (X : K.In s.heap) (I : ObjM s.heap x dx C mA) (hg : PySem.W.plainGet K C name = true)
    (hf : PySem.W.findIn K (.ref C) name = some (some (.ref f))) (ht : PySem.W.isFn K (.ref f) = true) (hv : mA name = none) (h : Q (.ref f, [.ref x]) s) :
    wpAny (model prog w) A (getMethod (.ref x) name pl) Q E s := by
  obtain ⟨od, J, hl⟩ := I.look
  exact PySem.W.method_fn X J (PySem.W.plainGet_of hg).1 (PySem.W.plainGet_of hg).2 hf (beq_iff_eq.mp ht) (by show (PySem.W.lookIn name od).map (·.isSome) = some false; rw [hl, hv]; rfl) h

theorem set_map {ns : List Str} {Q : Unit → Shared → Prop} (X : K.In s.heap) (I : ObjM s.heap x dx C mA)
    (hs : PySem.W.findIn K (.ref C) "__setattr__" = some (some (.builtin "object.__setattr__"))) (hp : PySem.W.plainOver K C = true) (ht : PySem.W.takerIn K C name = some none) (hh : PySem.W.hasDictIn K C = true)
    (hw : PySem.Within mA ns) (hsz : ns.length ≤ sizeLine)
    (h : ∀ h', ObjM h' x dx C (fun y => if y = name then some v else mA y) → Heap.SameBut dx s.heap h' → Q () { s with heap := h', toks := s.toks + 2 }) :
    wpAny (model prog w) A (setAttr (.ref x) name v) Q E s := by
  obtain ⟨od, J, hl⟩ := I.look
  refine PySem.W.set_plain X J hs (PySem.W.osa_open (s := { s with toks := s.toks + 1 }) (r := none) X J hp ht fun b => ?_)
  obtain ⟨cd, hc, hd'⟩ := PySem.W.any_some hh
  have hx : s.heap.get? x = some ⟨.ref C, some dx, .plain, #[]⟩ := I.obj
  refine wpAny_bind (wpAny_pure (wpAny_bind (wpAny_bind (wpAny_loadPart hx (wpAny_bind (PySem.W.Looks.here (s := { s with toks := s.toks + 1 }) (PySem.W.looks_clsIn X hc) ?_))))))
  rw [hd']
  refine wpAny_pure (a := some dx) (wpAny_bind (wpAny_pure (wpAny_bind ?_)))
  refine wpAny_nsSet1 (s := { s with toks := s.toks + 1 }) I.ns fun h' hn2 hs2 => ?_
  obtain ⟨oD, esD, epD, hoD, hdD, hcD⟩ := hn2.count (PySem.Within.cons name v hw)
  refine wpAny_bind (wpAny_lookBehind hoD (by rw [hdD]; exact pastItsLine_dict (Nat.le_trans hcD (by rw [List.length_cons]; omega))) ?_)
  exact wpAny_pure (h _ ⟨(hs2.2 _ (Ne.symm I.ne)).trans I.obj, hn2, I.ne⟩ hs2)

/-- C(..): the dict at the heap's end, the instance behind it; then its __init__ -/
theorem make_map {R : Result → Shared → Prop} {vs : List Value} {kw : List (Str × Value)} (X : K.In s.heap) (hm : PySem.W.makesIn K C = true)
    (hi : PySem.W.findIn K (.ref C) "__init__" = some (some (.ref f))) (hf : PySem.W.typeIn K (.ref f) = some (.type "function"))
    (h : codeAny (model prog w) (A.under (.builtin "type.__call__" ⟨.ref C :: vs, kw⟩)) (.call (.ref f) ⟨.ref (s.heap.objs.size + 1) :: vs, kw⟩) (PySem.W.InitBack (s.heap.objs.size + 1) R)
      { s with heap := (s.heap.push PySem.W.emptyDict).push (PySem.W.instObj C s.heap.objs.size) }) :
    codeAny (model prog w) A (.call (.ref C) ⟨vs, kw⟩) R s := by
  obtain ⟨hh, g, d, t, os⟩ := s
  exact PySem.W.make_core (PySem.W.makes_of X hm) (PySem.W.looks_findIn X hi) (fun self => PySem.W.bind_fn X self hf) (.inl rfl) h
/-- C() where there is no __init__ but object's -/
theorem make_map0 {R : Result → Shared → Prop} (X : K.In s.heap) (hm : PySem.W.makesIn K C = true)
    (hi : PySem.W.findIn K (.ref C) "__init__" = some (some (.builtin "object.__init__")))
    (hb : ∀ self, PySem.W.Looks (model prog w) s.heap (bindSpecial (.builtin "object.__init__") self) (.builtin "object.__init__", [self]))
    (h : codeAny (model prog w) (A.under (.builtin "type.__call__" ⟨[.ref C], []⟩)) (.call (.builtin "object.__init__") ⟨[.ref (s.heap.objs.size + 1)], []⟩) (PySem.W.InitBack (s.heap.objs.size + 1) R)
      { s with heap := (s.heap.push PySem.W.emptyDict).push (PySem.W.instObj C s.heap.objs.size) }) :
    codeAny (model prog w) A (.call (.ref C) ⟨[], []⟩) R s := by
  obtain ⟨hh, g, d, t, os⟩ := s
  exact PySem.W.make_core (PySem.W.makes_of X hm) (PySem.W.looks_findIn X hi) hb (.inr ⟨rfl, rfl⟩) h
end

/-! ### the attributes as a list of pairs -/
def putF (f : Str) (v : V) : List (Str × V) → List (Str × V)
  | [] => [(f, v)]
  | (g, x) :: r => if g = f then (g, v) :: r else (g, x) :: putF f v r
theorem lookup_putF (f g : Str) (v : V) : ∀ fs : List (Str × V), (putF f v fs).lookup g = if g = f then some v else fs.lookup g
  | [] => by
    show List.lookup g [(f, v)] = _
    by_cases h : g = f
    · have hb : (g == f) = true := beq_iff_eq.mpr h
      simp only [List.lookup, hb, if_pos h]
    · have hb : (g == f) = false := beq_eq_false_iff_ne.mpr h
      simp only [List.lookup, hb, if_neg h]
  | (k, x) :: r => by
    have ih := lookup_putF f g v r
    rw [show putF f v ((k, x) :: r) = (if k = f then (k, v) :: r else (k, x) :: putF f v r) from rfl]
    by_cases hk : k = f
    · rw [if_pos hk]
      by_cases h : g = k
      · have hb : (g == k) = true := beq_iff_eq.mpr h
        simp only [List.lookup, hb, if_pos (h.trans hk)]
      · have hb : (g == k) = false := beq_eq_false_iff_ne.mpr h
        simp only [List.lookup, hb, if_neg (fun e : g = f => h (e.trans hk.symm))]
    · rw [if_neg hk]
      by_cases h : g = k
      · have hb : (g == k) = true := beq_iff_eq.mpr h
        simp only [List.lookup, hb, if_neg (fun e : g = f => hk (h.symm.trans e))]
      · have hb : (g == k) = false := beq_eq_false_iff_ne.mpr h
        simp only [List.lookup, hb]
        exact ih
theorem keys_putF (f : Str) (v : V) : ∀ fs : List (Str × V), f ∈ (putF f v fs).map (·.1) ∧ ∀ g, g ∈ fs.map (·.1) → g ∈ (putF f v fs).map (·.1)
  | [] => ⟨by simp [putF], fun g h => by simp at h⟩
  | (k, x) :: r => by
    obtain ⟨i1, i2⟩ := keys_putF f v r
    rw [show putF f v ((k, x) :: r) = (if k = f then (k, v) :: r else (k, x) :: putF f v r) from rfl]
    by_cases hk : k = f
    · rw [if_pos hk]
      subst hk
      exact ⟨by simp, fun g h => by simpa using h⟩
    · rw [if_neg hk]
      refine ⟨?_, fun g h => ?_⟩
      · rw [List.map_cons]
        exact List.mem_cons_of_mem _ i1
      · rw [List.map_cons] at h ⊢
        rcases List.mem_cons.mp h with e | e
        · exact List.mem_cons.mpr (.inl e)
        · exact List.mem_cons_of_mem _ (i2 g e)
theorem length_putF (f : Str) (v : V) : ∀ fs : List (Str × V), (putF f v fs).length ≤ fs.length + 1
  | [] => by simp [putF]
  | (k, x) :: r => by
    have ih := length_putF f v r
    rw [show putF f v ((k, x) :: r) = (if k = f then (k, v) :: r else (k, x) :: putF f v r) from rfl]
    by_cases hk : k = f
    · rw [if_pos hk, List.length_cons, List.length_cons]; omega
    · rw [if_neg hk, List.length_cons, List.length_cons]; omega

theorem RelO.some_of {v : V} {o : Option Value} (r : RelO (some v) o) : ∃ u, o = some u ∧ RelV v u := by
  cases o with
  | none => exact (show False from r).elim
  | some u => exact ⟨u, rfl, r⟩
theorem RelO.none_of {o : Option Value} (r : RelO none o) : o = none := by
  cases o with
  | none => rfl
  | some u => exact (show False from r).elim
theorem handed_of {v : V} {u : Value} (r : RelV v u) : PySem.W.handedIn u = true := by
  cases v with
  | non => cases (show u = Value.none from r); rfl
  | bl b => cases (show u = Value.bool b from r); rfl
  | int i => obtain ⟨t, e⟩ := (show ∃ t, u = Value.int i t from r); cases e; rfl
  | str x => obtain ⟨t, e⟩ := (show ∃ t, u = Value.str x t from r); cases e; rfl
  | byt b => obtain ⟨t, e⟩ := (show ∃ t, u = Value.bytes b t from r); cases e; rfl
  | flt b => obtain ⟨t, e⟩ := (show ∃ t, u = Value.float b t from r); cases e; rfl
  | ref a => cases (show u = Value.ref a from r); rfl
  | ty n => cases (show u = Value.type n from r); rfl

section
variable {P : Program} {w : World} {H H' : Hp} {h h' : Heap} {a C dx : Addr} {fs fs' : List (Str × V)}
theorem ins_get (hok : HOk P w H h) (e : H a = some (.ins C dx fs)) : ∃ mA, ObjM h a dx C mA ∧ (∀ f, RelO (fs.lookup f) (mA f)) ∧ PySem.Within mA (fs.map (·.1)) ∧ fs.length ≤ 1000 ∧ H dx = some (.own a) := by
  obtain ⟨d, z, ne, ob, mA, n, r, q⟩ := (show ObjOk P w H h a (.ins C dx fs) from hok a _ e)
  exact ⟨mA, ⟨ob, n, ne⟩, r, q, z, d⟩
end

/-! ### what of the text a class must have -/
structure Cls (K : PySem.W.Frag) (C : Addr) : Prop where
  pg : PySem.W.plainGet K C Str.empty = true
  hd : PySem.W.hasDictIn K C = true
  po : PySem.W.plainOver K C = true
  sa : PySem.W.findIn K (.ref C) "__setattr__" = some (some (.builtin "object.__setattr__"))
theorem Cls.get {K : PySem.W.Frag} {C : Addr} (c : Cls K C) (f : Str) : PySem.W.plainGet K C f = true := c.pg
/-- no class of it has the name -/
def NoAttr (K : PySem.W.Frag) (C : Addr) (f : Str) : Prop := PySem.W.findIn K (.ref C) f = some none
theorem NoAttr.taker {K : PySem.W.Frag} {C : Addr} {f : Str} (n : NoAttr K C f) : PySem.W.takerIn K C f = some none := by
  unfold PySem.W.takerIn
  rw [show PySem.W.findIn K (.ref C) f = some none from n]
  rfl
/-- a constant of the class -/
structure Con (K : PySem.W.Frag) (C : Addr) (f : Str) (v : V) (u : Value) : Prop where
  at_ : PySem.W.findIn K (.ref C) f = some (some u)
  rel : RelV v u
  get : PySem.W.specialIn K u "__get__" = some none
  cp : PySem.W.copiedNames.contains f = false
/-- a method: a plain def of the class or of one above it -/
structure Meth (K : PySem.W.Frag) (C : Addr) (m : Str) (f : Addr) : Prop where
  at_ : PySem.W.findIn K (.ref C) m = some (some (.ref f))
  fn : PySem.W.isFn K (.ref f) = true
  kp : PySem.W.keepIn K (.ref f) = true

section
variable {X : Cx} {pins : List (Addr × Obj)} {σ : St} {H : Hp} {s : Shared} {a C dx : Addr} {fs : List (Str × V)} {f : Str} {v : V} {A : Around} {E : Value → Shared → Prop}

theorem getattr_ok {b : Bool} {Q : Value → Shared → Prop} (I : Inv X pins σ H s) (e : H a = some (.ins C dx fs)) (c : Cls X.K C) (n : NoAttr X.K C f) (l : fs.lookup f = some v)
    (h : ∀ u s', Inv X pins σ H s' → RelV v u → Q u s') : wpAny (model X.prog X.w) A (getAttr (.ref a) f b) Q E s := by
  obtain ⟨mA, O, r, _, _, _⟩ := ins_get I.hok e
  obtain ⟨u, hu, ru⟩ := RelO.some_of (v := v) (o := mA f) (by rw [← l]; exact r f)
  exact get_map I.kIn O (c.get f) c.hd n hu (handed_of ru) (h u _ (I.tok _) ru)

theorem getcon_ok {b : Bool} {u : Value} {Q : Value → Shared → Prop} (I : Inv X pins σ H s) (e : H a = some (.ins C dx fs)) (c : Cls X.K C) (k : Con X.K C f v u) (l : fs.lookup f = none)
    (h : ∀ s', Inv X pins σ H s' → Q u s') : wpAny (model X.prog X.w) A (getAttr (.ref a) f b) Q E s := by
  obtain ⟨mA, O, r, _, _, _⟩ := ins_get I.hok e
  have hn : mA f = none := RelO.none_of (by rw [← l]; exact r f)
  exact get_const I.kIn O (c.get f) c.hd k.at_ k.get k.cp hn (handed_of k.rel) (h _ (I.tok _))

theorem getmeth_ok {m : Str} {g : Addr} {pl : Sem Bool} {Q : Value × List Value → Shared → Prop} (I : Inv X pins σ H s) (e : H a = some (.ins C dx fs)) (c : Cls X.K C) (k : Meth X.K C m g) (l : fs.lookup m = none)
    (h : Q (.ref g, [.ref a]) s) : wpAny (model X.prog X.w) A (getMethod (.ref a) m pl) Q E s := by
  obtain ⟨mA, O, r, _, _, _⟩ := ins_get I.hok e
  have hn : mA m = none := RelO.none_of (by rw [← l]; exact r m)
  exact get_meth I.kIn O (c.get m) k.at_ k.fn hn h

theorem setattr_ok {y : V} {u : Value} {Q : Unit → Shared → Prop} (I : Inv X pins σ H s) (e : H a = some (.ins C dx fs)) (c : Cls X.K C) (n : NoAttr X.K C f) (hl : fs.length < 1000) (ry : RelV y u)
    (h : ∀ s', Inv X pins σ (upd H a (.ins C dx (putF f y fs))) s' → Q () s') : wpAny (model X.prog X.w) A (setAttr (.ref a) f u) Q E s := by
  obtain ⟨mA, O, r, wi, _, ho⟩ := ins_get I.hok e
  have hz : (fs.map (·.1)).length ≤ sizeLine := by rw [List.length_map, sizeLine_eq]; omega
  refine set_map I.kIn O c.sa c.po n.taker c.hd wi hz fun h' O' sb => h _ ?_
  have hd : ∃ o, h'.get? dx = some o := let ⟨o, _, _, e', _⟩ := O'.ns; ⟨o, e'⟩
  refine I.write (x := a) (e := dx) (by rw [e]; exact True.intro) (.inr ho) (fun b q hb z => (sb.2 b hb).trans z) hd ?_
  refine ⟨by rw [upd_ne O.ne]; exact ho, ?_, O.ne, O'.obj, _, O'.ns, fun g => ?_, fun g hg => ?_⟩
  · have := length_putF f y fs; omega
  · show RelO ((putF f y fs).lookup g) (if g = f then some u else mA g)
    rw [lookup_putF]
    by_cases q : g = f
    · rw [if_pos q, if_pos q]; exact ry
    · rw [if_neg q, if_neg q]; exact r g
  · by_cases q : g = f
    · rw [q]; exact (keys_putF f y fs).1
    · refine (keys_putF f y fs).2 g (wi g fun z => hg ?_)
      show (if g = f then some u else mA g) = none
      rw [if_neg q]; exact z

/-- a new instance, tracked, without attributes -/
theorem Inv.made (I : Inv X pins σ H s) : Inv X pins σ (upd (upd H s.heap.objs.size (.own (s.heap.objs.size + 1))) (s.heap.objs.size + 1) (.ins C s.heap.objs.size []))
    { s with heap := (s.heap.push PySem.W.emptyDict).push (PySem.W.instObj C s.heap.objs.size) } := by
  have e1 : (s.heap.push PySem.W.emptyDict).get? s.heap.objs.size = some PySem.W.emptyDict := Heap.get?_push_size s.heap rfl
  have e2 : ((s.heap.push PySem.W.emptyDict).push (PySem.W.instObj C s.heap.objs.size)).get? (s.heap.objs.size + 1) = some (PySem.W.instObj C s.heap.objs.size) := by
    have := Heap.get?_push_size (s.heap.push PySem.W.emptyDict) (o := PySem.W.instObj C s.heap.objs.size) rfl
    rwa [Heap.size_push] at this
  have e3 : (s.heap.push PySem.W.emptyDict).Ns s.heap.objs.size (fun _ => none) := ⟨PySem.W.emptyDict, #[], _, e1, rfl, (fun e he => absurd he (by simp)), fun _ => rfl⟩
  have I1 := I.laid (a := s.heap.objs.size) (o := .own (s.heap.objs.size + 1)) (h' := s.heap.push PySem.W.emptyDict) (t' := s.toks) (fun b u q => Heap.get?_push_of_some _ q) (Nat.le_refl _) ⟨_, e1⟩
  refine I1.laid (a := s.heap.objs.size + 1) (o := .ins C s.heap.objs.size []) (t' := s.toks) (fun b u q => Heap.get?_push_of_some _ q) (Nat.le_of_eq (Heap.size_push _ _)) ?_
  have ne : s.heap.objs.size ≠ s.heap.objs.size + 1 := Nat.ne_of_lt (Nat.lt_succ_self _)
  refine ⟨by rw [upd_ne ne, upd_same], Nat.zero_le _, ne, e2, fun _ => none, (Heap.Ns1.of_empty e3).at fun o q => Heap.get?_push_of_some _ q, fun _ => True.intro, fun y hy => absurd rfl hy⟩

/-- e.f where nothing but the object is asked: through attributeBase (super) and the last hold -/
theorem attr_of {prog : Program} {w : World} {env : Env} {e : Expr} {f : Str} {pos : Pos} {s : Shared} {Q : Value → Shared → Prop} (hb : attributeBase e f env (eval e env) = eval e env)
    (h : wpAny (model prog w) A (eval e env) (fun o s₁ => wpAny (model prog w) A (getAttr o f true) Q E s₁) E s) : wpAny (model prog w) A (eval (.Attribute e f pos) env) Q E s :=
  Attribute_any_ h (by rw [arm_eval_Attribute, hb])
end

/-! ### readings and rules -/
/-- e.f, an attribute of the instance -/
def tFld (K : PySem.W.Frag) (ta : TE) (f : Str) : TE := fun σ H Q => ta σ H fun x H1 => ∃ a C dx fs v, x = .ref a ∧ H1 a = some (.ins C dx fs) ∧ Cls K C ∧ NoAttr K C f ∧ fs.lookup f = some v ∧ Q v H1
/-- e.f, a constant of the class -/
def tCon (K : PySem.W.Frag) (ta : TE) (f : Str) : TE := fun σ H Q => ta σ H fun x H1 => ∃ a C dx fs v u, x = .ref a ∧ H1 a = some (.ins C dx fs) ∧ Cls K C ∧ Con K C f v u ∧ fs.lookup f = none ∧ Q v H1
/-- e.f = value -/
def sFld (K : PySem.W.Frag) (ta tv : TE) (f : Str) : TS := fun D σ H => tv σ H fun y H1 => ta σ H1 fun x H2 => ∃ a C dx fs, x = .ref a ∧ H2 a = some (.ins C dx fs) ∧ Cls K C ∧ NoAttr K C f ∧ fs.length < 1000 ∧
  D.nx σ (upd H2 a (.ins C dx (putF f y fs)))
/-- an augmented operator on two values -/
def InOp (X : Cx) (op : Operator) (rd : V → V → Hp → VK → Prop) : Prop :=
  ∀ (pins : List (Addr × Obj)) (s : Shared) (σ : St) (H : Hp) (x y : V) (u v : Value) (Q : VK), Inv X pins σ H s → RelV x u → RelV y v → rd x y H Q → wpAny (model X.prog X.w) X.A (inplaceOp op u v) (EP X pins σ Q) X.xe s
/-- e.f op= value -/
def sFldAug (K : PySem.W.Frag) (ta tv : TE) (rd : V → V → Hp → VK → Prop) (f : Str) : TS := fun D σ H => ta σ H fun x H1 => ∃ a C dx fs v, x = .ref a ∧ H1 a = some (.ins C dx fs) ∧ Cls K C ∧ NoAttr K C f ∧ fs.lookup f = some v ∧
  tv σ H1 fun y H2 => rd v y H2 fun z H3 => ∃ dx' fs', H3 a = some (.ins C dx' fs') ∧ fs'.length < 1000 ∧ D.nx σ (upd H3 a (.ins C dx' (putF f z fs')))

section
variable {X : Cx} {o e value : Expr} {f : Str} {pos pos' tpos : Pos} {ta tv : TE}
theorem pe_fld (he : PE X e ta) (hb : attributeBase e f X.env (eval e X.env) = eval e X.env) : PE X (.Attribute e f pos) (tFld X.K ta f) := by
  intro pins s σ H Q I h
  refine attr_of hb (thn (he pins s σ H _ I h) fun u s1 ⟨x, H1, I1, rx, a, C, dx, fs, v, ex, ea, c, n, l, q⟩ => ?_)
  subst ex
  obtain rfl : u = Value.ref a := rx
  exact getattr_ok I1 ea c n l fun u' s2 I2 ru => ⟨v, H1, I2, ru, q⟩
theorem pe_con (he : PE X e ta) (hb : attributeBase e f X.env (eval e X.env) = eval e X.env) : PE X (.Attribute e f pos) (tCon X.K ta f) := by
  intro pins s σ H Q I h
  refine attr_of hb (thn (he pins s σ H _ I h) fun u s1 ⟨x, H1, I1, rx, a, C, dx, fs, v, u0, ex, ea, c, k, l, q⟩ => ?_)
  subst ex
  obtain rfl : u = Value.ref a := rx
  exact getcon_ok I1 ea c k l fun s2 I2 => ⟨v, H1, I2, k.rel, q⟩
theorem ps_fld (ha : PE X o ta) (hv : PE X value tv) (hs : swapsWith value (some (.Attribute o f pos')) pos.line X.env = pure false) : PS X (.Assign [.Attribute o f pos'] value pos) (sFld X.K ta tv f) := by
  intro pins s σ H D I h
  refine plainObj_wpAny_Assign_Attribute (thn (hv pins s σ H _ I h) fun u s1 ⟨y, H1, I1, ry, q⟩ => thn (ha pins s1 σ H1 _ I1 q) fun ov s2 ⟨x, H2, I2, rx, a, C, dx, fs, ex, ea, c, n, l, q2⟩ => ?_) hs
  subst ex
  obtain rfl : ov = Value.ref a := rx
  exact setattr_ok I2 ea c n l ry fun s3 I3 => ⟨σ, _, I3, q2⟩
theorem ps_fldaug {op : Operator} {rd : V → V → Hp → VK → Prop} (ha : PE X o ta) (hv : PE X value tv) (hop : InOp X op rd) : PS X (.AugAssign (.Attribute o f tpos) op value pos) (sFldAug X.K ta tv rd f) := by
  intro pins s σ H D I h
  refine wpAny_AugAssign_AttributeAny (thn (ha pins s σ H _ I h) fun ov s1 ⟨x, H1, I1, rx, a, C, dx, fs, v, ex, ea, c, n, l, q⟩ => ?_)
  subst ex
  obtain rfl : ov = Value.ref a := rx
  refine getattr_ok I1 ea c n l fun u s2 I2 ru => thn (hv pins s2 σ H1 _ I2 q) fun w3 s3 ⟨y, H2, I3, ry, q3⟩ => thn (hop pins s3 σ H2 v y u w3 _ I3 ru ry q3) fun w4 s4 ⟨z, H3, I4, rz, dx', fs', ea', l', q4⟩ => ?_
  exact setattr_ok I4 ea' c n l' rz fun s5 I5 => ⟨σ, _, I5, q4⟩
def rAdd : V → V → Hp → VK → Prop := fun x y H Q => ∃ i j, x = .int i ∧ y = .int j ∧ Q (.int (i + j)) H
def rSub : V → V → Hp → VK → Prop := fun x y H Q => ∃ i j, x = .int i ∧ y = .int j ∧ Q (.int (i - j)) H
theorem in_add : InOp X .Add rAdd := by
  rintro pins s σ H x y u v Q I rx ry ⟨i, j, rfl, rfl, q⟩
  obtain ⟨t, rfl⟩ := (show ∃ t, u = Value.int i t from rx)
  obtain ⟨t', rfl⟩ := (show ∃ t', v = Value.int j t' from ry)
  exact PyProof.Rows.iadd_int ⟨.int (i + j), H, I.tok _, ⟨_, rfl⟩, q⟩
theorem in_sub : InOp X .Sub rSub := by
  rintro pins s σ H x y u v Q I rx ry ⟨i, j, rfl, rfl, q⟩
  obtain ⟨t, rfl⟩ := (show ∃ t, u = Value.int i t from rx)
  obtain ⟨t', rfl⟩ := (show ∃ t', v = Value.int j t' from ry)
  exact PyProof.Rows.isub_int ⟨.int (i - j), H, I.tok _, ⟨_, rfl⟩, q⟩

/-- what is between an instance and its method: the tree of a method call -/
theorem methcall_of {pl : Sem Bool} {m : Str} {apos : Pos} {args : List Expr} {pins : List (Addr × Obj)} {s : Shared} {σ : St} {H : Hp} {Q : Value → Shared → Prop} {te : TE} (he : PE X e te) (I : Inv X pins σ H s)
    (h : te σ H fun x H1 => ∃ a C dx fs g, x = .ref a ∧ H1 a = some (.ins C dx fs) ∧ Cls X.K C ∧ Meth X.K C m g ∧ fs.lookup m = none ∧
      ∀ s1, Inv X pins σ H1 s1 → wpAny (model X.prog X.w) X.A (callWith pos (.ref g) [.ref a] (backTo pos (starEach args X.env)) (backToKw pos (keywordEach [] X.env))) Q X.xe s1)
    (ht : eval (.Call (.Attribute e m apos) args [] pos) X.env = (do
      let ov ← eval e X.env
      standAt apos.atName
      let (f, first) ← holding [ov] (getMethod ov m pl)
      callWith pos f first (backTo pos (starEach args X.env)) (backToKw pos (keywordEach [] X.env)))) :
    wpAny (model X.prog X.w) X.A (eval (.Call (.Attribute e m apos) args [] pos) X.env) Q X.xe s := by
  refine PySem.W.methodCall_KW (pl := pl) (thn (he pins s σ H _ I h) fun u s1 ⟨x, H1, I1, rx, a, C, dx, fs, g, ex, ea, c, k, l, q⟩ => ?_) ht
  subst ex
  obtain rfl : u = Value.ref a := rx
  exact getmeth_ok I1 ea c k l (q s1 I1)
end

/-! ### isinstance -/
section
variable {X : Cx} {pins : List (Addr × Obj)} {σ : St} {H : Hp} {s : Shared} {A : Around} {E : Value → Shared → Prop} {Q : Value → Shared → Prop} {c : Value} {b : Bool}
/-- the type of a value, as the fragment's deciders take it; for an instance its class -/
inductive TyOf (K : PySem.W.Frag) (H : Hp) : V → Value → Prop where
  | non : TyOf K H .non (.type "NoneType")
  | bl (x : Bool) : TyOf K H (.bl x) (.type "bool")
  | int (i : Int) : TyOf K H (.int i) (.type "int")
  | str (x : Str) : TyOf K H (.str x) (.type "str")
  | flt (x : UInt64) : TyOf K H (.flt x) (.type "float")
  | lst {a : Addr} {xs : List V} (e : H a = some (.lst xs)) : TyOf K H (.ref a) (.type "list")
  | frz {a : Addr} {o : Obj} {xs : List V} (e : H a = some (.frz o (.lst xs))) : TyOf K H (.ref a) (.type "list")
  | tup {a : Addr} {xs : List V} (e : H a = some (.tup xs)) : TyOf K H (.ref a) (.type "tuple")
  | dK {a : Addr} {kvs : List (Key × V)} (e : H a = some (.dK kvs)) : TyOf K H (.ref a) (.type "dict")
  | dT {a : Addr} {kvs : List (List Key × V)} (e : H a = some (.dT kvs)) : TyOf K H (.ref a) (.type "dict")
  | ins {a C dx : Addr} {fs : List (Str × V)} (e : H a = some (.ins C dx fs)) (cl : Cls K C) (ha : PySem.W.findIn K (.ref C) "__class__" = some (some (.builtin "object.__class__")))
      (hn : PySem.W.specialIn K (.builtin "object.__class__") "__get__" = some (some (.builtin "getset_descriptor.__get__"))) (htk : PySem.W.takesIn K (.builtin "object.__class__") = some true)
      (hm : PySem.W.mroIn K C (.type "object") = some true) : TyOf K H (.ref a) (.ref C)
/-- isinstance(x, c) for one class c, a built-in or an own one: kitOne's answer -/
theorem isinst_ok {x : V} {u t : Value} (I : Inv X pins σ H s) (rx : RelV x u) (ty : TyOf X.K H x t) (e : PySem.W.kitOne X.K t c = some b) (h : ∀ tk, Q (.bool b) { s with toks := tk }) :
    wpAny (model X.prog X.w) A (call (.builtin "isinstance") [u, c]) Q E s := by
  cases ty with
  | non => cases (show u = Value.none from rx); exact PySem.W.kia_one PySem.W.kitx_none I.kIn True.intro e (fun z => nomatch z) h
  | bl y => cases (show u = Value.bool y from rx); exact PySem.W.kia_one PySem.W.kitx_bool I.kIn True.intro e (fun z => nomatch z) h
  | int i => obtain ⟨t, q⟩ := (show ∃ t, u = Value.int i t from rx); cases q; exact PySem.W.kia_one PySem.W.kitx_int I.kIn True.intro e (fun z => nomatch z) h
  | str y => obtain ⟨t, q⟩ := (show ∃ t, u = Value.str y t from rx); cases q; exact PySem.W.kia_one PySem.W.kitx_str I.kIn True.intro e (fun z => nomatch z) h
  | flt y => obtain ⟨t, q⟩ := (show ∃ t, u = Value.float y t from rx); cases q; exact PySem.W.kia_one PySem.W.kitx_float I.kIn True.intro e (fun z => nomatch z) h
  | @lst a xs ea =>
    cases (show u = Value.ref a from rx)
    obtain ⟨_, _, n, _, h1⟩ := (show ObjOk X.prog X.w H s.heap a (.lst xs) from I.hok a _ ea)
    exact PySem.W.kia_one PySem.W.kitx_list I.kIn ⟨_, h1, rfl⟩ e (fun z => nomatch z) h
  | @frz a ob xs ea =>
    cases (show u = Value.ref a from rx)
    obtain ⟨_, _, _, n, _, h1⟩ := (show ObjOk X.prog X.w H s.heap a (.frz ob (.lst xs)) from I.hok a _ ea)
    exact PySem.W.kia_one PySem.W.kitx_list I.kIn ⟨_, h1, rfl⟩ e (fun z => nomatch z) h
  | @tup a xs ea =>
    cases (show u = Value.ref a from rx)
    obtain ⟨_, _, _, p⟩ := (show ObjOk X.prog X.w H s.heap a (.tup xs) from I.hok a _ ea)
    obtain ⟨o, h1, h2, _⟩ := p
    exact PySem.W.kia_one PySem.W.kitx_tuple I.kIn ⟨o, h1, h2⟩ e (fun z => nomatch z) h
  | @dK a kvs ea =>
    cases (show u = Value.ref a from rx)
    obtain ⟨_, _, vs, _, p⟩ := (show ObjOk X.prog X.w H s.heap a (.dK kvs) from I.hok a _ ea)
    obtain ⟨o, es, ep, h1, h2, _⟩ := p
    exact PySem.W.kia_one PySem.W.kitx_dict I.kIn ⟨o, h1, h2.1⟩ e (fun z => nomatch z) h
  | @dT a kvs ea =>
    cases (show u = Value.ref a from rx)
    obtain ⟨_, _, xs, _, o, es, ep, h1, h2, _⟩ := (show ObjOk X.prog X.w H s.heap a (.dT kvs) from I.hok a _ ea)
    exact PySem.W.kia_one PySem.W.kitx_dict I.kIn ⟨o, h1, h2.1⟩ e (fun z => nomatch z) h
  | @ins a C dx fs ea cl ha hn htk hm =>
    cases (show u = Value.ref a from rx)
    obtain ⟨mA, O, _⟩ := ins_get I.hok ea
    obtain ⟨od, J, _⟩ := O.look
    exact PySem.W.kia_one (PySem.W.kitx_own (cl.get _) cl.hd ha hn htk hm) I.kIn J e (fun z => nomatch z) h
end
end L2

namespace L2
open PySem PySem.Spec PyProof.Rows

/-! ### room -/
structure Room (k : Nat) (A : Around) : Prop where
  hd : A.handled = none
  dp : A.depth + 3 * k + 5 < recursionLimit
  un : A.units + 16 * k + 200 < cLine
theorem Room.mono {j k : Nat} {A : Around} (r : Room k A) (h : j ≤ k) : Room j A := ⟨r.hd, by have := r.dp; omega, by have := r.un; omega⟩
theorem Room.deeper {k : Nat} {A : Around} (r : Room (k + 1) A) (env : Env) : Room k (A.deeper env) :=
  ⟨r.hd, by have := r.dp; show A.depth + 1 + 3 * k + 5 < _; omega, by have := r.un; show A.units + 3 + 16 * k + 200 < _; omega⟩
theorem Room.in1 {k : Nat} {A : Around} (r : Room (k + 1) A) : Room k A.in1 :=
  ⟨r.hd, by have := r.dp; show A.depth + 3 * k + 5 < _; omega, by have := r.un; show A.units + 1 + 16 * k + 200 < _; omega⟩
theorem make_depth {A : Around} {C : Addr} {us : List Value} {kw : List (Str × Value)} : (A.under (.builtin "type.__call__" ⟨.ref C :: us, kw⟩)).depth = A.depth + 1 := by
  first | rfl | simp [Around.under, Code.weight, Code.isCreation, Code.isGuard, Code.isCaller, Code.frames, Code.isFrame, guardIds]
theorem make_units {A : Around} {C : Addr} {us : List Value} {kw : List (Str × Value)} : (A.under (.builtin "type.__call__" ⟨.ref C :: us, kw⟩)).units = A.units + 1 := by
  first | rfl | simp [Around.under, Code.cUnits, Code.frames, Code.isFrame]
theorem Room.make {k : Nat} {A : Around} (r : Room (k + 1) A) (C : Addr) (us : List Value) (kw : List (Str × Value)) : Room k (A.under (.builtin "type.__call__" ⟨.ref C :: us, kw⟩)) :=
  ⟨r.hd, by have := r.dp; rw [make_depth]; omega, by have := r.un; rw [make_units]; omega⟩
theorem Room.depth {k : Nat} {A : Around} (r : Room k A) : A.depth < recursionLimit := by have := r.dp; omega
theorem Room.units {k : Nat} {A : Around} (r : Room k A) : A.units + 64 < cLine := by have := r.un; omega
theorem Room.units0 {k : Nat} {A : Around} (r : Room k A) : A.units < cLine := by have := r.un; omega

/-! ### argument lists and displays -/
def tNil : TA := fun _ H Q => Q [] H
def tCons (ta : TE) (tr : TA) : TA := fun σ H Q => ta σ H fun x H1 => tr σ H1 fun xs H2 => Q (x :: xs) H2
section
variable {X : Cx} {e : Expr} {es : List Expr} {te : TE} {t : TA} {pos : Pos}
theorem pa_nil : PA X [] tNil := fun _ _ _ _ H Q I h => Calls.spliced_nil ⟨[], H, I, .nil, h⟩
theorem pa_cons (ha : PE X e te) (hr : PA X es t) (hs : starEach (e :: es) X.env = (false, eval e X.env) :: starEach es X.env := by rfl) : PA X (e :: es) (tCons te t) := by
  intro pos pins s σ H Q I h
  rw [hs]
  show wpAny _ _ (spliced ((false, eval e X.env) :: backTo pos (starEach es X.env))) _ _ s
  refine Calls.spliced_cons (thn (ha pins s σ H _ I h) fun u s1 ⟨x, H1, I1, r1, q1⟩ => ?_)
  exact thn (hr pos pins s1 σ H1 _ I1 q1) fun us s2 ⟨xs, H2, I2, r2, q2⟩ => ⟨x :: xs, H2, I2, .cons r1 r2, q2⟩

/-- a tuple, a list of written items -/
def tTup (t : TA) : TE := fun σ H Q => t σ H fun xs H1 => xs.length ≤ sizeLine ∧ ∀ p, H1 p = none → Q (.ref p) (upd H1 p (.tup xs))
def tLst (t : TA) : TE := fun σ H Q => t σ H fun xs H1 => xs.length ≤ sizeLine ∧ ∀ p, H1 p = none → Q (.ref p) (upd H1 p (.lst xs))
theorem pe_tup {x1} (h : PA X es t) : PE X (.Tuple es x1 pos) (tTup t) := by
  intro pins s σ H Q I hq
  refine wpAny_Tuple_spliced (thn (h pos pins s σ H _ I hq) fun us s1 ⟨xs, H1, I1, r, z, q⟩ => ⟨by rw [← r.length]; exact z, ?_⟩)
  have hf : H1 s1.heap.objs.size = none := I1.hok.fresh (Nat.le_refl _)
  refine ⟨.ref s1.heap.objs.size, upd H1 s1.heap.objs.size (.tup xs), I1.laid (t' := s1.toks) (fun b u e => Heap.get?_push_of_some _ e) (Nat.le_refl _) ?_, rfl, q _ hf⟩
  exact ⟨z, us, r, ⟨_, Heap.get?_push_size _ rfl, rfl, _, rfl⟩⟩
theorem pe_lst (h : PA X es t) : PE X (.List es pos) (tLst t) := by
  intro pins s σ H Q I hq
  refine wpAny_List_spliced (thn (h pos pins s σ H _ I hq) fun us s1 ⟨xs, H1, I1, r, z, q⟩ => ⟨by rw [← r.length]; exact z, ?_⟩)
  have hf : H1 s1.heap.objs.size = none := I1.hok.fresh (Nat.le_refl _)
  refine ⟨.ref s1.heap.objs.size, upd H1 s1.heap.objs.size (.lst xs), I1.laid (t' := s1.toks) (fun b u e => Heap.get?_push_of_some _ e) (Nat.le_refl _) ?_, rfl, q _ hf⟩
  exact ⟨z, us, 0, r, Heap.get?_push_size _ rfl⟩
end

/-! ### what a def promises -/
/-- a def's promise: the bound arguments in the parameters' order, the heap, the wanted end, the wanted exception -/
abbrev Sp := List V → Hp → VK → XK → Prop
/-- how an exception lies behind a call (file 08 gives it): the callers' frames, abstract heap and state ahead of the call, the wish, the exception, the state -/
abbrev CXT := List Env → Hp → Shared → XK → Value → Shared → Prop

/-- the state at a call -/
structure Env0 (P : Program) (w : World) (K : PySem.W.Frag) (mg : Str → Option Value) (base : Heap) (A : Around) (outer : List Env) (s : Shared) (H : Hp) : Prop where
  frames : A.frames = some outer
  mod : Mod K mg base
  bs : ∀ b o, base.get? b = some o → s.heap.get? b = some o ∧ H b = none
  bsz : base.objs.size ≤ s.heap.objs.size
  funs : s.heap.FunFrames base outer
  frf : ∀ b ∈ frs outer, H b = none
  hok : HOk P w H s.heap
  bare : AllBare s.gens
/-- a call's end -/
def CE (outer : List Env) (P : Program) (w : World) (H : Hp) (s : Shared) (Q : VK) (u : Value) (s' : Shared) : Prop :=
  ∃ v H', s'.os = s.os ∧ AllBare s'.gens ∧ Un (frs outer) [] H H' s.heap s'.heap ∧ HOk P w H' s'.heap ∧ RelV v u ∧ Q v H'
def CR (CX : CXT) (outer : List Env) (P : Program) (w : World) (H : Hp) (s : Shared) (Q : VK) (E : XK) (r : Result) (s' : Shared) : Prop :=
  match r with
  | .ok (.ret u) => CE outer P w H s Q u s'
  | .ok _ => False
  | .error e => CX outer H s E e s'
structure FnOk (P : Program) (w : World) (K : PySem.W.Frag) (mg : Str → Option Value) (base : Heap) (CX : CXT) (k : Nat) (f : Addr) (fd : FuncData) (ps : List Str) (sp : Sp) : Prop where
  len : ∀ vs H Q E, sp vs H Q E → vs.length = ps.length
  run : ∀ (A : Around) (outer : List Env) (s : Shared) (H : Hp) (args : Args) (us : List Value) (vs : List V) (Q : VK) (E : XK), Room k A → Env0 P w K mg base A outer s H → BindsTo s fd args (ps.zip us) → Vals vs us → sp vs H Q E →
    codeAny (model P w) A (.call (.ref f) args) (CR CX outer P w H s Q E) s
theorem FnOk.mono {P : Program} {w : World} {K : PySem.W.Frag} {mg : Str → Option Value} {base : Heap} {CX : CXT} {j k : Nat} {f : Addr} {fd : FuncData} {ps : List Str} {sp : Sp} (F : FnOk P w K mg base CX j f fd ps sp) (h : j ≤ k) :
    FnOk P w K mg base CX k f fd ps sp := ⟨F.len, fun A outer s H args us vs Q E hr => F.run A outer s H args us vs Q E (hr.mono h)⟩
/-- a weaker promise -/
theorem FnOk.imp {P : Program} {w : World} {K : PySem.W.Frag} {mg : Str → Option Value} {base : Heap} {CX : CXT} {k : Nat} {f : Addr} {fd : FuncData} {ps : List Str} {sp sp' : Sp} (F : FnOk P w K mg base CX k f fd ps sp)
    (h : ∀ vs H Q E, sp' vs H Q E → sp vs H Q E) : FnOk P w K mg base CX k f fd ps sp' :=
  ⟨fun vs H Q E q => F.len vs H Q E (h _ _ _ _ q), fun A outer s H args us vs Q E hr he hb hv hs => F.run A outer s H args us vs Q E hr he hb hv (h _ _ _ _ hs)⟩

theorem Env0.make {P : Program} {w : World} {K : PySem.W.Frag} {mg : Str → Option Value} {base : Heap} {A : Around} {outer : List Env} {s : Shared} {H : Hp} (e : Env0 P w K mg base A outer s H) (C : Addr) (us : List Value) (kw : List (Str × Value)) :
    Env0 P w K mg base (A.under (.builtin "type.__call__" ⟨.ref C :: us, kw⟩)) outer s H := ⟨by first | exact e.frames | (simpa [Around.under, Code.envs, Code.isFrame, pushEnvs] using e.frames), e.mod, e.bs, e.bsz, e.funs, e.frf, e.hok, e.bare⟩
theorem Env0.in1 {P : Program} {w : World} {K : PySem.W.Frag} {mg : Str → Option Value} {base : Heap} {A : Around} {outer : List Env} {s : Shared} {H : Hp} (e : Env0 P w K mg base A outer s H) :
    Env0 P w K mg base A.in1 outer s H := ⟨e.frames, e.mod, e.bs, e.bsz, e.funs, e.frf, e.hok, e.bare⟩

section
variable {X : Cx} {pins : List (Addr × Obj)} {σ : St} {H : Hp} {s s' : Shared}
/-- from a body: what a callee wants -/
theorem Inv.env0 (I : Inv X pins σ H s) : Env0 X.prog X.w X.K X.mg X.base X.A X.stack s H :=
  ⟨I.ok.frames, I.ok.mod, I.bs, Nat.le_trans I.ok.bsz I.sz, I.stack, I.stkFree, I.hok, I.bare⟩
/-- behind a call -/
theorem Inv.after {Q : VK} {u : Value} (I : Inv X pins σ H s) (h : CE X.stack X.prog X.w H s Q u s') : EP X pins σ Q u s' := by
  obtain ⟨v, H', os, bare, un, hok, r, q⟩ := h
  obtain ⟨hh, g, d, t, os'⟩ := s'
  obtain rfl : os' = s.os := os
  exact ⟨v, H', I.call (h' := hh) (g' := g) (d' := d) (t' := t) (ch := []) un hok bare (fun b z => absurd z (by simp)), r, q⟩
end

/-! ### calls -/
/-- f(..): the written arguments, then the defaults dvs; E: what is wanted of an exception -/
def tCall (sp : Sp) (dvs : List V) (E : XK) (t : TA) : TE := fun σ H Q => t σ H fun vs H1 => sp (vs ++ dvs) H1 Q E
/-- o.m(..) of an instance of the class at C -/
def tMeth (C : Addr) (m : Str) (sp : Sp) (dvs : List V) (E : XK) (ta : TE) (t : TA) : TE := fun σ H Q => ta σ H fun x H1 => ∃ a dx fs, x = .ref a ∧ H1 a = some (.ins C dx fs) ∧ fs.lookup m = none ∧
  t σ H1 fun vs H2 => sp (x :: (vs ++ dvs)) H2 Q E
/-- C(..): a new instance and its dict, then __init__ -/
def tMake (C : Addr) (sp : Sp) (dvs : List V) (E : XK) (t : TA) : TE := fun σ H Q => t σ H fun vs H1 => ∀ x dx, H1 x = none → H1 dx = none → dx ≠ x →
  sp (.ref x :: (vs ++ dvs)) (upd (upd H1 dx (.own x)) x (.ins C dx [])) (fun v H2 => v = .non ∧ Q (.ref x) H2) E

/-- how the parameters are bound: us the positional arguments, kw the keywords' values by name, ds the defaults that fill up -/
def Binds (K : PySem.W.Frag) (fd : FuncData) (ps : List Str) (ds : List Value) : Prop :=
  ∀ (s : Shared) (us : List Value), K.In s.heap → (us ++ ds).length = ps.length → BindsTo s fd ⟨us, []⟩ (ps.zip (us ++ ds))
/-- every parameter is given -/
theorem Binds.all {K : PySem.W.Frag} {fd : FuncData} {ps : List Str} (h : ∀ us : List Value, us.length = ps.length → bindArgs fd ⟨us, []⟩ = pure (ps.zip us)) : Binds K fd ps [] := fun s us _ hl => by
  rw [List.append_nil] at hl ⊢
  exact .of_eq (h us hl)

/-- an exception of a callee reaches what this body wants of exceptions -/
def Passes (CX : CXT) (X : Cx) (E : XK) : Prop := ∀ (pins : List (Addr × Obj)) (σ : St) (H : Hp) (s : Shared) (e : Value) (s' : Shared), Inv X pins σ H s → CX X.stack H s E e s' → X.xe e s'

section
variable {X : Cx} {CX : CXT} {k : Nat} {f C : Addr} {fd : FuncData} {ps : List Str} {sp : Sp} {dvs : List V} {ds : List Value} {E : XK} {x m : Str} {p pos apos : Pos} {e o : Expr} {es : List Expr} {ta : TE} {t : TA}

/-- the callee runs -/
theorem run_fn {pins : List (Addr × Obj)} {σ : St} {H : Hp} {s : Shared} {Q : VK} {us : List Value} {vs : List V} (F : FnOk X.prog X.w X.K X.mg X.base CX k f fd ps sp) (hr : Room k X.A) (hb : Binds X.K fd ps ds) (hd : Vals dvs ds) (hx : Passes CX X E)
    (I : Inv X pins σ H s) (r : Vals vs us) (h : sp (vs ++ dvs) H Q E) : wpAny (model X.prog X.w) X.A (call (.ref f) us) (EP X pins σ Q) X.xe s := by
  have r2 : Vals (vs ++ dvs) (us ++ ds) := r.append hd
  have hl : (us ++ ds).length = ps.length := by rw [← r2.length]; exact F.len _ _ _ _ h
  refine wpAny_call (codeAny_mono (F.run X.A X.stack s H ⟨us, []⟩ (us ++ ds) (vs ++ dvs) Q E hr I.env0 (hb s us I.kIn hl) r2 h) fun r s' hq => ?_)
  cases r with
  | error e => exact hx pins σ H s e s' I hq
  | ok fl =>
    cases fl with
    | ret u => exact I.after hq
    | next => exact False.elim hq
    | brk => exact False.elim hq
    | cont => exact False.elim hq

theorem pe_call (F : FnOk X.prog X.w X.K X.mg X.base CX k f fd ps sp) (hr : Room k X.A) (hg : Gl X x) (hm : X.mg x = some (.ref f)) (hk : PySem.W.keepIn X.K (.ref f) = true) (hb : Binds X.K fd ps ds) (hd : Vals dvs ds) (hx : Passes CX X E)
    (ha : PA X (e :: es) t) (hdb : (x == ("__debug__" : Str)) = false := by decide) (he : starEach (e :: es) X.env = (false, eval e X.env) :: starEach es X.env := by rfl) (hpl : (backTo pos (starEach es X.env)).any (·.1) = false := by rfl) :
    PE X (.Call (.Name x p) (e :: es) [] pos) (tCall sp dvs E t) := by
  intro pins s σ H Q I h
  refine wpAny_Call_Name_kw (ld_glob I hg hm ?_ hdb)
  refine PySem.W.callWith_K (h₀ := X.base) I.ok.mod.kin hk (thn (ha pos pins s σ H _ I h) fun us s1 ⟨vs, H1, I1, r, q⟩ => ⟨I1.kIn, ?_⟩) he hpl
  exact run_fn F hr hb hd hx I1 r q
theorem pe_call0 (F : FnOk X.prog X.w X.K X.mg X.base CX k f fd ps sp) (hr : Room k X.A) (hg : Gl X x) (hm : X.mg x = some (.ref f)) (hk : PySem.W.keepIn X.K (.ref f) = true) (hb : Binds X.K fd ps ds) (hd : Vals dvs ds) (hx : Passes CX X E)
    (hdb : (x == ("__debug__" : Str)) = false := by decide) : PE X (.Call (.Name x p) [] [] pos) (tCall sp dvs E tNil) := by
  intro pins s σ H Q I h
  refine wpAny_Call_Name_kw (ld_glob I hg hm ?_ hdb)
  exact PySem.W.callWith_K0 I.kIn hk (run_fn (us := []) F hr hb hd hx I .nil h)

/-- o.m(e, ..) -/
theorem pe_meth {pl : Sem Bool} (he : PE X o ta) (c : Cls X.K C) (hm : Meth X.K C m f) (F : FnOk X.prog X.w X.K X.mg X.base CX k f fd ps sp) (hr : Room k X.A) (hb : Binds X.K fd ps ds) (hd : Vals dvs ds) (hx : Passes CX X E) (ha : PA X (e :: es) t)
    (hst : starEach (e :: es) X.env = (false, eval e X.env) :: starEach es X.env := by rfl) (hpl : (backTo pos (starEach es X.env)).any (·.1) = false := by rfl)
    (ht : eval (.Call (.Attribute o m apos) (e :: es) [] pos) X.env = (do
      let ov ← eval o X.env
      standAt apos.atName
      let (f, first) ← holding [ov] (getMethod ov m pl)
      callWith pos f first (backTo pos (starEach (e :: es) X.env)) (backToKw pos (keywordEach [] X.env))) := by rfl) :
    PE X (.Call (.Attribute o m apos) (e :: es) [] pos) (tMeth C m sp dvs E ta t) := by
  intro pins s σ H Q I h
  refine PySem.W.methodCall_KW (pl := pl) (thn (he pins s σ H _ I h) fun u s1 ⟨x, H1, I1, rx, a, dx, fs, ex, ea, l, q⟩ => ?_) ht
  subst ex
  obtain rfl : u = Value.ref a := rx
  refine getmeth_ok I1 ea c hm l ?_
  refine PySem.W.callWith_K (first := [.ref a]) (h₀ := X.base) I.ok.mod.kin hm.kp (thn (ha pos pins s1 σ H1 _ I1 q) fun us s2 ⟨vs, H2, I2, r, q2⟩ => ⟨I2.kIn, ?_⟩) hst hpl
  exact run_fn (us := .ref a :: us) (vs := .ref a :: vs) F hr hb hd hx I2 (.cons rfl r) q2
/-- o.m() -/
theorem pe_meth0 {pl : Sem Bool} (he : PE X o ta) (c : Cls X.K C) (hm : Meth X.K C m f) (F : FnOk X.prog X.w X.K X.mg X.base CX k f fd ps sp) (hr : Room k X.A) (hb : Binds X.K fd ps ds) (hd : Vals dvs ds) (hx : Passes CX X E)
    (ht : eval (.Call (.Attribute o m apos) [] [] pos) X.env = (do
      let ov ← eval o X.env
      standAt apos.atName
      let (f, first) ← holding [ov] (getMethod ov m pl)
      callWith pos f first (backTo pos (starEach [] X.env)) (backToKw pos (keywordEach [] X.env))) := by rfl) :
    PE X (.Call (.Attribute o m apos) [] [] pos) (tMeth C m sp dvs E ta tNil) := by
  intro pins s σ H Q I h
  refine PySem.W.methodCall_KW (pl := pl) (thn (he pins s σ H _ I h) fun u s1 ⟨x, H1, I1, rx, a, dx, fs, ex, ea, l, q⟩ => ?_) ht
  subst ex
  obtain rfl : u = Value.ref a := rx
  refine getmeth_ok I1 ea c hm l ?_
  exact PySem.W.callWith_K0 (first := [.ref a]) I1.kIn hm.kp (run_fn (us := [.ref a]) (vs := [.ref a]) F hr hb hd hx I1 (.cons rfl .nil) q)

/-- what a class must have to be made -/
structure Mk (K : PySem.W.Frag) (C f : Addr) : Prop where
  makes : PySem.W.makesIn K C = true
  init : PySem.W.findIn K (.ref C) "__init__" = some (some (.ref f))
  fn : PySem.W.isFn K (.ref f) = true
  kp : PySem.W.keepIn K (.ref C) = true

theorem run_make {pins : List (Addr × Obj)} {σ : St} {H : Hp} {s : Shared} {Q : VK} {us : List Value} {vs : List V} (M : Mk X.K C f) (F : FnOk X.prog X.w X.K X.mg X.base CX k f fd ps sp) (hr : Room (k + 1) X.A) (hb : Binds X.K fd ps ds) (hd : Vals dvs ds)
    (hx : Passes CX X E) (I : Inv X pins σ H s) (r : Vals vs us)
    (h : ∀ x dx, H x = none → H dx = none → dx ≠ x → sp (.ref x :: (vs ++ dvs)) (upd (upd H dx (.own x)) x (.ins C dx [])) (fun v H2 => v = .non ∧ Q (.ref x) H2) E) :
    wpAny (model X.prog X.w) X.A (call (.ref C) us) (EP X pins σ Q) X.xe s := by
  have hq := h (s.heap.objs.size + 1) s.heap.objs.size (I.hok.fresh (Nat.le_succ _)) (I.hok.fresh (Nat.le_refl _)) (Nat.ne_of_lt (Nat.lt_succ_self _))
  have I2 := Inv.made (C := C) I
  have r2 : Vals (V.ref (s.heap.objs.size + 1) :: (vs ++ dvs)) (Value.ref (s.heap.objs.size + 1) :: (us ++ ds)) := .cons rfl (r.append hd)
  have hl : (Value.ref (s.heap.objs.size + 1) :: us ++ ds).length = ps.length := by
    have e := r2.length
    rw [F.len _ _ _ _ hq] at e
    exact e.symm
  refine wpAny_call (make_map (f := f) I.kIn M.makes M.init (beq_iff_eq.mp M.fn) (codeAny_mono (F.run _ X.stack _ _ ⟨Value.ref (s.heap.objs.size + 1) :: us, []⟩ (Value.ref (s.heap.objs.size + 1) :: (us ++ ds)) _ _ E (hr.make C us [])
    (I2.env0.make C us []) (hb _ (Value.ref (s.heap.objs.size + 1) :: us) I2.kIn hl) r2 hq) fun r s' hq' => ?_))
  cases r with
  | error e => exact hx pins σ _ _ e s' I2 hq'
  | ok fl =>
    cases fl with
    | ret u =>
      obtain ⟨v, H', I3, rv, ev, q3⟩ := I2.after hq'
      subst ev
      exact ⟨rv, ⟨V.ref (s.heap.objs.size + 1), H', I3, rfl, q3⟩⟩
    | next => exact False.elim hq'
    | brk => exact False.elim hq'
    | cont => exact False.elim hq'
theorem pe_make (M : Mk X.K C f) (F : FnOk X.prog X.w X.K X.mg X.base CX k f fd ps sp) (hr : Room (k + 1) X.A) (hg : Gl X x) (hm : X.mg x = some (.ref C)) (hb : Binds X.K fd ps ds) (hd : Vals dvs ds) (hx : Passes CX X E)
    (ha : PA X (e :: es) t) (hdb : (x == ("__debug__" : Str)) = false := by decide) (he : starEach (e :: es) X.env = (false, eval e X.env) :: starEach es X.env := by rfl) (hpl : (backTo pos (starEach es X.env)).any (·.1) = false := by rfl) :
    PE X (.Call (.Name x p) (e :: es) [] pos) (tMake C sp dvs E t) := by
  intro pins s σ H Q I h
  refine wpAny_Call_Name_kw (ld_glob I hg hm ?_ hdb)
  refine PySem.W.callWith_K (h₀ := X.base) I.ok.mod.kin M.kp (thn (ha pos pins s σ H _ I h) fun us s1 ⟨vs, H1, I1, r, q⟩ => ⟨I1.kIn, ?_⟩) he hpl
  exact run_make M F hr hb hd hx I1 r q
theorem pe_make0 (M : Mk X.K C f) (F : FnOk X.prog X.w X.K X.mg X.base CX k f fd ps sp) (hr : Room (k + 1) X.A) (hg : Gl X x) (hm : X.mg x = some (.ref C)) (hb : Binds X.K fd ps ds) (hd : Vals dvs ds) (hx : Passes CX X E)
    (hdb : (x == ("__debug__" : Str)) = false := by decide) : PE X (.Call (.Name x p) [] [] pos) (tMake C sp dvs E tNil) := by
  intro pins s σ H Q I h
  refine wpAny_Call_Name_kw (ld_glob I hg hm ?_ hdb)
  exact PySem.W.callWith_K0 I.kIn M.kp (run_make (us := []) M F hr hb hd hx I .nil h)
end

/-! ### keywords -/
/-- the values of the keywords, from the left -/
def PK (X : Cx) (kws : List Keyword) (t : TA) : Prop :=
  ∀ (pos : Pos) (pins : List (Addr × Obj)) (s : Shared) (σ : St) (H : Hp) (Q : List V → Hp → Prop), Inv X pins σ H s → t σ H Q → wpAny (model X.prog X.w) X.A (evalAll ((backToKw pos (keywordEach kws X.env)).map (·.2))) (AP X pins σ Q) X.xe s
section
variable {X : Cx} {CX : CXT} {k : Nat} {f C : Addr} {fd : FuncData} {ps ks : List Str} {sp : Sp} {E : XK} {x m : Str} {p pos apos kpos : Pos} {e o : Expr} {es : List Expr} {kws : List Keyword} {te ta : TE} {t tk : TA} {nm : Option Str}
theorem pk_nil : PK X [] tNil := fun _ _ _ _ H Q I h => wpAny_evalAll_nil ⟨[], H, I, .nil, h⟩
theorem pk_cons (ha : PE X e te) (hr : PK X kws t) : PK X (⟨nm, e, kpos⟩ :: kws) (tCons te t) := by
  intro pos pins s σ H Q I h
  show wpAny _ _ (evalAll ((do let v ← eval e X.env; standAt pos; pure v) :: (backToKw pos (keywordEach kws X.env)).map (·.2))) _ _ s
  refine wpAny_evalAll_cons (wpAny_bind (thn (ha pins s σ H _ I h) fun u s1 ⟨x, H1, I1, r1, q1⟩ => wpAny_bind (wpAny_standAt (wpAny_pure ?_))))
  exact thn (hr pos pins s1 σ H1 _ I1 q1) fun us s2 ⟨xs, H2, I2, r2, q2⟩ => ⟨x :: xs, H2, I2, .cons r1 r2, q2⟩

/-- how a call with keywords binds: g puts the positional values us and the keywords' values ws (names ks) in the parameters' order, defaults among them -/
structure KBinds (K : PySem.W.Frag) (fd : FuncData) (ps ks : List Str) (g : List Value → List Value → List Value) (gV : List V → List V → List V) : Prop where
  to : ∀ (s : Shared) (us ws : List Value), K.In s.heap → (g us ws).length = ps.length → BindsTo s fd ⟨us, ks.zip ws⟩ (ps.zip (g us ws))
  rel : ∀ {vs : List V} {us : List Value} {zs : List V} {ws : List Value}, Vals vs us → Vals zs ws → Vals (gV vs zs) (g us ws)
def tCallK (sp : Sp) (gV : List V → List V → List V) (E : XK) (t tk : TA) : TE := fun σ H Q => t σ H fun vs H1 => tk σ H1 fun zs H2 => sp (gV vs zs) H2 Q E
variable {g : List Value → List Value → List Value} {gV : List V → List V → List V}
theorem run_fnk {pins : List (Addr × Obj)} {σ : St} {H : Hp} {s : Shared} {Q : VK} {us ws : List Value} {vs zs : List V} (F : FnOk X.prog X.w X.K X.mg X.base CX k f fd ps sp) (hr : Room k X.A) (hb : KBinds X.K fd ps ks g gV) (hx : Passes CX X E)
    (I : Inv X pins σ H s) (r : Vals vs us) (rz : Vals zs ws) (h : sp (gV vs zs) H Q E) : wpAny (model X.prog X.w) X.A (call (.ref f) us (ks.zip ws)) (EP X pins σ Q) X.xe s := by
  have r2 := hb.rel r rz
  have hl : (g us ws).length = ps.length := by rw [← r2.length]; exact F.len _ _ _ _ h
  refine wpAny_call (codeAny_mono (F.run X.A X.stack s H ⟨us, ks.zip ws⟩ (g us ws) (gV vs zs) Q E hr I.env0 (hb.to s us ws I.kIn hl) r2 h) fun r s' hq => ?_)
  cases r with
  | error e => exact hx pins σ H s e s' I hq
  | ok fl =>
    cases fl with
    | ret u => exact I.after hq
    | next => exact False.elim hq
    | brk => exact False.elim hq
    | cont => exact False.elim hq
/-- f(e, .., k = v, ..) -/
theorem pe_callK (F : FnOk X.prog X.w X.K X.mg X.base CX k f fd ps sp) (hr : Room k X.A) (hg : Gl X x) (hm : X.mg x = some (.ref f)) (hk : PySem.W.keepIn X.K (.ref f) = true) (hb : KBinds X.K fd ps ks g gV) (hx : Passes CX X E)
    (ha : PA X (e :: es) t) (hkw : PK X kws tk) (hall : (backToKw pos (keywordEach kws X.env)).all (·.1.isSome) = true := by rfl) (hks : (backToKw pos (keywordEach kws X.env)).filterMap (·.1) = ks := by rfl)
    (hdb : (x == ("__debug__" : Str)) = false := by decide) (he : starEach (e :: es) X.env = (false, eval e X.env) :: starEach es X.env := by rfl)
    (hpl : ((backTo pos (starEach (e :: es) X.env)).any (·.1) || (backToKw pos (keywordEach kws X.env)).any (·.1.isNone)) = false := by rfl) :
    PE X (.Call (.Name x p) (e :: es) kws pos) (tCallK sp gV E t tk) := by
  intro pins s σ H Q I h
  refine wpAny_Call_Name_kw (ld_glob I hg hm ?_ hdb)
  refine PySem.W.callWith_KW (h₀ := X.base) I.ok.mod.kin hk hall (thn (ha pos pins s σ H _ I h) fun us s1 ⟨vs, H1, I1, r, q⟩ => ?_) hpl he
  refine thn (hkw pos pins s1 σ H1 _ I1 q) fun ws s2 ⟨zs, H2, I2, rz, q2⟩ => ⟨I2.kIn, ?_⟩
  rw [hks]
  exact run_fnk F hr hb hx I2 r rz q2
end

/-! ### a def's body keeps its promise -/
/-- names: the parameters first -/
structure FnScope (N P : List Str) (sc : Scope) : Prop where
  kind : sc.kind = .function
  co : sc.isCoroutine = false
  gen : sc.isGenerator = false
  nd : N.Nodup
  pre : N.take P.length = P
  par : ∀ x ∈ P, sc.names.lookup x = some .local ∨ sc.names.lookup x = some .cell
  nofree : ∀ y ∈ sc.names, y.2 ≠ .free

theorem bindL_out {kindOf : Str → Option NameKind} {x : Str} : ∀ {binds : List (Str × Value)} {m : Str → Option Value}, (∀ v, (x, v) ∉ binds) → bindL kindOf binds m x = m x
  | [], _, _ => rfl
  | (n, v) :: r, m, h => by
    unfold bindL
    rw [bindL_out fun w hw => h w (List.mem_cons_of_mem _ hw)]
    split
    · have : x ≠ n := by rintro rfl; exact h v List.mem_cons_self
      simp [this]
    · rfl
theorem bindC_out {kindOf : Str → Option NameKind} {x : Str} : ∀ {binds : List (Str × Value)} {m : Str → Option Value}, (∀ v, (x, v) ∉ binds) → bindC kindOf binds m x = m x
  | [], _, _ => rfl
  | (n, v) :: r, m, h => by
    unfold bindC
    rw [bindC_out fun w hw => h w (List.mem_cons_of_mem _ hw)]
    split
    · rfl
    · have : x ≠ n := by rintro rfl; exact h v List.mem_cons_self
      simp [this]
theorem bindL_get {kindOf : Str → Option NameKind} {x : Str} {v : Value} : ∀ {P : List Str} {vs : List Value} {i : Nat} {m : Str → Option Value}, P.Nodup → P[i]? = some x → vs[i]? = some v → kindOf x = some .local →
    bindL kindOf (P.zip vs) m x = some v
  | [], _, _, _, _, h, _, _ => by simp at h
  | _ :: _, [], _, _, _, _, h, _ => by simp at h
  | p :: P, w :: vs, 0, m, nd, h1, h2, hk => by
    simp at h1 h2; subst h1; subst h2
    show bindL kindOf ((p, w) :: P.zip vs) m p = _
    unfold bindL
    rw [bindL_out fun v hv => (List.nodup_cons.mp nd).1 (List.of_mem_zip hv).1, if_pos hk]
    simp
  | p :: P, w :: vs, i + 1, m, nd, h1, h2, hk => by
    show bindL kindOf ((p, w) :: P.zip vs) m x = _
    unfold bindL
    exact bindL_get (i := i) (List.nodup_cons.mp nd).2 (by simpa using h1) (by simpa using h2) hk
theorem bindC_get {kindOf : Str → Option NameKind} {x : Str} {v : Value} : ∀ {P : List Str} {vs : List Value} {i : Nat} {m : Str → Option Value}, P.Nodup → P[i]? = some x → vs[i]? = some v → kindOf x ≠ some .local →
    bindC kindOf (P.zip vs) m x = some v
  | [], _, _, _, _, h, _, _ => by simp at h
  | _ :: _, [], _, _, _, _, h, _ => by simp at h
  | p :: P, w :: vs, 0, m, nd, h1, h2, hk => by
    simp at h1 h2; subst h1; subst h2
    show bindC kindOf ((p, w) :: P.zip vs) m p = _
    unfold bindC
    rw [bindC_out fun v hv => (List.nodup_cons.mp nd).1 (List.of_mem_zip hv).1, if_neg hk]
    simp
  | p :: P, w :: vs, i + 1, m, nd, h1, h2, hk => by
    show bindC kindOf ((p, w) :: P.zip vs) m x = _
    unfold bindC
    exact bindC_get (i := i) (List.nodup_cons.mp nd).2 (by simpa using h1) (by simpa using h2) hk

/-- the names' values at the entry -/
def start (N : List Str) (vs : List V) : St := vs.map some ++ List.replicate (N.length - vs.length) none

/-- the context of a def's body, at its entry; an exception leaves the frame, then lies as CX says -/
def cxOf (CX : CXT) (P : Program) (w : World) (K : PySem.W.Frag) (mg : Str → Option Value) (base : Heap) (N : List Str) (qual : Str) (scope : Scope) (f : Addr) (cd : Value) (A : Around) (outer : List Env) (s : Shared) (H : Hp) (E : XK) : Cx where
  prog := P
  w := w
  K := K
  mg := mg
  base := base
  A := A.deeper (envOfC qual scope s.heap.objs.size f cd)
  N := N
  s₀ := s
  H₀ := H
  env := envOfC qual scope s.heap.objs.size f cd
  outer := outer
  stack := envOfC qual scope s.heap.objs.size f cd :: outer
  ex := []
  calm := true
  fn := fun _ => true
  pn := []
  xe := fun e s' => wpAny (model P w) (A.deeper (envOfC qual scope s.heap.objs.size f cd)) (leaving (envOfC qual scope s.heap.objs.size f cd) e) (fun _ s'' => CX outer H s E e s'') (fun e' s'' => CX outer H s E e' s'') s'

theorem cell_has {sc : Scope} {n : Nat} {x : Str} (h : sc.names.lookup x = some .cell) : ∃ c, (cellsFrom n sc.names []).lookup x = some c := by
  have q := PySem.W.cellsFrom_some sc.names n [] (.inl h)
  exact Option.isSome_iff_exists.mp q

theorem inv_start {CX : CXT} {P : Program} {w : World} {K : PySem.W.Frag} {mg : Str → Option Value} {base : Heap} {N ps : List Str} {qual : Str} {scope : Scope} {f : Addr} {cd : Value} {A : Around} {outer : List Env} {s s1 : Shared} {H : Hp} {E : XK} {us : List Value} {vs : List V}
    (S : FnScope N ps scope) (hd : A.handled = none) (e0 : Env0 P w K mg base A outer s H) (hl : vs.length = ps.length) (r : Vals vs us)
    (x : InCallC s s.heap.objs.size (bindL (envOfC qual scope s.heap.objs.size f cd).kindOf (ps.zip us) fun _ => none) (cellsFrom (s.heap.objs.size + 1) scope.names []) (bindC (envOfC qual scope s.heap.objs.size f cd).kindOf (ps.zip us) fun _ => none) s1) :
    Inv (cxOf CX P w K mg base N qual scope f cd A outer s H E) [] (start N vs) H s1 := by
  have hpl : ps.length ≤ N.length := by have := congrArg List.length S.pre; rw [List.length_take] at this; omega
  obtain ⟨h1, tk, rfl, hk⟩ := x.done
  have noA : ∀ b : Addr, b ∉ (cxOf CX P w K mg base N qual scope f cd A outer s H E).ex := fun b z => absurd (show b ∈ ([] : List Addr) from z) (by simp)
  refine ⟨⟨e0.mod, S.kind, rfl, rfl, Nat.le_refl _, fun y z c h1 h2 => ?_, fun y hy => ?_, fun y c _ h => ?_, fun _ => hd, Around.frames_deeper e0.frames, .inr ⟨rfl, rfl⟩, fun b z => absurd z (noA b), e0.bs, e0.bsz, fun b _ _ => noA b, fun b z => absurd z (noA b), e0.funs, e0.frf⟩,
    rfl, e0.bare, Un.kept hk, ⟨_, x.toInCall.ns, fun i y v h1 h2 h3 => ?_⟩, fun y c h => ⟨_, x.cell y c h⟩, e0.hok.fresh (Nat.le_refl _), fun y c h => ?_, fun p hp => absurd (show p ∈ ([] : List (Addr × Obj)) from hp) (by simp), e0.hok.kept hk, ?_⟩
  · exact name_of_addr x.apart (PySem.mem_of_lookup h1) (PySem.mem_of_lookup h2)
  · have hy : scope.names.lookup y = some .cell ∨ scope.names.lookup y = some .free := hy
    rcases hy with hy | hy
    · exact cell_has hy
    · exact absurd rfl (S.nofree _ (PySem.mem_of_lookup hy))
  · exact Nat.le_of_lt (x.above y c (PySem.mem_of_lookup h))
  · have hi : i < vs.length := by
      unfold start at h2
      by_cases hi : i < vs.length
      · exact hi
      · rw [List.getElem?_append_right (by simpa using hi)] at h2
        rw [List.getElem?_replicate] at h2
        split at h2 <;> cases h2
    have ha : vs[i]? = some v := by
      unfold start at h2
      rw [List.getElem?_append_left (by simpa using hi), List.getElem?_map] at h2
      cases e : vs[i]? with
      | none => rw [e] at h2; cases h2
      | some a => rw [e] at h2; cases h2; rfl
    obtain ⟨u, hu, rv⟩ := r.get ha
    have hp : ps[i]? = some y := by
      rw [← S.pre, List.getElem?_take_of_lt (by omega)]; exact h1
    have ndP : ps.Nodup := by rw [← S.pre]; exact S.nd.sublist (List.take_sublist _ _)
    refine ⟨u, rv, ?_⟩
    rcases S.par y (List.mem_of_getElem? hp) with k | k
    · exact .inl ⟨k, bindL_get ndP hp hu k⟩
    · obtain ⟨c, e⟩ := cell_has (n := s.heap.objs.size + 1) k
      refine .inr ⟨.inl k, c, e, ?_⟩
      have q := x.cell y c e
      rw [bindC_get ndP hp hu (by show scope.names.lookup y ≠ _; rw [k]; decide)] at q
      exact q
  · exact e0.hok.fresh (Nat.le_of_lt (x.above y c (PySem.mem_of_lookup h)))
  · unfold start
    show _ = N.length
    rw [List.length_append, List.length_map, List.length_replicate]
    omega

/-- THE RULE: a def (or a method) of the text, by its body. The body's reading t is chosen for each entry; it is run at the parameters' values -/
theorem fn_of {CX : CXT} {P : Program} {w : World} {K : PySem.W.Frag} {mg : Str → Option Value} {base : Heap} {k : Nat} {f : Addr} {name qual : Str} {params : Arguments} {body : List Stmt} {scope : Scope} {dV kV doc pm cdv ct oc : Value} {an od : Option Addr}
    {osl : Array (Option Value)} {N ps : List Str} {sp : Sp} (lk : K.lookup f = some ⟨oc, od, .func (PySem.W.fnOf name qual params body scope dV kV doc pm an cdv ct), osl⟩) (hcd : PySem.W.codeIn K cdv qual = true) (S : FnScope N ps scope)
    (len : ∀ vs H Q E, sp vs H Q E → vs.length = ps.length)
    (hbody : ∀ (A : Around) (outer : List Env) (s : Shared) (H : Hp) (vs : List V) (Q : VK) (E : XK), Room k (A.deeper (envOfC qual scope s.heap.objs.size f cdv)) → sp vs H Q E →
      ∃ t, PSs (cxOf CX P w K mg base N qual scope f cdv A outer s H E) body t ∧ t { nx := fun _ H' => Q .non H', rt := Q } (start N vs) H) :
    FnOk P w K mg base CX (k + 1) f (PySem.W.fnOf name qual params body scope dV kV doc pm an cdv ct) ps sp := by
  refine ⟨len, fun A outer s H args us vs Q E hr e0 hb r hsp => ?_⟩
  have hl := len _ _ _ _ hsp
  have KX : K.In s.heap := e0.mod.kin.keeps fun b o e => (e0.bs b o e).1
  have lim : s.heap.NoLimit := e0.mod.nolimit.keeps fun b o e => (e0.bs b o e).1
  have hkind : ∀ y ∈ ps.zip us, scope.names.lookup y.1 = some .local ∨ (scope.names.lookup y.1 = some .cell ∧ ((cellsFrom (s.heap.objs.size + 1) scope.names []).lookup y.1).isSome = true) := fun ⟨n, v⟩ hy => by
    rcases S.par n (List.of_mem_zip hy).1 with q | q
    · exact .inl q
    · exact .inr ⟨q, PySem.W.cellsFrom_some _ _ _ (.inl q)⟩
  refine codeAny_call_function hr.depth (KX _ _ lk) rfl S.co S.gen rfl (PySem.W.codeRec_of KX hcd) (hb _ _ _ _ ?_)
  refine wpAny_newFunctionEnv_cells S.kind hkind fun env he s1 x => ?_
  subst he
  refine ⟨lim.keeps x.toInCall.keep, codeAny_func ?_⟩
  obtain ⟨t, ht, hq⟩ := hbody A outer s H vs Q E (hr.deeper _) hsp
  have I : Inv (cxOf CX P w K mg base N qual scope f cdv A outer s H E) [] (start N vs) H s1 := inv_start S hr.hd e0 hl r x
  refine wpAny_mono (ht [] s1 (start N vs) H _ I hq) (fun fl s' hs => ?_) fun e s' hs => hs
  have fin : ∀ {σ' : St} {H' : Hp} {v : V} {u : Value}, Inv (cxOf CX P w K mg base N qual scope f cdv A outer s H E) [] σ' H' s' → RelV v u → Q v H' → CE outer P w H s Q u s' :=
    fun {σ' H' v u} J rv q => ⟨v, H', J.os, J.bare, J.base, J.hok, rv, q⟩
  cases fl with
  | ret u =>
    obtain ⟨v, σ', H', J, rv, q⟩ := hs
    exact fin J rv q
  | next =>
    obtain ⟨σ', H', J, q⟩ := hs
    exact fin (v := V.non) (u := Value.none) J rfl q
  | brk =>
    obtain ⟨_, _, _, q⟩ := hs
    exact False.elim q
  | cont =>
    obtain ⟨_, _, _, q⟩ := hs
    exact False.elim q
end L2

namespace L2
open PySem PySem.Spec PyProof.Rows
section
variable {X : Cx} {x : Str} {p pos : Pos} {e : Expr} {es : List Expr} {t : TA} {id T : String} {r : List V → Hp → VK → Prop}

def tCB (r : List V → Hp → VK → Prop) (t : TA) : TE := fun σ H Q => t σ H fun vs H1 => r vs H1 Q
/-- f(e, ..), f a built-in function -/
theorem pe_callB (hc : CallR X (.builtin id) r) (hg : Gl X x) (hm : X.mg x = none) (hv : bootBuiltins x = some (.builtin id)) (ha : PA X (e :: es) t) (hn : x ≠ "__name__" := by decide) (hdb : (x == ("__debug__" : Str)) = false := by decide)
    (he : starEach (e :: es) X.env = (false, eval e X.env) :: starEach es X.env := by rfl) (hpl : (backTo pos (starEach es X.env)).any (·.1) = false := by rfl) : PE X (.Call (.Name x p) (e :: es) [] pos) (tCB r t) := by
  intro pins s σ H Q I h
  refine wpAny_Call_Name_kw (ld_blt I hg hm hv ?_ hn hdb)
  exact PyProof.Rows.callWith_builtin1 (thn (ha pos pins s σ H _ I h) fun us s1 ⟨vs, H1, I1, r1, q1⟩ => hc pins s1 σ H1 vs us Q I1 r1 q1) he hpl
/-- T(e, ..), T a built-in type -/
theorem pe_callTy (hc : CallR X (.type T) r) (hg : Gl X x) (hm : X.mg x = none) (hv : bootBuiltins x = some (.type T)) (ha : PA X (e :: es) t) (hn : x ≠ "__name__" := by decide) (hdb : (x == ("__debug__" : Str)) = false := by decide)
    (he : starEach (e :: es) X.env = (false, eval e X.env) :: starEach es X.env := by rfl) (hpl : (backTo pos (starEach es X.env)).any (·.1) = false := by rfl) : PE X (.Call (.Name x p) (e :: es) [] pos) (tCB r t) := by
  intro pins s σ H Q I h
  refine wpAny_Call_Name_kw (ld_blt I hg hm hv ?_ hn hdb)
  exact PyProof.Rows.callWith_type1 (thn (ha pos pins s σ H _ I h) fun us s1 ⟨vs, H1, I1, r1, q1⟩ => hc pins s1 σ H1 vs us Q I1 r1 q1) he hpl
/-- T() -/
theorem pe_callTy0 (hc : CallR X (.type T) r) (hg : Gl X x) (hm : X.mg x = none) (hv : bootBuiltins x = some (.type T)) (hn : x ≠ "__name__" := by decide) (hdb : (x == ("__debug__" : Str)) = false := by decide) :
    PE X (.Call (.Name x p) [] [] pos) (tCB r tNil) := by
  intro pins s σ H Q I h
  refine wpAny_Call_Name_kw (ld_blt I hg hm hv ?_ hn hdb)
  exact PyProof.Rows.callWith_type0 (hc pins s σ H [] [] Q I .nil h)
end
end L2

namespace HT
open PySem PyProof.Rows

/-- t < u of tuples of ints -/
def lexLt : List Int → List Int → Bool
  | [], [] => false
  | [], _ :: _ => true
  | _ :: _, [] => false
  | x :: xs, y :: ys => if x = y then lexLt xs ys else decide (x < y)
theorem lexLt_cons (x y : Int) (xs ys : List Int) : lexLt (x :: xs) (y :: ys) = if x = y then lexLt xs ys else decide (x < y) := rfl
theorem lexLt_nil_nil : lexLt [] [] = false := rfl
theorem lexLt_nil_cons (y : Int) (ys : List Int) : lexLt [] (y :: ys) = true := rfl
theorem lexLt_cons_nil (x : Int) (xs : List Int) : lexLt (x :: xs) [] = false := rfl

theorem eqAt_int (A : Around) (s : Shared) (a : Int) (t : Tok) (c : Int) (u : Tok) : ∃ e, SeqAt.EqAt A s (.int a t) (.int c u) e ∧ (e = true ↔ a = c) :=
  ⟨(a == c), SeqAt.EqAt.int_int a t c u, by simp⟩
theorem rcLt_int (A : Around) (s : Shared) (a : Int) (t : Tok) (c : Int) (u : Tok) (prog : Program) (w : World) (E : Value → Shared → Prop) (Q : Value → Shared → Prop) (h : Q (.bool (decide (a < c))) s) :
    wpAny (model prog w) A (richCompare .Lt (.int a t) (.int c u)) Q E s :=
  (PyProof.Rows.lt_int h : wpAny (model prog w) A (compareOp .Lt (.int a t) (.int c u)) Q E s)

section
open PySem.SeqAt
open PySem.AutoSeq1 (wpAny_loadPart')
open PySem.MeetsSeq PySem.MeetsSeq2 PySem.MeetsSeq3

theorem tuple_lt_ints (l b : Addr) (items items2 : Array Value) (n n2 : Nat) (dd dd2 : Option Addr) (sl sl2 : Array (Option Value)) (ns ms : List Int) (hi : IntsAre items.toList ns) (hj : IntsAre items2.toList ms) :
    Meets (Builtin.«tuple.__lt__» ⟨[.ref l, .ref b], []⟩)
      (fun _ R s => s.heap.get? l = some { cls := .type "tuple", dict := dd, data := .seq items n, slots := sl } ∧ s.heap.get? b = some { cls := .type "tuple", dict := dd2, data := .seq items2 n2, slots := sl2 } ∧
        R (.ok (.ret (.bool (lexLt ns ms)))) s) :=
  .of_wp fun prog w A R s h => by
    obtain ⟨hp, g, d, tk, os⟩ := s; obtain ⟨hl, hb, h⟩ := h
    have f2 := AutoSeq1.sub_tuple_tuple
    have z1 : items.size = ns.length := by rw [← hi.length]; simp
    have z2 : items2.size = ms.length := by rw [← hj.length]; simp
    wp_walk using wpAny_loadPart' hl, wpAny_loadPart' hb, wpAny_forIn_list _ (fun rest b s' => b.1 = none ∧ s' = ⟨hp, g, d, tk, os⟩ ∧ ∃ (vs ws : List Value) (ns' ms' : List Int), rest = vs.zip ws ∧
      IntsAre vs ns' ∧ IntsAre ws ms' ∧ ns'.length + items2.size = ms'.length + items.size ∧ R (.ok (.ret (.bool (lexLt ns' ms')))) ⟨hp, g, d, tk, os⟩) _
    case turn =>
      rintro ⟨y, x⟩ rest b s' ⟨hb', rfl, vs, ws, ns', ms', hz, hvi, hwi, hlen, hR⟩
      cases hvi with
      | nil => rw [List.zip_nil_left] at hz; cases hz
      | cons a t hvi' =>
        cases hwi with
        | nil => rw [List.zip_nil_right] at hz; cases hz
        | cons c u hwi' =>
          rw [List.zip_cons_cons] at hz
          injection hz with hyx hrest
          injection hyx with hy hx
          subst hy hx
          rw [lexLt_cons] at hR
          simp only [List.length_cons] at hlen
          obtain ⟨e, he, hiff⟩ := eqAt_int A.in1 ⟨hp, g, d, tk, os⟩ a t c u
          refine wpAny_bind (he prog w _ _ ?_)
          cases e with
          | true =>
            rw [if_pos (hiff.mp rfl)] at hR
            wp_walk
            exact ⟨rfl, rfl, _, _, _, _, hrest, hvi', hwi', by omega, hR⟩
          | false =>
            rw [if_neg (fun q => absurd (hiff.mpr q) Bool.false_ne_true)] at hR
            have hri := rcLt_int A.in1 ⟨hp, g, d, tk, os⟩ a t c u prog w
            wp_walk using hri
            exact ⟨_, rfl, by simpa using hR⟩
    case fin =>
      rintro ⟨b1, b2⟩ s' ⟨hb', rfl, vs, ws, ns', ms', hz, hvi, hwi, hlen, hR⟩
      simp only at hb'
      subst hb'
      have hv : lexLt ns' ms' = decide (items.size < items2.size) := by
        cases hvi with
        | nil =>
          cases hwi with
          | nil =>
            simp only [List.length_nil] at hlen
            rw [lexLt_nil_nil]
            exact (decide_eq_false (by omega)).symm
          | cons c u hw =>
            simp only [List.length_nil, List.length_cons] at hlen
            rw [lexLt_nil_cons]
            exact (decide_eq_true (by omega)).symm
        | cons a t hv =>
          cases hwi with
          | nil =>
            simp only [List.length_nil, List.length_cons] at hlen
            rw [lexLt_cons_nil]
            exact (decide_eq_false (by omega)).symm
          | cons c u hw =>
            rw [List.zip_cons_cons] at hz
            cases hz
      rw [hv] at hR
      wp_walk
      exact ⟨_, rfl, by simpa [Builtin.Tuple.tupleCompareSizes] using hR⟩
    case h =>
      exact ⟨rfl, rfl, items.toList, items2.toList, ns, ms, rfl, hi, hj, by omega, h⟩
end

section
variable {prog : Program} {w : World} {A : Around} {E : Value → Shared → Prop} {s : Shared}

theorem lt_tupInts {l b : Addr} {items items2 : Array Value} {ns ms : List Int} {Q : Value → Shared → Prop} (hl : IsTup s.heap l items) (hb : IsTup s.heap b items2) (hi : IntsAre items.toList ns) (hj : IntsAre items2.toList ms)
    (hu : A.units < cLine) (h : Q (.bool (lexLt ns ms)) s) : wpAny (model prog w) A (compareOp .Lt (.ref l) (.ref b)) Q E s := by
  obtain ⟨⟨cls, dd, data, sl⟩, ho, hc, n, hd⟩ := id hl
  obtain ⟨⟨cls2, dd2, data2, sl2⟩, ho2, hc2, n2, hd2⟩ := id hb
  simp only at hc hd hc2 hd2
  subst hc hd hc2 hd2
  exact richCompare_meets_room (op := .Lt) ⟨_, ho, rfl⟩ ⟨_, ho2, rfl⟩ PySem.F.slot_tuple_lt PySem.F.entry_tuple_lt (PySem.F.args_tuple_lt_2 _ _) (tuple_lt_ints l b items items2 n n2 dd dd2 sl sl2 ns ms hi hj)
    ⟨ho, ho2, show Value.bool (lexLt ns ms) ≠ Value.notImplemented ∧ Q (.bool (lexLt ns ms)) s from ⟨(fun x => nomatch x), h⟩⟩ hu

/-- t + u, t not empty -/
theorem cat_tup {t b : Addr} {vs ws : List Value} {Q : Value → Shared → Prop} (ht : IsTup s.heap t vs.toArray) (hb : IsTup s.heap b ws.toArray) (hv : vs ≠ [])
    (h1 : ws = [] → Q (.ref t) s) (h2 : ws ≠ [] → Q (.ref s.heap.objs.size) { s with heap := s.heap.push { cls := .type "tuple", data := .seq (vs ++ ws).toArray } })
    (hsz : vs.length + ws.length ≤ sizeLine) : wpAny (model prog w) A (binaryOp .Add (.ref t) (.ref b)) Q E s := by
  obtain ⟨⟨cls, dd, data, sl⟩, ho, hc, n, hd⟩ := id ht
  obtain ⟨⟨cls2, dd2, data2, sl2⟩, ho2, hc2, n2, hd2⟩ := id hb
  simp only at hc hd hc2 hd2
  subst hc hd hc2 hd2
  have e : vs.toArray ++ ws.toArray = (vs ++ ws).toArray := by simp
  by_cases hw : ws = []
  · exact concat_meets ⟨_, ho, rfl⟩ ⟨_, ho2, rfl⟩ noFill_tuple_add seq_tuple_add PySem.F.slot_tuple_add PySem.F.entry_tuple_add (PySem.F.args_tuple_add_2 _ _)
      (tuple_addW1 t b vs.toArray ws.toArray n n2 dd dd2 sl sl2 (by simpa using hv) (by simp [hw])) ⟨ho, ho2, h1 hw⟩
  · refine concat_meets ⟨_, ho, rfl⟩ ⟨_, ho2, rfl⟩ noFill_tuple_add seq_tuple_add PySem.F.slot_tuple_add PySem.F.entry_tuple_add (PySem.F.args_tuple_add_2 _ _)
      (tuple_addW2 t b vs.toArray ws.toArray n n2 dd dd2 sl sl2 (by simpa using hv) (by simpa using hw) (by rw [List.size_toArray, List.size_toArray]; exact hsz)) ⟨ho, ho2, ?_⟩
    rw [e]
    exact h2 hw

/-! ### t[a:b], not the whole -/
/-- a slice's bound as a place among n (d where it is left out) -/
def sIx (n d : Nat) : Option Int → Nat
  | none => d
  | some v => if v < 0 then (v + (n : Int)).toNat else min v.toNat n
theorem sIx_none (n d : Nat) : sIx n d none = d := rfl
theorem sIx_nat (n d k : Nat) : sIx n d (some (k : Int)) = min k n := by
  show (if (k : Int) < 0 then ((k : Int) + (n : Int)).toNat else min (k : Int).toNat n) = min k n
  rw [if_neg (by omega), Int.toNat_natCast]
theorem sIx_le (n d : Nat) (hd : d ≤ n) (o : Option Int) : sIx n d o ≤ n := by
  cases o with
  | none => exact hd
  | some v =>
    show (if v < 0 then (v + (n : Int)).toNat else min v.toNat n) ≤ n
    by_cases hv : v < 0
    · rw [if_pos hv]; omega
    · rw [if_neg hv]; exact Nat.min_le_right _ _
theorem clip_eq (v : Int) (n d : Nat) : (if v < 0 then max (v + (n : Int)) 0 else min v (n : Int)) = ((sIx n d (some v) : Nat) : Int) := by
  show (if v < 0 then max (v + (n : Int)) 0 else min v (n : Int)) = (((if v < 0 then (v + (n : Int)).toNat else min v.toNat n) : Nat) : Int)
  by_cases hv : v < 0
  · simp only [if_pos hv]; omega
  · simp only [if_neg hv]; omega
theorem adjust_gen (lo hi : Option Int) (n : Nat) : Builtin.Slice.sliceAdjust lo hi 1 (n : Int) = (((sIx n 0 lo : Nat) : Int), ((sIx n n hi : Nat) : Int)) := by
  have h1 : ¬ ((1 : Int) < 0) := by omega
  unfold Builtin.Slice.sliceAdjust
  simp only [h1, if_false]
  refine Prod.ext ?_ ?_
  · cases lo with
    | none => rfl
    | some v => exact clip_eq v n 0
  · cases hi with
    | none => rfl
    | some v => exact clip_eq v n n
theorem places_gen (i j : Nat) : Builtin.Slice.slicePlaces (i : Int) (j : Int) 1 = j - i := by
  unfold Builtin.Slice.slicePlaces
  have h1 : (1 : Int) > 0 := by omega
  simp only [h1, if_true, Int.ediv_one]
  split <;> omega
theorem slicePart_ {v : Value} {o : Option Int} {Q : Option Int → Shared → Prop} (p : IsPart v o) (h : Q o s) : wpAny (model prog w) A (Builtin.Slice.slicePartIndex v) Q E s := by
  cases p with
  | none => exact slicePart_none h
  | int i t => exact slicePart_int h
theorem sliceApplied_gen {sl : Addr} {vl vu : Value} {lo hi : Option Int} {n : Nat} {Q : Int × Int × Nat → Shared → Prop} (hs : s.heap.IsSliceOf sl vl vu .none) (pl : IsPart vl lo) (pu : IsPart vu hi)
    (h : Q (((sIx n 0 lo : Nat) : Int), 1, sIx n n hi - sIx n 0 lo) s) : wpAny (model prog w) A (Builtin.Slice.sliceApplied (.ref sl) (pure (n : Int))) Q E s := by
  obtain ⟨os, hos, hcs, hds⟩ := id hs
  unfold Builtin.Slice.sliceApplied Builtin.Slice.sliceFields
  refine wpAny_bind (wpAny_bind (wpAny_field hos hds (x := vl) rfl (wpAny_bind (wpAny_field hos hds (x := vu) rfl (wpAny_bind (wpAny_field hos hds (x := .none) rfl (wpAny_pure ?_)))))))
  refine wpAny_bind (slicePart_none ?_)
  show wpAny _ _ (if ((1 : Int) == 0) = true then _ else _) _ _ s
  rw [if_neg (by decide)]
  refine wpAny_bind (slicePart_ pl (wpAny_bind (slicePart_ pu (wpAny_bind (wpAny_pure ?_)))))
  show wpAny _ _ (match Builtin.Slice.sliceAdjust lo hi 1 (n : Int) with | (lo, hi) => pure (lo, (1 : Int), Builtin.Slice.slicePlaces lo hi 1)) _ _ s
  rw [adjust_gen lo hi n]
  show wpAny _ _ (pure (((sIx n 0 lo : Nat) : Int), (1 : Int), Builtin.Slice.slicePlaces ((sIx n 0 lo : Nat) : Int) ((sIx n n hi : Nat) : Int) 1)) _ _ s
  rw [places_gen]
  exact wpAny_pure h
theorem pick_gen (xs : Array Value) (i k : Nat) : ((List.range k).filterMap fun (m : Nat) => xs[((i : Int) + (m : Int) * 1).toNat]?).toArray = ((xs.toList.drop i).take k).toArray := by
  have e : (fun (m : Nat) => xs[((i : Int) + (m : Int) * 1).toNat]?) = fun m => xs[i + m]? := by
    funext m
    have : ((i : Int) + (m : Int) * 1).toNat = i + m := by omega
    rw [this]
  rw [e]
  have := pick_run xs i k
  rw [List.filterMap_map] at this
  have e2 : ((fun x => xs[x]?) ∘ fun x => i + x) = fun m => xs[i + m]? := rfl
  rw [e2] at this
  rw [this]

theorem getItem_tuple_cut {t sl : Addr} {items : Array Value} {vl vu : Value} {lo hi : Option Int} {Q : Value → Shared → Prop} (ht : IsTup s.heap t items) (hs : s.heap.IsSliceOf sl vl vu .none) (pl : IsPart vl lo) (pu : IsPart vu hi)
    (hw : ¬ (sIx items.size 0 lo = 0 ∧ sIx items.size items.size hi = items.size))
    (h : Q (.ref s.heap.objs.size) { s with heap := s.heap.push { cls := .type "tuple", data := .seq ((items.toList.drop (sIx items.size 0 lo)).take (sIx items.size items.size hi - sIx items.size 0 lo)).toArray } })
    (hsz : items.size ≤ sizeLine) : wpAny (model prog w) A (getItem (.ref t) (.ref sl)) Q E s := by
  have htake : sizeOk (.seq ((items.toList.drop (sIx items.size 0 lo)).take (sIx items.size items.size hi - sIx items.size 0 lo)).toArray) := by
    show ((items.toList.drop (sIx items.size 0 lo)).take (sIx items.size items.size hi - sIx items.size 0 lo)).toArray.size ≤ sizeLine
    rw [List.size_toArray, List.length_take, List.length_drop, Array.length_toList]
    omega
  have hj : sIx items.size items.size hi ≤ items.size := sIx_le _ _ (Nat.le_refl _) hi
  obtain ⟨os, hos, hcs, hds⟩ := id hs
  have hTs : s.TypeIs (.ref sl) "slice" := ⟨os, hos, hcs⟩
  unfold getItem
  try with_reducible refine wpAny_holding ?_
  first | refine wpAny_bind (wpAny_pure ?_) | skip
  refine wpAny_bind (wpAny_sequenceKey ht.typeIs (by decide) ?_)
  refine wpAny_bind (wpAny_callSpecial?_slot (name := Str.ofString "__getitem__") ht.typeIs PyProof.Rows.slot_tuple_getitem
    (wpAny_call_entry PyProof.Rows.slot_tuple_getitem ht.typeIs entry_tuple_getitem ?_ (args_tuple_getitem _ _)))
  show wpAny _ _ (Builtin.Tuple.tupleItemsOf (.ref t) >>= _) _ _ s
  refine wpAny_bind (tupleItemsOf_ ht ?_)
  refine wpAny_bind (wpAny_typeOf hTs ?_)
  rw [if_pos (by decide)]
  refine wpAny_bind (sliceApplied_gen hs pl pu ?_)
  have hno : ¬ ((((sIx items.size 0 lo : Nat) : Int) == 0 && (1 : Int) == 1 && (sIx items.size items.size hi - sIx items.size 0 lo) == items.size) = true) := by
    intro q
    rw [Bool.and_eq_true, Bool.and_eq_true] at q
    have q1 : ((sIx items.size 0 lo : Nat) : Int) = 0 := eq_of_beq q.1.1
    have q2 : sIx items.size items.size hi - sIx items.size 0 lo = items.size := eq_of_beq q.2
    exact hw ⟨by omega, by omega⟩
  show wpAny _ _ (if (((sIx items.size 0 lo : Nat) : Int) == 0 && (1 : Int) == 1 && (sIx items.size items.size hi - sIx items.size 0 lo) == items.size) = true then _ else _) _ _ s
  rw [if_neg hno, pick_gen]
  first
    | exact wpAny_bind (m := Builtin.Tuple.tupleExact _) (wpAny_newObj_type (wpAny_pure ⟨_, rfl, wpAny_pure h⟩) htake)
    | exact wpAny_bind (m := Builtin.Tuple.tupleExact _) (wpAny_newObj_type (wpAny_bind (wpAny_pure (wpAny_pure ⟨_, rfl, wpAny_pure h⟩))) htake)
    | exact wpAny_bind (wpAny_bind (m := Builtin.Tuple.tupleExact _) (wpAny_newObj_type (wpAny_pure (wpAny_pure ⟨_, rfl, wpAny_pure h⟩)) htake))
    | exact wpAny_bind (wpAny_bind (m := Builtin.Tuple.tupleExact _) (wpAny_newObj_type (wpAny_pure ⟨_, rfl, wpAny_pure h⟩) htake))
end
end HT

namespace L2
open PySem PySem.Spec PyProof.Rows

/-! ### the parts of a slice -/
abbrev TO := St → Hp → (Option Int → Hp → Prop) → Prop
/-- a slice's part (left out, or an int) -/
def PO (X : Cx) (e : Option Expr) (t : TO) : Prop :=
  ∀ (pins : List (Addr × Obj)) (s : Shared) (σ : St) (H : Hp) (Q : Option Int → Hp → Prop), Inv X pins σ H s → t σ H Q →
    wpAny (model X.prog X.w) X.A (evalPart e X.env) (fun u s' => ∃ o H', Inv X pins σ H' s' ∧ IsPart u o ∧ Q o H') X.xe s
def tNoPart : TO := fun _ H Q => Q none H
def tPart (t : TE) : TO := fun σ H Q => t σ H fun x H1 => ∃ i, x = .int i ∧ Q (some i) H1

theorem intsAre_of {ns : List Int} : ∀ {us : List Value}, Vals (ns.map V.int) us → IntsAre us ns := by
  induction ns with
  | nil => intro us r; rw [List.map_nil] at r; cases r; exact .nil
  | cons n ns ih =>
    intro us r
    rw [List.map_cons] at r
    cases r with
    | cons r1 r2 =>
      obtain ⟨t, e⟩ := r1
      subst e
      exact .cons n t (ih r2)

section
variable {X : Cx} {e : Expr} {te : TE} {lo hi : Option Expr} {tl th : TO} {pos p2 : Pos}

theorem po_none : PO X none tNoPart := by
  intro pins s σ H Q I h
  rw [evalPart_none]
  exact wpAny_pure ⟨none, H, I, .none, h⟩
theorem po_some (h : PE X e te) : PO X (some e) (tPart te) := by
  intro pins s σ H Q I hw
  rw [evalPart_some]
  refine thn (h pins s σ H _ I hw) fun u s1 ⟨x, H1, I1, r1, q1⟩ => ?_
  obtain ⟨i, rfl, q⟩ := q1
  obtain ⟨t, rfl⟩ := r1
  exact ⟨some i, H1, I1, .int i t, q⟩

/-- what a slice of a value is, by values: the slice object stands at sl -/
def SlR (X : Cx) (r : V → Option Int → Option Int → Hp → VK → Prop) : Prop :=
  ∀ (pins : List (Addr × Obj)) (s : Shared) (σ : St) (H : Hp) (x : V) (v vl vu : Value) (lo hi : Option Int) (sl : Addr) (Q : VK), Inv X pins σ H s → RelV x v → s.heap.IsSliceOf sl vl vu .none → IsPart vl lo → IsPart vu hi → r x lo hi H Q →
    ∃ T id, typeLookup (.type T) "__getitem__" = pure (some (.builtin id)) ∧ s.TypeIs v T ∧ wpAny (model X.prog X.w) X.A (getItem v (.ref sl)) (EP X pins σ Q) X.xe s
theorem SlR.or {r r' : V → Option Int → Option Int → Hp → VK → Prop} (h : SlR X r) (h' : SlR X r') : SlR X (fun x lo hi H Q => r x lo hi H Q ∨ r' x lo hi H Q) := by
  intro pins s σ H x v vl vu lo hi sl Q I rx hs pl pu q
  rcases q with q | q
  · exact h pins s σ H x v vl vu lo hi sl Q I rx hs pl pu q
  · exact h' pins s σ H x v vl vu lo hi sl Q I rx hs pl pu q
def tSl (r : V → Option Int → Option Int → Hp → VK → Prop) (te : TE) (tl th : TO) : TE := fun σ H Q => te σ H fun x H1 => tl σ H1 fun l H2 => th σ H2 fun u H3 => r x l u H3 Q
/-- a[lo:hi], any a -/
theorem pe_slice {r : V → Option Int → Option Int → Hp → VK → Prop} (hr : SlR X r) (he : PE X e te) (hl : PO X lo tl) (hu : PO X hi th) : PE X (.Subscript e (.Slice lo hi none p2) pos) (tSl r te tl th) := by
  intro pins s σ H Q I h
  refine Subscript_ (thn (he pins s σ H _ I h) fun v s1 ⟨x, H1, I1, r1, q1⟩ => ?_)
  refine wpAny_Slice (thn (hl pins s1 σ H1 _ I1 q1) fun vl s2 ⟨l, H2, I2, pl, q2⟩ => thn (hu pins s2 σ H2 _ I2 q2) fun vu s3 ⟨u, H3, I3, pu, q3⟩ => ?_)
  rw [evalPart_none]
  refine wpAny_pure ?_
  have I4 : Inv X pins σ H3 { s3 with heap := s3.heap.push { cls := .type "slice", data := .fields #[vl, vu, .none] } } := I3.kept (t' := s3.toks) fun b ob q => Heap.get?_push_of_some _ q
  obtain ⟨T, id, hT, ht, hg⟩ := hr pins { s3 with heap := s3.heap.push { cls := .type "slice", data := .fields #[vl, vu, .none] } } σ H3 x v vl vu l u s3.heap.objs.size Q I4 r1 (Heap.IsSliceOf.new ..) pl pu q3
  show wpAny (model X.prog X.w) X.A (subscriptTail e (.Slice lo hi none p2) v (.ref s3.heap.objs.size)) (EP X pins σ Q) X.xe { s3 with heap := s3.heap.push { cls := .type "slice", data := .fields #[vl, vu, .none] } }
  exact tail_any (ops := [.ref s3.heap.objs.size, v]) ht hT hg (by with_unfolding_all rfl)

/-- the items of xs[lo:hi] -/
def cutV (xs : List V) (lo hi : Option Int) : List V := (xs.drop (HT.sIx xs.length 0 lo)).take (HT.sIx xs.length xs.length hi - HT.sIx xs.length 0 lo)
theorem cutV_length (xs : List V) (lo hi : Option Int) : (cutV xs lo hi).length ≤ xs.length := by
  unfold cutV
  rw [List.length_take, List.length_drop]
  omega
/-- t[lo:hi], not the whole of it (the whole would be t itself) -/
def rSlT (K : PySem.W.Frag) : V → Option Int → Option Int → Hp → VK → Prop := fun x lo hi H Q => ∃ a xs, x = .ref a ∧ SqT K H a xs ∧
  ¬ (HT.sIx xs.length 0 lo = 0 ∧ HT.sIx xs.length xs.length hi = xs.length) ∧ ∀ p, H p = none → Q (.ref p) (upd H p (.tup (cutV xs lo hi)))
theorem sl_tup : SlR X (rSlT X.K) := by
  intro pins s σ H x v vl vu lo hi sl Q I rx hs pl pu h
  obtain ⟨a, xs, rfl, hx, hw, q⟩ := h
  cases rx
  obtain ⟨its, r, ht, hz⟩ := I.tuple hx
  have hlen : its.toArray.size = xs.length := by rw [List.size_toArray]; exact r.length.symm
  refine ⟨"tuple", _, PyProof.Rows.slot_tuple_getitem.lookup, ht.typeIs, ?_⟩
  refine HT.getItem_tuple_cut ht hs pl pu (by rw [hlen]; exact hw) ?_ (by rw [hlen]; exact hz)
  rw [hlen]
  refine ⟨.ref s.heap.objs.size, _, I.laid (t' := s.toks) (o := .tup (cutV xs lo hi)) (fun b ob q => Heap.get?_push_of_some _ q) (Nat.le_refl _) ?_, rfl, q _ (I.hok.fresh (Nat.le_refl _))⟩
  exact ⟨Nat.le_trans (cutV_length xs lo hi) hz, _, (r.drop (HT.sIx xs.length 0 lo)).take (HT.sIx xs.length xs.length hi - HT.sIx xs.length 0 lo), IsTup.new _ _⟩

/-! ### t < u, t + u -/
def rLtT (K : PySem.W.Frag) : R2 := fun x y H Q => ∃ a b ns ms, x = .ref a ∧ y = .ref b ∧ SqT K H a (ns.map V.int) ∧ SqT K H b (ms.map V.int) ∧ Q (.bl (HT.lexLt ns ms)) H
theorem op_ltT (hu : X.A.units < cLine) : OpR X (compareOp .Lt) (rLtT X.K) := by
  intro pins s σ H x y v u Q I rx ry h
  obtain ⟨a, b, ns, ms, rfl, rfl, ha, hb, q⟩ := h
  cases rx
  cases ry
  obtain ⟨its, r1, p1, _⟩ := I.tuple ha
  obtain ⟨its2, r2, p2, _⟩ := I.tuple hb
  have i1 : IntsAre its.toArray.toList ns := intsAre_of r1
  have i2 : IntsAre its2.toArray.toList ms := intsAre_of r2
  exact HT.lt_tupInts p1 p2 i1 i2 hu ⟨.bl (HT.lexLt ns ms), H, I, rfl, q⟩
/-- t + u, t not empty: u empty gives t itself -/
def rCatT (K : PySem.W.Frag) : R2 := fun x y H Q => ∃ a b xs ys, x = .ref a ∧ y = .ref b ∧ SqT K H a xs ∧ SqT K H b ys ∧ xs ≠ [] ∧ xs.length + ys.length ≤ sizeLine ∧
  (ys = [] → Q (.ref a) H) ∧ (ys ≠ [] → ∀ p, H p = none → Q (.ref p) (upd H p (.tup (xs ++ ys))))
theorem Vals.nil_iff {xs : List V} {us : List Value} (r : Vals xs us) : us = [] ↔ xs = [] := by
  cases r with
  | nil => simp
  | cons _ _ => simp
theorem op_catT : OpR X (binaryOp .Add) (rCatT X.K) := by
  intro pins s σ H x y v u Q I rx ry h
  obtain ⟨a, b, xs, ys, rfl, rfl, ha, hb, hx, hz, q1, q2⟩ := h
  cases rx
  cases ry
  obtain ⟨its, r1, p1, _⟩ := I.tuple ha
  obtain ⟨its2, r2, p2, _⟩ := I.tuple hb
  refine HT.cat_tup p1 p2 (fun z => hx (r1.nil_iff.mp z)) (fun z => ⟨.ref a, H, I, rfl, q1 (r2.nil_iff.mp z)⟩) (fun z => ?_) (by rw [← r1.length, ← r2.length]; exact hz)
  refine ⟨.ref s.heap.objs.size, _, I.laid (t' := s.toks) (o := .tup (xs ++ ys)) (fun b ob q => Heap.get?_push_of_some _ q) (Nat.le_refl _) ?_, rfl, q2 (fun w => z (r2.nil_iff.mpr w)) _ (I.hok.fresh (Nat.le_refl _))⟩
  exact ⟨by rw [List.length_append]; exact hz, _, r1.append r2, IsTup.new _ _⟩
/-- tuple(t) -/
theorem call_tupleT : CallR X (.type "tuple") (fun xs H Q => ∃ a ys, xs = [.ref a] ∧ SqT X.K H a ys ∧ Q (.ref a) H) := by
  intro pins s σ H xs us Q I r h
  obtain ⟨a, ys, rfl, ha, q⟩ := h
  obtain ⟨u, rfl, ru⟩ := vals1 r
  cases ru
  obtain ⟨its, _, p1, _⟩ := I.tuple ha
  exact call_tuple_same (items := its.toArray) p1 ⟨.ref a, H, I, rfl, q⟩
end
end L2

namespace L2
open PySem PySem.Spec PyProof.Rows

/-! ### places -/
/-- the place that an index of any sign means -/
def ixN (n : Nat) (i : Int) : Option Nat := if 0 ≤ i then (if i < n then some i.toNat else none) else if -(n : Int) ≤ i then some (i + n).toNat else none
def atI {α : Type} (xs : List α) (i : Int) : Option α := (ixN xs.length i).bind fun j => xs[j]?
theorem ixN_seq {n : Nat} {i : Int} {j : Nat} (h : ixN n i = some j) : seqIndex? i n = some j ∧ j < n ∧ -(n : Int) ≤ i ∧ i < n := by
  unfold ixN at h
  by_cases h0 : 0 ≤ i
  · rw [if_pos h0] at h
    by_cases h1 : i < n
    · rw [if_pos h1] at h
      have e : i.toNat = j := Option.some.inj h
      exact ⟨by rw [seqIndex_of h0 h1, e], by omega, by omega, h1⟩
    · rw [if_neg h1] at h; cases h
  · rw [if_neg h0] at h
    by_cases h1 : -(n : Int) ≤ i
    · rw [if_pos h1] at h
      have e : (i + n).toNat = j := Option.some.inj h
      exact ⟨by rw [seqIndex_neg (by omega) h1, e], by omega, h1, by omega⟩
    · rw [if_neg h1] at h; cases h
theorem atI_get {α : Type} {xs : List α} {i : Int} {v : α} (h : atI xs i = some v) : ∃ j, seqIndex? i xs.length = some j ∧ xs[j]? = some v ∧ j < xs.length ∧ -(xs.length : Int) ≤ i ∧ i < xs.length := by
  unfold atI at h
  cases e : ixN xs.length i with
  | none => rw [e] at h; cases h
  | some j =>
    rw [e] at h
    obtain ⟨h1, h2, h3, h4⟩ := ixN_seq e
    exact ⟨j, h1, h, h2, h3, h4⟩
theorem atI_nat {α : Type} {xs : List α} {j : Nat} {v : α} (h : xs[j]? = some v) : atI xs (j : Int) = some v := by
  have hj : j < xs.length := (List.getElem?_eq_some_iff.mp h).1
  have e : ixN xs.length (j : Int) = some j := by
    unfold ixN
    rw [if_pos (by omega), if_pos (by omega)]; simp
  unfold atI; rw [e]; exact h
theorem atI_last {α : Type} (xs : List α) (v : α) : atI (xs ++ [v]) (-1) = some v := by
  have hl : (xs ++ [v]).length = xs.length + 1 := by simp
  have e : ixN (xs ++ [v]).length (-1) = some xs.length := by
    unfold ixN
    rw [hl, if_neg (by decide), if_pos (by omega)]
    congr 1
    omega
  unfold atI
  rw [e]
  show (xs ++ [v])[xs.length]? = some v
  simp

/-! ### what may be subscripted -/
/-- what stands as an index of a plain subscript -/
def PlainIx (b : Expr) : Prop := ∀ o i, subscripted b false o i = operate [o, i] (getItem o i)
/-- a subscript by values -/
def IxR (X : Cx) (r : R2) : Prop :=
  ∀ (value slice : Expr) (pins : List (Addr × Obj)) (s : Shared) (σ : St) (H : Hp) (x y : V) (v u : Value) (Q : VK), Inv X pins σ H s → RelV x v → RelV y u → r x y H Q →
    subscripted slice false v u = operate [v, u] (getItem v u) → wpAny (model X.prog X.w) X.A (subscriptTail value slice v u) (EP X pins σ Q) X.xe s
/-- a call of a builtin's method by values: the receiver, the arguments -/
def MtR (X : Cx) (id : String) (r : V → List V → Hp → VK → Prop) : Prop :=
  ∀ (pins : List (Addr × Obj)) (s : Shared) (σ : St) (H : Hp) (x : V) (xs : List V) (v : Value) (us : List Value) (Q : VK), Inv X pins σ H s → RelV x v → Vals xs us → r x xs H Q →
    wpAny (model X.prog X.w) X.A (call (.builtin id) (v :: us)) (EP X pins σ Q) X.xe s
section
variable {X : Cx} {a b : Expr} {ta tb : TE} {pos : Pos}
theorem IxR.or {r r' : R2} (h : IxR X r) (h' : IxR X r') : IxR X (fun x y H Q => r x y H Q ∨ r' x y H Q) := by
  intro value slice pins s σ H x y v u Q I rx ry q hs
  rcases q with q | q
  · exact h value slice pins s σ H x y v u Q I rx ry q hs
  · exact h' value slice pins s σ H x y v u Q I rx ry q hs
theorem MtR.or {id : String} {r r' : V → List V → Hp → VK → Prop} (h : MtR X id r) (h' : MtR X id r') : MtR X id (fun x xs H Q => r x xs H Q ∨ r' x xs H Q) := by
  intro pins s σ H x xs v us Q I rx rs q
  rcases q with q | q
  · exact h pins s σ H x xs v us Q I rx rs q
  · exact h' pins s σ H x xs v us Q I rx rs q
/-- a[b] -/
theorem pe_ix {r : R2} (hr : IxR X r) (ha : PE X a ta) (hb : PE X b tb) (hs : PlainIx b) : PE X (.Subscript a b pos) (tOp r ta tb) := by
  intro pins s σ H Q I h
  exact Subscript_ (binT ha hb I h fun v u s2 x y H2 I2 rx ry q => hr a b pins s2 σ H2 x y v u Q I2 rx ry q (hs _ _))

def rIxL (K : PySem.W.Frag) : R2 := fun x y H Q => ∃ p xs i v, x = .ref p ∧ y = .int i ∧ SqL K H p xs ∧ atI xs i = some v ∧ Q v H
def rIxT (K : PySem.W.Frag) : R2 := fun x y H Q => ∃ p xs i v, x = .ref p ∧ y = .int i ∧ SqT K H p xs ∧ atI xs i = some v ∧ Q v H
def rIxS : R2 := fun x y H Q => ∃ z i c, x = .str z ∧ y = .int i ∧ z.length ≤ sizeLine ∧ atI z.cps.toList i = some c ∧ Q (.str ⟨#[c]⟩) H
theorem ix_list : IxR X (rIxL X.K) := by
  intro value slice pins s σ H x y v u Q I rx ry h hs
  obtain ⟨p, xs, i, z, rfl, rfl, hq, he, q⟩ := h
  cases rx
  obtain ⟨t, rfl⟩ := ry
  obtain ⟨its, r, pl, hz⟩ := I.list hq
  obtain ⟨j, h1, h2, h3, h4, h5⟩ := atI_get he
  obtain ⟨w, ew, rw'⟩ := r.get h2
  have hl := r.length
  have hn := line63
  have fin : EP X pins σ Q w s := ⟨z, H, I, rw', q⟩
  by_cases h0 : 0 ≤ i
  · have hj : i.toNat = j := by
      rw [seqIndex_of h0 h5] at h1
      exact Option.some.inj h1
    exact item_listR pl.isList h0 (by omega) (by rw [hj]; simpa using ew) fin hs
  · have hj : (i + (its.toArray.size : Int)).toNat = j := by
      rw [seqIndex_neg (by omega) h4] at h1
      rw [List.size_toArray, ← hl]
      exact Option.some.inj h1
    exact subscriptTail_builtinR (x := w) pl.isList.typeIs slot_list_getitem.lookup
      (wpAny_getItem_list_neg (Q := fun r s' => r = w ∧ EP X pins σ Q r s') pl.isList (by omega) (by rw [List.size_toArray] <;> omega) (by omega) (by rw [hj]; simpa using ew) ⟨rfl, fin⟩) hs
theorem ix_tup : IxR X (rIxT X.K) := by
  intro value slice pins s σ H x y v u Q I rx ry h hs
  obtain ⟨p, xs, i, z, rfl, rfl, hq, he, q⟩ := h
  cases rx
  obtain ⟨t, rfl⟩ := ry
  obtain ⟨its, r, pl, hz⟩ := I.tuple hq
  obtain ⟨j, h1, h2, h3, h4, h5⟩ := atI_get he
  obtain ⟨w, ew, rw'⟩ := r.get h2
  have hl := r.length
  have hn := line63
  have fin : EP X pins σ Q w s := ⟨z, H, I, rw', q⟩
  exact subscriptTail_builtinR (x := w) pl.typeIs slot_tuple_getitem.lookup
    (getItem_tuple (j := j) (Q := fun r s' => r = w ∧ EP X pins σ Q r s') pl (by omega) (by omega) (by rw [List.size_toArray, ← hl]; exact h1) (by simpa using ew) ⟨rfl, fin⟩) hs
theorem ix_str : IxR X rIxS := by
  intro value slice pins s σ H x y v u Q I rx ry h hs
  obtain ⟨z, i, c, rfl, rfl, hz, he, q⟩ := h
  obtain ⟨t, rfl⟩ := rx
  obtain ⟨t', rfl⟩ := ry
  obtain ⟨j, h1, h2, h3, h4, h5⟩ := atI_get he
  have hl : z.cps.toList.length = z.length := by simp [Str.length]
  rw [hl] at h1 h4 h5
  have hn := line63
  exact tail_any (typeIs_str s z t) slot_str_getitem.lookup (getItem_str (c := c) (by
    have e1 : decide (i < -(2 ^ 63 : Int)) = false := decide_eq_false (by omega)
    have e2 : decide (i ≥ 2 ^ 63) = false := decide_eq_false (by omega)
    rw [e1, e2, Bool.or_false]) (by rw [h1]; simpa using h2) ⟨.str ⟨#[c]⟩, H, I.tok _, ⟨_, rfl⟩, q⟩) hs
/-- list, tuple or str -/
def rIx (K : PySem.W.Frag) : R2 := fun x y H Q => rIxL K x y H Q ∨ rIxT K x y H Q ∨ rIxS x y H Q
theorem ix_seq : IxR X (rIx X.K) := ix_list.or (ix_tup.or ix_str)

/-! ### xs[i] = v, any sign -/
/-- the list's object behind a store -/
theorem mapSeq_set (its : List Value) (n j : Nat) (u : Value) : Obj.mapSeq (·.setIfInBounds j u) { cls := .type "list", data := .seq its.toArray n } = { cls := .type "list", data := .seq (its.set j u).toArray n } := by
  simp [Obj.mapSeq]
theorem Inv.lst {pins : List (Addr × Obj)} {σ : St} {H : Hp} {s : Shared} {p : Addr} {xs : List V} (I : Inv X pins σ H s) (h : H p = some (.lst xs)) :
    ∃ (its : List Value) (n : Nat), Vals xs its ∧ s.heap.get? p = some { cls := .type "list", data := .seq its.toArray n } ∧ xs.length ≤ sizeLine := by
  obtain ⟨z, its, n, r, e⟩ := I.hok p _ h
  exact ⟨its, n, r, e, z⟩
/-- the list at p is written by an update of its object -/
theorem Inv.lstUpd {pins : List (Addr × Obj)} {σ : St} {H : Hp} {s : Shared} {p : Addr} {xs ys : List V} {its its' : List Value} {n n' : Nat} {f : Obj → Obj} (I : Inv X pins σ H s) (h : H p = some (.lst xs))
    (ho : s.heap.get? p = some { cls := .type "list", data := .seq its.toArray n }) (hf : f { cls := .type "list", data := .seq its.toArray n } = { cls := .type "list", data := .seq its'.toArray n' }) (r : Vals ys its') (hz : ys.length ≤ sizeLine) (t : Nat) :
    Inv X pins σ (upd H p (.lst ys)) { s with heap := s.heap.update p f, toks := t } := by
  have e : (s.heap.update p f).get? p = some { cls := .type "list", data := .seq its'.toArray n' } := by
    rw [Heap.get?_update_self f ho (by rw [hf] <;> rfl), hf]
  refine I.write (x := p) (e := p) (by rw [h]; trivial) (.inl rfl) (fun b u hb q => (Heap.get?_update_other _ _ (Ne.symm hb)).trans q) ⟨_, e⟩ ?_
  exact ⟨hz, its', n', r, e⟩
def rSetL : V → V → V → Hp → (Hp → Prop) → Prop := fun o i v H Q => ∃ p xs k j, o = .ref p ∧ i = .int k ∧ H p = some (.lst xs) ∧ ixN xs.length k = some j ∧ Q (upd H p (.lst (xs.set j v)))
theorem set_list : PSet X rSetL := by
  intro pins s σ H o i v ov iv u Q I ro ri rv h
  obtain ⟨p, xs, k, j, rfl, rfl, hp, hj, q⟩ := h
  cases ro
  obtain ⟨t, rfl⟩ := ri
  obtain ⟨its, n, r, ho, hz⟩ := I.lst hp
  obtain ⟨h1, h2, h3, h4⟩ := ixN_seq hj
  have hl := r.length
  have hn := line63
  have I' : Inv X pins σ (upd H p (.lst (xs.set j v))) { s with heap := s.heap.update p (Obj.mapSeq (·.setIfInBounds j u)) } :=
    I.lstUpd hp ho (mapSeq_set its n j u) (r.set rv j) (by rw [List.length_set]; exact hz) s.toks
  by_cases h0 : 0 ≤ k
  · have hk : k.toNat = j := by
      rw [seqIndex_of h0 h4] at h1
      exact Option.some.inj h1
    exact PySem.W.ki_setAt ho h0 (by omega) (by rw [List.size_toArray, ← hl]; exact h4) (by rw [hk]; exact ⟨_, I', q⟩)
  · have hk : (k + (its.toArray.size : Int)).toNat = j := by
      rw [seqIndex_neg (by omega) h3] at h1
      rw [List.size_toArray, ← hl]
      exact Option.some.inj h1
    exact PySem.W.ki_setBack ho (by omega) (by rw [List.size_toArray, ← hl]; exact h3) (by omega) (by rw [hk]; exact ⟨_, I', q⟩)

/-! ### slices -/
theorem slice_bounds (lo hi : Option Int) (n : Nat) : (sliceBounds lo hi none n).1 = ((HT.sIx n 0 lo : Nat) : Int) ∧ (sliceBounds lo hi none n).2.1 = ((HT.sIx n n hi : Nat) : Int) ∧ (sliceBounds lo hi none n).2.2 = 1 := by
  refine ⟨?_, ?_, rfl⟩
  · cases lo with
    | none => simp [sliceBounds, HT.sIx]
    | some i =>
      simp only [sliceBounds, HT.sIx, Option.getD_none, show (1 : Int) > 0 by decide, if_true]
      by_cases h : i < 0
      · simp only [h, if_true] <;> omega
      · simp only [h, if_false] <;> omega
  · cases hi with
    | none => simp [sliceBounds, HT.sIx]
    | some i =>
      simp only [sliceBounds, HT.sIx, Option.getD_none, show (1 : Int) > 0 by decide, if_true]
      by_cases h : i < 0
      · simp only [h, if_true] <;> omega
      · simp only [h, if_false] <;> omega
theorem slicePick_cut (its : List Value) (lo hi : Option Int) : slicePick its.toArray lo hi none = ((its.drop (HT.sIx its.length 0 lo)).take (HT.sIx its.length its.length hi - HT.sIx its.length 0 lo)).toArray := by
  obtain ⟨h1, h2, h3⟩ := slice_bounds lo hi its.toArray.size
  unfold slicePick
  rw [h1, h2, h3]
  simp only [sliceRange_one, pick_run, List.size_toArray] <;> rfl
/-- xs[lo:hi] of a list: a new list -/
def rSlL (K : PySem.W.Frag) : V → Option Int → Option Int → Hp → VK → Prop := fun x lo hi H Q => ∃ a xs, x = .ref a ∧ SqL K H a xs ∧ ∀ p, H p = none → Q (.ref p) (upd H p (.lst (cutV xs lo hi)))
theorem sl_list : SlR X (rSlL X.K) := by
  intro pins s σ H x v vl vu lo hi sl Q I rx hs pl pu h
  obtain ⟨a, xs, rfl, hx, q⟩ := h
  cases rx
  obtain ⟨its, r, ht, hz⟩ := I.list hx
  have hlen := r.length
  refine ⟨"list", _, slot_list_getitem.lookup, ht.isList.typeIs, ?_⟩
  refine wpAny_getItem_list_slice ht.isList hs pl pu .none (by simp) ?_ (by rw [List.size_toArray] <;> omega)
  rw [slicePick_cut, ← hlen]
  refine ⟨.ref s.heap.objs.size, _, I.laid (t' := s.toks) (o := .lst (cutV xs lo hi)) (fun b ob q => Heap.get?_push_of_some _ q) (Nat.le_refl _) ?_, rfl, q _ (I.hok.fresh (Nat.le_refl _))⟩
  exact ⟨Nat.le_trans (cutV_length xs lo hi) hz, _, 0, (r.drop (HT.sIx xs.length 0 lo)).take (HT.sIx xs.length xs.length hi - HT.sIx xs.length 0 lo), Heap.get?_push_size _ rfl⟩

/-! ### in, not in: flat items -/
def flatV : V → Bool
  | .non => true
  | .bl _ => true
  | .int _ => true
  | .str _ => true
  | _ => false
/-- == of flat values -/
def eqV : V → V → Bool
  | .non, .non => true
  | .bl a, .bl b => a == b
  | .bl a, .int b => (if a then 1 else 0) == b
  | .int a, .bl b => a == (if b then 1 else 0)
  | .int a, .int b => a == b
  | .str a, .str b => a == b
  | _, _ => false
theorem eqAt_V {A : Around} {s : Shared} {y x : V} {u v : Value} (ry : RelV y u) (rx : RelV x v) (fy : flatV y = true) (fx : flatV x = true) : SeqAt.EqAt A s u v (eqV y x) := by
  cases y with
  | non =>
    cases ry
    cases x with
    | non => cases rx; exact SeqAt.EqAt.same _
    | bl b => cases rx; exact SeqAt.EqAt.none_bool b
    | int b => obtain ⟨t, rfl⟩ := rx; exact SeqAt.EqAt.none_int b t
    | str b => obtain ⟨t, rfl⟩ := rx; exact SeqAt.EqAt.none_str b t
    | _ => exact absurd (show false = true from fx) Bool.false_ne_true
  | bl a =>
    cases ry
    cases x with
    | non => cases rx; exact SeqAt.EqAt.bool_none a
    | bl b => cases rx; exact SeqAt.EqAt.bool_bool a b
    | int b => obtain ⟨t, rfl⟩ := rx; exact SeqAt.EqAt.bool_int a b t
    | str b => obtain ⟨t, rfl⟩ := rx; exact SeqAt.EqAt.bool_str a b t
    | _ => exact absurd (show false = true from fx) Bool.false_ne_true
  | int a =>
    obtain ⟨t', rfl⟩ := ry
    cases x with
    | non => cases rx; exact SeqAt.EqAt.int_none a t'
    | bl b => cases rx; exact SeqAt.EqAt.int_bool a t' b
    | int b => obtain ⟨t, rfl⟩ := rx; exact SeqAt.EqAt.int_int a t' b t
    | str b => obtain ⟨t, rfl⟩ := rx; exact SeqAt.EqAt.int_str a t' b t
    | _ => exact absurd (show false = true from fx) Bool.false_ne_true
  | str a =>
    obtain ⟨t', rfl⟩ := ry
    cases x with
    | non => cases rx; exact SeqAt.EqAt.str_none a t'
    | bl b => cases rx; exact SeqAt.EqAt.str_bool a t' b
    | int b => obtain ⟨t, rfl⟩ := rx; exact SeqAt.EqAt.str_int a t' b t
    | str b => obtain ⟨t, rfl⟩ := rx; exact SeqAt.EqAt.str_str a t' b t
    | _ => exact absurd (show false = true from fx) Bool.false_ne_true
  | _ => exact absurd (show false = true from fy) Bool.false_ne_true
/-- the items' answers, read off the values (a value's own answer does not lean on its token) -/
def eqU (x : V) (u : Value) : Bool := match u with
  | .none => eqV .non x
  | .bool b => eqV (.bl b) x
  | .int i _ => eqV (.int i) x
  | .str z _ => eqV (.str z) x
  | _ => false
theorem eqU_of {x y : V} {u : Value} (r : RelV y u) (f : flatV y = true) : eqU x u = eqV y x := by
  cases y with
  | non => cases r; rfl
  | bl b => cases r; rfl
  | int i => obtain ⟨t, rfl⟩ := r; rfl
  | str z => obtain ⟨t, rfl⟩ := r; rfl
  | _ => exact absurd (show false = true from f) Bool.false_ne_true
theorem any_eqU {x : V} : ∀ {xs : List V} {us : List Value}, Vals xs us → xs.all flatV = true → us.any (eqU x) = xs.any fun y => eqV y x
  | _, _, .nil, _ => rfl
  | y :: xs, u :: us, .cons r t, f => by
    rw [List.all_cons, Bool.and_eq_true] at f
    rw [List.any_cons, List.any_cons, eqU_of r f.1, any_eqU t f.2]
theorem mem_eqAt {A : Around} {s : Shared} {x : V} {v : Value} (rx : RelV x v) (fx : flatV x = true) : ∀ {xs : List V} {us : List Value}, Vals xs us → xs.all flatV = true → ∀ u ∈ us, SeqAt.EqAt A s u v (eqU x u)
  | _, _, .nil, _ => fun u hu => by cases hu
  | y :: xs, u :: us, .cons r t, f => fun u' hu => by
    rw [List.all_cons, Bool.and_eq_true] at f
    rcases List.mem_cons.mp hu with rfl | hu
    · rw [eqU_of r f.1]; exact eqAt_V r rx f.1 fx
    · exact mem_eqAt rx fx t f.2 u' hu
def inV (x : V) (xs : List V) : Bool := xs.any fun y => eqV y x
/-- x in a list or tuple of flat items -/
def rIn (K : PySem.W.Frag) (neg : Bool) : R2 := fun x y H Q => ∃ p xs, y = .ref p ∧ (SqL K H p xs ∨ SqT K H p xs) ∧ flatV x = true ∧ xs.all flatV = true ∧ Q (.bl (if neg then !inV x xs else inV x xs)) H
theorem op_in_seq : OpR X (compareOp .In) (rIn X.K false) := by
  intro pins s σ H x y v u Q I rx ry h
  obtain ⟨p, xs, rfl, hq, fx, fs, q⟩ := h
  cases ry
  rcases hq with hq | hq
  · obtain ⟨its, r, pl, hz⟩ := I.list hq
    refine SeqAt.in_listAt (eqU x) pl.isList (fun w hw => mem_eqAt rx fx r fs w (by simpa using hw)) ⟨.bl _, H, I, rfl, ?_⟩
    rw [show its.toArray.any (eqU x) = its.any (eqU x) by simp, any_eqU r fs]
    exact q
  · obtain ⟨its, r, pl, hz⟩ := I.tuple hq
    refine SeqAt.in_tupleAt (eqU x) pl (fun w hw => mem_eqAt rx fx r fs w (by simpa using hw)) ⟨.bl _, H, I, rfl, ?_⟩
    rw [show its.toArray.any (eqU x) = its.any (eqU x) by simp, any_eqU r fs]
    exact q
theorem op_notIn_seq : OpR X (compareOp .NotIn) (rIn X.K true) := by
  intro pins s σ H x y v u Q I rx ry h
  obtain ⟨p, xs, rfl, hq, fx, fs, q⟩ := h
  cases ry
  rcases hq with hq | hq
  · obtain ⟨its, r, pl, hz⟩ := I.list hq
    refine SeqAt.notIn_listAt (eqU x) pl.isList (fun w hw => mem_eqAt rx fx r fs w (by simpa using hw)) ⟨.bl _, H, I, rfl, ?_⟩
    rw [show its.toArray.any (eqU x) = its.any (eqU x) by simp, any_eqU r fs]
    exact q
  · obtain ⟨its, r, pl, hz⟩ := I.tuple hq
    refine SeqAt.notIn_tupleAt (eqU x) pl (fun w hw => mem_eqAt rx fx r fs w (by simpa using hw)) ⟨.bl _, H, I, rfl, ?_⟩
    rw [show its.toArray.any (eqU x) = its.any (eqU x) by simp, any_eqU r fs]
    exact q
theorem op_notIn_str : OpR X (compareOp .NotIn) (fun x y H Q => ∃ i j, x = .str i ∧ y = .str j ∧ Q (.bl (!(!(Builtin.Str.occurrences j i 0 j.length 1).isEmpty))) H) := by
  intro pins s σ H x y v u Q I rx ry h
  obtain ⟨i, j, rfl, rfl, q⟩ := h
  obtain ⟨t, rfl⟩ := rx
  obtain ⟨t', rfl⟩ := ry
  exact notIn_str ⟨.bl _, H, I, rfl, q⟩

/-! ### len, list(x), tuple(x) of any list or tuple that is read -/
theorem call_len_seq : CallR X (.builtin "len") (fun xs H Q => ∃ p ys, xs = [.ref p] ∧ (SqL X.K H p ys ∨ SqT X.K H p ys) ∧ Q (.int ys.length) H) := by
  intro pins s σ H xs us Q I r h
  obtain ⟨p, ys, rfl, hq, q⟩ := h
  obtain ⟨u, rfl, rx⟩ := vals1 r
  cases rx
  have hn := line63
  rcases hq with hq | hq
  · obtain ⟨its, r', pl, hz⟩ := I.list hq
    have hlen := r'.length
    exact Calls.call_len_list pl.isList (by simp only [List.size_toArray] <;> omega) ⟨.int ys.length, H, I.tok _, ⟨s.toks + 1, by rw [List.size_toArray, hlen]⟩, q⟩
  · obtain ⟨its, r', pl, hz⟩ := I.tuple hq
    have hlen := r'.length
    exact len_tuple pl (by simp only [List.size_toArray] <;> omega) ⟨.int ys.length, H, I.tok _, ⟨s.toks + 1, by rw [List.size_toArray, hlen]⟩, q⟩
theorem call_len_str : CallR X (.builtin "len") (fun xs H Q => ∃ z, xs = [.str z] ∧ z.length ≤ sizeLine ∧ Q (.int z.length) H) := by
  intro pins s σ H xs us Q I r h
  obtain ⟨z, rfl, hz, q⟩ := h
  obtain ⟨u, rfl, t, rfl⟩ := vals1 r
  have hn := line63
  exact len_str (by omega) ⟨.int z.length, H, I.tok _, ⟨_, rfl⟩, q⟩
theorem CallR.or {f : Value} {r r' : List V → Hp → VK → Prop} (h : CallR X f r) (h' : CallR X f r') : CallR X f (fun xs H Q => r xs H Q ∨ r' xs H Q) := by
  intro pins s σ H xs us Q I rs q
  rcases q with q | q
  · exact h pins s σ H xs us Q I rs q
  · exact h' pins s σ H xs us Q I rs q
theorem call_list_of : CallR X (.type "list") (fun xs H Q => ∃ p ys, xs = [.ref p] ∧ (SqL X.K H p ys ∨ SqT X.K H p ys) ∧ ∀ l, H l = none → Q (.ref l) (upd H l (.lst ys))) := by
  intro pins s σ H xs us Q I r h
  obtain ⟨p, ys, rfl, hq, q⟩ := h
  obtain ⟨u, rfl, rx⟩ := vals1 r
  cases rx
  have fin : ∀ (its : List Value), Vals ys its → ys.length ≤ sizeLine → ∀ (h' : Heap) (c' : Nat), (∀ b o', s.heap.get? b = some o' → h'.get? b = some o') →
      h'.get? s.heap.objs.size = some { cls := .type "list", dict := none, data := .seq its.toArray c', slots := #[] } → EP X pins σ Q (.ref s.heap.objs.size) { s with heap := h' } := fun its r' hz h' c' kp e =>
    ⟨.ref s.heap.objs.size, _, I.laid (t' := s.toks) kp (Nat.le_refl _) (show ObjOk X.prog X.w _ h' _ (.lst ys) from ⟨hz, its, c', r', e⟩), rfl, q _ (I.hok.fresh (Nat.le_refl _))⟩
  rcases hq with hq | hq
  · obtain ⟨its, r', pl, hz⟩ := I.list hq
    have hlen := r'.length
    obtain ⟨o, ho, hc, n, hd⟩ := pl.isList
    exact call_list_seq p (.inl rfl) ho hc hd (fun h' c' kp e => fin its r' hz h' c' kp e) (by simp only [List.size_toArray] <;> omega)
  · obtain ⟨its, r', pl, hz⟩ := I.tuple hq
    have hlen := r'.length
    obtain ⟨o, ho, hc, n, hd⟩ := pl
    exact call_list_seq p (.inr rfl) ho hc hd (fun h' c' kp e => fin its r' hz h' c' kp e) (by simp only [List.size_toArray] <;> omega)
theorem call_tuple_of : CallR X (.type "tuple") (fun xs H Q => ∃ p ys, xs = [.ref p] ∧ ((SqL X.K H p ys ∧ ∀ l, H l = none → Q (.ref l) (upd H l (.tup ys))) ∨ (SqT X.K H p ys ∧ Q (.ref p) H))) := by
  intro pins s σ H xs us Q I r h
  obtain ⟨p, ys, rfl, h⟩ := h
  obtain ⟨u, rfl, rx⟩ := vals1 r
  cases rx
  rcases h with ⟨hq, q⟩ | ⟨hq, q⟩
  · obtain ⟨its, r', pl, hz⟩ := I.list hq
    have hlen := r'.length
    refine call_tuple_list pl.isList (fun h' kp => ?_) (by simp only [List.size_toArray] <;> omega)
    have I1 : Inv X pins σ H { s with heap := h' } := I.kept (t' := s.toks) kp
    have I2 : Inv X pins σ (upd H h'.objs.size (.tup ys)) { s with heap := h'.push { cls := .type "tuple", data := .seq its.toArray } } :=
      I1.laid (t' := s.toks) (fun b o e => Heap.get?_push_of_some _ e) (Nat.le_refl _) (show ObjOk X.prog X.w _ _ _ (.tup ys) from ⟨hz, its, r', IsTup.new _ _⟩)
    exact ⟨.ref h'.objs.size, _, I2, rfl, q _ (I1.hok.fresh (Nat.le_refl _))⟩
  · obtain ⟨its, r', pl, hz⟩ := I.tuple hq
    exact call_tuple_same pl ⟨.ref p, H, I, rfl, q⟩

/-! ### the call of a builtin's method: o.m(..) -/
/-- the value is of that builtin type -/
def tyV (K : PySem.W.Frag) (T : String) (x : V) (H : Hp) : Prop := match x with
  | .str _ => T = "str"
  | .int _ => T = "int"
  | .ref p => (T = "list" ∧ ∃ xs, SqL K H p xs) ∨ (T = "tuple" ∧ ∃ o, K.lookup p = some o ∧ o.cls = .type "tuple" ∧ o.dict = none) ∨
      (T = "dict" ∧ ((∃ kvs, H p = some (.dK kvs)) ∨ ∃ kvs, H p = some (.dT kvs))) ∨ (T = "set" ∧ ∃ S n, H p = some (.set S n))
  | _ => False
theorem tyV_is {pins : List (Addr × Obj)} {σ : St} {H : Hp} {s : Shared} {T : String} {x : V} {v : Value} (I : Inv X pins σ H s) (r : RelV x v) (ty : tyV X.K T x H) :
    s.TypeIs v T ∧ ∀ a, v = .ref a → ∃ ob, s.heap.get? a = some ob ∧ ob.dict = none := by
  cases x with
  | str z =>
    obtain ⟨t, rfl⟩ := r
    cases (show T = "str" from ty)
    exact ⟨typeIs_str s z t, fun _ e => nomatch e⟩
  | int i =>
    obtain ⟨t, rfl⟩ := r
    cases (show T = "int" from ty)
    exact ⟨typeIs_int s i t, fun _ e => nomatch e⟩
  | ref p =>
    cases r
    rcases ty with ⟨rfl, xs, hq⟩ | ⟨rfl, o, hk, hc, hd⟩ | ⟨rfl, hk⟩ | ⟨rfl, S, n, hk⟩
    · obtain ⟨its, _, pl, _⟩ := I.list hq
      refine ⟨pl.isList.typeIs, fun a e => ?_⟩
      cases e
      obtain ⟨o, n, e, c, hd, _⟩ := pl
      exact ⟨o, e, hd⟩
    · refine ⟨⟨o, I.kIn p o hk, hc⟩, fun a e => ?_⟩
      cases e
      exact ⟨o, I.kIn _ o hk, hd⟩
    · have z : ∃ o, s.heap.get? p = some o ∧ o.ExactDict := by
        rcases hk with ⟨kvs, hk⟩ | ⟨kvs, hk⟩
        · obtain ⟨_, _, _, _, o, _, _, e, ex, _⟩ := I.hok p _ hk
          exact ⟨o, e, ex⟩
        · obtain ⟨_, _, _, _, o, _, _, e, ex, _⟩ := I.hok p _ hk
          exact ⟨o, e, ex⟩
      obtain ⟨o, e, ex⟩ := z
      refine ⟨⟨o, e, ex.1⟩, fun a e2 => ?_⟩
      cases e2
      exact ⟨o, e, ex.2.1⟩
    · obtain ⟨o, _, _, _, e, ex, _⟩ := I.hok p _ hk
      refine ⟨⟨o, e, ex.1⟩, fun a e2 => ?_⟩
      cases e2
      exact ⟨o, e, ex.2.1⟩
  | _ => exact False.elim ty
def tBM0 (K : PySem.W.Frag) (T : String) (r : V → List V → Hp → VK → Prop) (to : TE) : TE := fun σ H Q => to σ H fun x H1 => tyV K T x H1 ∧ r x [] H1 Q
def tBM (K : PySem.W.Frag) (T : String) (r : V → List V → Hp → VK → Prop) (to : TE) (t : TA) : TE := fun σ H Q => to σ H fun x H1 => tyV K T x H1 ∧ t σ H1 fun xs H2 => r x xs H2 Q
variable {o e : Expr} {es : List Expr} {to : TE} {t : TA} {name : Str} {apos cpos : Pos} {T id : String} {r : V → List V → Hp → VK → Prop}
theorem pe_bm0 (pa : PlainAttrs T) (slot : Slot T name id) (hty : typeOf (.builtin id) = pure (.type "method_descriptor")) (hm : MtR X id r) (ho : PE X o to)
    (hbase : attributeBase o name X.env (eval o X.env) = eval o X.env := by rfl) (hline : (apos.endLine == cpos.line) = true := by rfl) : PE X (.Call (.Attribute o name apos) [] [] cpos) (tBM0 X.K T r to) := by
  intro pins s σ H Q I h
  refine wpAny_Call_method0_late hbase hline (thn (ho pins s σ H _ I h) fun v s1 ⟨x, H1, I1, r1, ty, q1⟩ => ?_)
  obtain ⟨h1, h2⟩ := tyV_is I1 r1 ty
  exact ⟨T, id, pa, slot, hty, h1, h2, Calls.callWith_builtin rfl (PySem.evalArgs_none (hm pins s1 σ H1 x [] v [] Q I1 r1 .nil q1))⟩
theorem pe_bm (pa : PlainAttrs T) (slot : Slot T name id) (hty : typeOf (.builtin id) = pure (.type "method_descriptor")) (hm : MtR X id r) (ho : PE X o to) (ha : PA X (e :: es) t)
    (hbase : attributeBase o name X.env (eval o X.env) = eval o X.env := by rfl)
    (hfew : ((backTo cpos (starEach (e :: es) X.env)).all (fun x => !x.1) && (backToKw cpos (keywordEach [] X.env)).all (fun x => x.1.isSome)
      && decide ((e :: es).length + ([] : List Keyword).length + (if ([] : List Keyword).isEmpty then 0 else 1) < 30)) = true := by rfl)
    (hline : (apos.endLine == cpos.line) = true := by rfl) (hs : starEach (e :: es) X.env = (false, eval e X.env) :: starEach es X.env := by rfl) (hplain : (backTo cpos (starEach es X.env)).any (·.1) = false := by rfl) :
    PE X (.Call (.Attribute o name apos) (e :: es) [] cpos) (tBM X.K T r to t) := by
  intro pins s σ H Q I h
  refine wpAny_Call_method_late hbase hfew hline rfl (thn (ho pins s σ H _ I h) fun v s1 ⟨x, H1, I1, r1, ty, q1⟩ => ?_)
  obtain ⟨h1, h2⟩ := tyV_is I1 r1 ty
  refine ⟨T, id, pa, slot, hty, h1, h2, ?_⟩
  have hA := ha cpos pins s1 σ H1 _ I1 q1
  rw [hs] at hA ⊢
  refine Calls.callWith_builtin (by show (false || (backTo cpos (starEach es X.env)).any (·.1)) = false; rw [hplain] <;> rfl) (Calls.evalArgs_plain ?_)
  exact thn hA fun us s2 ⟨vs, H2, I2, r2, q2⟩ => hm pins s2 σ H2 x vs v us Q I2 r1 r2 q2
/- xs.append(e), list.index on a module's tuple .. are MtR facts of 06m -/
end
end L2

namespace L2
open PySem PySem.Spec PyProof.Rows

def MtM (X : Cx) (id : String) (r : V → List V → Hp → VK → Prop) : Prop :=
  ∀ (pins : List (Addr × Obj)) (s : Shared) (σ : St) (H : Hp) (x : V) (xs : List V) (v : Value) (us : List Value) (Q : VK), Inv X pins σ H s → RelV x v → Vals xs us → r x xs H Q →
    wpAny (model X.prog X.w) X.A (call (.builtin id) (v :: us)) (EP X pins σ Q) X.xe s

/-! ### lists of values -/
theorem Vals.one : ∀ {x : V} {us : List Value}, Vals [x] us → ∃ u, us = [u] ∧ RelV x u
  | _, _, .cons r .nil => ⟨_, rfl, r⟩
theorem Vals.two : ∀ {x y : V} {us : List Value}, Vals [x, y] us → ∃ u v, us = [u, v] ∧ RelV x u ∧ RelV y v
  | _, _, _, .cons r (.cons q .nil) => ⟨_, _, rfl, r, q⟩
theorem Vals.zero : ∀ {us : List Value}, Vals [] us → us = []
  | _, .nil => rfl
theorem Vals.dropLast {xs : List V} {us : List Value} (h : Vals xs us) : Vals xs.dropLast us.dropLast := by
  induction h with
  | nil => exact .nil
  | cons r t ih =>
    cases t with
    | nil => exact .nil
    | cons q t' => exact .cons r ih
theorem Vals.eraseIdx : ∀ {xs : List V} {us : List Value} (i : Nat), Vals xs us → Vals (xs.eraseIdx i) (us.eraseIdx i)
  | _, _, _, .nil => .nil
  | _, _, 0, .cons _ t => t
  | _, _, i + 1, .cons r t => .cons r (Vals.eraseIdx i t)
theorem Vals.reverse {xs : List V} {us : List Value} (h : Vals xs us) : Vals xs.reverse us.reverse := by
  induction h with
  | nil => exact .nil
  | cons r t ih => rw [List.reverse_cons, List.reverse_cons]; exact Vals.append ih (.cons r .nil)
theorem Vals.rep {xs : List V} {us : List Value} (h : Vals xs us) : ∀ k : Nat, Vals (List.replicate k xs).flatten (List.replicate k us).flatten
  | 0 => .nil
  | k + 1 => by
    rw [List.replicate_succ, List.replicate_succ, List.flatten_cons, List.flatten_cons]
    exact Vals.append h (Vals.rep h k)
theorem erase_last {α : Type} (l : List α) : l.eraseIdx (l.length - 1) = l.dropLast := by
  induction l with
  | nil => rfl
  | cons a r ih =>
    cases r with
    | nil => rfl
    | cons b r =>
      have e : (a :: b :: r).length - 1 = ((b :: r).length - 1) + 1 := by
        have h1 : (a :: b :: r).length = r.length + 2 := rfl
        have h2 : (b :: r).length = r.length + 1 := rfl
        omega
      rw [e, List.eraseIdx_cons_succ, ih]
      all_goals rfl
theorem len_erase {α : Type} : ∀ (l : List α) (i : Nat), (l.eraseIdx i).length ≤ l.length
  | [], _ => Nat.le_refl _
  | _ :: _, 0 => Nat.le_succ _
  | _ :: r, i + 1 => Nat.succ_le_succ (len_erase r i)
theorem foldl_rep (its : List Value) : ∀ (k : Nat) (acc : List Value),
    List.foldl (fun x1 x2 => x1 ++ x2) acc.toArray (List.replicate k its.toArray) = (acc ++ (List.replicate k its).flatten).toArray
  | 0, acc => by simp
  | k + 1, acc => by
    have e : acc.toArray ++ its.toArray = (acc ++ its).toArray := by simp
    have e2 : (acc ++ its) ++ (List.replicate k its).flatten = acc ++ (List.replicate (k + 1) its).flatten := by
      rw [List.replicate_succ, List.flatten_cons, List.append_assoc]
    rw [← e2, ← foldl_rep its k (acc ++ its), ← e, List.replicate_succ, List.foldl_cons]

section
variable {X : Cx} {pins : List (Addr × Obj)} {σ : St} {H : Hp} {s : Shared} {l b : Addr} {xs ys zs : List V}

/-! ### the two steps: a tracked list is rewritten, a new list is laid -/
theorem Inv.lset {its its' : List Value} {n : Nat} {f : Array Value → Array Value} {t' : Nat} (I : Inv X pins σ H s) (hH : H l = some (.lst xs))
    (e : s.heap.get? l = some { cls := .type "list", data := .seq its.toArray n }) (hf : f its.toArray = its'.toArray) (hv : Vals ys its') (hz : ys.length ≤ sizeLine) :
    Inv X pins σ (upd H l (.lst ys)) { s with heap := s.heap.update l (Obj.mapSeq f), toks := t' } := by
  have q := PySem.IsL.update e f
  rw [hf] at q
  refine I.write (x := l) (e := l) (by rw [hH]; exact trivial) (.inl rfl) (fun b' u hb hu => (Heap.get?_update_other s.heap (Obj.mapSeq f) (Ne.symm hb)).trans hu) ⟨_, q⟩ ?_
  exact ⟨hz, its', _, hv, q⟩
theorem Inv.lnew {its : List Value} {t' : Nat} (I : Inv X pins σ H s) (hv : Vals ys its) (hz : ys.length ≤ sizeLine) :
    Inv X pins σ (upd H s.heap.objs.size (.lst ys)) { s with heap := s.heap.push { cls := .type "list", data := .seq its.toArray }, toks := t' } :=
  I.laid (fun _ _ q => Heap.get?_push_of_some _ q) (Nat.le_refl _) ⟨hz, its, 0, hv, Heap.get?_push_size _ rfl⟩
theorem Inv.fresh (I : Inv X pins σ H s) : H s.heap.objs.size = none := I.hok.fresh (Nat.le_refl _)
theorem Inv.lstM (I : Inv X pins σ H s) (hH : H l = some (.lst xs)) : xs.length ≤ sizeLine ∧ ∃ (its : List Value) (n : Nat), Vals xs its ∧ xs.length = its.length ∧ s.heap.get? l = some { cls := .type "list", data := .seq its.toArray n } := by
  obtain ⟨z, its, n, r, e⟩ := I.hok l _ hH
  exact ⟨z, its, n, r, r.length, e⟩

theorem notLongL {n : Nat} (h : n ≤ sizeLine) : Builtin.List.listTooLong n = false := by
  unfold Builtin.List.listTooLong
  exact decide_eq_false (by omega)
end

section
variable {X : Cx}

/-! ### methods -/
def rAppend : V → List V → Hp → VK → Prop := fun x vs H Q => ∃ l xs y, x = .ref l ∧ vs = [y] ∧ H l = some (.lst xs) ∧ xs.length < sizeLine ∧ Q .non (upd H l (.lst (xs ++ [y])))
theorem mt_append : MtM X "list.append" rAppend := by
  intro pins s σ H x vs v us Q I rx rv h
  obtain ⟨l, xs, y, rfl, rfl, hH, hz, q⟩ := h
  cases rx
  obtain ⟨u, rfl, ru⟩ := rv.one
  obtain ⟨z, its, n, r, hl, e⟩ := I.lstM hH
  refine call_meets F.slot_list_append ⟨_, e, rfl⟩ F.entry_list_append (F.args_list_append_2 _ _) (PySem.list_append l its.toArray n u (by rw [List.size_toArray]; omega)) ⟨e, ?_⟩
  refine ⟨.non, _, I.lset (its' := its ++ [u]) hH e (by simp) (r.append (.cons ru .nil)) ?_, rfl, q⟩
  rw [List.length_append, List.length_singleton]
  omega

def rExtend : V → List V → Hp → VK → Prop := fun x vs H Q => ∃ l b xs zs, x = .ref l ∧ vs = [.ref b] ∧ H l = some (.lst xs) ∧ H b = some (.lst zs) ∧ xs.length + zs.length ≤ sizeLine ∧ Q .non (upd H l (.lst (xs ++ zs)))
theorem mt_extend : MtM X "list.extend" rExtend := by
  intro pins s σ H x vs v us Q I rx rv h
  obtain ⟨l, b, xs, zs, rfl, rfl, hH, hB, hz, q⟩ := h
  cases rx
  obtain ⟨u, rfl, ru⟩ := rv.one
  cases ru
  obtain ⟨z, its, n, r, hl, e⟩ := I.lstM hH
  obtain ⟨z2, its2, n2, r2, hl2, e2⟩ := I.lstM hB
  have hsz : its.toArray.size + its2.toArray.size ≤ sizeLine := by rw [List.size_toArray, List.size_toArray]; omega
  have hlong : ¬ (!its.toArray.isEmpty && Builtin.List.listTooLong (its.toArray.size + its2.toArray.size)) = true := by
    rw [notLongL hsz, Bool.and_false]
    exact Bool.false_ne_true
  refine call_meets F.slot_list_extend ⟨_, e, rfl⟩ F.entry_list_extend (F.args_list_extend_2 _ _)
    (AutoSeq1.list_extend_list_list_0 l its.toArray n b its2.toArray n2 hlong (by rw [List.size_toArray]; omega) (by omega)) ⟨e, e2, ?_⟩
  refine ⟨.non, _, I.lset (its' := its ++ its2) hH e (by simp) (r.append r2) ?_, rfl, q⟩
  rw [List.length_append]
  omega

def rPop : V → List V → Hp → VK → Prop := fun x vs H Q => ∃ l xs y, x = .ref l ∧ vs = [] ∧ H l = some (.lst xs) ∧ xs[xs.length - 1]? = some y ∧ Q y (upd H l (.lst xs.dropLast))
theorem mt_pop : MtM X "list.pop" rPop := by
  intro pins s σ H x vs v us Q I rx rv h
  obtain ⟨l, xs, y, rfl, rfl, hH, hy, q⟩ := h
  cases rx
  have hus := rv.zero
  subst hus
  obtain ⟨z, its, n, r, hl, e⟩ := I.lstM hH
  obtain ⟨u, hu, ru⟩ := r.get hy
  have hy' : its.toArray[its.toArray.size - 1]? = some u := by
    show its.toArray[its.length - 1]? = some u
    rw [← Array.getElem?_toList, ← hl]
    exact hu
  refine call_meets F.slot_list_pop ⟨_, e, rfl⟩ F.entry_list_pop (F.args_list_pop_1 _) (MeetsSeq.list_pop_last l its.toArray n u hy' (by rw [List.size_toArray]; omega)) ⟨e, ?_⟩
  refine ⟨y, _, I.lset (its' := its.dropLast) hH e ?_ r.dropLast ?_, ru, q⟩
  · show its.toArray.eraseIdxIfInBounds (its.toArray.size - 1) = its.dropLast.toArray
    rw [List.size_toArray, List.eraseIdxIfInBounds_toArray, erase_last]
  · rw [List.length_dropLast]
    omega

def rPopAt : V → List V → Hp → VK → Prop := fun x vs H Q => ∃ l xs i k y, x = .ref l ∧ vs = [.int i] ∧ H l = some (.lst xs) ∧ -(2 ^ 63) ≤ i ∧ i < 2 ^ 63 ∧ seqIndex? i xs.length = some k ∧ xs[k]? = some y ∧ Q y (upd H l (.lst (xs.eraseIdx k)))
theorem mt_popAt : MtM X "list.pop" rPopAt := by
  intro pins s σ H x vs v us Q I rx rv h
  obtain ⟨l, xs, i, k, y, rfl, rfl, hH, h1, h2, hk, hy, q⟩ := h
  cases rx
  obtain ⟨u, rfl, ru⟩ := rv.one
  obtain ⟨t, rfl⟩ := ru
  obtain ⟨z, its, n, r, hl, e⟩ := I.lstM hH
  obtain ⟨w, hw, rw'⟩ := r.get hy
  refine call_meets F.slot_list_pop ⟨_, e, rfl⟩ F.entry_list_pop (F.args_list_pop_2 _ _)
    (MeetsSeq.list_pop_at l its.toArray n i t k w (fitsIndex_both h1 h2) (by rw [List.size_toArray, ← hl]; exact hk) (by rw [← Array.getElem?_toList]; exact hw) (by rw [List.size_toArray]; omega)) ⟨e, ?_⟩
  refine ⟨y, _, I.lset (its' := its.eraseIdx k) hH e ?_ (r.eraseIdx k) ?_, rw', q⟩
  · show its.toArray.eraseIdxIfInBounds k = (its.eraseIdx k).toArray
    rw [List.eraseIdxIfInBounds_toArray]
  · have := len_erase xs k
    omega

def rReverse : V → List V → Hp → VK → Prop := fun x vs H Q => ∃ l xs, x = .ref l ∧ vs = [] ∧ H l = some (.lst xs) ∧ Q .non (upd H l (.lst xs.reverse))
theorem mt_reverse : MtM X "list.reverse" rReverse := by
  intro pins s σ H x vs v us Q I rx rv h
  obtain ⟨l, xs, rfl, rfl, hH, q⟩ := h
  cases rx
  have hus := rv.zero
  subst hus
  obtain ⟨z, its, n, r, hl, e⟩ := I.lstM hH
  refine call_meets F.slot_list_reverse ⟨_, e, rfl⟩ F.entry_list_reverse (F.args_list_reverse_1 _) (AutoSeq1.list_reverse_list_0 l its.toArray n (by rw [List.size_toArray]; omega)) ⟨e, ?_⟩
  refine ⟨.non, _, I.lset (its' := its.reverse) hH e (by simp) r.reverse ?_, rfl, q⟩
  rw [List.length_reverse]
  omega

def rClear : V → List V → Hp → VK → Prop := fun x vs H Q => ∃ l xs, x = .ref l ∧ vs = [] ∧ H l = some (.lst xs) ∧ Q .non (upd H l (.lst []))
theorem mt_clear : MtM X "list.clear" rClear := by
  intro pins s σ H x vs v us Q I rx rv h
  obtain ⟨l, xs, rfl, rfl, hH, q⟩ := h
  cases rx
  have hus := rv.zero
  subst hus
  obtain ⟨z, its, n, r, hl, e⟩ := I.lstM hH
  refine call_meets F.slot_list_clear ⟨_, e, rfl⟩ F.entry_list_clear (F.args_list_clear_1 _) (AutoSeq1.list_clear_list_0 l its.toArray n (by rw [List.size_toArray]; omega)) ⟨e, ?_⟩
  exact ⟨.non, _, I.lset (its' := []) (ys := []) hH e rfl .nil (Nat.zero_le _), rfl, q⟩

/-! ### list + list, list += list, list * int -/
def rCat : R2 := fun x y H Q => ∃ l b xs zs, x = .ref l ∧ y = .ref b ∧ H l = some (.lst xs) ∧ H b = some (.lst zs) ∧ xs.length + zs.length ≤ sizeLine ∧ ∀ p, H p = none → Q (.ref p) (upd H p (.lst (xs ++ zs)))
theorem op_cat : OpR X (binaryOp .Add) rCat := by
  intro pins s σ H x y v u Q I rx ry h
  obtain ⟨l, b, xs, zs, rfl, rfl, hH, hB, hz, q⟩ := h
  cases rx
  cases ry
  obtain ⟨z, its, n, r, hl, e⟩ := I.lstM hH
  obtain ⟨z2, its2, n2, r2, hl2, e2⟩ := I.lstM hB
  refine PySem.P.add_list e e2 ?_ (by rw [List.size_toArray, List.size_toArray]; omega)
  have ea : its.toArray ++ its2.toArray = (its ++ its2).toArray := by simp
  rw [ea]
  exact ⟨.ref _, _, I.lnew (t' := s.toks) (r.append r2) (by rw [List.length_append]; omega), rfl, q _ I.fresh⟩
/-- a list times an int (a negative one is nothing) -/
def rRep : R2 := fun x y H Q => ∃ l k xs, x = .ref l ∧ y = .int k ∧ H l = some (.lst xs) ∧ -(2 ^ 63) ≤ k ∧ k < 2 ^ 63 ∧ xs.length * k.toNat ≤ sizeLine ∧
  ∀ p, H p = none → Q (.ref p) (upd H p (.lst (List.replicate k.toNat xs).flatten))
theorem len_rep {α : Type} (xs : List α) (k : Nat) : (List.replicate k xs).flatten.length = k * xs.length := by
  induction k with
  | zero => simp
  | succ k ih => rw [List.replicate_succ, List.flatten_cons, List.length_append, ih, Nat.succ_mul, Nat.add_comm]
theorem op_rep : OpR X (binaryOp .Mult) rRep := by
  intro pins s σ H x y v u Q I rx ry h
  obtain ⟨l, k, xs, rfl, rfl, hH, h1, h2, hz, q⟩ := h
  cases rx
  obtain ⟨t, rfl⟩ := ry
  obtain ⟨z, its, n, r, hl, e⟩ := I.lstM hH
  have hlen : its.toArray.size * k.toNat ≤ sizeLine := by rw [List.size_toArray, ← hl]; exact hz
  have hcap : ¬ its.toArray.size * k.toNat > (2 ^ 63 - 1) / 8 := by
    have : (sizeLine : Nat) ≤ (2 ^ 63 - 1) / 8 := by decide
    omega
  have hfit : ¬ (!Builtin.List.listFitsIndex k) = true := by
    rw [fitsIndex_both h1 h2]
    exact Bool.false_ne_true
  have hlong : ¬ Builtin.List.listTooLong (its.toArray.size * k.toNat) = true := by
    rw [notLongL hlen]
    exact Bool.false_ne_true
  have hnew : List.foldl (fun x1 x2 => x1 ++ x2) #[] (List.replicate (if its.toArray.isEmpty = true then 0 else k.toNat) its.toArray) = (List.replicate k.toNat its).flatten.toArray := by
    have f0 : ∀ m : Nat, List.foldl (fun x1 x2 => x1 ++ x2) #[] (List.replicate m its.toArray) = (List.replicate m its).flatten.toArray := fun m => by
      have := foldl_rep its m []
      rw [List.nil_append] at this
      exact this
    rw [f0]
    cases its with
    | nil => simp
    | cons a r' => rw [if_neg (by simp)]
  refine wpAny_binaryOp_repeat_ref (T := "list") (U := "int") (by decide) ⟨_, e, rfl⟩ (fun s' => typeIs_int s' k t) noFill_list_mul F.fills_int_mul F.slot_int_rmul repeat_list F.slot_int_index.lookup
    (call_meets F.slot_int_rmul (typeIs_int s k t) F.entry_int_rmul (F.args_int_rmul_2 _ _) (int___rmul___int_list k t l its.toArray n)
      ⟨e, rfl, ⟨_, e, rfl⟩, call_meets F.slot_list_mul ⟨_, e, rfl⟩ F.entry_list_mul (F.args_list_mul_2 _ _) (AutoListH.list___mul___list_int_3 l its.toArray n k t hfit hcap hlong) ⟨e, ?_⟩⟩)
  rw [hnew]
  exact ⟨.ref _, _, I.lnew (t' := s.toks) (r.rep k.toNat) (by rw [len_rep, Nat.mul_comm]; exact hz), rfl, q _ I.fresh⟩

/-! ### del xs[i] -/
theorem del_list {pins : List (Addr × Obj)} {s : Shared} {σ : St} {H : Hp} {l : Addr} {xs : List V} {i : Int} {t : Tok} {k : Nat} {Q : Unit → Shared → Prop} (I : Inv X pins σ H s) (hH : H l = some (.lst xs))
    (h1 : -(2 ^ 63) ≤ i) (h2 : i < 2 ^ 63) (hk : seqIndex? i xs.length = some k) (h : ∀ s', Inv X pins σ (upd H l (.lst (xs.eraseIdx k))) s' → Q () s') :
    wpAny (model X.prog X.w) X.A (delItem (.ref l) (.int i t)) Q X.xe s := by
  obtain ⟨z, its, n, r, hl, e⟩ := I.lstM hH
  refine PySem.P.delItem_list (k := k) e (fitsIndex_both h1 h2) (by rw [List.size_toArray, ← hl]; exact hk) (h _ ?_) (by rw [List.size_toArray]; omega)
  refine I.lset (its' := its.eraseIdx k) (t' := s.toks) hH e ?_ (r.eraseIdx k) ?_
  · show its.toArray.eraseIdxIfInBounds k = (its.eraseIdx k).toArray
    rw [List.eraseIdxIfInBounds_toArray]
  · have := len_erase xs k
    omega
end

/-! ### xs[a:b] = ys -/
section
variable {prog : Program} {w : World} {A : Around} {E : Value → Shared → Prop} {s : Shared}
theorem splice_eq (its its2 : List Value) (a c : Nat) : its.toArray.extract 0 a ++ its2.toArray ++ its.toArray.extract c its.toArray.size = (its.take a ++ its2 ++ its.drop c).toArray := by
  apply Array.toList_inj.mp
  first
    | (simp
       exact List.take_of_length_le (by simp))
    | simp [List.take_of_length_le]
    | simp
theorem bounds_run {a c n : Nat} (hac : a ≤ c) (hc : c ≤ n) : sliceBounds (some (a : Int)) (some (c : Int)) none n = ((a : Int), (c : Int), 1) := by
  simp only [sliceBounds, Option.getD_none]
  have h1 : ¬ ((a : Int) < 0) := by omega
  have h2 : ¬ ((c : Int) < 0) := by omega
  simp only [h1, h2, if_false, show (1 : Int) > 0 by decide, if_true]
  congr 1
  · omega
  · congr 1; omega
set_option maxRecDepth 100000 in
/-- list.__setitem__ with a slice of step one and another list -/
theorem setItem_slice {l b sl : Addr} {items new : Array Value} {n n2 : Nat} {vl vu : Value} {a c : Nat} {Q : Unit → Shared → Prop}
    (e : s.heap.get? l = some { cls := .type "list", data := .seq items n }) (e2 : s.heap.get? b = some { cls := .type "list", data := .seq new n2 }) (hne : l ≠ b)
    (hs : s.heap.IsSliceOf sl vl vu .none) (pl : IsPart vl (some (a : Int))) (pu : IsPart vu (some (c : Int))) (hac : a ≤ c) (hc : c ≤ items.size)
    (hsz : items.size + new.size ≤ sizeLine) (h : Q () { s with heap := s.heap.update l (Obj.mapSeq fun xs => xs.extract 0 a ++ new ++ xs.extract c xs.size) }) :
    wpAny (model prog w) A (setItem (.ref l) (.ref sl) (.ref b)) Q E s := by
  have hl : s.heap.IsList l items := PySem.IsL.isList e
  have hb : s.heap.IsList b new := PySem.IsL.isList e2
  obtain ⟨os, hos, hcs, hds⟩ := id hs
  have hTs : s.TypeIs (.ref sl) "slice" := ⟨os, hos, hcs⟩
  have hstep : ¬ ((rawPart none == rawInt 0) = true) := Bool.false_ne_true
  have hsame : Builtin.List.listSameRef (.ref l) (.ref b) = false := by
    unfold Builtin.List.listSameRef
    exact beq_eq_false_iff_ne.mpr hne
  have hmax : (max (a : Int) (c : Int)).toNat = c := by omega
  have hz' : ((fun xs : Array Value => xs.extract 0 a ++ new ++ xs.extract c xs.size) items).size ≤ sizeLine + 1 := by
    simp only [Array.size_append, Array.size_extract]
    omega
  unfold setItem
  try with_reducible refine wpAny_holding ?_
  first | refine wpAny_bind (wpAny_pure ?_) | skip
  refine wpAny_bind (wpAny_sequenceKey hl.typeIs (by decide) ?_)
  refine wpAny_bind (wpAny_callSpecial?_slot (name := Str.ofString "__setitem__") hl.typeIs slot_list_setitem
    (wpAny_call_entry slot_list_setitem hl.typeIs entry_list_setitem ?_ (args_list_setitem _ _ _)))
  show wpAny _ _ (Builtin.List.listSubscript? (.ref sl) >>= _) _ _ s
  refine wpAny_bind ?_
  unfold Builtin.List.listSubscript?
  refine wpAny_bind (wpAny_specialOf hTs slice_no_index ?_)
  simp only [Option.isNone_none, if_true]
  refine wpAny_pure ?_
  show wpAny _ _ (typeOf (.ref sl) >>= _) _ _ s
  refine wpAny_bind (wpAny_typeOf hTs ?_)
  first
    | rw [if_neg (by decide)]
    | refine PySem.W.KFB.if_not (by decide) ?_
  rw [listSliceParts_eq]
  refine wpAny_bind (wpAny_bind (wpAny_field hos hds (x := .none) rfl (wpAny_bind (wpAny_listPart .none ?_))))
  rw [if_neg hstep]
  refine wpAny_bind (wpAny_field hos hds (x := vl) rfl (wpAny_bind (wpAny_listPart pl ?_)))
  refine wpAny_bind (wpAny_field hos hds (x := vu) rfl (wpAny_bind (wpAny_listPart pu (wpAny_pure ?_))))
  first
    | simp only [hsame, Bool.false_eq_true, if_false]
    | refine PySem.W.KFB.if_not hsame ?_
    | (dsimp only
       rw [if_neg (by rw [hsame]; exact Bool.false_ne_true)])
  refine wpAny_bind (m := Builtin.List.listAllItems (.ref b) "must assign iterable to extended slice") ?_
  unfold Builtin.List.listAllItems
  refine wpAny_bind (wpAny_typeOf hb.typeIs ?_)
  first
    | refine PySem.W.KFB.if_so (by decide) ?_
    | rw [if_pos (by decide)]
    | simp only [beq_self_eq_true, Bool.true_or, if_true]
  unfold Builtin.List.listItems
  refine wpAny_bind (wpAny_seqItems e2 rfl (wpAny_pure ?_))
  refine wpAny_bind (wpAny_bind (wpAny_seqItems e rfl (wpAny_pure ?_)))
  refine wpAny_bind (wpAny_of_eq ((sliceIndices_raw (some (a : Int)) (some (c : Int)) none items.size (by simp)).trans (congrArg (pure : Int × Int × Int → Sem (Int × Int × Int)) (bounds_run hac hc))) ?_)
  show wpAny _ _ (if ((1 : Int) == 1) = true then _ else _) _ _ s
  rw [if_pos (by decide)]
  refine wpAny_bind (wpAny_rule ?_)
  first
    | simp only [notLongL hsz, Bool.false_eq_true, if_false]
    | refine PySem.W.KFB.if_not (notLongL hsz) ?_
  first | refine wpAny_bind (wpAny_pure ?_) | skip
  show wpAny _ _ (updateSeq l (fun xs => xs.extract 0 ((a : Int)).toNat ++ new ++ xs.extract (max (a : Int) (c : Int)).toNat xs.size) >>= _) _ _ s
  rw [hmax, Int.toNat_natCast]
  refine wpAny_bind (wpAny_updateSeq (hz := Nat.le_trans (Nat.le_add_right _ _) hsz) (_hz' := hz') e rfl ?_)
  refine wpAny_bind (wpAny_letGo ?_)
  first
    | exact wpAny_bind (wpAny_pure (wpAny_pure ⟨.none, rfl, wpAny_pure h⟩))
    | exact wpAny_pure ⟨.none, rfl, wpAny_pure h⟩
end

section
variable {X : Cx}
/-- xs[a:c] = ys of another list, at the value level: sl is the slice object that was just made -/
theorem set_slice {pins : List (Addr × Obj)} {s : Shared} {σ : St} {H : Hp} {l b sl : Addr} {xs ys : List V} {a c : Int} {vl vu : Value} {Q : Unit → Shared → Prop} (I : Inv X pins σ H s)
    (hH : H l = some (.lst xs)) (hB : H b = some (.lst ys)) (hne : l ≠ b) (hs : s.heap.IsSliceOf sl vl vu .none) (ra : RelV (.int a) vl) (rc : RelV (.int c) vu) (h0 : 0 ≤ a) (hac : a ≤ c) (hc : c ≤ xs.length)
    (hz : xs.length + ys.length ≤ sizeLine) (h : ∀ s', Inv X pins σ (upd H l (.lst (xs.take a.toNat ++ ys ++ xs.drop c.toNat))) s' → Q () s') :
    wpAny (model X.prog X.w) X.A (setItem (.ref l) (.ref sl) (.ref b)) Q X.xe s := by
  obtain ⟨ta, rfl⟩ := ra
  obtain ⟨tc, rfl⟩ := rc
  obtain ⟨z, its, n, r, hl, e⟩ := I.lstM hH
  obtain ⟨z2, its2, n2, r2, hl2, e2⟩ := I.lstM hB
  obtain ⟨a', rfl⟩ := Int.eq_ofNat_of_zero_le h0
  obtain ⟨c', rfl⟩ := Int.eq_ofNat_of_zero_le (Int.le_trans h0 hac)
  simp only [Int.toNat_natCast] at h
  refine setItem_slice (a := a') (c := c') e e2 hne hs (.int _ _) (.int _ _) (by omega) (by rw [List.size_toArray]; omega) (by rw [List.size_toArray, List.size_toArray]; omega) (h _ ?_)
  refine I.lset (its' := its.take a' ++ its2 ++ its.drop c') (t' := s.toks) hH e ?_ (Vals.append (Vals.append (r.take _) r2) (r.drop _)) ?_
  · exact splice_eq its its2 a' c'
  · rw [List.length_append, List.length_append, List.length_take, List.length_drop]
    omega
end
end L2

namespace Att
open PySem PySem.W PySem.Calls PyProof.Rows

/-! ### the script -/
theorem ints_of_wellAll {P : Params} {h : Heap} : ∀ (ns : List Int) (vs : List Value), WellAll P h vs (ns.map WData.int) → IntsAre vs ns := by
  intro ns
  induction ns with
  | nil =>
    intro vs w
    rw [List.map_nil] at w
    cases w
    exact .nil
  | cons n ns ih =>
    intro vs w
    rw [List.map_cons] at w
    cases w with
    | cons a b =>
      cases a
      exact .cons _ _ (ih _ b)

theorem script_of {l : OpenLaw} {n : Nat} (hn : l.most = some n) {P : Params} {h : Heap} {args : List WData} {vals : List Value}
    (hpre : l.row.toRowW.claim.pre args = true) (hwl : WellAll P h vals args) :
    ∃ a vs ns, vals = [Value.ref a] ∧ args = [WData.list (ns.map WData.int)] ∧ h.get? a = some { cls := .type "list", data := .seq vs.toArray } ∧ IntsAre vs ns ∧ ns.length ≤ n := by
  have hsh : WShape.hasAll [] args [.list .int] = true := (pre_splitW hpre).1
  have hc : l.pre.holds [] { args := args } = true := (pre_splitW hpre).2
  obtain ⟨d, r, rfl, h1, h2⟩ := hasAllW_cons hsh
  obtain rfl := hasAllW_nil h2
  obtain ⟨xs, rfl, h3⟩ := hasW_list h1
  obtain ⟨ns, rfl⟩ := items_int h3
  have hlen : ns.length ≤ n := by
    unfold OpenLaw.pre at hc
    have h4 : (WTm.not (.lt (.lit (.int (n : Int))) (.len (.arg 0)))).holds [] { args := [.list (ns.map .int)] } = true := by
      have h4 := (holds_andW hc).1
      rw [hn] at h4
      exact h4
    have h5 := condW_of h4 (w_not (w_lt w_lit (w_len_list (w_arg rfl))))
    rw [List.length_map] at h5
    refine Nat.le_of_not_lt fun q => ?_
    have q' : (n : Int) < ((ns.length : Nat) : Int) := by omega
    first
      | (rw [decide_eq_true q'] at h5; exact absurd h5 (by decide))
      | (simp at h5; omega)
  cases hwl with
  | cons w1 w2 =>
    cases w2
    cases w1 with
    | list ho hall => exact ⟨_, _, ns, rfl, rfl, ho, ints_of_wellAll ns _ hall, hlen⟩

theorem post_true (l : OpenLaw) (args : List WData) : l.row.toRowW.claim.post args (.bool true) args = true :=
  postW_of (r := l.row.toRowW) (X := (true == true))
    (show WShape.has [] (.bool true) .bool = true by first | rfl | decide | simp [WShape.has, WShape.arms, WShape.armsAll])
    (show (WTm.eq .res (.lit (.bool true))).value [] { args := args, res := some (.bool true), after := args } = some (.bool (true == true)) from w_eq_bool (w_res rfl) w_lit) rfl

/-! ### the attachment: holds_open's last premise (the goal 'hc' behind k_head) from a wpAny of the law's body -/
theorem attach {l : OpenLaw} {n : Nat} {q : Program} {loose : List Str} {XP : (Str → Option Value) → Heap → Prop} {YP : World → Heap → Prop} {d : DefRec} {x : Str}
    (hn : l.most = some n) (hdf : d.params.defaults = [])
    (hbind : ∀ pm cd doc v : Value, bindArgs (docDef d.name d.params d.body d.scope pm cd doc) ⟨[v], []⟩ = pure [(x, v)])
    (hx : d.scope.names.lookup x = some .local ∨ d.scope.names.lookup x = some .cell)
    (hk : d.scope.kind = .function) (hco : d.scope.isCoroutine = false) (hgen : d.scope.isGenerator = false)
    (body : ∀ (w : World) (s₀ s₁ s : Shared) (mg mb : Str → Option Value) (fa : Addr) (o : Obj) (pm cd doc : Value) (a : Addr) (vs : List Value) (ns : List Int),
      Ground q loose [] XP w s₀ mg mb s₁.heap → YP w s₁.heap →
      s₁.heap.get? fa = some o → o.data = .func (docDef d.name d.params d.body d.scope pm cd doc) → s₁.heap.CodeRec cd d.name → mg d.name = some (.ref fa) →
      s₁.heap.get? a = some { cls := .type "list", data := .seq vs.toArray } → IntsAre vs ns → ns.length ≤ n →
      s.gens = #[] → s.os = s₁.os →
      Fr s₁.heap s₁.heap.objs.size s.heap (bindL (envOfC d.name d.scope s₁.heap.objs.size fa cd).kindOf [(x, .ref a)] fun _ => none) →
      Cl s₁.heap.objs.size (cellsFrom (s₁.heap.objs.size + 1) d.scope.names []) s.heap (bindC (envOfC d.name d.scope s₁.heap.objs.size fa cd).kindOf [(x, .ref a)] fun _ => none) →
      wpAny (model l.prog w) (callerA.deeper (envOfC d.name d.scope s₁.heap.objs.size fa cd)) (execs d.body (envOfC d.name d.scope s₁.heap.objs.size fa cd))
        (fun f s' => f = .ret (.bool true) ∧ OldK s₁.heap s'.heap ∧ s'.os = s₁.os ∧ AllBare s'.gens) (fun _ _ => False) s) :
    WalkO q loose XP YP l.row.toRowW d [] (fun f vs => PySem.call f vs) := by
  intro w s₀ s₁ mg mb G Y fa o pm cd doc dV kV ho hd hcd hD hmg hg args vals as hpre hlay hrd hwl hlo
  obtain rfl : dV = .none := Dflts.none hD hdf
  obtain rfl : kV = .none := Dflts.noKw hD
  obtain ⟨a, vs, ns, rfl, rfl, hobj, hints, hlen⟩ := script_of hn hpre hwl
  refine enter_call ?_
  refine call_cells_ret (o := o) (by rw [depth_caller]; decide) ho (fd_plain hd) G.T.nolimit hcd (hbind pm cd doc (.ref a)) (fun y hy => ?_) (fun h₁ tk F X => ?_) hco hgen hk
  · obtain rfl : y = (x, Value.ref a) := List.mem_singleton.mp hy
    rcases hx with e | e
    · exact .inl e
    · exact .inr ⟨e, cellsFrom_some _ _ _ (.inl e)⟩
  · refine wpAny_mono (body w s₀ s₁ { s₁ with heap := h₁, toks := tk } mg mb fa o pm cd doc a vs ns G Y ho (fd_plain hd) hcd hmg hobj hints hlen hg rfl F X) (fun f s' hq => ?_) (fun _ _ hq => hq)
    obtain ⟨rfl, h2, h3, h4⟩ := hq
    exact ⟨.inl ⟨.bool true, .bool true, [], rfl, fun _ => rfl, .bool true, post_true l _, fun _ => ⟨List.Pairwise.nil, fun _ hm => (nomatch hm)⟩⟩, h2, h3, h4⟩

/-- the same from a codeAny of the CALL (for a layer whose function contracts speak of calls) -/
theorem attach_call {l : OpenLaw} {n : Nat} {q : Program} {loose : List Str} {XP : (Str → Option Value) → Heap → Prop} {YP : World → Heap → Prop} {d : DefRec}
    (hn : l.most = some n) (hdf : d.params.defaults = [])
    (call : ∀ (w : World) (s₀ s₁ : Shared) (mg mb : Str → Option Value) (fa : Addr) (o : Obj) (pm cd doc : Value) (a : Addr) (vs : List Value) (ns : List Int),
      Ground q loose [] XP w s₀ mg mb s₁.heap → YP w s₁.heap →
      s₁.heap.get? fa = some o → o.data = .func (docDef d.name d.params d.body d.scope pm cd doc) → s₁.heap.CodeRec cd d.name → mg d.name = some (.ref fa) →
      s₁.heap.get? a = some { cls := .type "list", data := .seq vs.toArray } → IntsAre vs ns → ns.length ≤ n → s₁.gens = #[] →
      codeAny (model l.prog w) callerA (.call (.ref fa) ⟨[.ref a], []⟩) (fun r s' => r = .ok (.ret (.bool true)) ∧ OldK s₁.heap s'.heap ∧ s'.os = s₁.os ∧ AllBare s'.gens) s₁) :
    WalkO q loose XP YP l.row.toRowW d [] (fun f vs => PySem.call f vs) := by
  intro w s₀ s₁ mg mb G Y fa o pm cd doc dV kV ho hd hcd hD hmg hg args vals as hpre hlay hrd hwl hlo
  obtain rfl : dV = .none := Dflts.none hD hdf
  obtain rfl : kV = .none := Dflts.noKw hD
  obtain ⟨a, vs, ns, rfl, rfl, hobj, hints, hlen⟩ := script_of hn hpre hwl
  refine enter_call (codeAny_mono (call w s₀ s₁ mg mb fa o pm cd doc a vs ns G Y ho (fd_plain hd) hcd hmg hobj hints hlen hg) fun r s' hq => ?_)
  obtain ⟨rfl, h2, h3, h4⟩ := hq
  exact ⟨.inl ⟨.bool true, .bool true, [], rfl, fun _ => rfl, .bool true, post_true l _, fun _ => ⟨List.Pairwise.nil, fun _ hm => (nomatch hm)⟩⟩, h2, h3, h4⟩

/-- the same where the top left finished generators (o_head chose holds_openN): nothing may have changed at all and no generator may be left -/
theorem attachN {l : OpenLaw} {n : Nat} {q : Program} {loose : List Str} {XP : (Str → Option Value) → Heap → Prop} {YP : World → Heap → Prop} {d : DefRec} {x : Str}
    (hn : l.most = some n) (hdf : d.params.defaults = [])
    (hbind : ∀ pm cd doc v : Value, bindArgs (docDef d.name d.params d.body d.scope pm cd doc) ⟨[v], []⟩ = pure [(x, v)])
    (hx : d.scope.names.lookup x = some .local ∨ d.scope.names.lookup x = some .cell)
    (hk : d.scope.kind = .function) (hco : d.scope.isCoroutine = false) (hgen : d.scope.isGenerator = false)
    (body : ∀ (w : World) (s₀ s₁ s : Shared) (mg mb : Str → Option Value) (fa : Addr) (o : Obj) (pm cd doc : Value) (a : Addr) (vs : List Value) (ns : List Int),
      Ground q loose [] XP w s₀ mg mb s₁.heap → YP w s₁.heap →
      s₁.heap.get? fa = some o → o.data = .func (docDef d.name d.params d.body d.scope pm cd doc) → s₁.heap.CodeRec cd d.name → mg d.name = some (.ref fa) →
      s₁.heap.get? a = some { cls := .type "list", data := .seq vs.toArray } → IntsAre vs ns → ns.length ≤ n →
      s.gens = #[] → s.os = s₁.os →
      Fr s₁.heap s₁.heap.objs.size s.heap (bindL (envOfC d.name d.scope s₁.heap.objs.size fa cd).kindOf [(x, .ref a)] fun _ => none) →
      Cl s₁.heap.objs.size (cellsFrom (s₁.heap.objs.size + 1) d.scope.names []) s.heap (bindC (envOfC d.name d.scope s₁.heap.objs.size fa cd).kindOf [(x, .ref a)] fun _ => none) →
      wpAny (model l.prog w) (callerA.deeper (envOfC d.name d.scope s₁.heap.objs.size fa cd)) (execs d.body (envOfC d.name d.scope s₁.heap.objs.size fa cd))
        (fun f s' => f = .ret (.bool true) ∧ (∀ b o, s₁.heap.get? b = some o → s'.heap.get? b = some o) ∧ s'.os = s₁.os ∧ s'.gens = #[]) (fun _ _ => False) s) :
    WalkN q loose XP YP l.row.toRowW d [] (fun f vs => PySem.call f vs) := by
  intro w s₀ s₁ mg mb G Y fa o pm cd doc dV kV ho hd hcd hD hmg hg args vals as hpre hlay hrd hwl hlo
  obtain rfl : dV = .none := Dflts.none hD hdf
  obtain rfl : kV = .none := Dflts.noKw hD
  obtain ⟨a, vs, ns, rfl, rfl, hobj, hints, hlen⟩ := script_of hn hpre hwl
  refine enter_callW ?_
  refine call_cells_ret (o := o) (by rw [depth_caller]; decide) ho (fd_plain hd) G.T.nolimit hcd (hbind pm cd doc (.ref a)) (fun y hy => ?_) (fun h₁ tk F X => ?_) hco hgen hk
  · obtain rfl : y = (x, Value.ref a) := List.mem_singleton.mp hy
    rcases hx with e | e
    · exact .inl e
    · exact .inr ⟨e, cellsFrom_some _ _ _ (.inl e)⟩
  · refine wpAny_mono (body w s₀ s₁ { s₁ with heap := h₁, toks := tk } mg mb fa o pm cd doc a vs ns G Y ho (fd_plain hd) hcd hmg hobj hints hlen hg rfl F X) (fun f s' hq => ?_) (fun _ _ hq => hq)
    obtain ⟨rfl, h2, h3, h4⟩ := hq
    exact ⟨.inl ⟨.bool true, .bool true, [], rfl, fun _ => rfl, .bool true, post_true l _, fun _ => ⟨List.Pairwise.nil, fun _ hm => (nomatch hm)⟩⟩, h2, h3, h4⟩

/-! ### rules over ANY heap (no ledger) from facts about the written part K: the library's own take a ledger (News) for what they write -/
section
variable {prog : Program} {w : World} {A : Around} {E : Value → Shared → Prop} {s : Shared} {K : Frag}

/-- a def of the module, or a method (qual 'C.m'), entered: the frame is the next address; cells behind it -/
theorem call_fn {R : Result → Shared → Prop} {name qual : Str} {params : Arguments} {body : List Stmt} {scope : Scope} {dV kV doc pm cdv ct oc : Value} {an od : Option Addr} {osl : Array (Option Value)} {f : Addr} {args : Args} {binds : List (Str × Value)}
    (X : K.In s.heap) (hlim : s.heap.NoLimit) (ho : K.lookup f = some ⟨oc, od, .func (fnOf name qual params body scope dV kV doc pm an cdv ct), osl⟩) (hcd : codeIn K cdv qual = true) (hroom : A.depth < recursionLimit)
    (hbind : BindsTo s (fnOf name qual params body scope dV kV doc pm an cdv ct) args binds)
    (hkind : (binds.all fun y => scope.names.lookup y.1 == some .local || scope.names.lookup y.1 == some .cell) = true)
    (h : ∀ s₁, InCallC s s.heap.objs.size (bindL (envOfC qual scope s.heap.objs.size f cdv).kindOf binds fun _ => none) (cellsFrom (s.heap.objs.size + 1) scope.names [])
        (bindC (envOfC qual scope s.heap.objs.size f cdv).kindOf binds fun _ => none) s₁ →
      wpAny (model prog w) (A.deeper (envOfC qual scope s.heap.objs.size f cdv)) (execs body (envOfC qual scope s.heap.objs.size f cdv))
        (fun fl s' => R (.ok (.ret (match fl with | .ret v => v | _ => .none))) s')
        (fun e s' => wpAny (model prog w) (A.deeper (envOfC qual scope s.heap.objs.size f cdv)) (leaving (envOfC qual scope s.heap.objs.size f cdv) e) (fun _ s'' => R (.error e) s'') (fun e' s'' => R (.error e') s'') s') s₁)
    (hco : scope.isCoroutine = false) (hgen : scope.isGenerator = false) (hk : scope.kind = .function) : codeAny (model prog w) A (.call (.ref f) args) R s := by
  refine codeAny_call_function hroom (X _ _ ho) rfl hco hgen rfl (codeRec_of X hcd) (hbind _ _ _ _ ?_)
  refine wpAny_newFunctionEnv_cells hk (kindsX hkind _) fun env he s₁ x => ?_
  subst he
  exact ⟨hlim.keeps x.toInCall.keep, codeAny_func (h s₁ x)⟩

/-- C(..): dict at size, instance at size + 1, then __init__ -/
theorem make_obj {R : Result → Shared → Prop} {C fI : Addr} {rest : List Value} {kw : List (Str × Value)}
    (X : K.In s.heap) (hm : makesIn K C = true) (hi : findIn K (.ref C) "__init__" = some (some (.ref fI))) (hf : isFn K (.ref fI) = true)
    (h : codeAny (model prog w) (A.under (.builtin "type.__call__" ⟨.ref C :: rest, kw⟩)) (.call (.ref fI) ⟨.ref (s.heap.objs.size + 1) :: rest, kw⟩) (InitBack (s.heap.objs.size + 1) R)
      { s with heap := (s.heap.push emptyDict).push (instObj C s.heap.objs.size) }) : codeAny (model prog w) A (.call (.ref C) ⟨rest, kw⟩) R s := by
  obtain ⟨hh, g, d, t, os⟩ := s
  exact make_core (makes_of X hm) (looks_findIn X hi) (fun self => bind_fn X self (beq_iff_eq.mp hf)) (.inl rfl) h

/-- x.name where the instance's dict holds the name and the class does not -/
theorem get_field {x C : Addr} {ox : Obj} {es : List DictEntry} {n : Nat} {name : Str} {expr : Bool} {v : Value} {Q : Value → Shared → Prop}
    (X : K.In s.heap) (I : PySem.W.InstAt s.heap x ox C (some (dictOf es n))) (hg : plainGet K C name = true) (hh : hasDictIn K C = true) (ha : findIn K (.ref C) name = some none)
    (hl : getL name es = some (some v)) (hv : handedIn v = true) (h : Q v { s with toks := s.toks + 1 }) : wpAny (model prog w) A (getAttr (.ref x) name expr) Q E s :=
  get_value X I (plainGet_of hg).1 (findObj_own hh ha rfl hl) hv h

/-- x.m(..): the method found in the class -/
theorem get_method {x C f : Addr} {ox : Obj} {es : List DictEntry} {n : Nat} {name : Str} {pl : Sem Bool} {Q : Value × List Value → Shared → Prop}
    (X : K.In s.heap) (I : PySem.W.InstAt s.heap x ox C (some (dictOf es n))) (hg : plainGet K C name = true) (hf : findIn K (.ref C) name = some (some (.ref f))) (ht : isFn K (.ref f) = true)
    (hl : getL name es = some none) (h : Q (.ref f, [.ref x]) s) : wpAny (model prog w) A (getMethod (.ref x) name pl) Q E s :=
  method_fn X I (plainGet_of hg).1 (plainGet_of hg).2 hf (beq_iff_eq.mp ht) (by show (lookIn name (dictOf es n)).map _ = _; rw [lookIn_dict, hl]; rfl) h

/-! the whole heap as the ledger: makes every rule that writes through a ledger a rule over any heap -/
def noObjs (h : Heap) : Heap := { h with objs := #[] }
theorem noObjs_get (h : Heap) (b : Addr) : (noObjs h).get? b = none := by
  cases e : (noObjs h).get? b with
  | none => rfl
  | some o => exact absurd (Heap.lt_size e) (Nat.not_lt_zero _)
def ledger (h : Heap) (L d : Addr) : List (Addr × Obj) := (List.range h.objs.size).filterMap fun a => if a = L ∨ a = d then none else (h.get? a).map fun o => (a, o)
theorem mem_ledger {h : Heap} {L d a : Addr} {o : Obj} : (a, o) ∈ ledger h L d ↔ a ≠ L ∧ a ≠ d ∧ h.get? a = some o := by
  unfold ledger
  rw [List.mem_filterMap]
  constructor
  · rintro ⟨b, _, e⟩
    split at e
    · cases e
    · rename_i hb
      obtain ⟨o', ho, e'⟩ := Option.map_eq_some_iff.mp e
      cases e'
      exact ⟨fun q => hb (.inl q), fun q => hb (.inr q), ho⟩
  · rintro ⟨n1, n2, ho⟩
    refine ⟨a, List.mem_range.mpr (Heap.lt_size ho), ?_⟩
    rw [if_neg (show ¬ (a = L ∨ a = d) from fun q => q.elim n1 n2), ho] <;> rfl
theorem news_ledger {h : Heap} {L d : Addr} {od : Obj} (hne : d ≠ L) (ho : h.get? d = some od) : News (noObjs h) L h ([] ++ (d, od) :: ledger h L d) := by
  rintro ⟨a, o⟩ hp
  rcases List.mem_cons.mp hp with e | hp
  · cases e
    exact ⟨ho, hne, noObjs_get _ _⟩
  · obtain ⟨n1, n2, e⟩ := mem_ledger.mp hp
    exact ⟨e, n1, noObjs_get _ _⟩
theorem fr_all {h : Heap} {L : Addr} {m : Str → Option Value} (n : h.Ns L m) : Fr (noObjs h) L h m :=
  ⟨n, fun b o e => (by rw [noObjs_get] at e; cases e), Nat.zero_le _⟩
/-- Upd of the head entry (for append_K, setItem_K ..) -/
theorem upd_ledger {h : Heap} {L d : Addr} {o o' : Obj} : Upd d o o' ((d, o) :: ledger h L d) ((d, o') :: ledger h L d) :=
  .head fun ⟨_, _⟩ hp => (mem_ledger.mp hp).2.1

/-- x.name = v over any heap: L is any namespace of the heap (the frame's, say): its map stays, its object is not told; all else but the dict stays -/
theorem set_field {x C dx L : Addr} {ox : Obj} {m : Str → Option Value} {es es' : List DictEntry} {n n' : Nat} {name : Str} {v : Value} {Q : Unit → Shared → Prop}
    (X : K.In s.heap) (I : PySem.W.InstAt s.heap x ox C (some (dictOf es n))) (hd : ox.dict = some dx) (hL : s.heap.Ns L m) (hne : dx ≠ L)
    (hs : findIn K (.ref C) "__setattr__" = some (some (.builtin "object.__setattr__"))) (hp : plainOver K C = true) (ht : takerIn K C name = some none) (hh : hasDictIn K C = true) (hl : (getL name es).isSome = true)
    (e : (putL name (PyData.keyHash w.params name) (.str name (s.toks + 1)) v es, putN name es n) = (es', n')) (hz : es'.length ≤ 1000)
    (h : ∀ h' : Heap, h'.Ns L m → h'.get? dx = some (dictOf es' n') → (∀ b o, b ≠ dx → b ≠ L → s.heap.get? b = some o → h'.get? b = some o) → Q () { s with heap := h', toks := s.toks + 2 }) :
    wpAny (model prog w) A (setAttr (.ref x) name v) Q E s := by
  obtain ⟨e1, e2⟩ := Prod.mk.inj e
  have hdx : s.heap.get? dx = some (dictOf es n) := by
    have := I.dict
    rw [hd] at this
    exact this
  refine set_plain X I hs (osa_dict (s := { s with toks := s.toks + 1 }) (h₀ := noObjs s.heap) (L := L) (m := m) (od := dictOf es n) (od' := dictOf es' n') (es := es') (n := n') (pre := []) (post := ledger s.heap L dx)
    (fr_all hL) (news_ledger hne hdx) X I hd hp ht hh hl (fun _ q => nomatch q) (fun ⟨_, _⟩ q => (mem_ledger.mp q).2.1) (by rw [putName_dict, e1, e2]) rfl hz fun h' F' N' => ?_)
  exact h h' F'.ns (N'.get (List.Mem.head _)) fun b o n1 n2 ho => N'.get (List.Mem.tail _ (mem_ledger.mpr ⟨n2, n1, ho⟩))
end
end Att

namespace L2
open PySem PySem.Spec PyProof.Rows

theorem vals_ints : ∀ {vs : List Value} {ns : List Int}, IntsAre vs ns → Vals (ns.map V.int) vs
  | _, _, .nil => .nil
  | _, _, .cons n t h => .cons ⟨t, rfl⟩ (vals_ints h)

/-- nothing is tracked but the script, known to the object (or it is an object of the module) -/
def Only (H : Hp) : Prop := ∀ b, H b = none ∨ ∃ o xs, H b = some (.frz o (.lst xs))

/-- THE HEAD: the law's promise, at the heap behind the top. F, the promise of the law's def, may use that base is part of the heap (so K.In base, base.Ns mainGlobals mg stand in Mod) -/
theorem law_call {P : Program} {w : World} {K : PySem.W.Frag} {mg mb : Str → Option Value} {CX : CXT} {k : Nat} {fa a : Addr} {fd : FuncData} {x : Str} {sp : Sp} {s₁ : Shared} {vs : List Value} {ns : List Int}
    (KX : K.In s₁.heap) (hns : s₁.heap.Ns mainGlobals mg) (hb : s₁.heap.Ns builtinsNs mb) (hbb : ∀ x : Str, x ≠ "__name__" → mb x = bootBuiltins x) (hlim : s₁.heap.NoLimit) (hg : s₁.gens = #[])
    (ha : s₁.heap.get? a = some { cls := .type "list", data := .seq vs.toArray }) (hi : IntsAre vs ns) (hl : ns.length ≤ sizeLine) (hr : Room k callerA)
    (F : ∀ base : Heap, K.In base → base.Ns mainGlobals mg → FnOk P w K mg base CX k fa fd [x] sp) (hbind : ∀ (s : Shared) (u : Value), BindsTo s fd ⟨[u], []⟩ [(x, u)])
    (hsp : ∀ H : Hp, Only H → SqL K H a (ns.map V.int) → sp [.ref a] H (fun v _ => v = .bl true) fun _ _ _ => False)
    (hCX : ∀ H e s', CX [] H s₁ (fun _ _ _ => False) e s' → False) :
    codeAny (model P w) callerA (.call (.ref fa) ⟨[.ref a], []⟩) (fun r s' => r = .ok (.ret (.bool true)) ∧ OldK s₁.heap s'.heap ∧ s'.os = s₁.os ∧ AllBare s'.gens) s₁ := by
  have rv := vals_ints hi
  have lenV := hi.length
  -- from an abstract heap in which nothing but the script may be tracked
  have core : ∀ H : Hp, Only H → SqL K H a (ns.map V.int) → HOk P w H s₁.heap → (∀ b, H b ≠ none → b = a) → (H a ≠ none → K.lookup a = none) →
      codeAny (model P w) callerA (.call (.ref fa) ⟨[.ref a], []⟩) (fun r s' => r = .ok (.ret (.bool true)) ∧ OldK s₁.heap s'.heap ∧ s'.os = s₁.os ∧ AllBare s'.gens) s₁ := by
    intro H hO hS hok hA hK
    have base_of : ∀ {b : Addr} {o : Obj}, s₁.heap.get? b = some o → H b = none → (hidT s₁.heap H).get? b = some o := fun e n => hidT_get e n
    have noA : ∀ {b : Addr} {o : Obj} {es : Array DictEntry} {ep : Nat}, s₁.heap.get? b = some o → o.data = .dict es ep → H b = none := fun {b o es ep} e d => by
      cases q : H b with
      | none => rfl
      | some u =>
        have e' : b = a := hA b (by rw [q]; simp)
        subst e'
        rw [ha] at e; cases e
        have d' : Data.seq vs.toArray _ = Data.dict es ep := d
        cases d'
    have nsK : ∀ {b : Addr} {m : Str → Option Value}, s₁.heap.Ns b m → (hidT s₁.heap H).Ns b m := fun {b m} ⟨o, es, ep, e, d, r⟩ => ⟨o, es, ep, base_of e (noA e d), d, r⟩
    have hKb : K.In (hidT s₁.heap H) := fun b o e => base_of (KX b o e) (by
      cases q : H b with
      | none => rfl
      | some u =>
        have e' : b = a := hA b (by rw [q]; simp)
        subst e'
        rw [hK (by rw [q]; simp)] at e; cases e)
    have hM : Mod K mg (hidT s₁.heap H) := ⟨hKb, nsK hns, ⟨mb, nsK hb, hbb⟩, let ⟨mc, h1, h2⟩ := hlim; ⟨mc, nsK h1, h2⟩⟩
    have e0 : Env0 P w K mg (hidT s₁.heap H) callerA [] s₁ H := ⟨rfl, hM, fun b o e => of_hidT e, Nat.le_of_eq (hidT_size _ _), trivial, fun b hb => absurd (show b ∈ ([] : List Addr) from hb) (by simp), hok, .of_eq hg⟩
    refine codeAny_mono ((F _ hKb (nsK hns)).run callerA [] s₁ H ⟨[.ref a], []⟩ [.ref a] [.ref a] _ _ hr e0 (hbind s₁ (.ref a)) (.cons rfl .nil) (hsp H hO hS)) fun r s' h => ?_
    cases r with
    | error e => exact (hCX H e s' h).elim
    | ok fl =>
      cases fl with
      | next => exact False.elim h
      | brk => exact False.elim h
      | cont => exact False.elim h
      | ret u =>
        obtain ⟨v, H', os, bare, un, hok', r', q⟩ := h
        have q' : v = .bl true := q
        subst q'
        obtain rfl : u = Value.bool true := r'
        refine ⟨rfl, OldK.of_keep fun b o e => ?_, os, bare⟩
        cases q : H b with
        | none => exact un.keep b o e q (by intro z; exact absurd (show b ∈ ([] : List Addr) from z) (by simp)) (by simp)
        | some u =>
          rcases hO b with z | ⟨ob, xs, z⟩
          · rw [q] at z; cases z
          · have z2 := un.frzs b ob _ z
            obtain ⟨e1, _⟩ := hok b _ z
            obtain ⟨e2, _⟩ := hok' b _ z2
            rw [e] at e1; cases e1
            exact e2
  cases hk : K.lookup a with
  | some o =>
    -- the script is one of the module's own objects
    have e := KX a o hk
    rw [ha] at e
    cases e
    refine core (fun _ => none) (fun _ => .inl rfl) (.inr ⟨_, vs.toArray, _, hk, rfl, rfl, rfl, by rw [List.size_toArray, lenV]; exact hl, by simpa using rv⟩) (fun b u z => by have z' : (none : Option HO) = some u := z; cases z') (fun b z => absurd rfl z) fun z => absurd rfl z
  | none =>
    refine core (fun b => if b = a then some (.frz { cls := .type "list", data := .seq vs.toArray } (.lst (ns.map V.int))) else none) (fun b => ?_) (.inl (.inr ⟨{ cls := .type "list", data := .seq vs.toArray }, if_pos rfl⟩)) (fun b u z => ?_) (fun b z => ?_) fun _ => hk
    · by_cases hb : b = a
      · exact .inr ⟨_, _, if_pos hb⟩
      · exact .inl (if_neg hb)
    · by_cases hb : b = a
      · have z' := (if_pos hb).symm.trans z
        cases z'
        subst hb
        exact ⟨ha, by rw [List.length_map]; exact hl, vs, _, rv, ha⟩
      · have z' := (if_neg hb).symm.trans z
        cases z'
    · by_cases hb : b = a
      · exact hb
      · exact absurd (if_neg hb) z
end L2

namespace L2
open PySem PySem.Spec PyProof.Rows

abbrev KOf {K : PySem.W.Frag} {h : Heap} (_ : K.In h) : PySem.W.Frag := K

/-- the goal that k_head leaves (case hc), from the law's promise. F gives the function object fd (K's own) once, then the promise over every base -/
theorem walk_of {l : PySem.W.OpenLaw} {n k : Nat} {q : Program} {loose : List Str} {XP : (Str → Option Value) → Heap → Prop} {YP : World → Heap → Prop} {d : DefRec} {K : Params → PySem.W.Frag} {CX : World → CXT} {sp : World → Sp} {x : Str}
    (hn : l.most = some n) (hn2 : n ≤ sizeLine) (hdf : d.params.defaults = []) (hr : Room k callerA)
    (hY : ∀ (w : World) (h : Heap), YP w h → (K w.params).In h)
    (F : ∀ (w : World) (mg : Str → Option Value) (fa : Addr) (h : Heap), (K w.params).In h → h.Ns mainGlobals mg → mg d.name = some (.ref fa) →
      ∃ fd : FuncData, (∀ (s : Shared) (u : Value), BindsTo s fd ⟨[u], []⟩ [(x, u)]) ∧
        ∀ base : Heap, (K w.params).In base → base.Ns mainGlobals mg → FnOk l.prog w (K w.params) mg base (CX w) k fa fd [x] (sp w))
    (hsp : ∀ (w : World) (H : Hp) (a : Addr) (ns : List Int), ns.length ≤ n → Only H → SqL (K w.params) H a (ns.map V.int) → sp w [.ref a] H (fun v _ => v = .bl true) fun _ _ _ => False)
    (hCX : ∀ (w : World) (H : Hp) (s : Shared) (e : Value) (s' : Shared), CX w [] H s (fun _ _ _ => False) e s' → False) :
    PySem.W.WalkO q loose XP YP l.row.toRowW d [] (fun f vs => PySem.call f vs) := by
  refine Att.attach_call hn hdf fun w s₀ s₁ mg mb fa o pm cd doc a vs ns G Y ho hd hcd hmg hobj hints hlen hg => ?_
  have KX := hY w _ Y
  obtain ⟨fd, hb, hF⟩ := F w mg fa _ KX G.T.g hmg
  exact law_call KX G.T.g G.T.b G.T.builtins G.T.nolimit hg hobj hints (Nat.le_trans hlen hn2) hr hF hb (fun H hO hS => hsp w H a ns hlen hO hS) fun H e s' => hCX w H s₁ e s'
/-- the same where the promise hangs on the written part alone: (sp := My.sp_law), no hole under a binder -/
theorem walk_ofK {l : PySem.W.OpenLaw} {n k : Nat} {q : Program} {loose : List Str} {XP : (Str → Option Value) → Heap → Prop} {YP : World → Heap → Prop} {d : DefRec} {K : Params → PySem.W.Frag} {CX : CXT} {sp : PySem.W.Frag → Sp} {x : Str}
    (hn : l.most = some n) (hn2 : n ≤ sizeLine) (hdf : d.params.defaults = []) (hr : Room k callerA)
    (hY : ∀ (w : World) (h : Heap), YP w h → (K w.params).In h)
    (F : ∀ (w : World) (mg : Str → Option Value) (fa : Addr) (h : Heap), (K w.params).In h → h.Ns mainGlobals mg → mg d.name = some (.ref fa) →
      ∃ fd : FuncData, (∀ (s : Shared) (u : Value), BindsTo s fd ⟨[u], []⟩ [(x, u)]) ∧
        ∀ base : Heap, (K w.params).In base → base.Ns mainGlobals mg → FnOk l.prog w (K w.params) mg base CX k fa fd [x] (sp (K w.params)))
    (hsp : ∀ (K : PySem.W.Frag) (H : Hp) (a : Addr) (ns : List Int), ns.length ≤ n → Only H → SqL K H a (ns.map V.int) → sp K [.ref a] H (fun v _ => v = .bl true) fun _ _ _ => False)
    (hCX : ∀ (H : Hp) (s : Shared) (e : Value) (s' : Shared), CX [] H s (fun _ _ _ => False) e s' → False) :
    PySem.W.WalkO q loose XP YP l.row.toRowW d [] (fun f vs => PySem.call f vs) :=
  walk_of (K := K) (CX := fun _ => CX) (sp := fun w => sp (K w.params)) hn hn2 hdf hr hY F (fun w H a ns h1 h2 h3 => hsp (K w.params) H a ns h1 h2 h3) fun _ H s e s' => hCX H s e s'
end L2

/- THE LAST THEOREM (shape; LID, My.* are yours):
   My.Adr: a structure of the addresses that your layer names (classes, functions); My.Txt K t: a structure (Prop) of the equations over K;
   My.txt_mk : {K} {implicit addresses ..} (e1 : nsIn K mainGlobals "law" = some (some (.ref f))) (e2 : K.lookup f = some ⟨oc, od, .func (fnOf "law" "law" params body scope dV kV doc pm an cdv ct), sl⟩) (e3 : codeIn K cdv "law" = true) .. : ∃ t, My.Txt K t

set_option maxRecDepth 100000 in
set_option maxHeartbeats 0 in
theorem PySem.Challenge.cw_LID_holds : PySem.Challenge.rw_LID.Holds := by
  w_on; o_law; k_head; (case hw => w_witness2)
  k_fill
  refine L2.walk_of (l := PySem.Challenge.rw_LID) (n := 63) (k := 40) (x := "script") (CX := fun w => ..) (sp := fun _ => My.sp_law) rfl (by decide) rfl ⟨rfl, by decide, by decide⟩ (fun w h Y => PySem.W.kIn_of Y) ?F ?S ?C
  case F =>
    intro w mg fa h KX G hmg
    have T : ∃ t, My.Txt (L2.KOf KX) t := by
      dsimp only [L2.KOf]                          -- K must stand as «<heap const> w.params» for k_is
      refine' My.txt_mk ?e1 ?e2 ?e3 ..
      (case e1 => PySem.W.k_is)                    -- in the order: a name -> its address -> its object -> its parts
      (case e2 => PySem.W.k_is)
      ..
    obtain ⟨t, T⟩ := T
    have e0 := hmg.symm.trans (PySem.W.mg_of KX G T.law)
    cases e0                                       -- fa is the law's own address
    exact ⟨_, fun s u => .of_eq rfl, fun base kb nb => My.law_fn T kb nb⟩     -- if «.of_eq rfl» comes too early: refine' ⟨_, ?b, fun base kb nb => My.law_fn T kb nb⟩; exact fun s u => .of_eq rfl
  case S => exact fun w H a ns hl hO hS => ..
  case C => exact ..
(the tactic k_is has no namespace: write k_is) -/

/-! SHORT WORDS over the layer: a def of the text, its body, what a loop and a test want. -/
namespace L2
open PySem PySem.Spec PyProof.Rows

/-! ### the text by places -/
/-- the j-th statement of a class's body -/
def inClass (s : Stmt) (j : Nat) : Stmt := match s with
  | .ClassDef _ _ _ body _ _ _ _ _ _ _ => body.getD j (.Pass ⟨0, 0, 0, 0⟩)
  | _ => .Pass ⟨0, 0, 0, 0⟩
def defArgs (s : Stmt) : Arguments := match s with
  | .FunctionDef _ a _ _ _ _ _ _ _ _ => a
  | _ => { posonlyargs := [], args := [], vararg := none, kwonlyargs := [], kw_defaults := [], kwarg := none, defaults := [] }
def defBody (s : Stmt) : List Stmt := match s with
  | .FunctionDef _ _ b _ _ _ _ _ _ _ => b
  | _ => []
def defScope (s : Stmt) : Scope := match s with
  | .FunctionDef _ _ _ _ _ _ sc _ _ _ => sc
  | _ => { kind := .function, names := [], isGenerator := false, isCoroutine := false }

/-! ### no exception leaves a def -/
abbrev CX0 : CXT := fun _ _ _ _ _ _ => False
abbrev E0 : XK := fun _ _ _ => False
theorem pass0 {X : Cx} : Passes CX0 X E0 := fun _ _ _ _ _ _ _ h => h.elim

/-! ### a def (or method) of the text as it stands behind the top -/
structure Fun (K : PySem.W.Frag) (x qual : Str) (st : Stmt) (f : Addr) (fd : FuncData) : Prop where
  ex : ∃ (oc : Value) (od : Option Addr) (kV doc pm : Value) (an : Option Addr) (cdv ct : Value) (osl : Array (Option Value)),
    fd = PySem.W.fnOf x qual (defArgs st) (defBody st) (defScope st) .none kV doc pm an cdv ct ∧ K.lookup f = some ⟨oc, od, .func fd, osl⟩ ∧ PySem.W.codeIn K cdv qual = true
  kp : PySem.W.keepIn K (.ref f) = true
section
variable {P : Program} {w : World} {K : PySem.W.Frag} {mg : Str → Option Value} {base : Heap}
/-- THE RULE for a def: its body as a term of rules, and the reading of that term -/
theorem Fun.ok {x qual : Str} {st : Stmt} {f : Addr} {fd : FuncData} {N ps : List Str} {k : Nat} {sp : Sp} (F : Fun K x qual st f fd) (S : FnScope N ps (defScope st)) (len : ∀ vs H Q E, sp vs H Q E → vs.length = ps.length)
    (hbody : ∀ (cdv : Value) (A : Around) (outer : List Env) (s : Shared) (H : Hp) (vs : List V) (Q : VK) (E : XK), Room k (A.deeper (envOfC qual (defScope st) s.heap.objs.size f cdv)) → sp vs H Q E →
      ∃ t, PSs (cxOf CX0 P w K mg base N qual (defScope st) f cdv A outer s H E).nox (defBody st) t ∧ t { nx := fun _ H' => Q .non H', rt := Q } (start N vs) H) : FnOk P w K mg base CX0 (k + 1) f fd ps sp := by
  obtain ⟨oc, od, kV, doc, pm, an, cdv, ct, osl, rfl, lk, hcd⟩ := F.ex
  refine fn_of lk hcd S len fun A outer s H vs Q E hr hsp => ?_
  obtain ⟨t, h, q⟩ := hbody cdv A outer s H vs Q E hr hsp
  exact ⟨t, h.nox, q⟩
/-- how its arguments bind (no defaults): h is «fun _ _ _ _ _ _ us hl => match us, hl with | [_, _], _ => rfl», one _ a parameter -/
theorem Fun.binds {x qual : Str} {st : Stmt} {f : Addr} {fd : FuncData} {ps : List Str} (F : Fun K x qual st f fd)
    (h : ∀ (kV doc pm : Value) (an : Option Addr) (cdv ct : Value) (us : List Value), us.length = ps.length → bindArgs (PySem.W.fnOf x qual (defArgs st) (defBody st) (defScope st) .none kV doc pm an cdv ct) ⟨us, []⟩ = pure (ps.zip us)) : Binds K fd ps [] := by
  obtain ⟨oc, od, kV, doc, pm, an, cdv, ct, osl, rfl, lk, hcd⟩ := F.ex
  exact .all (h kV doc pm an cdv ct)
theorem fun_mk {x qual : Str} {st : Stmt} {f : Addr} {oc : Value} {od an : Option Addr} {osl : Array (Option Value)} {kV doc pm cdv ct : Value} (l : K.lookup f = some ⟨oc, od, .func (PySem.W.fnOf x qual (defArgs st) (defBody st) (defScope st) .none kV doc pm an cdv ct), osl⟩)
    (c : PySem.W.codeIn K cdv qual = true) (k : PySem.W.keepIn K (.ref f) = true) : Fun K x qual st f (PySem.W.fnOf x qual (defArgs st) (defBody st) (defScope st) .none kV doc pm an cdv ct) := ⟨⟨oc, od, kV, doc, pm, an, cdv, ct, osl, rfl, l, c⟩, k⟩
end
theorem hu_of {A : Around} {k : Nat} (hr : Room k A) : A.units + 1 < cLine := Nat.lt_of_le_of_lt (Nat.add_le_add_left (by decide : 1 ≤ 64) _) hr.units
theorem small1000 {n : Nat} (h : n ≤ 1000) : n < sizeLine := Nat.lt_of_le_of_lt h (by decide)

/-! ### expressions in short: the name that stands in the i-th slot -/
section
variable {X : Cx}
theorem pv (i : Nat) {x : Str} {pos : Pos} (hN : X.N[i]? = some x := by rfl) (hv : Vis X.env.scope x := by first | exact Or.inl rfl | exact Or.inr (Or.inl rfl) | exact Or.inr (Or.inr rfl)) (hd : (x == ("__debug__" : Str)) = false := by decide)
    (hcd : (x == ("__classdict__" : Str)) = false := by decide) : PE X (.Name x pos) (tVar i) := pe_var hN hv hd hcd
end

/-! ### tests -/
theorem iteF {A B : Prop} (h : B) : if false = true then A else B := by
  rw [if_neg Bool.false_ne_true]
  exact h
theorem iteT {A B : Prop} (h : A) : if true = true then A else B := by
  rw [if_pos rfl]
  exact h
theorem ite2 {c A B : Prop} [Decidable c] (h1 : c → A) (h2 : ¬ c → B) : if c then A else B := by
  by_cases h : c
  · rw [if_pos h]
    exact h1 h
  · rw [if_neg h]
    exact h2 h
theorem iteNS {c A B : Prop} [Decidable c] (hc : c) (h : B) : if (!decide c) = true then A else B := by
  rw [decide_eq_true hc]
  exact iteF h

/-! ### heaps -/
/-- all that was tracked is as it was -/
def Same (H H' : Hp) : Prop := ∀ b o, H b = some o → H' b = some o
theorem Same.refl (H : Hp) : Same H H := fun _ _ h => h
theorem Same.trans {H H1 H2 : Hp} (a : Same H H1) (b : Same H1 H2) : Same H H2 := fun c o h => b c o (a c o h)
theorem Same.free {H H' : Hp} (e : Same H H') {l : Addr} (h : H' l = Option.none) : H l = Option.none := by
  cases q : H l with
  | none => rfl
  | some o =>
    rw [e l o q] at h
    cases h
theorem Same.seq {K : PySem.W.Frag} {H H' : Hp} {a : Addr} {xs : List V} (e : Same H H') (h : SqL K H a xs) : SqL K H' a xs := by
  rcases h with (h | ⟨o, h⟩) | h
  · exact .inl (.inl (e _ _ h))
  · exact .inl (.inr ⟨o, e _ _ h⟩)
  · exact .inr h

end L2

namespace L3
open PySem PySem.Spec PyProof.Rows L2

/-- the context of a comprehension's block -/
def blk (X : Cx) (N : List Str) (scope : Scope) (cl : List (Str × Addr)) (C : Addr) (s : Shared) (H : Hp) (fp : List Addr) : Cx :=
  { X with N := N, s₀ := s, H₀ := H, env := compEnvC scope cl C X.env, outer := X.stack, ex := fp, fn := fun _ => false, pn := [], xe := fun _ _ => False }

/-- the scope of a block: own names are local, the others free -/
structure BScope (X : Cx) (scope : Scope) (fr : List Str) (js : List Nat) : Prop where
  kind : scope.kind = .function
  names : ∀ x ∈ scope.names, x.2 = .local → scope.names.lookup x.1 = some .local
  nocell : ∀ x ∈ scope.names, x.2 ≠ .cell
  free : ∀ x ∈ scope.names, x.2 = .free → x.1 ∈ fr
  len : js.length = fr.length
  at_ : ∀ (i j : Nat) (y : Str), js[i]? = some j → fr[i]? = some y → X.N[j]? = some y ∧ X.env.kindOf y = some .cell ∧ (relabel scope X.env).names.lookup y = some .cell

theorem mem_lookup_isSome {α : Type} {y : Str} : ∀ {l : List (Str × α)}, y ∈ l.map (·.1) → ∃ c, l.lookup y = some c
  | [], h => by simp at h
  | (n, a) :: r, h => by
    cases e : y == n with
    | true => exact ⟨a, by simp [List.lookup_cons, e]⟩
    | false =>
      have hr : y ∈ r.map (·.1) := by
        rcases List.mem_cons.mp h with z | z
        · exact absurd z (by simpa using e)
        · exact z
      obtain ⟨c, hc⟩ := mem_lookup_isSome hr
      exact ⟨c, by simp [List.lookup_cons, e, hc]⟩

def σ0 (k : Nat) (js : List Nat) (σ : L2.St) : L2.St := List.replicate k none ++ js.map fun j => (σ[j]?).join

/-- what a comprehension wants of its iterator -/
def CompG (k : Nat) (js : List Nat) (g : TG) (te : TE) (σ : L2.St) (Q : VK) (J : It) (H1 : Hp) : Prop := ∃ W : Nat → Nat → List V → L2.St → Hp → Prop, (∃ m, W 0 m [] (σ0 k js σ) H1) ∧ ∀ i m ys τ H, W i m ys τ H →
  (J.stop i H ∧ ∀ p, H p = none → Q (.ref p) (upd H p (.lst ys))) ∨ (J.go i H ∧ ys.length < sizeLine ∧ ∀ x H', J.yld i H x H' → g x τ H' fun τ2 H2 => ∃ N : V → Hp → Prop, (∀ v H3, N v H3 → ∃ m', m' < m ∧ W (i + 1) m' (ys ++ [v]) τ2 H3) ∧ te τ2 H2 N)
/-- [elt for tg in iter] -/
def tComp (k : Nat) (js : List Nat) (wi : TI) (g : TG) (te : TE) : TE := fun σ H Q => wi σ H (CompG k js g te σ Q)

section
variable {prog : Program} {w : World} {A : Around} {R : Result → Shared → Prop} {s : Shared}
theorem compLoop_any {elt target iter : Expr} {scope : Scope} {pos : Pos} {it acc : Value} {env : Env} (I : Nat → Shared → Prop)
    (turn : ∀ n s, I n s → wpAny (model prog w) A (pyNext it) (fun r s₁ => match r with
      | none => R (.ok .next) s₁
      | some v => wpAny (model prog w) A (letOwnedTupleGo target it v) (fun _ s₁' => wpAny (model prog w) A (assign target env v) (fun _ s₂ => wpAny (model prog w) A (eval elt env) (fun x s₃ =>
          wpAny (model prog w) A (call (.builtin "list.append") [acc, x]) (fun _ s₄ => ∃ m, m < n ∧ I m s₄) (fun _ _ => False) s₃)
          (fun _ _ => False) s₂) (fun _ _ => False) s₁') (fun _ _ => False) s₁) (fun _ _ => False) s)
    (n : Nat) (h : I n s) :
    codeAny (model prog w) A (.compLoop (.ListComp elt [⟨target, iter, [], 0⟩] scope pos) 0 it acc env) R s := by
  refine codeAny_loop rfl I (fun n s hI => ?_) n h
  show wpAny _ _ ((compTurn (.ListComp elt [⟨target, iter, [], 0⟩] scope pos) 0 it acc env).onRaise (fun x => do noteFrame x env; theTreesLotGoes x)) _ _ s
  refine wpAny_noted ?_
  rw [compTurn_list1]
  refine wpAny_bind (wpAny_standAt (wpAny_bind (wpAny_mono (turn n s hI) (fun r s₁ h₁ => ?_) fun _ _ h' => h'.elim)))
  cases r with
  | none => exact wpAny_pure h₁
  | some v =>
    refine wpAny_bind (wpAny_mono h₁ (fun _ s₁' h₁' => ?_) fun _ _ h' => h'.elim)
    exact wpAny_bind (wpAny_mono h₁' (fun _ s₂ h₂ => wpAny_bind (wpAny_bind (wpAny_mono h₂ (fun x s₃ h₃ => wpAny_bind (wpAny_mono h₃
      (fun _ s₄ h₄ => wpAny_pure (wpAny_pure ⟨rfl, h₄⟩)) fun _ _ h' => h'.elim)) fun _ _ h' => h'.elim))) fun _ _ h' => h'.elim)
end

variable {X : Cx}

/-- the block's own frame: nothing that X speaks of -/
structure Away (X : Cx) (pins : List (Addr × Obj)) (H : Hp) (C : Addr) : Prop where
  free : H C = none
  loc : C ≠ X.env.locals
  new : X.s₀.heap.objs.size ≤ C
  cell : ∀ x c, X.env.cells.lookup x = some c → c ≠ C
  pin : ∀ p ∈ X.pn ++ pins, p.1 ≠ C

theorem comp_run {elt tg iter : Expr} {scope : Scope} {cl : List (Str × Addr)} {pos fpos : Pos} {fr own : List Str} {js : List Nat} {wi : TI} {g : TG} {te : TE} {use : Option (Value → Sem Unit)} {Post : Value → Shared → Prop}
    {pins : List (Addr × Obj)} {s : Shared} {σ : L2.St} {H : Hp} {Q : VK}
    (hc : X.calm = true) (hi : PI X tg iter wi) (hclos : closureFor scope X.env = pure cl) (hcl : ∀ y c, cl.lookup y = some c → X.env.cells.lookup y = some c) (hfr : cl.map (·.1) = fr)
    (S : BScope X scope fr js)
    (hg : ∀ C s H fp, PG (blk X (own ++ fr) scope cl C s H fp) tg g) (he : ∀ C s H fp, PE (blk X (own ++ fr) scope cl C s H fp) elt te)
    (hs : ∀ x, foldedSetIterable iter X.env x = pure x)
    (I : L2.Inv X pins σ H s) (h : tComp own.length js wi g te σ H Q)
    (hfin : ∀ (acc C : Addr) (s5 : Shared) (H' : Hp) (m : Str → Option Value), L2.Inv X pins σ H' s5 → s5.heap.Ns C m → Away X pins H' C → Q (.ref acc) H' → compPost (model X.prog X.w) X.A X.xe use Post (.ref acc) C (.ok .next) s5) :
    wpAny (model X.prog X.w) X.A (comprehension (.ListComp elt [⟨tg, iter, [], 0⟩] scope pos) scope X.env fpos (newList []) false (eval iter X.env) use) Post X.xe s := by
  refine wpAny_comprehension_free (use := use) rfl hs hclos S.kind S.names (thn (hi pins s σ H _ I h) fun v s1 h1 => thn h1 fun itv s2 h2 => ?_)
  obtain ⟨it, fp, tn, J, H2, e, I2, T, st2, f2, W, ⟨m0, w0⟩, turn⟩ := h2
  subst e
  refine wpAny_newObj_type (wpAny_newFunctionEnv S.nocell (by intro y hy; simp at hy) (fun h₁ hns₁ hsb₁ => ?_) S.kind)
  dsimp only at hns₁ hsb₁ ⊢
  generalize hH2 : s2.heap.push { cls := .type "list", dict := none, data := .seq ([] : List Value).toArray } = G at hns₁ hsb₁ ⊢
  have hC : G.objs.size = s2.heap.objs.size + 1 := by rw [← hH2, Heap.size_push]
  have hDC : s2.heap.objs.size ≠ G.objs.size := by rw [hC]; exact Nat.ne_of_lt (Nat.lt_succ_self _)
  have below : ∀ b, b < s2.heap.objs.size → b ≠ G.objs.size ∧ b ≠ s2.heap.objs.size := fun b hb => ⟨by rw [hC]; exact Nat.ne_of_lt (Nat.lt_succ_of_lt hb), Nat.ne_of_lt hb⟩
  have old : ∀ b o, s2.heap.get? b = some o → h₁.get? b = some o := fun b o e => hsb₁.extBut b o (below b (Heap.lt_size e)).1 (Heap.get?_push_of_some _ (hH2 ▸ Heap.get?_push_of_some _ e))
  have hacc : h₁.get? s2.heap.objs.size = some { cls := .type "list", data := .seq ([] : List Value).toArray 0 } := hsb₁.extBut _ _ hDC (Heap.get?_push_of_some _ (hH2 ▸ Heap.get?_push_size _ rfl))
  -- the block's context
  let Y : Cx := blk X (own ++ fr) scope cl G.objs.size s2 H2 fp
  have fplt : ∀ b ∈ fp, b < s2.heap.objs.size := fun b hb => by obtain ⟨o, e, _⟩ := T.obj _ _ st2 b hb; exact Heap.lt_size e
  have okY : Y.Ok := by
    refine ⟨I2.ok.mod, S.kind, I2.ok.glob, I2.ok.blt, by show s2.heap.objs.size ≤ G.objs.size; omega, ?_, ?_, ?_, I2.ok.hd, I2.ok.frames, .inl rfl, ?_, I2.bs, Nat.le_trans I2.ok.bsz I2.sz, ?_, ?_, I2.stack, I2.stkFree⟩
    · exact fun x y c e1 e2 => I2.ok.inj x y c (hcl x c e1) (hcl y c e2)
    · intro x hx
      have hx' : (relabel scope X.env).names.lookup x = some .cell ∨ (relabel scope X.env).names.lookup x = some .free := hx
      have hm : ∃ k, (x, k) ∈ scope.names ∧ k = .free := by
        have aux : ∀ kk : NameKind, (kk = .cell ∨ kk = .free) → (relabel scope X.env).names.lookup x = some kk → ∃ k, (x, k) ∈ scope.names ∧ k = .free := by
          intro kk hk el
          obtain ⟨⟨n, k⟩, hmem, e⟩ := List.mem_map.mp (PySem.mem_of_lookup el)
          dsimp only at e
          split at e
          · rename_i hcond
            cases e
            refine ⟨k, hmem, ?_⟩
            simp only [Bool.and_eq_true, beq_iff_eq] at hcond
            exact hcond.1.1
          · cases e
            rcases hk with z | z
            · subst z; exact absurd rfl (S.nocell _ hmem)
            · exact ⟨_, hmem, z⟩
        rcases hx' with z | z
        · exact aux _ (.inl rfl) z
        · exact aux _ (.inr rfl) z
      obtain ⟨k, hmem, hk⟩ := hm
      exact mem_lookup_isSome (l := cl) (by rw [hfr]; exact S.free _ hmem hk)
    · exact fun x c e _ => nomatch e
    · refine fun b hb => ⟨?_, fun x c e => (f2 b hb).2.2.2.2.1 x c (hcl x c e)⟩
      show b ≠ G.objs.size
      exact (below b (fplt b hb)).1
    · intro b o e hb
      rcases (f2 b hb).2.2.2.1 with z | z
      · exact I2.ok.noex b o e z
      · exact absurd (Nat.lt_of_lt_of_le (Heap.lt_size e) (Nat.le_trans I2.ok.bsz z)) (Nat.lt_irrefl _)
    · intro b hb hf
      rcases List.mem_cons.mp (I2.stkSub b hf) with z | z
      · exact (f2 b hb).2.1 z
      · exact (f2 b hb).2.2.1 z
  have lenσ : (σ0 own.length js σ).length = (own ++ fr).length := by unfold σ0; simp [S.len]
  have IY : Inv Y [] (σ0 own.length js σ) H2 { s2 with heap := h₁, toks := s2.toks + ([] : List (Str × Value)).length } := by
    refine ⟨okY, rfl, I2.bare, Un.kept old, ⟨_, hns₁, ?_⟩, ?_, ?_, ?_, fun p hp => absurd (show p ∈ ([] : List (Addr × Obj)) from hp) (by simp), I2.hok.kept old, lenσ⟩
    · intro i x v hN hv _
      have hN' : (own ++ fr)[i]? = some x := hN
      unfold σ0 at hv
      by_cases hlt : i < own.length
      · rw [List.getElem?_append_left (by simpa using hlt), List.getElem?_replicate] at hv
        split at hv <;> cases hv
      · rw [List.getElem?_append_right (by simpa using Nat.le_of_not_lt hlt), List.length_replicate, List.getElem?_map] at hv
        rw [List.getElem?_append_right (Nat.le_of_not_lt hlt)] at hN'
        cases ej : js[i - own.length]? with
        | none => rw [ej] at hv; cases hv
        | some j =>
          rw [ej] at hv
          have hσ : σ[j]? = some (some v) := by
            have hv' : (σ[j]?).join = some v := Option.some.inj hv
            cases q : σ[j]? with
            | none => rw [q] at hv'; cases hv'
            | some o => rw [q] at hv'; have : o = some v := hv'; rw [this]
          obtain ⟨hNj, hk, hkr⟩ := S.at_ _ j x ej hN'
          obtain ⟨m, hn, hl⟩ := I2.loc
          obtain ⟨u, ru, lk⟩ := hl j x v hNj hσ (.inr (.inl hk))
          refine ⟨u, ru, .inr ?_⟩
          rcases lk with ⟨k1, _⟩ | ⟨_, c, ec, ic⟩
          · rw [hk] at k1; cases k1
          · obtain ⟨c', hc'⟩ := mem_lookup_isSome (y := x) (l := cl) (by rw [hfr]; exact List.mem_of_getElem? hN')
            have : c' = c := by have := hcl x c' hc'; rw [ec] at this; exact (Option.some.inj this).symm
            subst this
            refine ⟨?_, c', hc', ?_⟩
            · show (relabel scope X.env).names.lookup x = some .cell ∨ (relabel scope X.env).names.lookup x = some .free
              exact .inl hkr
            · obtain ⟨oc, hoc, hd⟩ := ic
              exact ⟨oc, old _ _ hoc, hd⟩
    · intro x c e
      obtain ⟨v, oc, hoc, hd⟩ := I2.cell x c (hcl x c e)
      exact ⟨v, oc, old _ _ hoc, hd⟩
    · exact I2.hok.fresh (by show s2.heap.objs.size ≤ G.objs.size; omega)
    · exact fun x c e => I2.freeC x c (hcl x c e)
  have accfs : s2.heap.objs.size ∉ frs X.stack := fun hf => by
    rcases List.mem_cons.mp (I2.stkSub _ hf) with z | z
    · exact absurd (by rw [← z] ; exact Nat.le_refl _ : s2.heap.objs.size ≤ X.env.locals) (Nat.not_le.mpr I2.lt)
    · exact I2.nofs (Nat.le_refl _) z
  have acccell : ∀ x c, cl.lookup x = some c → c ≠ s2.heap.objs.size := fun x c e z => by
    obtain ⟨v, oc, hoc, _⟩ := I2.cell x c (hcl x c e)
    exact absurd (Heap.lt_size hoc) (by rw [z]; exact Nat.lt_irrefl _)
  -- records that turn
  have fpY : ∀ {H' : Hp} {pl : List (Addr × Obj)}, (∀ b ∈ fp, H' b = none) → (∀ p ∈ pl, p.1 = s2.heap.objs.size) → ∀ b ∈ fp, FpOk Y pl H' b := fun {H' pl} hn hp b hb =>
    ⟨hn b hb, (below b (fplt b hb)).1, okY.exfs b hb, .inl hb, fun x c e => (f2 b hb).2.2.2.2.1 x c (hcl x c e), fun p hpp => by
      have hpp' : p ∈ pl := by simpa [Y, blk] using hpp
      rw [hp p hpp']; exact Ne.symm (below b (fplt b hb)).2⟩
  have loop : ∀ s₃ : Shared, Inv Y [] (σ0 own.length js σ) H2 s₃ → tn 0 s₃.heap → s₃.heap.get? s2.heap.objs.size = some { cls := .type "list", data := .seq ([] : List Value).toArray 0 } →
      codeAny (model X.prog X.w) X.A (.compLoop (.ListComp elt [⟨tg, iter, [], 0⟩] scope pos) 0 (.ref it) (.ref s2.heap.objs.size) (compEnvC scope cl G.objs.size X.env))
        (compPost (model X.prog X.w) X.A X.xe use Post (.ref s2.heap.objs.size) G.objs.size) s₃ := by
    intro s₃ I3 st3 ha3
    refine compLoop_any (fun n s' => ∃ i ys τ H' its k, Inv Y [(s2.heap.objs.size, { cls := .type "list", data := .seq its.toArray k })] τ H' s' ∧ tn i s'.heap ∧ (∀ b ∈ fp, H' b = none) ∧ Vals ys its ∧ ys.length ≤ sizeLine ∧ W i n ys τ H') ?_ m0 ?_
    · rintro n s4 ⟨i, ys, τ, H4, its, k, I4, st4, fr4, vl, hz, w4⟩
      have pin4 := I4.pin (s2.heap.objs.size, { cls := .type "list", data := .seq its.toArray k }) (by simp [Y, blk])
      rcases turn i n ys τ H4 w4 with ⟨stop, qn⟩ | ⟨go, hlt, step⟩
      · refine thn (T.done Y rfl rfl rfl hc i _ s4 τ H4 _ I4 (fpY fr4 (by simp)) st4 stop) fun r s5 ⟨hr, I5⟩ => ?_
        subst hr
        show compPost _ _ _ _ _ _ _ _ _
        obtain ⟨m5, hn5, _⟩ := I5.loc
        have pin5 := I5.pin (s2.heap.objs.size, { cls := .type "list", data := .seq its.toArray k }) (by simp [Y, blk])
        have nacc : H4 s2.heap.objs.size = none := pin5.2.1
        have B := I5.base
        have nC : H4 G.objs.size = none := I5.free
        refine hfin s2.heap.objs.size G.objs.size s5 (upd H4 s2.heap.objs.size (.lst ys)) m5 ?_ hn5 ?_ (qn _ nacc)
        · refine I2.call' (s' := s5) (ch := fp) I5.os ⟨B.keep, B.slot, fun b o e n hx => ?_, B.there, fun b xs e => ?_, fun b o u e => ?_, fun b ps e => ?_⟩ ?_ I5.bare ?_
          · rw [upd_ne (below b (Heap.lt_size e)).2]; exact B.free b o e n hx
          · have e1 := B.tups b xs e
            rw [upd_ne (ne_of_none e1 nacc)]; exact e1
          · have e1 := B.frzs b o u e
            rw [upd_ne (ne_of_none e1 nacc)]; exact e1
          · obtain ⟨more, e1⟩ := B.tbls b ps e
            exact ⟨more, by rw [upd_ne (ne_of_none e1 nacc)]; exact e1⟩
          · intro b u e
            by_cases hb : b = s2.heap.objs.size
            · subst hb
              rw [upd_same] at e; cases e
              exact ⟨hz, its, k, vl, pin5.1⟩
            · rw [upd_ne hb] at e
              exact (I5.hok b u e).stay (fun c v _ q => q) (fun c q => by rw [upd_ne (ne_of_none q nacc)]; exact q) fun c xs q => by rw [upd_ne (ne_of_none q nacc)]; exact q
          · exact fun b hb => ⟨(f2 b hb).2.2.2.1, (f2 b hb).2.1, (f2 b hb).2.2.2.2.1, (f2 b hb).2.2.2.2.2⟩
        · have hge : s2.heap.objs.size ≤ G.objs.size := by omega
          refine ⟨by rw [upd_ne (Ne.symm hDC)]; exact nC, ?_, Nat.le_trans I2.sz hge, fun x c e z => ?_, fun p hp z => ?_⟩
          · exact Nat.ne_of_gt (Nat.lt_of_lt_of_le I2.lt hge)
          · obtain ⟨v, oc, hoc, _⟩ := I2.cell x c e
            exact absurd (Nat.lt_of_lt_of_le (Heap.lt_size hoc) hge) (by rw [z]; exact Nat.lt_irrefl _)
          · exact absurd (Nat.lt_of_lt_of_le (Heap.lt_size (I2.pin p hp).1) hge) (by rw [z]; exact Nat.lt_irrefl _)
      · refine thn (T.item Y rfl rfl rfl hc i _ s4 τ H4 _ I4 (fpY fr4 (by simp)) st4 go) fun r s5 ⟨u, hr, h5⟩ => ?_
        subst hr
        refine thn h5 fun _ s6 ⟨x, H6, I6, r6, y6, st6, fr6⟩ => ?_
        have I6' := I6.pinned (fpY fr6 (by simp)) (T.obj _ _ st6)
        refine thn (hg _ _ _ _ _ s6 τ H6 x u _ I6' r6 (step x H6 y6)) fun _ s7 ⟨τ7, H7, I7, N, hN, q7⟩ => ?_
        refine thn (he _ _ _ _ _ s7 τ7 H7 _ I7 q7) fun v' s8 ⟨y, H8, I8, r8, n8⟩ => ?_
        obtain ⟨m', hm', w8⟩ := hN _ _ n8
        have pin8 := I8.pin (s2.heap.objs.size, { cls := .type "list", data := .seq its.toArray k }) (by simp [blk])
        have pinfp : ∀ b ∈ fp, ∀ o, s6.heap.get? b = some o → s8.heap.get? b = some o ∧ H8 b = none := fun b hb o e => by
          have := I8.pin (b, o) (List.mem_append_right _ (List.mem_append_right _ (mem_pinsAt hb e)))
          exact ⟨this.1, this.2.1⟩
        refine wpAny_list_append_plain (items := its.toArray) ⟨k, pin8.1⟩ (fun h' ha' hs' => ?_) (by have := vl.length; simp; omega)
        obtain ⟨k', ha'⟩ := ha'
        have I9 : Inv Y [] τ7 H8 { s8 with heap := h' } := by
          refine (I8.pins_of (pins' := []) (by simp)).turned (t' := s8.toks) (it := s2.heap.objs.size) (fun b o hb e => (hs'.2 b hb).trans e) pin8.2.1 ?_ (.inr (Nat.le_refl _)) (fun x c e => acccell x c e) (fun p hp => absurd (show p ∈ ([] : List (Addr × Obj)) from by simpa [Y, blk] using hp) (by simp))
          exact hDC
        have ea : (its.toArray.push v') = (its ++ [v']).toArray := by simp
        rw [ea] at ha'
        refine ⟨m', hm', i + 1, ys ++ [y], τ7, H8, its ++ [v'], k', I9.pins_of ?_, T.keep _ _ _ st6 fun b hb o e => (hs'.2 b (below b (fplt b hb)).2).trans (pinfp b hb o e).1, fun b hb => ?_, vl.append (.cons r8 .nil), ?_, w8⟩
        · intro p hp
          rw [List.mem_singleton.mp hp]
          exact ⟨ha', pin8.2.1, hDC, accfs, fun v z => by cases z⟩
        · obtain ⟨o, e, _⟩ := T.obj _ _ st6 b hb
          exact (pinfp b hb o e).2
        · rw [List.length_append, List.length_singleton]; omega
    · refine ⟨0, [], σ0 own.length js σ, H2, [], 0, I3.pins_of ?_, st3, fun b hb => (f2 b hb).1, .nil, Nat.zero_le _, w0⟩
      intro p hp
      rw [List.mem_singleton.mp hp]
      exact ⟨ha3, I2.hok.fresh (Nat.le_refl _), hDC, accfs, fun v z => by cases z⟩
  have st1 : tn 0 h₁ := T.keep _ _ _ st2 fun b _ o e => old b o e
  exact codeAny_compStart_list (loop _ IY st1 hacc) (T.self _ 0 _ _ _ st1 (loop _ IY st1 hacc))

theorem pe_comp {elt tg iter : Expr} {scope : Scope} {cl : List (Str × Addr)} {pos : Pos} {fr own : List Str} {js : List Nat} {wi : TI} {g : TG} {te : TE}
    (hc : X.calm = true) (hi : PI X tg iter wi) (hclos : closureFor scope X.env = pure cl) (hcl : ∀ y c, cl.lookup y = some c → X.env.cells.lookup y = some c) (hfr : cl.map (·.1) = fr)
    (S : BScope X scope fr js)
    (hg : ∀ C s H fp, PG (blk X (own ++ fr) scope cl C s H fp) tg g) (he : ∀ C s H fp, PE (blk X (own ++ fr) scope cl C s H fp) elt te)
    (hs : ∀ x, foldedSetIterable iter X.env x = pure x := by intro _; rfl) :
    PE X (.ListComp elt [⟨tg, iter, [], 0⟩] scope pos) (tComp own.length js wi g te) := by
  intro pins s σ H Q I h
  rw [eval_ListComp]
  refine comp_run (use := none) hc hi hclos hcl hfr S hg he hs I h fun acc C s5 H' m I5 hn aw q => ?_
  exact ⟨m, hn, fun h' hs' => ⟨.ref acc, H', I5.turned (t' := s5.toks) (fun b o hb e => (hs'.2 b hb).trans e) aw.free aw.loc (.inr aw.new) aw.cell aw.pin, rfl, q⟩⟩
/-- y = [elt for tg in iter] -/
theorem ps_comp {elt tg iter : Expr} {scope : Scope} {cl : List (Str × Addr)} {pos spos py : Pos} {fr own : List Str} {js : List Nat} {wi : TI} {g : TG} {te : TE} {i : Nat} {y : Str}
    (hN : X.N.Nodup) (hi' : X.N[i]? = some y) (hx : Loc X.env.scope y)
    (hc : X.calm = true) (hi : PI X tg iter wi) (hclos : closureFor scope X.env = pure cl) (hcl : ∀ y c, cl.lookup y = some c → X.env.cells.lookup y = some c) (hfr : cl.map (·.1) = fr)
    (S : BScope X scope fr js)
    (hg : ∀ C s H fp, PG (blk X (own ++ fr) scope cl C s H fp) tg g) (he : ∀ C s H fp, PE (blk X (own ++ fr) scope cl C s H fp) elt te)
    (hs : ∀ x, foldedSetIterable iter X.env x = pure x := by intro _; rfl) (hsw : swapsWith (.ListComp elt [⟨tg, iter, [], 0⟩] scope pos) (some (.Name y py)) spos.line X.env = pure true := by rfl)
    (hf : X.fn y = true ∨ X.env.scope.names.lookup y = some .local := by first | exact .inl rfl | exact .inr rfl | assumption) :
    PS X (.Assign [.Name y py] (.ListComp elt [⟨tg, iter, [], 0⟩] scope pos) spos) (tAsg (tComp own.length js wi g te) (gName i)) := by
  intro pins s σ H D I h
  rw [exec_Assign_Name_used _ _ _ _ hsw]
  refine wpAny_bind (wpAny_standAt (wpAny_bind ?_))
  show wpAny _ X.A (do let _ ← comprehension (.ListComp elt [⟨tg, iter, [], 0⟩] scope pos) scope X.env _ (newList []) false (eval iter X.env) (some (assign (.Name y py) X.env))) _ _ s
  refine wpAny_bind (wpAny_mono (comp_run (use := some (assign (.Name y py) X.env)) (Post := fun _ s' => SP X pins D .next s') hc hi hclos hcl hfr S hg he hs I h ?_) (fun _ s' hq => wpAny_pure (wpAny_pure hq)) fun _ _ e => e)
  intro acc C s5 H' m I5 hn aw q
  show wpAny _ X.A (assign (.Name y py) X.env (.ref acc)) _ _ _
  refine wpAny_assign_Name (store_ok2 (v := .ref acc) I5 hN hi' hx rfl (fun s6 I6 ⟨a, hs6, ha⟩ => ?_) hf)
  have hCa : C ≠ a := by
    rcases ha with z | z
    · rw [z]; exact aw.loc
    · exact Ne.symm (aw.cell _ _ z)
  refine ⟨m, hn.sameBut hs6 hCa, fun h' hs' => ?_⟩
  exact ⟨_, H', I6.turned (t' := s6.toks) (fun b o hb e => (hs'.2 b hb).trans e) aw.free aw.loc (.inr aw.new) aw.cell aw.pin, q⟩

/-! the target is one name: the forms one uses -/
section
variable {js : List Nat} {te : TE} {σ : L2.St} {H : Hp} {Q : VK} {K : PySem.W.Frag}
abbrev frees (js : List Nat) (σ : L2.St) : L2.St := js.map fun j => (σ[j]?).join
abbrev CompW (J : It) (js : List Nat) (te : TE) (σ : L2.St) (H1 : Hp) (Q : VK) : Prop := CompG 1 js (gName 0) te σ Q J H1
theorem comp_gen {J : It} {n : Nat} (hn : n ≤ sizeLine) (item : Nat → V → Prop) (Pv : Nat → List V → Hp → Prop) (h0 : Pv 0 [] H) (hgo : ∀ i ys H, i < n → Pv i ys H → J.go i H) (hst : ∀ ys H, Pv n ys H → J.stop n H)
    (hy : ∀ i ys H x H', i < n → Pv i ys H → J.yld i H x H' → H' = H ∧ item i x)
    (hs : ∀ i ys H x, i < n → ys.length = i → Pv i ys H → item i x → te (some x :: frees js σ) H fun v H3 => Pv (i + 1) (ys ++ [v]) H3)
    (hd : ∀ ys H, ys.length = n → Pv n ys H → ∀ p, H p = none → Q (.ref p) (upd H p (.lst ys))) : CompW J js te σ H Q := by
  refine ⟨fun i m ys τ H => m = n - i ∧ i ≤ n ∧ ys.length = i ∧ Pv i ys H ∧ ∃ o, τ = o :: frees js σ, ⟨n, by simp, Nat.zero_le _, rfl, h0, none, rfl⟩, ?_⟩
  rintro i m ys τ H ⟨rfl, hi, hl, p, o, rfl⟩
  by_cases hlt : i < n
  · refine .inr ⟨hgo i ys H hlt p, by omega, fun x H' y => ?_⟩
    obtain ⟨e, hx⟩ := hy i ys H x H' hlt p y
    subst e
    exact ⟨fun v H3 => Pv (i + 1) (ys ++ [v]) H3, fun v H3 p3 => ⟨n - (i + 1), by omega, rfl, hlt, by simp [hl], p3, _, rfl⟩, hs i ys _ x hlt hl p hx⟩
  · have e : i = n := by omega
    subst e
    exact .inl ⟨hst ys H p, hd ys H hl p⟩
theorem comp_list {a : Addr} {xs : List V} (hn : xs.length ≤ sizeLine) (Pv : Nat → List V → Hp → Prop) (h0 : Pv 0 [] H) (hl : ∀ i ys H, Pv i ys H → SqL K H a xs)
    (hs : ∀ i ys H x, xs[i]? = some x → ys.length = i → Pv i ys H → te (some x :: frees js σ) H fun v H3 => Pv (i + 1) (ys ++ [v]) H3)
    (hd : ∀ ys H, ys.length = xs.length → Pv xs.length ys H → ∀ p, H p = none → Q (.ref p) (upd H p (.lst ys))) : CompW (Itl K a) js te σ H Q :=
  comp_gen hn (fun i x => xs[i]? = some x) Pv h0 (fun i ys H hi p => ⟨xs, xs[i], hl _ _ _ p, by simp [hi]⟩) (fun ys H p => ⟨xs, hl _ _ _ p, Nat.le_refl _⟩) (fun i ys H x H' _ p y => ⟨y.1, y.2 xs (hl _ _ _ p)⟩) (fun i ys H x _ hl p hx => hs i ys H x hx hl p) hd
theorem comp_tup {a : Addr} {xs : List V} (hn : xs.length ≤ sizeLine) (Pv : Nat → List V → Hp → Prop) (h0 : Pv 0 [] H) (hl : ∀ i ys H, Pv i ys H → SqT K H a xs)
    (hs : ∀ i ys H x, xs[i]? = some x → ys.length = i → Pv i ys H → te (some x :: frees js σ) H fun v H3 => Pv (i + 1) (ys ++ [v]) H3)
    (hd : ∀ ys H, ys.length = xs.length → Pv xs.length ys H → ∀ p, H p = none → Q (.ref p) (upd H p (.lst ys))) : CompW (Itt K a) js te σ H Q :=
  comp_gen hn (fun i x => xs[i]? = some x) Pv h0 (fun i ys H hi p => ⟨xs, xs[i], hl _ _ _ p, by simp [hi]⟩) (fun ys H p => ⟨xs, hl _ _ _ p, Nat.le_refl _⟩) (fun i ys H x H' _ p y => ⟨y.1, y.2 xs (hl _ _ _ p)⟩) (fun i ys H x _ hl p hx => hs i ys H x hx hl p) hd
theorem comp_range {lo : Int} {n : Nat} (hn : n ≤ sizeLine) (Pv : Nat → List V → Hp → Prop) (h0 : Pv 0 [] H)
    (hs : ∀ i ys H, i < n → ys.length = i → Pv i ys H → te (some (.int (lo + i)) :: frees js σ) H fun v H3 => Pv (i + 1) (ys ++ [v]) H3)
    (hd : ∀ ys H, ys.length = n → Pv n ys H → ∀ p, H p = none → Q (.ref p) (upd H p (.lst ys))) : CompW (Itr lo n) js te σ H Q :=
  comp_gen hn (fun i x => x = .int (lo + i)) Pv h0 (fun i ys H hi p => hi) (fun ys H p => Nat.le_refl _) (fun i ys H x H' _ p y => y) (fun i ys H x hi hl p hx => by subst hx; exact hs i ys H hi hl p) hd
end
end L3

namespace L3
open PySem PySem.Spec PyProof.Rows L2
section
variable {X : Cx} {pins : List (Addr × Obj)} {σ : L2.St} {H : Hp} {s : Shared}
/-- records at ch have turned, a new tuple is laid at a -/
theorem turnedT {h' : Heap} {t' : Nat} {ch : List Addr} {a : Addr} {xs : List V} {its : List Value} (I : L2.Inv X pins σ H s) (k : ∀ b o, b ∉ ch → s.heap.get? b = some o → h'.get? b = some o) (hch : ∀ b ∈ ch, FpOk X pins H b)
    (ho : ∀ b ∈ ch, ∃ o, h'.get? b = some o) (ha : s.heap.objs.size ≤ a) (hz : xs.length ≤ sizeLine) (hv : Vals xs its) (ht : IsTup h' a its.toArray) : L2.Inv X pins σ (upd H a (.tup xs)) { s with heap := h', toks := t' } := by
  have na : H a = none := I.hok.fresh ha
  have nlt : ∀ b o, s.heap.get? b = some o → b ≠ a := fun b o e => Nat.ne_of_lt (Nat.lt_of_lt_of_le (Heap.lt_size e) ha)
  have nch : ∀ b u, H b = some u → b ∉ ch := fun b u e z => by rw [(hch b z).1] at e; cases e
  refine I.step (g' := s.gens) (d' := s.drawn) (ch := ch) (fun b hb => ⟨(hch b hb).2.2.2.1, (hch b hb).2.1, (hch b hb).2.2.2.2.1, (hch b hb).2.2.2.2.2⟩) (fun b o _ _ hc e _ => k b o hc e) (fun b o _ _ hc e _ => ⟨o.slots, k b o hc e⟩)
    (fun b o _ e n => by rw [upd_ne (nlt b o e)]; exact n) (fun b o hc e => ⟨o, k b o hc e⟩) (fun b ys e => by rw [upd_ne (ne_of_none e na)]; exact e) (fun b o u e => by rw [upd_ne (ne_of_none e na)]; exact e)
    (fun b ps e => ⟨#[], by rw [upd_ne (ne_of_none e na), e]; simp⟩) (fun m hm => ?_) (fun b u e => ?_) I.bare
  · obtain ⟨o, es, ep, ho, r⟩ := hm
    exact ⟨o, es, ep, k _ o (fun z => (hch _ z).2.1 rfl) ho, r⟩
  · by_cases hb : b = a
    · subst hb
      rw [upd_same] at e; cases e
      exact ⟨hz, its, hv, ht⟩
    · rw [upd_ne hb] at e
      refine (I.hok b u e).stay (fun c v hc q => k c v ?_ q) (fun c q => by rw [upd_ne (ne_of_none q na)]; exact q) fun c ys q => by rw [upd_ne (ne_of_none q na)]; exact q
      rcases hc with z | z
      · rw [z]; exact nch b u e
      · exact nch c _ z
/-- enumerate(list) -/
def Ite (K : PySem.W.Frag) (a : Addr) : It :=
  ⟨fun i H => ∃ xs x, SqL K H a xs ∧ xs[i]? = some x, fun i H x H' => ∃ p v, H p = none ∧ x = .ref p ∧ (∀ xs, SqL K H a xs → xs[i]? = some v) ∧ H' = upd H p (.tup [.int i, v]), fun i H => ∃ xs, SqL K H a xs ∧ xs.length ≤ i⟩
theorem turn_enum {P : Program} {w : World} {K : PySem.W.Frag} {elts : List Expr} {x1} {pos : Pos} (a e it : Addr) (hei : e ≠ it) :
    Turn P w K (.Tuple elts x1 pos) (Ite K a) [e, it] e (fun i h => (∃ old, IsEnum h e it i old) ∧ h.IsListIter it a i) where
  mem := by simp
  obj := fun i h st b hb => by
    obtain ⟨⟨old, he⟩, ⟨o, ho, hc, hd⟩⟩ := st
    rcases List.mem_cons.mp hb with z | z
    · subst z
      refine ⟨_, he, fun v z => ?_⟩
      have z' : Data.fields _ = Data.cell v := z
      cases z'
    · rw [List.mem_singleton.mp z]
      exact ⟨o, ho, fun v z => by rw [hd] at z; cases z⟩
  keep := fun i h h' st k => ⟨let ⟨old, he⟩ := st.1; ⟨old, k e (by simp) _ he⟩, st.2.at fun o q => k it (by simp) o q⟩
  item := by
    intro X hP hw hK hc i pins s σ H E I hf st hg
    subst hP hw hK
    obtain ⟨xs, x, hq, hx⟩ := hg
    obtain ⟨its, rv, p, hz⟩ := I.list hq
    obtain ⟨u, hu, ru⟩ := rv.get hx
    obtain ⟨⟨old, he⟩, hit⟩ := st
    refine wpAny_pyNext_enum_item he hit p.isList (x := u) (by simpa using hu) hei fun h' ho hit' ht hsz hk => ⟨_, rfl, ?_⟩
    refine wpAny_letOwnedTupleGo_enum ho fun h'' he'' hs'' => ?_
    have helt : e < s.heap.objs.size := Heap.lt_size he
    have hilt : it < s.heap.objs.size := by obtain ⟨_, y, _⟩ := hit; exact Heap.lt_size y
    refine ⟨.ref s.heap.objs.size, upd H s.heap.objs.size (.tup [.int i, x]), ?_, rfl, ⟨_, x, I.hok.fresh (Nat.le_refl _), rfl, fun ys hy => by rw [I.list_inj hy hq]; exact hx, rfl⟩, ⟨⟨_, by simpa using he''⟩, ?_⟩, ?_⟩
    · show L2.Inv X pins σ _ { s with heap := h'', toks := s.toks + 1 }
      refine turnedT (s := s) (its := [.int i s.toks, u]) I (ch := [e, it]) (fun b o hb q => ?_) hf (fun b hb => ?_) (Nat.le_refl _) (by show 2 ≤ sizeLine; decide) (.cons ⟨_, rfl⟩ (.cons ru .nil)) ?_
      · have hb1 : b ≠ e := fun z => hb (by simp [z])
        have hb2 : b ≠ it := fun z => hb (by simp [z])
        exact (hs''.2 b hb1).trans (hk b o hb1 hb2 q)
      · rcases List.mem_cons.mp hb with z | z
        · subst z; exact ⟨_, he''⟩
        · rw [List.mem_singleton.mp z]
          obtain ⟨o, y, _⟩ := hit'
          exact ⟨o, (hs''.2 it (Ne.symm hei)).trans y⟩
      · exact ⟨_, (hs''.2 _ (Nat.ne_of_gt helt)).trans ht, rfl, _, rfl⟩
    · exact hit'.extBut hs''.extBut (Ne.symm hei)
    · intro b hb
      rw [upd_ne]
      · exact (hf b hb).1
      · rcases List.mem_cons.mp hb with z | z
        · subst z; exact Nat.ne_of_lt helt
        · rw [List.mem_singleton.mp z]; exact Nat.ne_of_lt hilt
  done := by
    intro X hP hw hK hc i pins s σ H E I hf st hg
    subst hP hw hK
    obtain ⟨xs, hq, hx⟩ := hg
    obtain ⟨its, rv, p, hz⟩ := I.list hq
    obtain ⟨⟨old, he⟩, hit⟩ := st
    obtain ⟨f0, f1, f2, f3, f4, f5⟩ := hf it (by simp)
    have hl := rv.length
    exact wpAny_pyNext_enum_end (I.ok.hd hc) he hit p.isList (by simp; omega) fun h' eb => ⟨rfl, I.turned (t' := s.toks) (fun b o hb e => eb b o hb e) f0 f1 f3 f4 f5⟩
  self := fun _ _ _ _ _ st h => by
    obtain ⟨⟨old, he⟩, _⟩ := st
    exact wpAny_pyIter_enum he h

def iEnum (K : PySem.W.Frag) (ta : TA) : TI := fun σ H R => ta σ H fun vs H1 => ∃ a, vs = [.ref a] ∧ (∃ xs, SqL K H1 a xs) ∧ R (Ite K a) H1
theorem pi_enum {a : Expr} {ta : TA} {p pos : Pos} {elts : List Expr} {x1} {tpos : Pos} (hg : Gl X "enumerate") (hm : X.mg "enumerate" = none) (ha : PA X [a] ta) (hs : starEach [a] X.env = [(false, eval a X.env)] := by rfl) :
    PI X (.Tuple elts x1 tpos) (.Call (.Name "enumerate" p) [a] [] pos) (iEnum X.K ta) := by
  intro pins s σ H R I h
  refine Call_ (ld_blt I hg hm boot_enumerate (PyProof.Rows.callWith_type1 (thn (ha pos pins s σ H _ I h) fun us s1 ⟨vs, H1, I1, r1, q1⟩ => ?_) hs rfl))
  obtain ⟨l, e, ⟨xs, hq⟩, q⟩ := q1
  subst e
  obtain ⟨u, rfl, ru⟩ := r1.one
  cases ru
  obtain ⟨its, rv, pl, hz⟩ := I1.list hq
  refine call_enumerate_list pl.isList fun h' he hit hsz hk => wpAny_pyIter_enum he ?_
  have I2 : L2.Inv X pins σ H1 { s1 with heap := h' } := I1.kept (t' := s1.toks) hk
  refine ⟨s1.heap.objs.size + 1, [s1.heap.objs.size + 1, s1.heap.objs.size], _, _, H1, rfl, I2, turn_enum l _ _ (Nat.ne_of_gt (Nat.lt_succ_self _)), ⟨⟨_, he⟩, hit⟩, fun b hb => ?_, q⟩
  have hb' : s1.heap.objs.size ≤ b := by
    rcases List.mem_cons.mp hb with z | z
    · rw [z]; exact Nat.le_succ _
    · rw [List.mem_singleton.mp z]; exact Nat.le_refl _
  exact I1.fpOk hb' (I1.hok.fresh hb')
theorem for_enum {K : PySem.W.Frag} {a : Addr} {xs : List V} {g : TG} {tb : TS} {D : Ends} {σ : L2.St} {H : Hp} (Pv : Nat → L2.St → Hp → Prop) (h0 : Pv 0 σ H) (hl : ∀ i σ H, i ≤ xs.length → Pv i σ H → SqL K H a xs)
    (hs : ∀ i x σ H p, xs[i]? = some x → Pv i σ H → H p = none → g (.ref p) σ (upd H p (.tup [.int i, x])) fun σ2 H2 => tb { D with nx := Pv (i + 1), ct := Pv (i + 1), bk := D.nx } σ2 H2) (hd : ∀ σ H, Pv xs.length σ H → D.nx σ H) :
    ∃ W : Nat → Nat → L2.St → Hp → Prop, (∃ m, W 0 m σ H) ∧ ∀ i m σ H, W i m σ H →
      ((Ite K a).stop i H ∧ D.nx σ H) ∨ ((Ite K a).go i H ∧ ∃ N : L2.St → Hp → Prop, (∀ σ' H', N σ' H' → ∃ m', m' < m ∧ W (i + 1) m' σ' H') ∧ ∀ x H', (Ite K a).yld i H x H' → g x σ H' fun σ2 H2 => tb { D with nx := N, ct := N, bk := D.nx } σ2 H2) := by
  refine ⟨fun i m σ H => m = xs.length - i ∧ i ≤ xs.length ∧ Pv i σ H, ⟨xs.length, by simp, Nat.zero_le _, h0⟩, ?_⟩
  rintro i m σ H ⟨rfl, hi, p⟩
  have q := hl i σ H hi p
  by_cases hlt : i < xs.length
  · refine .inr ⟨⟨xs, xs[i], q, by simp [hlt]⟩, Pv (i + 1), fun σ' H' p' => ⟨xs.length - (i + 1), by omega, rfl, hlt, p'⟩, fun x H' y => ?_⟩
    obtain ⟨pp, v, hp, rfl, hv, rfl⟩ := y
    exact hs i v σ H pp (hv xs q) p hp
  · have e : i = xs.length := by omega
    subst e
    exact .inl ⟨⟨xs, q, Nat.le_refl _⟩, hd σ H p⟩
end
end L3

namespace L3
open PySem PySem.Spec PyProof.Rows L2

/-! ### isinstance -/
def subT (t c : String) : Bool := t == c || (t == "bool" && c == "int")
abbrev tysL : List String := ["NoneType", "bool", "int", "str", "list", "tuple"]
abbrev clsL : List String := ["bool", "int", "str", "list", "tuple"]
theorem kit_tab (K : PySem.W.Frag) : ∀ t ∈ tysL, ∀ c ∈ clsL, PySem.W.kitOne K (.type t) (.type c) = some (subT t c) := by
  intro t ht c hc
  simp only [tysL, clsL, List.mem_cons, List.not_mem_nil, or_false] at ht hc
  rcases ht with rfl | rfl | rfl | rfl | rfl | rfl <;> rcases hc with rfl | rfl | rfl | rfl | rfl <;> kernel_rfl
section
variable {X : Cx}
theorem call_isi : CallR X (.builtin "isinstance") (fun xs H Q => ∃ x c t, xs = [x, .ty c] ∧ TyOf X.K H x (.type t) ∧ t ∈ tysL ∧ c ∈ clsL ∧ Q (.bl (subT t c)) H) := by
  intro pins s σ H xs us Q I r h
  obtain ⟨x, c, t, rfl, ty, ht, hc, q⟩ := h
  obtain ⟨u, v, rfl, ru, rv⟩ := vals2 r
  cases (show v = Value.type c from rv)
  exact isinst_ok I ru ty (kit_tab X.K t ht c hc) fun tk => ⟨.bl _, H, I.tok tk, rfl, q⟩

/-! ### all -/
theorem vals_bls : ∀ {bs : List Bool} {us : List Value}, Vals (bs.map V.bl) us → us = bs.map Value.bool
  | [], _, .nil => rfl
  | b :: bs, _, .cons r t => by
    cases (show _ = Value.bool b from r)
    rw [vals_bls t]; rfl
theorem range_all' (bs : List Bool) : ((List.range bs.length).all fun i => (bs[i]?).getD true) = bs.all id := by
  rw [Bool.eq_iff_iff, List.all_eq_true, List.all_eq_true]
  constructor
  · intro h b hb
    obtain ⟨i, hi, e⟩ := List.mem_iff_getElem.mp hb
    have := h i (List.mem_range.mpr hi)
    rw [List.getElem?_eq_getElem hi, Option.getD_some, e] at this
    exact this
  · intro h i hi
    have hi' := List.mem_range.mp hi
    rw [List.getElem?_eq_getElem hi', Option.getD_some]
    exact h _ (List.getElem_mem hi')
theorem call_allB (hc : X.calm = true) : CallR X (.builtin "all") (fun xs H Q => ∃ (p : Addr) (bs : List Bool), xs = [.ref p] ∧ SqL X.K H p (bs.map V.bl) ∧ Q (.bl (bs.all id)) H) := by
  intro pins s σ H xs us Q I r h
  obtain ⟨p, bs, rfl, hq, q⟩ := h
  obtain ⟨u, rfl, ru⟩ := vals1 r
  cases ru
  obtain ⟨its, rv, pl, hz⟩ := I.list hq
  have e := vals_bls rv
  have hl := pl.isList
  have hlt : p < s.heap.objs.size := by obtain ⟨_, e, _⟩ := hl; exact Heap.lt_size e
  refine call_all_walk (wpAny_pyIter_list hl ?_)
  refine ⟨s.heap.objs.size, [s.heap.objs.size, p], [s.heap.objs.size], its.toArray.size, _, _, fun i => (bs[i]?).getD true, rfl, Walks.list (A := X.A.in1) (I.ok.hd hc) _ p (Nat.ne_of_lt hlt) its.toArray,
    ⟨⟨_, Heap.get?_push_size _ rfl, rfl, rfl⟩, hl.push _⟩, fun i v s' Q' E' hP hQ => ?_, fun h' tk hk => ?_⟩
  · have hP' : its[i]? = some v := by simpa using hP
    rw [e, List.getElem?_map] at hP'
    cases eb : bs[i]? with
    | none => rw [eb] at hP'; cases hP'
    | some b =>
      rw [eb] at hP'
      cases (Option.some.inj hP' : Value.bool b = v)
      simp only [eb, Option.getD_some] at hQ
      exact wpAny_truthy_bool hQ
  · have e2 : ((List.range its.toArray.size).all fun i => (bs[i]?).getD true) = bs.all id := by
      rw [List.size_toArray, e, List.length_map]; exact range_all' bs
    rw [e2]
    refine ⟨.bl _, H, I.kept (h' := h') (t' := tk) fun b o q => hk b o (fun hm => ?_) (Heap.get?_push_of_some _ q), rfl, q⟩
    rw [List.mem_singleton.mp hm] at q
    exact Nat.lt_irrefl _ (Heap.lt_size q)

/-! ### is True, is not True -/
theorem op_is_bl : OpR X (compareOp .Is) (fun x y H Q => ∃ a b, x = .bl a ∧ y = .bl b ∧ Q (.bl (decide (a = b))) H) := by
  intro pins s σ H x y v u Q I rx ry h
  obtain ⟨a, b, rfl, rfl, q⟩ := h
  cases (show v = Value.bool a from rx)
  cases (show u = Value.bool b from ry)
  refine wpAny_is_plain rfl ⟨.bl _, H, I, ?_, q⟩
  cases a <;> cases b <;> rfl
theorem op_isnot_bl : OpR X (compareOp .IsNot) (fun x y H Q => ∃ a b, x = .bl a ∧ y = .bl b ∧ Q (.bl (!decide (a = b))) H) := by
  intro pins s σ H x y v u Q I rx ry h
  obtain ⟨a, b, rfl, rfl, q⟩ := h
  cases (show v = Value.bool a from rx)
  cases (show u = Value.bool b from ry)
  refine wpAny_isNot_plain rfl ⟨.bl _, H, I, ?_, q⟩
  cases a <;> cases b <;> rfl

/-! ### range objects, list(range(n)) -/
theorem call_rng1 : CallR X (.type "range") (fun xs H Q => ∃ j : Int, xs = [.int j] ∧ ∀ p, H p = none → Q (.ref p) (upd H p (.rng 0 j))) := by
  intro pins s σ H xs us Q I r h
  obtain ⟨j, rfl, q⟩ := h
  obtain ⟨u, rfl, ru⟩ := vals1 r
  obtain ⟨t, rfl⟩ := ru
  refine call_range_1 ⟨.ref s.heap.objs.size, _, I.laid (o := .rng 0 j) (fun b o e => Heap.get?_push_of_some _ e) (Nat.le_refl _) ⟨_, _, _, Heap.get?_push_size _ rfl⟩, rfl, q _ (I.hok.fresh (Nat.le_refl _))⟩
theorem call_listR (hc : X.calm = true) : CallR X (.type "list") (fun xs H Q => ∃ (p : Addr) (j : Nat), xs = [.ref p] ∧ H p = some (.rng 0 (j : Int)) ∧ j ≤ 2 ^ 24 ∧ ∀ l, H l = none → Q (.ref l) (upd H l (.lst ((List.range j).map fun i => V.int (i : Nat))))) := by
  intro pins s σ H xs us Q I r h
  obtain ⟨p, j, rfl, hp, hj, q⟩ := h
  obtain ⟨u, rfl, ru⟩ := vals1 r
  cases ru
  obtain ⟨t, u, v, e⟩ := I.hok p _ hp
  refine call_list_range (n := j) (I.ok.hd hc) (show IsRange s.heap p 0 (j : Int) 1 t u v from e) (small_one (by omega) (by omega) (by omega) (by omega)) (by rw [rangeSize_one]; split <;> omega) hj fun h' tk acc' c' hk hS' hacc => ?_
  refine ⟨.ref s.heap.objs.size, _, I.laid (h' := h') (t' := tk) hk (Nat.le_refl _) ?_, rfl, q _ (I.hok.fresh (Nat.le_refl _))⟩
  have aux : ∀ (us : List Value) (n k : Nat), us.length = n → (∀ i v, us[i]? = some v → ∃ t, v = Value.int ((k + i : Nat) : Int) t) → Vals ((List.range' k n).map fun i => V.int (i : Nat)) us := by
    intro us
    induction us with
    | nil => intro n k hn _; cases hn; exact .nil
    | cons u us ih =>
      intro n k hn hv
      cases n with
      | zero => cases hn
      | succ n =>
        rw [List.range'_succ, List.map_cons]
        obtain ⟨t, ht⟩ := hv 0 u rfl
        refine .cons ⟨t, by simpa using ht⟩ (ih n (k + 1) (by simpa using hn) fun i v hi => ?_)
        obtain ⟨t, ht⟩ := hv (i + 1) v hi
        exact ⟨t, by rw [ht]; congr 1; omega⟩
  have vals : Vals ((List.range j).map fun i => V.int (i : Nat)) acc'.toList := by
    rw [List.range_eq_range']
    refine aux _ _ 0 (by rw [Array.length_toList]; exact hacc.1) fun i v hi => ?_
    obtain ⟨t, ht⟩ := hacc.2 i v (by rw [← Array.getElem?_toList]; exact hi)
    exact ⟨t, by rw [ht]; congr 1; omega⟩
  exact ⟨by simp only [List.length_map, List.length_range]; exact Nat.le_trans hj (by rw [sizeLine_eq]; decide), acc'.toList, c', vals, hS'⟩

/-! ### tuples: cuts and sums, whatever their length -/
def rSlW : V → Option Int → Option Int → Hp → VK → Prop := fun x lo hi H Q => ∃ a xs, x = .ref a ∧ H a = some (.tup xs) ∧ ∀ p H', Same H H' → H' p = some (.tup (cutV xs lo hi)) → (p = a ∨ H p = none) → Q (.ref p) H'
theorem getItem_tuple_whole {prog : Program} {w : World} {A : Around} {E : Value → Shared → Prop} {s : Shared} {t sl : Addr} {items : Array Value} {vl vu : Value} {lo hi : Option Int} {Q : Value → Shared → Prop} (ht : IsTup s.heap t items) (hs : s.heap.IsSliceOf sl vl vu .none) (pl : IsPart vl lo) (pu : IsPart vu hi)
    (hw : HT.sIx items.size 0 lo = 0 ∧ HT.sIx items.size items.size hi = items.size) (h : Q (.ref t) s) : wpAny (model prog w) A (getItem (.ref t) (.ref sl)) Q E s := by
  obtain ⟨os, hos, hcs, hds⟩ := id hs
  have hTs : s.TypeIs (.ref sl) "slice" := ⟨os, hos, hcs⟩
  unfold getItem
  try with_reducible refine wpAny_holding ?_
  first | refine wpAny_bind (wpAny_pure ?_) | skip
  refine wpAny_bind (wpAny_sequenceKey ht.typeIs (by decide) ?_)
  refine wpAny_bind (wpAny_callSpecial?_slot (name := Str.ofString "__getitem__") ht.typeIs PyProof.Rows.slot_tuple_getitem
    (wpAny_call_entry PyProof.Rows.slot_tuple_getitem ht.typeIs entry_tuple_getitem ?_ (args_tuple_getitem _ _)))
  show wpAny _ _ (Builtin.Tuple.tupleItemsOf (.ref t) >>= _) _ _ s
  refine wpAny_bind (tupleItemsOf_ ht ?_)
  refine wpAny_bind (wpAny_typeOf hTs ?_)
  rw [if_pos (by decide)]
  refine wpAny_bind (HT.sliceApplied_gen hs pl pu ?_)
  show wpAny _ _ (if (((HT.sIx items.size 0 lo : Nat) : Int) == 0 && (1 : Int) == 1 && (HT.sIx items.size items.size hi - HT.sIx items.size 0 lo) == items.size) = true then _ else _) _ _ s
  rw [hw.1, hw.2, if_pos (by simp)]
  refine wpAny_bind (m := Builtin.Tuple.tupleIsExact _) ?_
  unfold Builtin.Tuple.tupleIsExact
  refine wpAny_bind (wpAny_typeOf ht.typeIs (wpAny_pure ?_))
  rw [if_pos (by rfl)]
  exact wpAny_bind (wpAny_rule (wpAny_pure ⟨_, rfl, wpAny_pure h⟩))
theorem sl_tupW : SlR X rSlW := by
  intro pins s σ H x v vl vu lo hi sl Q I rx hs pl pu h
  obtain ⟨a, xs, rfl, hx, q⟩ := h
  by_cases hw : HT.sIx xs.length 0 lo = 0 ∧ HT.sIx xs.length xs.length hi = xs.length
  · cases rx
    obtain ⟨its, r, ht, hz⟩ := I.tuple (SqT.of hx)
    have hlen : its.toArray.size = xs.length := by rw [List.size_toArray]; exact r.length.symm
    refine ⟨"tuple", _, PyProof.Rows.slot_tuple_getitem.lookup, ht.typeIs, ?_⟩
    refine getItem_tuple_whole ht hs pl pu (by rw [hlen]; exact hw) ⟨.ref a, H, I, rfl, q a H (Same.refl H) ?_ (.inl rfl)⟩
    have : cutV xs lo hi = xs := by unfold cutV; rw [hw.1, hw.2]; simp
    rw [this]; exact hx
  · exact sl_tup pins s σ H _ v vl vu lo hi sl Q I rx hs pl pu ⟨a, xs, rfl, SqT.of hx, hw, fun p hp => q p _ (fun b o e => by rw [upd_ne (ne_of_none e hp)]; exact e) upd_same (.inr hp)⟩
def rCatW : R2 := fun x y H Q => ∃ a b xs ys, x = .ref a ∧ y = .ref b ∧ H a = some (.tup xs) ∧ H b = some (.tup ys) ∧ xs.length + ys.length ≤ sizeLine ∧ ∀ p H', Same H H' → H' p = some (.tup (xs ++ ys)) → Q (.ref p) H'
theorem op_catW : OpR X (binaryOp .Add) rCatW := by
  intro pins s σ H x y v u Q I rx ry h
  obtain ⟨a, b, xs, ys, rfl, rfl, ha, hb, hz, q⟩ := h
  by_cases hx : xs = []
  · subst hx
    cases rx
    cases ry
    obtain ⟨its, r1, p1, _⟩ := I.tuple (SqT.of ha)
    obtain ⟨its2, r2, p2, _⟩ := I.tuple (SqT.of hb)
    cases r1
    obtain ⟨⟨cls, dd, data, sl⟩, ho, hc, n, hd⟩ := id p1
    obtain ⟨⟨cls2, dd2, data2, sl2⟩, ho2, hc2, n2, hd2⟩ := id p2
    simp only at hc hd hc2 hd2
    subst hc hd hc2 hd2
    exact concat_meets ⟨_, ho, rfl⟩ ⟨_, ho2, rfl⟩ noFill_tuple_add seq_tuple_add PySem.F.slot_tuple_add PySem.F.entry_tuple_add (PySem.F.args_tuple_add_2 _ _)
      (tuple_addW0 a b _ its2.toArray n n2 dd dd2 sl sl2 (by simp)) ⟨ho, ho2, ⟨.ref b, H, I, rfl, q b H (Same.refl H) hb⟩⟩
  · refine op_catT pins s σ H _ _ v u Q I rx ry ⟨a, b, xs, ys, rfl, rfl, SqT.of ha, SqT.of hb, hx, hz, fun e => q a H (Same.refl H) (by subst e; simpa using ha), fun _ p hp => q p _ (fun b o e => by rw [upd_ne (ne_of_none e hp)]; exact e) upd_same⟩

/-! ### == of lists of ints -/
theorem vals_ix {ns : List Int} {us : List Value} (r : Vals (ns.map V.int) us) (j : Nat) (h : j < us.length) (h' : j < ns.length) : ∃ t, us[j] = Value.int ns[j] t := by
  obtain ⟨u, hu, ru⟩ := r.get (i := j) (x := V.int ns[j]) (by rw [List.getElem?_map, List.getElem?_eq_getElem h']; rfl)
  rw [List.getElem?_eq_getElem h] at hu
  cases hu
  exact ru
theorem all_ints (ns ms : List Int) (h : ns.length = ms.length) : ((List.range ns.length).all fun j => (ns.getD j 0 == ms.getD j 0)) = decide (ns = ms) := by
  rw [Bool.eq_iff_iff, List.all_eq_true, decide_eq_true_iff]
  constructor
  · intro q
    refine List.ext_getElem h fun i h1 h2 => ?_
    have := q i (List.mem_range.mpr h1)
    simp only [List.getD_eq_getElem?_getD, List.getElem?_eq_getElem h1, List.getElem?_eq_getElem h2, Option.getD_some, beq_iff_eq] at this
    exact this
  · rintro rfl i _
    simp
def rEqL (K : PySem.W.Frag) (neg : Bool) : R2 := fun x y H Q => ∃ (a b : Addr) (ns ms : List Int), x = .ref a ∧ y = .ref b ∧ SqL K H a (ns.map V.int) ∧ SqL K H b (ms.map V.int) ∧ Q (.bl (if neg then !decide (ns = ms) else decide (ns = ms))) H
theorem op_eqL (hu : X.A.units + 1 < cLine) : OpR X (compareOp .Eq) (rEqL X.K false) := by
  intro pins s σ H x y v u Q I rx ry h
  obtain ⟨a, b, ns, ms, rfl, rfl, ha, hb, q⟩ := h
  cases rx
  cases ry
  obtain ⟨its, r1, p1, _⟩ := I.list ha
  obtain ⟨its2, r2, p2, _⟩ := I.list hb
  have l1 : ns.length = its.length := by have := r1.length; rwa [List.length_map] at this
  have l2 : ms.length = its2.length := by have := r2.length; rwa [List.length_map] at this
  by_cases hl : ns.length = ms.length
  · refine SeqAt.eq_listAt (e := fun j => ns.getD j 0 == ms.getD j 0) p1.isList p2.isList (by simp; omega) (Nat.lt_of_succ_lt hu) (fun j h1 h2 => ?_) ⟨.bl _, H, I, ?_, q⟩
    · have h1' : j < its.length := by simpa using h1
      have h2' : j < its2.length := by simpa using h2
      obtain ⟨t, e⟩ := vals_ix r1 j h1' (by omega)
      obtain ⟨t', e'⟩ := vals_ix r2 j h2' (by omega)
      simp only [List.getElem_toArray, e, e', List.getD_eq_getElem?_getD, List.getElem?_eq_getElem (show j < ns.length by omega), List.getElem?_eq_getElem (show j < ms.length by omega), Option.getD_some]
      exact SeqAt.EqAt.int_int _ _ _ _
    · show Value.bool _ = Value.bool _
      simp only [List.size_toArray, ← l1, all_ints ns ms hl]
      rfl
  · refine SeqAt.eq_list_lengthsAt p1.isList p2.isList (by simp; omega) (Nat.lt_of_succ_lt hu) ⟨.bl _, H, I, ?_, q⟩
    show Value.bool false = Value.bool _
    simp only [Bool.false_eq_true, if_false]
    rw [decide_eq_false fun z => hl (by rw [z])]
end
end L3

namespace L3
open PySem PySem.Spec PyProof.Rows L2

def notStar : Expr → Bool
  | .Starred .. => false
  | _ => true
theorem star_cons {e : Expr} {es : List Expr} {env : Env} (h : notStar e = true) : starEach (e :: es) env = (false, eval e env) :: starEach es env := by
  cases e <;> first | rfl | cases h
theorem pac {X : Cx} {e : Expr} {es : List Expr} {te : TE} {t : TA} (ha : PE X e te) (hr : PA X es t) (h : notStar e = true := by rfl) : PA X (e :: es) (tCons te t) := pa_cons ha hr (star_cons h)
/-- a def of the text with its promise -/
structure Df (P : Program) (w : World) (K : PySem.W.Frag) (mg : Str → Option Value) (base : Heap) (x : Str) (ps : List Str) (k : Nat) (sp : Sp) : Prop where
  ex : ∃ (f : Addr) (fd : FuncData), FnOk P w K mg base CX0 k f fd ps sp ∧ mg x = some (.ref f) ∧ PySem.W.keepIn K (.ref f) = true ∧ Binds K fd ps []
/-- a def of the text as it stands behind the top -/
structure At (K : PySem.W.Frag) (mg : Str → Option Value) (x : Str) (st : Stmt) (ps : List Str) : Prop where
  ex : ∃ (f : Addr) (fd : FuncData), Fun K x x st f fd ∧ mg x = some (.ref f) ∧ PySem.W.keepIn K (.ref f) = true ∧ Binds K fd ps []
section
variable {P : Program} {w : World} {K : PySem.W.Frag} {mg : Str → Option Value} {base : Heap}
theorem At.df {x : Str} {st : Stmt} {ps N : List Str} {k : Nat} {sp : Sp} (a : At K mg x st ps) (S : FnScope N ps (defScope st)) (len : ∀ vs H Q E, sp vs H Q E → vs.length = ps.length)
    (hbody : ∀ (f : Addr) (cdv : Value) (A : Around) (outer : List Env) (s : Shared) (H : Hp) (vs : List V) (Q : VK) (E : XK), Room k (A.deeper (envOfC x (defScope st) s.heap.objs.size f cdv)) → sp vs H Q E →
      ∃ t, PSs (cxOf CX0 P w K mg base N x (defScope st) f cdv A outer s H E).nox (defBody st) t ∧ t { nx := fun _ H' => Q .non H', rt := Q } (start N vs) H) : Df P w K mg base x ps (k + 1) sp := by
  obtain ⟨f, fd, F, m, kp, bd⟩ := a.ex
  exact ⟨f, fd, F.ok S len (fun cdv A outer s H vs Q E hr h => hbody f cdv A outer s H vs Q E hr h), m, kp, bd⟩
end
section
variable {X : Cx} {x : Str} {ps : List Str} {k : Nat} {sp : Sp} {e : Expr} {es : List Expr} {p pos : Pos} {t : TA}
theorem pe_def (D : Df X.prog X.w X.K X.mg X.base x ps k sp) (hr : Room k X.A) (ha : PA X (e :: es) t) (hg : Gl X x := by rfl) (hdb : (x == ("__debug__" : Str)) = false := by decide) (he : starEach (e :: es) X.env = (false, eval e X.env) :: starEach es X.env := by rfl) (hpl : (backTo pos (starEach es X.env)).any (·.1) = false := by rfl) :
    PE X (.Call (.Name x p) (e :: es) [] pos) (tCall sp [] E0 t) := by
  obtain ⟨f, fd, ok, m, kp, bd⟩ := D.ex
  exact pe_call ok hr hg m kp bd .nil pass0 ha hdb he hpl
end

/-! ### scopes of blocks -/
theorem bsc0 {X : Cx} {scope : Scope} (kind : scope.kind = .function) (names : ∀ x ∈ scope.names, x.2 = .local → scope.names.lookup x.1 = some .local) (nocell : ∀ x ∈ scope.names, x.2 ≠ .cell)
    (free : ∀ x ∈ scope.names, x.2 = .free → x.1 ∈ ([] : List Str)) : BScope X scope [] [] := ⟨kind, names, nocell, free, rfl, fun i j y h => by simp at h⟩
theorem bsc1 {X : Cx} {scope : Scope} {y : Str} {j : Nat} (kind : scope.kind = .function) (names : ∀ x ∈ scope.names, x.2 = .local → scope.names.lookup x.1 = some .local) (nocell : ∀ x ∈ scope.names, x.2 ≠ .cell)
    (free : ∀ x ∈ scope.names, x.2 = .free → x.1 ∈ ([y] : List Str)) (h1 : X.N[j]? = some y) (h2 : X.env.kindOf y = some .cell) (h3 : (relabel scope X.env).names.lookup y = some .cell) : BScope X scope [y] [j] :=
  ⟨kind, names, nocell, free, rfl, fun i j' y' e1 e2 => by
    cases i with
    | zero => cases e1; cases e2; exact ⟨h1, h2, h3⟩
    | succ i => simp at e1⟩
theorem clo1 {X : Cx} {y : Str} {c : Addr} (h : X.env.cells.lookup y = some c) : ∀ z d, ([(y, c)] : List (Str × Addr)).lookup z = some d → X.env.cells.lookup z = some d := fun z d e => by
  by_cases hz : z = y
  · subst hz
    simp at e
    rw [← e]; exact h
  · simp [List.lookup_cons, show (z == y) = false from by simpa using hz] at e

/-! rules whose reading names the written part: for a block -/
theorem ix_listK {X : Cx} {K : PySem.W.Frag} (h : X.K = K) : IxR X (rIxL K) := by subst h; exact ix_list
theorem ix_tupK {X : Cx} {K : PySem.W.Frag} (h : X.K = K) : IxR X (rIxT K) := by subst h; exact ix_tup

/-! ### the law's own box -/
abbrev BoxL (n m k : Int) : HO := .lst [.int n, .int m, .int k]
def Box (H : Hp) (b : Addr) : Prop := ∃ n m k : Int, H b = some (BoxL n m k)
/-- all but b as it was, b a box -/
structure Gr (b : Addr) (H H' : Hp) : Prop where
  kp : ∀ c o, c ≠ b → H c = some o → H' c = some o
  bx : Box H' b
theorem Gr.refl {b : Addr} {H : Hp} (h : Box H b) : Gr b H H := ⟨fun _ _ _ e => e, h⟩
theorem Gr.trans {b : Addr} {H H1 H2 : Hp} (x : Gr b H H1) (y : Gr b H1 H2) : Gr b H H2 := ⟨fun c o n e => y.kp c o n (x.kp c o n e), y.bx⟩
theorem _root_.L2.Same.gr {b : Addr} {H H' : Hp} (x : Same H H') (h : Box H b) : Gr b H H' := ⟨fun c o _ e => x c o e, let ⟨n, m, k, e⟩ := h; ⟨n, m, k, x _ _ e⟩⟩
theorem Gr.same {b : Addr} {H H1 H2 : Hp} (x : Gr b H H1) (y : Same H1 H2) : Gr b H H2 := x.trans (y.gr x.bx)
theorem _root_.L2.Same.upd {H : Hp} {p : Addr} {o : HO} (h : H p = none) : Same H (upd H p o) := fun b u e => by rw [upd_ne (ne_of_none e h)]; exact e
theorem Gr.none {b c : Addr} {H H' : Hp} (x : Gr b H H') (hb : c ≠ b) (h : H' c = Option.none) : H c = Option.none := by
  cases e : H c with
  | none => rfl
  | some o => rw [x.kp c o hb e] at h; cases h
/-- nothing new below: an address that is free behind was free ahead -/
theorem Gr.free {b c : Addr} {H H' : Hp} (x : Gr b H H') (h : H' c = Option.none) : H c = Option.none ∨ c = b := by
  by_cases e : c = b
  · exact .inr e
  · exact .inl (x.none e h)

theorem b01_lo (c : Bool) : -(2 ^ 64 : Int) < (if c = true then (1 : Int) else 0) := by cases c <;> decide
theorem b01_hi (c : Bool) : (if c = true then (1 : Int) else 0) < (2 ^ 64 : Int) := by cases c <;> decide
theorem ixN_nat {n j : Nat} (h : j < n) : ixN n (j : Int) = some j := by unfold ixN; rw [if_pos (by omega), if_pos (by omega)]; simp
def cutI (ns : List Int) (lo hi : Option Int) : List Int := (ns.drop (HT.sIx ns.length 0 lo)).take (HT.sIx ns.length ns.length hi - HT.sIx ns.length 0 lo)
theorem cut_ints (ns : List Int) (lo hi : Option Int) : cutV (ns.map V.int) lo hi = (cutI ns lo hi).map V.int := by unfold cutV cutI; rw [List.length_map, List.map_take, List.map_drop]
theorem cutI_len (ns : List Int) (lo hi : Option Int) : (cutI ns lo hi).length = min (HT.sIx ns.length ns.length hi - HT.sIx ns.length 0 lo) (ns.length - HT.sIx ns.length 0 lo) := by unfold cutI; rw [List.length_take, List.length_drop]
theorem emod_nat (i m : Nat) : (i : Int) % (m : Int) = ((i % m : Nat) : Int) := by simp
theorem ints_get {ns : List Int} {i : Nat} {x : V} (h : (ns.map V.int)[i]? = some x) : ∃ z, x = .int z ∧ ns[i]? = some z := by
  rw [List.getElem?_map] at h
  cases e : ns[i]? with
  | none => rw [e] at h; cases h
  | some z => rw [e] at h; exact ⟨z, (Option.some.inj h).symm, rfl⟩
theorem ints_at {ns : List Int} {i : Nat} (h : i < ns.length) : (ns.map V.int)[i]? = some (.int ns[i]) := by rw [List.getElem?_map, List.getElem?_eq_getElem h]; rfl
theorem ints_set (ns : List Int) (i : Nat) (z : Int) : (ns.map V.int).set i (.int z) = (ns.set i z).map V.int := by rw [List.map_set]
def spBox (K : PySem.W.Frag) : Sp := fun vs H Q _ => ∃ (a : Addr) (ns : List Int) (k : Nat), vs = [.ref a, .int k] ∧ SqL K H a (ns.map V.int) ∧ ∀ b H', H b = none → Same H H' → Box H' b → Q (.ref b) H'
def spTake : Sp := fun vs H Q _ => ∃ (b : Addr) (many : Int), vs = [.ref b, .int many] ∧ Box H b ∧ 0 < many ∧ many < 1073741824 ∧ ∀ r H', 0 ≤ r → r < many → Gr b H H' → Q (.int r) H'
def spFolded (K : PySem.W.Frag) : Sp := fun vs H Q _ => ∃ (a : Addr) (ns : List Int) (many : Nat), vs = [.ref a, .int many] ∧ SqL K H a (ns.map V.int) ∧ ns.length ≤ 63 ∧ 0 < many ∧ many ≤ 63 ∧
  ∀ l (ms : List Int) H', Same H H' → H' l = some (.lst (ms.map V.int)) → ms.length ≤ many → Q (.ref l) H'

/-! ### things of known kind -/
def kdO : Option HO → Option String
  | some (.lst _) => some "list"
  | some (.tup _) => some "tuple"
  | _ => none
def kd (H : Hp) : V → Option String
  | .non => some "NoneType"
  | .bl _ => some "bool"
  | .int _ => some "int"
  | .str _ => some "str"
  | .ref a => kdO (H a)
  | _ => none
theorem kdO_cases {o : Option HO} {t : String} (h : kdO o = some t) : (∃ xs, o = some (.lst xs) ∧ t = "list") ∨ (∃ xs, o = some (.tup xs) ∧ t = "tuple") := by
  cases o with
  | none => cases h
  | some u =>
    cases u with
    | lst xs => cases h; exact .inl ⟨xs, rfl, rfl⟩
    | tup xs => cases h; exact .inr ⟨xs, rfl, rfl⟩
    | _ => cases h
theorem kd_ref {H : Hp} {a : Addr} {t : String} (h : kd H (.ref a) = some t) : (∃ xs, H a = some (.lst xs) ∧ t = "list") ∨ (∃ xs, H a = some (.tup xs) ∧ t = "tuple") := kdO_cases h
theorem kd_ty {K : PySem.W.Frag} {H : Hp} {x : V} {t : String} (h : kd H x = some t) : TyOf K H x (.type t) ∧ t ∈ tysL := by
  cases x with
  | non => cases h; exact ⟨.non, by simp⟩
  | bl b => cases h; exact ⟨.bl b, by simp⟩
  | int i => cases h; exact ⟨.int i, by simp⟩
  | str x => cases h; exact ⟨.str x, by simp⟩
  | byt b => cases h
  | flt b => cases h
  | ty b => cases h
  | ref a =>
    rcases kd_ref h with ⟨xs, e, rfl⟩ | ⟨xs, e, rfl⟩
    · exact ⟨.lst e, by simp⟩
    · exact ⟨.tup e, by simp⟩
theorem kd_mono {H H' : Hp} {x : V} {t : String} (s : Same H H') (h : kd H x = some t) : kd H' x = some t := by
  cases x with
  | ref a =>
    rcases kd_ref h with ⟨xs, e, rfl⟩ | ⟨xs, e, rfl⟩
    · show kdO (H' a) = _; rw [s _ _ e]; rfl
    · show kdO (H' a) = _; rw [s _ _ e]; rfl
  | _ => exact h
theorem kd_gr {b : Addr} {H H' : Hp} {x : V} {t : String} (hb : Box H b) (s : Gr b H H') (h : kd H x = some t) : kd H' x = some t := by
  cases x with
  | ref a =>
    by_cases ha : a = b
    · subst ha
      obtain ⟨_, _, _, e⟩ := hb
      obtain ⟨_, _, _, e'⟩ := s.bx
      have h' : kdO (H a) = some t := h
      show kdO (H' a) = some t
      rw [e] at h'
      rw [e']
      exact h'
    · rcases kd_ref h with ⟨xs, e, rfl⟩ | ⟨xs, e, rfl⟩
      · show kdO (H' a) = _; rw [s.kp _ _ ha e]; rfl
      · show kdO (H' a) = _; rw [s.kp _ _ ha e]; rfl
  | _ => exact h
theorem kd_tup {H : Hp} {a : Addr} {xs : List V} (h : H a = some (.tup xs)) : kd H (.ref a) = some "tuple" := by show kdO (H a) = _; rw [h]; rfl
theorem kd_lst {H : Hp} {a : Addr} {xs : List V} (h : H a = some (.lst xs)) : kd H (.ref a) = some "list" := by show kdO (H a) = _; rw [h]; rfl
theorem tup_of_kd {H : Hp} {x : V} (h : kd H x = some "tuple") : ∃ a xs, x = .ref a ∧ H a = some (.tup xs) := by
  cases x with
  | ref a =>
    rcases kd_ref h with ⟨xs, e, z⟩ | ⟨xs, e, z⟩
    · exact absurd z (by decide)
    · exact ⟨a, xs, rfl, e⟩
  | non => simp [kd] at h
  | bl _ => simp [kd] at h
  | int _ => simp [kd] at h
  | str _ => simp [kd] at h
  | byt _ => simp [kd] at h
  | flt _ => simp [kd] at h
  | ty _ => simp [kd] at h
def isDig : V → Bool
  | .int i => decide (0 ≤ i) && decide (i < 16)
  | _ => false
theorem subT_tup {t : String} (ht : t ∈ tysL) (h : subT t "tuple" = true) : t = "tuple" := by
  simp only [tysL, List.mem_cons, List.not_mem_nil, or_false] at ht
  rcases ht with rfl | rfl | rfl | rfl | rfl | rfl <;> first | rfl | exact absurd h (by decide)
theorem int_of_kd {H : Hp} {x : V} {t : String} (h : kd H x = some t) : (subT t "bool" = true → isDig x = false) ∧ (subT t "int" = false → isDig x = false) ∧ (subT t "bool" = false → subT t "int" = true → ∃ i, x = .int i) := by
  cases x with
  | non => cases h; exact ⟨fun _ => rfl, fun _ => rfl, fun _ z => absurd z (by decide)⟩
  | bl b => cases h; exact ⟨fun _ => rfl, fun _ => rfl, fun z => absurd z (by decide)⟩
  | int i => cases h; exact ⟨fun z => absurd z (by decide), fun z => absurd z (by decide), fun _ _ => ⟨i, rfl⟩⟩
  | str x => cases h; exact ⟨fun _ => rfl, fun _ => rfl, fun _ z => absurd z (by decide)⟩
  | byt b => cases h
  | flt b => cases h
  | ty b => cases h
  | ref a =>
    rcases kd_ref h with ⟨xs, e, rfl⟩ | ⟨xs, e, rfl⟩
    · exact ⟨fun _ => rfl, fun _ => rfl, fun _ z => absurd z (by decide)⟩
    · exact ⟨fun _ => rfl, fun _ => rfl, fun _ z => absurd z (by decide)⟩
/-- a thing whose kind is known, its items' kinds too if it is a tuple -/
def Kn (H : Hp) (x : V) : Prop := (∃ t, kd H x = some t) ∧ ∀ a xs, x = .ref a → H a = some (.tup xs) → ∀ y ∈ xs, ∃ t, kd H y = some t
theorem Kn.non {H : Hp} : Kn H .non := ⟨⟨_, rfl⟩, fun _ _ h => nomatch h⟩
theorem Kn.bl {H : Hp} {b : Bool} : Kn H (.bl b) := ⟨⟨_, rfl⟩, fun _ _ h => nomatch h⟩
theorem Kn.int {H : Hp} {i : Int} : Kn H (.int i) := ⟨⟨_, rfl⟩, fun _ _ h => nomatch h⟩
theorem Kn.str {H : Hp} {x : Str} : Kn H (.str x) := ⟨⟨_, rfl⟩, fun _ _ h => nomatch h⟩
theorem Kn.lst {H : Hp} {a : Addr} {xs : List V} (h : H a = some (.lst xs)) : Kn H (.ref a) := ⟨⟨_, kd_lst h⟩, fun c ys e1 e2 => by cases e1; rw [h] at e2; cases e2⟩
theorem Kn.tup {H : Hp} {a : Addr} {xs : List V} (h : H a = some (.tup xs)) (k : ∀ y ∈ xs, ∃ t, kd H y = some t) : Kn H (.ref a) := ⟨⟨_, kd_tup h⟩, fun c ys e1 e2 => by cases e1; rw [h] at e2; cases e2; exact k⟩
theorem Kn.same {H H' : Hp} {x : V} (s : Same H H') (k : Kn H x) : Kn H' x := by
  obtain ⟨⟨t, h⟩, hi⟩ := k
  refine ⟨⟨t, kd_mono s h⟩, fun a xs e1 e2 y hy => ?_⟩
  subst e1
  rcases kd_ref h with ⟨zs, e, _⟩ | ⟨zs, e, _⟩
  · rw [s _ _ e] at e2; cases e2
  · rw [s _ _ e] at e2; cases e2
    obtain ⟨t', h'⟩ := hi a _ rfl e y hy
    exact ⟨t', kd_mono s h'⟩
theorem Kn.gr {b : Addr} {H H' : Hp} {x : V} (hb : Box H b) (s : Gr b H H') (k : Kn H x) : Kn H' x := by
  obtain ⟨⟨t, h⟩, hi⟩ := k
  refine ⟨⟨t, kd_gr hb s h⟩, fun a xs e1 e2 y hy => ?_⟩
  subst e1
  have ha : a ≠ b := fun z => by
    subst z
    obtain ⟨_, _, _, e⟩ := s.bx
    rw [e] at e2; cases e2
  rcases kd_ref h with ⟨zs, e, _⟩ | ⟨zs, e, _⟩
  · rw [s.kp _ _ ha e] at e2; cases e2
  · rw [s.kp _ _ ha e] at e2; cases e2
    obtain ⟨t', h'⟩ := hi a _ rfl e y hy
    exact ⟨t', kd_gr hb s h'⟩
/-- an item at a drawn place -/
theorem draw_at {α : Type} {xs : List α} {r : Int} (h0 : 0 ≤ r) (h1 : r < xs.length) : ∃ v, atI xs r = some v ∧ v ∈ xs := by
  have hr : r.toNat < xs.length := by omega
  refine ⟨xs[r.toNat], ?_, List.getElem_mem hr⟩
  have e : atI xs ((r.toNat : Nat) : Int) = some xs[r.toNat] := atI_nat (List.getElem?_eq_getElem hr)
  rwa [show ((r.toNat : Nat) : Int) = r by omega] at e
theorem draw_ix {n : Nat} {r : Int} (h0 : 0 ≤ r) (h1 : r < n) : ∃ j, ixN n r = some j ∧ j < n := by
  have hr : r.toNat < n := by omega
  refine ⟨r.toNat, ?_, hr⟩
  have e : ixN n ((r.toNat : Nat) : Int) = some r.toNat := ixN_nat hr
  rwa [show ((r.toNat : Nat) : Int) = r by omega] at e
def spOdd : Sp := fun vs H Q _ => ∃ (b : Addr), vs = [.ref b] ∧ Box H b ∧ ∀ x H', Gr b H H' → Kn H' x → Q x H'
def spLaw (K : PySem.W.Frag) : Sp := fun vs H Q _ => ∃ (a : Addr) (ns : List Int), vs = [.ref a] ∧ SqL K H a (ns.map V.int) ∧ ns.length ≤ 63 ∧ ∀ H', Q (.bl true) H'
def spDigit : Sp := fun vs H Q _ => ∃ x t, vs = [x] ∧ kd H x = some t ∧ Q (.bl (isDig x)) H
def spDigits : Sp := fun vs H Q _ => ∃ p xs, vs = [.ref p] ∧ H p = some (.tup xs) ∧ xs.length ≤ sizeLine ∧ (∀ x ∈ xs, ∃ t, kd H x = some t) ∧ ∀ H', Same H H' → Q (.bl (xs.all isDig)) H'
def keyB (H : Hp) : V → Bool
  | .ref a => match H a with
    | some (.tup xs) => decide (1 ≤ xs.length) && decide (xs.length ≤ 8) && xs.all isDig
    | _ => false
  | _ => false
theorem keyB_tup {H : Hp} {a : Addr} {xs : List V} (h : H a = some (.tup xs)) : keyB H (.ref a) = (decide (1 ≤ xs.length) && decide (xs.length ≤ 8) && xs.all isDig) := by simp only [keyB, h]
theorem keyB_not {H : Hp} {x : V} {t : String} (h : kd H x = some t) (ht : subT t "tuple" = false) : keyB H x = false := by
  cases x with
  | ref a =>
    rcases kd_ref h with ⟨xs, e, rfl⟩ | ⟨xs, e, rfl⟩
    · simp only [keyB, e]
    · exact absurd ht (by decide)
  | _ => rfl
theorem keyB_same {H H' : Hp} {x : V} (s : Same H H') (k : Kn H x) : keyB H' x = keyB H x := by
  obtain ⟨⟨t, h⟩, _⟩ := k
  cases x with
  | ref a =>
    rcases kd_ref h with ⟨zs, e, _⟩ | ⟨zs, e, _⟩
    · simp only [keyB, e, s _ _ e]
    · simp only [keyB, e, s _ _ e]
  | _ => rfl
def spKey : Sp := fun vs H Q _ => ∃ x, vs = [x] ∧ Kn H x ∧ ∀ H', Same H H' → Q (.bl (keyB H x)) H'
end L3

namespace L3
open PySem PySem.Spec L2
/-! the judgements as structures: nested terms then elaborate in time that is linear -/
structure QE (X : Cx) (e : Expr) (t : TE) : Prop where
  h : PE X e t
structure QT (X : Cx) (e : Expr) (t : TT) : Prop where
  h : PT X e t
structure QW (X : Cx) (e : Expr) (t : TT) : Prop where
  h : PW X e t
structure QA (X : Cx) (e : List Expr) (t : TA) : Prop where
  h : PA X e t
structure QS (X : Cx) (e : Stmt) (t : TS) : Prop where
  h : PS X e t
structure QSs (X : Cx) (e : List Stmt) (t : TS) : Prop where
  h : PSs X e t
structure QG (X : Cx) (e : Expr) (t : TG) : Prop where
  h : PG X e t
structure QGs (X : Cx) (e : List Expr) (t : TGs) : Prop where
  h : PGs X e t
structure QO (X : Cx) (e : Option Expr) (t : TO) : Prop where
  h : PO X e t
structure QI (X : Cx) (tg e : Expr) (t : TI) : Prop where
  h : PI X tg e t
variable {X : Cx}
theorem qe_int  {i j pos} : QE X (.Constant (.int i) j pos) (tC (.int i)) := ⟨pe_int ⟩
theorem qe_bl  {b j pos} : QE X (.Constant (.bool b) j pos) (tC (.bl b)) := ⟨pe_bl ⟩
theorem qe_non  {j pos} : QE X (.Constant .none j pos) (tC .non) := ⟨pe_non ⟩
theorem qe_str  {x j pos} : QE X (.Constant (.str x) j pos) (tC (.str x)) := ⟨pe_str ⟩
theorem qe_glob  {x : Str} {v : V} {u : Value} {pos : Pos} (hg : Gl X x) (hm : X.mg x = some u) (r : RelV v u) (hd : (x == ("__debug__" : Str)) = false := by decide) : QE X (.Name x pos) (tC v) := ⟨pe_glob (hg := hg) (hm := hm) (r := r) (hd := hd)⟩
theorem qe_bltn  {x : Str} {v : V} {u : Value} {pos : Pos} (hg : Gl X x) (hm : X.mg x = none) (hv : bootBuiltins x = some u) (r : RelV v u) (hn : x ≠ "__name__" := by decide) (hd : (x == ("__debug__" : Str)) = false := by decide) : QE X (.Name x pos) (tC v) := ⟨pe_bltn (hg := hg) (hm := hm) (hv := hv) (r := r) (hn := hn) (hd := hd)⟩
theorem qe_op  {a b : Expr} {ta tb : TE} {pos : Pos} {op : Operator} {r : R2} (ho : OpR X (binaryOp op) r) (ha : QE X a ta) (hb : QE X b tb) : QE X (.BinOp a op b pos) (tOp r ta tb) := ⟨pe_op (ho := ho) (ha := ha.h) (hb := hb.h)⟩
theorem qe_un  {a : Expr} {ta : TE} {pos : Pos} {op : UnaryOp} {r : V → Hp → VK → Prop} (ho : UnR X (unaryOp op) r) (ha : QE X a ta) : QE X (.UnaryOp op a pos) (tUn r ta) := ⟨pe_un (ho := ho) (ha := ha.h)⟩
theorem qe_cmpR  {a b : Expr} {ta tb : TE} {pos : Pos} {op : CmpOp} {r : R2} (ho : OpR X (compareOp op) r) (ha : QE X a ta) (hb : QE X b tb) (hm : behindInMarks op b = false) : QE X (.Compare a [op] [b] pos) (tOp r ta tb) := ⟨pe_cmpR (ho := ho) (ha := ha.h) (hb := hb.h) (hm := hm)⟩
theorem qt_cmpR  {a b : Expr} {ta tb : TE} {pos : Pos} {op : CmpOp} {r : R2} (ho : OpR X (compareOp op) r) (ha : QE X a ta) (hb : QE X b tb) (hm : behindInMarks op b = false) : QT X (.Compare a [op] [b] pos) (tTest (tOp r ta tb)) := ⟨pt_cmpR (ho := ho) (ha := ha.h) (hb := hb.h) (hm := hm)⟩
theorem qe_chain  {a b c : Expr} {ta tb tc : TE} {pos : Pos} {op op' : CmpOp} {r r' : R2} (ho : OpR X (compareOp op) r) (ho' : OpR X (compareOp op') r') (ha : QE X a ta) (hb : QE X b tb) (hc : QE X c tc) (hm : lastMarks [op, op'] [b, c] = false := by with_unfolding_all rfl) : QE X (.Compare a [op, op'] [b, c] pos) (tChain r r' ta tb tc) := ⟨pe_chain (ho := ho) (ho' := ho') (ha := ha.h) (hb := hb.h) (hc := hc.h) (hm := hm)⟩
theorem qt_chain  {a b c : Expr} {ta tb tc : TE} {pos : Pos} {op op' : CmpOp} {r r' : R2} (ho : OpR X (compareOp op) r) (ho' : OpR X (compareOp op') r') (ha : QE X a ta) (hb : QE X b tb) (hc : QE X c tc) (hm : lastMarks [op, op'] [b, c] = false := by with_unfolding_all rfl) : QT X (.Compare a [op, op'] [b, c] pos) (tTest (tChain r r' ta tb tc)) := ⟨pt_chain (ho := ho) (ho' := ho') (ha := ha.h) (hb := hb.h) (hc := hc.h) (hm := hm)⟩
theorem qe_and  {a b : Expr} {rest : List Expr} {ta tb : TE} {pos : Pos} (ha : QE X a ta) (hb : QE X (.BoolOp .And (b :: rest) pos) tb) : QE X (.BoolOp .And (a :: b :: rest) pos) (tAndV ta tb) := ⟨pe_and (ha := ha.h) (hb := hb.h)⟩
theorem qe_or  {a b : Expr} {rest : List Expr} {ta tb : TE} {pos : Pos} (ha : QE X a ta) (hb : QE X (.BoolOp .Or (b :: rest) pos) tb) : QE X (.BoolOp .Or (a :: b :: rest) pos) (tOrV ta tb) := ⟨pe_or (ha := ha.h) (hb := hb.h)⟩
theorem qe_one  {a : Expr} {pos : Pos} {op} {t : TE} (h : QE X a t) : QE X (.BoolOp op [a] pos) t := ⟨pe_one (h := h.h)⟩
theorem qe_not  {a : Expr} {ta : TE} {pos : Pos} (ha : QE X a ta) : QE X (.UnaryOp .Not a pos) (tNotV ta) := ⟨pe_not (ha := ha.h)⟩
theorem qw_and  {a b : Expr} {rest : List Expr} {tA tB' : TT} {pos : Pos} (ha : QT X a tA) (hb : QW X (.BoolOp .And (b :: rest) pos) tB') : QW X (.BoolOp .And (a :: b :: rest) pos) (tAnd tA tB') := ⟨pw_and (ha := ha.h) (hb := hb.h)⟩
theorem qw_or  {a b : Expr} {rest : List Expr} {tA tB' : TT} {pos : Pos} (ha : QT X a tA) (hb : QW X (.BoolOp .Or (b :: rest) pos) tB') : QW X (.BoolOp .Or (a :: b :: rest) pos) (tOr tA tB') := ⟨pw_or (ha := ha.h) (hb := hb.h)⟩
theorem qw_and1  {a : Expr} {tA : TT} {pos : Pos} (ha : QT X a tA) : QW X (.BoolOp .And [a] pos) tA := ⟨pw_and1 (ha := ha.h)⟩
theorem qw_or1  {a : Expr} {tA : TT} {pos : Pos} (ha : QT X a tA) : QW X (.BoolOp .Or [a] pos) tA := ⟨pw_or1 (ha := ha.h)⟩
theorem qt_not  {a : Expr} {tA : TT} {pos : Pos} (ha : QT X a tA) : QT X (.UnaryOp .Not a pos) (tNot tA) := ⟨pt_not (ha := ha.h)⟩
theorem qt_val  {e : Expr} {t : TE} (h : QE X e t) (he : ∀ whole, isTrue e X.env whole = (do let v ← whole; standAt e.pos; holding [v] (truthy v)) := by intro _; rfl) : QT X e (tB t) := ⟨pt_val (h := h.h) (he := he)⟩
theorem qe_ifExp  {a b : Expr} {ta tb : TE} {tA : TT} {pos : Pos} {c : Expr} (hc : QT X c tA) (ha : QE X a ta) (hb : QE X b tb) : QE X (.IfExp c a b pos) (tIf tA ta tb) := ⟨pe_ifExp (hc := hc.h) (ha := ha.h) (hb := hb.h)⟩
theorem qac  {e : Expr} {es : List Expr} {te : TE} {t : TA} (ha : QE X e te) (hr : QA X es t) (h : notStar e = true := by rfl) : QA X (e :: es) (tCons te t) := ⟨pac (ha := ha.h) (hr := hr.h) (h := h)⟩
theorem qa_nil  : QA X [] tNil := ⟨pa_nil ⟩
theorem qe_tup  {es : List Expr} {t : TA} {pos : Pos} {x1} (h : QA X es t) : QE X (.Tuple es x1 pos) (tTup t) := ⟨pe_tup (h := h.h)⟩
theorem qe_lst  {es : List Expr} {t : TA} {pos : Pos} (h : QA X es t) : QE X (.List es pos) (tLst t) := ⟨pe_lst (h := h.h)⟩
theorem qe_ix  {a b : Expr} {ta tb : TE} {pos : Pos} {r : R2} (hr : IxR X r) (ha : QE X a ta) (hb : QE X b tb) (hs : PlainIx b) : QE X (.Subscript a b pos) (tOp r ta tb) := ⟨pe_ix (hr := hr) (ha := ha.h) (hb := hb.h) (hs := hs)⟩
theorem qe_slice  {e : Expr} {te : TE} {lo hi : Option Expr} {tl th : TO} {pos p2 : Pos} {r : V → Option Int → Option Int → Hp → VK → Prop} (hr : SlR X r) (he : QE X e te) (hl : QO X lo tl) (hu : QO X hi th) : QE X (.Subscript e (.Slice lo hi none p2) pos) (tSl r te tl th) := ⟨pe_slice (hr := hr) (he := he.h) (hl := hl.h) (hu := hu.h)⟩
theorem qo_none  : QO X none tNoPart := ⟨po_none ⟩
theorem qo_some  {e : Expr} {te : TE} (h : QE X e te) : QO X (some e) (tPart te) := ⟨po_some (h := h.h)⟩
theorem qe_callB  {x : Str} {p pos : Pos} {e : Expr} {es : List Expr} {t : TA} {id : String} {r : List V → Hp → VK → Prop} (hc : CallR X (.builtin id) r) (hg : Gl X x) (hm : X.mg x = none) (hv : bootBuiltins x = some (.builtin id)) (ha : QA X (e :: es) t) (hn : x ≠ "__name__" := by decide) (hdb : (x == ("__debug__" : Str)) = false := by decide) (he : starEach (e :: es) X.env = (false, eval e X.env) :: starEach es X.env := by rfl) (hpl : (backTo pos (starEach es X.env)).any (·.1) = false := by rfl) : QE X (.Call (.Name x p) (e :: es) [] pos) (tCB r t) := ⟨pe_callB (hc := hc) (hg := hg) (hm := hm) (hv := hv) (ha := ha.h) (hn := hn) (hdb := hdb) (he := he) (hpl := hpl)⟩
theorem qe_callTy  {x : Str} {p pos : Pos} {e : Expr} {es : List Expr} {t : TA} {T : String} {r : List V → Hp → VK → Prop} (hc : CallR X (.type T) r) (hg : Gl X x) (hm : X.mg x = none) (hv : bootBuiltins x = some (.type T)) (ha : QA X (e :: es) t) (hn : x ≠ "__name__" := by decide) (hdb : (x == ("__debug__" : Str)) = false := by decide) (he : starEach (e :: es) X.env = (false, eval e X.env) :: starEach es X.env := by rfl) (hpl : (backTo pos (starEach es X.env)).any (·.1) = false := by rfl) : QE X (.Call (.Name x p) (e :: es) [] pos) (tCB r t) := ⟨pe_callTy (hc := hc) (hg := hg) (hm := hm) (hv := hv) (ha := ha.h) (hn := hn) (hdb := hdb) (he := he) (hpl := hpl)⟩
theorem qe_def  {x : Str} {ps : List Str} {k : Nat} {sp : Sp} {e : Expr} {es : List Expr} {p pos : Pos} {t : TA} (D : Df X.prog X.w X.K X.mg X.base x ps k sp) (hr : Room k X.A) (ha : QA X (e :: es) t) (hg : Gl X x := by rfl) (hdb : (x == ("__debug__" : Str)) = false := by decide) (he : starEach (e :: es) X.env = (false, eval e X.env) :: starEach es X.env := by rfl) (hpl : (backTo pos (starEach es X.env)).any (·.1) = false := by rfl) : QE X (.Call (.Name x p) (e :: es) [] pos) (tCall sp [] E0 t) := ⟨pe_def (D := D) (hr := hr) (ha := ha.h) (hg := hg) (hdb := hdb) (he := he) (hpl := hpl)⟩
theorem qss_nil  : QSs X [] tNext := ⟨pss_nil ⟩
theorem qss_cons  {st : Stmt} {rest : List Stmt} {t u : TS} (h1 : QS X st t) (h2 : QSs X rest u) : QSs X (st :: rest) (tSeq t u) := ⟨pss_cons (h1 := h1.h) (h2 := h2.h)⟩
theorem qss_one  {st : Stmt} {t : TS} (h1 : QS X st t) : QSs X [st] t := ⟨pss_one (h1 := h1.h)⟩
theorem qs_set  {pos : Pos} {i : Nat} {x : Str} {e : Expr} {te : TE} {pos' : Pos} (hN : X.N.Nodup) (hi : X.N[i]? = some x) (hx : Loc X.env.scope x) (he : QE X e te) (hs : swapsWith e (some (.Name x pos')) pos.line X.env = pure false := by rfl) (hf : X.fn x = true ∨ X.env.scope.names.lookup x = some .local := by first | exact .inl rfl | exact .inr rfl | assumption) : QS X (.Assign [.Name x pos'] e pos) (tAsg te (gName i)) := ⟨ps_set (hN := hN) (hi := hi) (hx := hx) (he := he.h) (hs := hs) (hf := hf)⟩
theorem qs_asg  {pos : Pos} {tg e : Expr} {te : TE} {g : TG} (he : QE X e te) (hg : QG X tg g) (hs : swapsWithSole [tg] e pos.line X.env = pure false := by rfl) (hw : swappedStores [tg] e X.env = pure none := by rfl) (h1 : (assignEach [tg] X.env).map (·.2) = [assign tg X.env] := by rfl) : QS X (.Assign [tg] e pos) (tAsg te g) := ⟨ps_asg (he := he.h) (hg := hg.h) (hs := hs) (hw := hw) (h1 := h1)⟩
theorem qs_aug  {pos : Pos} {i : Nat} {x : Str} {e : Expr} {te : TE} {op : Operator} {ti : TIp} {pos' : Pos} (hN : X.N.Nodup) (hi : X.N[i]? = some x) (hx : Loc X.env.scope x) (he : QE X e te) (ho : PIp X op ti) (hf : X.fn x = true ∨ X.env.scope.names.lookup x = some .local := by first | exact .inl rfl | exact .inr rfl | assumption) : QS X (.AugAssign (.Name x pos') op e pos) (tAug i te ti) := ⟨ps_aug (hN := hN) (hi := hi) (hx := hx) (he := he.h) (ho := ho) (hf := hf)⟩
theorem qs_ret  {e : Expr} {te : TE} {pos : Pos} (he : QE X e te) : QS X (.Return (some e) pos) (tRet te) := ⟨ps_ret (he := he.h)⟩
theorem qs_retN  {pos : Pos} : QS X (.Return none pos) tRetN := ⟨ps_retN ⟩
theorem qs_if  {t u : TS} {pos : Pos} {c : Expr} {a b : List Stmt} {tc : TT} (hc : QT X c tc) (ha : QSs X a t) (hb : QSs X b u) : QS X (.If c a b pos) (tIfS tc t u) := ⟨ps_if (hc := hc.h) (ha := ha.h) (hb := hb.h)⟩
theorem qs_for  {tg : Expr} {iter : Expr} {body : List Stmt} {wi : TI} {g : TG} {tb : TS} {pos : Pos} (hp : PassesOwn (model X.prog X.w) X.A X.env X.xe) (hc : X.calm = true) (hi : QI X tg iter wi) (hg : QG X tg g) (hb : QSs X body tb) (hs : ∀ x, foldedSetIterable iter X.env x = pure x := by intro _; rfl) : QS X (.For tg iter body [] pos) (tFor wi g tb) := ⟨ps_for (hp := hp) (hc := hc) (hi := hi.h) (hg := hg.h) (hb := hb.h) (hs := hs)⟩
theorem qs_expr  {e : Expr} {te : TE} {pos : Pos} (he : QE X e te) (hs : swapsWith e none pos.line X.env = pure false := by rfl) : QS X (.Expr e pos) (tDrop te) := ⟨ps_expr (he := he.h) (hs := hs)⟩
theorem qs_augS  {pos : Pos} {o i e : Expr} {to ti te : TE} {tget : V → V → Hp → VK → Prop} {tip : TIp} {tset : TSet} {op : Operator} {tpos : Pos} (ho : QE X o to) (hi : QE X i ti) (hg : PGet X tget) (he : QE X e te) (hp : PIp X op tip) (hs : PSet X tset) (ha : ∀ ov iv new, augStore i ov iv new = (do holding [new, ov, iv] (setItem ov iv new); release [new, ov, iv] []; pure .next) := by intros; rfl) : QS X (.AugAssign (.Subscript o i tpos) op e pos) (tAugS to ti te tget tip tset) := ⟨ps_augS (ho := ho.h) (hi := hi.h) (hg := hg) (he := he.h) (hp := hp) (hs := hs) (ha := ha)⟩
theorem qi_list  {tg : Expr} {l : Expr} {tl : TE} (hl : QE X l tl) : QI X tg l (iList X.K tl) := ⟨pi_list (hl := hl.h)⟩
theorem qi_tup  {tg : Expr} {l : Expr} {tl : TE} (hl : QE X l tl) : QI X tg l (iTup X.K tl) := ⟨pi_tup (hl := hl.h)⟩
theorem qi_range1  {tg : Expr} {a : Expr} {ta : TA} {p pos : Pos} (hg : Gl X "range") (hm : X.mg "range" = none) (ha : QA X [a] ta) (hs : starEach [a] X.env = [(false, eval a X.env)] := by rfl) : QI X tg (.Call (.Name "range" p) [a] [] pos) (iRng1 ta) := ⟨pi_range1 (hg := hg) (hm := hm) (ha := ha.h) (hs := hs)⟩
theorem qi_range2  {tg : Expr} {a b : Expr} {ta : TA} {p pos : Pos} (hg : Gl X "range") (hm : X.mg "range" = none) (ha : QA X [a, b] ta) (hs : starEach [a, b] X.env = [(false, eval a X.env), (false, eval b X.env)] := by rfl) (hs2 : starEach [b] X.env = [(false, eval b X.env)] := by rfl) : QI X tg (.Call (.Name "range" p) [a, b] [] pos) (iRng2 ta) := ⟨pi_range2 (hg := hg) (hm := hm) (ha := ha.h) (hs := hs) (hs2 := hs2)⟩
theorem qi_enum  {a : Expr} {ta : TA} {p pos : Pos} {elts : List Expr} {x1} {tpos : Pos} (hg : Gl X "enumerate") (hm : X.mg "enumerate" = none) (ha : QA X [a] ta) (hs : starEach [a] X.env = [(false, eval a X.env)] := by rfl) : QI X (.Tuple elts x1 tpos) (.Call (.Name "enumerate" p) [a] [] pos) (iEnum X.K ta) := ⟨pi_enum (hg := hg) (hm := hm) (ha := ha.h) (hs := hs)⟩
theorem qg_name  {pos : Pos} {i : Nat} {x : Str} (hN : X.N.Nodup) (hi : X.N[i]? = some x) (hx : Loc X.env.scope x) (hf : X.fn x = true ∨ X.env.scope.names.lookup x = some .local := by first | exact .inl rfl | exact .inr rfl | assumption) : QG X (.Name x pos) (gName i) := ⟨pg_name (hN := hN) (hi := hi) (hx := hx) (hf := hf)⟩
theorem qg_tup  {pos : Pos} {es : List Expr} {k : Nat} {t : TGs} {n : Nat} (hc : X.calm = true) (h : QGs X es t) (hn : (assignEach es X.env).length = n := by rfl) (hst : (assignEach es X.env).findIdx? (·.1) = none := by rfl) : QG X (.Tuple es k pos) (gTup X.K n t) := ⟨pg_tup (hc := hc) (h := h.h) (hn := hn) (hst := hst)⟩
theorem qg_sub  {pos : Pos} {o i : Expr} {to ti : TE} {t : TSet} (ho : QE X o to) (hi : QE X i ti) (hs : PSet X t) (ha : ∀ v, assign (.Subscript o i pos) X.env v = (do
      let ov ← holding [v] (eval o X.env)
      let iv ← holding [v, ov] (eval i X.env)
      standAt pos
      holding [v, ov, iv] (setItem ov iv v)
      release [v, ov, iv] []) := by intro _; rfl) : QG X (.Subscript o i pos) (gSub to ti t) := ⟨pg_sub (ho := ho.h) (hi := hi.h) (hs := hs) (ha := ha)⟩
theorem qgs_nil  : QGs X [] gNil := ⟨pgs_nil ⟩
theorem qgs_cons  {e : Expr} {es : List Expr} {t : TG} {u : TGs} (h1 : QG X e t) (h2 : QGs X es u) (hs : (assignEach (e :: es) X.env).map (·.2) = assign e X.env :: (assignEach es X.env).map (·.2) := by rfl) : QGs X (e :: es) (gCons t u) := ⟨pgs_cons (h1 := h1.h) (h2 := h2.h) (hs := hs)⟩
theorem QW.pt {e : Expr} {t : TT} (h : QW X e t) : QT X e t := ⟨PW.pt h.h⟩
theorem qv (i : Nat) {x : Str} {pos : Pos} (hN : X.N[i]? = some x := by rfl) (hv : Vis X.env.scope x := by first | exact Or.inl rfl | exact Or.inr (Or.inl rfl) | exact Or.inr (Or.inr rfl)) (hd : (x == ("__debug__" : Str)) = false := by decide)
    (hcd : (x == ("__classdict__" : Str)) = false := by decide) : QE X (.Name x pos) (tVar i) := ⟨pe_var hN hv hd hcd⟩
theorem qe_comp {elt tg iter : Expr} {scope : Scope} {cl : List (Str × Addr)} {pos : Pos} {fr own : List Str} {js : List Nat} {wi : TI} {g : TG} {te : TE}
    (hc : X.calm = true) (hi : QI X tg iter wi) (hclos : closureFor scope X.env = pure cl) (hcl : ∀ y c, cl.lookup y = some c → X.env.cells.lookup y = some c) (hfr : cl.map (·.1) = fr)
    (S : BScope X scope fr js)
    (hg : ∀ C s H fp, QG (blk X (own ++ fr) scope cl C s H fp) tg g) (he : ∀ C s H fp, QE (blk X (own ++ fr) scope cl C s H fp) elt te)
    (hs : ∀ x, foldedSetIterable iter X.env x = pure x := by intro _; rfl) :
    QE X (.ListComp elt [⟨tg, iter, [], 0⟩] scope pos) (tComp own.length js wi g te) := ⟨pe_comp hc hi.h hclos hcl hfr S (fun C s H fp => (hg C s H fp).h) (fun C s H fp => (he C s H fp).h) hs⟩
theorem qs_comp {elt tg iter : Expr} {scope : Scope} {cl : List (Str × Addr)} {pos spos py : Pos} {fr own : List Str} {js : List Nat} {wi : TI} {g : TG} {te : TE} {i : Nat} {y : Str}
    (hN : X.N.Nodup) (hi' : X.N[i]? = some y) (hx : Loc X.env.scope y)
    (hc : X.calm = true) (hi : QI X tg iter wi) (hclos : closureFor scope X.env = pure cl) (hcl : ∀ y c, cl.lookup y = some c → X.env.cells.lookup y = some c) (hfr : cl.map (·.1) = fr)
    (S : BScope X scope fr js)
    (hg : ∀ C s H fp, QG (blk X (own ++ fr) scope cl C s H fp) tg g) (he : ∀ C s H fp, QE (blk X (own ++ fr) scope cl C s H fp) elt te)
    (hs : ∀ x, foldedSetIterable iter X.env x = pure x := by intro _; rfl) (hsw : swapsWith (.ListComp elt [⟨tg, iter, [], 0⟩] scope pos) (some (.Name y py)) spos.line X.env = pure true := by rfl)
    (hf : X.fn y = true ∨ X.env.scope.names.lookup y = some .local := by first | exact .inl rfl | exact .inr rfl | assumption) :
    QS X (.Assign [.Name y py] (.ListComp elt [⟨tg, iter, [], 0⟩] scope pos) spos) (tAsg (tComp own.length js wi g te) (gName i)) := ⟨ps_comp hN hi' hx hc hi.h hclos hcl hfr S (fun C s H fp => (hg C s H fp).h) (fun C s H fp => (he C s H fp).h) hs hsw hf⟩
section
variable {P : Program} {w : World} {K : PySem.W.Frag} {mg : Str → Option Value} {base : Heap}
theorem At.dq {x : Str} {st : Stmt} {ps N : List Str} {k : Nat} {sp : Sp} (a : At K mg x st ps) (S : FnScope N ps (defScope st)) (len : ∀ vs H Q E, sp vs H Q E → vs.length = ps.length)
    (hbody : ∀ (f : Addr) (cdv : Value) (A : Around) (outer : List Env) (s : Shared) (H : Hp) (vs : List V) (Q : VK) (E : XK), Room k (A.deeper (PyProof.Rows.envOfC x (defScope st) s.heap.objs.size f cdv)) → sp vs H Q E →
      ∃ t, QSs (cxOf CX0 P w K mg base N x (defScope st) f cdv A outer s H E).nox (defBody st) t ∧ t { nx := fun _ H' => Q .non H', rt := Q } (start N vs) H) : Df P w K mg base x ps (k + 1) sp :=
  a.df S len fun f cdv A outer s H vs Q E hr h => let ⟨t, q1, q2⟩ := hbody f cdv A outer s H vs Q E hr h; ⟨t, q1.h, q2⟩
theorem _root_.L2.Fun.dq {x qual : Str} {st : Stmt} {f : Addr} {fd : FuncData} {N ps : List Str} {k : Nat} {sp : Sp} (F : Fun K x qual st f fd) (S : FnScope N ps (defScope st)) (len : ∀ vs H Q E, sp vs H Q E → vs.length = ps.length)
    (hbody : ∀ (cdv : Value) (A : Around) (outer : List Env) (s : Shared) (H : Hp) (vs : List V) (Q : VK) (E : XK), Room k (A.deeper (PyProof.Rows.envOfC qual (defScope st) s.heap.objs.size f cdv)) → sp vs H Q E →
      ∃ t, QSs (cxOf CX0 P w K mg base N qual (defScope st) f cdv A outer s H E).nox (defBody st) t ∧ t { nx := fun _ H' => Q .non H', rt := Q } (start N vs) H) : FnOk P w K mg base CX0 (k + 1) f fd ps sp :=
  F.ok S len fun cdv A outer s H vs Q E hr h => let ⟨t, q1, q2⟩ := hbody cdv A outer s H vs Q E hr h; ⟨t, q1.h, q2⟩
theorem at_mk {x : Str} {st : Stmt} {ps : List Str} {f : Addr} {fd : FuncData} (F : Fun K x x st f fd) (m : mg x = some (.ref f)) (b : Binds K fd ps []) : At K mg x st ps := ⟨f, fd, F, m, F.kp, b⟩
end
end L3

namespace L3
open PySem PySem.Spec PyProof.Rows L2
section
variable {prog : Program} {w : World} {A : Around} {E : Value → Shared → Prop} {s : Shared}
theorem collect_tup {l : Addr} {vs : List Value} {Q : List Value → Shared → Prop} (hl : IsTup s.heap l vs.toArray)
    (h : Q vs { s with heap := (s.heap.push (seqObj "list" #[] 0)).update s.heap.objs.size (Obj.mapSeq (· ++ vs.toArray)) }) (hsz : vs.length ≤ sizeLine) :
    wpAny (model prog w) A (collect (.ref l)) Q E s := by
  obtain ⟨o, ho, hc, n, hd⟩ := id hl
  unfold collect
  refine wpAny_bind (wpAny_runValue (codeAny_builtin entry_proto_collect' ?_))
  show wpAny _ _ (do again (.builtin "list.__iadd__" ⟨[← newList [], .ref l], []⟩)) _ _ s
  refine wpAny_bind (wpAny_newList (wpAny_pure ⟨Code.quiet_builtin _ (by decide +kernel), codeAny_builtin entry_list_iadd' ?_⟩))
  show wpAny _ _ (Builtin.List.listExtendWith (.ref s.heap.objs.size) (.ref l) (.ref s.heap.objs.size)) _ _ { s with heap := s.heap.push (seqObj "list" #[] 0) }
  unfold Builtin.List.listExtendWith
  have ho' : (s.heap.push (seqObj "list" #[] 0)).get? l = some o := Heap.get?_push_of_some _ ho
  refine wpAny_bind (wpAny_typeOf (T := "tuple") ⟨o, ho', hc⟩ ?_)
  have ht : (Value.type "tuple" == Value.type "tuple") = true := by rfl
  rw [if_pos (by rw [ht]; simp)]
  refine wpAny_bind (listItems_at ho' hd ?_)
  refine wpAny_bind (listItems_at (xs := #[]) (n := 0) (Heap.get?_push_size _ rfl) rfl ?_)
  rw [if_neg (by simp)]
  refine wpAny_bind (listUpdate_at (xs := #[]) (n := 0) (Heap.get?_push_size _ rfl) rfl ?_ (Nat.zero_le _) (by show (#[] ++ vs.toArray).size ≤ sizeLine + 1; simp only [Array.size_append, List.size_toArray, List.length_nil]; omega))
  refine wpAny_pure ?_
  show wpAny (model prog w) A (do
      let o ← load s.heap.objs.size
      match o.data with
      | .seq xs _ => pure xs.toList
      | _ => unsupported "internal:collect") Q E { s with heap := (s.heap.push (seqObj "list" #[] 0)).update s.heap.objs.size (Obj.mapSeq (· ++ vs.toArray)) }
  refine wpAny_bind (wpAny_load (get?_update_seq (Heap.get?_push_size _ rfl) _) ?_)
  show wpAny _ _ (pure ((#[] : Array Value) ++ vs.toArray).toList) Q E _
  rw [show ((#[] : Array Value) ++ vs.toArray).toList = vs by simp]
  exact wpAny_pure h
theorem sorted_tup {l : Addr} {vs : List Value} {ns : List Int} {Q : Value → Shared → Prop} (hl : IsTup s.heap l vs.toArray) (hI : IntsAre vs ns) (h64 : vs.length < 64)
    (h : ∀ (out : Array Value) (ns' : List Int), IntsAre out.toList ns' → ns'.Perm ns → ns'.Pairwise (· ≤ ·) → Q (.ref (s.heap.objs.size + 1)) { s with heap := sortedAll s.heap vs out }) :
    wpAny (model prog w) A (call (.builtin "sorted") [.ref l]) Q E s := by
  refine Calls.call_function_entry kind_sorted plain_sorted entry_sorted (args_sorted1 _) ?_
  unfold Builtin.«sorted»
  refine wpAny_bind (m := checkCount "sorted" 1 1 _) (wpAny_pure ?_)
  refine wpAny_bind (collect_tup hl ?_ (Nat.le_trans (Nat.le_of_lt h64) (by decide)))
  refine wpAny_bind (wpAny_newList ?_)
  have hsz : ((s.heap.push (seqObj "list" #[] 0)).update s.heap.objs.size (Obj.mapSeq (· ++ vs.toArray))).objs.size = s.heap.objs.size + 1 := by
    rw [Heap.size_update, size_push']
  have hoL : (((s.heap.push (seqObj "list" #[] 0)).update s.heap.objs.size (Obj.mapSeq (· ++ vs.toArray))).push (seqObj "list" vs.toArray 0)).get? (s.heap.objs.size + 1) = some (seqObj "list" vs.toArray 0) := by
    rw [← hsz]; exact Heap.get?_push_size _ rfl
  show wpAny _ _ _ _ _ { s with heap := ((s.heap.push (seqObj "list" #[] 0)).update s.heap.objs.size (Obj.mapSeq (· ++ vs.toArray))).push (seqObj "list" vs.toArray 0) }
  rw [hsz]
  refine wpAny_bind (wpAny_holding (wpAny_call_entry slot_list_sort ⟨_, hoL, rfl⟩ entry_list_sort (list_sort_tree hoL hI h64 fun out ns' a1 a2 a3 => ⟨_, rfl, ?_⟩) (args_list_sort _)))
  exact wpAny_pure ⟨_, rfl, h out ns' a1 a2 a3⟩
end
theorem vals_of_ints : ∀ {us : List Value} {ns : List Int}, IntsAre us ns → Vals (ns.map V.int) us := vals_ints
section
variable {X : Cx}
theorem call_sortedT : CallR X (.builtin "sorted") (fun xs H Q => ∃ (p : Addr) (ns : List Int), xs = [.ref p] ∧ SqT X.K H p (ns.map V.int) ∧ ns.length < 64 ∧
    ∀ l (ms : List Int), H l = none → ms.Perm ns → ms.Pairwise (· ≤ ·) → Q (.ref l) (upd H l (.lst (ms.map V.int)))) := by
  intro pins s σ H xs us Q I r h
  obtain ⟨p, ns, rfl, hq, h64, q⟩ := h
  obtain ⟨u, rfl, ru⟩ := vals1 r
  cases ru
  obtain ⟨its, rv, pl, hz⟩ := I.tuple hq
  have hl := rv.length
  rw [List.length_map] at hl
  refine sorted_tup pl (intsAre_of rv) (by omega) fun out ms a1 a2 a3 => ?_
  obtain ⟨e, he⟩ := sortedAll_at s.heap its out
  refine ⟨.ref (s.heap.objs.size + 1), _, I.laid (t' := s.toks) (o := .lst (ms.map V.int)) (fun b o q => sortedAll_old q) (Nat.le_succ _) ?_, rfl, q _ ms (I.hok.fresh (Nat.le_succ _)) a2 a3⟩
  have hm : ms.length = ns.length := a2.length_eq
  refine ⟨by rw [List.length_map]; exact Nat.le_trans (by omega : ms.length ≤ 64) (by decide), out.toList, e, vals_ints a1, ?_⟩
  exact he
end
/-! ### rows of the sixteen digits -/
def digs : List Int := (List.range 16).map fun i => ((i : Nat) : Int)
theorem digs_len : digs.length = 16 := by decide
theorem digs_V : ((List.range 16).map fun i => V.int ((i : Nat) : Int)) = digs.map V.int := by decide +kernel
theorem perm_swap {α : Type} (xs : List α) (i j : Nat) (hi : i < xs.length) (hj : j < xs.length) : ((xs.set i xs[j]).set j xs[i]).Perm xs := by
  have h := Array.swap_perm (xs := xs.toArray) (i := i) (j := j) (by simpa using hi) (by simpa using hj)
  have e : (xs.toArray.swap i j (by simpa using hi) (by simpa using hj)).toList = (xs.set i xs[j]).set j xs[i] := by
    rw [Array.toList_swap]; simp
  have h2 := Array.perm_iff_toList_perm.mp h
  rw [e] at h2
  exact h2
theorem sorted_unique : ∀ {xs ys : List Int}, xs.Perm ys → xs.Pairwise (· ≤ ·) → ys.Pairwise (· ≤ ·) → xs = ys := fun {xs ys} p h1 h2 =>
  p.eq_of_pairwise (fun a b _ _ => Int.le_antisymm) h1 h2
theorem digs_sorted : digs.Pairwise (· ≤ ·) := by decide
theorem atI_int {α : Type} {xs : List α} {z : Int} {j : Nat} {v : α} (e : z = (j : Int)) (h : xs[j]? = some v) : atI xs z = some v := by rw [e]; exact atI_nat h
theorem ixN_int {n j : Nat} {z : Int} (e : z = (j : Int)) (h : j < n) : ixN n z = some j := by rw [e]; exact ixN_nat h
/-! ### tables -/
def isI : V → Bool
  | .int _ => true
  | _ => false
def intOf : V → Option Int
  | .int i => some i
  | _ => none
def intsL (xs : List V) : List Int := xs.filterMap intOf
theorem ints_map (ns : List Int) : intsL (ns.map V.int) = ns := by
  induction ns with
  | nil => rfl
  | cons n r ih => simp only [intsL, List.map_cons, List.filterMap_cons, intOf] at ih ⊢; rw [ih]
theorem map_ints : ∀ {xs : List V}, xs.all isI = true → xs = (intsL xs).map V.int
  | [], _ => rfl
  | x :: r, h => by
    rw [List.all_cons, Bool.and_eq_true] at h
    cases x with
    | int i =>
      have := map_ints h.2
      simp only [intsL, List.filterMap_cons, intOf, List.map_cons]
      rw [← show intsL r = r.filterMap intOf from rfl, ← this]
    | _ => exact absurd h.1 (by simp [isI])
theorem isI_of_isDig {x : V} (h : isDig x = true) : isI x = true := by cases x <;> first | rfl | exact absurd h (by simp [isDig])
def tabX (xs : List V) : Bool := xs.all isI && decide ((intsL xs).Perm digs)
theorem tabX_map (ns : List Int) : tabX (ns.map V.int) = decide (ns.Perm digs) := by
  unfold tabX
  rw [ints_map]
  have : (ns.map V.int).all isI = true := by simp [isI]
  rw [this, Bool.true_and]
theorem digs_mem {z : Int} (h : z ∈ digs) : 0 ≤ z ∧ z < 16 := by
  obtain ⟨i, hi, e⟩ := List.mem_map.mp h
  have := List.mem_range.mp hi
  omega
theorem tabX_len {xs : List V} (h : xs.length ≠ 16) : tabX xs = false := by
  unfold tabX
  rw [Bool.and_eq_false_iff]
  by_cases hI : xs.all isI = true
  · refine .inr (decide_eq_false fun p => h ?_)
    have e := p.length_eq
    rw [digs_len] at e
    rw [map_ints hI, List.length_map, e]
  · exact .inl (by simpa using hI)
theorem tabX_notI {xs : List V} {x : V} (hx : x ∈ xs) (h : isI x = false) : tabX xs = false := by
  unfold tabX
  rw [Bool.and_eq_false_iff]
  refine .inl (Bool.eq_false_iff.mpr fun w => ?_)
  rw [List.all_eq_true.mp w x hx] at h
  cases h
theorem tabX_dig {xs : List V} (h : xs.all isDig = false) : tabX xs = false := by
  refine Bool.eq_false_iff.mpr fun w => ?_
  unfold tabX at w
  rw [Bool.and_eq_true, decide_eq_true_iff] at w
  refine absurd ?_ (Bool.eq_false_iff.mp h)
  rw [map_ints w.1, List.all_eq_true]
  intro x hx
  obtain ⟨z, hz, rfl⟩ := List.mem_map.mp hx
  have := digs_mem (w.2.mem_iff.mp hz)
  simp only [isDig, Bool.and_eq_true, decide_eq_true_eq]
  exact this
theorem perm_of_sorted {ms ns : List Int} (p : ms.Perm ns) (h : ms.Pairwise (· ≤ ·)) : decide (ms = digs) = decide (ns.Perm digs) := by
  by_cases e : ms = digs
  · rw [decide_eq_true e, decide_eq_true (by rw [← e]; exact p.symm)]
  · rw [decide_eq_false e, decide_eq_false fun q => e (sorted_unique (p.trans q) h digs_sorted)]
def tabB (H : Hp) : V → Bool
  | .ref a => match H a with
    | some (.tup xs) => tabX xs
    | _ => false
  | _ => false
theorem tabB_tup {H : Hp} {a : Addr} {xs : List V} (h : H a = some (.tup xs)) : tabB H (.ref a) = tabX xs := by simp only [tabB, h]
theorem tabB_not {H : Hp} {x : V} {t : String} (h : kd H x = some t) (ht : subT t "tuple" = false) : tabB H x = false := by
  cases x with
  | ref a =>
    rcases kd_ref h with ⟨xs, e, rfl⟩ | ⟨xs, e, rfl⟩
    · simp only [tabB, e]
    · exact absurd ht (by decide)
  | _ => rfl
theorem tabB_same {H H' : Hp} {x : V} (s : Same H H') (k : Kn H x) : tabB H' x = tabB H x := by
  obtain ⟨⟨t, h⟩, _⟩ := k
  cases x with
  | ref a =>
    rcases kd_ref h with ⟨zs, e, _⟩ | ⟨zs, e, _⟩
    · simp only [tabB, e, s _ _ e]
    · simp only [tabB, e, s _ _ e]
  | _ => rfl
/-- a known thing, a tuple of it short -/
def Ks (H : Hp) (x : V) : Prop := Kn H x ∧ ∀ a xs, x = .ref a → H a = some (.tup xs) → xs.length < 64
theorem Ks.same {H H' : Hp} {x : V} (s : Same H H') (k : Ks H x) : Ks H' x := by
  refine ⟨k.1.same s, fun a xs e1 e2 => ?_⟩
  subst e1
  obtain ⟨t, h⟩ := k.1.1
  rcases kd_ref h with ⟨zs, e, _⟩ | ⟨zs, e, _⟩
  · rw [s _ _ e] at e2; cases e2
  · rw [s _ _ e] at e2; cases e2; exact k.2 a _ rfl e
theorem Ks.tup {H : Hp} {a : Addr} {xs : List V} (h : H a = some (.tup xs)) (k : ∀ y ∈ xs, ∃ t, kd H y = some t) (hl : xs.length < 64) : Ks H (.ref a) := ⟨.tup h k, fun c ys e1 e2 => by cases e1; rw [h] at e2; cases e2; exact hl⟩
theorem Ks.tabI {H : Hp} {a : Addr} {ns : List Int} (h : H a = some (.tup (ns.map V.int))) (hl : ns.length < 64) : Ks H (.ref a) := .tup h (fun y hy => by obtain ⟨z, _, rfl⟩ := List.mem_map.mp hy; exact ⟨_, rfl⟩) (by rw [List.length_map]; exact hl)
def spIsTable : Sp := fun vs H Q _ => ∃ x, vs = [x] ∧ Ks H x ∧ ∀ H', Same H H' → Q (.bl (tabB H x)) H'
def spTable : Sp := fun vs H Q _ => ∃ (b : Addr), vs = [.ref b] ∧ Box H b ∧ ∀ p (t : List Int) H', Gr b H H' → H' p = some (.tup (t.map V.int)) → t.Perm digs → Q (.ref p) H'
def KnI (H : Hp) (xs : List V) : Prop := ∀ y ∈ xs, ∃ t, kd H y = some t
theorem KnI.same {H H' : Hp} {xs : List V} (s : Same H H') (k : KnI H xs) : KnI H' xs := fun y hy => let ⟨t, h⟩ := k y hy; ⟨t, kd_mono s h⟩
theorem KnI.gr {b : Addr} {H H' : Hp} {xs : List V} (hb : Box H b) (s : Gr b H H') (k : KnI H xs) : KnI H' xs := fun y hy => let ⟨t, h⟩ := k y hy; ⟨t, kd_gr hb s h⟩
theorem KnI.cut {H : Hp} {xs : List V} (k : KnI H xs) (lo hi : Option Int) : KnI H (cutV xs lo hi) := fun y hy => k y (List.mem_of_mem_drop (List.mem_of_mem_take hy))
theorem KnI.app {H : Hp} {xs ys : List V} (k : KnI H xs) (j : KnI H ys) : KnI H (xs ++ ys) := fun y hy => (List.mem_append.mp hy).elim (k y) (j y)
theorem KnI.one {H : Hp} {x : V} {t : String} (h : kd H x = some t) : KnI H [x] := fun y hy => by rw [List.mem_singleton.mp hy]; exact ⟨t, h⟩
theorem KnI.ints {H : Hp} (ns : List Int) : KnI H (ns.map V.int) := fun y hy => by obtain ⟨z, _, rfl⟩ := List.mem_map.mp hy; exact ⟨_, rfl⟩
theorem box_ne {H : Hp} {b c : Addr} {xs : List V} (hb : Box H b) (h : H c = some (.tup xs)) : c ≠ b := fun z => by
  obtain ⟨_, _, _, e⟩ := hb
  rw [z, e] at h; cases h
theorem box_fresh {H : Hp} {b c : Addr} (hb : Box H b) (h : H c = none) : c ≠ b := fun z => by
  obtain ⟨_, _, _, e⟩ := hb
  rw [z, e] at h; cases h
theorem Ks.gr {b : Addr} {H H' : Hp} {x : V} (hb : Box H b) (s : Gr b H H') (k : Ks H x) : Ks H' x := by
  refine ⟨k.1.gr hb s, fun a xs e1 e2 => ?_⟩
  subst e1
  have ha : a ≠ b := box_ne s.bx e2
  obtain ⟨t, h⟩ := k.1.1
  rcases kd_ref h with ⟨zs, e, _⟩ | ⟨zs, e, _⟩
  · rw [s.kp _ _ ha e] at e2; cases e2
  · rw [s.kp _ _ ha e] at e2; cases e2; exact k.2 a _ rfl e
theorem Ks.non {H : Hp} : Ks H .non := ⟨.non, fun _ _ h => nomatch h⟩
theorem Ks.bl {H : Hp} {b : Bool} : Ks H (.bl b) := ⟨.bl, fun _ _ h => nomatch h⟩
theorem Ks.int {H : Hp} {i : Int} : Ks H (.int i) := ⟨.int, fun _ _ h => nomatch h⟩
theorem Ks.str {H : Hp} {x : Str} : Ks H (.str x) := ⟨.str, fun _ _ h => nomatch h⟩
theorem Ks.lst {H : Hp} {a : Addr} {xs : List V} (h : H a = some (.lst xs)) : Ks H (.ref a) := ⟨.lst h, fun c ys e1 e2 => by cases e1; rw [h] at e2; cases e2⟩
def spOddS : Sp := fun vs H Q _ => ∃ (b : Addr), vs = [.ref b] ∧ Box H b ∧ ∀ x H', Gr b H H' → Ks H' x → Q x H'
def spBent : Sp := fun vs H Q _ => ∃ (b p : Addr) (t : List Int), vs = [.ref b, .ref p] ∧ Box H b ∧ H p = some (.tup (t.map V.int)) ∧ t.length = 16 ∧ ∀ x H', Gr b H H' → Ks H' x → Q x H'
end L3

namespace L3
open PySem PySem.Spec PyProof.Rows L2
open Sem (wp)
section
variable {prog : Program} {w : World} {A : Around} {E : Value → Shared → Prop} {s : Shared}
theorem nextT_item {it t : Addr} {i : Nat} {its : Array Value} {x : Value} {Q : Value → Shared → Prop} (hit : s.heap.IsTupleIter it t i) (ht : s.heap.IsTuple t its) (hx : its[i]? = some x)
    (hQ : ∀ h', h'.IsTupleIter it t (i + 1) → Heap.SameBut it s.heap h' → Q x { s with heap := h' }) : wpAny (model prog w) A (Builtin.SmallTypes.nextOf (.ref it)) Q E s := by
  obtain ⟨o, ho, hc, hd⟩ := id hit
  obtain ⟨ol, hol, _, nl, hdl⟩ := ht
  unfold Builtin.SmallTypes.nextOf
  refine wpAny_bind (wpAny_callSpecial?_slot (name := Str.ofString "__next__") hit.typeIs F.slot_tuple_iterator_next
    (wpAny_call_entry F.slot_tuple_iterator_next hit.typeIs F.entry_tuple_iterator_next ?_ (F.args_tuple_iterator_next_1 _)))
  show wpAny _ _ (field (.ref it) 0 >>= _) _ _ s
  refine wpAny_bind (wpAny_field ho hd (x := .ref t) rfl ?_)
  show wpAny _ _ (if (Value.ref t == Value.none) = true then _ else _) _ _ s
  rw [if_neg (show ¬ ((Value.ref t == Value.none) = true) from Bool.false_ne_true)]
  show wpAny _ _ (field (.ref it) 1 >>= _) _ _ s
  refine wpAny_bind (wpAny_field ho hd (x := .int i 0) rfl ?_)
  show wpAny _ _ (seqItems? (.ref t) >>= _) _ _ s
  refine wpAny_bind (wpAny_seqItems hol hdl ?_)
  simp only [Int.toNat_natCast, hx]
  refine wpAny_bind (wpAny_setField ho hd (by simp) (wpAny_pure ⟨x, rfl, wpAny_pure (hQ _ ?_ (Heap.SameBut.update ..))⟩))
  exact ⟨_, Heap.get?_update_self _ ho (Obj.isFreed_of_fields (Obj.data_mapFields hd _)), (Obj.cls_mapFields ..).trans hc, by
    rw [Obj.data_mapFields hd]; simp [rawInt]⟩
theorem nextT_end {it t : Addr} {i : Nat} {its : Array Value} {Q : Value → Shared → Prop} (hh : A.handled = none) (hit : s.heap.IsTupleIter it t i) (ht : s.heap.IsTuple t its) (hx : its[i]? = none)
    (hE : ∀ h' e, Heap.ExtBut it s.heap h' → (∃ o, h'.get? e = some o ∧ o.cls = .type "StopIteration") → E (.ref e) { s with heap := h' }) :
    wpAny (model prog w) A (Builtin.SmallTypes.nextOf (.ref it)) Q E s := by
  obtain ⟨o, ho, hc, hd⟩ := id hit
  obtain ⟨ol, hol, _, nl, hdl⟩ := ht
  unfold Builtin.SmallTypes.nextOf
  refine wpAny_bind (wpAny_callSpecial?_slot (name := Str.ofString "__next__") hit.typeIs F.slot_tuple_iterator_next
    (wpAny_call_entry F.slot_tuple_iterator_next hit.typeIs F.entry_tuple_iterator_next ?_ (F.args_tuple_iterator_next_1 _)))
  show wpAny _ _ (field (.ref it) 0 >>= _) _ _ s
  refine wpAny_bind (wpAny_field ho hd (x := .ref t) rfl ?_)
  show wpAny _ _ (if (Value.ref t == Value.none) = true then _ else _) _ _ s
  rw [if_neg (show ¬ ((Value.ref t == Value.none) = true) from Bool.false_ne_true)]
  show wpAny _ _ (field (.ref it) 1 >>= _) _ _ s
  refine wpAny_bind (wpAny_field ho hd (x := .int i 0) rfl ?_)
  show wpAny _ _ (seqItems? (.ref t) >>= _) _ _ s
  refine wpAny_bind (wpAny_seqItems hol hdl ?_)
  simp only [Int.toNat_natCast, hx]
  refine wpAny_bind (wpAny_rule (wpAny_bind (wpAny_setField ho hd (by simp) ?_)))
  show wpAny _ _ (newExc (.type "StopIteration") [] >>= _) _ _ _
  refine wpAny_bind ?_
  simp only [newExc, newTuple]
  refine wpAny_bind (wpAny_newObj_type ?_ (by size_fits))
  refine wpAny_bind (m := firstArgMember _ _) (wpAny_of_eq (a := Value.none) (by first | rfl | (simp only [firstArgMember]; rfl)) ?_)
  refine wpAny_newObj_type ?_ (by size_fits)
  simp only [raiseNew]
  refine wpAny_bind (wpAny_handled ?_)
  first | rw [show A.in1.handled = none from hh] | rw [hh]
  refine wpAny_bind (wpAny_pure (wpAny_throw ?_))
  exact hE _ _ (((Heap.SameBut.update ..).extBut.push _).push _) ⟨_, Heap.get?_push_size _ rfl, rfl⟩
end
theorem drawsT {prog : Program} {w : World} {A : Around} (hh : A.handled = none) (it t : Addr) (hne : t ≠ it) (its : Array Value) :
    Draws prog w A it [it, t] its.size (fun i v => its[i]? = some v) (fun i h => h.IsTupleIter it t i ∧ h.IsTuple t its) where
  live := fun _ _ st => let ⟨o, ho, _⟩ := st.1; ⟨o, ho⟩
  frame := fun _ _ _ st hk => ⟨st.1.at fun o e => hk it (by simp) o e, let ⟨o, e, r⟩ := st.2; ⟨o, hk t (by simp) o e, r⟩⟩
  item := fun i s Q E hi st hQ => by
    refine nextT_item st.1 st.2 (x := its[i]) (by simp [hi]) fun h' hit' hs' => ?_
    exact hQ _ h' s.toks (by simp [hi]) ⟨hit', let ⟨o, e, r⟩ := st.2; ⟨o, hs'.extBut _ _ hne e, r⟩⟩ hs'
  done := fun s Q E st hE => nextT_end hh st.1 st.2 (by simp) hE
/-! ### enumerate(tuple) -/
open AutoSeq1 (wpAny_loadPart') in
theorem meetsT_enum (l : Addr) (items : Array Value) (n : Nat) (dct : Option Addr) (sl : Array (Option Value)) :
    Meets (Builtin.«enumerate.__new__» ⟨[.type "enumerate", .ref l], []⟩) (fun _ R s => s.heap.get? l = some { cls := .type "tuple", dict := dct, data := .seq items n, slots := sl } ∧
      R (.ok (.ret (.ref (s.heap.push { cls := .type "tuple_iterator", data := .fields #[.ref l, .int 0 0] }).objs.size)))
        { s with heap := (s.heap.push { cls := .type "tuple_iterator", data := .fields #[.ref l, .int 0 0] }).push { cls := .type "enumerate", data := .fields #[.none, .bool false, .ref s.heap.objs.size, rawInt 0, .none, .none] } }) :=
  .of_wp fun prog w A R s h => by
    obtain ⟨hp, g, d, tk, os⟩ := s; obtain ⟨hl, h⟩ := h
    have hsub := sub_enumerate
    have hL : Heap.IsTuple (Shared.heap ⟨hp, g, d, tk, os⟩) l items := ⟨_, hl, rfl, n, rfl⟩
    wp_walk using wpAny_loadPart' hl
    refine wpAny_stack_any fun st => wpAny_pure ?_
    split
    · rename_i c _ _ _ _ _
      cases (c == Value.type "enumerate")
      · wp_walk using wpAny_loadPart' hl, wpAny_pyIter_tuple hL
        exact ⟨_, rfl, h⟩
      · wp_walk using wpAny_loadPart' hl, wpAny_pyIter_tuple hL
        exact ⟨_, rfl, h⟩
    · wp_walk using wpAny_loadPart' hl, wpAny_pyIter_tuple hL
      exact ⟨_, rfl, h⟩
section
variable {prog : Program} {w : World} {A : Around} {E : Value → Shared → Prop} {s : Shared}
theorem callT_enum {l : Addr} {items : Array Value} {Q : Value → Shared → Prop} (hL : s.heap.IsTuple l items)
    (h : ∀ h', IsEnum h' (s.heap.objs.size + 1) s.heap.objs.size 0 .none → h'.IsTupleIter s.heap.objs.size l 0 → (∀ b o, s.heap.get? b = some o → h'.get? b = some o) → Q (.ref (s.heap.objs.size + 1)) { s with heap := h' }) :
    wpAny (model prog w) A (call (.type "enumerate") [.ref l]) Q E s := by
  obtain ⟨⟨c, dct, dt, sl⟩, hl, hc, n, hd⟩ := hL
  replace hc : c = .type "tuple" := hc
  replace hd : dt = .seq items n := hd
  subst hc hd
  refine callType_new F.called_enumerate (by decide) (F.typeCall_enumerate_1 _) (F.newCall_enumerate_1 _) (fun obj => F.args_object_init_2 obj _) F.entry_enumerate_new
    (meetsT_enum l items n dct sl) ⟨hl, ?_⟩
  have hz : (s.heap.push { cls := .type "tuple_iterator", data := .fields #[.ref l, .int 0 0] }).objs.size = s.heap.objs.size + 1 := Heap.size_push ..
  show _ ∧ _
  rw [hz]
  have he : IsEnum ((s.heap.push { cls := .type "tuple_iterator", data := .fields #[.ref l, .int 0 0] }).push
      { cls := .type "enumerate", data := .fields #[.none, .bool false, .ref s.heap.objs.size, rawInt 0, .none, .none] }) (s.heap.objs.size + 1) s.heap.objs.size 0 .none := by
    have := Heap.get?_push_size (s.heap.push { cls := .type "tuple_iterator", data := .fields #[.ref l, .int 0 0] })
      (o := { cls := .type "enumerate", data := .fields #[.none, .bool false, .ref s.heap.objs.size, rawInt 0, .none, .none] }) rfl
    rw [hz] at this; exact this
  exact ⟨⟨_, he, rfl⟩, h _ he ⟨_, Heap.get?_push_of_some _ (Heap.get?_push_size _ rfl), rfl, rfl⟩ fun b o x => Heap.get?_push_of_some _ (Heap.get?_push_of_some _ x)⟩
end
def IteT (K : PySem.W.Frag) (a : Addr) : It :=
  ⟨fun i H => ∃ xs x, SqT K H a xs ∧ xs[i]? = some x, fun i H x H' => ∃ p v, H p = none ∧ x = .ref p ∧ (∀ xs, SqT K H a xs → xs[i]? = some v) ∧ H' = upd H p (.tup [.int i, v]), fun i H => ∃ xs, SqT K H a xs ∧ xs.length ≤ i⟩
theorem turn_enumT {P : Program} {w : World} {K : PySem.W.Frag} {elts : List Expr} {x1} {pos : Pos} (a e it : Addr) (hei : e ≠ it) :
    Turn P w K (.Tuple elts x1 pos) (IteT K a) [e, it] e (fun i h => (∃ old, IsEnum h e it i old) ∧ h.IsTupleIter it a i) where
  mem := by simp
  obj := fun i h st b hb => by
    obtain ⟨⟨old, he⟩, ⟨o, ho, hc, hd⟩⟩ := st
    rcases List.mem_cons.mp hb with z | z
    · subst z
      refine ⟨_, he, fun v z => ?_⟩
      have z' : Data.fields _ = Data.cell v := z
      cases z'
    · rw [List.mem_singleton.mp z]
      exact ⟨o, ho, fun v z => by rw [hd] at z; cases z⟩
  keep := fun i h h' st k => ⟨let ⟨old, he⟩ := st.1; ⟨old, k e (by simp) _ he⟩, st.2.at fun o q => k it (by simp) o q⟩
  item := by
    intro X hP hw hK hc i pins s σ H E I hf st hg
    subst hP hw hK
    obtain ⟨xs, x, hq, hx⟩ := hg
    obtain ⟨its, rv, p, hz⟩ := I.tuple hq
    obtain ⟨u, hu, ru⟩ := rv.get hx
    obtain ⟨⟨old, he⟩, hit⟩ := st
    have nae : a ≠ e := fun z => by
      subst z
      obtain ⟨o, ho, hcl, _⟩ := p
      rw [he] at ho; cases ho; exact absurd (show Value.type "enumerate" = Value.type "tuple" from hcl) (by decide)
    have nai : a ≠ it := fun z => by
      subst z
      obtain ⟨o, ho, hcl, _⟩ := p
      obtain ⟨o', ho', hc', _⟩ := hit
      rw [ho] at ho'; cases ho'; rw [hcl] at hc'; exact absurd hc' (by decide)
    have hil : i < its.toArray.size := by
      have := (List.getElem?_eq_some_iff.mp hu).1
      simpa using this
    refine wpAny_pyNext_enum_itemD (drawsT (A := X.A.in1) (I.ok.hd hc) it a nai its.toArray) he ⟨hit, p⟩ hil hei (by simp [hei, Ne.symm nae]) fun v h' tk hv ho ⟨hit', _⟩ ht hsz hk => ⟨_, rfl, ?_⟩
    have ev : v = u := by
      have hv' : its[i]? = some v := by simpa using hv
      rw [hu] at hv'; exact (Option.some.inj hv').symm
    subst ev
    refine wpAny_letOwnedTupleGo_enum ho fun h'' he'' hs'' => ?_
    have helt : e < s.heap.objs.size := Heap.lt_size he
    have hilt : it < s.heap.objs.size := by obtain ⟨_, y, _⟩ := hit; exact Heap.lt_size y
    refine ⟨.ref s.heap.objs.size, upd H s.heap.objs.size (.tup [.int i, x]), ?_, rfl, ⟨_, x, I.hok.fresh (Nat.le_refl _), rfl, fun ys hy => by rw [I.tuple_inj hy hq]; exact hx, rfl⟩, ⟨⟨_, by simpa using he''⟩, ?_⟩, ?_⟩
    · show L2.Inv X pins σ _ { s with heap := h'', toks := tk + 1 }
      refine turnedT (s := s) (its := [.int i tk, v]) I (ch := [e, it]) (fun b o hb q => ?_) hf (fun b hb => ?_) (Nat.le_refl _) (by show 2 ≤ sizeLine; decide) (.cons ⟨_, rfl⟩ (.cons ru .nil)) ?_
      · have hb1 : b ≠ e := fun z => hb (by simp [z])
        have hb2 : b ≠ it := fun z => hb (by simp [z])
        exact (hs''.2 b hb1).trans (hk b o hb1 hb2 q)
      · rcases List.mem_cons.mp hb with z | z
        · subst z; exact ⟨_, he''⟩
        · rw [List.mem_singleton.mp z]
          obtain ⟨o, y, _⟩ := hit'
          exact ⟨o, (hs''.2 it (Ne.symm hei)).trans y⟩
      · exact ⟨_, (hs''.2 _ (Nat.ne_of_gt helt)).trans ht, rfl, _, rfl⟩
    · exact hit'.extBut hs''.extBut (Ne.symm hei)
    · intro b hb
      rw [upd_ne]
      · exact (hf b hb).1
      · rcases List.mem_cons.mp hb with z | z
        · subst z; exact Nat.ne_of_lt helt
        · rw [List.mem_singleton.mp z]; exact Nat.ne_of_lt hilt
  done := by
    intro X hP hw hK hc i pins s σ H E I hf st hg
    subst hP hw hK
    obtain ⟨xs, hq, hx⟩ := hg
    obtain ⟨its, rv, p, hz⟩ := I.tuple hq
    obtain ⟨⟨old, he⟩, hit⟩ := st
    obtain ⟨f0, f1, f2, f3, f4, f5⟩ := hf it (by simp)
    have hl := rv.length
    have nai : a ≠ it := fun z => by
      subst z
      obtain ⟨o, ho, hcl, _⟩ := p
      obtain ⟨o', ho', hc', _⟩ := hit
      rw [ho] at ho'; cases ho'; rw [hcl] at hc'; exact absurd hc' (by decide)
    unfold pyNext
    have hT : s.TypeIs (.ref e) "enumerate" := ⟨_, he, rfl⟩
    refine wpAny_bind (wpAny_attempt (wpAny_callSpecial?_slot (name := Str.ofString "__next__") hT F.slot_enumerate_next
      (wpAny_call_entry F.slot_enumerate_next hT F.entry_enumerate_next ?_ (F.args_enumerate_next_1 _))))
    show wpAny _ _ (field (.ref e) 2 >>= _) _ _ _
    refine wpAny_bind (wpAny_field he rfl (x := .ref it) rfl ?_)
    refine wpAny_bind (nextT_end (I.ok.hd hc) hit p (by simp; omega) fun h' ex eb hx' => ?_)
    obtain ⟨o, ho, hcl⟩ := hx'
    refine wpAny_bind (wpAny_isInstance (T := "StopIteration") (b := true) ⟨o, ho, hcl⟩ isSubtype_stop ?_)
    exact wpAny_pure ⟨rfl, I.turned (t' := s.toks) (fun b o hb e => eb b o hb e) f0 f1 f3 f4 f5⟩
  self := fun _ _ _ _ _ st h => by
    obtain ⟨⟨old, he⟩, _⟩ := st
    exact wpAny_pyIter_enum he h
section
variable {X : Cx}
def iEnum2 (K : PySem.W.Frag) (ta : TA) : TI := fun σ H R => ta σ H fun vs H1 => ∃ a, vs = [.ref a] ∧ ((∃ xs, SqL K H1 a xs) ∧ R (Ite K a) H1 ∨ (∃ xs, SqT K H1 a xs) ∧ R (IteT K a) H1)
theorem pi_enum2 {a : Expr} {ta : TA} {p pos : Pos} {elts : List Expr} {x1} {tpos : Pos} (hg : Gl X "enumerate") (hm : X.mg "enumerate" = none) (ha : PA X [a] ta) (hs : starEach [a] X.env = [(false, eval a X.env)] := by rfl) :
    PI X (.Tuple elts x1 tpos) (.Call (.Name "enumerate" p) [a] [] pos) (iEnum2 X.K ta) := by
  intro pins s σ H R I h
  refine Call_ (ld_blt I hg hm boot_enumerate (PyProof.Rows.callWith_type1 (thn (ha pos pins s σ H _ I h) fun us s1 ⟨vs, H1, I1, r1, q1⟩ => ?_) hs rfl))
  obtain ⟨l, e, q1⟩ := q1
  subst e
  obtain ⟨u, rfl, ru⟩ := r1.one
  cases ru
  have fpk : ∀ b ∈ [s1.heap.objs.size + 1, s1.heap.objs.size], FpOk X pins H1 b := fun b hb => by
    have hb' : s1.heap.objs.size ≤ b := by
      rcases List.mem_cons.mp hb with z | z
      · rw [z]; exact Nat.le_succ _
      · rw [List.mem_singleton.mp z]; exact Nat.le_refl _
    exact I1.fpOk hb' (I1.hok.fresh hb')
  rcases q1 with ⟨⟨xs, hq⟩, q⟩ | ⟨⟨xs, hq⟩, q⟩
  · obtain ⟨its, rv, pl, hz⟩ := I1.list hq
    refine call_enumerate_list pl.isList fun h' he hit hsz hk => wpAny_pyIter_enum he ?_
    exact ⟨s1.heap.objs.size + 1, [s1.heap.objs.size + 1, s1.heap.objs.size], _, _, H1, rfl, I1.kept (t' := s1.toks) hk, turn_enum l _ _ (Nat.ne_of_gt (Nat.lt_succ_self _)), ⟨⟨_, he⟩, hit⟩, fpk, q⟩
  · obtain ⟨its, rv, pl, hz⟩ := I1.tuple hq
    refine callT_enum (show s1.heap.IsTuple l its.toArray from pl) fun h' he hit hk => wpAny_pyIter_enum he ?_
    exact ⟨s1.heap.objs.size + 1, [s1.heap.objs.size + 1, s1.heap.objs.size], _, _, H1, rfl, I1.kept (t' := s1.toks) hk, turn_enumT l _ _ (Nat.ne_of_gt (Nat.lt_succ_self _)), ⟨⟨_, he⟩, hit⟩, fpk, q⟩
theorem for_enumT {K : PySem.W.Frag} {a : Addr} {xs : List V} {g : TG} {tb : TS} {D : Ends} {σ : L2.St} {H : Hp} (Pv : Nat → L2.St → Hp → Prop) (h0 : Pv 0 σ H) (hl : ∀ i σ H, i ≤ xs.length → Pv i σ H → SqT K H a xs)
    (hs : ∀ i x σ H p, xs[i]? = some x → Pv i σ H → H p = none → g (.ref p) σ (upd H p (.tup [.int i, x])) fun σ2 H2 => tb { D with nx := Pv (i + 1), ct := Pv (i + 1), bk := D.nx } σ2 H2) (hd : ∀ σ H, Pv xs.length σ H → D.nx σ H) :
    ∃ W : Nat → Nat → L2.St → Hp → Prop, (∃ m, W 0 m σ H) ∧ ∀ i m σ H, W i m σ H →
      ((IteT K a).stop i H ∧ D.nx σ H) ∨ ((IteT K a).go i H ∧ ∃ N : L2.St → Hp → Prop, (∀ σ' H', N σ' H' → ∃ m', m' < m ∧ W (i + 1) m' σ' H') ∧ ∀ x H', (IteT K a).yld i H x H' → g x σ H' fun σ2 H2 => tb { D with nx := N, ct := N, bk := D.nx } σ2 H2) := by
  refine ⟨fun i m σ H => m = xs.length - i ∧ i ≤ xs.length ∧ Pv i σ H, ⟨xs.length, by simp, Nat.zero_le _, h0⟩, ?_⟩
  rintro i m σ H ⟨rfl, hi, p⟩
  have q := hl i σ H hi p
  by_cases hlt : i < xs.length
  · refine .inr ⟨⟨xs, xs[i], q, by simp [hlt]⟩, Pv (i + 1), fun σ' H' p' => ⟨xs.length - (i + 1), by omega, rfl, hlt, p'⟩, fun x H' y => ?_⟩
    obtain ⟨pp, v, hp, rfl, hv, rfl⟩ := y
    exact hs i v σ H pp (hv xs q) p hp
  · have e : i = xs.length := by omega
    subst e
    exact .inl ⟨⟨xs, q, Nat.le_refl _⟩, hd σ H p⟩
end
end L3

namespace L3
open PySem PySem.Spec PyProof.Rows L2
open Sem (wp)
/-! ### zip of two iterators, whatever they draw -/
structure ZApart (z TI TO i1 i2 : Addr) (f1 f2 : List Addr) : Prop where
  TIz : TI ≠ z
  TOz : TO ≠ z
  i1z : i1 ≠ z
  i2z : i2 ≠ z
  TITO : TI ≠ TO
  TIi1 : TI ≠ i1
  TIi2 : TI ≠ i2
  TOi1 : TO ≠ i1
  TOi2 : TO ≠ i2
  i12 : i1 ≠ i2
  z1 : z ∉ f1
  z2 : z ∉ f2
  t1 : TO ∉ f1
  t2 : TO ∉ f2
  x1 : i2 ∉ f1
  x2 : i1 ∉ f2
section
variable {prog : Program} {w : World} {A : Around} {E : Value → Shared → Prop} {s : Shared} {z TI TO i1 i2 : Addr} {f1 f2 : List Addr} {n1 n2 k : Nat} {P1 P2 : Nat → Value → Prop} {S1 S2 : Nat → Heap → Prop} {a b : Value}
theorem zipD_item {Q : Value → Shared → Prop} (D1 : Draws prog w A i1 f1 n1 P1 S1) (D2 : Draws prog w A i2 f2 n2 P2 S2) (Z : ZApart z TI TO i1 i2 f1 f2)
    (hz : IsZip s.heap z TI TO .none) (hTI : IsPair s.heap TI (.ref i1) (.ref i2)) (hTO : IsPair s.heap TO a b) (q1 : S1 k s.heap) (q2 : S2 k s.heap) (k1 : k < n1) (k2 : k < n2)
    (hQ : ∀ x y h' tk, P1 k x → P2 k y → IsZip h' z TI TO (rawInt s.heap.objs.size) → IsPair h' TO x y → S1 (k + 1) h' → S2 (k + 1) h' → IsPair h' s.heap.objs.size x y →
      (∀ c o, c ≠ z → c ≠ TO → c ≠ i1 → c ≠ i2 → s.heap.get? c = some o → h'.get? c = some o) → Q (.ref s.heap.objs.size) { s with heap := h', toks := tk }) :
    wpAny (model prog w) A (Builtin.«zip.__next__» ⟨[.ref z], []⟩) (fun fin s' => ∃ v, fin = .done (.ret v) ∧ Q v s') E s := by
  obtain ⟨hp, g, d, t0, os⟩ := s
  show wpAny _ _ (field (.ref z) 2 >>= _) _ _ _
  refine wpAny_bind (wpAny_field hz rfl (x := .bool false) rfl ?_)
  show wpAny _ _ (field (.ref z) 3 >>= _) _ _ _
  refine wpAny_bind (wpAny_field hz rfl (x := .ref TI) rfl ?_)
  refine wpAny_bind (wpAny_seqItems hTI rfl ?_)
  show wpAny _ _ (Builtin.SmallTypes.ownedTupleIsFree (.ref z) >>= _) _ _ _
  refine wpAny_bind ?_
  unfold Builtin.SmallTypes.ownedTupleIsFree
  refine wpAny_bind (wpAny_field hz rfl (x := .none) rfl (wpAny_pure ?_))
  simp only [if_true]
  refine wpAny_bind (wpAny_rule ?_)
  refine wpAny_bind (wpAny_field hz rfl (x := .ref TO) rfl ?_)
  refine wpAny_bind (wpAny_setField_rec hz (by simp) fun h₁ hz₁ hs₁ => ?_)
  replace hz₁ : IsZip h₁ z TI TO .ellipsis := hz₁
  replace hs₁ : Heap.SameBut z hp h₁ := hs₁
  refine wpAny_bind ?_
  simp only [List.zipIdx_cons, List.zipIdx_nil, List.forIn_cons, List.forIn_nil]
  refine wpAny_bind (wpAny_bind (wpAny_onRaise ?_))
  show wpAny _ _ (Builtin.SmallTypes.nextOf (.ref i1) >>= _) _ _ _
  have q1a : S1 k h₁ := D1.frame _ _ _ q1 fun c hc o e => hs₁.extBut c o (fun y => Z.z1 (y ▸ hc)) e
  refine wpAny_bind (D1.item k ⟨h₁, g, d, t0, os⟩ _ _ k1 q1a fun x h₂ tk₂ p1 q1b hs₂ => wpAny_pure ?_)
  replace hs₂ : Heap.SameBut i1 h₁ h₂ := hs₂
  have hTO₂ : IsPair h₂ TO a b := hs₂.extBut _ _ Z.TOi1 (hs₁.extBut _ _ Z.TOz hTO)
  refine wpAny_bind (wpAny_seqItems hTO₂ rfl ?_)
  refine wpAny_bind (wpAny_updateSeq_pair hTO₂ fun h₃ hTO₃ hs₃ => ?_)
  replace hTO₃ : IsPair h₃ TO x b := hTO₃
  replace hs₃ : Heap.SameBut TO h₂ h₃ := hs₃
  refine wpAny_bind (wpAny_letGo (wpAny_pure ?_))
  refine wpAny_bind (wpAny_bind (wpAny_onRaise ?_))
  show wpAny _ _ (Builtin.SmallTypes.nextOf (.ref i2) >>= _) _ _ _
  have q2a : S2 k h₃ := D2.frame _ _ _ q2 fun c hc o e => hs₃.extBut c o (fun y => Z.t2 (y ▸ hc)) (hs₂.extBut c o (fun y => Z.x2 (y ▸ hc)) (hs₁.extBut c o (fun y => Z.z2 (y ▸ hc)) e))
  refine wpAny_bind (D2.item k ⟨h₃, g, d, tk₂, os⟩ _ _ k2 q2a fun y h₄ tk₄ p2 q2b hs₄ => wpAny_pure ?_)
  replace hs₄ : Heap.SameBut i2 h₃ h₄ := hs₄
  have hTO₄ : IsPair h₄ TO x b := hs₄.extBut _ _ Z.TOi2 hTO₃
  refine wpAny_bind (wpAny_seqItems hTO₄ rfl ?_)
  refine wpAny_bind (wpAny_updateSeq_pair hTO₄ fun h₅ hTO₅ hs₅ => ?_)
  replace hTO₅ : IsPair h₅ TO x y := hTO₅
  replace hs₅ : Heap.SameBut TO h₄ h₅ := hs₅
  refine wpAny_bind (wpAny_letGo (wpAny_pure (wpAny_pure ?_)))
  refine wpAny_bind (wpAny_seqItems hTO₅ rfl ?_)
  refine wpAny_bind (wpAny_newTuple ?_)
  have hsz : h₅.objs.size = hp.objs.size := by rw [hs₅.1, hs₄.1, hs₃.1, hs₂.1, hs₁.1]
  have hz₅ : IsZip h₅ z TI TO .ellipsis := hs₅.extBut _ _ Z.TOz.symm (hs₄.extBut _ _ Z.i2z.symm (hs₃.extBut _ _ Z.TOz.symm (hs₂.extBut _ _ Z.i1z.symm hz₁)))
  have hk₅ : ∀ c o, c ≠ z → c ≠ TO → c ≠ i1 → c ≠ i2 → hp.get? c = some o → h₅.get? c = some o := fun c o c1 c2 c3 c4 e =>
    hs₅.extBut _ _ c2 (hs₄.extBut _ _ c4 (hs₃.extBut _ _ c2 (hs₂.extBut _ _ c3 (hs₁.extBut _ _ c1 e))))
  have q1c : S1 (k + 1) h₅ := D1.frame _ _ _ q1b fun c hc o e => hs₅.extBut c o (fun y => Z.t1 (y ▸ hc)) (hs₄.extBut c o (fun y => Z.x1 (y ▸ hc)) (hs₃.extBut c o (fun y => Z.t1 (y ▸ hc)) e))
  have q2c : S2 (k + 1) h₅ := D2.frame _ _ _ q2b fun c hc o e => hs₅.extBut c o (fun y => Z.t2 (y ▸ hc)) e
  have hzlt : z < h₅.objs.size := Heap.lt_size hz₅
  show wpAny _ _ (Builtin.SmallTypes.ownedTupleHandOut (.ref z) (.ref h₅.objs.size) >>= _) _ _ _
  refine wpAny_bind ?_
  unfold Builtin.SmallTypes.ownedTupleHandOut
  have hz₆ : IsZip (h₅.push { cls := .type "tuple", data := .seq #[x, y] }) z TI TO .ellipsis := Heap.get?_push_of_some _ hz₅
  refine wpAny_bind (wpAny_setField_rec hz₆ (by simp) fun h₇ hz₇ hs₇ => ?_)
  replace hz₇ : IsZip h₇ z TI TO (rawInt h₅.objs.size) := hz₇
  refine wpAny_setField_rec hz₇ (by simp) fun h₈ hz₈ hs₈ => ?_
  replace hz₈ : IsZip h₈ z TI TO (rawInt h₅.objs.size) := hz₈
  have up : ∀ c o, c ≠ z → h₅.get? c = some o → h₈.get? c = some o := fun c o c1 e => hs₈.extBut _ _ c1 (hs₇.extBut _ _ c1 (Heap.get?_push_of_some _ e))
  have hT₈ : IsPair h₈ h₅.objs.size x y := hs₈.extBut _ _ (Nat.ne_of_gt hzlt) (hs₇.extBut _ _ (Nat.ne_of_gt hzlt) (Heap.get?_push_size _ rfl))
  rw [hsz] at hz₈ hT₈
  refine wpAny_pure ⟨_, rfl, ?_⟩
  show Q (.ref h₅.objs.size) _
  rw [hsz]
  exact hQ x y h₈ tk₄ p1 p2 hz₈ (up _ _ Z.TOz hTO₅) (D1.frame _ _ _ q1c fun c hc o e => up c o (fun y => Z.z1 (y ▸ hc)) e) (D2.frame _ _ _ q2c fun c hc o e => up c o (fun y => Z.z2 (y ▸ hc)) e) hT₈ fun c o c1 c2 c3 c4 e => up c o c1 (hk₅ c o c1 c2 c3 c4 e)
/-- the first one is at its end -/
theorem zipD_end {Q : Fin → Shared → Prop} (D1 : Draws prog w A i1 f1 n1 P1 S1) (Z : ZApart z TI TO i1 i2 f1 f2)
    (hz : IsZip s.heap z TI TO .none) (hTI : IsPair s.heap TI (.ref i1) (.ref i2)) (q1 : S1 n1 s.heap)
    (hE : ∀ h' e, (∀ c o, c ≠ z → c ≠ i1 → s.heap.get? c = some o → h'.get? c = some o) → (∃ o, h'.get? e = some o ∧ o.cls = .type "StopIteration") → E (.ref e) { s with heap := h' }) :
    wpAny (model prog w) A (Builtin.«zip.__next__» ⟨[.ref z], []⟩) Q E s := by
  obtain ⟨hp, g, d, t0, os⟩ := s
  show wpAny _ _ (field (.ref z) 2 >>= _) _ _ _
  refine wpAny_bind (wpAny_field hz rfl (x := .bool false) rfl ?_)
  show wpAny _ _ (field (.ref z) 3 >>= _) _ _ _
  refine wpAny_bind (wpAny_field hz rfl (x := .ref TI) rfl ?_)
  refine wpAny_bind (wpAny_seqItems hTI rfl ?_)
  show wpAny _ _ (Builtin.SmallTypes.ownedTupleIsFree (.ref z) >>= _) _ _ _
  refine wpAny_bind ?_
  unfold Builtin.SmallTypes.ownedTupleIsFree
  refine wpAny_bind (wpAny_field hz rfl (x := .none) rfl (wpAny_pure ?_))
  simp only [if_true]
  refine wpAny_bind (wpAny_rule ?_)
  refine wpAny_bind (wpAny_field hz rfl (x := .ref TO) rfl ?_)
  refine wpAny_bind (wpAny_setField_rec hz (by simp) fun h₁ hz₁ hs₁ => ?_)
  replace hz₁ : IsZip h₁ z TI TO .ellipsis := hz₁
  replace hs₁ : Heap.SameBut z hp h₁ := hs₁
  refine wpAny_bind ?_
  simp only [List.zipIdx_cons, List.zipIdx_nil, List.forIn_cons, List.forIn_nil]
  refine wpAny_bind (wpAny_bind (wpAny_onRaise ?_))
  show wpAny _ _ (Builtin.SmallTypes.nextOf (.ref i1) >>= _) _ _ _
  have q1a : S1 n1 h₁ := D1.frame _ _ _ q1 fun c hc o e => hs₁.extBut c o (fun y => Z.z1 (y ▸ hc)) e
  refine wpAny_bind (D1.done ⟨h₁, g, d, t0, os⟩ _ _ q1a fun h₂ e hs₂ he => ?_)
  obtain ⟨oe, hoe, hce⟩ := he
  replace hs₂ : Heap.ExtBut i1 h₁ h₂ := hs₂
  have hz₂ : IsZip h₂ z TI TO .ellipsis := hs₂ _ _ Z.i1z.symm hz₁
  have hez : e ≠ z := fun x => by subst x; rw [hz₂] at hoe; cases hoe; simp at hce
  refine wpAny_setField_rec hz₂ (by simp) fun h₃ _ hs₃ => hE h₃ e (fun c o c1 c3 x => hs₃.extBut _ _ c1 (hs₂ _ _ c3 (hs₁.extBut _ _ c1 x))) ⟨oe, hs₃.extBut _ _ hez hoe, hce⟩
end
abbrev zT1 (h : Heap) (l1 : Addr) : Heap := h.push { cls := .type "tuple_iterator", data := .fields #[.ref l1, .int 0 0] }
abbrev zT2 (h : Heap) (l1 l2 : Addr) : Heap := (zT1 h l1).push { cls := .type "tuple_iterator", data := .fields #[.ref l2, .int 0 0] }
abbrev zT3 (h : Heap) (l1 l2 : Addr) : Heap := (zT2 h l1 l2).push { cls := .type "tuple", data := .seq #[.ref h.objs.size, .ref (zT1 h l1).objs.size] }
abbrev zT4 (h : Heap) (l1 l2 : Addr) : Heap := (zT3 h l1 l2).push { cls := .type "tuple", data := .seq #[.none, .none] }
abbrev zT5 (h : Heap) (l1 l2 : Addr) : Heap := (zT4 h l1 l2).push { cls := .type "zip", data := .fields #[.none, .bool false, .bool false, .ref (zT2 h l1 l2).objs.size, .ref (zT3 h l1 l2).objs.size] }
theorem meetsT_zip (l1 l2 : Addr) (xs ys : Array Value) :
    Meets (Builtin.«zip.__new__» ⟨[.type "zip", .ref l1, .ref l2], []⟩) (fun _ R s => s.heap.IsTuple l1 xs ∧ s.heap.IsTuple l2 ys ∧
      R (.ok (.ret (.ref (zT4 s.heap l1 l2).objs.size))) { s with heap := zT5 s.heap l1 l2 }) :=
  .of_wp fun prog w A R s h => by
    obtain ⟨hp, g, d, tk, os⟩ := s; obtain ⟨hl1, hl2, h⟩ := h
    have hsub := sub_zip
    have hL1 : Heap.IsTuple (Shared.heap ⟨hp, g, d, tk, os⟩) l1 xs := hl1
    have hL2 : Heap.IsTuple (Shared.heap ⟨hp.push { cls := .type "tuple_iterator", data := .fields #[.ref l1, .int 0 0] }, g, d, tk, os⟩) l2 ys := let ⟨o, e, r⟩ := hl2; ⟨o, Heap.get?_push_of_some _ e, r⟩
    wp_walk using wpAny_pyIter_tuple hL1, wpAny_pyIter_tuple hL2
    exact ⟨_, rfl, h⟩
section
variable {prog : Program} {w : World} {A : Around} {E : Value → Shared → Prop} {s : Shared}
theorem callT_zip {l1 l2 : Addr} {xs ys : Array Value} {Q : Value → Shared → Prop} (hl1 : s.heap.IsTuple l1 xs) (hl2 : s.heap.IsTuple l2 ys)
    (h : ∀ h', IsZip h' (s.heap.objs.size + 4) (s.heap.objs.size + 2) (s.heap.objs.size + 3) .none → IsPair h' (s.heap.objs.size + 2) (.ref s.heap.objs.size) (.ref (s.heap.objs.size + 1)) →
      IsPair h' (s.heap.objs.size + 3) .none .none → h'.IsTupleIter s.heap.objs.size l1 0 → h'.IsTupleIter (s.heap.objs.size + 1) l2 0 →
      (∀ c o, s.heap.get? c = some o → h'.get? c = some o) → Q (.ref (s.heap.objs.size + 4)) { s with heap := h' }) :
    wpAny (model prog w) A (call (.type "zip") [.ref l1, .ref l2]) Q E s := by
  refine callType_new F.called_zip (by decide) (F.typeCall_zip_2 _ _) (F.newCall_zip_2 _ _) (fun obj => F.args_object_init_3 obj _ _) F.entry_zip_new
    (meetsT_zip l1 l2 xs ys) ⟨hl1, hl2, ?_⟩
  have z1 : (zT1 s.heap l1).objs.size = s.heap.objs.size + 1 := Heap.size_push ..
  have z2 : (zT2 s.heap l1 l2).objs.size = s.heap.objs.size + 2 := by rw [Heap.size_push, z1]
  have z3 : (zT3 s.heap l1 l2).objs.size = s.heap.objs.size + 3 := by rw [Heap.size_push, z2]
  have z4 : (zT4 s.heap l1 l2).objs.size = s.heap.objs.size + 4 := by rw [Heap.size_push, z3]
  have g5 : (zT5 s.heap l1 l2).get? (zT4 s.heap l1 l2).objs.size = some _ := Heap.get?_push_size _ rfl
  have g4 : (zT5 s.heap l1 l2).get? (zT3 s.heap l1 l2).objs.size = some _ := Heap.get?_push_of_some _ (Heap.get?_push_size _ rfl)
  have g3 : (zT5 s.heap l1 l2).get? (zT2 s.heap l1 l2).objs.size = some _ := Heap.get?_push_of_some _ (Heap.get?_push_of_some _ (Heap.get?_push_size _ rfl))
  have g2 : (zT5 s.heap l1 l2).get? (zT1 s.heap l1).objs.size = some _ := Heap.get?_push_of_some _ (Heap.get?_push_of_some _ (Heap.get?_push_of_some _ (Heap.get?_push_size _ rfl)))
  have g1 : (zT5 s.heap l1 l2).get? s.heap.objs.size = some _ := Heap.get?_push_of_some _ (Heap.get?_push_of_some _ (Heap.get?_push_of_some _ (Heap.get?_push_of_some _ (Heap.get?_push_size _ rfl))))
  show _ ∧ _
  rw [z2, z3, z4] at g5
  rw [z1, z2] at g3
  rw [z3] at g4
  rw [z1] at g2
  rw [z4]
  exact ⟨⟨_, g5, rfl⟩, h _ g5 g3 g4 ⟨_, g1, rfl, rfl⟩ ⟨_, g2, rfl, rfl⟩ fun c o x =>
    Heap.get?_push_of_some _ (Heap.get?_push_of_some _ (Heap.get?_push_of_some _ (Heap.get?_push_of_some _ (Heap.get?_push_of_some _ x))))⟩
end
section
variable {X : Cx} {pins : List (Addr × Obj)} {σ : L2.St} {H : Hp} {s : Shared}
/-- records at ch have turned -/
theorem turnedC {h' : Heap} {t' : Nat} {ch : List Addr} (I : L2.Inv X pins σ H s) (k : ∀ b o, b ∉ ch → s.heap.get? b = some o → h'.get? b = some o) (hch : ∀ b ∈ ch, FpOk X pins H b) : L2.Inv X pins σ H { s with heap := h', toks := t' } := by
  have nch : ∀ b u, H b = some u → b ∉ ch := fun b u e z => by rw [(hch b z).1] at e; cases e
  refine I.step (g' := s.gens) (d' := s.drawn) (ch := ch) (fun b hb => ⟨(hch b hb).2.2.2.1, (hch b hb).2.1, (hch b hb).2.2.2.2.1, (hch b hb).2.2.2.2.2⟩) (fun b o _ _ hc e _ => k b o hc e) (fun b o _ _ hc e _ => ⟨o.slots, k b o hc e⟩)
    (fun _ _ _ _ n => n) (fun b o hc e => ⟨o, k b o hc e⟩) (fun _ _ e => e) (fun _ _ _ e => e) (fun b ps e => ⟨#[], by rw [e]; simp⟩) (fun m hm => ?_) (fun b u e => ?_) I.bare
  · obtain ⟨o, es, ep, ho, r⟩ := hm
    exact ⟨o, es, ep, k _ o (fun z => (hch _ z).2.1 rfl) ho, r⟩
  · refine (I.hok b u e).stay (fun c v hc q => k c v ?_ q) (fun _ q => q) fun _ _ q => q
    rcases hc with z | z
    · rw [z]; exact nch b u e
    · exact nch c _ z
theorem rd_ne {H : Hp} {a b : Addr} {u : HO} (h : Rd H a u) (h' : H b = none) : a ≠ b := by
  rcases h with h | ⟨o, h⟩
  · exact ne_of_none h h'
  · exact ne_of_none h h'
/-- zip of two tuples -/
def Itz (a1 a2 : Addr) : It :=
  ⟨fun i H => ∃ xs ys x y, Rd H a1 (.tup xs) ∧ Rd H a2 (.tup ys) ∧ xs[i]? = some x ∧ ys[i]? = some y,
   fun i H v H' => ∃ p x y, H p = none ∧ v = .ref p ∧ (∀ xs, Rd H a1 (.tup xs) → xs[i]? = some x) ∧ (∀ ys, Rd H a2 (.tup ys) → ys[i]? = some y) ∧ H' = upd H p (.tup [x, y]),
   fun i H => ∃ xs, Rd H a1 (.tup xs) ∧ xs.length = i⟩
theorem turn_zip {P : Program} {w : World} {K : PySem.W.Frag} {elts : List Expr} {x1} {pos : Pos} (a1 a2 z TI TO i1 i2 : Addr) (d1 : TI ≠ z) (d2 : TO ≠ z) (d3 : i1 ≠ z) (d4 : i2 ≠ z) (d5 : TI ≠ TO) (d6 : TI ≠ i1) (d7 : TI ≠ i2) (d8 : TO ≠ i1) (d9 : TO ≠ i2) (d10 : i1 ≠ i2) :
    Turn P w K (.Tuple elts x1 pos) (Itz a1 a2) [z, TI, TO, i1, i2] z (fun i h => IsZip h z TI TO .none ∧ IsPair h TI (.ref i1) (.ref i2) ∧ (∃ a b, IsPair h TO a b) ∧ h.IsTupleIter i1 a1 i ∧ h.IsTupleIter i2 a2 i) where
  mem := by simp
  obj := fun i h st b hb => by
    obtain ⟨hz, hTI, ⟨a, b', hTO⟩, ⟨o1, ho1, _, hd1⟩, ⟨o2, ho2, _, hd2⟩⟩ := st
    simp only [List.mem_cons, List.not_mem_nil, or_false] at hb
    rcases hb with rfl | rfl | rfl | rfl | rfl
    · exact ⟨_, hz, fun v y => by have y' : Data.fields _ = Data.cell v := y; cases y'⟩
    · exact ⟨_, hTI, fun v y => by have y' : Data.seq _ _ = Data.cell v := y; cases y'⟩
    · exact ⟨_, hTO, fun v y => by have y' : Data.seq _ _ = Data.cell v := y; cases y'⟩
    · exact ⟨_, ho1, fun v y => by rw [hd1] at y; cases y⟩
    · exact ⟨_, ho2, fun v y => by rw [hd2] at y; cases y⟩
  keep := fun i h h' st k => by
    obtain ⟨hz, hTI, ⟨a, b', hTO⟩, h1, h2⟩ := st
    exact ⟨k z (by simp) _ hz, k TI (by simp) _ hTI, ⟨a, b', k TO (by simp) _ hTO⟩, h1.at fun o e => k i1 (by simp) o e, h2.at fun o e => k i2 (by simp) o e⟩
  item := by
    intro X hP hw hK hc i pins s σ H E I hf st hg
    subst hP hw hK
    obtain ⟨xs, ys, x, y, ha1, ha2, hx, hy⟩ := hg
    obtain ⟨its, rv, p, hz0⟩ := I.tuple (.inl ha1)
    obtain ⟨its2, rv2, p2, hz2⟩ := I.tuple (.inl ha2)
    obtain ⟨u, hu, ru⟩ := rv.get hx
    obtain ⟨u2, hu2, ru2⟩ := rv2.get hy
    obtain ⟨hz, hTI, ⟨a, b', hTO⟩, h1, h2⟩ := st
    have n1 : ∀ c ∈ [z, TI, TO, i1, i2], a1 ≠ c := fun c hc => rd_ne ha1 (hf c hc).1
    have n2 : ∀ c ∈ [z, TI, TO, i1, i2], a2 ≠ c := fun c hc => rd_ne ha2 (hf c hc).1
    have Z : ZApart z TI TO i1 i2 [i1, a1] [i2, a2] := ⟨d1, d2, d3, d4, d5, d6, d7, d8, d9, d10, by simp [Ne.symm d3, Ne.symm (n1 z (by simp))], by simp [Ne.symm d4, Ne.symm (n2 z (by simp))], by simp [d8, Ne.symm (n1 TO (by simp))], by simp [d9, Ne.symm (n2 TO (by simp))], by simp [Ne.symm d10, Ne.symm (n1 i2 (by simp))], by simp [d10, Ne.symm (n2 i1 (by simp))]⟩
    have hil : i < its.toArray.size := by have := (List.getElem?_eq_some_iff.mp hu).1; simpa using this
    have hil2 : i < its2.toArray.size := by have := (List.getElem?_eq_some_iff.mp hu2).1; simpa using this
    have hT : s.TypeIs (.ref z) "zip" := ⟨_, hz, rfl⟩
    unfold pyNext
    refine wpAny_bind (wpAny_attempt (wpAny_callSpecial?_slot (name := Str.ofString "__next__") hT F.slot_zip_next
      (wpAny_call_entry F.slot_zip_next hT F.entry_zip_next
        (zipD_item (drawsT (A := X.A.in1) (I.ok.hd hc) i1 a1 (n1 i1 (by simp)) its.toArray) (drawsT (A := X.A.in1) (I.ok.hd hc) i2 a2 (n2 i2 (by simp)) its2.toArray) Z hz hTI hTO ⟨h1, p⟩ ⟨h2, p2⟩ hil hil2
          fun v v2 h' tk hv hv2 ho hTO' q1 q2 ht hk => wpAny_pure ⟨_, rfl, ?_⟩) (F.args_zip_next_1 _))))
    have ev : v = u := by
      have hv' : its[i]? = some v := by simpa using hv
      rw [hu] at hv'; exact (Option.some.inj hv').symm
    have ev2 : v2 = u2 := by
      have hv' : its2[i]? = some v2 := by simpa using hv2
      rw [hu2] at hv'; exact (Option.some.inj hv').symm
    subst ev ev2
    refine wpAny_letOwnedTupleGo_zip ho fun h'' hz'' hs'' => ?_
    have lt : ∀ c ∈ [z, TI, TO, i1, i2], c < s.heap.objs.size := fun c hc => by
      simp only [List.mem_cons, List.not_mem_nil, or_false] at hc
      rcases hc with rfl | rfl | rfl | rfl | rfl
      · exact Heap.lt_size hz
      · exact Heap.lt_size hTI
      · exact Heap.lt_size hTO
      · obtain ⟨_, e, _⟩ := h1; exact Heap.lt_size e
      · obtain ⟨_, e, _⟩ := h2; exact Heap.lt_size e
    have hTI' : IsPair h'' TI (.ref i1) (.ref i2) := hs''.extBut _ _ d1 (hk _ _ d1 d5 d6 d7 hTI)
    have hTO'' : IsPair h'' TO v v2 := hs''.extBut _ _ d2 hTO'
    have h1' : h''.IsTupleIter i1 a1 (i + 1) := q1.1.extBut hs''.extBut d3
    have h2' : h''.IsTupleIter i2 a2 (i + 1) := q2.1.extBut hs''.extBut d4
    refine ⟨.ref s.heap.objs.size, upd H s.heap.objs.size (.tup [x, y]), ?_, rfl, ⟨_, x, y, I.hok.fresh (Nat.le_refl _), rfl, fun zs hy' => by rw [I.tuple_inj (.inl hy') (.inl ha1)]; exact hx, fun zs hy' => by rw [I.tuple_inj (.inl hy') (.inl ha2)]; exact hy, rfl⟩, ⟨hz'', hTI', ⟨_, _, hTO''⟩, h1', h2'⟩, ?_⟩
    · show L2.Inv X pins σ _ { s with heap := h'', toks := tk }
      refine turnedT (s := s) (its := [v, v2]) I (ch := [z, TI, TO, i1, i2]) (fun b o hb q => ?_) hf (fun b hb => ?_) (Nat.le_refl _) (by show 2 ≤ sizeLine; decide) (.cons ru (.cons ru2 .nil)) ?_
      · simp only [List.mem_cons, List.not_mem_nil, or_false, not_or] at hb
        exact hs''.extBut b o hb.1 (hk b o hb.1 hb.2.2.1 hb.2.2.2.1 hb.2.2.2.2 q)
      · simp only [List.mem_cons, List.not_mem_nil, or_false] at hb
        rcases hb with rfl | rfl | rfl | rfl | rfl
        · exact ⟨_, hz''⟩
        · exact ⟨_, hTI'⟩
        · exact ⟨_, hTO''⟩
        · obtain ⟨o, e, _⟩ := h1'; exact ⟨o, e⟩
        · obtain ⟨o, e, _⟩ := h2'; exact ⟨o, e⟩
      · exact ⟨_, hs''.extBut _ _ (Nat.ne_of_gt (lt z (by simp))) ht, rfl, _, rfl⟩
    · intro b hb
      rw [upd_ne (Nat.ne_of_lt (lt b hb))]
      exact (hf b hb).1
  done := by
    intro X hP hw hK hc i pins s σ H E I hf st hg
    subst hP hw hK
    obtain ⟨xs, ha1, hx⟩ := hg
    obtain ⟨its, rv, p, hz0⟩ := I.tuple (.inl ha1)
    obtain ⟨hz, hTI, ⟨a, b', hTO⟩, h1, h2⟩ := st
    have n1 : ∀ c ∈ [z, TI, TO, i1, i2], a1 ≠ c := fun c hc => rd_ne ha1 (hf c hc).1
    have Z : ZApart z TI TO i1 i2 [i1, a1] [i2] := ⟨d1, d2, d3, d4, d5, d6, d7, d8, d9, d10, by simp [Ne.symm d3, Ne.symm (n1 z (by simp))], by simp [Ne.symm d4], by simp [d8, Ne.symm (n1 TO (by simp))], by simp [d9], by simp [Ne.symm d10, Ne.symm (n1 i2 (by simp))], by simp [d10]⟩
    have hl : its.toArray.size = i := by rw [List.size_toArray, ← rv.length]; exact hx
    have hT : s.TypeIs (.ref z) "zip" := ⟨_, hz, rfl⟩
    unfold pyNext
    refine wpAny_bind (wpAny_attempt (wpAny_callSpecial?_slot (name := Str.ofString "__next__") hT F.slot_zip_next
      (wpAny_call_entry F.slot_zip_next hT F.entry_zip_next
        (zipD_end (drawsT (A := X.A.in1) (I.ok.hd hc) i1 a1 (n1 i1 (by simp)) its.toArray) Z hz hTI ⟨by rw [hl]; exact h1, p⟩ fun h' e hk he => ?_) (F.args_zip_next_1 _))))
    obtain ⟨o, ho, hcl⟩ := he
    refine wpAny_bind (wpAny_isInstance (T := "StopIteration") (b := true) ⟨o, ho, hcl⟩ isSubtype_stop ?_)
    refine wpAny_pure ⟨rfl, turnedC (t' := s.toks) I (ch := [z, i1]) (fun b o hb e => ?_) (fun b hb => hf b ?_)⟩
    · simp only [List.mem_cons, List.not_mem_nil, or_false, not_or] at hb
      exact hk b o hb.1 hb.2 e
    · simp only [List.mem_cons, List.not_mem_nil, or_false] at hb
      rcases hb with rfl | rfl <;> simp
  self := fun _ _ _ _ _ st h => wpAny_pyIter_zip st.1 h
def iZip (ta : TA) : TI := fun σ H R => ta σ H fun vs H1 => ∃ a1 a2 xs ys, vs = [.ref a1, .ref a2] ∧ Rd H1 a1 (.tup xs) ∧ Rd H1 a2 (.tup ys) ∧ R (Itz a1 a2) H1
theorem pi_zip {a b : Expr} {ta : TA} {p pos : Pos} {elts : List Expr} {x1} {tpos : Pos} (hg : Gl X "zip") (hm : X.mg "zip" = none) (ha : PA X [a, b] ta) (h1 : notStar a = true := by rfl) (h2 : notStar b = true := by rfl) :
    PI X (.Tuple elts x1 tpos) (.Call (.Name "zip" p) [a, b] [] pos) (iZip ta) := by
  intro pins s σ H R I h
  have hs2 : starEach [b] X.env = [(false, eval b X.env)] := star_cons h2
  refine Call_ (ld_blt I hg hm boot_zip (PyProof.Rows.callWith_type1 (thn (ha pos pins s σ H _ I h) fun us s1 ⟨vs, H1, I1, r1, q1⟩ => ?_) (by rw [star_cons h1, hs2]) (by rw [hs2]; rfl)))
  obtain ⟨a1, a2, xs, ys, e, e1, e2, q⟩ := q1
  subst e
  obtain ⟨u, v, rfl, ru, rv⟩ := r1.two
  cases ru
  cases rv
  obtain ⟨its, r1', p1, hz⟩ := I1.tuple (.inl e1)
  obtain ⟨its2, r2', p2, hz2⟩ := I1.tuple (.inl e2)
  have ad : ∀ (n i j : Nat), i ≠ j → n + i ≠ n + j := fun n i j h => by omega
  refine callT_zip (show s1.heap.IsTuple a1 its.toArray from p1) (show s1.heap.IsTuple a2 its2.toArray from p2) fun h' hz hTI hTO h1 h2 hk => wpAny_pyIter_zip hz ?_
  refine ⟨s1.heap.objs.size + 4, [s1.heap.objs.size + 4, s1.heap.objs.size + 2, s1.heap.objs.size + 3, s1.heap.objs.size, s1.heap.objs.size + 1], _, _, H1, rfl, I1.kept (t' := s1.toks) hk,
    turn_zip a1 a2 (s1.heap.objs.size + 4) (s1.heap.objs.size + 2) (s1.heap.objs.size + 3) s1.heap.objs.size (s1.heap.objs.size + 1) (ad _ 2 4 (by decide)) (ad _ 3 4 (by decide)) (ad _ 0 4 (by decide)) (ad _ 1 4 (by decide)) (ad _ 2 3 (by decide)) (ad _ 2 0 (by decide)) (ad _ 2 1 (by decide)) (ad _ 3 0 (by decide)) (ad _ 3 1 (by decide)) (ad _ 0 1 (by decide)), ⟨hz, hTI, ⟨_, _, hTO⟩, h1, h2⟩, fun b hb => ?_, q⟩
  have hb' : s1.heap.objs.size ≤ b := by
    simp only [List.mem_cons, List.not_mem_nil, or_false] at hb
    rcases hb with rfl | rfl | rfl | rfl | rfl
    · exact Nat.le_add_right _ 4
    · exact Nat.le_add_right _ 2
    · exact Nat.le_add_right _ 3
    · exact Nat.le_refl _
    · exact Nat.le_add_right _ 1
  exact I1.fpOk hb' (I1.hok.fresh hb')
end
theorem comp_zip {K : PySem.W.Frag} {js : List Nat} {te : TE} {σ : L2.St} {H : Hp} {Q : VK} {a1 a2 : Addr} {xs ys : List V} (hl : xs.length = ys.length) (hn : xs.length ≤ sizeLine) (Pv : Nat → List V → Hp → Prop) (h0 : Pv 0 [] H)
    (hk : ∀ i zs H, Pv i zs H → Rd H a1 (.tup xs) ∧ Rd H a2 (.tup ys))
    (hs : ∀ i zs H p x y, xs[i]? = some x → ys[i]? = some y → zs.length = i → Pv i zs H → H p = none → te (some x :: some y :: frees js σ) (upd H p (.tup [x, y])) fun v H3 => Pv (i + 1) (zs ++ [v]) H3)
    (hd : ∀ zs H, zs.length = xs.length → Pv xs.length zs H → ∀ p, H p = none → Q (.ref p) (upd H p (.lst zs))) :
    CompG 2 js (gTup K 2 (gCons (gName 0) (gCons (gName 1) gNil))) te σ Q (Itz a1 a2) H := by
  refine ⟨fun i m zs τ H => m = xs.length - i ∧ i ≤ xs.length ∧ zs.length = i ∧ Pv i zs H ∧ ∃ o o', τ = o :: o' :: frees js σ, ⟨xs.length, by simp, Nat.zero_le _, rfl, h0, none, none, rfl⟩, ?_⟩
  rintro i m zs τ H ⟨rfl, hi, hzl, p, o, o', rfl⟩
  obtain ⟨e1, e2⟩ := hk i zs H p
  by_cases hlt : i < xs.length
  · have hlt2 : i < ys.length := by omega
    refine .inr ⟨⟨xs, ys, xs[i], ys[i], e1, e2, by simp [hlt], by simp [hlt2]⟩, by omega, fun v H' y => ?_⟩
    obtain ⟨pp, x, y, hp, rfl, hx, hy, rfl⟩ := y
    refine ⟨pp, _, rfl, SqT.of upd_same, rfl, _, _, rfl, _, _, rfl, rfl, ?_⟩
    exact ⟨fun v H3 => Pv (i + 1) (zs ++ [v]) H3, fun v H3 p3 => ⟨xs.length - (i + 1), by omega, rfl, hlt, by simp [hzl], p3, _, _, rfl⟩, hs i zs _ pp x y (hx xs e1) (hy ys e2) hzl p hp⟩
  · have e : i = xs.length := by omega
    subst e
    exact .inl ⟨⟨xs, e1, rfl⟩, hd zs H hzl p⟩
end L3

namespace L3
open PySem PySem.Spec PyProof.Rows L2 PySem.SeqAt
open Sem (wp)
open AutoSeq1 (wpAny_loadPart')
theorem forInR {M : Model} {A : Around} {E : Value → Shared → Prop} {s : Shared} {β : Type} (f : Nat → β → Sem (ForInStep β)) (I : List Nat → β → Shared → Prop) (Q : β → Shared → Prop)
    (turn : ∀ x rest b s, I (x :: rest) b s → wpAny M A (f x b) (fun r s' => match r with | .yield b' => I rest b' s' | .done b' => Q b' s') E s)
    (fin : ∀ b s, I [] b s → Q b s) (n : Nat) (b : β) (h : I (List.range' 0 n) b s) : wpAny M A (forIn [:n] b f) Q E s := by
  rw [Std.Legacy.Range.forIn_eq_forIn_range']
  refine wpAny_forIn_list f I Q turn fin _ b ?_
  simpa [Std.Legacy.Range.size] using h
theorem tuple_indexAt (l : Addr) (items : Array Value) (n : Nat) (dd : Option Addr) (sl : Array (Option Value)) (x : Value) (e : Value → Bool) (j : Nat) (hj : j < items.size) (hit : e items[j] = true) (hno : ∀ m (hm : m < items.size), m < j → e items[m] = false) :
    Meets (Builtin.«tuple.index» ⟨[.ref l, x], []⟩)
      (fun A R s => s.heap.get? l = some { cls := .type "tuple", dict := dd, data := .seq items n, slots := sl } ∧ (∀ y, y ∈ items → EqAt A.in1 s y x (e y)) ∧ R (.ok (.ret (.int j s.toks))) { s with toks := s.toks + 1 }) :=
  .of_wp fun prog w A R s h => by
    obtain ⟨hp, g, d, tk, os⟩ := s; obtain ⟨hl, he, h⟩ := h
    wp_walk using wpAny_loadPart' hl, forInR _ (fun rest b s' => b = (none, ()) ∧ s' = ⟨hp, g, d, tk, os⟩ ∧ ∃ i, i ≤ j ∧ rest = List.range' i (items.size - i)) _
    case turn =>
      rintro i rest b s' ⟨rfl, rfl, i', hi', hr⟩
      have hlt : i' < items.size := by omega
      rw [show items.size - i' = (items.size - (i' + 1)) + 1 by omega, List.range'_succ] at hr
      cases hr
      have ei : items[i]? = some items[i] := by simp [hlt]
      dsimp only
      rw [ei]
      refine wpAny_bind (he _ (Array.getElem_mem hlt) prog w _ _ ?_)
      by_cases hij : i = j
      · subst hij
        rw [hit]
        wp_walk
        exact ⟨_, rfl, h⟩
      · rw [hno i hlt (by omega)]
        wp_walk
        exact ⟨rfl, rfl, i + 1, by omega, rfl⟩
    case fin =>
      rintro b s' ⟨rfl, rfl, i, hi, hr⟩
      have := congrArg List.length hr
      simp at this
      omega
    case h =>
      refine ⟨rfl, rfl, 0, Nat.zero_le _, ?_⟩
      simp
section
variable {X : Cx}
theorem Rd.same {H H' : Hp} {a : Addr} {u : HO} (s : Same H H') (h : Rd H a u) : Rd H' a u := by
  rcases h with h | ⟨o, h⟩
  · exact .inl (s _ _ h)
  · exact .inr ⟨o, s _ _ h⟩
theorem Rd.gr {b : Addr} {H H' : Hp} {a : Addr} {u : HO} (g : Gr b H H') (n : a ≠ b) (h : Rd H a u) : Rd H' a u := by
  rcases h with h | ⟨o, h⟩
  · exact .inl (g.kp _ _ n h)
  · exact .inr ⟨o, g.kp _ _ n h⟩
/-! ### isinstance, one class or several -/
inductive Ty2 (H : Hp) : V → String → Prop where
  | int (i : Int) : Ty2 H (.int i) "int"
  | bl (b : Bool) : Ty2 H (.bl b) "bool"
  | tup {a : Addr} {xs : List V} (h : Rd H a (.tup xs)) : Ty2 H (.ref a) "tuple"
  | str (x : Str) : Ty2 H (.str x) "str"
  | non : Ty2 H .non "NoneType"
  | lst {a : Addr} {xs : List V} (h : H a = some (.lst xs)) : Ty2 H (.ref a) "list"
theorem ty2_mem {H : Hp} {x : V} {t : String} (h : Ty2 H x t) : t ∈ tysL := by cases h <;> simp
theorem kit_any (K : PySem.W.Frag) {t : String} (ht : t ∈ tysL) : ∀ cs : List String, (∀ c ∈ cs, c ∈ clsL) → PySem.W.kitAny K (.type t) (cs.map Value.type) = some (cs.any (subT t))
  | [], _ => rfl
  | c :: r, h => by
    have e := kit_tab K t ht c (h c List.mem_cons_self)
    have ih := kit_any K ht r fun d hd => h d (List.mem_cons_of_mem _ hd)
    simp only [List.map_cons, PySem.W.kitAny, e, List.any_cons]
    cases subT t c with
    | true => rfl
    | false => simpa using ih
theorem call_isiA : CallR X (.builtin "isinstance") (fun xs H Q => ∃ x c t, xs = [x, .ty c] ∧ Ty2 H x t ∧ c ∈ clsL ∧ Q (.bl (subT t c)) H) := by
  intro pins s σ H xs us Q I r h
  obtain ⟨x, c, t, rfl, ty, hc, q⟩ := h
  obtain ⟨u, v, rfl, ru, rv⟩ := vals2 r
  cases (show v = Value.type c from rv)
  have e := kit_tab X.K t (ty2_mem ty) c hc
  have fin : ∀ tk, EP X pins σ Q (.bool (subT t c)) { s with toks := tk } := fun tk => ⟨.bl _, H, I.tok tk, rfl, q⟩
  cases ty with
  | int i => obtain ⟨t, q⟩ := (show ∃ t, u = Value.int i t from ru); cases q; exact PySem.W.kia_one PySem.W.kitx_int I.kIn True.intro e (fun z => nomatch z) fin
  | bl b => cases (show u = Value.bool b from ru); exact PySem.W.kia_one PySem.W.kitx_bool I.kIn True.intro e (fun z => nomatch z) fin
  | @tup a ys hr =>
    cases (show u = Value.ref a from ru)
    obtain ⟨its, _, ⟨o, h1, h2, _⟩, _⟩ := I.tuple (.inl hr)
    exact PySem.W.kia_one PySem.W.kitx_tuple I.kIn ⟨o, h1, h2⟩ e (fun z => nomatch z) fin
  | str x => obtain ⟨t, q⟩ := (show ∃ t, u = Value.str x t from ru); cases q; exact PySem.W.kia_one PySem.W.kitx_str I.kIn True.intro e (fun z => nomatch z) fin
  | non => cases (show u = Value.none from ru); exact PySem.W.kia_one PySem.W.kitx_none I.kIn True.intro e (fun z => nomatch z) fin
  | @lst a ys ea =>
    cases (show u = Value.ref a from ru)
    obtain ⟨_, _, n, _, h1⟩ := (show ObjOk X.prog X.w H s.heap a (.lst ys) from I.hok a _ ea)
    exact PySem.W.kia_one PySem.W.kitx_list I.kIn ⟨_, h1, rfl⟩ e (fun z => nomatch z) fin
theorem vals_tys : ∀ {cs : List String} {us : List Value}, Vals (cs.map V.ty) us → us = cs.map Value.type
  | [], _, .nil => rfl
  | c :: cs, _, .cons r t => by
    cases (show _ = Value.type c from r)
    rw [vals_tys t]; rfl
theorem call_isiB : CallR X (.builtin "isinstance") (fun xs H Q => ∃ (x : V) (p : Addr) (cs : List String) (t : String), xs = [x, .ref p] ∧ H p = some (.tup (cs.map V.ty)) ∧ Ty2 H x t ∧ (∀ c ∈ cs, c ∈ clsL) ∧ Q (.bl (cs.any (subT t))) H) := by
  intro pins s σ H xs us Q I r h
  obtain ⟨x, p, cs, t, rfl, hp, ty, hc, q⟩ := h
  obtain ⟨u, v, rfl, ru, rv⟩ := vals2 r
  cases (show v = Value.ref p from rv)
  obtain ⟨its, rvs, ⟨⟨cl, dd, dt, sl⟩, ho, hcl, n, hdt⟩, _⟩ := I.tuple (SqT.of hp)
  replace hcl : cl = .type "tuple" := hcl
  replace hdt : dt = .seq its.toArray n := hdt
  subst hcl hdt
  have e := kit_any X.K (ty2_mem ty) cs hc
  rw [← vals_tys rvs] at e
  have fin : ∀ tk, EP X pins σ Q (.bool (cs.any (subT t))) { s with toks := tk } := fun tk => ⟨.bl _, H, I.tok tk, rfl, q⟩
  cases ty with
  | int i => obtain ⟨t, q⟩ := (show ∃ t, u = Value.int i t from ru); cases q; exact PySem.W.kia_tup PySem.W.kitx_int I.kIn True.intro ho e (fun z => nomatch z) fin
  | bl b => cases (show u = Value.bool b from ru); exact PySem.W.kia_tup PySem.W.kitx_bool I.kIn True.intro ho e (fun z => nomatch z) fin
  | @tup a ys hr =>
    cases (show u = Value.ref a from ru)
    obtain ⟨its', _, ⟨o, h1, h2, _⟩, _⟩ := I.tuple (.inl hr)
    exact PySem.W.kia_tup PySem.W.kitx_tuple I.kIn ⟨o, h1, h2⟩ ho e (fun z => nomatch z) fin
  | str x => obtain ⟨t, q⟩ := (show ∃ t, u = Value.str x t from ru); cases q; exact PySem.W.kia_tup PySem.W.kitx_str I.kIn True.intro ho e (fun z => nomatch z) fin
  | non => cases (show u = Value.none from ru); exact PySem.W.kia_tup PySem.W.kitx_none I.kIn True.intro ho e (fun z => nomatch z) fin
  | @lst a ys ea =>
    cases (show u = Value.ref a from ru)
    obtain ⟨_, _, n, _, h1⟩ := (show ObjOk X.prog X.w H s.heap a (.lst ys) from I.hok a _ ea)
    exact PySem.W.kia_tup PySem.W.kitx_list I.kIn ⟨_, h1, rfl⟩ ho e (fun z => nomatch z) fin
/-! ### tuple(list), the object known -/
theorem call_tupleF : CallR X (.type "tuple") (fun xs H Q => ∃ p ys, xs = [.ref p] ∧ SqL X.K H p ys ∧ ∀ l o, H l = none → o.cls = .type "tuple" → o.dict = none → Q (.ref l) (upd H l (.frz o (.tup ys)))) := by
  intro pins s σ H xs us Q I r h
  obtain ⟨p, ys, rfl, hq, q⟩ := h
  obtain ⟨u, rfl, rx⟩ := vals1 r
  cases rx
  obtain ⟨its, r', pl, hz⟩ := I.list hq
  have hlen := r'.length
  refine call_tuple_list pl.isList (fun h' kp => ?_) (by simp only [List.size_toArray] <;> omega)
  have I1 : L2.Inv X pins σ H { s with heap := h' } := I.kept (t' := s.toks) kp
  have I2 : L2.Inv X pins σ (upd H h'.objs.size (.frz { cls := .type "tuple", data := .seq its.toArray } (.tup ys))) { s with heap := h'.push { cls := .type "tuple", data := .seq its.toArray } } :=
    I1.laid (t' := s.toks) (fun b o e => Heap.get?_push_of_some _ e) (Nat.le_refl _) ⟨Heap.get?_push_size _ rfl, hz, its, r', IsTup.new _ _⟩
  exact ⟨.ref h'.objs.size, _, I2, rfl, q _ _ (I1.hok.fresh (Nat.le_refl _)) rfl rfl⟩
/-! ### t.index(z) -/
theorem vals_mem {ns : List Int} {us : List Value} (r : Vals (ns.map V.int) us) : IntsAre us ns := intsAre_of r
def tIdx (to : TE) (t : TA) : TE := fun σ H Q => to σ H fun x H1 => ∃ (a : Addr) (o : Obj) (ns : List Int), x = .ref a ∧ H1 a = some (.frz o (.tup (ns.map V.int))) ∧ o.dict = none ∧ t σ H1 fun xs H2 => ∃ z, xs = [.int z] ∧ H2 a = some (.frz o (.tup (ns.map V.int))) ∧ z ∈ ns ∧ Q (.int (ns.idxOf z : Nat)) H2
theorem pe_idx {o e : Expr} {to : TE} {t : TA} {apos cpos : Pos} (hu : X.A.units + 1 < cLine) (ho : PE X o to) (ha : PA X [e] t) (hn : notStar e = true := by rfl)
    (hbase : attributeBase o "index" X.env (eval o X.env) = eval o X.env := by rfl)
    (hfew : ((backTo cpos (starEach [e] X.env)).all (fun x => !x.1) && (backToKw cpos (keywordEach [] X.env)).all (fun x => x.1.isSome)
      && decide ([e].length + ([] : List Keyword).length + (if ([] : List Keyword).isEmpty then 0 else 1) < 30)) = true := by rfl)
    (hline : (apos.endLine == cpos.line) = true := by rfl) :
    PE X (.Call (.Attribute o "index" apos) [e] [] cpos) (tIdx to t) := by
  intro pins s σ H Q I h
  refine wpAny_Call_method_late hbase hfew hline rfl (thn (ho pins s σ H _ I h) fun v s1 ⟨x, H1, I1, r1, q1⟩ => ?_)
  obtain ⟨a, ob, ns, rfl, hH, hdict, q1⟩ := q1
  cases r1
  obtain ⟨hob, hz0, its0, rv0, p0⟩ := I1.hok a _ hH
  refine ⟨"tuple", "tuple.index", F.plainAttrs_tuple, F.slot_tuple_index, F.type_tuple_index, p0.typeIs, fun b e => by cases e; exact ⟨ob, hob, hdict⟩, ?_⟩
  have hA := ha cpos pins s1 σ H1 _ I1 q1
  have hs : starEach [e] X.env = (false, eval e X.env) :: starEach [] X.env := star_cons hn
  rw [hs] at hA ⊢
  refine Calls.callWith_builtin (by rfl) (Calls.evalArgs_plain ?_)
  refine thn hA fun us s2 ⟨vs, H2, I2, r2, z, ev, hH2, hz, q2⟩ => ?_
  subst ev
  obtain ⟨u, rfl, t, rfl⟩ := r2.one
  obtain ⟨hob2, hz1, its, rv, p⟩ := I2.hok a _ hH2
  obtain ⟨⟨cls, dd, data, sl⟩, ho2, hc, n, hd⟩ := id p
  simp only at hc hd
  subst hc hd
  have hi := intsAre_of rv
  have hlen := hi.length
  have hj : ns.idxOf z < ns.length := List.idxOf_lt_length_iff.mpr hz
  refine call_meets F.slot_tuple_index ⟨_, ho2, rfl⟩ F.entry_tuple_index (F.args_tuple_index_2 _ _)
    (tuple_indexAt a its.toArray n dd sl (.int z t) (isInt z) (ns.idxOf z) (by simpa [hlen] using hj) ?_ ?_) ⟨ho2, fun y hy => (eq_isInt z t hi y (by simpa using hy)).at _ _, ?_⟩
  · show isInt z its[ns.idxOf z] = true
    rw [isInt_at z hi _ (by omega) hj]
    simp
  · intro m hm hlt
    show isInt z its[m] = false
    rw [isInt_at z hi _ (by simpa using hm) (by omega)]
    have := List.not_of_lt_findIdx (p := (· == z)) (xs := ns) (i := m) hlt
    simpa using this
  · exact ⟨.int _, H2, I2.tok _, ⟨_, rfl⟩, q2⟩
theorem op_neL (hu : X.A.units + 1 < cLine) : OpR X (compareOp .NotEq) (rEqL X.K true) := by
  intro pins s σ H x y v u Q I rx ry h
  obtain ⟨a, b, ns, ms, rfl, rfl, ha, hb, q⟩ := h
  cases rx
  cases ry
  obtain ⟨its, r1, p1, _⟩ := I.list ha
  obtain ⟨its2, r2, p2, _⟩ := I.list hb
  have l1 : ns.length = its.length := by have := r1.length; rwa [List.length_map] at this
  have l2 : ms.length = its2.length := by have := r2.length; rwa [List.length_map] at this
  by_cases hl : ns.length = ms.length
  · refine SeqAt.RcNeAt.lists (e := fun j => ns.getD j 0 == ms.getD j 0) p1.isList p2.isList (by simp; omega) (Nat.lt_of_succ_lt hu) (fun j h1 h2 => ?_) _ _ _ _ ⟨.bl _, H, I, ?_, q⟩
    · have h1' : j < its.length := by simpa using h1
      have h2' : j < its2.length := by simpa using h2
      obtain ⟨t, e⟩ := vals_ix r1 j h1' (by omega)
      obtain ⟨t', e'⟩ := vals_ix r2 j h2' (by omega)
      simp only [List.getElem_toArray, e, e', List.getD_eq_getElem?_getD, List.getElem?_eq_getElem (show j < ns.length by omega), List.getElem?_eq_getElem (show j < ms.length by omega), Option.getD_some]
      exact SeqAt.EqAt.int_int _ _ _ _
    · show Value.bool _ = Value.bool _
      simp only [List.size_toArray, ← l1, all_ints ns ms hl]
      rfl
  · refine SeqAt.RcNeAt.lists_lengths p1.isList p2.isList (by simp; omega) (Nat.lt_of_succ_lt hu) _ _ _ _ ⟨.bl _, H, I, ?_, q⟩
    show Value.bool true = Value.bool _
    simp only [if_true]
    rw [decide_eq_false fun z => hl (by rw [z])]
    rfl
end
/-! ### tables that lead back -/
def backL (t : List Int) : List Int := (List.range 16).map fun d => ((t.idxOf ((d : Nat) : Int) : Nat) : Int)
theorem backL_len (t : List Int) : (backL t).length = 16 := by simp [backL]
section
variable {t : List Int} (p : t.Perm digs)
include p
theorem tab_nodup : t.Nodup := p.nodup_iff.mpr (by decide)
theorem tab_len : t.length = 16 := by rw [p.length_eq, digs_len]
theorem tab_mem {d : Nat} (h : d < 16) : ((d : Nat) : Int) ∈ t := p.mem_iff.mpr (List.mem_map.mpr ⟨d, List.mem_range.mpr h, rfl⟩)
theorem tab_at {i : Nat} (h : i < t.length) : 0 ≤ t[i] ∧ t[i] < 16 := digs_mem (p.mem_iff.mp (List.getElem_mem h))
theorem idx_at {i : Nat} (h : i < t.length) : t.idxOf t[i] = i := (tab_nodup p).idxOf_getElem i h
theorem back_at {d : Nat} (h : d < 16) : (backL t)[d]'(by rw [backL_len]; exact h) = ((t.idxOf ((d : Nat) : Int) : Nat) : Int) := by simp [backL]
theorem back_perm : (backL t).Perm digs := by
  have nd : (backL t).Nodup := by
    unfold backL
    show List.Pairwise (· ≠ ·) _
    rw [List.pairwise_map]
    refine List.Pairwise.imp_of_mem ?_ (List.nodup_range (n := 16))
    intro x y hx hy hne e
    refine hne ?_
    have hx' := tab_mem p (List.mem_range.mp hx)
    have hy' := tab_mem p (List.mem_range.mp hy)
    have e' : t.idxOf ((x : Nat) : Int) = t.idxOf ((y : Nat) : Int) := by omega
    have a := List.getElem_idxOf (List.idxOf_lt_length_iff.mpr hx')
    have b := List.getElem_idxOf (List.idxOf_lt_length_iff.mpr hy')
    simp only [e'] at a
    rw [a] at b
    omega
  refine (List.perm_ext_iff_of_nodup nd (by decide)).mpr fun z => ?_
  constructor
  · intro h
    obtain ⟨d, hd, rfl⟩ := List.mem_map.mp h
    have := List.idxOf_lt_length_iff.mpr (tab_mem p (List.mem_range.mp hd))
    rw [tab_len p] at this
    exact List.mem_map.mpr ⟨_, List.mem_range.mpr this, rfl⟩
  · intro h
    obtain ⟨i, hi, rfl⟩ := List.mem_map.mp h
    have hi' : i < t.length := by rw [tab_len p]; exact List.mem_range.mp hi
    have b := tab_at p hi'
    refine List.mem_map.mpr ⟨t[i].toNat, List.mem_range.mpr (by omega), ?_⟩
    have : ((t[i].toNat : Nat) : Int) = t[i] := by omega
    rw [this, idx_at p hi']
theorem back_back : backL (backL t) = t := by
  have pb := back_perm p
  refine List.ext_getElem (by rw [backL_len, tab_len p]) fun d h1 h2 => ?_
  have hd : d < 16 := by rw [backL_len] at h1; exact h1
  rw [back_at pb hd]
  have b := tab_at p h2
  have hk : t[d].toNat < (backL t).length := by rw [backL_len]; omega
  have e : (backL t)[t[d].toNat]'hk = ((d : Nat) : Int) := by
    rw [back_at p (by omega)]
    have : ((t[d].toNat : Nat) : Int) = t[d] := by omega
    rw [this, idx_at p h2]
  have := idx_at pb hk
  rw [e] at this
  rw [this]
  omega
end
end L3

namespace L3
open PySem PySem.Spec L2
variable {X : Cx}
theorem qs_continue  {pos : Pos} : QS X (.Continue pos) tCont := ⟨ps_continue ⟩
theorem qs_break  {pos : Pos} : QS X (.Break pos) tBreak := ⟨ps_break ⟩
theorem qs_pass  {pos : Pos} : QS X (.Pass pos) tNext := ⟨ps_pass ⟩
theorem qs_never  {st : Stmt} : QS X st tNever := ⟨ps_never ⟩
theorem qss_never  {sts : List Stmt} : QSs X sts tNever := ⟨pss_never ⟩
theorem qi_enum2  {a : Expr} {ta : TA} {p pos : Pos} {elts : List Expr} {x1} {tpos : Pos} (hg : Gl X "enumerate") (hm : X.mg "enumerate" = none) (ha : QA X [a] ta) (hs : starEach [a] X.env = [(false, eval a X.env)] := by rfl) : QI X (.Tuple elts x1 tpos) (.Call (.Name "enumerate" p) [a] [] pos) (iEnum2 X.K ta) := ⟨pi_enum2 (hg := hg) (hm := hm) (ha := ha.h) (hs := hs)⟩
theorem qi_zip  {a b : Expr} {ta : TA} {p pos : Pos} {elts : List Expr} {x1} {tpos : Pos} (hg : Gl X "zip") (hm : X.mg "zip" = none) (ha : QA X [a, b] ta) (h1 : notStar a = true := by rfl) (h2 : notStar b = true := by rfl) : QI X (.Tuple elts x1 tpos) (.Call (.Name "zip" p) [a, b] [] pos) (iZip ta) := ⟨pi_zip (hg := hg) (hm := hm) (ha := ha.h) (h1 := h1) (h2 := h2)⟩
theorem qe_idx  {o e : Expr} {to : TE} {t : TA} {apos cpos : Pos} (hu : X.A.units + 1 < cLine) (ho : QE X o to) (ha : QA X [e] t) (hn : notStar e = true := by rfl) (hbase : attributeBase o "index" X.env (eval o X.env) = eval o X.env := by rfl) (hfew : ((backTo cpos (starEach [e] X.env)).all (fun x => !x.1) && (backToKw cpos (keywordEach [] X.env)).all (fun x => x.1.isSome)
      && decide ([e].length + ([] : List Keyword).length + (if ([] : List Keyword).isEmpty then 0 else 1) < 30)) = true := by rfl) (hline : (apos.endLine == cpos.line) = true := by rfl) : QE X (.Call (.Attribute o "index" apos) [e] [] cpos) (tIdx to t) := ⟨pe_idx (hu := hu) (ho := ho.h) (ha := ha.h) (hn := hn) (hbase := hbase) (hfew := hfew) (hline := hline)⟩
/-! the second box: its number grows by one a draw at most -/
def BoxC (H : Hp) (b : Addr) (c : Nat) : Prop := ∃ n m k : Int, H b = some (BoxL n m k) ∧ 0 ≤ m ∧ m < 2305843009213693951 ∧ 0 ≤ k ∧ k ≤ c
structure GrC (b : Addr) (c : Nat) (H H' : Hp) : Prop where
  kp : ∀ a o, a ≠ b → H a = some o → H' a = some o
  bx : BoxC H' b c
theorem BoxC.mono {H : Hp} {b : Addr} {c d : Nat} (h : BoxC H b c) (l : c ≤ d) : BoxC H b d := let ⟨n, m, k, e, a1, a2, a3, a4⟩ := h; ⟨n, m, k, e, a1, a2, a3, by omega⟩
theorem GrC.mono {b : Addr} {c d : Nat} {H H' : Hp} (h : GrC b c H H') (l : c ≤ d) : GrC b d H H' := ⟨h.kp, h.bx.mono l⟩
theorem GrC.refl {b : Addr} {c : Nat} {H : Hp} (h : BoxC H b c) : GrC b c H H := ⟨fun _ _ _ e => e, h⟩
theorem GrC.trans {b : Addr} {c d : Nat} {H H1 H2 : Hp} (x : GrC b c H H1) (y : GrC b d H1 H2) : GrC b d H H2 := ⟨fun c o n e => y.kp c o n (x.kp c o n e), y.bx⟩
theorem _root_.L2.Same.grc {b : Addr} {c : Nat} {H H' : Hp} (x : Same H H') (h : BoxC H b c) : GrC b c H H' := ⟨fun c o _ e => x c o e, let ⟨n, m, k, e, r⟩ := h; ⟨n, m, k, x _ _ e, r⟩⟩
theorem GrC.same {b : Addr} {c : Nat} {H H1 H2 : Hp} (x : GrC b c H H1) (y : Same H1 H2) : GrC b c H H2 := x.trans (y.grc x.bx)
theorem boxc_fresh {H : Hp} {b l : Addr} {c : Nat} (hb : BoxC H b c) (h : H l = none) : l ≠ b := fun z => by
  obtain ⟨_, _, _, e, _⟩ := hb
  subst z
  rw [e] at h
  cases h
def spBox2 (K : PySem.W.Frag) : Sp := fun vs H Q _ => ∃ (a : Addr) (ns : List Int) (k : Nat), vs = [.ref a, .int k] ∧ SqL K H a (ns.map V.int) ∧ ∀ b H', H b = none → Same H H' → BoxC H' b 0 → Q (.ref b) H'
def spTake2 : Sp := fun vs H Q _ => ∃ (b : Addr) (many : Int) (c : Nat), vs = [.ref b, .int many] ∧ BoxC H b c ∧ c < 1000000000 ∧ 0 < many ∧ many < 1073741824 ∧ ∀ r H', 0 ≤ r → r < many → GrC b (c + 1) H H' → Q (.int r) H'
theorem s2n {H H' : Hp} {p : Addr} (h : H' p = none) (s : Same H H') : H p = none := by
  cases e : H p with
  | none => rfl
  | some o => rw [s _ _ e] at h; cases h
def numB : V → Bool
  | .int _ => true
  | _ => false
theorem numB_kd {H : Hp} {x : V} {t : String} (h : kd H x = some t) : numB x = (subT t "int" && !subT t "bool") := by
  cases x with
  | non => cases h; decide
  | bl b => cases h; show false = _; decide
  | int i => cases h; show true = _; decide
  | str x => cases h; show false = _; decide
  | byt b => cases h
  | flt b => cases h
  | ty b => cases h
  | ref a =>
    rcases kd_ref h with ⟨xs, e, rfl⟩ | ⟨xs, e, rfl⟩
    · show false = _; decide
    · show false = _; decide
theorem numB_int {x : V} (h : numB x = true) : ∃ i, x = .int i := by
  cases x <;> first | exact ⟨_, rfl⟩ | cases h
theorem isDig_num {x : V} (h : numB x = false) : isDig x = false := by
  cases x <;> first | rfl | cases h
def spNumber : Sp := fun vs H Q _ => ∃ x t, vs = [x] ∧ kd H x = some t ∧ Q (.bl (numB x)) H
/-! things alike, as the laws' own look has it -/
inductive Eqv (H : Hp) : Nat → V → V → Prop where
  | int (n : Nat) (i : Int) : Eqv H n (.int i) (.int i)
  | str (n : Nat) (x : Str) : Eqv H n (.str x) (.str x)
  | non (n : Nat) : Eqv H n .non .non
  | tup {n : Nat} {a b : Addr} {xs ys : List V} (h1 : Rd H a (.tup xs)) (h2 : Rd H b (.tup ys)) (hl : xs.length = ys.length) (hz : xs.length ≤ sizeLine)
      (hi : ∀ (i : Nat) (x y : V), xs[i]? = some x → ys[i]? = some y → Eqv H n x y) : Eqv H (n + 1) (.ref a) (.ref b)
theorem Eqv.same {H H' : Hp} (s : Same H H') : ∀ {n : Nat} {x y : V}, Eqv H n x y → Eqv H' n x y := fun h => by
  induction h with
  | int n i => exact .int n i
  | str n x => exact .str n x
  | non n => exact .non n
  | tup h1 h2 hl hz _ ih => exact .tup (Rd.same s h1) (Rd.same s h2) hl hz ih
theorem Eqv.ints {H : Hp} {n : Nat} {a b : Addr} {ns : List Int} (h1 : Rd H a (.tup (ns.map V.int))) (h2 : Rd H b (.tup (ns.map V.int))) (hz : ns.length ≤ sizeLine) : Eqv H (n + 1) (.ref a) (.ref b) :=
  .tup h1 h2 rfl (by rw [List.length_map]; exact hz) fun i x y e1 e2 => by
    rw [e1] at e2
    cases e2
    obtain ⟨z, rfl, _⟩ := ints_get e1
    exact .int _ _
def spIs (n : Nat) : Sp := fun vs H Q _ => ∃ x y, vs = [x, y] ∧ Eqv H n x y ∧ ∀ H', Same H H' → Q (.bl true) H'
theorem Same.sqt {K : PySem.W.Frag} {H H' : Hp} {a : Addr} {xs : List V} (e : Same H H') (h : SqT K H a xs) : SqT K H' a xs := by
  rcases h with h | h
  · exact .inl (Rd.same e h)
  · exact .inr h
/-! back_table -/
def bkI (t : List Int) (i : Nat) : List Int := (List.range 16).map fun d => if ((d : Nat) : Int) ∈ t.take i then ((t.idxOf ((d : Nat) : Int) : Nat) : Int) else 0
theorem bkI_len (t : List Int) (i : Nat) : (bkI t i).length = 16 := by simp [bkI]
theorem bkI_zero (t : List Int) : bkI t 0 = List.replicate 16 0 := by simp only [bkI, List.take_zero, List.not_mem_nil, if_false]; rfl
theorem bkI_at {t : List Int} {i d : Nat} (h : d < 16) : (bkI t i)[d]'(by rw [bkI_len]; exact h) = if ((d : Nat) : Int) ∈ t.take i then ((t.idxOf ((d : Nat) : Int) : Nat) : Int) else 0 := by simp [bkI]
theorem bkI_end {t : List Int} (p : t.Perm digs) : bkI t t.length = backL t := by
  unfold bkI backL
  refine List.map_congr_left fun d hd => ?_
  rw [List.take_length, if_pos (tab_mem p (List.mem_range.mp hd))]
theorem bkI_step {t : List Int} (p : t.Perm digs) {i : Nat} (hi : i < t.length) : (bkI t i).set t[i].toNat (i : Int) = bkI t (i + 1) := by
  have b := tab_at p hi
  refine List.ext_getElem (by rw [List.length_set, bkI_len, bkI_len]) fun d h1 h2 => ?_
  have hd : d < 16 := by rw [bkI_len] at h2; exact h2
  rw [List.getElem_set, bkI_at hd, bkI_at hd, List.take_add_one, List.getElem?_eq_getElem hi, Option.toList_some]
  by_cases e : t[i].toNat = d
  · have e' : ((d : Nat) : Int) = t[i] := by omega
    rw [if_pos e, if_pos (by rw [e']; exact List.mem_append_right _ (List.mem_singleton.mpr rfl)), e', idx_at p hi]
  · have e' : ((d : Nat) : Int) ≠ t[i] := by omega
    rw [if_neg e]
    simp only [List.mem_append, List.mem_singleton, e', or_false]
def spBack (K : PySem.W.Frag) : Sp := fun vs H Q _ => ∃ (a : Addr) (t : List Int), vs = [.ref a] ∧ (SqL K H a (t.map V.int) ∨ SqT K H a (t.map V.int)) ∧ t.Perm digs ∧ ∀ p H', Same H H' → H' p = some (.tup ((backL t).map V.int)) → Q (.ref p) H'
def spTableF : Sp := fun vs H Q _ => ∃ (b : Addr), vs = [.ref b] ∧ Box H b ∧ ∀ p o (t : List Int) H', Gr b H H' → H p = none → H' p = some (.frz o (.tup (t.map V.int))) → o.dict = none → t.Perm digs → Q (.ref p) H'
theorem qg_tupK {X : Cx} {K : PySem.W.Frag} (hK : X.K = K) {pos : Pos} {es : List Expr} {k : Nat} {t : TGs} (n : Nat) (hc : X.calm = true) (h : QGs X es t) (hn : (assignEach es X.env).length = n := by rfl) (hst : (assignEach es X.env).findIdx? (·.1) = none := by rfl) : QG X (.Tuple es k pos) (gTup K n t) := by
  subst hK
  exact ⟨pg_tup (hc := hc) (h := h.h) (hn := hn) (hst := hst)⟩
end L3

namespace L3
open PySem PySem.Spec PyProof.Rows L2
open Sem (wp)
namespace RV
theorem slot_init : Slot "reversed" "__init__" "object.__init__" :=
  .of (owner := "object") (n := "__init__") (by rw [typeLookup_type, builtinLookup_eq_fast]
                                                kernel_rfl) (by decide +kernel) (by decide +kernel) (by decide +kernel)
    (by first | exact .inl (by decide +kernel) | exact .inr (by decide +kernel)) (by rw [isSubtype_type]
                                                                                     kernel_rfl)
theorem called : TypeCalled "reversed" "reversed.__new__" "object.__init__" :=
  ⟨by decide +kernel, by decide +kernel, ⟨_, _, F.mro_reversed⟩, F.made_reversed, by decide +kernel, F.sub_reversed_self, slot_init⟩
theorem slot_next : Slot "reversed" "__next__" "reversed.__next__" :=
  .of (owner := "reversed") (n := "__next__") (by rw [typeLookup_type, builtinLookup_eq_fast]
                                                  kernel_rfl) (by decide +kernel) (by decide +kernel) (by decide +kernel)
    (by first | exact .inl (by decide +kernel) | exact .inr (by decide +kernel)) (by rw [isSubtype_type]
                                                                                     kernel_rfl)
theorem entry_next : entryFor table "reversed.__next__" = some Builtin.«reversed.__next__» := entryFor_of_tree (by kernel_rfl)
theorem owner_rev : Manifest.owners.lookup (String.ofList ['d', 'e', 's', 'r', 'e', 'v', 'e', 'r'].reverse) = some Manifest.sig_reversed := by kernel_rfl
theorem args_next (a : Value) : argsOk "reversed.__next__" ⟨[a], []⟩ := by
  unfold argsOk
  rw [signature?_of (id := "reversed.__next__") (n := ['_', '_', 't', 'x', 'e', 'n', '_', '_']) (o := ['d', 'e', 's', 'r', 'e', 'v', 'e', 'r']) (by kernel_rfl) owner_rev]
  kernel_rfl
theorem slot_iter : Slot "reversed" "__iter__" "reversed.__iter__" :=
  .of (owner := "reversed") (n := "__iter__") (by rw [typeLookup_type, builtinLookup_eq_fast]
                                                  kernel_rfl) (by decide +kernel) (by decide +kernel) (by decide +kernel)
    (by first | exact .inl (by decide +kernel) | exact .inr (by decide +kernel)) (by rw [isSubtype_type]
                                                                                     kernel_rfl)
theorem args_iter (a : Value) : argsOk "reversed.__iter__" ⟨[a], []⟩ := by
  unfold argsOk
  rw [signature?_of (id := "reversed.__iter__") (n := ['_', '_', 'r', 'e', 't', 'i', '_', '_']) (o := ['d', 'e', 's', 'r', 'e', 'v', 'e', 'r']) (by kernel_rfl) owner_rev]
  kernel_rfl
theorem entry_iter : entryFor table "reversed.__iter__" = some Builtin.«dict_keyiterator.__iter__» :=
  entryFor_alias (id' := "dict_keyiterator.__iter__") (by kernel_rfl)
    (by first | rfl | decide +kernel | (unfold String.splitOn
                                        simp +decide [String.splitOnAux])) (by decide +kernel) (by kernel_rfl)
theorem no_tuple : typeLookup (.type "tuple") "__reversed__" = pure none := by
  rw [typeLookup_type, builtinLookup_eq_fast]
  kernel_rfl
theorem tup_dict : isSubtype (.type "tuple") (.type "dict") = pure false := by
  rw [isSubtype_type]
  kernel_rfl
theorem ri_rev : isSubtype (.type "range_iterator") (.type "reversed") = pure false := by
  rw [isSubtype_type]
  kernel_rfl
theorem tc1 (a : Value) : checkTypeCall "reversed" ⟨[a], []⟩ = pure () := by kernel_rfl
end RV
def RevT (h : Heap) (it t : Addr) (i : Int) : Prop := ∃ o, h.get? it = some o ∧ o.cls = .type "reversed" ∧ o.data = .fields #[.ref t, rawInt i]
theorem meetsT_rev (l : Addr) (items : Array Value) (hz : items.size ≤ sizeLine) :
    Meets (Builtin.«reversed.__new__» ⟨[.type "reversed", .ref l], []⟩) (fun A R s => s.heap.IsTuple l items ∧
      R (.ok (.ret (.ref s.heap.objs.size))) { s with heap := s.heap.push { cls := .type "reversed", data := .fields #[.ref l, rawInt ((items.size : Int) - 1)] }, toks := s.toks + 2 }) :=
  .of_wp fun prog w A R s h => by
    obtain ⟨hp, g, d, tk, os⟩ := s; obtain ⟨hl, h⟩ := h
    have hsub := F.sub_reversed_self
    have hT : Shared.TypeIs ⟨hp, g, d, tk, os⟩ (.ref l) "tuple" := let ⟨o, e, c, _⟩ := hl; ⟨o, e, c⟩
    have hL : Heap.IsTuple (Shared.heap ⟨hp, g, d, tk, os⟩) l items := hl
    have hd := RV.tup_dict
    have hI : IsTup (Shared.heap ⟨hp, g, d, tk, os⟩) l items := hl
    have hn := line63
    wp_walk using wpAny_specialOf hT RV.no_tuple, wpAny_of_eq hd, wpAny_specialOf hT F.slot_tuple_getitem.lookup, len_tuple hI (by omega)
    exact ⟨_, rfl, h⟩
end L3

namespace L3
open PySem PySem.Spec PyProof.Rows L2
open Sem (wp)
abbrev smR (a b c : Int) : Bool := Builtin.Range.rangeFitsLong a && Builtin.Range.rangeFitsLong b && Builtin.Range.rangeFitsLong c && Builtin.Range.rangeFitsLong (-c) && Builtin.Range.rangeFitsLong (a - c) && Builtin.Range.rangeFitsLong (Builtin.Range.rangeSize a b c)
theorem meets_rrevG (r : Addr) (a b c : Int) (t u v : Tok) (hc0 : ¬ (!smR a b c) = true) :
    Meets (Builtin.«range.__reversed__» ⟨[.ref r], []⟩) (fun _ R s => s.heap.get? r = some { cls := .type "range", dict := none, data := .fields #[.int a t, .int b u, .int c v], slots := #[] } ∧
      R (.ok (.ret (.ref s.heap.objs.size))) { s with heap := s.heap.push { cls := .type (if smR a b c then "range_iterator" else "longrange_iterator"), data := .fields #[rawInt (a + (Builtin.Range.rangeSize a b c - 1) * c), rawInt (Builtin.Range.rangeSize a b c), rawInt (-c)] } }) :=
  .of_wp fun prog w A R s h => by obtain ⟨hp, g, d, tk, os⟩ := s; obtain ⟨hl, h⟩ := h; wp_walk; exact ⟨_, rfl, h⟩
theorem rs_nat (n : Nat) : Builtin.Range.rangeSize 0 n 1 = n := by
  unfold Builtin.Range.rangeSize
  rw [if_pos (by decide)]
  split <;> omega
theorem sm_nat {n : Nat} (hn : (n : Int) < 2 ^ 62) : smR 0 n 1 = true := by
  unfold smR
  rw [rs_nat]
  simp only [Builtin.Range.rangeFitsLong, Bool.and_eq_true, decide_eq_true_eq]
  omega
theorem meets_rrev (r : Addr) (n : Nat) (t u v : Tok) (hn : (n : Int) < 2 ^ 62) :
    Meets (Builtin.«range.__reversed__» ⟨[.ref r], []⟩) (fun _ R s => s.heap.get? r = some { cls := .type "range", data := .fields #[.int 0 t, .int n u, .int 1 v] } ∧
      R (.ok (.ret (.ref s.heap.objs.size))) { s with heap := s.heap.push { cls := .type "range_iterator", data := .fields #[rawInt ((n : Int) - 1), rawInt n, rawInt (-1)] } }) := by
  have g := meets_rrevG r 0 n 1 t u v (by rw [sm_nat hn]; decide)
  rw [sm_nat hn, rs_nat, if_pos rfl, Int.mul_one, Int.zero_add] at g
  exact g
section
variable {prog : Program} {w : World} {A : Around} {E : Value → Shared → Prop} {s : Shared}
theorem RevT.typeIs {it t : Addr} {i : Int} (x : RevT s.heap it t i) : s.TypeIs (.ref it) "reversed" := let ⟨o, ho, hc, _⟩ := x; ⟨o, ho, hc⟩
theorem nextRT_item {it t : Addr} {i : Nat} {items : Array Value} {x : Value} {Q : Option Value → Shared → Prop} (hit : RevT s.heap it t (i : Int)) (hl : IsTup s.heap t items) (hx : items[i]? = some x) (hz : items.size ≤ sizeLine)
    (hQ : ∀ h' tk, RevT h' it t ((i : Int) - 1) → Heap.SameBut it s.heap h' → Q (some x) { s with heap := h', toks := tk }) : wpAny (model prog w) A (pyNext (.ref it)) Q E s := by
  obtain ⟨o, ho, hc, hd⟩ := id hit
  have hT : s.TypeIs (.ref t) "tuple" := let ⟨o, e, c, _⟩ := hl; ⟨o, e, c⟩
  have hn := line63
  have hlt : i < items.size := (Array.getElem?_eq_some_iff.mp hx).1
  unfold pyNext
  refine wpAny_bind (wpAny_attempt (wpAny_callSpecial?_slot (name := Str.ofString "__next__") (RevT.typeIs hit) RV.slot_next
    (wpAny_call_entry RV.slot_next (RevT.typeIs hit) RV.entry_next ?_ (RV.args_next _))))
  unfold Builtin.«reversed.__next__»
  refine wpAny_bind (wpAny_of_eq (a := (Value.ref it, [])) rfl ?_)
  try dsimp only
  refine wpAny_bind (wpAny_field ho hd (x := .ref t) rfl ?_)
  refine wpAny_bind (wpAny_field ho hd (x := rawInt (i : Int)) rfl ?_)
  show wpAny _ _ (if (i : Int) < 0 then _ else _) _ _ s
  rw [if_neg (by omega)]
  try dsimp only
  refine wpAny_bind (wpAny_specialOf hT F.slot_tuple_getitem.lookup ?_)
  rw [if_neg (show ¬ ((some (Value.builtin "tuple.__getitem__")).isNone = true) from Bool.false_ne_true)]
  refine wpAny_bind (wpAny_mkInt ?_)
  have hI : IsTup (Shared.heap { s with toks := s.toks + 1 }) t items := hl
  refine wpAny_bind (wpAny_attempt (getItem_tuple hI (by omega) (by omega) (by unfold seqIndex?; rw [if_neg (show ¬ ((i : Int) < 0) by omega)]; simp [hlt]) hx ?_))
  try dsimp only
  refine wpAny_bind (wpAny_field (s := { s with toks := s.toks + 1 }) ho hd (x := rawInt (i : Int)) rfl ?_)
  show wpAny _ _ (setField (.ref it) 1 (rawInt ((i : Int) - 1)) >>= _) _ _ _
  refine wpAny_bind (wpAny_setField (s := { s with toks := s.toks + 1 }) ho hd (by simp) ?_)
  refine wpAny_pure ⟨x, rfl, wpAny_pure (hQ _ _ ?_ (Heap.SameBut.update ..))⟩
  exact ⟨_, Heap.get?_update_self _ ho (Obj.isFreed_of_fields (Obj.data_mapFields hd _)), (Obj.cls_mapFields ..).trans hc, by
    rw [Obj.data_mapFields hd]
    simp⟩
theorem nextRT_end {it t : Addr} {Q : Option Value → Shared → Prop} (hh : A.handled = none) (hit : RevT s.heap it t (-1))
    (hQ : ∀ h', Heap.ExtBut it s.heap h' → Q none { s with heap := h' }) : wpAny (model prog w) A (pyNext (.ref it)) Q E s := by
  obtain ⟨o, ho, hc, hd⟩ := id hit
  unfold pyNext
  refine wpAny_bind (wpAny_attempt (wpAny_callSpecial?_slot (name := Str.ofString "__next__") (RevT.typeIs hit) RV.slot_next
    (wpAny_call_entry RV.slot_next (RevT.typeIs hit) RV.entry_next ?_ (RV.args_next _))))
  unfold Builtin.«reversed.__next__»
  refine wpAny_bind (wpAny_of_eq (a := (Value.ref it, [])) rfl ?_)
  try dsimp only
  refine wpAny_bind (wpAny_field ho hd (x := .ref t) rfl ?_)
  refine wpAny_bind (wpAny_field ho hd (x := rawInt (-1)) rfl ?_)
  show wpAny _ _ (if (-1 : Int) < 0 then _ else _) _ _ s
  rw [if_pos (by decide)]
  refine wpAny_bind (wpAny_rule ?_)
  refine wpAny_bind ?_
  show wpAny _ _ (setField (.ref it) 1 (rawInt (-1)) >>= _) _ _ _
  refine wpAny_bind (wpAny_setField ho hd (by simp) ?_)
  have hg1 := Heap.get?_update_self (Obj.mapFields (·.setIfInBounds 1 (rawInt (-1)))) ho (Obj.isFreed_of_fields (Obj.data_mapFields hd _))
  refine wpAny_setField hg1 (Obj.data_mapFields hd _) (by simp) ?_
  refine wpAny_bind ?_
  show wpAny _ _ (newExc (.type "StopIteration") [] >>= _) _ _ _
  refine wpAny_bind ?_
  simp only [newExc, newTuple]
  refine wpAny_bind (wpAny_newObj_type ?_ (by size_fits))
  refine wpAny_bind (m := firstArgMember _ _) (wpAny_of_eq (a := Value.none) (by first | rfl | (simp only [firstArgMember]; rfl)) ?_)
  refine wpAny_newObj_type ?_ (by size_fits)
  simp only [raiseNew]
  refine wpAny_bind (wpAny_handled ?_)
  first | rw [show A.in1.handled = none from hh] | rw [hh]
  refine wpAny_bind (wpAny_pure (wpAny_throw ?_))
  refine wpAny_bind (wpAny_isInstance (T := "StopIteration") (b := true) ⟨_, Heap.get?_push_size _ rfl, rfl⟩ isSubtype_stop ?_)
  exact wpAny_pure (hQ _ (((((Heap.SameBut.update ..).trans (Heap.SameBut.update ..)).extBut).push _).push _))
theorem iterRT {it t : Addr} {i : Int} {Q : Value → Shared → Prop} (hit : RevT s.heap it t i) (h : Q (.ref it) s) : wpAny (model prog w) A (pyIter (.ref it)) Q E s := by
  refine wpAny_pyIter_slot (RevT.typeIs hit) RV.slot_iter (wpAny_call_entry RV.slot_iter (RevT.typeIs hit) RV.entry_iter ?_ (RV.args_iter _))
  show wpAny _ _ (ret (.ref it)) _ _ s
  exact wpAny_pure ⟨_, rfl, "reversed", _, RevT.typeIs hit, RV.slot_next.lookup, h⟩
theorem callRT {l : Addr} {items : Array Value} {Q : Value → Shared → Prop} (hl : s.heap.IsTuple l items) (hz : items.size ≤ sizeLine)
    (h : ∀ h' tk, RevT h' s.heap.objs.size l ((items.size : Int) - 1) → (∀ b o, s.heap.get? b = some o → h'.get? b = some o) → Q (.ref s.heap.objs.size) { s with heap := h', toks := tk }) :
    wpAny (model prog w) A (call (.type "reversed") [.ref l]) Q E s := by
  refine callType_new RV.called (by decide) (RV.tc1 _) (F.newCall_reversed_1 _) (fun obj => F.args_object_init_2 obj _) F.entry_reversed_new (meetsT_rev l items hz) ⟨hl, ?_⟩
  exact ⟨⟨_, Heap.get?_push_size _ rfl, rfl⟩, h _ _ ⟨_, Heap.get?_push_size _ rfl, rfl, rfl⟩ fun b o e => Heap.get?_push_of_some _ e⟩
/-! reversed(range) -/
theorem callRR {r : Addr} {n : Nat} {t u v : Tok} {Q : Value → Shared → Prop} (hr : s.heap.get? r = some { cls := .type "range", data := .fields #[.int 0 t, .int n u, .int 1 v] }) (hn : (n : Int) < 2 ^ 62)
    (h : ∀ h', IsRangeIter h' s.heap.objs.size ((n : Int) - 1) n (-1) → (∀ b o, s.heap.get? b = some o → h'.get? b = some o) → Q (.ref s.heap.objs.size) { s with heap := h' }) :
    wpAny (model prog w) A (call (.type "reversed") [.ref r]) Q E s := by
  have hT : s.TypeIs (.ref r) "range" := ⟨_, hr, rfl⟩
  refine callType_other (U := "range_iterator") (Q₁ := fun obj s₁ => obj = .ref s.heap.objs.size ∧ ∃ h', s₁ = { s with heap := h' } ∧ IsRangeIter h' s.heap.objs.size ((n : Int) - 1) n (-1) ∧ ∀ b o, s.heap.get? b = some o → h'.get? b = some o) (by decide +kernel) F.create_reversed ⟨_, _, F.mro_reversed⟩ F.made_reversed RV.ri_rev (RV.tc1 _) ?_ ?_
  · refine codeAny_of_tree ?_
    show wpAny _ A.in1.in1 (do checkBuiltinCall "reversed.__new__" ⟨[.type "reversed", .ref r], []⟩; again (.builtin "reversed.__new__" ⟨[.type "reversed", .ref r], []⟩)) _ _ s
    refine wpAny_bind (wpAny_of_eq (F.newCall_reversed_1 _) (wpAny_pure ⟨plainId_quiet F.plain_reversed_new _, codeAny_builtin F.entry_reversed_new ?_⟩))
    rw [Around.under_plainId F.plain_reversed_new _]
    unfold Builtin.«reversed.__new__»
    refine wpAny_bind (wpAny_of_eq (newClass_reversed _) ?_)
    try dsimp only
    refine wpAny_bind (wpAny_of_eq (a := ()) (by first | rfl | kernel_rfl) ?_)
    refine wpAny_bind (wpAny_of_eq (a := ()) (by first | rfl | kernel_rfl) ?_)
    try dsimp only
    refine wpAny_bind (wpAny_specialOf hT F.slot_range_reversed.lookup ?_)
    try dsimp only
    refine wpAny_bind (wpAny_of_eq (F.slot_range_reversed.bind _) ?_)
    try dsimp only
    first
    | rw [if_neg (show ¬ ((Value.builtin "range.__reversed__" == Value.none) = true) from Bool.false_ne_true)]
    | (show wpAny _ _ (if (Value.builtin "range.__reversed__" == Value.none) = true then _ else _) _ _ _
       rw [if_neg (show ¬ ((Value.builtin "range.__reversed__" == Value.none) = true) from Bool.false_ne_true)])
    refine wpAny_bind (wpAny_rule ?_)
    refine wpAny_bind (m := runValue (.call (.builtin "range.__reversed__") ⟨[.ref r], []⟩)) (show wpAny _ _ (call (.builtin "range.__reversed__") [.ref r]) _ _ _ from
      call_meets F.slot_range_reversed hT F.entry_range_reversed (F.args_range_reversed_1 _) (meets_rrev r n t u v hn) ⟨hr, ?_⟩)
    first
    | exact wpAny_pure ⟨rfl, _, rfl, Heap.get?_push_size _ rfl, fun b o e => Heap.get?_push_of_some _ e⟩
    | exact wpAny_bind (wpAny_pure (wpAny_pure ⟨rfl, _, rfl, Heap.get?_push_size _ rfl, fun b o e => Heap.get?_push_of_some _ e⟩))
  · rintro obj s₁ ⟨rfl, h', rfl, hi, hk⟩
    exact ⟨⟨_, hi, rfl⟩, h h' hi hk⟩
end
/-! ### loops backwards -/
def ItlR (K : PySem.W.Frag) (a : Addr) (n : Nat) : It :=
  ⟨fun i H => i < n ∧ ∃ xs, SqL K H a xs ∧ xs.length = n, fun i H x H' => H' = H ∧ ∀ xs, SqL K H a xs → xs[n - 1 - i]? = some x, fun i _ => n ≤ i⟩
def IttR (K : PySem.W.Frag) (a : Addr) (n : Nat) : It :=
  ⟨fun i H => i < n ∧ ∃ xs, SqT K H a xs ∧ xs.length = n, fun i H x H' => H' = H ∧ ∀ xs, SqT K H a xs → xs[n - 1 - i]? = some x, fun i _ => n ≤ i⟩
def ItrR (n : Nat) : It := ⟨fun i _ => i < n, fun i H x H' => H' = H ∧ x = .int ((n : Int) - 1 - i), fun i _ => n ≤ i⟩
theorem turn_listR {P : Program} {w : World} {K : PySem.W.Frag} {tg : Expr} (a it : Addr) (n : Nat) : Turn P w K tg (ItlR K a n) [it] it (fun i h => i ≤ n ∧ h.IsRevIter it a ((n : Int) - 1 - i)) where
  mem := by simp
  obj := fun i h st b hb => by
    have e : b = it := by simpa using hb
    subst e
    obtain ⟨_, o, e, c, d⟩ := st
    exact ⟨o, e, fun v z => by rw [d] at z; cases z⟩
  keep := fun i h h' st k => ⟨st.1, st.2.at fun o e => k it (by simp) o e⟩
  item := by
    intro X hP hw hK hc i pins s σ H E I hf st hg
    subst hP hw hK
    obtain ⟨hi, xs, hq, hn⟩ := hg
    obtain ⟨its, rv, p, hz⟩ := I.list hq
    have hlt : n - 1 - i < xs.length := by omega
    obtain ⟨u, hu, ru⟩ := rv.get (List.getElem?_eq_getElem hlt)
    obtain ⟨f0, f1, f2, f3, f4, f5⟩ := hf it (by simp)
    have e1 : (n : Int) - 1 - i = ((n - 1 - i : Nat) : Int) := by omega
    have st2 := st.2
    rw [e1] at st2
    refine wpAny_pyNext_rev_item st2 p.isList (x := u) (by simpa using hu) fun h' st' sb => ?_
    have I1 : L2.Inv X pins σ H { s with heap := h' } := I.turned (t' := s.toks) (fun b o hb e => (sb.2 b hb).trans e) f0 f1 f3 f4 f5
    obtain ⟨o, e, c, d⟩ := id st'
    refine ⟨u, rfl, go_of (s := { s with heap := h' }) e c d (by decide) ⟨_, H, I1, ru, ⟨rfl, fun ys hy => by rw [I.list_inj hy hq]; exact List.getElem?_eq_getElem hlt⟩, ⟨by omega, ?_⟩, fun b hb => (hf b hb).1⟩⟩
    have e2 : ((n - 1 - i : Nat) : Int) - 1 = (n : Int) - 1 - ((i + 1 : Nat) : Int) := by omega
    rw [← e2]
    exact st'
  done := by
    intro X hP hw hK hc i pins s σ H E I hf st hg
    subst hP hw hK
    obtain ⟨f0, f1, f2, f3, f4, f5⟩ := hf it (by simp)
    have hi : i = n := Nat.le_antisymm st.1 hg
    have st2 := st.2
    rw [show (n : Int) - 1 - i = -1 by omega] at st2
    exact wpAny_pyNext_rev_end (I.ok.hd hc) st2 fun h' eb => ⟨rfl, I.turned (t' := s.toks) (fun b o hb e => eb b o hb e) f0 f1 f3 f4 f5⟩
  self := fun _ _ _ _ _ st h => wpAny_pyIter_revIter st.2 h
theorem turn_tupR {P : Program} {w : World} {K : PySem.W.Frag} {tg : Expr} (a it : Addr) (n : Nat) : Turn P w K tg (IttR K a n) [it] it (fun i h => i ≤ n ∧ RevT h it a ((n : Int) - 1 - i)) where
  mem := by simp
  obj := fun i h st b hb => by
    have e : b = it := by simpa using hb
    subst e
    obtain ⟨_, o, e, c, d⟩ := st
    exact ⟨o, e, fun v z => by rw [d] at z; cases z⟩
  keep := fun i h h' st k => ⟨st.1, let ⟨o, e, r⟩ := st.2; ⟨o, k it (by simp) o e, r⟩⟩
  item := by
    intro X hP hw hK hc i pins s σ H E I hf st hg
    subst hP hw hK
    obtain ⟨hi, xs, hq, hn⟩ := hg
    obtain ⟨its, rv, p, hz⟩ := I.tuple hq
    have hlen := rv.length
    have hlt : n - 1 - i < xs.length := by omega
    obtain ⟨u, hu, ru⟩ := rv.get (List.getElem?_eq_getElem hlt)
    obtain ⟨f0, f1, f2, f3, f4, f5⟩ := hf it (by simp)
    have e1 : (n : Int) - 1 - i = ((n - 1 - i : Nat) : Int) := by omega
    have st2 := st.2
    rw [e1] at st2
    refine nextRT_item st2 p (x := u) (by simpa using hu) (by simp; omega) fun h' tk st' sb => ?_
    have I1 : L2.Inv X pins σ H { s with heap := h', toks := tk } := I.turned (t' := tk) (fun b o hb e => (sb.2 b hb).trans e) f0 f1 f3 f4 f5
    obtain ⟨o, e, c, d⟩ := id st'
    refine ⟨u, rfl, go_of (s := { s with heap := h', toks := tk }) e c d (by decide) ⟨_, H, I1, ru, ⟨rfl, fun ys hy => by rw [I.tuple_inj hy hq]; exact List.getElem?_eq_getElem hlt⟩, ⟨by omega, ?_⟩, fun b hb => (hf b hb).1⟩⟩
    have e2 : ((n - 1 - i : Nat) : Int) - 1 = (n : Int) - 1 - ((i + 1 : Nat) : Int) := by omega
    rw [← e2]
    exact st'
  done := by
    intro X hP hw hK hc i pins s σ H E I hf st hg
    subst hP hw hK
    obtain ⟨f0, f1, f2, f3, f4, f5⟩ := hf it (by simp)
    have hi : i = n := Nat.le_antisymm st.1 hg
    have st2 := st.2
    rw [show (n : Int) - 1 - i = -1 by omega] at st2
    exact nextRT_end (I.ok.hd hc) st2 fun h' eb => ⟨rfl, I.turned (t' := s.toks) (fun b o hb e => eb b o hb e) f0 f1 f3 f4 f5⟩
  self := fun _ _ _ _ _ st h => iterRT st.2 h
theorem turn_rngR {P : Program} {w : World} {K : PySem.W.Frag} {tg : Expr} (it : Addr) (n : Nat) : Turn P w K tg (ItrR n) [it] it (fun i h => IsRangeIter h it ((n : Int) - 1 + (i : Nat) * (-1)) ((n : Int) - (i : Nat)) (-1)) where
  mem := by simp
  obj := fun i h st b hb => by
    have e : b = it := by simpa using hb
    subst e
    exact ⟨_, st, fun v z => by
      have z' : Data.fields _ = Data.cell v := z
      cases z'⟩
  keep := fun i h h' st k => k it (by simp) _ st
  item := by
    intro X hP hw hK hc i pins s σ H E I hf st hg
    subst hP hw hK
    obtain ⟨f0, f1, f2, f3, f4, f5⟩ := hf it (by simp)
    have W := Walks.range (prog := X.prog) (w := X.w) (I.ok.hd hc) it ((n : Int) - 1) (-1) n
    refine W.item i s _ _ hg st fun v h' tk hv st' kk => ?_
    obtain ⟨t, rfl⟩ := hv
    have I1 : L2.Inv X pins σ H { s with heap := h', toks := tk } := I.turned (fun b o hb e => kk b o (by simpa using hb) e) f0 f1 f3 f4 f5
    refine ⟨_, rfl, go_of (s := { s with heap := h', toks := tk }) (n := "range_iterator") st' rfl rfl (by decide) ⟨.int ((n : Int) - 1 - i), H, I1, ⟨t, ?_⟩, ⟨rfl, rfl⟩, st', fun b hb => (hf b hb).1⟩⟩
    rw [show (n : Int) - 1 + (i : Nat) * (-1) = (n : Int) - 1 - i by omega]
  done := by
    intro X hP hw hK hc i pins s σ H E I hf st hg
    subst hP hw hK
    obtain ⟨f0, f1, f2, f3, f4, f5⟩ := hf it (by simp)
    exact wpAny_pyNext_range_end (I.ok.hd hc) st (by have : n ≤ i := hg; omega) fun h' eb => ⟨rfl, I.turned (t' := s.toks) (fun b o hb e => eb b o hb e) f0 f1 f3 f4 f5⟩
  self := fun _ _ _ _ _ st h => wpAny_pyIter_rangeiter st h
section
variable {X : Cx} {tg : Expr}
theorem boot_rev : bootBuiltins "reversed" = some (.type "reversed") := by kernel_rfl
def iRev (K : PySem.W.Frag) (ta : TA) : TI := fun σ H R => ta σ H fun vs H1 => ∃ a, vs = [.ref a] ∧ ((∃ xs, SqL K H1 a xs ∧ R (ItlR K a xs.length) H1) ∨ (∃ xs, SqT K H1 a xs ∧ R (IttR K a xs.length) H1) ∨ ∃ n : Nat, H1 a = some (.rng 0 n) ∧ (n : Int) < 2 ^ 62 ∧ R (ItrR n) H1)
theorem pi_rev {a : Expr} {ta : TA} {p pos : Pos} (hg : Gl X "reversed") (hm : X.mg "reversed" = none) (ha : PA X [a] ta) (hn : notStar a = true := by rfl) :
    PI X tg (.Call (.Name "reversed" p) [a] [] pos) (iRev X.K ta) := by
  intro pins s σ H R I h
  refine Call_ (ld_blt I hg hm boot_rev (PyProof.Rows.callWith_type1 (thn (ha pos pins s σ H _ I h) fun us s1 ⟨vs, H1, I1, r1, q1⟩ => ?_) (star_cons hn) rfl))
  obtain ⟨l, e, q1⟩ := q1
  subst e
  obtain ⟨u, rfl, ru⟩ := r1.one
  cases ru
  have fpk : ∀ b ∈ [s1.heap.objs.size], FpOk X pins H1 b := fun b hb => by
    rw [List.mem_singleton.mp hb]
    exact I1.fpOk (Nat.le_refl _) (I1.hok.fresh (Nat.le_refl _))
  rcases q1 with ⟨xs, hq, q⟩ | ⟨xs, hq, q⟩ | ⟨n, hq, hn62, q⟩
  · obtain ⟨its, rv, pl, hz⟩ := I1.list hq
    have hlen := rv.length
    refine call_reversed_list pl.isList ?_
    have hi : (s1.heap.push (revObj l ((its.toArray.size : Int) - 1))).IsRevIter s1.heap.objs.size l ((its.toArray.size : Int) - 1) := ⟨_, Heap.get?_push_size _ rfl, rfl, rfl⟩
    refine wpAny_pyIter_revIter hi ?_
    refine ⟨s1.heap.objs.size, [s1.heap.objs.size], _, _, H1, rfl, I1.kept (t' := s1.toks) fun b o e => Heap.get?_push_of_some _ e, turn_listR l _ xs.length, ⟨Nat.zero_le _, ?_⟩, fpk, q⟩
    rw [show (xs.length : Int) - 1 - ((0 : Nat) : Int) = (its.toArray.size : Int) - 1 by simp [hlen]]
    exact hi
  · obtain ⟨its, rv, pl, hz⟩ := I1.tuple hq
    have hlen := rv.length
    refine callRT (show s1.heap.IsTuple l its.toArray from pl) (by simp; omega) fun h' tk hi hk => iterRT hi ?_
    refine ⟨s1.heap.objs.size, [s1.heap.objs.size], _, _, H1, rfl, I1.kept (t' := tk) hk, turn_tupR l _ xs.length, ⟨Nat.zero_le _, ?_⟩, fpk, q⟩
    rw [show (xs.length : Int) - 1 - ((0 : Nat) : Int) = (its.toArray.size : Int) - 1 by simp [hlen]]
    exact hi
  · obtain ⟨t, u, v, hr⟩ := I1.hok l _ hq
    refine callRR hr hn62 fun h' hi hk => wpAny_pyIter_rangeiter hi ?_
    refine ⟨s1.heap.objs.size, [s1.heap.objs.size], _, _, H1, rfl, I1.kept (t' := s1.toks) hk, turn_rngR _ n, ?_, fpk, q⟩
    show IsRangeIter _ _ _ _ _
    rw [show (n : Int) - 1 + ((0 : Nat) : Int) * (-1) = (n : Int) - 1 by omega, show (n : Int) - ((0 : Nat) : Int) = n by omega]
    exact hi
/-- for over a list or a tuple -/
def iSeq (K : PySem.W.Frag) (tl : TE) : TI := fun σ H R => tl σ H fun x H1 => ∃ a, x = .ref a ∧ ((∃ xs, SqL K H1 a xs) ∧ R (Itl K a) H1 ∨ (∃ xs, SqT K H1 a xs) ∧ R (Itt K a) H1)
theorem pi_seq {l : Expr} {tl : TE} (hl : PE X l tl) : PI X tg l (iSeq X.K tl) := by
  intro pins s σ H R I h
  refine thn (hl pins s σ H _ I h) fun v s1 ⟨x, H1, I1, r1, q1⟩ => ?_
  obtain ⟨a, e, q1⟩ := q1
  subst e
  cases r1
  have fpk : ∀ b ∈ [s1.heap.objs.size], FpOk X pins H1 b := fun b hb => by
    rw [List.mem_singleton.mp hb]
    exact I1.fpOk (Nat.le_refl _) (I1.hok.fresh (Nat.le_refl _))
  rcases q1 with ⟨⟨xs, hq⟩, q⟩ | ⟨⟨xs, hq⟩, q⟩
  · obtain ⟨its, rv, p, hz⟩ := I1.list hq
    refine wpAny_pyIter_list p.isList ?_
    exact ⟨s1.heap.objs.size, [s1.heap.objs.size], _, _, H1, rfl, I1.kept (t' := s1.toks) fun b o e => Heap.get?_push_of_some _ e, turn_list a _, ⟨_, Heap.get?_push_size _ rfl, rfl, rfl⟩, fpk, q⟩
  · obtain ⟨its, rv, p, hz⟩ := I1.tuple hq
    refine wpAny_pyIter_tuple (show s1.heap.IsTuple a its.toArray from p) ?_
    exact ⟨s1.heap.objs.size, [s1.heap.objs.size], _, _, H1, rfl, I1.kept (t' := s1.toks) fun b o e => Heap.get?_push_of_some _ e, turn_tuple a _, ⟨_, Heap.get?_push_size _ rfl, rfl, rfl⟩, fpk, q⟩
end
section
variable {K : PySem.W.Frag} {a : Addr} {xs : List V} {g : TG} {tb : TS} {D : Ends} {σ : L2.St} {H : Hp}
abbrev LoopP (J : It) (g : TG) (tb : TS) (D : Ends) (σ : L2.St) (H : Hp) : Prop := ∃ W : Nat → Nat → L2.St → Hp → Prop, (∃ m, W 0 m σ H) ∧ ∀ i m σ H, W i m σ H →
      (J.stop i H ∧ D.nx σ H) ∨ (J.go i H ∧ ∃ N : L2.St → Hp → Prop, (∀ σ' H', N σ' H' → ∃ m', m' < m ∧ W (i + 1) m' σ' H') ∧ ∀ x H', J.yld i H x H' → g x σ H' fun σ2 H2 => tb { D with nx := N, ct := N, bk := D.nx } σ2 H2)
theorem for_gen {J : It} {n : Nat} (Pv : Nat → L2.St → Hp → Prop) (h0 : Pv 0 σ H) (hgo : ∀ i σ H, i < n → Pv i σ H → J.go i H) (hst : ∀ H, J.stop n H)
    (hs : ∀ i x σ H H', i < n → Pv i σ H → J.yld i H x H' → g x σ H' fun σ2 H2 => tb { D with nx := Pv (i + 1), ct := Pv (i + 1), bk := D.nx } σ2 H2) (hd : ∀ σ H, Pv n σ H → D.nx σ H) : LoopP J g tb D σ H := by
  refine ⟨fun i m σ H => m = n - i ∧ i ≤ n ∧ Pv i σ H, ⟨n, by simp, Nat.zero_le _, h0⟩, ?_⟩
  rintro i m σ H ⟨rfl, hi, p⟩
  by_cases hlt : i < n
  · exact .inr ⟨hgo i σ H hlt p, Pv (i + 1), fun σ' H' p' => ⟨n - (i + 1), by omega, rfl, hlt, p'⟩, fun x H' y => hs i x σ H H' hlt p y⟩
  · have e : i = n := by omega
    subst e
    exact .inl ⟨hst H, hd σ H p⟩
/-- a list or a tuple, backwards -/
theorem for_revL (Pv : Nat → L2.St → Hp → Prop) (h0 : Pv 0 σ H) (hl : ∀ i σ H, Pv i σ H → SqL K H a xs)
    (hs : ∀ i x σ H, i < xs.length → xs[xs.length - 1 - i]? = some x → Pv i σ H → g x σ H fun σ2 H2 => tb { D with nx := Pv (i + 1), ct := Pv (i + 1), bk := D.nx } σ2 H2) (hd : ∀ σ H, Pv xs.length σ H → D.nx σ H) : LoopP (ItlR K a xs.length) g tb D σ H :=
  for_gen Pv h0 (fun i σ H hi p => ⟨hi, xs, hl i σ H p, rfl⟩) (fun _ => Nat.le_refl _) (fun i x σ H H' hi p y => by
    obtain ⟨rfl, y⟩ := y
    exact hs i x σ H' hi (y xs (hl i σ H' p)) p) hd
theorem for_revT (Pv : Nat → L2.St → Hp → Prop) (h0 : Pv 0 σ H) (hl : ∀ i σ H, Pv i σ H → SqT K H a xs)
    (hs : ∀ i x σ H, i < xs.length → xs[xs.length - 1 - i]? = some x → Pv i σ H → g x σ H fun σ2 H2 => tb { D with nx := Pv (i + 1), ct := Pv (i + 1), bk := D.nx } σ2 H2) (hd : ∀ σ H, Pv xs.length σ H → D.nx σ H) : LoopP (IttR K a xs.length) g tb D σ H :=
  for_gen Pv h0 (fun i σ H hi p => ⟨hi, xs, hl i σ H p, rfl⟩) (fun _ => Nat.le_refl _) (fun i x σ H H' hi p y => by
    obtain ⟨rfl, y⟩ := y
    exact hs i x σ H' hi (y xs (hl i σ H' p)) p) hd
theorem for_revR {n : Nat} (Pv : Nat → L2.St → Hp → Prop) (h0 : Pv 0 σ H)
    (hs : ∀ i σ H, i < n → Pv i σ H → g (.int ((n : Int) - 1 - i)) σ H fun σ2 H2 => tb { D with nx := Pv (i + 1), ct := Pv (i + 1), bk := D.nx } σ2 H2) (hd : ∀ σ H, Pv n σ H → D.nx σ H) : LoopP (ItrR n) g tb D σ H :=
  for_gen Pv h0 (fun i σ H hi p => hi) (fun _ => Nat.le_refl _) (fun i x σ H H' hi p y => by
    obtain ⟨rfl, rfl⟩ := y
    exact hs i σ H' hi p) hd
end
end L3

namespace L3
open PySem PySem.Spec L2
variable {X : Cx}
theorem qi_rev  {tg : Expr} {a : Expr} {ta : TA} {p pos : Pos} (hg : Gl X "reversed") (hm : X.mg "reversed" = none) (ha : QA X [a] ta) (hn : notStar a = true := by rfl) : QI X tg (.Call (.Name "reversed" p) [a] [] pos) (iRev X.K ta) := ⟨pi_rev (hg := hg) (hm := hm) (ha := ha.h) (hn := hn)⟩
theorem qi_seq  {tg : Expr} {l : Expr} {tl : TE} (hl : QE X l tl) : QI X tg l (iSeq X.K tl) := ⟨pi_seq (hl := hl.h)⟩
/-! ### the codes -/
def dig (x : Int) : Prop := 0 ≤ x ∧ x < 16
def digR (r : List Int) : Prop := ∀ x ∈ r, dig x
def ahI (n i : Nat) : Nat := if i = 0 then n - 1 else i - 1
def ah (r : List Int) (i : Nat) : Int := r.getD (ahI r.length i) 0
def enc1 (t : List Int) (s : Int) (r : List Int) (i : Nat) : List Int := r.set i (t.getD ((r.getD i 0 + s + i + ah r i) % 16).toNat 0)
def dec1 (b : List Int) (s : Int) (r : List Int) (i : Nat) : List Int := r.set i ((b.getD (r.getD i 0).toNat 0 - s - i - ah r i) % 16)
def encR (t : List Int) (s : Int) (r : List Int) : Nat → List Int
  | 0 => r
  | n + 1 => enc1 t s (encR t s r n) n
def decR (b : List Int) (s : Int) (r : List Int) : Nat → List Int
  | 0 => r
  | n + 1 => decR b s (dec1 b s r n) n
def encK (t : List Int) : List Int → List Int → List Int
  | [], r => r
  | s :: ks, r => encK t ks (encR t s r r.length)
def decK (b : List Int) : List Int → List Int → List Int
  | [], r => r
  | s :: ks, r => decR b s (decK b ks r) r.length
theorem enc1_len {t : List Int} {s : Int} {r : List Int} {i : Nat} : (enc1 t s r i).length = r.length := List.length_set ..
theorem dec1_len {b : List Int} {s : Int} {r : List Int} {i : Nat} : (dec1 b s r i).length = r.length := List.length_set ..
theorem encR_len {t : List Int} {s : Int} {r : List Int} : ∀ {n : Nat}, (encR t s r n).length = r.length
  | 0 => rfl
  | n + 1 => by rw [encR, enc1_len, encR_len]
theorem decR_len {b : List Int} {s : Int} : ∀ {n : Nat} {r : List Int}, (decR b s r n).length = r.length
  | 0, _ => rfl
  | n + 1, r => by rw [decR, decR_len, dec1_len]
theorem encK_len {t : List Int} : ∀ {ks r : List Int}, (encK t ks r).length = r.length
  | [], _ => rfl
  | s :: ks, r => by rw [encK, encK_len, encR_len]
theorem decK_len {b : List Int} : ∀ {ks r : List Int}, (decK b ks r).length = r.length
  | [], _ => rfl
  | s :: ks, r => by rw [decK, decR_len, decK_len]
theorem digR_set {r : List Int} {i : Nat} {x : Int} (h : digR r) (hx : dig x) : digR (r.set i x) := fun y hy => by
  rcases List.mem_or_eq_of_mem_set hy with z | z
  · exact h y z
  · rw [z]; exact hx
theorem dig_mod (x : Int) : dig (x % 16) := ⟨Int.emod_nonneg _ (by decide), Int.emod_lt_of_pos _ (by decide)⟩
theorem digR_at {r : List Int} (h : digR r) (i : Nat) : dig (r.getD i 0) := by
  rw [List.getD_eq_getElem?_getD]
  by_cases hi : i < r.length
  · rw [List.getElem?_eq_getElem hi]; exact h _ (List.getElem_mem hi)
  · rw [List.getElem?_eq_none (by omega)]; exact ⟨by decide, by decide⟩
theorem tab_digR {t : List Int} (p : t.Perm digs) : digR t := fun x hx => digs_mem (p.mem_iff.mp hx)
theorem enc1_dig {t : List Int} (p : t.Perm digs) {s : Int} {r : List Int} {i : Nat} (h : digR r) : digR (enc1 t s r i) := digR_set h (digR_at (tab_digR p) _)
theorem dec1_dig {b : List Int} {s : Int} {r : List Int} {i : Nat} (h : digR r) : digR (dec1 b s r i) := digR_set h (dig_mod _)
theorem encR_dig {t : List Int} (p : t.Perm digs) {s : Int} {r : List Int} (h : digR r) : ∀ {n : Nat}, digR (encR t s r n)
  | 0 => h
  | n + 1 => enc1_dig p (encR_dig p h)
theorem decR_dig {b : List Int} {s : Int} : ∀ {n : Nat} {r : List Int}, digR r → digR (decR b s r n)
  | 0, _, h => h
  | n + 1, _, h => decR_dig (n := n) (dec1_dig h)
theorem encK_dig {t : List Int} (p : t.Perm digs) : ∀ {ks r : List Int}, digR r → digR (encK t ks r)
  | [], _, h => h
  | s :: ks, _, h => encK_dig (ks := ks) p (encR_dig p h)
theorem decK_dig {b : List Int} : ∀ {ks r : List Int}, digR r → digR (decK b ks r)
  | [], _, h => h
  | s :: ks, _, h => decR_dig (decK_dig (ks := ks) h)
theorem getD_set_self {r : List Int} {i : Nat} {x : Int} (h : i < r.length) : (r.set i x).getD i 0 = x := by
  rw [List.getD_eq_getElem?_getD, List.getElem?_set_self h]; rfl
theorem getD_set_ne {r : List Int} {i j : Nat} {x : Int} (h : i ≠ j) : (r.set i x).getD j 0 = r.getD j 0 := by
  rw [List.getD_eq_getElem?_getD, List.getElem?_set_ne h, ← List.getD_eq_getElem?_getD]
theorem ah_ne {n i : Nat} (h2 : 2 ≤ n) (hi : i < n) : i ≠ ahI n i := by unfold ahI; split <;> omega
theorem ah_set {r : List Int} {i : Nat} {x : Int} (h2 : 2 ≤ r.length) (hi : i < r.length) : ah (r.set i x) i = ah r i := by
  unfold ah
  rw [List.length_set, getD_set_ne (ah_ne h2 hi)]
theorem set_same {r : List Int} {i : Nat} (hi : i < r.length) : r.set i (r.getD i 0) = r := by
  rw [List.getD_eq_getElem?_getD, List.getElem?_eq_getElem hi]
  exact List.set_getElem_self hi
theorem back_tab {t : List Int} (p : t.Perm digs) {z : Int} (h : dig z) : (backL t).getD (t.getD z.toNat 0).toNat 0 = z := by
  have hz : z.toNat < t.length := by rw [tab_len p]; have := h.1; have := h.2; omega
  have e : t.getD z.toNat 0 = t[z.toNat] := by rw [List.getD_eq_getElem?_getD, List.getElem?_eq_getElem hz]; rfl
  have bd := tab_at p hz
  have hb : t[z.toNat].toNat < (backL t).length := by rw [backL_len]; omega
  rw [e, List.getD_eq_getElem?_getD, List.getElem?_eq_getElem hb, Option.getD_some, back_at p (by rw [backL_len] at hb; exact hb)]
  have e2 : ((t[z.toNat].toNat : Nat) : Int) = t[z.toNat] := by omega
  rw [e2, idx_at p hz]
  have := h.1
  omega
theorem tab_back {t : List Int} (p : t.Perm digs) {z : Int} (h : dig z) : t.getD ((backL t).getD z.toNat 0).toNat 0 = z := by
  have := back_tab (back_perm p) h
  rwa [back_back p] at this
theorem dec_enc1 {t : List Int} (p : t.Perm digs) {s : Int} {r : List Int} {i : Nat} (hr : digR r) (h2 : 2 ≤ r.length) (hi : i < r.length) : dec1 (backL t) s (enc1 t s r i) i = r := by
  unfold dec1 enc1
  rw [getD_set_self hi, ah_set h2 hi, List.set_set, back_tab p (dig_mod _)]
  have hd := digR_at hr i
  have e : ((r.getD i 0 + s + i + ah r i) % 16 - s - i - ah r i) % 16 = r.getD i 0 := by
    have := hd.1
    have := hd.2
    omega
  rw [e, set_same hi]
theorem enc_dec1 {t : List Int} (p : t.Perm digs) {s : Int} {r : List Int} {i : Nat} (hr : digR r) (h2 : 2 ≤ r.length) (hi : i < r.length) : enc1 t s (dec1 (backL t) s r i) i = r := by
  unfold dec1 enc1
  rw [getD_set_self hi, ah_set h2 hi, List.set_set]
  have hb : dig ((backL t).getD (r.getD i 0).toNat 0) := digR_at (tab_digR (back_perm p)) _
  have e : (((backL t).getD (r.getD i 0).toNat 0 - s - i - ah r i) % 16 + s + i + ah r i) % 16 = (backL t).getD (r.getD i 0).toNat 0 := by
    have := hb.1
    have := hb.2
    omega
  rw [e, tab_back p (digR_at hr i), set_same hi]
theorem dec_encR {t : List Int} (p : t.Perm digs) {s : Int} {r : List Int} (hr : digR r) (h2 : 2 ≤ r.length) : ∀ {n : Nat}, n ≤ r.length → decR (backL t) s (encR t s r n) n = r
  | 0, _ => rfl
  | n + 1, hn => by
    rw [encR, decR, dec_enc1 p (encR_dig p hr) (by rw [encR_len]; exact h2) (by rw [encR_len]; omega)]
    exact dec_encR p hr h2 (by omega)
theorem enc_decR {t : List Int} (p : t.Perm digs) {s : Int} : ∀ {n : Nat} {r : List Int}, digR r → 2 ≤ r.length → n ≤ r.length → encR t s (decR (backL t) s r n) n = r
  | 0, _, _, _, _ => rfl
  | n + 1, r, hr, h2, hn => by
    rw [decR, encR, enc_decR p (dec1_dig hr) (by rw [dec1_len]; exact h2) (by rw [dec1_len]; omega), enc_dec1 p hr h2 (by omega)]
theorem dec_encK {t : List Int} (p : t.Perm digs) : ∀ {ks r : List Int}, digR r → 2 ≤ r.length → decK (backL t) ks (encK t ks r) = r
  | [], _, _, _ => rfl
  | s :: ks, r, hr, h2 => by
    rw [decK, encK, dec_encK p (encR_dig p hr) (by rw [encR_len]; exact h2), encK_len, encR_len, dec_encR p hr h2 (Nat.le_refl _)]
theorem enc_decK {t : List Int} (p : t.Perm digs) : ∀ {ks r : List Int}, digR r → 2 ≤ r.length → encK t ks (decK (backL t) ks r) = r
  | [], _, _, _ => rfl
  | s :: ks, r, hr, h2 => by
    have hd := decK_dig (b := backL t) (ks := ks) hr
    have hl : (decK (backL t) ks r).length = r.length := decK_len
    rw [decK, encK, decR_len, hl, enc_decR p hd (by rw [hl]; exact h2) (by rw [hl]; exact Nat.le_refl _), enc_decK p hr h2]
theorem encK_app (t : List Int) : ∀ (ks : List Int) (s : Int) (r : List Int), encK t (ks ++ [s]) r = encR t s (encK t ks r) r.length
  | [], _, _ => rfl
  | a :: ks, s, r => by rw [List.cons_append, encK, encK_app t ks s, encK, encR_len]
def Sq (K : PySem.W.Frag) (H : Hp) (a : Addr) (xs : List V) : Prop := SqL K H a xs ∨ SqT K H a xs
theorem Sq.same {K : PySem.W.Frag} {H H' : Hp} {a : Addr} {xs : List V} (e : Same H H') (h : Sq K H a xs) : Sq K H' a xs := h.elim (fun h => .inl (e.seq h)) fun h => .inr (Same.sqt e h)
theorem Sq.lst {K : PySem.W.Frag} {H : Hp} {a : Addr} {xs : List V} (h : H a = some (.lst xs)) : Sq K H a xs := .inl (SqL.of h)
theorem Sq.tup {K : PySem.W.Frag} {H : Hp} {a : Addr} {xs : List V} (h : H a = some (.tup xs)) : Sq K H a xs := .inr (SqT.of h)
theorem Sq.rd {K : PySem.W.Frag} {H : Hp} {a : Addr} {xs : List V} (h : Rd H a (.tup xs)) : Sq K H a xs := .inr (.inl h)
def spCoded (K : PySem.W.Frag) : Sp := fun vs H Q _ => ∃ (a b c : Addr) (t ks ds : List Int), vs = [.ref a, .ref b, .ref c] ∧ Sq K H a (t.map V.int) ∧ Sq K H b (ks.map V.int) ∧ Sq K H c (ds.map V.int) ∧ t.length = 16 ∧ 1 ≤ ds.length ∧ ds.length < 64 ∧
  ∀ p H', Same H H' → H p = none → H' p = some (.tup ((encK t ks ds).map V.int)) → Q (.ref p) H'
def spDecoded (K : PySem.W.Frag) : Sp := fun vs H Q _ => ∃ (a b c : Addr) (t ks ds : List Int), vs = [.ref a, .ref b, .ref c] ∧ Sq K H a (t.map V.int) ∧ Sq K H b (ks.map V.int) ∧ Sq K H c (ds.map V.int) ∧ t.Perm digs ∧ digR ds ∧ 1 ≤ ds.length ∧ ds.length < 64 ∧
  ∀ p H', Same H H' → H p = none → H' p = some (.tup ((decK (backL t) ks ds).map V.int)) → Q (.ref p) H'
/-- an item of a list of numbers -/
theorem atI_getD {r : List Int} {i : Nat} {z : Int} (e : z = (i : Int)) (h : i < r.length) : atI (r.map V.int) z = some (.int (r.getD i 0)) := by
  rw [atI_int e (ints_at h), List.getD_eq_getElem?_getD, List.getElem?_eq_getElem h]; rfl
theorem atI_ah {r : List Int} {i : Nat} {z : Int} (e : z = (i : Int) - 1) (h : i < r.length) : atI (r.map V.int) z = some (.int (ah r i)) := by
  subst e
  unfold ah ahI
  by_cases h0 : i = 0
  · subst h0
    rw [if_pos rfl]
    have hl : r.length - 1 < r.length := by omega
    unfold atI ixN
    rw [List.length_map, if_neg (by omega), if_pos (by omega)]
    have e2 : ((((0 : Nat) : Int) - 1) + (r.length : Int)).toNat = r.length - 1 := by omega
    show (r.map V.int)[((((0 : Nat) : Int) - 1) + (r.length : Int)).toNat]? = _
    rw [e2, ints_at hl, List.getD_eq_getElem?_getD, List.getElem?_eq_getElem hl]; rfl
  · rw [if_neg h0]
    exact atI_getD (by omega) (by omega)
theorem Sq.ix {K : PySem.W.Frag} {H : Hp} {a : Addr} {xs : List V} {i : Int} {v : V} {Q : VK} (h : Sq K H a xs) (e : atI xs i = some v) (q : Q v H) : rIxL K (.ref a) (.int i) H Q ∨ rIxT K (.ref a) (.int i) H Q :=
  h.elim (fun h => .inl ⟨a, xs, i, v, rfl, rfl, h, e, q⟩) fun h => .inr ⟨a, xs, i, v, rfl, rfl, h, e, q⟩
section
variable {K : PySem.W.Frag} {a : Addr} {xs : List V} {g : TG} {tb : TS} {D : Ends} {σ : L2.St} {H H0 : Hp}
theorem for_seq (hq : Sq K H0 a xs) (Pv : Nat → L2.St → Hp → Prop) (h0 : Pv 0 σ H) (hk : ∀ i σ' H', Pv i σ' H' → Same H0 H')
    (hs : ∀ i x σ H, xs[i]? = some x → Pv i σ H → g x σ H fun σ2 H2 => tb { D with nx := Pv (i + 1), ct := Pv (i + 1), bk := D.nx } σ2 H2) (hd : ∀ σ H, Pv xs.length σ H → D.nx σ H) :
    ((∃ xs, SqL K H a xs) ∧ LoopP (Itl K a) g tb D σ H) ∨ ((∃ xs, SqT K H a xs) ∧ LoopP (Itt K a) g tb D σ H) := by
  rcases hq with hq | hq
  · exact .inl ⟨⟨xs, (hk _ _ _ h0).seq hq⟩, for_list Pv h0 (fun i σ H _ p => (hk i σ H p).seq hq) hs hd⟩
  · exact .inr ⟨⟨xs, Same.sqt (hk _ _ _ h0) hq⟩, for_tup Pv h0 (fun i σ H _ p => Same.sqt (hk i σ H p) hq) hs hd⟩
theorem for_revS (hq : Sq K H0 a xs) (Pv : Nat → L2.St → Hp → Prop) (h0 : Pv 0 σ H) (hk : ∀ i σ' H', Pv i σ' H' → Same H0 H')
    (hs : ∀ i x σ H, i < xs.length → xs[xs.length - 1 - i]? = some x → Pv i σ H → g x σ H fun σ2 H2 => tb { D with nx := Pv (i + 1), ct := Pv (i + 1), bk := D.nx } σ2 H2) (hd : ∀ σ H, Pv xs.length σ H → D.nx σ H) :
    (∃ xs, SqL K H a xs ∧ LoopP (ItlR K a xs.length) g tb D σ H) ∨ (∃ xs, SqT K H a xs ∧ LoopP (IttR K a xs.length) g tb D σ H) ∨ (∃ n : Nat, H a = some (.rng 0 n) ∧ (n : Int) < 2 ^ 62 ∧ LoopP (ItrR n) g tb D σ H) := by
  rcases hq with hq | hq
  · exact .inl ⟨xs, (hk _ _ _ h0).seq hq, for_revL Pv h0 (fun i σ H p => (hk i σ H p).seq hq) hs hd⟩
  · exact .inr (.inl ⟨xs, Same.sqt (hk _ _ _ h0) hq, for_revT Pv h0 (fun i σ H p => Same.sqt (hk i σ H p) hq) hs hd⟩)
end
theorem same_write {H H2 : Hp} {l : Addr} {o : HO} (s : Same H H2) (h : H l = none) : Same H (upd H2 l o) := fun d u e => by
  rw [upd_ne (ne_of_none e h)]; exact s _ _ e
theorem take_succ_ints {ks : List Int} {j : Nat} {s : Int} (h : ks[j]? = some s) : ks.take (j + 1) = ks.take j ++ [s] := by rw [List.take_add_one, h]; rfl
theorem drop_ints {ks : List Int} {j : Nat} {s : Int} (h : ks[j]? = some s) : ks.drop j = s :: ks.drop (j + 1) := by
  obtain ⟨hj, e⟩ := List.getElem?_eq_some_iff.mp h
  rw [List.drop_eq_getElem_cons hj, e]
/-! ### == and != of things that are alike through and through -/
inductive Eqd (H : Hp) : Nat → V → V → Prop where
  | int (n : Nat) (i : Int) : Eqd H n (.int i) (.int i)
  | str (n : Nat) (x : Str) : Eqd H n (.str x) (.str x)
  | non (n : Nat) : Eqd H n .non .non
  | bl (n : Nat) (b : Bool) : Eqd H n (.bl b) (.bl b)
  | tup {n : Nat} {a b : Addr} {xs ys : List V} (h1 : Rd H a (.tup xs)) (h2 : Rd H b (.tup ys)) (hl : xs.length = ys.length)
      (hi : ∀ (i : Nat) (x y : V), xs[i]? = some x → ys[i]? = some y → Eqd H n x y) : Eqd H (n + 1) (.ref a) (.ref b)
  | lst {n : Nat} {a b : Addr} {xs ys : List V} (h1 : H a = some (.lst xs)) (h2 : H b = some (.lst ys)) (hl : xs.length = ys.length)
      (hi : ∀ (i : Nat) (x y : V), xs[i]? = some x → ys[i]? = some y → Eqd H n x y) : Eqd H (n + 1) (.ref a) (.ref b)
theorem Eqd.same {H H' : Hp} (s : Same H H') : ∀ {n : Nat} {x y : V}, Eqd H n x y → Eqd H' n x y := fun h => by
  induction h with
  | int n i => exact .int n i
  | str n x => exact .str n x
  | non n => exact .non n
  | bl n b => exact .bl n b
  | tup h1 h2 hl _ ih => exact .tup (Rd.same s h1) (Rd.same s h2) hl ih
  | lst h1 h2 hl _ ih => exact .lst (s _ _ h1) (s _ _ h2) hl ih
theorem eqd_ints {H : Hp} {n : Nat} {ns : List Int} : ∀ (i : Nat) (x y : V), (ns.map V.int)[i]? = some x → (ns.map V.int)[i]? = some y → Eqd H n x y := fun i x y e1 e2 => by
  rw [e1] at e2
  cases e2
  obtain ⟨z, rfl, _⟩ := ints_get e1
  exact .int _ _
theorem all_tt (n : Nat) : ((List.range n).all fun _ => true) = true := by simp
section
open SeqAt
variable {pins : List (Addr × Obj)} {σ : L2.St} {H : Hp} {s : Shared}
theorem vals_at {xs : List V} {us : List Value} (r : Vals xs us) {j : Nat} (h : j < us.length) : ∃ x, xs[j]? = some x ∧ RelV x us[j] := by
  have hl := r.length
  have hj : j < xs.length := by omega
  obtain ⟨u, hu, ru⟩ := r.get (List.getElem?_eq_getElem hj)
  rw [List.getElem?_eq_getElem h] at hu
  cases hu
  exact ⟨_, List.getElem?_eq_getElem hj, ru⟩
theorem eqd_at (I : L2.Inv X pins σ H s) {n : Nat} {x y : V} (h : Eqd H n x y) : ∀ {v u : Value} {A : Around}, RelV x v → RelV y u → A.units + n < cLine → EqAt A s v u true := by
  induction h with
  | int n i => rintro v u A ⟨t, rfl⟩ ⟨t', rfl⟩ _; have := EqAt.int_int (A := A) (s := s) i t i t'; rwa [beq_self_eq_true] at this
  | str n z => rintro v u A ⟨t, rfl⟩ ⟨t', rfl⟩ _; have := EqAt.str_str (A := A) (s := s) z t z t'; rwa [beq_self_eq_true] at this
  | non n =>
    intro v u A r1 r2 _
    cases (show v = Value.none from r1)
    cases (show u = Value.none from r2)
    exact EqAt.same _
  | bl n b =>
    intro v u A r1 r2 _
    cases (show v = Value.bool b from r1)
    cases (show u = Value.bool b from r2)
    exact EqAt.same _
  | @tup n a b xs ys h1 h2 hl _ ih =>
    intro v u A r1 r2 hu
    cases (show v = Value.ref a from r1)
    cases (show u = Value.ref b from r2)
    by_cases hab : a = b
    · rw [hab]; exact EqAt.same _
    · obtain ⟨its, q1, p1, _⟩ := I.tuple (.inl h1)
      obtain ⟨its2, q2, p2, _⟩ := I.tuple (.inl h2)
      have l1 := q1.length
      have l2 := q2.length
      have e := RcAt.tuples (A := A) (e := fun _ => true) (show s.heap.IsTuple a its.toArray from p1) (show s.heap.IsTuple b its2.toArray from p2) (by omega) (fun j z1 z2 => by
        obtain ⟨x, ex, rx⟩ := vals_at q1 (j := j) (by simpa using z1)
        obtain ⟨y, ey, ry⟩ := vals_at q2 (j := j) (by simpa using z2)
        exact ih j x y ex ey rx ry (by rw [Around.in1_units]; omega))
      rw [all_tt, show (its.toArray.size == its2.toArray.size) = true by simp; omega] at e
      exact EqAt.of_refs hab e
  | @lst n a b xs ys h1 h2 hl _ ih =>
    intro v u A r1 r2 hu
    cases (show v = Value.ref a from r1)
    cases (show u = Value.ref b from r2)
    by_cases hab : a = b
    · rw [hab]; exact EqAt.same _
    · obtain ⟨its, q1, p1, _⟩ := I.list (SqL.of h1)
      obtain ⟨its2, q2, p2, _⟩ := I.list (SqL.of h2)
      have l1 := q1.length
      have l2 := q2.length
      have e := RcAt.lists (A := A) (e := fun _ => true) p1.isList p2.isList (by simp; omega) (by omega) (fun j z1 z2 => by
        obtain ⟨x, ex, rx⟩ := vals_at q1 (j := j) (by simpa using z1)
        obtain ⟨y, ey, ry⟩ := vals_at q2 (j := j) (by simpa using z2)
        exact ih j x y ex ey rx ry (by rw [Around.in1_units]; omega))
      rw [all_tt] at e
      exact EqAt.of_refs hab e
theorem rc_eqd (I : L2.Inv X pins σ H s) {n : Nat} {x y : V} {v u : Value} {A : Around} (h : Eqd H n x y) (r1 : RelV x v) (r2 : RelV y u) (hu : A.units + n < cLine) : RcAt A s v u true ∧ RcNeAt A s v u false := by
  cases h with
  | int n i =>
    obtain ⟨t, rfl⟩ := r1
    obtain ⟨t', rfl⟩ := r2
    have e1 := RcAt.int_int (A := A) (s := s) i t i t'
    have e2 := RcNeAt.int_int (A := A) (s := s) i t i t'
    rw [beq_self_eq_true] at e1 e2
    exact ⟨e1, e2⟩
  | str n z =>
    obtain ⟨t, rfl⟩ := r1
    obtain ⟨t', rfl⟩ := r2
    have e1 := RcAt.str_str (A := A) (s := s) z t z t'
    have e2 := RcNeAt.str_str (A := A) (s := s) z t z t'
    rw [beq_self_eq_true] at e1 e2
    exact ⟨e1, e2⟩
  | non n =>
    cases (show v = Value.none from r1)
    cases (show u = Value.none from r2)
    exact ⟨RcAt.none_none, RcNeAt.none_none⟩
  | bl n b =>
    cases (show v = Value.bool b from r1)
    cases (show u = Value.bool b from r2)
    have e1 := RcAt.bool_bool (A := A) (s := s) b b
    have e2 := RcNeAt.bool_bool (A := A) (s := s) b b
    rw [beq_self_eq_true] at e1 e2
    exact ⟨e1, e2⟩
  | @tup n a b xs ys h1 h2 hl ih =>
    cases (show v = Value.ref a from r1)
    cases (show u = Value.ref b from r2)
    obtain ⟨its, q1, p1, _⟩ := I.tuple (.inl h1)
    obtain ⟨its2, q2, p2, _⟩ := I.tuple (.inl h2)
    have l1 := q1.length
    have l2 := q2.length
    have he : ∀ j (z1 : j < its.toArray.size) (z2 : j < its2.toArray.size), EqAt A.in1 s its.toArray[j] its2.toArray[j] ((fun _ => true) j) := fun j z1 z2 => by
      obtain ⟨x, ex, rx⟩ := vals_at q1 (j := j) (by simpa using z1)
      obtain ⟨y, ey, ry⟩ := vals_at q2 (j := j) (by simpa using z2)
      exact eqd_at I (ih j x y ex ey) rx ry (by rw [Around.in1_units]; omega)
    have e1 := RcAt.tuples (A := A) (e := fun _ => true) (show s.heap.IsTuple a its.toArray from p1) (show s.heap.IsTuple b its2.toArray from p2) (by omega) he
    have e2 := RcNeAt.tuples (A := A) (e := fun _ => true) (show s.heap.IsTuple a its.toArray from p1) (show s.heap.IsTuple b its2.toArray from p2) (by omega) he
    rw [all_tt, show (its.toArray.size == its2.toArray.size) = true by simp; omega] at e1 e2
    exact ⟨e1, e2⟩
  | @lst n a b xs ys h1 h2 hl ih =>
    cases (show v = Value.ref a from r1)
    cases (show u = Value.ref b from r2)
    obtain ⟨its, q1, p1, _⟩ := I.list (SqL.of h1)
    obtain ⟨its2, q2, p2, _⟩ := I.list (SqL.of h2)
    have l1 := q1.length
    have l2 := q2.length
    have he : ∀ j (z1 : j < its.toArray.size) (z2 : j < its2.toArray.size), EqAt A.in1 s its.toArray[j] its2.toArray[j] ((fun _ => true) j) := fun j z1 z2 => by
      obtain ⟨x, ex, rx⟩ := vals_at q1 (j := j) (by simpa using z1)
      obtain ⟨y, ey, ry⟩ := vals_at q2 (j := j) (by simpa using z2)
      exact eqd_at I (ih j x y ex ey) rx ry (by rw [Around.in1_units]; omega)
    have e1 := RcAt.lists (A := A) (e := fun _ => true) p1.isList p2.isList (by simp; omega) (by omega) he
    have e2 := RcNeAt.lists (A := A) (e := fun _ => true) p1.isList p2.isList (by simp; omega) (by omega) he
    rw [all_tt] at e1 e2
    exact ⟨e1, e2⟩
def rEqd (b : Bool) : R2 := fun x y H Q => ∃ n, n ≤ 32 ∧ Eqd H n x y ∧ Q (.bl b) H
theorem op_eqd {k : Nat} (hr : Room k X.A) : OpR X (compareOp .Eq) (rEqd true) := by
  intro pins s σ H x y v u Q I rx ry h
  obtain ⟨n, hn, e, q⟩ := h
  exact (rc_eqd I e rx ry (by have := hr.un; omega)).1 _ _ _ _ ⟨.bl _, H, I, rfl, q⟩
theorem op_ned {k : Nat} (hr : Room k X.A) : OpR X (compareOp .NotEq) (rEqd false) := by
  intro pins s σ H x y v u Q I rx ry h
  obtain ⟨n, hn, e, q⟩ := h
  exact (rc_eqd I e rx ry (by have := hr.un; omega)).2 _ _ _ _ ⟨.bl _, H, I, rfl, q⟩
end
theorem Gr.fresh {b c : Addr} {H H' : Hp} (g : Gr b H H') (h : H' c = Option.none) : H c = Option.none := by
  rcases g.free h with z | z
  · exact z
  · exact absurd z (box_fresh g.bx h)
theorem box_ne_rd {H : Hp} {b c : Addr} {u : HO} (hb : Box H b) (h : Rd H c u) (hu : ∀ n m k, u ≠ BoxL n m k) : c ≠ b := fun z => by
  obtain ⟨n, m, k, e⟩ := hb
  subst z
  rcases h with h | ⟨o, h⟩
  · rw [e] at h; cases h; exact hu n m k rfl
  · rw [e] at h; cases h
def spKeyT : Sp := fun vs H Q _ => ∃ (b : Addr), vs = [.ref b] ∧ Box H b ∧ ∀ p (ks : List Int) H', Gr b H H' → H p = none → H' p = some (.tup (ks.map V.int)) → digR ks → 1 ≤ ks.length → ks.length ≤ 8 → Q (.ref p) H'
def spDigitsL : Sp := fun vs H Q _ => ∃ (b : Addr), vs = [.ref b] ∧ Box H b ∧ ∀ p (ds : List Int) H', Gr b H H' → H p = none → H' p = some (.lst (ds.map V.int)) → digR ds → 2 ≤ ds.length → ds.length ≤ 8 → Q (.ref p) H'
end L3

namespace L3
open PySem PySem.Spec PyProof.Rows L2
open Sem (wp)
/-! ### for over a text -/
def Its (x : Str) : It := ⟨fun i _ => i < x.cps.size, fun i H v H' => H' = H ∧ ∃ c, x.cps[i]? = some c ∧ v = .str ⟨#[c]⟩, fun i _ => x.cps.size ≤ i⟩
theorem turn_str {P : Program} {w : World} {K : PySem.W.Frag} {tg : Expr} (it : Addr) (x : Str) (t : Tok) : Turn P w K tg (Its x) [it] it (fun i h => h.IsStrIter it "str_ascii_iterator" x t i) where
  mem := by simp
  obj := fun i h st b hb => by
    have e : b = it := by simpa using hb
    subst e
    obtain ⟨o, e, c, d⟩ := st
    exact ⟨o, e, fun v z => by rw [d] at z; cases z⟩
  keep := fun i h h' st k => let ⟨o, e, r⟩ := st; ⟨o, k it (by simp) o e, r⟩
  item := by
    intro X hP hw hK hc i pins s σ H E I hf st hg
    subst hP hw hK
    obtain ⟨f0, f1, f2, f3, f4, f5⟩ := hf it (by simp)
    have W := Walks.strAscii (prog := X.prog) (w := X.w) (I.ok.hd hc) it x t
    refine W.item i s _ _ hg st fun v h' tk hv st' kk => ?_
    obtain ⟨c, u, hc', rfl⟩ := hv
    have I1 : L2.Inv X pins σ H { s with heap := h', toks := tk } := I.turned (fun b o hb e => kk b o (by simpa using hb) e) f0 f1 f3 f4 f5
    obtain ⟨o, e, cc, d⟩ := id st'
    exact ⟨_, rfl, go_of (s := { s with heap := h', toks := tk }) e cc d (by decide) ⟨.str ⟨#[c]⟩, H, I1, ⟨u, rfl⟩, ⟨rfl, c, hc', rfl⟩, st', fun b hb => (hf b hb).1⟩⟩
  done := by
    intro X hP hw hK hc i pins s σ H E I hf st hg
    subst hP hw hK
    obtain ⟨f0, f1, f2, f3, f4, f5⟩ := hf it (by simp)
    have hg' : x.cps.size ≤ i := hg
    exact wpAny_pyNext_ascii_end (I.ok.hd hc) st (by simp [hg']) fun h' eb => ⟨rfl, I.turned (t' := s.toks) (fun b o hb e => eb b o hb e) f0 f1 f3 f4 f5⟩
  self := fun _ _ _ _ _ st h => wpAny_pyIter_striter_ascii st h
section
variable {X : Cx} {tg : Expr}
def iStr (tl : TE) : TI := fun σ H R => tl σ H fun v H1 => ∃ x, v = .str x ∧ x.cps.all (· < 128) = true ∧ R (Its x) H1
theorem pi_str {l : Expr} {tl : TE} (hl : PE X l tl) : PI X tg l (iStr tl) := by
  intro pins s σ H R I h
  refine thn (hl pins s σ H _ I h) fun v s1 ⟨x, H1, I1, r1, q1⟩ => ?_
  obtain ⟨z, rfl, ha, q⟩ := q1
  obtain ⟨t, rfl⟩ := r1
  refine wpAny_pyIter_ascii ha ?_
  refine ⟨s1.heap.objs.size, [s1.heap.objs.size], _, _, H1, rfl, I1.kept (t' := s1.toks) fun b o e => Heap.get?_push_of_some _ e, turn_str _ z t, ⟨_, Heap.get?_push_size _ rfl, rfl, rfl⟩, fun b hb => ?_, q⟩
  rw [List.mem_singleton.mp hb]
  exact I1.fpOk (Nat.le_refl _) (I1.hok.fresh (Nat.le_refl _))
theorem qi_str {l : Expr} {tl : TE} (hl : QE X l tl) : QI X tg l (iStr tl) := ⟨pi_str hl.h⟩
end
theorem for_str {x : Str} {g : TG} {tb : TS} {D : Ends} {σ : L2.St} {H : Hp} (Pv : Nat → L2.St → Hp → Prop) (h0 : Pv 0 σ H)
    (hs : ∀ i c σ H, x.cps[i]? = some c → Pv i σ H → g (.str ⟨#[c]⟩) σ H fun σ2 H2 => tb { D with nx := Pv (i + 1), ct := Pv (i + 1), bk := D.nx } σ2 H2) (hd : ∀ σ H, Pv x.cps.size σ H → D.nx σ H) : LoopP (Its x) g tb D σ H :=
  for_gen Pv h0 (fun i σ H hi p => hi) (fun _ => Nat.le_refl _) (fun i v σ H H' hi p y => by
    obtain ⟨rfl, c, hc, rfl⟩ := y
    exact hs i c σ H' hc p) hd
/-! ### methods -/
section
variable {X : Cx} {o e : Expr} {es : List Expr} {to : TE} {t : TA} {name : Str} {apos cpos : Pos} {T id : String} {r : V → List V → Hp → VK → Prop}
theorem qe_bm (pa : PlainAttrs T) (slot : Slot T name id) (hty : typeOf (.builtin id) = pure (.type "method_descriptor")) (hm : MtR X id r) (ho : QE X o to) (ha : QA X (e :: es) t)
    (hbase : attributeBase o name X.env (eval o X.env) = eval o X.env := by rfl)
    (hfew : ((backTo cpos (starEach (e :: es) X.env)).all (fun x => !x.1) && (backToKw cpos (keywordEach [] X.env)).all (fun x => x.1.isSome)
      && decide ((e :: es).length + ([] : List Keyword).length + (if ([] : List Keyword).isEmpty then 0 else 1) < 30)) = true := by rfl)
    (hline : (apos.endLine == cpos.line) = true := by rfl) (hs : starEach (e :: es) X.env = (false, eval e X.env) :: starEach es X.env := by rfl) (hplain : (backTo cpos (starEach es X.env)).any (·.1) = false := by rfl) :
    QE X (.Call (.Attribute o name apos) (e :: es) [] cpos) (tBM X.K T r to t) := ⟨pe_bm pa slot hty hm ho.h ha.h hbase hfew hline hs hplain⟩
theorem mr_append : MtR X "list.append" rAppend := mt_append
def rSIndex : V → List V → Hp → VK → Prop := fun x xs H Q => ∃ z y i rest, x = .str z ∧ xs = [.str y] ∧ Builtin.Str.occurrences z y 0 z.length 1 = i :: rest ∧ Q (.int (i : Nat)) H
theorem mr_sindex : MtR X "str.index" rSIndex := by
  intro pins s σ H x xs v us Q I rx rs h
  obtain ⟨z, y, i, rest, rfl, rfl, ho, q⟩ := h
  obtain ⟨t, rfl⟩ := rx
  obtain ⟨u, rfl, t', rfl⟩ := rs.one
  exact SC.index ho ⟨.int i, H, I.tok _, ⟨_, rfl⟩, q⟩
theorem strs_of : ∀ {ys : List Str} {us : List Value}, Vals (ys.map V.str) us → StrsAre us ys
  | [], _, .nil => .nil
  | y :: ys, _, .cons r t => by
    obtain ⟨u, rfl⟩ := (show ∃ u, _ = Value.str y u from r)
    exact .cons _ _ (strs_of t)
def rJoin (K : PySem.W.Frag) : V → List V → Hp → VK → Prop := fun x xs H Q => ∃ z p ys, x = .str z ∧ xs = [.ref p] ∧ SqL K H p (ys.map V.str) ∧ (ys.map (·.length)).sum + ys.length * z.length ≤ 16777216 ∧ Q (.str (Txt.join z ys)) H
theorem mr_join : MtR X "str.join" (rJoin X.K) := by
  intro pins s σ H x xs v us Q I rx rs h
  obtain ⟨z, p, ys, rfl, rfl, hq, hz, q⟩ := h
  obtain ⟨t, rfl⟩ := rx
  obtain ⟨u, rfl, ru⟩ := rs.one
  cases (show u = Value.ref p from ru)
  obtain ⟨its, rv, pl, _⟩ := I.list hq
  exact join_list pl.isList (by simpa using strs_of rv) hz fun t' k => ⟨.str _, H, I.tok _, ⟨_, rfl⟩, q⟩
end
/-! ### sum -/
theorem preSum_list (ns : List Int) : ∀ n, n ≤ ns.length → preSum (fun i => ns.getD i 0) n = (ns.take n).sum
  | 0, _ => by simp [preSum]
  | n + 1, h => by
    have hn : n < ns.length := by omega
    rw [preSum, preSum_list ns n (by omega), List.take_add_one, List.getElem?_eq_getElem hn, Option.toList_some, List.sum_append, List.getD_eq_getElem?_getD, List.getElem?_eq_getElem hn]
    simp
theorem sum_bd {B : Int} : ∀ {ns : List Int}, (∀ z ∈ ns, 0 ≤ z ∧ z ≤ B) → 0 ≤ ns.sum ∧ ns.sum ≤ ns.length * B
  | [], _ => ⟨by simp, by simp⟩
  | n :: r, h => by
    have h1 := h n List.mem_cons_self
    have h2 := sum_bd (ns := r) fun z hz => h z (List.mem_cons_of_mem _ hz)
    rw [List.sum_cons, List.length_cons]
    refine ⟨by omega, ?_⟩
    have : (((r.length + 1 : Nat) : Int)) * B = r.length * B + B := by rw [Int.natCast_add, Int.add_mul]; simp
    omega
section
variable {X : Cx}
theorem call_sumI (hc : X.calm = true) : CallR X (.builtin "sum") (fun xs H Q => ∃ (p : Addr) (ns : List Int), xs = [.ref p] ∧ Sq X.K H p (ns.map V.int) ∧ ns.length ≤ 1000 ∧ (∀ z ∈ ns, 0 ≤ z ∧ z ≤ 1000000) ∧ Q (.int ns.sum) H) := by
  intro pins s σ H xs us Q I r h
  obtain ⟨p, ns, rfl, hq, hl, hb, q⟩ := h
  obtain ⟨u, rfl, ru⟩ := vals1 r
  cases ru
  have bd : ∀ n, n ≤ ns.length → 0 ≤ preSum (fun i => ns.getD i 0) n ∧ preSum (fun i => ns.getD i 0) n ≤ 1000000000 := fun n hn => by
    rw [preSum_list ns n hn]
    have h1 := sum_bd (B := 1000000) (ns := ns.take n) fun z hz => hb z (List.mem_of_mem_take hz)
    have h2 : (ns.take n).length ≤ 1000 := by rw [List.length_take]; omega
    omega
  have fit : ∀ j, j < ns.length → InLong ((fun i => ns.getD i 0) j) ∧ InLong (preSum (fun i => ns.getD i 0) (j + 1)) := fun j hj => by
    have b1 := bd (j + 1) (by omega)
    have b2 : 0 ≤ ns.getD j 0 ∧ ns.getD j 0 ≤ 1000000 := by
      rw [List.getD_eq_getElem?_getD, List.getElem?_eq_getElem hj]; exact hb _ (List.getElem_mem hj)
    unfold InLong
    simp only
    omega
  have eS : preSum (fun i => ns.getD i 0) ns.length = ns.sum := by rw [preSum_list ns _ (Nat.le_refl _), List.take_length]
  have val : ∀ {its : List Value}, Vals (ns.map V.int) its → ∀ (i : Nat) (v : Value), its.toArray[i]? = some v → ∃ t, v = .int ((fun i => ns.getD i 0) i) t := fun {its} rv i v hv => by
    have hv' : its[i]? = some v := by simpa using hv
    have hi : i < its.length := (List.getElem?_eq_some_iff.mp hv').1
    obtain ⟨x, ex, rx⟩ := vals_at rv hi
    obtain ⟨z, rfl, hz⟩ := ints_get ex
    obtain ⟨t, ht⟩ := rx
    refine ⟨t, ?_⟩
    rw [(List.getElem?_eq_some_iff.mp hv').2] at ht
    rw [ht]
    show Value.int z t = Value.int (ns.getD i 0) t
    rw [List.getD_eq_getElem?_getD, hz]; rfl
  rcases hq with hq | hq
  · obtain ⟨its, rv, pl, hz⟩ := I.list hq
    have hlen : ns.length = its.length := by have := rv.length; rwa [List.length_map] at this
    have hlt : p < s.heap.objs.size := by obtain ⟨_, e, _⟩ := pl.isList; exact Heap.lt_size e
    refine call_sum_walk (wpAny_pyIter_list pl.isList ?_)
    refine ⟨s.heap.objs.size, [s.heap.objs.size, p], [s.heap.objs.size], its.toArray.size, _, _, fun i => ns.getD i 0, rfl, Walks.list (A := X.A.in1) (I.ok.hd hc) _ p (Nat.ne_of_lt hlt) its.toArray,
      ⟨⟨_, Heap.get?_push_size _ rfl, rfl, rfl⟩, pl.isList.push _⟩, fun b hb' => ?_, val rv, fun j hj => fit j (by simp at hj; omega), fun h' tk t' hk => ?_⟩
    · have sz : (s.heap.push { cls := .type "list_iterator", data := .fields #[.ref p, .int 0 0] }).objs.size = s.heap.objs.size + 1 := Heap.size_push ..
      simp only [List.mem_cons, List.not_mem_nil, or_false] at hb'
      show b < (Heap.push s.heap _).objs.size
      rw [Heap.size_push]
      rcases hb' with rfl | rfl
      · exact Nat.lt_succ_self _
      · exact Nat.lt_succ_of_lt hlt
    · have e2 : preSum (fun i => ns.getD i 0) its.toArray.size = ns.sum := by rw [List.size_toArray, ← hlen]; exact eS
      rw [e2]
      refine ⟨.int _, H, I.kept (h' := h') (t' := tk) fun b o q => hk b o (fun hm => ?_) (Heap.get?_push_of_some _ q), ⟨_, rfl⟩, q⟩
      rw [List.mem_singleton.mp hm] at q
      exact Nat.lt_irrefl _ (Heap.lt_size q)
  · obtain ⟨its, rv, pl, hz⟩ := I.tuple hq
    have hlen : ns.length = its.length := by have := rv.length; rwa [List.length_map] at this
    have hT : s.heap.IsTuple p its.toArray := pl
    have hlt : p < s.heap.objs.size := by obtain ⟨_, e, _⟩ := hT; exact Heap.lt_size e
    refine call_sum_walk (wpAny_pyIter_tuple hT ?_)
    refine ⟨s.heap.objs.size, [s.heap.objs.size, p], [s.heap.objs.size], its.toArray.size, _, _, fun i => ns.getD i 0, rfl, Walks.tuple (A := X.A.in1) (I.ok.hd hc) _ p (Nat.ne_of_lt hlt) its.toArray,
      ⟨⟨_, Heap.get?_push_size _ rfl, rfl, rfl⟩, let ⟨o, e, r⟩ := hT; ⟨o, Heap.get?_push_of_some _ e, r⟩⟩, fun b hb' => ?_, val rv, fun j hj => fit j (by simp at hj; omega), fun h' tk t' hk => ?_⟩
    · simp only [List.mem_cons, List.not_mem_nil, or_false] at hb'
      show b < (Heap.push s.heap _).objs.size
      rw [Heap.size_push]
      rcases hb' with rfl | rfl
      · exact Nat.lt_succ_self _
      · exact Nat.lt_succ_of_lt hlt
    · have e2 : preSum (fun i => ns.getD i 0) its.toArray.size = ns.sum := by rw [List.size_toArray, ← hlen]; exact eS
      rw [e2]
      refine ⟨.int _, H, I.kept (h' := h') (t' := tk) fun b o q => hk b o (fun hm => ?_) (Heap.get?_push_of_some _ q), ⟨_, rfl⟩, q⟩
      rw [List.mem_singleton.mp hm] at q
      exact Nat.lt_irrefl _ (Heap.lt_size q)
/-! ### xs[lo:hi:st] of a list -/
def pickI {α : Type} (xs : List α) (lo hi st : Option Int) : List α := (sliceRange (sliceBounds lo hi st xs.length).1 (sliceBounds lo hi st xs.length).2.1 (sliceBounds lo hi st xs.length).2.2).filterMap (xs[·]?)
theorem vals_pick {xs : List V} {us : List Value} (r : Vals xs us) : ∀ ix : List Nat, Vals (ix.filterMap (xs[·]?)) (ix.filterMap (us[·]?))
  | [] => .nil
  | i :: ix => by
    have ih := vals_pick r ix
    cases e : xs[i]? with
    | none => rw [List.filterMap_cons_none e, List.filterMap_cons_none (r.none_of e)]; exact ih
    | some x =>
      obtain ⟨u, hu, ru⟩ := r.get e
      rw [List.filterMap_cons_some e, List.filterMap_cons_some hu]
      exact .cons ru ih
def tSl3 (K : PySem.W.Frag) (te : TE) (tl th ts : TO) : TE := fun σ H Q => te σ H fun x H1 => tl σ H1 fun l H2 => th σ H2 fun u H3 => ts σ H3 fun st H4 => ∃ a xs, x = .ref a ∧ SqL K H4 a xs ∧ st ≠ some 0 ∧ (pickI xs l u st).length ≤ sizeLine ∧ ∀ p, H4 p = none → Q (.ref p) (upd H4 p (.lst (pickI xs l u st)))
theorem pe_slice3 {e : Expr} {lo hi : Option Expr} {st : Expr} {te : TE} {tl th ts : TO} {p2 pos : Pos} (he : PE X e te) (hl : PO X lo tl) (hu : PO X hi th) (hst : PO X (some st) ts) : PE X (.Subscript e (.Slice lo hi (some st) p2) pos) (tSl3 X.K te tl th ts) := by
  intro pins s σ H Q I h
  refine Subscript_ (thn (he pins s σ H _ I h) fun v s1 ⟨x, H1, I1, r1, q1⟩ => ?_)
  refine wpAny_Slice (thn (hl pins s1 σ H1 _ I1 q1) fun vl s2 ⟨l, H2, I2, pl, q2⟩ => thn (hu pins s2 σ H2 _ I2 q2) fun vu s3 ⟨u, H3, I3, pu, q3⟩ => thn (hst pins s3 σ H3 _ I3 q3) fun vs s4 ⟨k, H4, I4, ps, q4⟩ => ?_)
  obtain ⟨a, xs, rfl, hx, h0, hz', q⟩ := q4
  cases r1
  have I5 : L2.Inv X pins σ H4 { s4 with heap := s4.heap.push { cls := .type "slice", data := .fields #[vl, vu, vs] } } := I4.kept (t' := s4.toks) fun b ob q => Heap.get?_push_of_some _ q
  obtain ⟨its, r, ht, hz⟩ := I5.list hx
  have hlen := r.length
  show wpAny (model X.prog X.w) X.A (subscriptTail e (.Slice lo hi (some st) p2) (.ref a) (.ref s4.heap.objs.size)) (EP X pins σ Q) X.xe { s4 with heap := s4.heap.push { cls := .type "slice", data := .fields #[vl, vu, vs] } }
  refine tail_any (ops := [.ref a, .ref s4.heap.objs.size]) ht.isList.typeIs slot_list_getitem.lookup ?_ (by with_unfolding_all rfl)
  refine wpAny_getItem_list_slice ht.isList (Heap.IsSliceOf.new ..) pl pu ps h0 ?_ (by rw [List.size_toArray] <;> omega)
  refine ⟨.ref _, _, I5.laid (t' := s4.toks) (o := .lst (pickI xs l u k)) (fun b ob q => Heap.get?_push_of_some _ q) (Nat.le_refl _) ?_, rfl, q _ (I5.hok.fresh (Nat.le_refl _))⟩
  refine ⟨hz', pickI its l u k, 0, ?_, ?_⟩
  · unfold pickI
    rw [hlen]
    exact vals_pick r _
  · have : slicePick its.toArray l u k = (pickI its l u k).toArray := by unfold slicePick pickI; simp
    rw [this]
    exact Heap.get?_push_size _ rfl
theorem qe_slice3 {e : Expr} {lo hi : Option Expr} {st : Expr} {te : TE} {tl th ts : TO} {p2 pos : Pos} (he : QE X e te) (hl : QO X lo tl) (hu : QO X hi th) (hst : QO X (some st) ts) : QE X (.Subscript e (.Slice lo hi (some st) p2) pos) (tSl3 X.K te tl th ts) := ⟨pe_slice3 he.h hl.h hu.h hst.h⟩
end
end L3

namespace L3
open PySem PySem.Spec PyProof.Rows L2
section
variable {X : Cx}
theorem get_list : PGet X (fun x y H Q => ∃ (p : Addr) (xs : List V) (i : Nat) (v : V), x = .ref p ∧ y = .int (i : Int) ∧ H p = some (.lst xs) ∧ xs[i]? = some v ∧ Q v H) := by
  intro pins s σ H o i ov iv Q I r1 r2 h
  obtain ⟨p, xs, j, v, rfl, rfl, hH, hv, q⟩ := h
  cases r1
  obtain ⟨t, rfl⟩ := r2
  obtain ⟨its, r, pl, hz⟩ := I.list (SqL.of hH)
  obtain ⟨u, hu, ru⟩ := r.get hv
  have hl := r.length
  have hn := line63
  have hj : j < xs.length := (List.getElem?_eq_some_iff.mp hv).1
  exact wpAny_getItem_list pl.isList (by omega) (by omega) (by simpa using hu) ⟨v, H, I, ru, q⟩
theorem qe_slice3K {K : PySem.W.Frag} (hK : X.K = K) {e : Expr} {lo hi : Option Expr} {st : Expr} {te : TE} {tl th ts : TO} {p2 pos : Pos} (he : QE X e te) (hl : QO X lo tl) (hu : QO X hi th) (hst : QO X (some st) ts) : QE X (.Subscript e (.Slice lo hi (some st) p2) pos) (tSl3 K te tl th ts) := by
  subst hK
  exact qe_slice3 he hl hu hst
theorem call_sumIK {K : PySem.W.Frag} (hK : X.K = K) (hc : X.calm = true) : CallR X (.builtin "sum") (fun xs H Q => ∃ (p : Addr) (ns : List Int), xs = [.ref p] ∧ Sq K H p (ns.map V.int) ∧ ns.length ≤ 1000 ∧ (∀ z ∈ ns, 0 ≤ z ∧ z ≤ 1000000) ∧ Q (.int ns.sum) H) := by
  subst hK
  exact call_sumI hc
end
/-! ### names -/
def isNm (z : Str) : Prop := (∀ c ∈ z.cps.toList, 97 ≤ c ∧ c ≤ 122) ∧ 1 ≤ z.cps.toList.length ∧ z.cps.toList.length ≤ 8
theorem nm_ascii {z : Str} (h : isNm z) : z.cps.all (· < 128) = true := by
  rw [Array.all_eq_true']
  intro c hc
  have := h.1 c (by simpa using hc)
  simp; omega
def letD (c : Nat) : List Int := [((c : Int) - 97) % 16, ((c : Int) - 97) / 16]
def letDs (cs : List Nat) : List Int := cs.flatMap letD
theorem letDs_app (cs : List Nat) (c : Nat) : letDs (cs ++ [c]) = letDs cs ++ letD c := by simp [letDs]
theorem letDs_len (cs : List Nat) : (letDs cs).length = 2 * cs.length := by
  induction cs with
  | nil => rfl
  | cons c r ih => simp only [letDs, List.flatMap_cons, List.length_append, List.length_cons] at ih ⊢; rw [ih]; simp [letD]; omega
theorem letDs_dig {cs : List Nat} (h : ∀ c ∈ cs, 97 ≤ c ∧ c ≤ 122) : digR (letDs cs) := fun x hx => by
  obtain ⟨c, hc, hx⟩ := List.mem_flatMap.mp hx
  have := h c hc
  simp only [letD, List.mem_cons, List.not_mem_nil, or_false] at hx
  rcases hx with rfl | rfl
  · exact dig_mod _
  · exact ⟨by omega, by omega⟩
def part (ds : List Int) (j : Nat) : Nat → Int
  | 0 => 0
  | n + 1 => part ds j n + if n % 4 = j then ds.getD n 0 else 0
def sumsL (ds : List Int) (n : Nat) : List Int := [part ds 0 n, part ds 1 n, part ds 2 n, part ds 3 n]
theorem sums_zero (ds : List Int) : sumsL ds 0 = [0, 0, 0, 0] := rfl
theorem sums_step (ds : List Int) (n : Nat) : (sumsL ds n).set (n % 4) ((sumsL ds n).getD (n % 4) 0 + ds.getD n 0) = sumsL ds (n + 1) := by
  have h : n % 4 = 0 ∨ n % 4 = 1 ∨ n % 4 = 2 ∨ n % 4 = 3 := by omega
  rcases h with h | h | h | h <;> simp [sumsL, part, h]
def ownK (ds : List Int) : List Int := (sumsL ds ds.length).map (· % 16)
theorem ownK_len (ds : List Int) : (ownK ds).length = 4 := rfl
theorem ownK_dig (ds : List Int) : digR (ownK ds) := fun x hx => by
  obtain ⟨y, _, rfl⟩ := List.mem_map.mp hx
  exact dig_mod _
def ixs (n j : Nat) : List Nat := sliceRange (sliceBounds (some (j : Int)) none (some 4) n).1 (sliceBounds (some (j : Int)) none (some 4) n).2.1 (sliceBounds (some (j : Int)) none (some 4) n).2.2
theorem ixs_eq : ∀ n < 17, ∀ j < 4, ixs n j = (List.range n).filter (fun i => i % 4 == j) := by decide +kernel
theorem part_sum (ds : List Int) (j : Nat) : ∀ n, part ds j n = (((List.range n).filter (fun i => i % 4 == j)).map (fun i => ds.getD i 0)).sum
  | 0 => rfl
  | n + 1 => by
    rw [part, part_sum ds j n, List.range_succ, List.filter_append, List.map_append, List.sum_append]
    by_cases h : n % 4 = j
    · rw [if_pos h, List.filter_cons_of_pos (by simpa using h)]; simp
    · rw [if_neg h, List.filter_cons_of_neg (by simpa using h)]; simp
theorem pick_eq {ds : List Int} {j : Nat} (hn : ds.length < 17) (hj : j < 4) : pickI (ds.map V.int) (some (j : Int)) none (some 4) = (((List.range ds.length).filter (fun i => i % 4 == j)).map (fun i => ds.getD i 0)).map V.int := by
  unfold pickI
  rw [List.length_map, show sliceRange (sliceBounds (some (j : Int)) none (some 4) ds.length).1 (sliceBounds (some (j : Int)) none (some 4) ds.length).2.1 (sliceBounds (some (j : Int)) none (some 4) ds.length).2.2 = ixs ds.length j from rfl, ixs_eq _ hn _ hj, List.map_map]
  have : ∀ l : List Nat, (∀ i ∈ l, i < ds.length) → l.filterMap (fun i => (ds.map V.int)[i]?) = l.map (V.int ∘ fun i => ds.getD i 0) := by
    intro l
    induction l with
    | nil => intro _; rfl
    | cons a r ih =>
      intro h
      have ha := h a List.mem_cons_self
      rw [List.filterMap_cons_some (ints_at ha), ih fun i hi => h i (List.mem_cons_of_mem _ hi), List.map_cons]
      simp [List.getD_eq_getElem?_getD, ha]
  exact this _ fun i hi => List.mem_range.mp (List.mem_filter.mp hi).1
theorem one_len (c : Nat) : (⟨#[c]⟩ : Str).length = 1 := rfl
theorem glue_fold : ∀ (cs : List Nat) (acc : Array Nat), ((cs.map fun c => (⟨#[c]⟩ : Str)).foldl (fun acc p => acc ++ (⟨#[]⟩ : Str).cps ++ p.cps) acc).toList = acc.toList ++ cs
  | [], acc => by simp
  | c :: r, acc => by
    rw [List.map_cons, List.foldl_cons, glue_fold r]
    simp
theorem join_one (cs : List Nat) : (Txt.join ⟨#[]⟩ (cs.map fun c => (⟨#[c]⟩ : Str))).cps.toList = cs := by
  cases cs with
  | nil => rfl
  | cons c r =>
    show (((((c :: r).map fun c => (⟨#[c]⟩ : Str)).drop 1).foldl (fun acc p => acc ++ (⟨#[]⟩ : Str).cps ++ p.cps) ((((c :: r).map fun c => (⟨#[c]⟩ : Str)).headD Str.empty).cps))).toList = c :: r
    rw [List.map_cons, List.drop_succ_cons, List.drop_zero, glue_fold]
    rfl
abbrev alpha : Str := "abcdefghijklmnopqrstuvwxyz"
theorem alpha_in : ∀ c ∈ alpha.cps.toList, 97 ≤ c ∧ c ≤ 122 := by decide +kernel
theorem alpha_ix : ∀ k < 26, Builtin.Str.occurrences alpha ⟨#[97 + k]⟩ 0 alpha.length 1 = [k] := by decide +kernel
def spLetters : Sp := fun vs H Q _ => ∃ z, vs = [.str z] ∧ isNm z ∧ ∀ l H', Same H H' → H l = none → H' l = some (.lst ((letDs z.cps.toList).map V.int)) → Q (.ref l) H'
def spKeyOf (K : PySem.W.Frag) : Sp := fun vs H Q _ => ∃ (a b : Addr) (z : Str) (t ks : List Int), vs = [.ref a, .ref b, .str z] ∧ Sq K H a (t.map V.int) ∧ Sq K H b (ks.map V.int) ∧ isNm z ∧ t.length = 16 ∧
  ∀ p H', Same H H' → H p = none → H' p = some (.tup ((encK t ks (ownK (letDs z.cps.toList))).map V.int)) → Q (.ref p) H'
def spName : Sp := fun vs H Q _ => ∃ (b : Addr), vs = [.ref b] ∧ Box H b ∧ ∀ z H', Gr b H H' → isNm z → Q (.str z) H'
theorem take_cs {cs : List Nat} {i c : Nat} (h : cs[i]? = some c) : cs.take (i + 1) = cs.take i ++ [c] := by rw [List.take_add_one, h]; rfl
theorem cps_get {z : Str} {i c : Nat} (h : z.cps[i]? = some c) : z.cps.toList[i]? = some c := by simpa using h
theorem keyB_own {H : Hp} {p : Addr} {ns : List Int} (h : H p = some (.tup (ns.map V.int))) (l1 : 1 ≤ ns.length) (l8 : ns.length ≤ 8) (hd : digR ns) : keyB H (.ref p) = true := by
  rw [keyB_tup h, List.length_map, decide_eq_true l1, decide_eq_true l8, List.all_eq_true.mpr]
  · rfl
  · intro x hx
    obtain ⟨z, hz, rfl⟩ := List.mem_map.mp hx
    have := hd z hz
    simp only [isDig, Bool.and_eq_true, decide_eq_true_eq]
    exact this
theorem Kn.tupI {H : Hp} {p : Addr} {ns : List Int} (h : H p = some (.tup (ns.map V.int))) : Kn H (.ref p) := .tup h fun y hy => by obtain ⟨z, _, rfl⟩ := List.mem_map.mp hy; exact ⟨_, rfl⟩
theorem bsc2 {X : Cx} {scope : Scope} {y z : Str} {j k : Nat} (kind : scope.kind = .function) (names : ∀ x ∈ scope.names, x.2 = .local → scope.names.lookup x.1 = some .local) (nocell : ∀ x ∈ scope.names, x.2 ≠ .cell)
    (free : ∀ x ∈ scope.names, x.2 = .free → x.1 ∈ ([y, z] : List Str)) (h1 : X.N[j]? = some y) (h2 : X.env.kindOf y = some .cell) (h3 : (relabel scope X.env).names.lookup y = some .cell)
    (g1 : X.N[k]? = some z) (g2 : X.env.kindOf z = some .cell) (g3 : (relabel scope X.env).names.lookup z = some .cell) : BScope X scope [y, z] [j, k] :=
  ⟨kind, names, nocell, free, rfl, fun i j' y' e1 e2 => by
    match i with
    | 0 => cases e1; cases e2; exact ⟨h1, h2, h3⟩
    | 1 => cases e1; cases e2; exact ⟨g1, g2, g3⟩
    | i + 2 => simp at e1⟩
theorem clo2 {X : Cx} {y z : Str} {c d : Addr} (h : X.env.cells.lookup y = some c) (g : X.env.cells.lookup z = some d) : ∀ u e, ([(y, c), (z, d)] : List (Str × Addr)).lookup u = some e → X.env.cells.lookup u = some e := fun u e he => by
  by_cases hu : u = y
  · subst hu
    simp at he
    rw [← he]; exact h
  · by_cases hv : u = z
    · subst hv
      simp [List.lookup_cons, show (u == y) = false from by simpa using hu] at he
      rw [← he]; exact g
    · simp [List.lookup_cons, show (u == y) = false from by simpa using hu, show (u == z) = false from by simpa using hv] at he
end L3

namespace L3
open PySem PySem.Spec PyProof.Rows L2
open Sem (wp)
/-! ### a, b, c = a list -/
section
variable {prog : Program} {w : World} {A : Around} {E : Value → Shared → Prop} {s : Shared}
theorem draw_listU {it t : Addr} {items : Array Value} (hne : t ≠ it) : ∀ (n i : Nat) (s : Shared) (Q : List Value → Shared → Prop), s.heap.IsListIter it t i → s.heap.IsList t items → i + n ≤ items.size →
    (∀ h', h'.IsListIter it t (i + n) → Heap.SameBut it s.heap h' → Q ((items.toList.drop i).take n) { s with heap := h' }) → wpAny (model prog w) A (draw (.ref it) n) Q E s
  | 0, i, s, Q, hit, _, _, hQ => by
    show wpAny _ _ (pure []) Q E s
    refine wpAny_pure ?_
    have := hQ s.heap hit (Heap.SameBut.refl ..)
    simpa using this
  | n + 1, i, s, Q, hit, ht, hle, hQ => by
    have hlt : i < items.size := by omega
    show wpAny _ _ (pyNext (.ref it) >>= _) Q E s
    refine wpAny_bind (wpAny_pyNext_list_item hit ht (x := items[i]) (by simp [hlt]) fun h₁ hit₁ hs₁ => ?_)
    have ht1 : (Shared.heap { s with heap := h₁ }).IsList t items := let ⟨o, e, r⟩ := ht; ⟨o, hs₁.extBut _ _ hne e, r⟩
    refine wpAny_bind (wpAny_holding (draw_listU hne n (i + 1) _ _ hit₁ ht1 (by omega) fun h₂ hit₂ hs₂ => wpAny_pure ?_))
    have hd : items.toList.drop i = items[i] :: items.toList.drop (i + 1) := by simp [List.drop_eq_getElem_cons, hlt]
    have z := hQ h₂ (by rw [show i + (n + 1) = i + 1 + n by omega]; exact hit₂) (hs₁.trans hs₂)
    rw [hd, List.take_succ_cons] at z
    exact z
theorem unpack_listU {t : Addr} {items : Array Value} {targets : List (Bool × (Value → Sem Unit))} {Q : Unit → Shared → Prop} (hh : A.handled = none) (ht : s.heap.IsList t items)
    (hn : targets.length = items.size) (hstar : targets.findIdx? (·.1) = none)
    (h : ∀ h', Heap.ExtBut s.heap.objs.size s.heap h' → wpAny (model prog w) A (assignInOrder (targets.map (·.2)) items.toList) Q E { s with heap := h' }) :
    wpAny (model prog w) A (unpack (.ref t) targets) Q E s := by
  have hlt : t ≠ s.heap.objs.size := by obtain ⟨o, ho, _⟩ := ht; exact Nat.ne_of_lt (Heap.lt_size ho)
  unfold unpack
  rw [hn, hstar]
  refine wpAny_bind (wpAny_holding ?_)
  unfold unpackItems
  refine wpAny_bind ?_
  unfold notIterableAtAll
  refine wpAny_bind (wpAny_specialOf ht.typeIs F.slot_list_iter.lookup ?_)
  refine wpAny_pure ?_
  simp only [Bool.false_eq_true, if_false]
  refine wpAny_bind (wpAny_holding (wpAny_pyIter_list ht ?_))
  refine wpAny_bind (wpAny_holding (draw_listU hlt items.size 0 _ _ ⟨_, Heap.get?_push_size _ rfl, rfl, rfl⟩ (ht.push _) (by omega) fun h₁ hit₁ hs₁ => ?_))
  have hall : List.take items.size (List.drop 0 items.toList) = items.toList := by
    rw [List.drop_zero]
    exact List.take_of_length_le (by simp)
  rw [hall]
  rw [if_neg (by simp)]
  have ht₁ : h₁.IsList t items := let ⟨o, e, r⟩ := ht.push _; ⟨o, hs₁.extBut _ _ hlt e, r⟩
  refine wpAny_bind (wpAny_holding (wpAny_pyNext_list_end hh hit₁ ht₁ (by simp) fun h₂ he₂ => ?_))
  simp only [Option.isSome_none, Bool.false_eq_true, if_false]
  exact wpAny_pure (h h₂ fun b o hb e => he₂ b o hb (hs₁.extBut b o hb (Heap.get?_push_of_some _ e)))
end
section
variable {X : Cx} {pos : Pos}
def gSeq (K : PySem.W.Frag) (n : Nat) (t : TGs) : TG := fun v σ H Q => ∃ a xs, v = .ref a ∧ Sq K H a xs ∧ xs.length = n ∧ t xs σ H Q
theorem pg_seq {es : List Expr} {k : Nat} {t : TGs} {n : Nat} (hc : X.calm = true) (h : PGs X es t)
    (hn : (assignEach es X.env).length = n := by rfl) (hst : (assignEach es X.env).findIdx? (·.1) = none := by rfl) : PG X (.Tuple es k pos) (gSeq X.K n t) := by
  intro pins s σ H v u Q I r hw
  obtain ⟨a, xs, e1, hq, hl, hw⟩ := hw
  rcases hq with hq | hq
  · subst e1
    cases r
    obtain ⟨its, rv, ht, hz⟩ := I.list hq
    rw [assign_Tuple]
    refine wpAny_bind (wpAny_standAt (unpack_listU (I.ok.hd hc) ht.isList (by simp [hn, ← hl, rv.length]) hst fun h' hx => ?_))
    have I1 : L2.Inv X pins σ H { s with heap := h' } := I.kept (t' := s.toks) fun b o e => hx b o (Nat.ne_of_lt (Heap.lt_size e)) e
    exact h pins _ σ H xs _ Q I1 (by simpa using rv) hw
  · exact pg_tup hc h hn hst pins s σ H v u Q I r ⟨a, xs, e1, hq, hl, hw⟩
theorem qg_seq {es : List Expr} {k : Nat} {t : TGs} {n : Nat} (hc : X.calm = true) (h : QGs X es t)
    (hn : (assignEach es X.env).length = n := by rfl) (hst : (assignEach es X.env).findIdx? (·.1) = none := by rfl) : QG X (.Tuple es k pos) (gSeq X.K n t) := ⟨pg_seq hc h.h hn hst⟩
end
end L3

namespace L3
open PySem PySem.Spec PyProof.Rows L2
open Sem (wp)
/-! ### list(reversed(t)) -/
namespace RV
theorem slot_hint : Slot "reversed" "__length_hint__" "reversed.__length_hint__" :=
  .of (owner := "reversed") (n := "__length_hint__") (by rw [typeLookup_type, builtinLookup_eq_fast]
                                                         kernel_rfl) (by decide +kernel) (by decide +kernel) (by decide +kernel)
    (by first | exact .inl (by decide +kernel) | exact .inr (by decide +kernel)) (by rw [isSubtype_type]
                                                                                     kernel_rfl)
theorem entry_hint : entryFor table "reversed.__length_hint__" = some Builtin.«reversed.__length_hint__» := entryFor_of_tree (by kernel_rfl)
theorem args_hint (a : Value) : argsOk "reversed.__length_hint__" ⟨[a], []⟩ := by
  unfold argsOk
  rw [signature?_of (id := "reversed.__length_hint__") (n := ['_', '_', 't', 'n', 'i', 'h', '_', 'h', 't', 'g', 'n', 'e', 'l', '_', '_']) (o := ['d', 'e', 's', 'r', 'e', 'v', 'e', 'r']) (by kernel_rfl) owner_rev]
  kernel_rfl
theorem nolen : typeLookup (.type "reversed") "__len__" = pure none := by
  rw [typeLookup_type, builtinLookup_eq_fast]
  kernel_rfl
end RV
theorem meets_rhint (it l : Addr) (items : Array Value) (hz : items.size ≤ sizeLine) (o : Obj) (hc : o.cls = .type "reversed") (hd : o.data = .fields #[.ref l, rawInt ((items.size : Int) - 1)]) :
    Meets (Builtin.«reversed.__length_hint__» ⟨[.ref it], []⟩) (fun A R s => s.heap.get? it = some o ∧ s.heap.IsTuple l items ∧
      ∀ u tk, R (.ok (.ret (.int items.size u))) { s with toks := tk }) :=
  .of_wp fun prog w A R s h => by
    obtain ⟨hp, g, d, tk, os⟩ := s; obtain ⟨ho, hl, h⟩ := h
    have hI : IsTup (Shared.heap ⟨hp, g, d, tk, os⟩) l items := hl
    have hn := line63
    unfold Builtin.«reversed.__length_hint__»
    refine wpAny_bind (wpAny_of_eq (a := Value.ref it) rfl ?_)
    refine wpAny_bind (wpAny_field ho hd (x := .ref l) rfl ?_)
    show wpAny _ _ (if (Value.ref l == Value.none) = true then _ else _) _ _ _
    rw [if_neg (show ¬ ((Value.ref l == Value.none) = true) from Bool.false_ne_true)]
    refine wpAny_bind (len_tuple hI (by omega) ?_)
    refine wpAny_bind (m := asInt? _) (wpAny_pure ?_)
    dsimp only
    refine wpAny_bind (wpAny_field (s := ⟨hp, g, d, tk + 1 + 1, os⟩) ho hd (x := rawInt ((items.size : Int) - 1)) rfl ?_)
    show wpAny _ _ (if ((items.size : Nat) : Int) < ((items.size : Int) - 1) + 1 then _ else _) _ _ _
    rw [if_neg (by omega), show ((items.size : Int) - 1) + 1 = (items.size : Int) by omega]
    unfold retInt
    refine wpAny_bind (wpAny_mkInt ?_)
    exact wpAny_pure ⟨_, rfl, h _ _⟩
theorem walksRT {prog : Program} {w : World} {A : Around} (hh : A.handled = none) (I l : Addr) (hne : l ≠ I) (items : Array Value) (hz : items.size ≤ sizeLine) :
    Walks prog w A I [I, l] [I] items.size (fun i v => items[items.size - 1 - i]? = some v) (fun i h => i ≤ items.size ∧ RevT h I l ((items.size : Int) - 1 - (i : Int)) ∧ IsTup h l items) where
  sub := fun b hb => by simp at hb; simp [hb]
  frame := fun _ _ _ x hk => ⟨x.1, let ⟨o, e, r⟩ := x.2.1; ⟨o, hk I (by simp) o e, r⟩, let ⟨o, e, r⟩ := x.2.2; ⟨o, hk l (by simp) o e, r⟩⟩
  item := fun i s Q E hi x hQ => by
    have e : (items.size : Int) - 1 - (i : Int) = ((items.size - 1 - i : Nat) : Int) := by omega
    have hit := x.2.1
    rw [e] at hit
    have hx : items[items.size - 1 - i]? = some (items[items.size - 1 - i]'(by omega)) := Array.getElem?_eq_getElem (by omega)
    refine nextRT_item hit x.2.2 hx hz fun h' tk hit' hs' => ?_
    have e2 : ((items.size - 1 - i : Nat) : Int) - 1 = (items.size : Int) - 1 - ((i + 1 : Nat) : Int) := by omega
    rw [e2] at hit'
    exact hQ _ h' tk hx ⟨hi, hit', let ⟨o, eo, r⟩ := x.2.2; ⟨o, (hs'.2 l hne).trans eo, r⟩⟩ fun b o hb eo => hs'.extBut b o (fun h => hb (by simp [h])) eo
  done := fun s Q E x hQ => by
    have hit := x.2.1
    rw [show (items.size : Int) - 1 - (items.size : Int) = -1 by omega] at hit
    exact nextRT_end hh hit fun h' he' => hQ h' s.toks fun b o hb eo => he' b o (fun h => hb (by simp [h])) eo
  self := fun _ _ _ _ x hQ => iterRT x.2.1 hQ
section
variable {prog : Program} {w : World} {A : Around} {E : Value → Shared → Prop} {s : Shared}
theorem hintRT {it l : Addr} {items : Array Value} {Q : Bool → Shared → Prop} (hit : RevT s.heap it l ((items.size : Int) - 1)) (hl : s.heap.IsTuple l items) (hz : items.size ≤ sizeLine)
    (h : ∀ b tk, Q b { s with toks := tk }) : wpAny (model prog w) A (Builtin.List.listLengthHint (.ref it)) Q E s := by
  obtain ⟨o, ho, hc, hd⟩ := id hit
  have hT := RevT.typeIs hit
  have hn := line63
  unfold Builtin.List.listLengthHint
  refine wpAny_bind (wpAny_specialOf hT RV.nolen ?_)
  show wpAny _ _ (specialOf (Value.ref it) (Str.ofString "__length_hint__") >>= _) _ _ _
  refine wpAny_bind (wpAny_specialOf hT RV.slot_hint.lookup ?_)
  generalize hid : ("reversed.__length_hint__" : String) = id0
  wp_delta
  rw [show splitId id0 = some ("reversed", "__length_hint__") from by subst hid; decide +kernel]
  subst hid
  refine wpAny_bind (wpAny_isInstance (b := true) hT F.sub_reversed_self ?_)
  refine wpAny_ite_split (fun hab => absurd hab (by decide)) (fun _ => ?_)
  refine wpAny_ite_split (fun hab => absurd hab (by decide +kernel)) (fun _ => ?_)
  refine wpAny_bind (wpAny_rule ?_)
  refine wpAny_bind (wpAny_of_eq (RV.slot_hint.bind _) ?_)
  refine wpAny_bind (wpAny_attempt (call_meets RV.slot_hint hT RV.entry_hint (RV.args_hint _) (meets_rhint it l items hz o hc hd) ⟨ho, hl, fun u tk => ?_⟩))
  have hk0 : 0 ≤ (items.size : Int) := by omega
  have hk1 : (items.size : Int) ≤ (sizeLine : Nat) := by omega
  generalize (items.size : Int) = k at hk0 hk1
  have hfit : (!Builtin.List.listFitsIndex k) = false := by
    unfold Builtin.List.listFitsIndex
    simp
    omega
  have htl : Builtin.List.listTooLong (k.toNat) = false := by simp [Builtin.List.listTooLong]; omega
  clear hn hz hk1
  refine wpAny_bind (m := asInt? (.int k u)) (wpAny_pure ?_)
  dsimp only
  rw [if_neg (by rw [hfit]; decide), if_neg (by omega), if_neg (by rw [htl]; decide)]
  exact wpAny_pure (h _ _)
theorem extendRT {R : Result → Shared → Prop} {it l : Addr} {items : Array Value} (hh : A.handled = none) (hit : RevT s.heap it l ((items.size : Int) - 1)) (hl : IsTup s.heap l items) (hz : items.size ≤ sizeLine)
    (S : Addr) (res : Value) (c₀ : Nat) (hS : s.heap.get? S = some { cls := .type "list", data := .seq #[] c₀ })
    (hR : ∀ h' tk acc' c', (∀ b o, b ≠ S → b ≠ it → s.heap.get? b = some o → h'.get? b = some o) → h'.get? S = some { cls := .type "list", dict := none, data := .seq acc' c', slots := #[] } →
      ItemsOf (fun i v => items[items.size - 1 - i]? = some v) acc' items.size → R (.ok (.ret res)) { s with heap := h', toks := tk }) :
    wpAny (model prog w) A.in1 (Builtin.List.listExtendWith (.ref S) (.ref it) res)
      (fun fin s' => match fin with | .done f => R (.ok f) s' | .again c' => c'.quiet = true ∧ codeAny (model prog w) A c' R s') (fun e s' => R (.error e) s') s := by
  obtain ⟨oi, hoi, hci, hdi⟩ := id hit
  obtain ⟨ol, hol, hcl, _⟩ := id hl
  have hSr : S ≠ it := fun e => by rw [e, hoi] at hS; cases hS; simp at hci
  have hSl : S ≠ l := fun e => by rw [e, hol] at hS; cases hS; simp at hcl
  have hli : l ≠ it := fun e => by rw [e, hoi] at hol; cases hol; rw [hci] at hcl; simp at hcl
  have hSf : S ∉ [it, l] := fun hm => by
    simp only [List.mem_cons, List.not_mem_nil, or_false] at hm
    rcases hm with e | e
    · exact hSr e
    · exact hSl e
  have W := (walksRT (prog := prog) (w := w) (A := A.in1) hh it l hli items hz).toS
  have key : ∀ (h : Heap) (c₁ tk : Nat), (∀ b o, b ≠ S → s.heap.get? b = some o → h.get? b = some o) →
      h.get? S = some { cls := .type "list", data := .seq #[] c₁ } → codeAny (model prog w) A (.builtin "list.extend.loop" ⟨[.ref S, .ref it, res], []⟩) R { s with heap := h, toks := tk } := by
    intro h c₁ tk hk hS₁
    have hst : (0 : Nat) ≤ items.size ∧ RevT h it l ((items.size : Int) - 1 - ((0 : Nat) : Int)) ∧ IsTup h l items := by
      refine ⟨Nat.zero_le _, ⟨oi, hk _ _ (Ne.symm hSr) hoi, hci, by rw [hdi]; simp⟩, ?_⟩
      obtain ⟨o, e, r⟩ := hl
      exact ⟨o, hk _ _ (Ne.symm hSl) e, r⟩
    refine codeAny_extend_loopS W hz S hSf res items.size 0 _ #[] c₁ rfl (Nat.zero_le _) hst hS₁ (ItemsOf.nil _) fun s' acc' c' hm hS' hacc => ?_
    rw [Moved.eq_with hm]
    refine hR s'.heap s'.toks acc' c' (fun b o hb hbi e => hm.heap b o (fun hmem => ?_) (hk b o hb e)) hS' hacc
    rcases List.mem_cons.mp hmem with e' | hmem
    · exact hb e'
    · exact hbi (List.mem_singleton.mp hmem)
  unfold Builtin.List.listExtendWith
  refine wpAny_bind (wpAny_typeOf (T := "reversed") (RevT.typeIs hit) ?_)
  have h1 : Builtin.List.listSameRef (.ref S) (.ref it) = false := by simp [Builtin.List.listSameRef, hSr]
  have h2 : (Value.type "reversed" == Value.type "list") = false := by decide
  have h3 : (Value.type "reversed" == Value.type "tuple") = false := by decide
  simp only [h1, h2, h3, Bool.or_false, Bool.false_eq_true, if_false]
  refine wpAny_bind (iterRT hit ?_)
  refine wpAny_bind (wpAny_holding (hintRT hit (show s.heap.IsTuple l items from hl) hz fun b tk => ?_))
  refine wpAny_ite_split (fun _ => ?_) (fun _ => wpAny_pure ⟨plainId_quiet F.plain_extend_loop _, key _ c₀ _ (fun b o _ e => e) hS⟩)
  refine wpAny_bind (wpAny_rule ?_)
  refine wpAny_bind ?_
  show wpAny _ _ (updateSeq S (·.push .none) >>= fun _ => updateSeq S (·.pop)) _ _ _
  refine wpAny_bind (wpAny_updateSeq (s := { s with toks := tk }) hS rfl ?_)
  have hS₂ := Heap.get?_update_self (Obj.mapSeq (·.push Value.none)) hS rfl
  refine wpAny_updateSeq (hz := by seq_fits) hS₂ rfl ?_
  have hS₃ := Heap.get?_update_self (Obj.mapSeq (·.pop)) hS₂ rfl
  refine wpAny_pure ⟨plainId_quiet F.plain_extend_loop _, key _ _ _ (fun b o hb e => ?_) hS₃⟩
  exact (Heap.get?_update_other _ _ (Ne.symm hb)).trans ((Heap.get?_update_other _ _ (Ne.symm hb)).trans e)
theorem initRT {R : Result → Shared → Prop} {it l : Addr} {items : Array Value} (hh : A.handled = none) (hit : RevT s.heap it l ((items.size : Int) - 1)) (hl : IsTup s.heap l items) (hz : items.size ≤ sizeLine)
    (S : Addr) (hS : s.heap.get? S = some { cls := .type "list", data := .seq #[] })
    (hR : ∀ h' tk acc' c', (∀ b o, b ≠ S → b ≠ it → s.heap.get? b = some o → h'.get? b = some o) → h'.get? S = some { cls := .type "list", dict := none, data := .seq acc' c', slots := #[] } →
      ItemsOf (fun i v => items[items.size - 1 - i]? = some v) acc' items.size → R (.ok (.ret .none)) { s with heap := h', toks := tk }) :
    wpAny (model prog w) A.in1 (Builtin.«list.__init__» ⟨[.ref S, .ref it], []⟩)
      (fun fin s' => match fin with | .done f => R (.ok f) s' | .again c' => c'.quiet = true ∧ codeAny (model prog w) A c' R s') (fun e s' => R (.error e) s') s := by
  obtain ⟨oi, hoi, hci, hdi⟩ := id hit
  obtain ⟨ol, hol, hcl, _⟩ := id hl
  have hSr : S ≠ it := fun e => by rw [e, hoi] at hS; cases hS; simp at hci
  have hSl : S ≠ l := fun e => by rw [e, hol] at hS; cases hS; simp at hcl
  show wpAny _ _ (do let old ← Builtin.List.listItems (.ref S)
                     Builtin.List.listUpdate (.ref S) (fun _ => #[])
                     letGo old.toList.reverse
                     Builtin.List.listExtendWith (.ref S) (.ref it) .none) _ _ s
  refine wpAny_bind ?_
  unfold Builtin.List.listItems
  refine wpAny_bind (wpAny_seqItems hS rfl (wpAny_pure ?_))
  show wpAny _ _ (updateSeq S (fun _ => #[]) >>= fun _ => letGo (#[] : Array Value).toList.reverse >>= fun _ => Builtin.List.listExtendWith (.ref S) (.ref it) .none) _ _ s
  refine wpAny_bind (wpAny_updateSeq hS rfl ?_)
  have hS₂ := Heap.get?_update_self (Obj.mapSeq (fun _ => (#[] : Array Value))) hS rfl
  have oth : ∀ b o, b ≠ S → s.heap.get? b = some o → (s.heap.update S (Obj.mapSeq (fun _ => (#[] : Array Value)))).get? b = some o :=
    fun b o hb e => (Heap.get?_update_other _ _ (Ne.symm hb)).trans e
  refine wpAny_bind (wpAny_letGo ?_)
  refine extendRT hh ⟨oi, oth _ _ (Ne.symm hSr) hoi, hci, hdi⟩ (let ⟨o, e, r⟩ := hl; ⟨o, oth _ _ (Ne.symm hSl) e, r⟩) hz S .none _ hS₂ fun h' tk acc' c' hk hS' hacc => ?_
  exact hR h' tk acc' c' (fun b o hb hbi e => hk b o hb hbi (oth b o hb e)) hS' hacc
theorem listRT {Q : Value → Shared → Prop} {it l : Addr} {items : Array Value} (hh : A.handled = none) (hit : RevT s.heap it l ((items.size : Int) - 1)) (hl : IsTup s.heap l items) (hz : items.size ≤ sizeLine)
    (hQ : ∀ h' tk acc' c', (∀ b o, b ≠ it → s.heap.get? b = some o → h'.get? b = some o) →
      h'.get? s.heap.objs.size = some { cls := .type "list", dict := none, data := .seq acc' c', slots := #[] } → ItemsOf (fun i v => items[items.size - 1 - i]? = some v) acc' items.size → Q (.ref s.heap.objs.size) { s with heap := h', toks := tk }) :
    wpAny (model prog w) A (call (.type "list") [.ref it]) Q E s := by
  refine callType_codes (Q₁ := fun obj s₁ => obj = .ref s.heap.objs.size ∧ s₁ = { s with heap := s.heap.push { cls := .type "list", data := .seq #[] } }) F.called_list (F.typeCall_list_1 _) F.entry_list_init (code_list_new _ ⟨rfl, rfl⟩) fun obj s₁ h₁ => ?_
  obtain ⟨rfl, rfl⟩ := h₁
  have hS : (s.heap.push { cls := .type "list", data := .seq #[] }).get? s.heap.objs.size = some { cls := .type "list", data := .seq #[] } := Heap.get?_push_size _ rfl
  obtain ⟨oi, hoi, hci, hdi⟩ := id hit
  refine ⟨⟨_, hS, rfl⟩, F.args_list_init_2 _ _, initRT (A := A.in1) hh ⟨oi, Heap.get?_push_of_some _ hoi, hci, hdi⟩ (let ⟨o, e, r⟩ := hl; ⟨o, Heap.get?_push_of_some _ e, r⟩) hz _ hS fun h' tk acc' c' hk hS' hacc => ?_⟩
  exact ⟨rfl, hQ h' tk acc' c' (fun b o hbi e => hk b o (Nat.ne_of_lt (Heap.lt_size e)) hbi (Heap.get?_push_of_some _ e)) hS' hacc⟩
end
section
variable {X : Cx}
def tLRev (te : TE) : TE := fun σ H Q => te σ H fun x H1 => ∃ a ys, x = .ref a ∧ Rd H1 a (.tup ys) ∧ ∀ l, H1 l = none → Q (.ref l) (upd H1 l (.lst ys.reverse))
theorem pe_listrev {e : Expr} {te : TE} {p1 p2 pos1 pos2 : Pos} (hc : X.calm = true) (hgl : Gl X "list") (hml : X.mg "list" = none) (hgr : Gl X "reversed") (hmr : X.mg "reversed" = none) (he : PE X e te) (hn : notStar e = true := by rfl) :
    PE X (.Call (.Name "list" p1) [.Call (.Name "reversed" p2) [e] [] pos2] [] pos1) (tLRev te) := by
  intro pins s σ H Q I h
  refine Call_ (ld_blt I hgl hml PyProof.Rows.boot_list (PyProof.Rows.callWith_type1 ?_ (star_cons rfl) rfl))
  rw [star_cons rfl]
  refine Calls.spliced_cons ?_
  refine Call_ (ld_blt I hgr hmr boot_rev (PyProof.Rows.callWith_type1 (thn ((pac he pa_nil hn) pos2 pins s σ H (fun vs H1 => match vs with
    | [x] => ∃ a ys, x = V.ref a ∧ Rd H1 a (.tup ys) ∧ ∀ l, H1 l = none → Q (.ref l) (upd H1 l (.lst ys.reverse))
    | _ => False) I h) fun us s1 ⟨vs, H1, I1, r1, q1⟩ => ?_) (star_cons hn) rfl))
  match vs, q1 with
  | [x], q1 =>
    obtain ⟨a, ys, rfl, hr, q⟩ := q1
    obtain ⟨u, rfl, ru⟩ := r1.one
    cases ru
    obtain ⟨its, rv, pl, hz⟩ := I1.tuple (.inl hr)
    have hlen := rv.length
    have hz' : its.toArray.size ≤ sizeLine := by simp; omega
    refine callRT (show s1.heap.IsTuple a its.toArray from pl) hz' fun h' tk hi hk => ?_
    refine Calls.spliced_nil ?_
    obtain ⟨oi, hoi, _⟩ := id hi
    have hlt : s1.heap.objs.size < h'.objs.size := Heap.lt_size hoi
    refine listRT (s := { s1 with heap := h', toks := tk }) (I.ok.hd hc) hi (let ⟨o, e, r⟩ := pl; ⟨o, hk _ _ e, r⟩) hz' fun h2 tk2 acc c' hk2 hS hacc => ?_
    have ea : acc.toList = its.reverse := by
      refine List.ext_getElem? fun j => ?_
      have hsz : acc.size = its.length := by have := hacc.1; simpa using this
      by_cases hj : j < its.length
      · have hj' : j < acc.size := by omega
        have z := hacc.2 j acc[j] (by simp [hj'])
        rw [List.getElem?_reverse hj]
        have z' : its[its.length - 1 - j]? = some acc[j] := by simpa using z
        rw [z']
        simp [hj']
      · rw [List.getElem?_eq_none (by simp; omega), List.getElem?_eq_none (by simp; omega)]
    have I3 : L2.Inv X pins σ (upd H1 h'.objs.size (.lst ys.reverse)) { s1 with heap := h2, toks := tk2 } :=
      I1.laid (t' := tk2) (fun b o e => hk2 b o (Nat.ne_of_lt (Heap.lt_size e)) (hk b o e)) (Nat.le_of_lt hlt) ⟨by rw [List.length_reverse]; exact hz, its.reverse, c', rv.reverse, by rw [← ea]; exact hS⟩
    exact ⟨.ref h'.objs.size, _, I3, rfl, q _ (I1.hok.fresh (Nat.le_of_lt hlt))⟩
theorem qe_listrev {e : Expr} {te : TE} {p1 p2 pos1 pos2 : Pos} (hc : X.calm = true) (hgl : Gl X "list") (hml : X.mg "list" = none) (hgr : Gl X "reversed") (hmr : X.mg "reversed" = none) (he : QE X e te) (hn : notStar e = true := by rfl) :
    QE X (.Call (.Name "list" p1) [.Call (.Name "reversed" p2) [e] [] pos2] [] pos1) (tLRev te) := ⟨pe_listrev hc hgl hml hgr hmr he.h hn⟩
end
end L3

namespace L3
open PySem PySem.Spec PyProof.Rows L2
/-! ### presses -/
def fourI (c d : Int) : List Int := [c % 16, c / 16 % 16, c / 256, d]
def fiveI (c d : Int) : List Int := fourI c d ++ [(fourI c d).sum % 16]
def keyZ (t ks : List Int) (z : Str) : List Int := encK t ks (ownK (letDs z.cps.toList))
def codeI (t ks : List Int) (z : Str) (c d : Int) : List Int := encK t (keyZ t ks z) (fiveI c d)
def readI (r : List Int) : Option (Int × Int) := if r.getD 4 0 = (r.getD 0 0 + r.getD 1 0 + r.getD 2 0 + r.getD 3 0) % 16 then some (r.getD 0 0 + r.getD 1 0 * 16 + r.getD 2 0 * 256, r.getD 3 0) else none
def readK (t ks : List Int) (z : Str) (ds : List Int) : Option (Int × Int) := readI (decK (backL t) (keyZ t ks z) ds)
theorem five_len (c d : Int) : (fiveI c d).length = 5 := rfl
theorem four_sum (c d : Int) : (fourI c d).sum = c % 16 + c / 16 % 16 + c / 256 + d := by simp [fourI]; omega
theorem five_dig {c d : Int} (h0 : 0 ≤ c) (h1 : c < 4096) (hd : dig d) : digR (fiveI c d) := fun x hx => by
  simp only [fiveI, fourI, List.cons_append, List.nil_append, List.mem_cons, List.not_mem_nil, or_false] at hx
  rcases hx with rfl | rfl | rfl | rfl | rfl
  · exact dig_mod _
  · exact dig_mod _
  · exact ⟨by omega, by omega⟩
  · exact hd
  · exact dig_mod _
theorem read_five {c d : Int} (h0 : 0 ≤ c) (h1 : c < 4096) : readI (fiveI c d) = some (c, d) := by
  have e : (fiveI c d) = [c % 16, c / 16 % 16, c / 256, d, (c % 16 + c / 16 % 16 + c / 256 + d) % 16] := by unfold fiveI; rw [four_sum]; rfl
  unfold readI
  rw [e]
  show (if (c % 16 + c / 16 % 16 + c / 256 + d) % 16 = (c % 16 + c / 16 % 16 + c / 256 + d) % 16 then some (c % 16 + c / 16 % 16 * 16 + c / 256 * 256, d) else none) = _
  rw [if_pos rfl, show c % 16 + c / 16 % 16 * 16 + c / 256 * 256 = c by omega]
theorem five_of {r : List Int} (hl : r.length = 5) : ∃ a b c d e : Int, r = [a, b, c, d, e] := by
  match r, hl with
  | [a, b, c, d, e], _ => exact ⟨a, b, c, d, e, rfl⟩
theorem five_read {r : List Int} (hl : r.length = 5) (hr : digR r) {c d : Int} (h : readI r = some (c, d)) : fiveI c d = r ∧ 0 ≤ c ∧ c < 4096 ∧ dig d := by
  obtain ⟨x, y, z, u, v, rfl⟩ := five_of hl
  have hx := hr x (by simp)
  have hy := hr y (by simp)
  have hz := hr z (by simp)
  have hu := hr u (by simp)
  have h' : (if v = (x + y + z + u) % 16 then some (x + y * 16 + z * 256, u) else none) = some (c, d) := h
  by_cases e : v = (x + y + z + u) % 16
  · rw [if_pos e] at h'
    cases h'
    unfold dig at hx hy hz
    refine ⟨?_, by omega, by omega, hu⟩
    unfold fiveI
    rw [four_sum]
    show [_, _, _, _, _] = _
    rw [show (x + y * 16 + z * 256) % 16 = x by omega, show (x + y * 16 + z * 256) / 16 % 16 = y by omega, show (x + y * 16 + z * 256) / 256 = z by omega, ← e]
  · rw [if_neg e] at h'; cases h'
theorem keyZ_len (t ks : List Int) (z : Str) : (keyZ t ks z).length = 4 := by unfold keyZ; rw [encK_len, ownK_len]
theorem codeI_len (t ks : List Int) (z : Str) (c d : Int) : (codeI t ks z c d).length = 5 := by unfold codeI; rw [encK_len, five_len]
theorem code_dig {t ks : List Int} (p : t.Perm digs) {z : Str} {c d : Int} (h0 : 0 ≤ c) (h1 : c < 4096) (hd : dig d) : digR (codeI t ks z c d) := encK_dig p (five_dig h0 h1 hd)
theorem read_code {t ks : List Int} (p : t.Perm digs) {z : Str} {c d : Int} (h0 : 0 ≤ c) (h1 : c < 4096) (hd : dig d) : readK t ks z (codeI t ks z c d) = some (c, d) := by
  unfold readK codeI
  rw [dec_encK p (five_dig h0 h1 hd) (by rw [five_len]; decide), read_five h0 h1]
theorem code_read {t ks ds : List Int} (p : t.Perm digs) {z : Str} {c d : Int} (hl : ds.length = 5) (hd : digR ds) (h : readK t ks z ds = some (c, d)) : codeI t ks z c d = ds ∧ 0 ≤ c ∧ c < 4096 ∧ dig d := by
  obtain ⟨e, a1, a2, a3⟩ := five_read (by rw [decK_len, hl]) (decK_dig hd) h
  refine ⟨?_, a1, a2, a3⟩
  unfold codeI
  rw [e, enc_decK p hd (by omega)]
def Told (H : Hp) (x : V) : Option (Int × Int) → Prop
  | none => x = .non
  | some (c, d) => ∃ p, x = .ref p ∧ H p = some (.tup [.int c, .int d])
theorem told_same {H H' : Hp} {x : V} {o : Option (Int × Int)} (s : Same H H') (h : Told H x o) : Told H' x o := by
  match o, h with
  | none, h => exact h
  | some (c, d), ⟨p, e, hp⟩ => exact ⟨p, e, s _ _ hp⟩
theorem told_eqv {H : Hp} {x y : V} {o : Option (Int × Int)} (h1 : Told H x o) (h2 : Told H y o) : Eqv H 1 x y := by
  match o, h1, h2 with
  | none, h1, h2 => rw [show x = .non from h1, show y = .non from h2]; exact .non _
  | some (c, d), ⟨p, e, hp⟩, ⟨p', e', hp'⟩ =>
    rw [e, e']
    exact Eqv.ints (ns := [c, d]) (.inl hp) (.inl hp') (by show 2 ≤ sizeLine; decide)
theorem press_eqv {H : Hp} {p p' pc pc' : Addr} {z : Str} {age : Int} {ns : List Int} (h1 : Rd H p (.tup [.str z, .int age, .ref pc])) (h2 : Rd H p' (.tup [.str z, .int age, .ref pc'])) (h3 : Rd H pc (.tup (ns.map V.int))) (h4 : Rd H pc' (.tup (ns.map V.int))) (hz : ns.length ≤ sizeLine) : Eqv H 2 (.ref p) (.ref p') :=
  .tup h1 h2 rfl (by show 3 ≤ sizeLine; decide) fun i x y e1 e2 => by
    match i with
    | 0 => cases e1; cases e2; exact .str _ _
    | 1 => cases e1; cases e2; exact .int _ _
    | 2 => cases e1; cases e2; exact Eqv.ints h3 h4 hz
    | n + 3 => cases e1
def spCD : Sp := fun vs H Q _ => ∃ c : Int, vs = [.int c] ∧ ∀ p H', Same H H' → H' p = some (.tup [.int (c % 16), .int (c / 16 % 16), .int (c / 256)]) → Q (.ref p) H'
def spPress (K : PySem.W.Frag) : Sp := fun vs H Q _ => ∃ (a b : Addr) (z : Str) (age c d : Int) (t ks : List Int), vs = [.ref a, .ref b, .str z, .int age, .int c, .int d] ∧ Sq K H a (t.map V.int) ∧ Sq K H b (ks.map V.int) ∧ isNm z ∧ t.length = 16 ∧ 0 ≤ c ∧ c < 4096 ∧ dig d ∧
  ∀ p pc H', Same H H' → H' p = some (.tup [.str z, .int age, .ref pc]) → H' pc = some (.tup ((codeI t ks z c d).map V.int)) → Q (.ref p) H'
def spRead (K : PySem.W.Frag) : Sp := fun vs H Q _ => ∃ (a b pr pc : Addr) (z : Str) (age : Int) (t ks ds : List Int), vs = [.ref a, .ref b, .ref pr] ∧ Sq K H a (t.map V.int) ∧ Sq K H b (ks.map V.int) ∧ Sq K H pr [.str z, .int age, .ref pc] ∧ Sq K H pc (ds.map V.int) ∧ isNm z ∧ t.Perm digs ∧ ds.length = 5 ∧ digR ds ∧
  ∀ x H', Same H H' → Told H' x (readK t ks z ds) → Q x H'
/-- a law's own reading -/
def spLawRead (K : PySem.W.Frag) (ok : Option (Int × Int) → V → Hp → Prop) : Sp := fun vs H Q _ => ∃ (a b pr pc : Addr) (o : Obj) (z : Str) (age : Int) (t ks ds : List Int), vs = [.ref a, .ref b, .ref pr] ∧ H a = some (.frz o (.tup (t.map V.int))) ∧ o.dict = none ∧ Sq K H b (ks.map V.int) ∧ H pr = some (.tup [.str z, .int age, .ref pc]) ∧ H pc = some (.tup (ds.map V.int)) ∧ isNm z ∧ t.Perm digs ∧ ds.length = 5 ∧ digR ds ∧
  ∀ x H', Same H H' → ok (readK t ks z ds) x H' → Q x H'
def spCount : Sp := fun vs H Q _ => ∃ (b : Addr), vs = [.ref b] ∧ Box H b ∧ ∀ c H', Gr b H H' → 0 ≤ c → c < 4096 → Q (.int c) H'
theorem idx_back {t : List Int} (p : t.Perm digs) {z : Int} (h : dig z) : ((t.idxOf z : Nat) : Int) = (backL t).getD z.toNat 0 ∧ z ∈ t := by
  have hz : z.toNat < 16 := by have := h.1; have := h.2; omega
  have hb : z.toNat < (backL t).length := by rw [backL_len]; exact hz
  have e : ((z.toNat : Nat) : Int) = z := by have := h.1; omega
  refine ⟨?_, ?_⟩
  · rw [List.getD_eq_getElem?_getD, List.getElem?_eq_getElem hb, Option.getD_some, back_at p hz, e]
  · have := tab_mem p hz
    rwa [e] at this
theorem qs_par {X : Cx} {pos : Pos} {i j : Nat} {x y : Str} {a b : Expr} {ta : TA} {px py pt : Pos} {kt k2 pt2} (hc : X.calm = true) (hN : X.N.Nodup) (hi : X.N[i]? = some x) (hj : X.N[j]? = some y) (hij : i ≠ j)
    (hx : X.env.scope.names.lookup x = some .local) (hy : X.env.scope.names.lookup y = some .local) (ha : QA X [a, b] ta)
    (hw : swappedStores [.Tuple [.Name x px, .Name y py] kt pt] (.Tuple [a, b] k2 pt2) X.env = pure (some [x, y]) := by rfl)
    (hs : swapsWithSole [.Tuple [.Name x px, .Name y py] kt pt] (.Tuple [a, b] k2 pt2) pos.line X.env = pure false := by rfl) :
    QS X (.Assign [.Tuple [.Name x px, .Name y py] kt pt] (.Tuple [a, b] k2 pt2) pos) (tPar i j ta) := ⟨ps_par hc hN hi hj hij hx hy ha.h hw hs⟩
end L3

namespace L3
open PySem PySem.Spec PyProof.Rows L2
/-! ### instances: an attribute read, an attribute written, a method, an instance made -/
def HasF (K : PySem.W.Frag) (H : Hp) (a : Addr) (f : Str) (v : V) : Prop := ∃ C dx fs, H a = some (.ins C dx fs) ∧ Cls K C ∧ NoAttr K C f ∧ fs.lookup f = some v
def PutF (K : PySem.W.Frag) (H : Hp) (a : Addr) (f : Str) (v : V) (H' : Hp) : Prop := ∃ C dx fs, H a = some (.ins C dx fs) ∧ Cls K C ∧ NoAttr K C f ∧ fs.length < 1000 ∧ H' = upd H a (.ins C dx (putF f v fs))
def NoF (C : Addr) (H : Hp) (a : Addr) (m : Str) : Prop := ∃ dx fs, H a = some (.ins C dx fs) ∧ fs.lookup m = none
def tFldA (K : PySem.W.Frag) (ta : TE) (f : Str) : TE := fun σ H Q => ta σ H fun x H1 => ∃ a v, x = .ref a ∧ HasF K H1 a f v ∧ Q v H1
def sFldA (K : PySem.W.Frag) (ta tv : TE) (f : Str) : TS := fun D σ H => tv σ H fun y H1 => ta σ H1 fun x H2 => ∃ a H3, x = .ref a ∧ PutF K H2 a f y H3 ∧ D.nx σ H3
def sFldAugA (K : PySem.W.Frag) (ta tv : TE) (rd : V → V → Hp → VK → Prop) (f : Str) : TS := fun D σ H => ta σ H fun x H1 => ∃ a v, x = .ref a ∧ HasF K H1 a f v ∧
  tv σ H1 fun y H2 => rd v y H2 fun z H3 => (∀ o, H1 a = some o → H3 a = some o) ∧ ∃ H4, PutF K H3 a f z H4 ∧ D.nx σ H4
def tMethA (C : Addr) (m : Str) (sp : Sp) (ta : TE) (t : TA) : TE := fun σ H Q => ta σ H fun x H1 => ∃ a, x = .ref a ∧ NoF C H1 a m ∧ t σ H1 fun vs H2 => sp (x :: (vs ++ [])) H2 Q E0
section
variable {X : Cx} {o e value : Expr} {f : Str} {pos pos' tpos : Pos} {ta tv : TE}
theorem qe_fld (he : QE X e ta) (hb : attributeBase e f X.env (eval e X.env) = eval e X.env := by rfl) : QE X (.Attribute e f pos) (tFldA X.K ta f) := ⟨by
  intro pins s σ H Q I h
  refine attr_of hb (thn (he.h pins s σ H _ I h) fun u s1 ⟨x, H1, I1, rx, a, v, ex, ⟨C, dx, fs, ea, c, n, l⟩, q⟩ => ?_)
  subst ex
  obtain rfl : u = Value.ref a := rx
  exact getattr_ok I1 ea c n l fun u' s2 I2 ru => ⟨v, H1, I2, ru, q⟩⟩
theorem qs_fld (ha : QE X o ta) (hv : QE X value tv) (hs : swapsWith value (some (.Attribute o f pos')) pos.line X.env = pure false := by rfl) : QS X (.Assign [.Attribute o f pos'] value pos) (sFldA X.K ta tv f) := ⟨by
  intro pins s σ H D I h
  refine plainObj_wpAny_Assign_Attribute (thn (hv.h pins s σ H _ I h) fun u s1 ⟨y, H1, I1, ry, q⟩ => thn (ha.h pins s1 σ H1 _ I1 q) fun ov s2 ⟨x, H2, I2, rx, a, H3, ex, ⟨C, dx, fs, ea, c, n, l, e3⟩, q2⟩ => ?_) hs
  subst ex e3
  obtain rfl : ov = Value.ref a := rx
  exact setattr_ok I2 ea c n l ry fun s3 I3 => ⟨σ, _, I3, q2⟩⟩
theorem qs_fldaug {op : Operator} {rd : V → V → Hp → VK → Prop} (hop : InOp X op rd) (ha : QE X o ta) (hv : QE X value tv) : QS X (.AugAssign (.Attribute o f tpos) op value pos) (sFldAugA X.K ta tv rd f) := ⟨by
  intro pins s σ H D I h
  refine wpAny_AugAssign_AttributeAny (thn (ha.h pins s σ H _ I h) fun ov s1 ⟨x, H1, I1, rx, a, v, ex, ⟨C, dx, fs, ea, c, n, l⟩, q⟩ => ?_)
  subst ex
  obtain rfl : ov = Value.ref a := rx
  refine getattr_ok I1 ea c n l fun u s2 I2 ru => thn (hv.h pins s2 σ H1 _ I2 q) fun w3 s3 ⟨y, H2, I3, ry, q3⟩ => thn (hop pins s3 σ H2 v y u w3 _ I3 ru ry q3) fun w4 s4 ⟨z, H3, I4, rz, _, H4, ⟨C', dx', fs', ea', c', n', l', e4⟩, q4⟩ => ?_
  subst e4
  exact setattr_ok I4 ea' c' n' l' rz fun s5 I5 => ⟨σ, _, I5, q4⟩⟩
end
/-- a method of the class at C, by its promise -/
structure Mf (P : Program) (w : World) (K : PySem.W.Frag) (mg : Str → Option Value) (base : Heap) (C : Addr) (m : Str) (ps : List Str) (k : Nat) (sp : Sp) : Prop where
  ex : ∃ (f : Addr) (fd : FuncData), FnOk P w K mg base CX0 k f fd ps sp ∧ Meth K C m f ∧ Binds K fd ps []
/-- a method of the text as it stands behind the top -/
structure AtM (K : PySem.W.Frag) (C : Addr) (m qual : Str) (st : Stmt) (ps : List Str) : Prop where
  ex : ∃ (f : Addr) (fd : FuncData), Fun K m qual st f fd ∧ Meth K C m f ∧ Binds K fd ps []
/-- the class is made by its __init__ -/
structure Mi (P : Program) (w : World) (K : PySem.W.Frag) (mg : Str → Option Value) (base : Heap) (C : Addr) (x : Str) (ps : List Str) (k : Nat) (sp : Sp) : Prop where
  ex : ∃ (f : Addr) (fd : FuncData), FnOk P w K mg base CX0 k f fd ps sp ∧ Mk K C f ∧ mg x = some (.ref C) ∧ Binds K fd ps []
section
variable {P : Program} {w : World} {K : PySem.W.Frag} {mg : Str → Option Value} {base : Heap} {C : Addr}
theorem AtM.mq {m qual : Str} {st : Stmt} {ps N : List Str} {k : Nat} {sp : Sp} (a : AtM K C m qual st ps) (S : FnScope N ps (defScope st)) (len : ∀ vs H Q E, sp vs H Q E → vs.length = ps.length)
    (hbody : ∀ (f : Addr) (cdv : Value) (A : Around) (outer : List Env) (s : Shared) (H : Hp) (vs : List V) (Q : VK) (E : XK), Room k (A.deeper (envOfC qual (defScope st) s.heap.objs.size f cdv)) → sp vs H Q E →
      ∃ t, QSs (cxOf CX0 P w K mg base N qual (defScope st) f cdv A outer s H E).nox (defBody st) t ∧ t { nx := fun _ H' => Q .non H', rt := Q } (start N vs) H) : Mf P w K mg base C m ps (k + 1) sp := by
  obtain ⟨f, fd, F, m, bd⟩ := a.ex
  exact ⟨f, fd, F.ok S len (fun cdv A outer s H vs Q E hr h => let ⟨t, q1, q2⟩ := hbody f cdv A outer s H vs Q E hr h; ⟨t, q1.h, q2⟩), m, bd⟩
theorem Mf.mono {m : Str} {ps : List Str} {j k : Nat} {sp : Sp} (a : Mf P w K mg base C m ps j sp) (h : j ≤ k) : Mf P w K mg base C m ps k sp := let ⟨f, fd, F, m, bd⟩ := a.ex; ⟨f, fd, F.mono h, m, bd⟩
theorem Mf.mi {x : Str} {ps : List Str} {k : Nat} {sp : Sp} (a : Mf P w K mg base C "__init__" ps k sp) (mk : PySem.W.makesIn K C = true) (kc : PySem.W.keepIn K (.ref C) = true) (hx : mg x = some (.ref C)) : Mi P w K mg base C x ps k sp :=
  let ⟨f, fd, F, m, bd⟩ := a.ex; ⟨f, fd, F, ⟨mk, m.at_, m.fn, kc⟩, hx, bd⟩
end
section
variable {X : Cx} {C : Addr} {x m : Str} {ps : List Str} {k : Nat} {sp : Sp} {o e : Expr} {es : List Expr} {p pos apos : Pos} {ta : TE} {t : TA}
theorem qe_meth {pl : Sem Bool} (M : Mf X.prog X.w X.K X.mg X.base C m ps k sp) (c : Cls X.K C) (hr : Room k X.A) (he : QE X o ta) (ha : QA X (e :: es) t)
    (hst : starEach (e :: es) X.env = (false, eval e X.env) :: starEach es X.env := by rfl) (hpl : (backTo pos (starEach es X.env)).any (·.1) = false := by rfl)
    (ht : eval (.Call (.Attribute o m apos) (e :: es) [] pos) X.env = (do
      let ov ← eval o X.env
      standAt apos.atName
      let (f, first) ← holding [ov] (getMethod ov m pl)
      callWith pos f first (backTo pos (starEach (e :: es) X.env)) (backToKw pos (keywordEach [] X.env))) := by rfl) :
    QE X (.Call (.Attribute o m apos) (e :: es) [] pos) (tMethA C m sp ta t) := ⟨by
  obtain ⟨f, fd, F, hm, hb⟩ := M.ex
  intro pins s σ H Q I h
  refine PySem.W.methodCall_KW (pl := pl) (thn (he.h pins s σ H _ I h) fun u s1 ⟨x, H1, I1, rx, a, ex, ⟨dx, fs, ea, l⟩, q⟩ => ?_) ht
  subst ex
  obtain rfl : u = Value.ref a := rx
  refine getmeth_ok I1 ea c hm l ?_
  refine PySem.W.callWith_K (first := [.ref a]) (h₀ := X.base) I.ok.mod.kin hm.kp (thn (ha.h pos pins s1 σ H1 _ I1 q) fun us s2 ⟨vs, H2, I2, r, q2⟩ => ⟨I2.kIn, ?_⟩) hst hpl
  exact run_fn (us := .ref a :: us) (vs := .ref a :: vs) F hr hb .nil pass0 I2 (.cons rfl r) q2⟩
theorem qe_meth0 {pl : Sem Bool} (M : Mf X.prog X.w X.K X.mg X.base C m ps k sp) (c : Cls X.K C) (hr : Room k X.A) (he : QE X o ta)
    (ht : eval (.Call (.Attribute o m apos) [] [] pos) X.env = (do
      let ov ← eval o X.env
      standAt apos.atName
      let (f, first) ← holding [ov] (getMethod ov m pl)
      callWith pos f first (backTo pos (starEach [] X.env)) (backToKw pos (keywordEach [] X.env))) := by rfl) :
    QE X (.Call (.Attribute o m apos) [] [] pos) (tMethA C m sp ta tNil) := ⟨by
  obtain ⟨f, fd, F, hm, hb⟩ := M.ex
  intro pins s σ H Q I h
  refine PySem.W.methodCall_KW (pl := pl) (thn (he.h pins s σ H _ I h) fun u s1 ⟨x, H1, I1, rx, a, ex, ⟨dx, fs, ea, l⟩, q⟩ => ?_) ht
  subst ex
  obtain rfl : u = Value.ref a := rx
  refine getmeth_ok I1 ea c hm l ?_
  exact PySem.W.callWith_K0 (first := [.ref a]) I1.kIn hm.kp (run_fn (us := [.ref a]) (vs := [.ref a]) F hr hb .nil pass0 I1 (.cons rfl .nil) q)⟩
theorem qe_make (M : Mi X.prog X.w X.K X.mg X.base C x ps k sp) (hr : Room (k + 1) X.A) (ha : QA X (e :: es) t) (hg : Gl X x := by rfl) (hdb : (x == ("__debug__" : Str)) = false := by decide)
    (he : starEach (e :: es) X.env = (false, eval e X.env) :: starEach es X.env := by rfl) (hpl : (backTo pos (starEach es X.env)).any (·.1) = false := by rfl) :
    QE X (.Call (.Name x p) (e :: es) [] pos) (tMake C sp [] E0 t) := ⟨by
  obtain ⟨f, fd, F, mk, hx, hb⟩ := M.ex
  exact pe_make mk F hr hg hx hb .nil pass0 ha.h hdb he hpl⟩
end
/-! ### methods of lists -/
section
variable {X : Cx} {o e : Expr} {es : List Expr} {to : TE} {t : TA} {name : Str} {apos cpos : Pos} {T id : String} {r : V → List V → Hp → VK → Prop} {K : PySem.W.Frag}
theorem qe_bmK (hK : X.K = K) (pa : PlainAttrs T) (slot : Slot T name id) (hty : typeOf (.builtin id) = pure (.type "method_descriptor")) (hm : MtR X id r) (ho : QE X o to) (ha : QA X (e :: es) t)
    (hbase : attributeBase o name X.env (eval o X.env) = eval o X.env := by rfl)
    (hfew : ((backTo cpos (starEach (e :: es) X.env)).all (fun x => !x.1) && (backToKw cpos (keywordEach [] X.env)).all (fun x => x.1.isSome)
      && decide ((e :: es).length + ([] : List Keyword).length + (if ([] : List Keyword).isEmpty then 0 else 1) < 30)) = true := by rfl)
    (hline : (apos.endLine == cpos.line) = true := by rfl) (hs : starEach (e :: es) X.env = (false, eval e X.env) :: starEach es X.env := by rfl) (hplain : (backTo cpos (starEach es X.env)).any (·.1) = false := by rfl) :
    QE X (.Call (.Attribute o name apos) (e :: es) [] cpos) (tBM K T r to t) := by
  subst hK
  exact qe_bm pa slot hty hm ho ha hbase hfew hline hs hplain
theorem qe_bm0 (pa : PlainAttrs T) (slot : Slot T name id) (hty : typeOf (.builtin id) = pure (.type "method_descriptor")) (hm : MtR X id r) (ho : QE X o to)
    (hbase : attributeBase o name X.env (eval o X.env) = eval o X.env := by rfl) (hline : (apos.endLine == cpos.line) = true := by rfl) : QE X (.Call (.Attribute o name apos) [] [] cpos) (tBM0 X.K T r to) := ⟨pe_bm0 pa slot hty hm ho.h hbase hline⟩
theorem mr_popAt : MtR X "list.pop" rPopAt := mt_popAt
theorem mr_reverse : MtR X "list.reverse" rReverse := mt_reverse
end
/-! ### attributes by their places -/
theorem lookup_at {f : Str} {v : V} : ∀ {fs : List (Str × V)} (i : Nat), fs[i]? = some (f, v) → (fs.map (·.1)).Nodup → fs.lookup f = some v
  | [], i, h, _ => by cases h
  | (g, x) :: r, 0, h, _ => by
    cases Option.some.inj h
    exact List.lookup_cons_self
  | (g, x) :: r, i + 1, h, nd => by
    have h' : r[i]? = some (f, v) := h
    have nd' : g ∉ r.map (·.1) ∧ (r.map (·.1)).Nodup := List.nodup_cons.mp nd
    have hm : f ∈ r.map (·.1) := List.mem_map.mpr ⟨(f, v), List.mem_of_getElem? h', rfl⟩
    have ne : f ≠ g := fun z => nd'.1 (z ▸ hm)
    rw [List.lookup_cons, beq_false_of_ne ne]
    exact lookup_at i h' nd'.2
theorem lookup_no {f : Str} : ∀ {fs : List (Str × V)}, f ∉ fs.map (·.1) → fs.lookup f = none
  | [], _ => rfl
  | (g, x) :: r, h => by
    have ne : f ≠ g := fun z => h (z ▸ List.mem_cons_self ..)
    rw [List.lookup_cons, beq_false_of_ne ne]
    exact lookup_no fun z => h (List.mem_cons_of_mem _ z)
theorem putF_at {f : Str} {v u : V} : ∀ {fs : List (Str × V)} (i : Nat), fs[i]? = some (f, u) → (fs.map (·.1)).Nodup → putF f v fs = fs.set i (f, v)
  | [], i, h, _ => by cases h
  | (g, x) :: r, 0, h, _ => by
    cases Option.some.inj h
    show (if f = f then _ else _) = _
    rw [if_pos rfl]; rfl
  | (g, x) :: r, i + 1, h, nd => by
    have h' : r[i]? = some (f, u) := h
    have nd' : g ∉ r.map (·.1) ∧ (r.map (·.1)).Nodup := List.nodup_cons.mp nd
    have hm : f ∈ r.map (·.1) := List.mem_map.mpr ⟨(f, u), List.mem_of_getElem? h', rfl⟩
    have ne : ¬ g = f := fun z => nd'.1 (z ▸ hm)
    show (if g = f then _ else (g, x) :: putF f v r) = _
    rw [if_neg ne, putF_at i h' nd'.2]; rfl
theorem putF_new {f : Str} {v : V} : ∀ {fs : List (Str × V)}, f ∉ fs.map (·.1) → putF f v fs = fs ++ [(f, v)]
  | [], _ => rfl
  | (g, x) :: r, h => by
    have ne : ¬ g = f := fun z => h (z ▸ List.mem_cons_self ..)
    show (if g = f then _ else (g, x) :: putF f v r) = _
    rw [if_neg ne, putF_new fun z => h (List.mem_cons_of_mem _ z)]; rfl
/-! ### what may change -/
def Mv (S : List Addr) (H H' : Hp) : Prop := ∀ c o, c ∉ S → H c = some o → H' c = some o
theorem Mv.refl {S : List Addr} {H : Hp} : Mv S H H := fun _ _ _ e => e
theorem Mv.trans {S : List Addr} {H H1 H2 : Hp} (a : Mv S H H1) (b : Mv S H1 H2) : Mv S H H2 := fun c o n e => b c o n (a c o n e)
theorem Mv.mono {S S' : List Addr} {H H' : Hp} (a : Mv S H H') (h : ∀ c, c ∉ S' → c ∉ S) : Mv S' H H' := fun c o n e => a c o (h c n) e
theorem _root_.L2.Same.mv {S : List Addr} {H H' : Hp} (a : Same H H') : Mv S H H' := fun c o _ e => a c o e
theorem Mv.upd1 {a : Addr} {H : Hp} {o : HO} : Mv [a] H (upd H a o) := fun c u n e => by
  rw [upd_ne (fun z => n (List.mem_singleton.mpr z))]; exact e
theorem GrC.mv {b : Addr} {n : Nat} {H H' : Hp} (g : GrC b n H H') : Mv [b] H H' := fun c o h e => g.kp c o (fun z => h (List.mem_singleton.mpr z)) e
/-- no tuple stands there -/
def noTup : HO → Prop
  | .tup _ => False
  | .frz _ _ => False
  | _ => True
def NT (S : List Addr) (H : Hp) : Prop := ∀ c, c ∈ S → ∃ o, H c = some o ∧ noTup o
theorem Mv.rd {S : List Addr} {H H' : Hp} {a : Addr} {xs : List V} (m : Mv S H H') (n : NT S H) (h : Rd H a (.tup xs)) : Rd H' a (.tup xs) := by
  have hn : a ∉ S := fun z => by
    obtain ⟨o, e, no⟩ := n a z
    rcases h with h | ⟨o', h⟩
    · rw [e] at h; cases h; exact no
    · rw [e] at h; cases h; exact no
  rcases h with h | ⟨o', h⟩
  · exact .inl (m _ _ hn h)
  · exact .inr ⟨o', m _ _ hn h⟩
theorem Mv.sqt {K : PySem.W.Frag} {S : List Addr} {H H' : Hp} {a : Addr} {xs : List V} (m : Mv S H H') (n : NT S H) (h : SqT K H a xs) : SqT K H' a xs := by
  rcases h with h | h
  · exact .inl (m.rd n h)
  · exact .inr h
end L3

namespace L3
open PySem PySem.Spec PyProof.Rows L2
/-! ### buttons -/
structure Bt where
  nm : Str
  t : List Int
  ks : List Int
  age : Int
  step : Int
  cnt : Int
  bnd : Int
  x : Option Int
  y : Option Int
def oV : Option Int → V
  | none => .non
  | some i => .int i
theorem oV_inj {a b : Option Int} (h : oV a = oV b) : a = b := by
  cases a <;> cases b <;> simp [oV] at h ⊢ <;> exact h
theorem oV_scal (a : Option Int) (i : Int) : scal (oV a) (.int i) = true := by cases a <;> rfl
theorem oV_dec (a : Option Int) (i : Int) : decide (oV a = .int i) = decide (a = some i) := by
  rw [Bool.eq_iff_iff, decide_eq_true_iff, decide_eq_true_iff]
  constructor
  · intro h; exact oV_inj (b := some i) h
  · intro h; rw [h]; rfl
def bF (B : Bt) (ta ka ce : Addr) : List (Str × V) :=
  [("name", .str B.nm), ("table", .ref ta), ("key", .ref ka), ("age", .int B.age), ("step", .int B.step), ("next_count", .int B.cnt), ("bound", .int B.bnd), ("cells", .ref ce)]
def bN : List Str := ["name", "table", "key", "age", "step", "next_count", "bound", "cells"]
theorem bN_nd : bN.Nodup := by decide +kernel
theorem bF_keys (B : Bt) (ta ka ce : Addr) : (bF B ta ka ce).map (·.1) = bN := rfl
theorem bF_nd (B : Bt) (ta ka ce : Addr) : ((bF B ta ka ce).map (·.1)).Nodup := bN_nd
/-- what the class Button has of the text -/
structure BCx (K : PySem.W.Frag) (C : Addr) : Prop where
  cl : Cls K C
  n_name : NoAttr K C "name"
  n_table : NoAttr K C "table"
  n_key : NoAttr K C "key"
  n_age : NoAttr K C "age"
  n_step : NoAttr K C "step"
  n_next_count : NoAttr K C "next_count"
  n_bound : NoAttr K C "bound"
  n_cells : NoAttr K C "cells"
structure BtnAt (K : PySem.W.Frag) (C : Addr) (H : Hp) (p ta ka ce : Addr) (B : Bt) : Prop where
  ob : ∃ dx, H p = some (.ins C dx (bF B ta ka ce))
  tb : SqT K H ta (B.t.map V.int)
  ky : SqT K H ka (B.ks.map V.int)
  cs : H ce = some (.lst [oV B.x, oV B.y])
section
variable {K : PySem.W.Frag} {C : Addr} {H H' : Hp} {p ta ka ce dx : Addr} {B : Bt}
theorem BtnAt.has (b : BtnAt K C H p ta ka ce B) (U : BCx K C) (i : Nat) {f : Str} {v : V} (h : (bF B ta ka ce)[i]? = some (f, v)) (n : NoAttr K C f) : HasF K H p f v := by
  obtain ⟨dx, e⟩ := b.ob
  exact ⟨C, dx, _, e, U.cl, n, lookup_at i h (bF_nd ..)⟩
theorem BtnAt.h_name (b : BtnAt K C H p ta ka ce B) (U : BCx K C) : HasF K H p "name" (.str B.nm) := b.has U 0 rfl U.n_name
theorem BtnAt.h_table (b : BtnAt K C H p ta ka ce B) (U : BCx K C) : HasF K H p "table" (.ref ta) := b.has U 1 rfl U.n_table
theorem BtnAt.h_key (b : BtnAt K C H p ta ka ce B) (U : BCx K C) : HasF K H p "key" (.ref ka) := b.has U 2 rfl U.n_key
theorem BtnAt.h_age (b : BtnAt K C H p ta ka ce B) (U : BCx K C) : HasF K H p "age" (.int B.age) := b.has U 3 rfl U.n_age
theorem BtnAt.h_step (b : BtnAt K C H p ta ka ce B) (U : BCx K C) : HasF K H p "step" (.int B.step) := b.has U 4 rfl U.n_step
theorem BtnAt.h_next_count (b : BtnAt K C H p ta ka ce B) (U : BCx K C) : HasF K H p "next_count" (.int B.cnt) := b.has U 5 rfl U.n_next_count
theorem BtnAt.h_bound (b : BtnAt K C H p ta ka ce B) (U : BCx K C) : HasF K H p "bound" (.int B.bnd) := b.has U 6 rfl U.n_bound
theorem BtnAt.h_cells (b : BtnAt K C H p ta ka ce B) (U : BCx K C) : HasF K H p "cells" (.ref ce) := b.has U 7 rfl U.n_cells
theorem BtnAt.no (b : BtnAt K C H p ta ka ce B) {m : Str} (h : m ∉ bN := by decide +kernel) : NoF C H p m := by
  obtain ⟨dx, e⟩ := b.ob
  exact ⟨dx, _, e, lookup_no h⟩
theorem BtnAt.ne (b : BtnAt K C H p ta ka ce B) : p ≠ ce := by
  obtain ⟨dx, e⟩ := b.ob
  exact ne_of e b.cs (by intro z; cases z)
theorem BtnAt.nt (b : BtnAt K C H p ta ka ce B) : NT [p, ce] H := fun c hc => by
  obtain ⟨dx, e⟩ := b.ob
  simp only [List.mem_cons, List.not_mem_nil, or_false] at hc
  rcases hc with rfl | rfl
  · exact ⟨_, e, trivial⟩
  · exact ⟨_, b.cs, trivial⟩
/-- an attribute is written: what stands at p then -/
theorem BtnAt.put (U : BCx K C) (e : H p = some (.ins C dx (bF B ta ka ce))) (i : Nat) {f : Str} {u : V} (v : V) (h : (bF B ta ka ce)[i]? = some (f, u)) (n : NoAttr K C f) :
    PutF K H p f v (upd H p (.ins C dx ((bF B ta ka ce).set i (f, v)))) := ⟨C, dx, _, e, U.cl, n, by show 8 < 1000; decide, by rw [putF_at i h (bF_nd ..)]⟩
/-- behind a change of p and of the cells alone -/
theorem BtnAt.to (b : BtnAt K C H p ta ka ce B) (m : Mv [p, ce] H H') {B' : Bt} (ht : B'.t = B.t) (hk : B'.ks = B.ks) (e : H' p = some (.ins C dx (bF B' ta ka ce))) (ec : H' ce = some (.lst [oV B'.x, oV B'.y])) : BtnAt K C H' p ta ka ce B' :=
  ⟨⟨dx, e⟩, by rw [ht]; exact m.sqt b.nt b.tb, by rw [hk]; exact m.sqt b.nt b.ky, ec⟩
theorem BtnAt.mv {S : List Addr} (b : BtnAt K C H p ta ka ce B) (m : Mv S H H') (n : NT S H) (hp : p ∉ S) (hc : ce ∉ S) : BtnAt K C H' p ta ka ce B := by
  obtain ⟨dx, e⟩ := b.ob
  exact ⟨⟨dx, m _ _ hp e⟩, m.sqt n b.tb, m.sqt n b.ky, m _ _ hc b.cs⟩
theorem BtnAt.same (b : BtnAt K C H p ta ka ce B) (s : Same H H') : BtnAt K C H' p ta ka ce B := b.mv (S := []) s.mv (fun c h => nomatch h) (fun h => nomatch h) (fun h => nomatch h)
end
def Bt.sp (B : Bt) : Int := if B.x = some B.bnd then 1 else 0
def Bt.nb (B : Bt) : Int := if 4096 < B.bnd + B.step then 4096 else B.bnd + B.step
def Bt.wr (B : Bt) : Bt := if B.x = some B.bnd then { B with bnd := B.nb, y := some B.nb } else { B with bnd := B.nb, x := some B.nb }
def Bt.mw (B : Bt) : Bool := decide (B.cnt = B.bnd) && !decide (4096 ≤ B.cnt)
def Bt.pr (B : Bt) : Bt := if B.mw then { B.wr with cnt := B.cnt + 1 } else { B with cnt := B.cnt + 1 }
theorem wr_nm (B : Bt) : B.wr.nm = B.nm := by unfold Bt.wr; split <;> rfl
theorem wr_t (B : Bt) : B.wr.t = B.t := by unfold Bt.wr; split <;> rfl
theorem wr_ks (B : Bt) : B.wr.ks = B.ks := by unfold Bt.wr; split <;> rfl
theorem wr_age (B : Bt) : B.wr.age = B.age := by unfold Bt.wr; split <;> rfl
theorem wr_step (B : Bt) : B.wr.step = B.step := by unfold Bt.wr; split <;> rfl
theorem wr_cnt (B : Bt) : B.wr.cnt = B.cnt := by unfold Bt.wr; split <;> rfl
theorem wr_bnd (B : Bt) : B.wr.bnd = B.nb := by unfold Bt.wr; split <;> rfl
theorem pr_nm (B : Bt) : B.pr.nm = B.nm := by unfold Bt.pr; split <;> first | exact wr_nm B | rfl
theorem pr_t (B : Bt) : B.pr.t = B.t := by unfold Bt.pr; split <;> first | exact wr_t B | rfl
theorem pr_ks (B : Bt) : B.pr.ks = B.ks := by unfold Bt.pr; split <;> first | exact wr_ks B | rfl
theorem pr_age (B : Bt) : B.pr.age = B.age := by unfold Bt.pr; split <;> first | exact wr_age B | rfl
theorem pr_step (B : Bt) : B.pr.step = B.step := by unfold Bt.pr; split <;> first | exact wr_step B | rfl
theorem pr_cnt (B : Bt) : B.pr.cnt = B.cnt + 1 := by unfold Bt.pr; split <;> rfl
section
variable (K : PySem.W.Frag) (C : Addr)
def spBInit : Sp := fun vs H Q _ => ∃ (p a b dx : Addr) (nm : Str) (age step : Int) (t ks : List Int), vs = [.ref p, .str nm, .ref a, .ref b, .int age, .int step] ∧ H p = some (.ins C dx []) ∧ Sq K H a (t.map V.int) ∧ Sq K H b (ks.map V.int) ∧
  ∀ ta ka ce H', H ce = none → Mv [p] H H' → BtnAt K C H' p ta ka ce ⟨nm, t, ks, age, step, 0, 0, some 0, none⟩ → Q .non H'
def spBWorn : Sp := fun vs H Q _ => ∃ (p ta ka ce : Addr) (B : Bt), vs = [.ref p] ∧ BtnAt K C H p ta ka ce B ∧ Q (.bl (decide (4096 ≤ B.cnt))) H
def spBMust : Sp := fun vs H Q _ => ∃ (p ta ka ce : Addr) (B : Bt), vs = [.ref p] ∧ BtnAt K C H p ta ka ce B ∧ Q (.bl B.mw) H
def spBSpare : Sp := fun vs H Q _ => ∃ (p ta ka ce : Addr) (B : Bt), vs = [.ref p] ∧ BtnAt K C H p ta ka ce B ∧ Q (.int B.sp) H
def spBWrite : Sp := fun vs H Q _ => ∃ (p ta ka ce : Addr) (B : Bt), vs = [.ref p] ∧ BtnAt K C H p ta ka ce B ∧ ∀ H', Mv [p, ce] H H' → BtnAt K C H' p ta ka ce B.wr → Q .non H'
def spBPress : Sp := fun vs H Q _ => ∃ (p ta ka ce : Addr) (B : Bt) (d : Int), vs = [.ref p, .int d] ∧ BtnAt K C H p ta ka ce B ∧ isNm B.nm ∧ B.t.length = 16 ∧ 0 ≤ B.cnt ∧ B.cnt < 4096 ∧ dig d ∧
  ∀ q pc H', Mv [p, ce] H H' → BtnAt K C H' p ta ka ce B.pr → H' q = some (.tup [.str B.nm, .int B.age, .ref pc]) → H' pc = some (.tup ((codeI B.t B.ks B.nm B.cnt d).map V.int)) → Q (.ref q) H'
def spBName : Sp := fun vs H Q _ => ∃ (p ta ka ce : Addr) (B : Bt), vs = [.ref p] ∧ BtnAt K C H p ta ka ce B ∧ Q (.str B.nm) H
def spBAge : Sp := fun vs H Q _ => ∃ (p ta ka ce : Addr) (B : Bt), vs = [.ref p] ∧ BtnAt K C H p ta ka ce B ∧ Q (.int B.age) H
def spBCount : Sp := fun vs H Q _ => ∃ (p ta ka ce : Addr) (B : Bt), vs = [.ref p] ∧ BtnAt K C H p ta ka ce B ∧ Q (.int B.cnt) H
def spBCells : Sp := fun vs H Q _ => ∃ (p ta ka ce : Addr) (B : Bt), vs = [.ref p] ∧ BtnAt K C H p ta ka ce B ∧ ∀ q H', Same H H' → H' q = some (.tup [oV B.x, oV B.y]) → Q (.ref q) H'
end
/-! ### the law's own things by the second box -/
def spTable2 : Sp := fun vs H Q _ => ∃ (b : Addr) (c : Nat), vs = [.ref b] ∧ BoxC H b c ∧ c < 100000000 ∧ ∀ p (t : List Int) H', GrC b (c + 16) H H' → H p = none → H' p = some (.tup (t.map V.int)) → t.Perm digs → Q (.ref p) H'
def spKeyT2 : Sp := fun vs H Q _ => ∃ (b : Addr) (c : Nat), vs = [.ref b] ∧ BoxC H b c ∧ c < 100000000 ∧ ∀ p (ks : List Int) H', GrC b (c + 9) H H' → H p = none → H' p = some (.tup (ks.map V.int)) → digR ks → 1 ≤ ks.length → ks.length ≤ 8 → Q (.ref p) H'
def spName2 : Sp := fun vs H Q _ => ∃ (b : Addr) (c : Nat), vs = [.ref b] ∧ BoxC H b c ∧ c < 100000000 ∧ ∀ z H', GrC b (c + 1) H H' → isNm z → Q (.str z) H'
theorem GrC.fresh {b c : Addr} {n : Nat} {H H' : Hp} (g : GrC b n H H') (hb : BoxC H b n) (h : H' c = Option.none) : H c = Option.none := by
  cases e : H c with
  | none => rfl
  | some o =>
    by_cases z : c = b
    · subst z
      obtain ⟨_, _, _, e', _⟩ := g.bx
      rw [e'] at h; cases h
    · rw [g.kp c o z e] at h; cases h
theorem put_new {K : PySem.W.Frag} {C p dx : Addr} {H : Hp} {fs : List (Str × V)} {f : Str} {v : V} (c : Cls K C) (e : H p = some (.ins C dx fs)) (n : NoAttr K C f) (i : Nat) (hns : fs.map (·.1) = bN.take i := by rfl) (hn : f ∉ bN.take i := by decide +kernel) :
    PutF K H p f v (upd H p (.ins C dx (fs ++ [(f, v)]))) := ⟨C, dx, fs, e, c, n, by
    have h1 : fs.length = (bN.take i).length := by rw [← hns, List.length_map]
    have h2 : (bN.take i).length ≤ 8 := by rw [List.length_take]; exact Nat.min_le_right _ _
    omega, by rw [putF_new (by rw [hns]; exact hn)]⟩
theorem sq_tuple {K : PySem.W.Frag} {H : Hp} {a : Addr} {xs : List V} {Q : VK} (h : Sq K H a xs) (q : ∀ l H', Same H H' → SqT K H' l xs → Q (.ref l) H') : (SqL K H a xs ∧ ∀ l, H l = none → Q (.ref l) (upd H l (.tup xs))) ∨ (SqT K H a xs ∧ Q (.ref a) H) :=
  h.elim (fun h => .inl ⟨h, fun l hl => q l _ (Same.upd hl) (SqT.of upd_same)⟩) fun h => .inr ⟨h, q a H (Same.refl _) h⟩
theorem sq_upd {K : PySem.W.Frag} {C p dx a : Addr} {H : Hp} {fs : List (Str × V)} {xs : List V} {o : HO} (e : H p = some (.ins C dx fs)) (h : Sq K H a xs) : Sq K (upd H p o) a xs := by
  rcases h with (h | h) | (h | h)
  · refine .inl (.inl ?_)
    rcases h with h | ⟨u, h⟩
    · exact .inl (by rw [upd_ne (ne_of h e (by intro z; cases z))]; exact h)
    · exact .inr ⟨u, by rw [upd_ne (ne_of h e (by intro z; cases z))]; exact h⟩
  · exact .inl (.inr h)
  · refine .inr (.inl ?_)
    rcases h with h | ⟨u, h⟩
    · exact .inl (by rw [upd_ne (ne_of h e (by intro z; cases z))]; exact h)
    · exact .inr ⟨u, by rw [upd_ne (ne_of h e (by intro z; cases z))]; exact h⟩
  · exact .inr (.inr h)
theorem sqt_upd {K : PySem.W.Frag} {C p dx a : Addr} {H : Hp} {fs : List (Str × V)} {xs : List V} {o : HO} (e : H p = some (.ins C dx fs)) (h : SqT K H a xs) : SqT K (upd H p o) a xs := by
  rcases h with (h | ⟨u, h⟩) | h
  · exact .inl (.inl (by rw [upd_ne (ne_of h e (by intro z; cases z))]; exact h))
  · exact .inl (.inr ⟨u, by rw [upd_ne (ne_of h e (by intro z; cases z))]; exact h⟩)
  · exact .inr h
theorem call_len_seqK {X : Cx} {K : PySem.W.Frag} (hK : X.K = K) : CallR X (.builtin "len") (fun xs H Q => ∃ p ys, xs = [.ref p] ∧ (SqL K H p ys ∨ SqT K H p ys) ∧ Q (.int (ys.length : Nat)) H) := by
  subst hK
  exact call_len_seq
theorem seqIndex_nat {k n : Nat} (h : k < n) : seqIndex? (k : Int) n = some k := by
  unfold seqIndex?
  simp
  omega
theorem perm_pop {ms zs : List Int} {k : Nat} (h : k < ms.length) : (zs ++ [ms[k]] ++ ms.eraseIdx k).Perm (zs ++ ms) := by
  rw [List.append_assoc]
  refine List.Perm.append_left zs ?_
  rw [List.eraseIdx_eq_take_drop_succ]
  have e : ms = ms.take k ++ ms[k] :: ms.drop (k + 1) := by rw [← List.drop_eq_getElem_cons h, List.take_append_drop]
  refine List.Perm.trans (List.perm_middle (a := ms[k]) (l₁ := ms.take k) (l₂ := ms.drop (k + 1))).symm ?_
  rw [← e]
theorem erase_ints (ms : List Int) (k : Nat) : (ms.map V.int).eraseIdx k = (ms.eraseIdx k).map V.int := by
  rw [List.eraseIdx_eq_take_drop_succ, List.eraseIdx_eq_take_drop_succ, List.map_append, List.map_take, List.map_drop]
theorem call_tupleQ {X : Cx} : CallR X (.type "tuple") (fun xs H Q => ∃ p ys, xs = [.ref p] ∧ Sq X.K H p ys ∧ ∀ l H', Same H H' → SqT X.K H' l ys → Q (.ref l) H') := by
  intro pins s σ H xs us Q I r h
  obtain ⟨p, ys, e, hs, q⟩ := h
  exact call_tuple_of pins s σ H xs us Q I r ⟨p, ys, e, sq_tuple hs q⟩
end L3

namespace L3
open PySem PySem.Spec PyProof.Rows L2
theorem Mv.fresh {S : List Addr} {H H1 : Hp} {x : Addr} {o : HO} (m : Mv S H H1) (h : H x = none) : Mv S H (upd H1 x o) := fun c u hc e => by
  rw [upd_ne (ne_of_none e h)]; exact m c u hc e
theorem Mv.mv1 {S : List Addr} {H H1 H2 : Hp} {x : Addr} (m : Mv S H H1) (h : H x = none) (n : Mv [x] H1 H2) : Mv S H H2 := fun c u hc e =>
  n c u (fun z => ne_of_none e h (List.mem_singleton.mp z)) (m c u hc e)
theorem Mv.free {b c : Addr} {H H' : Hp} {n : Nat} (m : Mv [b] H H') (hb : BoxC H' b n) (h : H' c = Option.none) : H c = Option.none := by
  cases e : H c with
  | none => rfl
  | some o =>
    by_cases z : c = b
    · subst z
      obtain ⟨_, _, _, e', _⟩ := hb
      rw [e'] at h; cases h
    · rw [m c o (fun y => z (List.mem_singleton.mp y)) e] at h; cases h
theorem lne_len {xs ys : List V} (h : xs.length ≠ ys.length) : HO.lst xs ≠ HO.lst ys := fun z => by injection z with z; exact h (by rw [z])
theorem lne_at {xs ys : List V} (i : Nat) {x y : V} (hx : xs[i]? = some x) (hy : ys[i]? = some y) (h : x ≠ y) : HO.lst xs ≠ HO.lst ys := fun z => by
  injection z with z
  rw [z, hy] at hx
  exact h (Option.some.inj hx).symm
theorem refs_ne {α : Type} {os : List α} {f : α → Addr} {ys : List V} (i : Nat) {y : V} (hy : ys[i]? = some y) (h : ∀ a, y ≠ .ref a) : HO.lst (os.map fun o => V.ref (f o)) ≠ HO.lst ys := fun z => by
  injection z with z
  have e := congrArg (fun l => l[i]?) z
  simp only [List.getElem?_map, hy] at e
  cases q : os[i]? with
  | none => rw [q] at e; cases e
  | some a => rw [q] at e; exact h _ (Option.some.inj e).symm
theorem oV_ne (a : Option Int) (p : Addr) : oV a ≠ .ref p := by cases a <;> intro z <;> cases z
/-! k09: a button, its row, its count -/
structure O where
  r : Addr
  p : Addr
  w : Addr
  rt : Addr
  rk : Addr
  ta : Addr
  ka : Addr
  ce : Addr
  B : Bt
structure One (K : PySem.W.Frag) (C : Addr) (H : Hp) (o : O) : Prop where
  bt : BtnAt K C H o.p o.ta o.ka o.ce o.B
  ro : H o.r = some (.lst [.ref o.p, .ref o.w, .int o.B.cnt])
  rw : H o.w = some (.lst [.str o.B.nm, .ref o.rt, .ref o.rk, .int o.B.age, .int o.B.step])
  tt : SqT K H o.rt (o.B.t.map V.int)
  tk : SqT K H o.rk (o.B.ks.map V.int)
  nm : isNm o.B.nm
  tl : o.B.t.length = 16
  c0 : 0 ≤ o.B.cnt
theorem One.mv {K : PySem.W.Frag} {C : Addr} {H H' : Hp} {o : O} {S : List Addr} (h : One K C H o) (m : Mv S H H') (n : NT S H) (hp : o.p ∉ S) (hc : o.ce ∉ S) (hr : o.r ∉ S) (hw : o.w ∉ S) : One K C H' o :=
  ⟨h.bt.mv m n hp hc, m _ _ hr h.ro, m _ _ hw h.rw, m.sqt n h.tt, m.sqt n h.tk, h.nm, h.tl, h.c0⟩
structure Wd (K : PySem.W.Frag) (C : Addr) (H : Hp) (b L : Addr) (n : Nat) (os : List O) : Prop where
  bx : BoxC H b n
  ls : H L = some (.lst (os.map fun o => V.ref o.r))
  on : ∀ (i : Nat) (o : O), os[i]? = some o → One K C H o
  dp : ∀ (i j : Nat) (a c : O), os[i]? = some a → os[j]? = some c → i ≠ j → a.p ≠ c.p ∧ a.ce ≠ c.ce
section
variable {K : PySem.W.Frag} {C : Addr} {H H' : Hp} {b L : Addr} {n n' : Nat} {os : List O}
theorem nin1 {a x : Addr} (h : a ≠ x) : a ∉ [x] := fun z => h (List.mem_singleton.mp z)
theorem One.nb {o : O} (h : One K C H o) (hb : BoxC H b n) : o.p ≠ b ∧ o.ce ≠ b ∧ o.r ≠ b ∧ o.w ≠ b := by
  obtain ⟨_, _, _, e, _⟩ := hb
  obtain ⟨dx, ep⟩ := h.bt.ob
  exact ⟨ne_of ep e (by intro z; cases z), ne_of h.bt.cs e (lne_len (by show 2 ≠ 3; decide)), ne_of h.ro e (lne_at 0 rfl rfl (by intro z; cases z)), ne_of h.rw e (lne_len (by show 5 ≠ 3; decide))⟩
theorem boxc_nt (hb : BoxC H b n) : NT [b] H := fun c hc => by
  obtain ⟨_, _, _, e, _⟩ := hb
  rw [List.mem_singleton.mp hc]
  exact ⟨_, e, trivial⟩
theorem Wd.nL (h : Wd K C H b L n os) : L ≠ b := by
  obtain ⟨_, _, _, e, _⟩ := h.bx
  refine ne_of h.ls e ?_
  intro z
  cases os with
  | nil => cases z
  | cons a l => cases z
/-- the box alone changes, or new things are laid -/
theorem Wd.box (h : Wd K C H b L n os) (m : Mv [b] H H') (hb : BoxC H' b n') : Wd K C H' b L n' os :=
  ⟨hb, m _ _ (nin1 h.nL) h.ls, fun i o e => by
    have z := h.on i o e
    obtain ⟨h1, h2, h3, h4⟩ := z.nb h.bx
    exact z.mv m (boxc_nt h.bx) (nin1 h1) (nin1 h2) (nin1 h3) (nin1 h4), h.dp⟩
theorem Wd.grc (h : Wd K C H b L n os) (g : GrC b n' H H') : Wd K C H' b L n' os := h.box g.mv g.bx
theorem Wd.same (h : Wd K C H b L n os) (g : Same H H') : Wd K C H' b L n os := h.box g.mv (g.grc h.bx).bx
/-- a button more -/
theorem Wd.add (h : Wd K C H b L n os) {o : O} (ho : One K C H o) (hd : ∀ (i : Nat) (a : O), os[i]? = some a → a.p ≠ o.p ∧ a.ce ≠ o.ce) : Wd K C (upd H L (.lst ((os.map fun o => V.ref o.r) ++ [.ref o.r]))) b L n (os ++ [o]) := by
  have key : ∀ a : O, One K C H a → One K C (upd H L (.lst ((os.map fun o => V.ref o.r) ++ [.ref o.r]))) a := fun a z => by
    obtain ⟨dx, ep⟩ := z.bt.ob
    refine z.mv Mv.upd1 (fun c hc => ⟨.lst (os.map fun o => V.ref o.r), ?_, trivial⟩) (nin1 (ne_of ep h.ls (by intro y; cases y))) (nin1 (ne_of h.ls z.bt.cs (refs_ne 0 rfl (oV_ne _))).symm) (nin1 (ne_of h.ls z.ro (refs_ne 2 rfl (by intro a y; cases y))).symm) (nin1 (ne_of h.ls z.rw (refs_ne 0 rfl (by intro a y; cases y))).symm)
    rw [List.mem_singleton.mp hc]
    exact h.ls
  refine ⟨?_, by rw [upd_same, List.map_append]; rfl, fun i a e => ?_, fun i j a c e1 e2 ne => ?_⟩
  · obtain ⟨n1, n2, n3, e, r⟩ := h.bx
    exact ⟨n1, n2, n3, by rw [upd_ne h.nL.symm]; exact e, r⟩
  · rw [List.getElem?_append] at e
    split at e
    · exact key a (h.on i a e)
    · cases hi : i - os.length with
      | zero => rw [hi] at e; cases e; exact key o ho
      | succ k => rw [hi] at e; cases e
  · rw [List.getElem?_append] at e1 e2
    split at e1 <;> split at e2
    · exact h.dp i j a c e1 e2 ne
    · cases hj : j - os.length with
      | zero => rw [hj] at e2; cases e2; exact hd i a e1
      | succ k => rw [hj] at e2; cases e2
    · cases hi : i - os.length with
      | zero => rw [hi] at e1; cases e1; exact ⟨(hd j c e2).1.symm, (hd j c e2).2.symm⟩
      | succ k => rw [hi] at e1; cases e1
    · exfalso
      have h1 : i - os.length = 0 := by
        cases hi : i - os.length with
        | zero => rfl
        | succ k => rw [hi] at e1; cases e1
      have h2 : j - os.length = 0 := by
        cases hj : j - os.length with
        | zero => rfl
        | succ k => rw [hj] at e2; cases e2
      omega
/-- one of the buttons goes on -/
theorem Wd.step (h : Wd K C H b L n os) {x : Nat} {o : O} (hx : os[x]? = some o) {B' : Bt} (m : Mv [b, o.p, o.ce, o.r] H H') (hb : BoxC H' b n') (ho : One K C H' { o with B := B' }) : Wd K C H' b L n' (os.set x { o with B := B' }) := by
  have hxl : x < os.length := (List.getElem?_eq_some_iff.mp hx).1
  have zo := h.on x o hx
  obtain ⟨dx, ep⟩ := zo.bt.ob
  obtain ⟨b1, b2, b3, eb, _⟩ := h.bx
  have nt : NT [b, o.p, o.ce, o.r] H := fun c hc => by
    simp only [List.mem_cons, List.not_mem_nil, or_false] at hc
    rcases hc with rfl | rfl | rfl | rfl
    · exact ⟨_, eb, trivial⟩
    · exact ⟨_, ep, trivial⟩
    · exact ⟨_, zo.bt.cs, trivial⟩
    · exact ⟨_, zo.ro, trivial⟩
  have nin : ∀ {a : Addr}, a ≠ b → a ≠ o.p → a ≠ o.ce → a ≠ o.r → a ∉ [b, o.p, o.ce, o.r] := fun h1 h2 h3 h4 z => by
    simp only [List.mem_cons, List.not_mem_nil, or_false] at z
    rcases z with z | z | z | z
    · exact h1 z
    · exact h2 z
    · exact h3 z
    · exact h4 z
  have hL : L ∉ [b, o.p, o.ce, o.r] := by
    exact nin h.nL (ne_of h.ls ep (by intro y; cases y)) (ne_of h.ls zo.bt.cs (refs_ne 0 rfl (oV_ne _))) (ne_of h.ls zo.ro (refs_ne 2 rfl (by intro a y; cases y)))
  have em : (os.set x { o with B := B' }).map (fun o => V.ref o.r) = os.map fun o => V.ref o.r := by
    rw [List.map_set]
    refine List.ext_getElem (by simp) fun i h1 h2 => ?_
    rw [List.getElem_set]
    split
    · rename_i e
      subst e
      rw [List.getElem_map]
      have := (List.getElem?_eq_some_iff.mp hx).2
      rw [this]
    · rfl
  refine ⟨hb, by rw [em]; exact m _ _ hL h.ls, fun i a e => ?_, fun i j a c e1 e2 ne => ?_⟩
  · rw [List.getElem?_set] at e
    split at e
    · rename_i q
      subst q
      cases e
      exact ho
    · rename_i q
      have z := h.on i a e
      obtain ⟨dy, eq⟩ := z.bt.ob
      obtain ⟨d1, d2⟩ := h.dp i x a o e hx (fun y => q y.symm)
      refine z.mv m nt (nin ?_ d1 ?_ ?_) (nin ?_ ?_ d2 ?_) (nin ?_ ?_ ?_ ?_) (nin ?_ ?_ ?_ ?_)
      · exact ne_of eq eb (by intro y; cases y)
      · exact ne_of eq zo.bt.cs (by intro y; cases y)
      · exact ne_of eq zo.ro (by intro y; cases y)
      · exact ne_of z.bt.cs eb (lne_len (by show 2 ≠ 3; decide))
      · exact ne_of z.bt.cs ep (by intro y; cases y)
      · exact ne_of z.bt.cs zo.ro (lne_len (by show 2 ≠ 3; decide))
      · exact ne_of z.ro eb (lne_at 0 rfl rfl (by intro y; cases y))
      · exact ne_of z.ro ep (by intro y; cases y)
      · exact ne_of z.ro zo.bt.cs (lne_len (by show 3 ≠ 2; decide))
      · exact ne_of z.ro zo.ro (lne_at 0 rfl rfl (by intro y; injection y with y; exact d1 y))
      · exact ne_of z.rw eb (lne_len (by show 5 ≠ 3; decide))
      · exact ne_of z.rw ep (by intro y; cases y)
      · exact ne_of z.rw zo.bt.cs (lne_len (by show 5 ≠ 2; decide))
      · exact ne_of z.rw zo.ro (lne_len (by show 5 ≠ 3; decide))
  · have fp : ∀ (i : Nat) (a : O), (os.set x { o with B := B' })[i]? = some a → ∃ a', os[i]? = some a' ∧ a.p = a'.p ∧ a.ce = a'.ce := fun i a e => by
      rw [List.getElem?_set] at e
      split at e
      · rename_i q
        subst q
        cases e
        exact ⟨o, hx, rfl, rfl⟩
      · exact ⟨a, e, rfl, rfl⟩
    obtain ⟨a', x1, x2, x3⟩ := fp i a e1
    obtain ⟨c', y1, y2, y3⟩ := fp j c e2
    rw [x2, x3, y2, y3]
    exact h.dp i j a' c' x1 y1 ne
end
end L3
namespace L3
open PySem PySem.Spec PyProof.Rows L2
/-- new against the heap H -/
def Fr (H : Hp) (os : List O) : Prop := ∀ (i : Nat) (o : O), os[i]? = some o → H o.p = none ∧ H o.ce = none ∧ H o.r = none
theorem Fr.set {H : Hp} {os : List O} (f : Fr H os) {x : Nat} {o : O} (hx : os[x]? = some o) (B' : Bt) : Fr H (os.set x { o with B := B' }) := fun i a e => by
  rw [List.getElem?_set] at e
  split at e
  · split at e
    · cases e; exact f x o hx
    · cases e
  · exact f i a e
theorem Fr.add {H : Hp} {os : List O} (f : Fr H os) {o : O} (h : H o.p = none ∧ H o.ce = none ∧ H o.r = none) : Fr H (os ++ [o]) := fun i a e => by
  rw [List.getElem?_append] at e
  split at e
  · exact f i a e
  · cases hi : i - os.length with
    | zero => rw [hi] at e; cases e; exact h
    | succ k => rw [hi] at e; cases e
theorem Same.mv_of {H H1 H2 : Hp} {S : List Addr} (s : Same H H1) (m : Mv S H1 H2) (h : ∀ c ∈ S, H c = none) : Same H H2 := fun c o e => m c o (fun z => ne_of_none e (h c z) rfl) (s c o e)
theorem BoxC.upd {H : Hp} {b l : Addr} {n : Nat} {o : HO} (h : BoxC H b n) (ne : l ≠ b) : BoxC (upd H l o) b n := let ⟨a1, a2, a3, e, r⟩ := h; ⟨a1, a2, a3, by rw [upd_ne ne.symm]; exact e, r⟩
theorem BoxC.mv {H H' : Hp} {S : List Addr} {b : Addr} {n : Nat} (h : BoxC H b n) (m : Mv S H H') (ne : b ∉ S) : BoxC H' b n := let ⟨a1, a2, a3, e, r⟩ := h; ⟨a1, a2, a3, m _ _ ne e, r⟩
theorem Wd.mono {K : PySem.W.Frag} {C : Addr} {H : Hp} {b L : Addr} {n n' : Nat} {os : List O} (h : Wd K C H b L n os) (l : n ≤ n') : Wd K C H b L n' os := ⟨h.bx.mono l, h.ls, h.on, h.dp⟩
theorem small (n : Nat) (h : n ≤ 100 := by omega) : n < sizeLine := Nat.lt_of_le_of_lt h (by decide)
theorem Eqv.three {H : Hp} {n : Nat} {a b : Addr} {x1 x2 x3 y1 y2 y3 : V} (h1 : Rd H a (.tup [x1, x2, x3])) (h2 : Rd H b (.tup [y1, y2, y3])) (e1 : Eqv H n x1 y1) (e2 : Eqv H n x2 y2) (e3 : Eqv H n x3 y3) : Eqv H (n + 1) (.ref a) (.ref b) :=
  .tup h1 h2 rfl (by show 3 ≤ sizeLine; decide) fun i x y ex ey => by
    match i, ex, ey with
    | 0, ex, ey => cases ex; cases ey; exact e1
    | 1, ex, ey => cases ex; cases ey; exact e2
    | 2, ex, ey => cases ex; cases ey; exact e3
    | i + 3, ex, ey => cases ex
theorem nin2 {a x y : Addr} (h : a ≠ x) (g : a ≠ y) : a ∉ [x, y] := fun z => by
  simp only [List.mem_cons, List.not_mem_nil, or_false] at z
  exact z.elim h g
theorem refs_get {α : Type} {os : List α} {f : α → Addr} {i : Nat} {x : V} (h : (os.map fun o => V.ref (f o))[i]? = some x) : ∃ o, os[i]? = some o ∧ x = .ref (f o) := by
  rw [List.getElem?_map] at h
  cases e : os[i]? with
  | none => rw [e] at h; cases h
  | some o => rw [e] at h; exact ⟨o, rfl, (Option.some.inj h).symm⟩
theorem NT.one {H : Hp} {a : Addr} {o : HO} (e : H a = some o) (n : noTup o) : NT [a] H := fun c hc => ⟨o, by rw [List.mem_singleton.mp hc]; exact e, n⟩
end L3

namespace L2
open PySem PySem.Spec PyProof.Rows
/-! ### lists of pairs as tables -/
section
variable {κ : Type} [DecidableEq κ]
def valV (kvs : List (κ × V)) (k : κ) : Option V := (kvs.find? fun kv => decide (kv.1 = k)).map (·.2)
/-- in its place, or at the end -/
def putK (kvs : List (κ × V)) (k : κ) (v : V) : List (κ × V) :=
  if (kvs.any fun kv => decide (kv.1 = k)) = true then kvs.map (fun kv => if kv.1 = k then (kv.1, v) else kv) else kvs ++ [(k, v)]
def dropK (kvs : List (κ × V)) (k : κ) : List (κ × V) := kvs.filter fun kv => decide (kv.1 ≠ k)

theorem valV_nil {k : κ} : valV ([] : List (κ × V)) k = none := rfl
theorem valV_pos {p : κ × V} {r : List (κ × V)} {k : κ} (e : p.1 = k) : valV (p :: r) k = some p.2 := by simp [valV, List.find?_cons, e]
theorem valV_neg {p : κ × V} {r : List (κ × V)} {k : κ} (e : ¬ p.1 = k) : valV (p :: r) k = valV r k := by simp [valV, List.find?_cons, e]
theorem valV_any (k : κ) : ∀ kvs : List (κ × V), (kvs.any fun kv => decide (kv.1 = k)) = (valV kvs k).isSome
  | [] => rfl
  | p :: r => by
    rw [List.any_cons]
    by_cases e : p.1 = k
    · simp only [valV_pos e, decide_eq_true e, Bool.true_or, Option.isSome_some]
    · rw [valV_neg e, decide_eq_false e, Bool.false_or]; exact valV_any k r
theorem valV_map (k j : κ) (y : V) : ∀ kvs : List (κ × V), valV (kvs.map fun kv => if kv.1 = k then (kv.1, y) else kv) j = (valV kvs j).map fun x => if j = k then y else x
  | [] => rfl
  | p :: r => by
    have ih := valV_map k j y r
    rw [List.map_cons]
    by_cases h : p.1 = k
    · rw [if_pos h]
      by_cases e : p.1 = j
      · rw [valV_pos (p := (p.1, y)) e, valV_pos e, Option.map_some, if_pos (e.symm.trans h)]
      · rw [valV_neg (p := (p.1, y)) e, valV_neg e, ih]
    · rw [if_neg h]
      by_cases e : p.1 = j
      · rw [valV_pos (p := p) e, valV_pos e, Option.map_some, if_neg (fun z => h (e.trans z))]
      · rw [valV_neg (p := p) e, valV_neg e, ih]
theorem valV_snoc (k j : κ) (y : V) : ∀ kvs : List (κ × V), valV kvs k = none → valV (kvs ++ [(k, y)]) j = if j = k then some y else valV kvs j
  | [], _ => by
    by_cases e : k = j
    · rw [if_pos e.symm]; exact valV_pos (p := (k, y)) e
    · rw [if_neg (fun z => e z.symm)]; exact valV_neg (p := (k, y)) e
  | p :: r, hn => by
    rw [List.cons_append]
    have hk : ¬ p.1 = k := fun z => by rw [valV_pos z] at hn; cases hn
    rw [valV_neg hk] at hn
    have ih := valV_snoc k j y r hn
    by_cases e : p.1 = j
    · rw [valV_pos e, valV_pos e, if_neg (fun z => hk (e.trans z))]
    · rw [valV_neg e, valV_neg e, ih]
theorem valV_put (kvs : List (κ × V)) (k j : κ) (y : V) : valV (putK kvs k y) j = if j = k then some y else valV kvs j := by
  unfold putK
  by_cases a : (kvs.any fun kv => decide (kv.1 = k)) = true
  · rw [if_pos a, valV_map]
    rw [valV_any] at a
    by_cases e : j = k
    · obtain ⟨x, hx⟩ := Option.isSome_iff_exists.mp a
      rw [if_pos e, e, hx, Option.map_some, if_pos rfl]
    · rw [if_neg e]
      cases valV kvs j with
      | none => rfl
      | some x => rw [Option.map_some, if_neg e]
  · rw [if_neg a]
    refine valV_snoc k j y kvs ?_
    rw [valV_any] at a
    cases q : valV kvs k with
    | none => rfl
    | some x => rw [q] at a; exact (a rfl).elim
theorem length_putK (kvs : List (κ × V)) (k : κ) (v : V) : (putK kvs k v).length ≤ kvs.length + 1 := by
  unfold putK
  split
  · rw [List.length_map]; omega
  · rw [List.length_append, List.length_cons, List.length_nil]; omega
theorem putK_new {kvs : List (κ × V)} {k : κ} (v : V) (h : valV kvs k = none) : putK kvs k v = kvs ++ [(k, v)] := by
  unfold putK
  rw [valV_any, h]
  exact if_neg (by decide)

theorem RelO.isSome_eq {o : Option V} {u : Option Value} (r : RelO o u) : o.isSome = u.isSome := by
  cases o with
  | none => cases u with
    | none => rfl
    | some _ => exact (show False from r).elim
  | some _ => cases u with
    | none => exact (show False from r).elim
    | some _ => rfl
theorem RelO.getD {o : Option V} {u : Option Value} {d : V} {d' : Value} (r : RelO o u) (rd : RelV d d') : RelV (o.getD d) (u.getD d') := by
  cases o with
  | none => cases u with
    | none => exact rd
    | some _ => exact (show False from r).elim
  | some _ => cases u with
    | none => exact (show False from r).elim
    | some _ => exact r

/-- raw tables of the same keys -/
theorem KV.val {kvs : List (κ × V)} {vs : List (κ × Value)} (r : KV kvs vs) (k : κ) : RelO (valV kvs k) (valueAt vs k) := by
  unfold KV at r
  induction r with
  | nil => exact True.intro
  | @cons p q ps qs h t ih =>
    obtain ⟨h1, h2⟩ := h
    by_cases e : p.1 = k
    · have e' : q.1 = k := h1.symm.trans e
      have b : valueAt (q :: qs) k = some q.2 := by simp [valueAt, List.find?_cons, e']
      rw [valV_pos e, b]; exact h2
    · have e' : ¬ q.1 = k := fun z => e (h1.trans z)
      have b : valueAt (q :: qs) k = valueAt qs k := by simp [valueAt, List.find?_cons, e']
      rw [valV_neg e, b]; exact ih
theorem KV.any {kvs : List (κ × V)} {vs : List (κ × Value)} (r : KV kvs vs) (k : κ) : (kvs.any fun kv => decide (kv.1 = k)) = vs.any fun kv => decide (kv.1 = k) := by
  unfold KV at r
  induction r with
  | nil => rfl
  | cons h t ih => rw [List.any_cons, List.any_cons, ih, h.1]
theorem KV.repl {kvs : List (κ × V)} {vs : List (κ × Value)} (r : KV kvs vs) (k : κ) {y : V} {u : Value} (ry : RelV y u) :
    KV (kvs.map fun kv => if kv.1 = k then (kv.1, y) else kv) (vs.map fun kv => if kv.1 = k then (kv.1, u) else kv) := by
  unfold KV at r ⊢
  induction r with
  | nil => exact .nil
  | @cons p q ps qs h t ih =>
    rw [List.map_cons, List.map_cons]
    refine .cons ?_ ih
    obtain ⟨h1, h2⟩ := h
    by_cases e : p.1 = k
    · rw [if_pos e, if_pos (h1.symm.trans e)]; exact ⟨h1, ry⟩
    · rw [if_neg e, if_neg (fun z => e (h1.trans z))]; exact ⟨h1, h2⟩
theorem KV.put {kvs : List (κ × V)} {vs : List (κ × Value)} (r : KV kvs vs) (k : κ) {y : V} {u : Value} (ry : RelV y u) : KV (putK kvs k y) (stored vs k u) := by
  unfold putK stored
  rw [r.any k]
  by_cases e : (vs.any fun kv => decide (kv.1 = k)) = true
  · rw [if_pos e, if_pos e]; exact r.repl k ry
  · rw [if_neg e, if_neg e]; exact Paired.snoc r ⟨rfl, ry⟩
theorem KV.drop {kvs : List (κ × V)} {vs : List (κ × Value)} (r : KV kvs vs) (k : κ) : KV (dropK kvs k) (without vs k) := by
  unfold KV at r ⊢
  unfold dropK without
  induction r with
  | nil => exact .nil
  | @cons p q ps qs h t ih =>
    obtain ⟨h1, h2⟩ := h
    rw [List.filter_cons, List.filter_cons]
    by_cases e : p.1 = k
    · have a : ¬ decide (p.1 ≠ k) = true := by simp [e]
      have b : ¬ decide (q.1 ≠ k) = true := by simp [h1.symm.trans e]
      rw [if_neg a, if_neg b]; exact ih
    · have e' : ¬ q.1 = k := fun z => e (h1.trans z)
      have a : decide (p.1 ≠ k) = true := by simp [e]
      have b : decide (q.1 ≠ k) = true := by simp [e']
      rw [if_pos a, if_pos b]; exact .cons ⟨h1, h2⟩ ih
theorem KV.keys {kvs : List (κ × V)} {vs : List (κ × Value)} (r : KV kvs vs) : kvs.map (·.1) = vs.map (·.1) := by
  unfold KV at r
  induction r with
  | nil => rfl
  | cons h t ih => rw [List.map_cons, List.map_cons, ih, h.1]
theorem KV.length {kvs : List (κ × V)} {vs : List (κ × Value)} (r : KV kvs vs) : kvs.length = vs.length := Paired.length r
theorem dropK_le (kvs : List (κ × V)) (k : κ) : (dropK kvs k).length ≤ kvs.length := List.length_filter_le _ _
end


/-! ### a tracked dict, its keys ints and texts or tuples of these -/
theorem kV_is {P : Program} {w : World} {k : Key} {u : Value} (r : RelV (kV k) u) : (mixKind P w).is k u = true := by
  cases k with
  | inl i => obtain ⟨t, e⟩ := (show ∃ t, u = Value.int i t from r); subst e; exact mixKind_int P w i t
  | inr x => obtain ⟨t, e⟩ := (show ∃ t, u = Value.str x t from r); subst e; exact mixKind_str P w x t
theorem kV_inj {a b : Key} (e : kV a = kV b) : a = b := by
  cases a with
  | inl i => cases b with
    | inl j => have e' : V.int i = V.int j := e; injection e' with e'; rw [e']
    | inr y => exact nomatch (show V.int i = V.str y from e)
  | inr x => cases b with
    | inl j => exact nomatch (show V.str x = V.int j from e)
    | inr y => have e' : V.str x = V.str y := e; injection e' with e'; rw [e']
theorem kVs_inj : ∀ {a b : List Key}, a.map kV = b.map kV → a = b
  | [], [], _ => rfl
  | [], _ :: _, e => by simp at e
  | _ :: _, [], e => by simp at e
  | x :: xs, y :: ys, e => by
    rw [List.map_cons, List.map_cons] at e
    injection e with e1 e2
    rw [kV_inj e1, kVs_inj e2]
theorem items_are {P : Program} {w : World} : ∀ {ks : List Key} {us : List Value}, Vals (ks.map kV) us → ItemsAre (mixKind P w) ks us
  | [], _, r => by rw [List.map_nil] at r; cases r; exact .nil
  | k :: ks, _, r => by
    rw [List.map_cons] at r
    cases r with
    | cons h t => exact .cons (kV_is h) (items_are t)

/-- raw entries of a dict with tuple keys -/
abbrev KT (H : Hp) : List (List Key × V) → List (List Key × Addr × Value) → Prop := Paired fun p q => p.1 = q.1 ∧ H q.2.1 = some (.tup (p.1.map kV)) ∧ RelV p.2 q.2.2
theorem KT.val {H : Hp} {kvs : List (List Key × V)} {xs : List (List Key × Addr × Value)} (r : KT H kvs xs) (k : List Key) : RelO (valV kvs k) ((atKey xs k).map (·.2)) := by
  induction r with
  | nil => exact True.intro
  | @cons p q ps qs h t ih =>
    obtain ⟨h1, _, h2⟩ := h
    by_cases e : p.1 = k
    · have e' : q.1 = k := h1.symm.trans e
      have b : atKey (q :: qs) k = some q.2 := by simp [atKey, List.find?_cons, e']
      rw [valV_pos e, b]; exact h2
    · have e' : ¬ q.1 = k := fun z => e (h1.trans z)
      have b : atKey (q :: qs) k = atKey qs k := by simp [atKey, List.find?_cons, e']
      rw [valV_neg e, b]; exact ih
theorem KT.repl {H : Hp} {kvs : List (List Key × V)} {xs : List (List Key × Addr × Value)} (r : KT H kvs xs) (k : List Key) {y : V} {u : Value} (ry : RelV y u) :
    KT H (kvs.map fun kv => if kv.1 = k then (kv.1, y) else kv) (xs.map (putAt k u)) := by
  induction r with
  | nil => exact .nil
  | @cons p q ps qs h t ih =>
    rw [List.map_cons, List.map_cons]
    refine .cons ?_ ih
    obtain ⟨h1, h2, h3⟩ := h
    unfold putAt
    by_cases e : p.1 = k
    · rw [if_pos e, if_pos (h1.symm.trans e)]; exact ⟨h1, h2, ry⟩
    · rw [if_neg e, if_neg (fun z => e (h1.trans z))]; exact ⟨h1, h2, h3⟩
theorem KT.put {H : Hp} {kvs : List (List Key × V)} {xs : List (List Key × Addr × Value)} (r : KT H kvs xs) (k : List Key) {b : Addr} {y : V} {u : Value} (hb : H b = some (.tup (k.map kV))) (ry : RelV y u) :
    KT H (putK kvs k y) (storedH xs k b u) := by
  have e : (kvs.any fun kv => decide (kv.1 = k)) = (atKey xs k).isSome := by
    rw [valV_any, (r.val k).isSome_eq, Option.isSome_map]
  unfold putK storedH
  rw [e]
  by_cases q : (atKey xs k).isSome = true
  · rw [if_pos q, if_pos q]; exact r.repl k ry
  · rw [if_neg q, if_neg q]; exact Paired.snoc r ⟨rfl, hb, ry⟩
theorem KT.keeps {H H' : Hp} {kvs : List (List Key × V)} {xs : List (List Key × Addr × Value)} (r : KT H kvs xs) (ht : ∀ b ys, H b = some (.tup ys) → H' b = some (.tup ys)) : KT H' kvs xs :=
  Paired.mapP r fun _ _ z => ⟨z.1, ht _ _ z.2.1, z.2.2⟩

section
variable {P : Program} {w : World} {H : Hp} {h : Heap} {a : Addr}
theorem rd_of {u : HO} (ok : HOk P w H h) (e : Rd H a u) : ObjOk P w H h a u := e.ok ok
theorem dk_rd {kvs : List (Key × V)} (ok : HOk P w H h) (e : Rd H a (.dK kvs)) : kvs.length ≤ sizeLine ∧ (a == sysModules) = false ∧ ∃ vs, KV kvs vs ∧ h.DictOf (mixKind P w) a vs :=
  show ObjOk P w H h a (.dK kvs) from rd_of ok e
theorem dk_of {kvs : List (Key × V)} (ok : HOk P w H h) (e : H a = some (.dK kvs)) : kvs.length ≤ sizeLine ∧ (a == sysModules) = false ∧ ∃ vs, KV kvs vs ∧ h.DictOf (mixKind P w) a vs := dk_rd ok (.inl e)
/-- a tracked tuple of ints and texts is a key -/
theorem key_of {ks : List Key} (ok : HOk P w H h) (e : H a = some (.tup (ks.map kV))) : (tupleKind (mixKind P w)).is h ks a := by
  obtain ⟨_, its, r, o, h1, h2, n, h3⟩ := (show ObjOk P w H h a (.tup (ks.map kV)) from ok a _ e)
  exact ⟨o, its.toArray, n, h1, h2, h3, by simpa using items_are r⟩
theorem dt_rd {kvs : List (List Key × V)} (ok : HOk P w H h) (e : Rd H a (.dT kvs)) : kvs.length ≤ sizeLine ∧ (a == sysModules) = false ∧
    ∃ xs, KT H kvs xs ∧ h.DictOfH (tupleKind (mixKind P w)) a xs := by
  obtain ⟨z, y, xs, r, o, es, ep, h1, h2, h3, h4, h5⟩ := (show ObjOk P w H h a (.dT kvs) from rd_of ok e)
  refine ⟨z, y, xs, r, o, es, ep, h1, h2, h3, h4, fun x hx => ?_, h5⟩
  have all : ∀ {l : List (List Key × V)} {m : List (List Key × Addr × Value)}, KT H l m → ∀ x ∈ m, (tupleKind (mixKind P w)).is h x.1 x.2.1 := by
    intro l m q
    induction q with
    | nil => intro x hx; exact nomatch hx
    | @cons p q ps qs hq t ih =>
      intro x hx
      rcases List.mem_cons.mp hx with e | hx
      · subst e
        exact key_of ok (by rw [← hq.1]; exact hq.2.1)
      · exact ih x hx
  exact all r x hx
theorem dt_of {kvs : List (List Key × V)} (ok : HOk P w H h) (e : H a = some (.dT kvs)) : kvs.length ≤ sizeLine ∧ (a == sysModules) = false ∧
    ∃ xs, KT H kvs xs ∧ h.DictOfH (tupleKind (mixKind P w)) a xs := dt_rd ok (.inl e)
end

/-- what the dict at a holds at the key y -/
def DGet (H : Hp) (a : Addr) (y : V) (r : Option V) : Prop :=
  (∃ kvs k, Rd H a (.dK kvs) ∧ y = kV k ∧ r = valV kvs k) ∨ ∃ kvs k b, Rd H a (.dT kvs) ∧ y = .ref b ∧ H b = some (.tup (k.map kV)) ∧ r = valV kvs k
/-- the heap behind a[y] = v -/
def DPut (H : Hp) (a : Addr) (y v : V) (H' : Hp) : Prop :=
  (∃ kvs k, H a = some (.dK kvs) ∧ y = kV k ∧ kvs.length < sizeLine ∧ H' = upd H a (.dK (putK kvs k v))) ∨
  ∃ kvs k b, H a = some (.dT kvs) ∧ y = .ref b ∧ H b = some (.tup (k.map kV)) ∧ kvs.length < sizeLine ∧ H' = upd H a (.dT (putK kvs k v))
theorem DGet.k {H : Hp} {a : Addr} {kvs : List (Key × V)} {k : Key} (e : H a = some (.dK kvs)) : DGet H a (kV k) (valV kvs k) := .inl ⟨kvs, k, .inl e, rfl, rfl⟩
theorem DGet.t {H : Hp} {a b : Addr} {kvs : List (List Key × V)} {k : List Key} (e : H a = some (.dT kvs)) (eb : H b = some (.tup (k.map kV))) : DGet H a (.ref b) (valV kvs k) := .inr ⟨kvs, k, b, .inl e, rfl, eb, rfl⟩
theorem DPut.k {H : Hp} {a : Addr} {kvs : List (Key × V)} {k : Key} {v : V} (e : H a = some (.dK kvs)) (hl : kvs.length < sizeLine) : DPut H a (kV k) v (upd H a (.dK (putK kvs k v))) := .inl ⟨kvs, k, e, rfl, hl, rfl⟩
theorem DPut.t {H : Hp} {a b : Addr} {kvs : List (List Key × V)} {k : List Key} {v : V} (e : H a = some (.dT kvs)) (eb : H b = some (.tup (k.map kV))) (hl : kvs.length < sizeLine) :
    DPut H a (.ref b) v (upd H a (.dT (putK kvs k v))) := .inr ⟨kvs, k, b, e, rfl, eb, hl, rfl⟩


section
variable {X : Cx} {pins : List (Addr × Obj)} {σ : St} {H : Hp} {s : Shared} {a : Addr} {y v : V} {u r : Value} {o : Option V} {A : Around} {E : Value → Shared → Prop}

theorem Inv.big (I : Inv X pins σ H s) : sysModules < s.heap.objs.size := by
  have h : mainGlobals < s.heap.objs.size := (I.mod.glob.keeps I.bk).lt
  exact Nat.lt_trans (by decide) h

/-- d[y], there -/
theorem d_getItem {Q : Value → Shared → Prop} (hu : A.units + 1 < cLine) (I : Inv X pins σ H s) (g : DGet H a y (some v)) (ry : RelV y u) (h : ∀ w' s', Inv X pins σ H s' → RelV v w' → Q w' s') :
    wpAny (model X.prog X.w) A (getItem (.ref a) u) Q E s := by
  rcases g with ⟨kvs, k, e, ey, l⟩ | ⟨kvs, k, b, e, ey, eb, l⟩
  · subst ey
    obtain ⟨z, hd, vs, rel, dd⟩ := dk_rd I.hok e
    obtain ⟨w', hw, rw'⟩ := RelO.some_of (v := v) (o := valueAt vs k) (by rw [l]; exact rel.val k)
    exact wpAny_getItem_of (kV_is ry) dd.mapOf hw (h w' _ (I.tok _) rw')
  · subst ey
    cases (show u = Value.ref b from ry)
    obtain ⟨z, hd, xs, rel, dd⟩ := dt_rd I.hok e
    obtain ⟨w', hw, rw'⟩ := RelO.some_of (v := v) (o := (atKey xs k).map (·.2)) (by rw [l]; exact rel.val k)
    obtain ⟨p, hp, hp2⟩ := Option.map_eq_some_iff.mp hw
    refine wpAny_getItem_heap (tupleKind_room_in1 hu) (key_of I.hok eb) dd hp ?_
    rw [hp2]
    exact h w' _ (I.tok _) rw'
/-- y in d -/
theorem d_in {Q : Value → Shared → Prop} (hu : A.units + 1 < cLine) (I : Inv X pins σ H s) (g : DGet H a y o) (ry : RelV y u) (h : ∀ s', Inv X pins σ H s' → Q (.bool o.isSome) s') :
    wpAny (model X.prog X.w) A (compareOp .In u (.ref a)) Q E s := by
  rcases g with ⟨kvs, k, e, ey, l⟩ | ⟨kvs, k, b, e, ey, eb, l⟩
  · subst ey
    obtain ⟨z, hd, vs, rel, dd⟩ := dk_rd I.hok e
    refine wpAny_in_of (kV_is ry) hd dd.mapOf ?_
    rw [← (rel.val k).isSome_eq, ← l]
    exact h _ (I.tok _)
  · subst ey
    cases (show u = Value.ref b from ry)
    obtain ⟨z, hd, xs, rel, dd⟩ := dt_rd I.hok e
    refine wpAny_in_heap (tupleKind_room_in1 hu) (key_of I.hok eb) hd dd ?_
    have q := (rel.val k).isSome_eq
    rw [Option.isSome_map] at q
    rw [← q, ← l]
    exact h _ (I.tok _)
theorem d_notIn {Q : Value → Shared → Prop} (hu : A.units + 1 < cLine) (I : Inv X pins σ H s) (g : DGet H a y o) (ry : RelV y u) (h : ∀ s', Inv X pins σ H s' → Q (.bool (!o.isSome)) s') :
    wpAny (model X.prog X.w) A (compareOp .NotIn u (.ref a)) Q E s := by
  rcases g with ⟨kvs, k, e, ey, l⟩ | ⟨kvs, k, b, e, ey, eb, l⟩
  · subst ey
    obtain ⟨z, hd, vs, rel, dd⟩ := dk_rd I.hok e
    refine wpAny_notIn_of (kV_is ry) hd dd.mapOf ?_
    rw [← (rel.val k).isSome_eq, ← l]
    exact h _ (I.tok _)
  · subst ey
    cases (show u = Value.ref b from ry)
    obtain ⟨z, hd, xs, rel, dd⟩ := dt_rd I.hok e
    refine wpAny_notIn_heap (tupleKind_room_in1 hu) (key_of I.hok eb) hd dd ?_
    have q := (rel.val k).isSome_eq
    rw [Option.isSome_map] at q
    rw [← q, ← l]
    exact h _ (I.tok _)
/-- a dict's object is replaced -/
theorem d_write {h' : Heap} {t' : Nat} {ob : HO} (I : Inv X pins σ H s) (mu : Mut (H a)) (hs : Heap.SameBut a s.heap h') (he : ∃ q, h'.get? a = some q) (new : ObjOk X.prog X.w (upd H a ob) h' a ob) :
    Inv X pins σ (upd H a ob) { s with heap := h', toks := t' } :=
  I.write (x := a) (e := a) mu (.inl rfl) (fun b q hb z => (hs.2 b hb).trans z) he new
theorem dk_new {P : Program} {w : World} {H' : Hp} {h' : Heap} {kvs : List (Key × V)} {vs : List (Key × Value)} (z : kvs.length ≤ sizeLine) (hd : (a == sysModules) = false) (rel : KV kvs vs) (dd : h'.DictOf (mixKind P w) a vs) :
    ObjOk P w H' h' a (.dK kvs) := ⟨z, hd, vs, rel, dd⟩
/-- d[y] = v -/
theorem d_setItem {H' : Hp} {Q : Unit → Shared → Prop} (hu : A.units + 1 < cLine) (I : Inv X pins σ H s) (g : DPut H a y v H') (ry : RelV y u) (rv : RelV v r) (h : ∀ s', Inv X pins σ H' s' → Q () s') :
    wpAny (model X.prog X.w) A (setItem (.ref a) u r) Q E s := by
  rcases g with ⟨kvs, k, e, ey, l, eH⟩ | ⟨kvs, k, b, e, ey, eb, l, eH⟩
  · subst ey eH
    obtain ⟨z, hd, vs, rel, dd⟩ := dk_of I.hok e
    have hz : vs.length ≤ sizeLine := by rw [← rel.length]; exact z
    have hl : (putK kvs k v).length ≤ sizeLine := by have := length_putK kvs k v; omega
    refine wpAny_setItem_pairs (hsz := hz) (kV_is ry) dd fun h' dd' hs => h _ ?_
    have he : ∃ q, h'.get? a = some q := let ⟨q, _, _, hq, _⟩ := dd'; ⟨q, hq⟩
    exact d_write I (by rw [e]; exact True.intro) hs he (dk_new hl hd (rel.put k rv) dd')
  · subst ey eH
    cases (show u = Value.ref b from ry)
    obtain ⟨z, hd, xs, rel, dd⟩ := dt_of I.hok e
    have hz : xs.length ≤ sizeLine := by rw [← Paired.length rel]; exact z
    have hl : (putK kvs k v).length ≤ sizeLine := by have := length_putK kvs k v; omega
    refine wpAny_setItem_heap (hsz := hz) (tupleKind_room_in1 hu) (key_of I.hok eb) dd fun h' dd' hs => h _ ?_
    obtain ⟨q, es, ep, hq, h2, h3, h4, _, h5⟩ := dd'
    refine d_write I (by rw [e]; exact True.intro) hs ⟨q, hq⟩ ⟨hl, hd, _, (rel.put k eb rv).keeps fun c ys ec => ?_, q, es, ep, hq, h2, h3, h4, h5⟩
    rw [upd_ne (ne_of ec e (fun z => nomatch z))]
    exact ec
end

section
variable {X : Cx} {pins : List (Addr × Obj)} {σ : St} {H : Hp} {s : Shared} {a : Addr} {kvs : List (Key × V)} {k : Key} {u : Value} {A : Around} {E : Value → Shared → Prop}
/-- del d[k] -/
theorem d_delItem {Q : Unit → Shared → Prop} (I : Inv X pins σ H s) (e : H a = some (.dK kvs)) (ry : RelV (kV k) u) (l : (valV kvs k).isSome = true) (h : ∀ s', Inv X pins σ (upd H a (.dK (dropK kvs k))) s' → Q () s') :
    wpAny (model X.prog X.w) A (delItem (.ref a) u) Q E s := by
  obtain ⟨z, hd, vs, rel, dd⟩ := dk_of I.hok e
  refine wpAny_delItem_slot dd.typeIs (by decide) PySem.F.slot_dict_delitem
    (call_meetsIn PySem.F.slot_dict_delitem dd.typeIs PySem.F.entry_dict_delitem (PySem.F.args_dict_delitem_2 _ _) (meets_dict_delitem_pairs (mixKind X.prog X.w) a (kV_is ry)) ⟨vs, dd, by rw [← rel.length]; exact z, by rw [← (rel.val k).isSome_eq]; exact l, fun h' dd' hs => h _ ?_⟩)
  have he : ∃ q, h'.get? a = some q := let ⟨q, _, _, hq, _⟩ := dd'; ⟨q, hq⟩
  exact d_write I (by rw [e]; exact True.intro) hs he (dk_new (Nat.le_trans (dropK_le kvs k) z) hd (rel.drop k) dd')
/-- d.pop(k[, x]), there -/
theorem d_pop {v : V} {more : List Value} {Q : Value → Shared → Prop} (I : Inv X pins σ H s) (e : H a = some (.dK kvs)) (ry : RelV (kV k) u) (l : valV kvs k = some v) (hm : more = [] ∨ ∃ x, more = [x])
    (h : ∀ w' s', Inv X pins σ (upd H a (.dK (dropK kvs k))) s' → RelV v w' → Q w' s') : wpAny (model X.prog X.w) A (call (.builtin "dict.pop") (.ref a :: u :: more)) Q E s := by
  obtain ⟨z, hd, vs, rel, dd⟩ := dk_of I.hok e
  obtain ⟨w', hw, rw'⟩ := RelO.some_of (v := v) (o := valueAt vs k) (by rw [← l]; exact rel.val k)
  have hp : (keyPart u).isSome = true := by
    cases k with
    | inl i => obtain ⟨t, q⟩ := (show ∃ t, u = Value.int i t from ry); subst q; rfl
    | inr x => obtain ⟨t, q⟩ := (show ∃ t, u = Value.str x t from ry); subst q; rfl
  have ha : argsOk "dict.pop" ⟨.ref a :: u :: more, []⟩ := by
    rcases hm with q | ⟨x, q⟩
    · subst q; exact PySem.F.args_dict_pop_2 _ _
    · subst q; exact PySem.F.args_dict_pop_3 _ _ _
  refine call_meetsIn PySem.F.slot_dict_pop dd.typeIs PySem.F.entry_dict_pop ha (meets_dict_pop_there (mixKind X.prog X.w) a (kV_is ry) more hm hp)
    ⟨vs, w', dd, by rw [← rel.length]; exact z, hw, fun h' dd' hs => h w' _ ?_ rw'⟩
  have he : ∃ q, h'.get? a = some q := let ⟨q, _, _, hq, _⟩ := dd'; ⟨q, hq⟩
  exact d_write I (by rw [e]; exact True.intro) hs he (dk_new (Nat.le_trans (dropK_le kvs k) z) hd (rel.drop k) dd')
/-- d.pop(k, x), not there -/
theorem d_popD {r : Value} {Q : Value → Shared → Prop} (I : Inv X pins σ H s) (e : H a = some (.dK kvs)) (ry : RelV (kV k) u) (l : valV kvs k = none) (h : ∀ s', Inv X pins σ H s' → Q r s') :
    wpAny (model X.prog X.w) A (call (.builtin "dict.pop") [.ref a, u, r]) Q E s := by
  obtain ⟨z, hd, vs, rel, dd⟩ := dk_of I.hok e
  have hn : valueAt vs k = none := RelO.none_of (by rw [← l]; exact rel.val k)
  have hp : (keyPart u).isSome = true := by
    cases k with
    | inl i => obtain ⟨t, q⟩ := (show ∃ t, u = Value.int i t from ry); subst q; rfl
    | inr x => obtain ⟨t, q⟩ := (show ∃ t, u = Value.str x t from ry); subst q; rfl
  exact call_meetsIn PySem.F.slot_dict_pop dd.typeIs PySem.F.entry_dict_pop (PySem.F.args_dict_pop_3 _ _ _) (meets_dict_pop_default (mixKind X.prog X.w) a (kV_is ry) hd hp r) ⟨vs, dd, hn, h _ (I.tok _)⟩
/-- d.clear() -/
theorem d_clear {Q : Value → Shared → Prop} (I : Inv X pins σ H s) (e : H a = some (.dK kvs)) (h : ∀ s', Inv X pins σ (upd H a (.dK [])) s' → Q .none s') : wpAny (model X.prog X.w) A (call (.builtin "dict.clear") [.ref a]) Q E s := by
  obtain ⟨z, hd, vs, rel, dd⟩ := dk_of I.hok e
  refine call_meetsIn PySem.F.slot_dict_clear dd.typeIs PySem.F.entry_dict_clear (PySem.F.args_dict_clear_1 _) (meets_dict_clear (mixKind X.prog X.w) a) ⟨vs, dd, by rw [← rel.length]; exact z, fun h' dd' hs => h _ ?_⟩
  have he : ∃ q, h'.get? a = some q := let ⟨q, _, _, hq, _⟩ := dd'; ⟨q, hq⟩
  exact d_write (t' := s.toks) I (by rw [e]; exact True.intro) hs he (dk_new (Nat.zero_le _) hd .nil dd')
/-- len(d) -/
theorem d_len {Q : Value → Shared → Prop} (I : Inv X pins σ H s) (e : Rd H a (.dK kvs)) (h : ∀ t s', Inv X pins σ H s' → Q (.int kvs.length t) s') : wpAny (model X.prog X.w) A (call (.builtin "len") [.ref a]) Q E s := by
  obtain ⟨z, hd, vs, rel, dd⟩ := dk_rd I.hok e
  refine call_len_dict hd dd (by rw [← rel.length]; rw [sizeLine_eq] at z; omega) ?_
  rw [← rel.length]
  exact h _ _ (I.tok _)
/-- if d -/
theorem d_truth {Q : Bool → Shared → Prop} (I : Inv X pins σ H s) (e : Rd H a (.dK kvs)) (h : ∀ s', Inv X pins σ H s' → Q (!kvs.isEmpty) s') : wpAny (model X.prog X.w) A (truthy (.ref a)) Q E s := by
  obtain ⟨z, hd, vs, rel, dd⟩ := dk_rd I.hok e
  refine wpAny_truthy_dict hd dd (by rw [← rel.length]; rw [sizeLine_eq] at z; omega) ?_
  have q : kvs.isEmpty = vs.isEmpty := by cases rel <;> rfl
  rw [← q]
  exact h _ (I.tok _)
end


/-! ### readings and rules -/
/-- the element of a subscription, not a slice -/
def NoSl (i : Expr) : Prop := ∀ ov iv, subscripted i false ov iv = operate [ov, iv] (getItem ov iv)
theorem subD_of {prog : Program} {w : World} {A : Around} {E : Value → Shared → Prop} {s : Shared} {env : Env} {value slice : Expr} {pos : Pos} {T id : String} {Q : Value → Shared → Prop}
    (hl : typeLookup (.type T) "__getitem__" = pure (some (.builtin id))) (hs : NoSl slice)
    (h : wpAny (model prog w) A (eval value env) (fun o s₁ => wpAny (model prog w) A (eval slice env) (fun i s₂ => s₂.TypeIs o T ∧ wpAny (model prog w) A (getItem o i) Q E s₂) E s₁) E s) :
    wpAny (model prog w) A (eval (.Subscript value slice pos) env) Q E s := by
  refine Subscript_ (wpAny_mono h (fun o s₁ h₁ => wpAny_mono h₁ (fun i s₂ h₂ => ?_) fun _ _ x => x) fun _ _ x => x)
  obtain ⟨hT, h₂⟩ := h₂
  unfold subscriptTail
  refine wpAny_bind ?_
  rw [getitemInPython_of_ne hT.not_modules]
  refine wpAny_bind (wpAny_specialOf hT hl ?_)
  have fin : wpAny (model prog w) A (subscripted slice false o i) (fun r s₃ => wpAny (model prog w) A (letTemporaryGo value o r >>= fun _ => pure r) Q E s₃) E s₂ := by
    rw [hs o i]
    exact wpAny_operating (wpAny_mono h₂ (fun r s₃ h₃ => wpAny_bind (wpAny_letTemporaryGo (wpAny_pure h₃))) fun _ _ x => x)
  first
    | exact wpAny_pure (wpAny_bind fin)
    | exact wpAny_bind (wpAny_pure (wpAny_bind fin))
    | exact wpAny_bind fin

theorem dict_typeIs {X : Cx} {pins : List (Addr × Obj)} {σ : St} {H : Hp} {s : Shared} {a : Addr} {y : V} {o : Option V} (I : Inv X pins σ H s) (g : DGet H a y o) : s.TypeIs (.ref a) "dict" := by
  rcases g with ⟨kvs, k, e, _, _⟩ | ⟨kvs, k, b, e, _, _, _⟩
  · obtain ⟨_, _, vs, _, dd⟩ := dk_rd I.hok e
    exact dd.typeIs
  · obtain ⟨_, _, xs, _, dd⟩ := dt_rd I.hok e
    exact dd.typeIs
theorem dict_noDict {X : Cx} {pins : List (Addr × Obj)} {σ : St} {H : Hp} {s : Shared} {a : Addr} {y : V} {o : Option V} (I : Inv X pins σ H s) (g : DGet H a y o) :
    ∀ b, Value.ref a = .ref b → ∃ ob, s.heap.get? b = some ob ∧ ob.dict = none := fun b q => by
  cases q
  rcases g with ⟨kvs, k, e, _, _⟩ | ⟨kvs, k, b, e, _, _, _⟩
  · obtain ⟨_, _, vs, _, ob, _, _, h1, h2, _⟩ := dk_rd I.hok e
    exact ⟨ob, h1, h2.2.1⟩
  · obtain ⟨_, _, xs, _, ob, _, _, h1, h2, _⟩ := dt_rd I.hok e
    exact ⟨ob, h1, h2.2.1⟩

/-- d[y] -/
def tDGet (td ty : TE) : TE := fun σ H Q => td σ H fun x H1 => ty σ H1 fun y H2 => ∃ a v, x = .ref a ∧ DGet H2 a y (some v) ∧ Q v H2
/-- y in d, y not in d -/
def tDIn (ty td : TE) : TE := fun σ H Q => ty σ H fun y H1 => td σ H1 fun x H2 => ∃ a o, x = .ref a ∧ DGet H2 a y o ∧ Q (.bl o.isSome) H2
def tDNotIn (ty td : TE) : TE := fun σ H Q => ty σ H fun y H1 => td σ H1 fun x H2 => ∃ a o, x = .ref a ∧ DGet H2 a y o ∧ Q (.bl (!o.isSome)) H2
/-- d[y] = v -/
def sDPut (td ty tv : TE) : TS := fun D σ H => tv σ H fun v H1 => td σ H1 fun x H2 => ty σ H2 fun y H3 => ∃ a H4, x = .ref a ∧ DPut H3 a y v H4 ∧ D.nx σ H4
/-- d[y] op= v -/
def sDAug (td ty tv : TE) (rd : V → V → Hp → VK → Prop) : TS := fun D σ H => td σ H fun x H1 => ty σ H1 fun y H2 => ∃ a v, x = .ref a ∧ DGet H2 a y (some v) ∧
  tv σ H2 fun y2 H3 => rd v y2 H3 fun z H4 => ∃ H5, DPut H4 a y z H5 ∧ D.nx σ H5
/-- del d[y] -/
def sDDel (td ty : TE) : TS := fun D σ H => td σ H fun x H1 => ty σ H1 fun y H2 => ∃ a kvs k, x = .ref a ∧ H2 a = some (.dK kvs) ∧ y = kV k ∧ (valV kvs k).isSome = true ∧ D.nx σ (upd H2 a (.dK (dropK kvs k)))

section
variable {X : Cx} {o i e value : Expr} {pos pos' tpos : Pos} {td ty tv : TE}
theorem pe_dget (hu : X.A.units + 1 < cLine) (ho : PE X o td) (hi : PE X i ty) (hs : NoSl i) : PE X (.Subscript o i pos) (tDGet td ty) := by
  intro pins s σ H Q I h
  refine subD_of PySem.F.slot_dict_getitem.lookup hs (thn (ho pins s σ H _ I h) fun u s1 ⟨x, H1, I1, rx, q1⟩ => thn (hi pins s1 σ H1 _ I1 q1) fun iv s2 ⟨y, H2, I2, ry, a, v, ex, g, q2⟩ => ?_)
  subst ex
  obtain rfl : u = Value.ref a := rx
  exact ⟨dict_typeIs I2 g, d_getItem hu I2 g ry fun w' s3 I3 rw' => ⟨v, H2, I3, rw', q2⟩⟩
theorem pc_din (hu : X.A.units + 1 < cLine) (hi : PE X i ty) (ho : PE X o td) : PC X .In i o (tDIn ty td) := by
  intro pins s σ H Q I h
  refine thn (hi pins s σ H _ I h) fun iv s1 ⟨y, H1, I1, ry, q1⟩ => thn (ho pins s1 σ H1 _ I1 q1) fun u s2 ⟨x, H2, I2, rx, a, ov, ex, g, q2⟩ => ?_
  subst ex
  obtain rfl : u = Value.ref a := rx
  exact d_in hu I2 g ry fun s3 I3 => ⟨.bl ov.isSome, H2, I3, rfl, q2⟩
theorem pc_dnotin (hu : X.A.units + 1 < cLine) (hi : PE X i ty) (ho : PE X o td) : PC X .NotIn i o (tDNotIn ty td) := by
  intro pins s σ H Q I h
  refine thn (hi pins s σ H _ I h) fun iv s1 ⟨y, H1, I1, ry, q1⟩ => thn (ho pins s1 σ H1 _ I1 q1) fun u s2 ⟨x, H2, I2, rx, a, ov, ex, g, q2⟩ => ?_
  subst ex
  obtain rfl : u = Value.ref a := rx
  exact d_notIn hu I2 g ry fun s3 I3 => ⟨.bl (!ov.isSome), H2, I3, rfl, q2⟩
theorem ps_dput (hu : X.A.units + 1 < cLine) (ho : PE X o td) (hi : PE X i ty) (hv : PE X value tv) (hs : swapsWith value (some (.Subscript o i pos')) pos.line X.env = pure false) :
    PS X (.Assign [.Subscript o i pos'] value pos) (sDPut td ty tv) := by
  intro pins s σ H D I h
  refine wpAny_Assign_Subscript (thn (hv pins s σ H _ I h) fun r s1 ⟨v, H1, I1, rv, q1⟩ => thn (ho pins s1 σ H1 _ I1 q1) fun u s2 ⟨x, H2, I2, rx, q2⟩ => thn (hi pins s2 σ H2 _ I2 q2) fun iv s3 ⟨y, H3, I3, ry, a, H4, ex, g, q3⟩ => ?_) hs
  subst ex
  obtain rfl : u = Value.ref a := rx
  exact d_setItem hu I3 g ry rv fun s4 I4 => ⟨σ, H4, I4, q3⟩
theorem ps_daug {op : Operator} {rd : V → V → Hp → VK → Prop} (hu : X.A.units + 1 < cLine) (ho : PE X o td) (hi : PE X i ty) (hv : PE X value tv) (hop : InOp X op rd)
    (ha : ∀ ov iv new, augStore i ov iv new = (do holding [new, ov, iv] (setItem ov iv new); release [new, ov, iv] []; pure .next)) : PS X (.AugAssign (.Subscript o i tpos) op value pos) (sDAug td ty tv rd) := by
  intro pins s σ H D I h
  refine wpAny_AugAssign_SubscriptAny (thn (ho pins s σ H _ I h) fun u s1 ⟨x, H1, I1, rx, q1⟩ => thn (hi pins s1 σ H1 _ I1 q1) fun iv s2 ⟨y, H2, I2, ry, a, v, ex, g, q2⟩ => ?_) ha
  subst ex
  obtain rfl : u = Value.ref a := rx
  refine d_getItem hu I2 g ry fun w' s3 I3 rw' => thn (hv pins s3 σ H2 _ I3 q2) fun w2 s4 ⟨y2, H3, I4, ry2, q3⟩ => thn (hop pins s4 σ H3 v y2 w' w2 _ I4 rw' ry2 q3) fun w3 s5 ⟨z, H4, I5, rz, H5, g5, q4⟩ => ?_
  exact d_setItem hu I5 g5 ry rz fun s6 I6 => ⟨σ, H5, I6, q4⟩
theorem ps_ddel (ho : PE X o td) (hi : PE X i ty) : PS X (.Delete [.Subscript o i tpos] pos) (sDDel td ty) := by
  intro pins s σ H D I h
  refine wpAny_Delete (wpAny_deleteEach_cons (wpAny_delete_Subscript (thn (ho pins s σ H _ I h) fun u s1 ⟨x, H1, I1, rx, q1⟩ => thn (hi pins s1 σ H1 _ I1 q1) fun iv s2 ⟨y, H2, I2, ry, a, kvs, k, ex, e, ey, l, q2⟩ => ?_)))
  subst ex ey
  obtain rfl : u = Value.ref a := rx
  exact d_delItem I2 e ry l fun s3 I3 => wpAny_deleteEach_nil ⟨σ, _, I3, q2⟩
end


/-! ### displays -/
theorem dk_empty {P : Program} {w : World} {H : Hp} (h : Heap) (hb : sysModules < h.objs.size) : ObjOk P w H (h.push { cls := .type "dict", data := .dict #[] }) h.objs.size (.dK []) :=
  ⟨Nat.zero_le _, beq_eq_false_iff_ne.mpr (Ne.symm (Nat.ne_of_lt hb)), [], .nil, Heap.DictOf.new h⟩
theorem dt_empty {P : Program} {w : World} {H : Hp} (h : Heap) (hb : sysModules < h.objs.size) : ObjOk P w H (h.push { cls := .type "dict", data := .dict #[] }) h.objs.size (.dT []) :=
  ⟨Nat.zero_le _, beq_eq_false_iff_ne.mpr (Ne.symm (Nat.ne_of_lt hb)), [], .nil, _, #[], 0, Heap.get?_push_size _ rfl, ⟨rfl, rfl, rfl⟩, rfl, rfl, List.nodup_nil⟩
/-- {}, to be a dict of the kind that is wanted -/
def tDNewK : TE := fun _ H Q => ∀ p, H p = none → Q (.ref p) (upd H p (.dK []))
def tDNewT : TE := fun _ H Q => ∀ p, H p = none → Q (.ref p) (upd H p (.dT []))
section
variable {X : Cx} {pos : Pos}
theorem pe_dnewK : PE X (.Dict [] [] pos) tDNewK := fun pins s σ H Q I h =>
  wpAny_Dict_empty ⟨.ref s.heap.objs.size, _, I.laid (a := s.heap.objs.size) (o := .dK []) (t' := s.toks) (fun _ _ q => Heap.get?_push_of_some _ q) (Nat.le_refl _) (dk_empty s.heap I.big), rfl, h _ (I.hok.fresh (Nat.le_refl _))⟩
theorem pe_dnewT : PE X (.Dict [] [] pos) tDNewT := fun pins s σ H Q I h =>
  wpAny_Dict_empty ⟨.ref s.heap.objs.size, _, I.laid (a := s.heap.objs.size) (o := .dT []) (t' := s.toks) (fun _ _ q => Heap.get?_push_of_some _ q) (Nat.le_refl _) (dt_empty s.heap I.big), rfl, h _ (I.hok.fresh (Nat.le_refl _))⟩
end

end L2

namespace L2
open PySem PySem.Spec PyProof.Rows
/-- the pairs of a display, from the left -/
def tPairs : List (TE × TE) → St → Hp → (List (V × V) → Hp → Prop) → Prop
  | [], _, H, Q => Q [] H
  | (tk, tv) :: r, σ, H, Q => tk σ H fun x H1 => tv σ H1 fun y H2 => tPairs r σ H2 fun ps H3 => Q ((x, y) :: ps) H3
abbrev VV : List (V × V) → List (Value × Value) → Prop := Paired fun p q => RelV p.1 q.1 ∧ RelV p.2 q.2
def PPs (X : Cx) (pos : Pos) (keys : List (Option Expr)) (values : List Expr) (trs : List (TE × TE)) : Prop :=
  ∀ (pins : List (Addr × Obj)) (s : Shared) (σ : St) (H : Hp) (Q : List (V × V) → Hp → Prop), Inv X pins σ H s → tPairs trs σ H Q →
    wpAny (model X.prog X.w) X.A (evalPairs (pairTrees keys values X.env pos)) (fun vs s' => ∃ ps H', Inv X pins σ H' s' ∧ VV ps vs ∧ Q ps H') X.xe s
theorem pps_nil {X : Cx} {pos : Pos} : PPs X pos [] [] [] := fun pins s σ H Q I h => pairTrees_nil_walk ⟨[], H, I, .nil, h⟩
theorem pps_cons {X : Cx} {pos : Pos} {k v : Expr} {ks : List (Option Expr)} {vs : List Expr} {tk tv : TE} {trs : List (TE × TE)} (hk : PE X k tk) (hv : PE X v tv) (hr : PPs X pos ks vs trs) :
    PPs X pos (some k :: ks) (v :: vs) ((tk, tv) :: trs) := fun pins s σ H Q I h =>
  pairTrees_cons_walk (thn (hk pins s σ H _ I h) fun u s1 ⟨x, H1, I1, rx, q1⟩ => thn (hv pins s1 σ H1 _ I1 q1) fun w2 s2 ⟨y, H2, I2, ry, q2⟩ =>
    thn (hr pins s2 σ H2 _ I2 q2) fun ws s3 ⟨ps, H3, I3, rel, q3⟩ => ⟨(x, y) :: ps, H3, I3, .cons ⟨rx, ry⟩ rel, q3⟩)

def mergeK (kvs more : List (Key × V)) : List (Key × V) := more.foldl (fun acc kv => putK acc kv.1 kv.2) kvs
theorem KV.merge : ∀ {more : List (Key × V)} {rs : List (Key × Value)} {kvs : List (Key × V)} {vs : List (Key × Value)}, KV more rs → KV kvs vs → KV (mergeK kvs more) (merged vs rs) := by
  intro more rs kvs vs r
  unfold KV at r
  induction r generalizing kvs vs with
  | nil => intro q; exact q
  | @cons p q ps qs h t ih =>
    intro r0
    have e : KV (putK kvs p.1 p.2) (stored vs q.1 q.2) := by
      have := r0.put p.1 h.2
      rw [← h.1]; exact this
    exact ih e
theorem length_mergeK : ∀ (more kvs : List (Key × V)), (mergeK kvs more).length ≤ kvs.length + more.length
  | [], kvs => by show kvs.length ≤ kvs.length + 0; omega
  | p :: r, kvs => by
    have h1 := length_mergeK r (putK kvs p.1 p.2)
    have h2 := length_putK kvs p.1 p.2
    show (mergeK (putK kvs p.1 p.2) r).length ≤ _
    rw [List.length_cons]; omega
theorem carries_of {P : Program} {w : World} : ∀ {kvs : List (Key × V)} {ws : List (Value × Value)}, VV (kvs.map fun kv => (kV kv.1, kv.2)) ws → ∃ rs, Carries (mixKind P w) ws rs ∧ KV kvs rs
  | [], _, r => by rw [List.map_nil] at r; cases r; exact ⟨[], True.intro, .nil⟩
  | p :: kvs, _, r => by
    rw [List.map_cons] at r
    cases r with
    | @cons a b as bs h t =>
      obtain ⟨rs, c, q⟩ := carries_of (P := P) (w := w) t
      obtain ⟨b1, b2⟩ := b
      exact ⟨(p.1, b2) :: rs, ⟨kV_is h.1, rfl, c⟩, .cons ⟨rfl, h.2⟩ q⟩
/-- {k: v, ..} with keys ints and texts; the new dict stands empty while the pairs are made -/
def tDisp (trs : List (TE × TE)) : TE := fun σ H Q => ∀ p, H p = none → tPairs trs σ (upd H p (.dK [])) fun ps H2 => H2 p = some (.dK []) ∧ ∃ kvs : List (Key × V), ps = kvs.map (fun kv => (kV kv.1, kv.2)) ∧ kvs.length ≤ 15 ∧ Q (.ref p) (upd H2 p (.dK (mergeK [] kvs)))
theorem pe_disp {X : Cx} {pos : Pos} {keys : List (Option Expr)} {values : List Expr} {trs : List (TE × TE)} (h : PPs X pos keys values trs) (hall : keys.all (·.isSome) = true) (hl : keys.length = values.length) (h0 : keys ≠ [])
    (h15 : keys.length ≤ 15) : PE X (.Dict keys values pos) (tDisp trs) := by
  intro pins s σ H Q I q
  have hn := I.hok.fresh (Nat.le_refl s.heap.objs.size)
  have I1 := I.laid (a := s.heap.objs.size) (o := .dK []) (h' := s.heap.push { cls := .type "dict", data := .dict #[] }) (t' := s.toks) (fun _ _ q => Heap.get?_push_of_some _ q) (Nat.le_refl _) (dk_empty s.heap I.big)
  refine wpAny_Dict_walk (knd := mixKind X.prog X.w) hall hl h0 h15 (thn (h pins _ σ _ _ I1 (q _ hn)) fun ws s2 ⟨ps, H2, I2, rel, e, kvs, ep, lk, q2⟩ => ?_)
  subst ep
  obtain ⟨rs, c, rk⟩ := carries_of (P := X.prog) (w := X.w) rel
  obtain ⟨z, hd, vs0, r0, dd⟩ := dk_of I2.hok e
  cases r0
  refine ⟨rs, c, dd, fun h' dd' hs => ⟨.ref s.heap.objs.size, _, ?_, rfl, q2⟩⟩
  have hz : (mergeK [] kvs).length ≤ sizeLine := by
    have h1 := length_mergeK kvs []
    rw [List.length_nil] at h1
    rw [sizeLine_eq]; omega
  have he : ∃ q, h'.get? s.heap.objs.size = some q := let ⟨q, _, _, hq, _⟩ := dd'; ⟨q, hq⟩
  exact d_write I2 (by rw [e]; exact True.intro) hs he (dk_new hz hd (rk.merge .nil) dd')


end L2

namespace L3
open PySem PySem.Spec PyProof.Rows L2
open Sem (wp)
/-! ### [elt for tg in iter if cnd] -/
def CompGF (k : Nat) (js : List Nat) (g : TG) (tc : TT) (te : TE) (σ : L2.St) (Q : VK) (J : It) (H1 : Hp) : Prop := ∃ W : Nat → Nat → List V → L2.St → Hp → Prop, (∃ m, W 0 m [] (σ0 k js σ) H1) ∧ ∀ i m ys τ H, W i m ys τ H →
  (J.stop i H ∧ ∀ p, H p = none → Q (.ref p) (upd H p (.lst ys))) ∨ (J.go i H ∧ ys.length < sizeLine ∧ ∀ x H', J.yld i H x H' → g x τ H' fun τ2 H2 => ∃ (N : V → Hp → Prop) (N0 : Hp → Prop), (∀ v H3, N v H3 → ∃ m', m' < m ∧ W (i + 1) m' (ys ++ [v]) τ2 H3) ∧
    (∀ H3, N0 H3 → ∃ m', m' < m ∧ W (i + 1) m' ys τ2 H3) ∧ tc τ2 H2 fun c H3 => if c = true then te τ2 H3 N else N0 H3)
def tCompF (k : Nat) (js : List Nat) (wi : TI) (g : TG) (tc : TT) (te : TE) : TE := fun σ H Q => wi σ H (CompGF k js g tc te σ Q)
section
variable {prog : Program} {w : World} {A : Around} {R : Result → Shared → Prop} {s : Shared}
theorem compLoop_if {elt target iter cnd : Expr} {scope : Scope} {pos : Pos} {it acc : Value} {env : Env} (I : Nat → Shared → Prop)
    (turn : ∀ n s, I n s → wpAny (model prog w) A (pyNext it) (fun r s₁ => match r with
      | none => R (.ok .next) s₁
      | some v => wpAny (model prog w) A (letOwnedTupleGo target it v) (fun _ s₁' => wpAny (model prog w) A (assign target env v) (fun _ s₂ => wpAny (model prog w) A (isTrue cnd env (eval cnd env)) (fun ok s₂' =>
          if ok = true then wpAny (model prog w) A (eval elt env) (fun x s₃ =>
            wpAny (model prog w) A (call (.builtin "list.append") [acc, x]) (fun _ s₄ => ∃ m, m < n ∧ I m s₄) (fun _ _ => False) s₃) (fun _ _ => False) s₂' else ∃ m, m < n ∧ I m s₂')
          (fun _ _ => False) s₂) (fun _ _ => False) s₁') (fun _ _ => False) s₁) (fun _ _ => False) s)
    (n : Nat) (h : I n s) :
    codeAny (model prog w) A (.compLoop (.ListComp elt [⟨target, iter, [cnd], 0⟩] scope pos) 0 it acc env) R s := by
  refine codeAny_loop rfl I (fun n s hI => ?_) n h
  show wpAny _ _ ((compTurn (.ListComp elt [⟨target, iter, [cnd], 0⟩] scope pos) 0 it acc env).onRaise (fun x => do noteFrame x env; theTreesLotGoes x)) _ _ s
  refine wpAny_noted ?_
  rw [compTurn_list]
  refine wpAny_bind (wpAny_standAt (wpAny_bind (wpAny_mono (turn n s hI) (fun r s₁ h₁ => ?_) fun _ _ h' => h'.elim)))
  cases r with
  | none => exact wpAny_pure h₁
  | some v =>
    refine wpAny_bind (wpAny_mono h₁ (fun _ s₁' h₁' => ?_) fun _ _ h' => h'.elim)
    refine wpAny_bind (wpAny_mono h₁' (fun _ s₂ h₂ => wpAny_bind (wpAny_tests_one (wpAny_mono h₂ (fun ok s₂' h₂' => ?_) fun _ _ h' => h'.elim))) fun _ _ h' => h'.elim)
    cases ok with
    | false => exact wpAny_pure ⟨rfl, h₂'⟩
    | true =>
      exact wpAny_bind (wpAny_bind (wpAny_mono h₂' (fun x s₃ h₃ => wpAny_bind (wpAny_mono h₃ (fun _ s₄ h₄ => wpAny_pure (wpAny_pure ⟨rfl, h₄⟩)) fun _ _ h' => h'.elim)) fun _ _ h' => h'.elim))
end
variable {X : Cx}
theorem comp_runF {elt tg iter cnd : Expr} {scope : Scope} {cl : List (Str × Addr)} {pos fpos : Pos} {fr own : List Str} {js : List Nat} {wi : TI} {g : TG} {tc : TT} {te : TE} {use : Option (Value → Sem Unit)} {Post : Value → Shared → Prop}
    {pins : List (Addr × Obj)} {s : Shared} {σ : L2.St} {H : Hp} {Q : VK}
    (hc : X.calm = true) (hi : PI X tg iter wi) (hclos : closureFor scope X.env = pure cl) (hcl : ∀ y c, cl.lookup y = some c → X.env.cells.lookup y = some c) (hfr : cl.map (·.1) = fr)
    (S : BScope X scope fr js)
    (hg : ∀ C s H fp, PG (blk X (own ++ fr) scope cl C s H fp) tg g) (ht : ∀ C s H fp, PT (blk X (own ++ fr) scope cl C s H fp) cnd tc) (he : ∀ C s H fp, PE (blk X (own ++ fr) scope cl C s H fp) elt te)
    (hs : ∀ x, foldedSetIterable iter X.env x = pure x)
    (I : L2.Inv X pins σ H s) (h : tCompF own.length js wi g tc te σ H Q)
    (hfin : ∀ (acc C : Addr) (s5 : Shared) (H' : Hp) (m : Str → Option Value), L2.Inv X pins σ H' s5 → s5.heap.Ns C m → Away X pins H' C → Q (.ref acc) H' → compPost (model X.prog X.w) X.A X.xe use Post (.ref acc) C (.ok .next) s5) :
    wpAny (model X.prog X.w) X.A (comprehension (.ListComp elt [⟨tg, iter, [cnd], 0⟩] scope pos) scope X.env fpos (newList []) false (eval iter X.env) use) Post X.xe s := by
  refine wpAny_comprehension_free (use := use) rfl hs hclos S.kind S.names (thn (hi pins s σ H _ I h) fun v s1 h1 => thn h1 fun itv s2 h2 => ?_)
  obtain ⟨it, fp, tn, J, H2, e, I2, T, st2, f2, W, ⟨m0, w0⟩, turn⟩ := h2
  subst e
  refine wpAny_newObj_type (wpAny_newFunctionEnv S.nocell (by intro y hy; simp at hy) (fun h₁ hns₁ hsb₁ => ?_) S.kind)
  dsimp only at hns₁ hsb₁ ⊢
  generalize hH2 : s2.heap.push { cls := .type "list", dict := none, data := .seq ([] : List Value).toArray } = G at hns₁ hsb₁ ⊢
  have hC : G.objs.size = s2.heap.objs.size + 1 := by rw [← hH2, Heap.size_push]
  have hDC : s2.heap.objs.size ≠ G.objs.size := by rw [hC]; exact Nat.ne_of_lt (Nat.lt_succ_self _)
  have below : ∀ b, b < s2.heap.objs.size → b ≠ G.objs.size ∧ b ≠ s2.heap.objs.size := fun b hb => ⟨by rw [hC]; exact Nat.ne_of_lt (Nat.lt_succ_of_lt hb), Nat.ne_of_lt hb⟩
  have old : ∀ b o, s2.heap.get? b = some o → h₁.get? b = some o := fun b o e => hsb₁.extBut b o (below b (Heap.lt_size e)).1 (Heap.get?_push_of_some _ (hH2 ▸ Heap.get?_push_of_some _ e))
  have hacc : h₁.get? s2.heap.objs.size = some { cls := .type "list", data := .seq ([] : List Value).toArray 0 } := hsb₁.extBut _ _ hDC (Heap.get?_push_of_some _ (hH2 ▸ Heap.get?_push_size _ rfl))
  -- the block's context
  let Y : Cx := blk X (own ++ fr) scope cl G.objs.size s2 H2 fp
  have fplt : ∀ b ∈ fp, b < s2.heap.objs.size := fun b hb => by obtain ⟨o, e, _⟩ := T.obj _ _ st2 b hb; exact Heap.lt_size e
  have okY : Y.Ok := by
    refine ⟨I2.ok.mod, S.kind, I2.ok.glob, I2.ok.blt, by show s2.heap.objs.size ≤ G.objs.size; omega, ?_, ?_, ?_, I2.ok.hd, I2.ok.frames, .inl rfl, ?_, I2.bs, Nat.le_trans I2.ok.bsz I2.sz, ?_, ?_, I2.stack, I2.stkFree⟩
    · exact fun x y c e1 e2 => I2.ok.inj x y c (hcl x c e1) (hcl y c e2)
    · intro x hx
      have hx' : (relabel scope X.env).names.lookup x = some .cell ∨ (relabel scope X.env).names.lookup x = some .free := hx
      have hm : ∃ k, (x, k) ∈ scope.names ∧ k = .free := by
        have aux : ∀ kk : NameKind, (kk = .cell ∨ kk = .free) → (relabel scope X.env).names.lookup x = some kk → ∃ k, (x, k) ∈ scope.names ∧ k = .free := by
          intro kk hk el
          obtain ⟨⟨n, k⟩, hmem, e⟩ := List.mem_map.mp (PySem.mem_of_lookup el)
          dsimp only at e
          split at e
          · rename_i hcond
            cases e
            refine ⟨k, hmem, ?_⟩
            simp only [Bool.and_eq_true, beq_iff_eq] at hcond
            exact hcond.1.1
          · cases e
            rcases hk with z | z
            · subst z; exact absurd rfl (S.nocell _ hmem)
            · exact ⟨_, hmem, z⟩
        rcases hx' with z | z
        · exact aux _ (.inl rfl) z
        · exact aux _ (.inr rfl) z
      obtain ⟨k, hmem, hk⟩ := hm
      exact mem_lookup_isSome (l := cl) (by rw [hfr]; exact S.free _ hmem hk)
    · exact fun x c e _ => nomatch e
    · refine fun b hb => ⟨?_, fun x c e => (f2 b hb).2.2.2.2.1 x c (hcl x c e)⟩
      show b ≠ G.objs.size
      exact (below b (fplt b hb)).1
    · intro b o e hb
      rcases (f2 b hb).2.2.2.1 with z | z
      · exact I2.ok.noex b o e z
      · exact absurd (Nat.lt_of_lt_of_le (Heap.lt_size e) (Nat.le_trans I2.ok.bsz z)) (Nat.lt_irrefl _)
    · intro b hb hf
      rcases List.mem_cons.mp (I2.stkSub b hf) with z | z
      · exact (f2 b hb).2.1 z
      · exact (f2 b hb).2.2.1 z
  have lenσ : (σ0 own.length js σ).length = (own ++ fr).length := by unfold σ0; simp [S.len]
  have IY : Inv Y [] (σ0 own.length js σ) H2 { s2 with heap := h₁, toks := s2.toks + ([] : List (Str × Value)).length } := by
    refine ⟨okY, rfl, I2.bare, Un.kept old, ⟨_, hns₁, ?_⟩, ?_, ?_, ?_, fun p hp => absurd (show p ∈ ([] : List (Addr × Obj)) from hp) (by simp), I2.hok.kept old, lenσ⟩
    · intro i x v hN hv _
      have hN' : (own ++ fr)[i]? = some x := hN
      unfold σ0 at hv
      by_cases hlt : i < own.length
      · rw [List.getElem?_append_left (by simpa using hlt), List.getElem?_replicate] at hv
        split at hv <;> cases hv
      · rw [List.getElem?_append_right (by simpa using Nat.le_of_not_lt hlt), List.length_replicate, List.getElem?_map] at hv
        rw [List.getElem?_append_right (Nat.le_of_not_lt hlt)] at hN'
        cases ej : js[i - own.length]? with
        | none => rw [ej] at hv; cases hv
        | some j =>
          rw [ej] at hv
          have hσ : σ[j]? = some (some v) := by
            have hv' : (σ[j]?).join = some v := Option.some.inj hv
            cases q : σ[j]? with
            | none => rw [q] at hv'; cases hv'
            | some o => rw [q] at hv'; have : o = some v := hv'; rw [this]
          obtain ⟨hNj, hk, hkr⟩ := S.at_ _ j x ej hN'
          obtain ⟨m, hn, hl⟩ := I2.loc
          obtain ⟨u, ru, lk⟩ := hl j x v hNj hσ (.inr (.inl hk))
          refine ⟨u, ru, .inr ?_⟩
          rcases lk with ⟨k1, _⟩ | ⟨_, c, ec, ic⟩
          · rw [hk] at k1; cases k1
          · obtain ⟨c', hc'⟩ := mem_lookup_isSome (y := x) (l := cl) (by rw [hfr]; exact List.mem_of_getElem? hN')
            have : c' = c := by have := hcl x c' hc'; rw [ec] at this; exact (Option.some.inj this).symm
            subst this
            refine ⟨?_, c', hc', ?_⟩
            · show (relabel scope X.env).names.lookup x = some .cell ∨ (relabel scope X.env).names.lookup x = some .free
              exact .inl hkr
            · obtain ⟨oc, hoc, hd⟩ := ic
              exact ⟨oc, old _ _ hoc, hd⟩
    · intro x c e
      obtain ⟨v, oc, hoc, hd⟩ := I2.cell x c (hcl x c e)
      exact ⟨v, oc, old _ _ hoc, hd⟩
    · exact I2.hok.fresh (by show s2.heap.objs.size ≤ G.objs.size; omega)
    · exact fun x c e => I2.freeC x c (hcl x c e)
  have accfs : s2.heap.objs.size ∉ frs X.stack := fun hf => by
    rcases List.mem_cons.mp (I2.stkSub _ hf) with z | z
    · exact absurd (by rw [← z] ; exact Nat.le_refl _ : s2.heap.objs.size ≤ X.env.locals) (Nat.not_le.mpr I2.lt)
    · exact I2.nofs (Nat.le_refl _) z
  have acccell : ∀ x c, cl.lookup x = some c → c ≠ s2.heap.objs.size := fun x c e z => by
    obtain ⟨v, oc, hoc, _⟩ := I2.cell x c (hcl x c e)
    exact absurd (Heap.lt_size hoc) (by rw [z]; exact Nat.lt_irrefl _)
  -- records that turn
  have fpY : ∀ {H' : Hp} {pl : List (Addr × Obj)}, (∀ b ∈ fp, H' b = none) → (∀ p ∈ pl, p.1 = s2.heap.objs.size) → ∀ b ∈ fp, FpOk Y pl H' b := fun {H' pl} hn hp b hb =>
    ⟨hn b hb, (below b (fplt b hb)).1, okY.exfs b hb, .inl hb, fun x c e => (f2 b hb).2.2.2.2.1 x c (hcl x c e), fun p hpp => by
      have hpp' : p ∈ pl := by simpa [Y, blk] using hpp
      rw [hp p hpp']; exact Ne.symm (below b (fplt b hb)).2⟩
  have loop : ∀ s₃ : Shared, Inv Y [] (σ0 own.length js σ) H2 s₃ → tn 0 s₃.heap → s₃.heap.get? s2.heap.objs.size = some { cls := .type "list", data := .seq ([] : List Value).toArray 0 } →
      codeAny (model X.prog X.w) X.A (.compLoop (.ListComp elt [⟨tg, iter, [cnd], 0⟩] scope pos) 0 (.ref it) (.ref s2.heap.objs.size) (compEnvC scope cl G.objs.size X.env))
        (compPost (model X.prog X.w) X.A X.xe use Post (.ref s2.heap.objs.size) G.objs.size) s₃ := by
    intro s₃ I3 st3 ha3
    refine compLoop_if (fun n s' => ∃ i ys τ H' its k, Inv Y [(s2.heap.objs.size, { cls := .type "list", data := .seq its.toArray k })] τ H' s' ∧ tn i s'.heap ∧ (∀ b ∈ fp, H' b = none) ∧ Vals ys its ∧ ys.length ≤ sizeLine ∧ W i n ys τ H') ?_ m0 ?_
    · rintro n s4 ⟨i, ys, τ, H4, its, k, I4, st4, fr4, vl, hz, w4⟩
      have pin4 := I4.pin (s2.heap.objs.size, { cls := .type "list", data := .seq its.toArray k }) (by simp [Y, blk])
      rcases turn i n ys τ H4 w4 with ⟨stop, qn⟩ | ⟨go, hlt, step⟩
      · refine thn (T.done Y rfl rfl rfl hc i _ s4 τ H4 _ I4 (fpY fr4 (by simp)) st4 stop) fun r s5 ⟨hr, I5⟩ => ?_
        subst hr
        show compPost _ _ _ _ _ _ _ _ _
        obtain ⟨m5, hn5, _⟩ := I5.loc
        have pin5 := I5.pin (s2.heap.objs.size, { cls := .type "list", data := .seq its.toArray k }) (by simp [Y, blk])
        have nacc : H4 s2.heap.objs.size = none := pin5.2.1
        have B := I5.base
        have nC : H4 G.objs.size = none := I5.free
        refine hfin s2.heap.objs.size G.objs.size s5 (upd H4 s2.heap.objs.size (.lst ys)) m5 ?_ hn5 ?_ (qn _ nacc)
        · refine I2.call' (s' := s5) (ch := fp) I5.os ⟨B.keep, B.slot, fun b o e n hx => ?_, B.there, fun b xs e => ?_, fun b o u e => ?_, fun b ps e => ?_⟩ ?_ I5.bare ?_
          · rw [upd_ne (below b (Heap.lt_size e)).2]; exact B.free b o e n hx
          · have e1 := B.tups b xs e
            rw [upd_ne (ne_of_none e1 nacc)]; exact e1
          · have e1 := B.frzs b o u e
            rw [upd_ne (ne_of_none e1 nacc)]; exact e1
          · obtain ⟨more, e1⟩ := B.tbls b ps e
            exact ⟨more, by rw [upd_ne (ne_of_none e1 nacc)]; exact e1⟩
          · intro b u e
            by_cases hb : b = s2.heap.objs.size
            · subst hb
              rw [upd_same] at e; cases e
              exact ⟨hz, its, k, vl, pin5.1⟩
            · rw [upd_ne hb] at e
              exact (I5.hok b u e).stay (fun c v _ q => q) (fun c q => by rw [upd_ne (ne_of_none q nacc)]; exact q) fun c xs q => by rw [upd_ne (ne_of_none q nacc)]; exact q
          · exact fun b hb => ⟨(f2 b hb).2.2.2.1, (f2 b hb).2.1, (f2 b hb).2.2.2.2.1, (f2 b hb).2.2.2.2.2⟩
        · have hge : s2.heap.objs.size ≤ G.objs.size := by omega
          refine ⟨by rw [upd_ne (Ne.symm hDC)]; exact nC, ?_, Nat.le_trans I2.sz hge, fun x c e z => ?_, fun p hp z => ?_⟩
          · exact Nat.ne_of_gt (Nat.lt_of_lt_of_le I2.lt hge)
          · obtain ⟨v, oc, hoc, _⟩ := I2.cell x c e
            exact absurd (Nat.lt_of_lt_of_le (Heap.lt_size hoc) hge) (by rw [z]; exact Nat.lt_irrefl _)
          · exact absurd (Nat.lt_of_lt_of_le (Heap.lt_size (I2.pin p hp).1) hge) (by rw [z]; exact Nat.lt_irrefl _)
      · refine thn (T.item Y rfl rfl rfl hc i _ s4 τ H4 _ I4 (fpY fr4 (by simp)) st4 go) fun r s5 ⟨u, hr, h5⟩ => ?_
        subst hr
        refine thn h5 fun _ s6 ⟨x, H6, I6, r6, y6, st6, fr6⟩ => ?_
        have I6' := I6.pinned (fpY fr6 (by simp)) (T.obj _ _ st6)
        refine thn (hg _ _ _ _ _ s6 τ H6 x u _ I6' r6 (step x H6 y6)) fun _ s7 ⟨τ7, H7, I7, N, N0, hN, hN0, q7⟩ => ?_
        refine thn (ht _ _ _ _ _ s7 τ7 H7 _ I7 q7) fun ok s7' ⟨H7', I7', q7'⟩ => ?_
        cases ok with
        | false =>
          obtain ⟨m', hm', w8⟩ := hN0 _ q7'
          have pin8 := I7'.pin (s2.heap.objs.size, { cls := .type "list", data := .seq its.toArray k }) (by simp [blk])
          have pinfp : ∀ b ∈ fp, ∀ o, s6.heap.get? b = some o → s7'.heap.get? b = some o ∧ H7' b = none := fun b hb o e => by
            have := I7'.pin (b, o) (List.mem_append_right _ (List.mem_append_right _ (mem_pinsAt hb e)))
            exact ⟨this.1, this.2.1⟩
          refine ⟨m', hm', i + 1, ys, τ7, H7', its, k, I7'.pins_of ?_, T.keep _ _ _ st6 fun b hb o e => (pinfp b hb o e).1, fun b hb => ?_, vl, by omega, w8⟩
          · intro p hp
            rw [List.mem_singleton.mp hp]
            exact pin8
          · obtain ⟨o, e, _⟩ := T.obj _ _ st6 b hb
            exact (pinfp b hb o e).2
        | true =>
        refine thn (he _ _ _ _ _ s7' τ7 H7' _ I7' q7') fun v' s8 ⟨y, H8, I8, r8, n8⟩ => ?_
        obtain ⟨m', hm', w8⟩ := hN _ _ n8
        have pin8 := I8.pin (s2.heap.objs.size, { cls := .type "list", data := .seq its.toArray k }) (by simp [blk])
        have pinfp : ∀ b ∈ fp, ∀ o, s6.heap.get? b = some o → s8.heap.get? b = some o ∧ H8 b = none := fun b hb o e => by
          have := I8.pin (b, o) (List.mem_append_right _ (List.mem_append_right _ (mem_pinsAt hb e)))
          exact ⟨this.1, this.2.1⟩
        refine wpAny_list_append_plain (items := its.toArray) ⟨k, pin8.1⟩ (fun h' ha' hs' => ?_) (by have := vl.length; simp; omega)
        obtain ⟨k', ha'⟩ := ha'
        have I9 : Inv Y [] τ7 H8 { s8 with heap := h' } := by
          refine (I8.pins_of (pins' := []) (by simp)).turned (t' := s8.toks) (it := s2.heap.objs.size) (fun b o hb e => (hs'.2 b hb).trans e) pin8.2.1 ?_ (.inr (Nat.le_refl _)) (fun x c e => acccell x c e) (fun p hp => absurd (show p ∈ ([] : List (Addr × Obj)) from by simpa [Y, blk] using hp) (by simp))
          exact hDC
        have ea : (its.toArray.push v') = (its ++ [v']).toArray := by simp
        rw [ea] at ha'
        refine ⟨m', hm', i + 1, ys ++ [y], τ7, H8, its ++ [v'], k', I9.pins_of ?_, T.keep _ _ _ st6 fun b hb o e => (hs'.2 b (below b (fplt b hb)).2).trans (pinfp b hb o e).1, fun b hb => ?_, vl.append (.cons r8 .nil), ?_, w8⟩
        · intro p hp
          rw [List.mem_singleton.mp hp]
          exact ⟨ha', pin8.2.1, hDC, accfs, fun v z => by cases z⟩
        · obtain ⟨o, e, _⟩ := T.obj _ _ st6 b hb
          exact (pinfp b hb o e).2
        · rw [List.length_append, List.length_singleton]; omega
    · refine ⟨0, [], σ0 own.length js σ, H2, [], 0, I3.pins_of ?_, st3, fun b hb => (f2 b hb).1, .nil, Nat.zero_le _, w0⟩
      intro p hp
      rw [List.mem_singleton.mp hp]
      exact ⟨ha3, I2.hok.fresh (Nat.le_refl _), hDC, accfs, fun v z => by cases z⟩
  have st1 : tn 0 h₁ := T.keep _ _ _ st2 fun b _ o e => old b o e
  exact codeAny_compStart_list (loop _ IY st1 hacc) (T.self _ 0 _ _ _ st1 (loop _ IY st1 hacc))

theorem pe_compF {elt tg iter cnd : Expr} {scope : Scope} {cl : List (Str × Addr)} {pos : Pos} {fr own : List Str} {js : List Nat} {wi : TI} {g : TG} {tc : TT} {te : TE}
    (hc : X.calm = true) (hi : PI X tg iter wi) (hclos : closureFor scope X.env = pure cl) (hcl : ∀ y c, cl.lookup y = some c → X.env.cells.lookup y = some c) (hfr : cl.map (·.1) = fr)
    (S : BScope X scope fr js)
    (hg : ∀ C s H fp, PG (blk X (own ++ fr) scope cl C s H fp) tg g) (ht : ∀ C s H fp, PT (blk X (own ++ fr) scope cl C s H fp) cnd tc) (he : ∀ C s H fp, PE (blk X (own ++ fr) scope cl C s H fp) elt te)
    (hs : ∀ x, foldedSetIterable iter X.env x = pure x := by intro _; rfl) :
    PE X (.ListComp elt [⟨tg, iter, [cnd], 0⟩] scope pos) (tCompF own.length js wi g tc te) := by
  intro pins s σ H Q I h
  rw [eval_ListComp]
  refine comp_runF (use := none) hc hi hclos hcl hfr S hg ht he hs I h fun acc C s5 H' m I5 hn aw q => ?_
  exact ⟨m, hn, fun h' hs' => ⟨.ref acc, H', I5.turned (t' := s5.toks) (fun b o hb e => (hs'.2 b hb).trans e) aw.free aw.loc (.inr aw.new) aw.cell aw.pin, rfl, q⟩⟩
theorem qe_compF {elt tg iter cnd : Expr} {scope : Scope} {cl : List (Str × Addr)} {pos : Pos} {fr own : List Str} {js : List Nat} {wi : TI} {g : TG} {tc : TT} {te : TE}
    (hc : X.calm = true) (hi : QI X tg iter wi) (hclos : closureFor scope X.env = pure cl) (hcl : ∀ y c, cl.lookup y = some c → X.env.cells.lookup y = some c) (hfr : cl.map (·.1) = fr)
    (S : BScope X scope fr js)
    (hg : ∀ C s H fp, QG (blk X (own ++ fr) scope cl C s H fp) tg g) (ht : ∀ C s H fp, QT (blk X (own ++ fr) scope cl C s H fp) cnd tc) (he : ∀ C s H fp, QE (blk X (own ++ fr) scope cl C s H fp) elt te)
    (hs : ∀ x, foldedSetIterable iter X.env x = pure x := by intro _; rfl) :
    QE X (.ListComp elt [⟨tg, iter, [cnd], 0⟩] scope pos) (tCompF own.length js wi g tc te) := ⟨pe_compF hc hi.h hclos hcl hfr S (fun C s H fp => (hg C s H fp).h) (fun C s H fp => (ht C s H fp).h) (fun C s H fp => (he C s H fp).h) hs⟩
section
variable {js : List Nat} {tc : TT} {te : TE} {σ : L2.St} {H : Hp} {Q : VK} {K : PySem.W.Frag}
abbrev CompWF (J : It) (js : List Nat) (tc : TT) (te : TE) (σ : L2.St) (H1 : Hp) (Q : VK) : Prop := CompGF 1 js (gName 0) tc te σ Q J H1
theorem compF_gen {J : It} {n : Nat} (hn : n ≤ sizeLine) (item : Nat → V → Prop) (Pv : Nat → List V → Hp → Prop) (h0 : Pv 0 [] H) (hgo : ∀ i ys H, i < n → Pv i ys H → J.go i H) (hst : ∀ ys H, Pv n ys H → J.stop n H)
    (hy : ∀ i ys H x H', i < n → Pv i ys H → J.yld i H x H' → H' = H ∧ item i x)
    (hs : ∀ i ys H x, i < n → Pv i ys H → item i x → tc (some x :: frees js σ) H fun c H3 => if c = true then te (some x :: frees js σ) H3 (fun v H4 => Pv (i + 1) (ys ++ [v]) H4) else Pv (i + 1) ys H3)
    (hd : ∀ ys H, Pv n ys H → ∀ p, H p = none → Q (.ref p) (upd H p (.lst ys))) : CompWF J js tc te σ H Q := by
  refine ⟨fun i m ys τ H => m = n - i ∧ i ≤ n ∧ ys.length ≤ i ∧ Pv i ys H ∧ ∃ o, τ = o :: frees js σ, ⟨n, by simp, Nat.zero_le _, Nat.le_refl _, h0, none, rfl⟩, ?_⟩
  rintro i m ys τ H ⟨rfl, hi, hl, p, o, rfl⟩
  by_cases hlt : i < n
  · refine .inr ⟨hgo i ys H hlt p, by omega, fun x H' y => ?_⟩
    obtain ⟨e, hx⟩ := hy i ys H x H' hlt p y
    subst e
    exact ⟨fun v H3 => Pv (i + 1) (ys ++ [v]) H3, fun H3 => Pv (i + 1) ys H3, fun v H3 p3 => ⟨n - (i + 1), by omega, rfl, hlt, by simp; omega, p3, _, rfl⟩, fun H3 p3 => ⟨n - (i + 1), by omega, rfl, hlt, by omega, p3, _, rfl⟩, hs i ys _ x hlt p hx⟩
  · have e : i = n := by omega
    subst e
    exact .inl ⟨hst ys H p, hd ys H p⟩
theorem compF_list {a : Addr} {xs : List V} (hn : xs.length ≤ sizeLine) (Pv : Nat → List V → Hp → Prop) (h0 : Pv 0 [] H) (hl : ∀ i ys H, Pv i ys H → SqL K H a xs)
    (hs : ∀ i ys H x, xs[i]? = some x → Pv i ys H → tc (some x :: frees js σ) H fun c H3 => if c = true then te (some x :: frees js σ) H3 (fun v H4 => Pv (i + 1) (ys ++ [v]) H4) else Pv (i + 1) ys H3)
    (hd : ∀ ys H, Pv xs.length ys H → ∀ p, H p = none → Q (.ref p) (upd H p (.lst ys))) : CompWF (Itl K a) js tc te σ H Q :=
  compF_gen hn (fun i x => xs[i]? = some x) Pv h0 (fun i ys H hi p => ⟨xs, xs[i], hl _ _ _ p, by simp [hi]⟩) (fun ys H p => ⟨xs, hl _ _ _ p, Nat.le_refl _⟩) (fun i ys H x H' _ p y => ⟨y.1, y.2 xs (hl _ _ _ p)⟩) (fun i ys H x _ p hx => hs i ys H x hx p) hd
theorem compF_tup {a : Addr} {xs : List V} (hn : xs.length ≤ sizeLine) (Pv : Nat → List V → Hp → Prop) (h0 : Pv 0 [] H) (hl : ∀ i ys H, Pv i ys H → SqT K H a xs)
    (hs : ∀ i ys H x, xs[i]? = some x → Pv i ys H → tc (some x :: frees js σ) H fun c H3 => if c = true then te (some x :: frees js σ) H3 (fun v H4 => Pv (i + 1) (ys ++ [v]) H4) else Pv (i + 1) ys H3)
    (hd : ∀ ys H, Pv xs.length ys H → ∀ p, H p = none → Q (.ref p) (upd H p (.lst ys))) : CompWF (Itt K a) js tc te σ H Q :=
  compF_gen hn (fun i x => xs[i]? = some x) Pv h0 (fun i ys H hi p => ⟨xs, xs[i], hl _ _ _ p, by simp [hi]⟩) (fun ys H p => ⟨xs, hl _ _ _ p, Nat.le_refl _⟩) (fun i ys H x H' _ p y => ⟨y.1, y.2 xs (hl _ _ _ p)⟩) (fun i ys H x _ p hx => hs i ys H x hx p) hd
end
/-- the cells that are not None -/
def okC (x y : Option Int) : List Int := (match x with | some i => [i] | none => []) ++ (match y with | some i => [i] | none => [])
/-! ### max of a list -/
theorem call_maxL (hc : X.calm = true) : CallR X (.builtin "max") (fun xs H Q => ∃ (p : Addr) (ns : List Int), xs = [.ref p] ∧ H p = some (.lst (ns.map V.int)) ∧ 0 < ns.length ∧ ∀ M, M ∈ ns → (∀ a ∈ ns, a ≤ M) → Q (.int M) H) := by
  intro pins s σ H xs us Q I r h
  obtain ⟨p, ns, rfl, hH, hne, q⟩ := h
  obtain ⟨u, rfl, ru⟩ := vals1 r
  cases ru
  obtain ⟨z, its, n, rv, hl, e⟩ := I.lstM hH
  have hi : IntsAre its ns := intsAre_of rv
  obtain ⟨ys, ey⟩ := hi.allInts.items
  have hns : ns = ys.toList.map (·.1) := by rw [← hi.numsOf, ← nums_intItems, ← ey]
  have hsz : 0 < ys.size := by
    have h3 := hne; rw [hns, List.length_map, Array.length_toList] at h3; exact h3
  have hL : s.heap.IsList p (intItems ys) := by
    rw [← ey]
    exact ⟨_, e, rfl, ⟨n, rfl⟩⟩
  refine max_intList (I.ok.hd hc) hL hsz fun v h' tk hv hk => ?_
  obtain ⟨t, rfl⟩ := intItems_at hv
  obtain ⟨h1, h2⟩ := argBest_gt (numAt ys) (ys.size - 1)
  refine ⟨.int (numAt ys (argBest (fun i j => decide (numAt ys i > numAt ys j)) (ys.size - 1))), H, I.kept (t' := tk) hk, ⟨_, rfl⟩, q _ ?_ fun a ha => ?_⟩
  · rw [hns, numAt_eq]; exact PySem.getD_mem (by rw [List.length_map, Array.length_toList]; omega)
  · rw [hns] at ha
    obtain ⟨j, hj, rfl⟩ := mem_getD ha
    rw [List.length_map, Array.length_toList] at hj
    rw [← numAt_eq]; exact h2 j (by omega)
/-! ### dicts with written keys -/
section
variable {o i e value : Expr} {pos pos' tpos : Pos} {td ty tv : TE}
theorem qe_dget {k : Nat} (hr : Room k X.A) (ho : QE X o td) (hi : QE X i ty) (hs : NoSl i := by exact fun _ _ => rfl) : QE X (.Subscript o i pos) (tDGet td ty) := ⟨pe_dget (by have := hr.un; omega) ho.h hi.h hs⟩
theorem qs_dputK {k : Nat} (hr : Room k X.A) (ho : QE X o td) (hi : QE X i ty) (hv : QE X value tv) (hs : swapsWith value (some (.Subscript o i pos')) pos.line X.env = pure false := by rfl) :
    QS X (.Assign [.Subscript o i pos'] value pos) (sDPut td ty tv) := ⟨ps_dput (by have := hr.un; omega) ho.h hi.h hv.h hs⟩
structure QPs (X : Cx) (pos : Pos) (keys : List (Option Expr)) (values : List Expr) (trs : List (TE × TE)) : Prop where
  h : PPs X pos keys values trs
theorem qps_nil : QPs X pos [] [] [] := ⟨pps_nil⟩
theorem qps_cons {k v : Expr} {ks : List (Option Expr)} {vs : List Expr} {tk tv : TE} {trs : List (TE × TE)} (hk : QE X k tk) (hv : QE X v tv) (hr : QPs X pos ks vs trs) : QPs X pos (some k :: ks) (v :: vs) ((tk, tv) :: trs) := ⟨pps_cons hk.h hv.h hr.h⟩
theorem qe_disp {keys : List (Option Expr)} {values : List Expr} {trs : List (TE × TE)} (h : QPs X pos keys values trs) (hall : keys.all (·.isSome) = true := by rfl) (hl : keys.length = values.length := by rfl) (h0 : keys ≠ [] := by (intro z; cases z))
    (h15 : keys.length ≤ 15 := by decide) : QE X (.Dict keys values pos) (tDisp trs) := ⟨pe_disp h.h hall hl h0 h15⟩
end
theorem valV_at {k : Key} {v : V} : ∀ {kvs : List (Key × V)} (i : Nat), kvs[i]? = some (k, v) → (kvs.map (·.1)).Nodup → valV kvs k = some v
  | [], i, h, _ => by cases h
  | p :: r, 0, h, _ => by
    cases Option.some.inj h
    exact valV_pos rfl
  | p :: r, i + 1, h, nd => by
    have h' : r[i]? = some (k, v) := h
    have nd' : p.1 ∉ r.map (·.1) ∧ (r.map (·.1)).Nodup := List.nodup_cons.mp nd
    have hm : k ∈ r.map (·.1) := List.mem_map.mpr ⟨(k, v), List.mem_of_getElem? h', rfl⟩
    have ne : p.1 ≠ k := fun z => nd'.1 (z ▸ hm)
    rw [valV_neg ne]
    exact valV_at i h' nd'.2
theorem putK_set {k : Key} {v u : V} {kvs : List (Key × V)} (i : Nat) (h : kvs[i]? = some (k, u)) (nd : (kvs.map (·.1)).Nodup) : putK kvs k v = kvs.set i (k, v) := by
  have hil : i < kvs.length := (List.getElem?_eq_some_iff.mp h).1
  have hik := (List.getElem?_eq_some_iff.mp h).2
  unfold putK
  rw [if_pos]
  · refine List.ext_getElem (by simp) fun j h1 h2 => ?_
    rw [List.getElem_map, List.getElem_set]
    have hj : j < kvs.length := by simpa using h1
    by_cases e : i = j
    · subst e
      rw [if_pos (by rw [hik]), if_pos rfl, hik]
    · rw [if_neg e, if_neg]
      intro z
      have h3 : (kvs.map (·.1))[i]'(by simpa using hil) = (kvs.map (·.1))[j]'(by simpa using hj) := by rw [List.getElem_map, List.getElem_map, hik, z]
      exact e ((List.getElem_inj nd).mp h3)
  · rw [List.any_eq_true]
    exact ⟨kvs[i], List.getElem_mem hil, by rw [hik]; exact decide_eq_true rfl⟩
theorem putK_no {k : Key} {v : V} {kvs : List (Key × V)} (h : k ∉ kvs.map (·.1)) : putK kvs k v = kvs ++ [(k, v)] := by
  unfold putK
  rw [if_neg]
  intro z
  obtain ⟨p, hp, e⟩ := List.any_eq_true.mp z
  exact h (List.mem_map.mpr ⟨p, hp, of_decide_eq_true e⟩)
end L3

namespace L3
open PySem PySem.Spec PyProof.Rows L2
/-! ### what the law keeps of a button -/
def lawD (B : Bt) (lc : Addr) : List (Key × V) := [(.inr "count", .int B.cnt), (.inr "bound", .int B.bnd), (.inr "cells", .ref lc), (.inr "step", .int B.step)]
def lawK : List Key := [.inr "count", .inr "bound", .inr "cells", .inr "step"]
theorem lawK_nd : lawK.Nodup := by decide +kernel
theorem lawD_nd (B : Bt) (lc : Addr) : ((lawD B lc).map (·.1)).Nodup := lawK_nd
structure LawAt (H : Hp) (d lc : Addr) (B : Bt) : Prop where
  di : H d = some (.dK (lawD B lc))
  cs : H lc = some (.lst [oV B.x, oV B.y])
section
variable {H H' : Hp} {d lc : Addr} {B : Bt}
theorem LawAt.get (a : LawAt H d lc B) (i : Nat) {k : Key} {v : V} (h : (lawD B lc)[i]? = some (k, v)) : DGet H d (kV k) (some v) := by
  have := DGet.k (k := k) a.di
  rw [valV_at i h (lawD_nd ..)] at this
  exact this
theorem LawAt.g_count (a : LawAt H d lc B) : DGet H d (.str "count") (some (.int B.cnt)) := a.get (k := .inr "count") 0 rfl
theorem LawAt.g_bound (a : LawAt H d lc B) : DGet H d (.str "bound") (some (.int B.bnd)) := a.get (k := .inr "bound") 1 rfl
theorem LawAt.g_cells (a : LawAt H d lc B) : DGet H d (.str "cells") (some (.ref lc)) := a.get (k := .inr "cells") 2 rfl
theorem LawAt.g_step (a : LawAt H d lc B) : DGet H d (.str "step") (some (.int B.step)) := a.get (k := .inr "step") 3 rfl
theorem LawAt.p_count (a : LawAt H d lc B) (z : Int) : DPut H d (.str "count") (.int z) (upd H d (.dK (lawD { B with cnt := z } lc))) := by
  have := DPut.k (k := .inr "count") (v := .int z) a.di (Nat.lt_of_le_of_lt (show 4 ≤ 100 by decide) (by decide))
  rw [putK_set 0 rfl (lawD_nd ..)] at this
  exact this
theorem LawAt.p_bound (a : LawAt H d lc B) (z : Int) : DPut H d (.str "bound") (.int z) (upd H d (.dK (lawD { B with bnd := z } lc))) := by
  have := DPut.k (k := .inr "bound") (v := .int z) a.di (Nat.lt_of_le_of_lt (show 4 ≤ 100 by decide) (by decide))
  rw [putK_set 1 rfl (lawD_nd ..)] at this
  exact this
theorem LawAt.ne (a : LawAt H d lc B) : d ≠ lc := ne_of a.di a.cs (by intro z; cases z)
theorem LawAt.upd_d (a : LawAt H d lc B) (B' : Bt) (hx : B'.x = B.x) (hy : B'.y = B.y) : LawAt (upd H d (.dK (lawD B' lc))) d lc B' := ⟨upd_same, by rw [upd_ne a.ne.symm, hx, hy]; exact a.cs⟩
theorem LawAt.mv {S : List Addr} (a : LawAt H d lc B) (m : Mv S H H') (hd : d ∉ S) (hc : lc ∉ S) : LawAt H' d lc B := ⟨m _ _ hd a.di, m _ _ hc a.cs⟩
theorem LawAt.same (a : LawAt H d lc B) (s : Same H H') : LawAt H' d lc B := ⟨s _ _ a.di, s _ _ a.cs⟩
end
theorem merge_law (B : Bt) (lc : Addr) : mergeK [] (lawD B lc) = lawD B lc := by
  show putK (putK (putK (putK ([] : List (Key × V)) (Sum.inr "count") (.int B.cnt)) (Sum.inr "bound") (.int B.bnd)) (Sum.inr "cells") (.ref lc)) (Sum.inr "step") (.int B.step) = _
  rw [putK_no (k := .inr "count") (kvs := []) (by intro z; cases z), putK_no (k := .inr "bound") (fun z => (by decide +kernel : ∀ k ∈ lawK.take 1, k ≠ (Sum.inr "bound" : Key)) _ z rfl), putK_no (k := .inr "cells") (fun z => (by decide +kernel : ∀ k ∈ lawK.take 2, k ≠ (Sum.inr "cells" : Key)) _ z rfl), putK_no (k := .inr "step") (fun z => (by decide +kernel : ∀ k ∈ lawK.take 3, k ≠ (Sum.inr "step" : Key)) _ z rfl)]
  rfl
def zB (st : Int) : Bt := ⟨"", [], [], 0, st, 0, 0, some 0, none⟩
def spBegun : Sp := fun vs H Q _ => ∃ st : Int, vs = [.int st] ∧ ∀ d lc H', H d = none → H lc = none → Same H H' → LawAt H' d lc (zB st) → Q (.ref d) H'
def spPressed : Sp := fun vs H Q _ => ∃ (d lc : Addr) (B : Bt), vs = [.ref d] ∧ LawAt H d lc B ∧ B.cnt < 4096 ∧ ∀ H', Mv [d, lc] H H' → LawAt H' d lc B.pr → Q (.int B.cnt) H'
/-- the same as the law keeps it -/
theorem LawAt.eqv {H : Hp} {d lc : Addr} {B B' : Bt} (a : LawAt H d lc B) (h1 : B'.cnt = B.cnt) (h2 : B'.bnd = B.bnd) (h3 : B'.step = B.step) (h4 : B'.x = B.x) (h5 : B'.y = B.y) : LawAt H d lc B' :=
  ⟨by unfold lawD; rw [h1, h2, h3]; exact a.di, by rw [h4, h5]; exact a.cs⟩
/-- what always holds of a button -/
structure BtOk (B : Bt) : Prop where
  c0 : 0 ≤ B.cnt
  cb : B.cnt ≤ B.bnd
  bm : B.bnd ≤ 4096
  s1 : 1 ≤ B.step
  eq : B.x = some B.bnd ∨ B.y = some B.bnd
  hx : ∀ v, B.x = some v → 0 ≤ v ∧ v ≤ B.bnd
  hy : ∀ v, B.y = some v → 0 ≤ v ∧ v ≤ B.bnd
theorem BtOk.new {nm : Str} {t ks : List Int} {age step : Int} (h : 1 ≤ step) : BtOk ⟨nm, t, ks, age, step, 0, 0, some 0, none⟩ :=
  ⟨Int.le_refl _, Int.le_refl _, by show (0 : Int) ≤ 4096; decide, h, .inl rfl, fun v e => by cases e; exact ⟨Int.le_refl _, Int.le_refl _⟩, fun v e => by cases e⟩
theorem BtOk.pr {B : Bt} (h : BtOk B) (hc : B.cnt < 4096) : BtOk B.pr := by
  obtain ⟨c0, cb, bm, s1, eq, hx, hy⟩ := h
  unfold Bt.pr
  by_cases m : B.mw = true
  · rw [if_pos m]
    have hm : B.cnt = B.bnd := by
      unfold Bt.mw at m
      rw [Bool.and_eq_true] at m
      exact of_decide_eq_true m.1
    have n1 : B.bnd + 1 ≤ B.nb := by unfold Bt.nb; split <;> omega
    have n2 : B.nb ≤ 4096 := by unfold Bt.nb; split <;> omega
    unfold Bt.wr
    by_cases e : B.x = some B.bnd
    · rw [if_pos e]
      refine ⟨by show 0 ≤ B.cnt + 1; omega, by show B.cnt + 1 ≤ B.nb; omega, n2, s1, .inr rfl, fun v q => ?_, fun v q => ?_⟩
      · have := hx v q; show 0 ≤ v ∧ v ≤ B.nb; omega
      · have q' : some B.nb = some v := q
        cases q'; show 0 ≤ B.nb ∧ B.nb ≤ B.nb; omega
    · rw [if_neg e]
      refine ⟨by show 0 ≤ B.cnt + 1; omega, by show B.cnt + 1 ≤ B.nb; omega, n2, s1, .inl rfl, fun v q => ?_, fun v q => ?_⟩
      · have q' : some B.nb = some v := q
        cases q'; show 0 ≤ B.nb ∧ B.nb ≤ B.nb; omega
      · have := hy v q; show 0 ≤ v ∧ v ≤ B.nb; omega
  · rw [if_neg m]
    have hm : B.cnt ≠ B.bnd := fun z => m (by unfold Bt.mw; rw [decide_eq_true z, decide_eq_false (by omega : ¬ 4096 ≤ B.cnt)]; rfl)
    exact ⟨by show 0 ≤ B.cnt + 1; omega, by show B.cnt + 1 ≤ B.bnd; omega, bm, s1, eq, hx, hy⟩
theorem BtOk.ok {B : Bt} (h : BtOk B) : B.bnd ∈ okC B.x B.y ∧ 0 < (okC B.x B.y).length ∧ ∀ a ∈ okC B.x B.y, a ≤ B.bnd := by
  obtain ⟨c0, cb, bm, s1, eq, hx, hy⟩ := h
  have hm : B.bnd ∈ okC B.x B.y := by
    unfold okC
    rcases eq with e | e
    · rw [e]; exact List.mem_append_left _ (List.mem_singleton.mpr rfl)
    · rw [e]; exact List.mem_append_right _ (List.mem_singleton.mpr rfl)
  refine ⟨hm, List.length_pos_of_mem hm, fun a ha => ?_⟩
  unfold okC at ha
  rcases List.mem_append.mp ha with z | z
  · cases e : B.x with
    | none => rw [e] at z; cases z
    | some v => rw [e] at z; rw [List.mem_singleton.mp z]; exact (hx v e).2
  · cases e : B.y with
    | none => rw [e] at z; cases z
    | some v => rw [e] at z; rw [List.mem_singleton.mp z]; exact (hy v e).2
/-! k10 to k12: a button, what the law keeps of it -/
structure O2 where
  r : Addr
  w : Addr
  rt : Addr
  rk : Addr
  p : Addr
  ta : Addr
  ka : Addr
  ce : Addr
  d : Addr
  lc : Addr
  B : Bt
structure One2 (E : Hp → O2 → Prop) (K : PySem.W.Frag) (C : Addr) (H : Hp) (o : O2) : Prop where
  bt : BtnAt K C H o.p o.ta o.ka o.ce o.B
  la : LawAt H o.d o.lc o.B
  ex : E H o
  nm : isNm o.B.nm
  tl : o.B.t.length = 16
  ok : BtOk o.B
def Stb (E : Hp → O2 → Prop) : Prop := ∀ S H H' o, Mv S H H' → NT S H → E H o → E H' o
theorem One2.mv {E : Hp → O2 → Prop} {K : PySem.W.Frag} {C : Addr} {H H' : Hp} {o : O2} {S : List Addr} (hE : Stb E) (h : One2 E K C H o) (m : Mv S H H') (n : NT S H) (hp : o.p ∉ S) (hc : o.ce ∉ S) (hd : o.d ∉ S) (hl : o.lc ∉ S) : One2 E K C H' o :=
  ⟨h.bt.mv m n hp hc, h.la.mv m hd hl, hE S H H' o m n h.ex, h.nm, h.tl, h.ok⟩
structure Wd2 (E : Hp → O2 → Prop) (K : PySem.W.Frag) (C : Addr) (H : Hp) (b L : Addr) (n : Nat) (os : List O2) : Prop where
  bx : BoxC H b n
  ls : H L = some (.lst (os.map fun o => V.ref o.r))
  on : ∀ (i : Nat) (o : O2), os[i]? = some o → One2 E K C H o
  dl : ∀ (i j : Nat) (a c : O2), os[i]? = some a → os[j]? = some c → a.ce ≠ c.lc
  dp : ∀ (i j : Nat) (a c : O2), os[i]? = some a → os[j]? = some c → i ≠ j → a.p ≠ c.p ∧ a.ce ≠ c.ce ∧ a.d ≠ c.d ∧ a.lc ≠ c.lc
theorem set_get {α : Type} {os : List α} {x : Nat} {o o' : α} (hx : os[x]? = some o) {i : Nat} {a : α} (e : (os.set x o')[i]? = some a) : (i = x ∧ a = o') ∨ (i ≠ x ∧ os[i]? = some a) := by
  rw [List.getElem?_set] at e
  by_cases q : x = i
  · rw [if_pos q] at e
    subst q
    rw [if_pos (List.getElem?_eq_some_iff.mp hx).1] at e
    exact .inl ⟨rfl, (Option.some.inj e).symm⟩
  · rw [if_neg q] at e
    exact .inr ⟨fun z => q z.symm, e⟩
theorem app_get {α : Type} {os : List α} {o : α} {i : Nat} {a : α} (e : (os ++ [o])[i]? = some a) : (i = os.length ∧ a = o) ∨ (i < os.length ∧ os[i]? = some a) := by
  rw [List.getElem?_append] at e
  split at e
  · exact .inr ⟨by assumption, e⟩
  · have h1 : i - os.length = 0 := by
      cases hi : i - os.length with
      | zero => rfl
      | succ k => rw [hi] at e; cases e
    rw [h1] at e
    cases e
    exact .inl ⟨by omega, rfl⟩
section
variable {E : Hp → O2 → Prop} {K : PySem.W.Frag} {C : Addr} {H H' : Hp} {b L : Addr} {n n' : Nat} {os : List O2}
theorem One2.nb {o : O2} (h : One2 E K C H o) (hb : BoxC H b n) : o.p ≠ b ∧ o.ce ≠ b ∧ o.d ≠ b ∧ o.lc ≠ b := by
  obtain ⟨_, _, _, e, _⟩ := hb
  obtain ⟨dx, ep⟩ := h.bt.ob
  exact ⟨ne_of ep e (by intro z; cases z), ne_of h.bt.cs e (lne_len (by show 2 ≠ 3; decide)), ne_of h.la.di e (by intro z; cases z), ne_of h.la.cs e (lne_len (by show 2 ≠ 3; decide))⟩
theorem One2.nL {o : O2} (h : One2 E K C H o) (hl : H L = some (.lst (os.map fun o => V.ref o.r))) : o.p ≠ L ∧ o.ce ≠ L ∧ o.d ≠ L ∧ o.lc ≠ L := by
  obtain ⟨dx, ep⟩ := h.bt.ob
  exact ⟨ne_of ep hl (by intro z; cases z), (ne_of hl h.bt.cs (refs_ne 0 rfl (oV_ne _))).symm, ne_of h.la.di hl (by intro z; cases z), (ne_of hl h.la.cs (refs_ne 0 rfl (oV_ne _))).symm⟩
theorem Wd2.nL (h : Wd2 E K C H b L n os) : L ≠ b := by
  obtain ⟨_, _, _, e, _⟩ := h.bx
  exact ne_of h.ls e (refs_ne 0 rfl (by intro a z; cases z))
theorem Wd2.box (hE : Stb E) (h : Wd2 E K C H b L n os) (m : Mv [b] H H') (hb : BoxC H' b n') : Wd2 E K C H' b L n' os :=
  ⟨hb, m _ _ (nin1 h.nL) h.ls, fun i o e => by
    have z := h.on i o e
    obtain ⟨h1, h2, h3, h4⟩ := z.nb h.bx
    obtain ⟨_, _, _, eb, _⟩ := h.bx
    exact z.mv hE m (NT.one eb trivial) (nin1 h1) (nin1 h2) (nin1 h3) (nin1 h4), h.dl, h.dp⟩
theorem Wd2.grc (hE : Stb E) (h : Wd2 E K C H b L n os) (g : GrC b n' H H') : Wd2 E K C H' b L n' os := h.box hE g.mv g.bx
theorem Wd2.same (hE : Stb E) (h : Wd2 E K C H b L n os) (g : Same H H') : Wd2 E K C H' b L n os := h.box hE g.mv (g.grc h.bx).bx
theorem Wd2.mono (h : Wd2 E K C H b L n os) (l : n ≤ n') : Wd2 E K C H b L n' os := ⟨h.bx.mono l, h.ls, h.on, h.dl, h.dp⟩
theorem Wd2.add (hE : Stb E) (h : Wd2 E K C H b L n os) {o : O2} (ho : One2 E K C H o) (h0 : o.ce ≠ o.lc) (hd : ∀ (i : Nat) (a : O2), os[i]? = some a → a.p ≠ o.p ∧ a.ce ≠ o.ce ∧ a.d ≠ o.d ∧ a.lc ≠ o.lc ∧ a.ce ≠ o.lc ∧ o.ce ≠ a.lc) :
    Wd2 E K C (upd H L (.lst ((os.map fun o => V.ref o.r) ++ [.ref o.r]))) b L n (os ++ [o]) := by
  have key : ∀ a : O2, One2 E K C H a → One2 E K C (upd H L (.lst ((os.map fun o => V.ref o.r) ++ [.ref o.r]))) a := fun a z => by
    obtain ⟨h1, h2, h3, h4⟩ := z.nL h.ls
    exact z.mv hE Mv.upd1 (NT.one h.ls trivial) (nin1 h1) (nin1 h2) (nin1 h3) (nin1 h4)
  refine ⟨?_, by rw [upd_same, List.map_append]; rfl, fun i a e => ?_, fun i j a c e1 e2 => ?_, fun i j a c e1 e2 ne => ?_⟩
  · obtain ⟨n1, n2, n3, e, r⟩ := h.bx
    exact ⟨n1, n2, n3, by rw [upd_ne h.nL.symm]; exact e, r⟩
  · rcases app_get e with ⟨_, rfl⟩ | ⟨_, e⟩
    · exact key _ ho
    · exact key _ (h.on i a e)
  · rcases app_get e1 with ⟨_, rfl⟩ | ⟨_, f1⟩ <;> rcases app_get e2 with ⟨_, rfl⟩ | ⟨_, f2⟩
    · exact h0
    · exact (hd j c f2).2.2.2.2.2
    · exact (hd i a f1).2.2.2.2.1
    · exact h.dl i j a c f1 f2
  · rcases app_get e1 with ⟨q1, rfl⟩ | ⟨_, f1⟩ <;> rcases app_get e2 with ⟨q2, rfl⟩ | ⟨_, f2⟩
    · omega
    · obtain ⟨z1, z2, z3, z4, _⟩ := hd j c f2
      exact ⟨z1.symm, z2.symm, z3.symm, z4.symm⟩
    · obtain ⟨z1, z2, z3, z4, _⟩ := hd i a f1
      exact ⟨z1, z2, z3, z4⟩
    · exact h.dp i j a c f1 f2 ne
theorem Wd2.step (hE : Stb E) (h : Wd2 E K C H b L n os) {x : Nat} {o : O2} (hx : os[x]? = some o) {B' : Bt} (m : Mv [b, o.p, o.ce, o.d, o.lc] H H') (hb : BoxC H' b n') (ho : One2 E K C H' { o with B := B' }) : Wd2 E K C H' b L n' (os.set x { o with B := B' }) := by
  have zo := h.on x o hx
  obtain ⟨dx, ep⟩ := zo.bt.ob
  obtain ⟨b1, b2, b3, eb, _⟩ := h.bx
  have nt : NT [b, o.p, o.ce, o.d, o.lc] H := fun c hc => by
    simp only [List.mem_cons, List.not_mem_nil, or_false] at hc
    rcases hc with rfl | rfl | rfl | rfl | rfl
    · exact ⟨_, eb, trivial⟩
    · exact ⟨_, ep, trivial⟩
    · exact ⟨_, zo.bt.cs, trivial⟩
    · exact ⟨_, zo.la.di, trivial⟩
    · exact ⟨_, zo.la.cs, trivial⟩
  have nin : ∀ {a : Addr}, a ≠ b → a ≠ o.p → a ≠ o.ce → a ≠ o.d → a ≠ o.lc → a ∉ [b, o.p, o.ce, o.d, o.lc] := fun h1 h2 h3 h4 h5 z => by
    simp only [List.mem_cons, List.not_mem_nil, or_false] at z
    rcases z with z | z | z | z | z
    · exact h1 z
    · exact h2 z
    · exact h3 z
    · exact h4 z
    · exact h5 z
  have hL : L ∉ [b, o.p, o.ce, o.d, o.lc] := by
    obtain ⟨h1, h2, h3, h4⟩ := zo.nL h.ls
    exact nin h.nL h1.symm h2.symm h3.symm h4.symm
  have em : (os.set x { o with B := B' }).map (fun o => V.ref o.r) = os.map fun o => V.ref o.r := by
    rw [List.map_set]
    refine List.ext_getElem (by simp) fun i h1 h2 => ?_
    rw [List.getElem_set]
    split
    · rename_i e
      subst e
      rw [List.getElem_map]
      have := (List.getElem?_eq_some_iff.mp hx).2
      rw [this]
    · rfl
  have fp : ∀ (i : Nat) (a : O2), (os.set x { o with B := B' })[i]? = some a → ∃ a', os[i]? = some a' ∧ a.p = a'.p ∧ a.ce = a'.ce ∧ a.d = a'.d ∧ a.lc = a'.lc := fun i a e => by
    rcases set_get hx e with ⟨rfl, rfl⟩ | ⟨_, e⟩
    · exact ⟨o, hx, rfl, rfl, rfl, rfl⟩
    · exact ⟨a, e, rfl, rfl, rfl, rfl⟩
  refine ⟨hb, by rw [em]; exact m _ _ hL h.ls, fun i a e => ?_, fun i j a c e1 e2 => ?_, fun i j a c e1 e2 ne => ?_⟩
  · rcases set_get hx e with ⟨rfl, rfl⟩ | ⟨ne, e⟩
    · exact ho
    · have z := h.on i a e
      obtain ⟨dy, eq⟩ := z.bt.ob
      obtain ⟨d1, d2, d3, d4⟩ := h.dp i x a o e hx ne
      obtain ⟨n1, n2, n3, n4⟩ := z.nb h.bx
      have l1 := h.dl i x a o e hx
      have l2 := h.dl x i o a hx e
      refine z.mv hE m nt (nin n1 d1 ?_ ?_ ?_) (nin n2 ?_ d2 ?_ l1) (nin n3 ?_ ?_ d3 ?_) (nin n4 ?_ l2.symm ?_ d4)
      · exact ne_of eq zo.bt.cs (by intro y; cases y)
      · exact ne_of eq zo.la.di (by intro y; cases y)
      · exact ne_of eq zo.la.cs (by intro y; cases y)
      · exact ne_of z.bt.cs ep (by intro y; cases y)
      · exact ne_of z.bt.cs zo.la.di (by intro y; cases y)
      · exact ne_of z.la.di ep (by intro y; cases y)
      · exact ne_of z.la.di zo.bt.cs (by intro y; cases y)
      · exact ne_of z.la.di zo.la.cs (by intro y; cases y)
      · exact ne_of z.la.cs ep (by intro y; cases y)
      · exact ne_of z.la.cs zo.la.di (by intro y; cases y)
  · obtain ⟨a', x1, x2, x3, x4, x5⟩ := fp i a e1
    obtain ⟨c', y1, y2, y3, y4, y5⟩ := fp j c e2
    rw [x3, y5]
    exact h.dl i j a' c' x1 y1
  · obtain ⟨a', x1, x2, x3, x4, x5⟩ := fp i a e1
    obtain ⟨c', y1, y2, y3, y4, y5⟩ := fp j c e2
    rw [x2, x3, x4, x5, y2, y3, y4, y5]
    exact h.dp i j a' c' x1 y1 ne
end
def Fr2 (H : Hp) (os : List O2) : Prop := ∀ (i : Nat) (o : O2), os[i]? = some o → H o.p = none ∧ H o.ce = none ∧ H o.d = none ∧ H o.lc = none
theorem Fr2.set {H : Hp} {os : List O2} (f : Fr2 H os) {x : Nat} {o : O2} (hx : os[x]? = some o) (B' : Bt) : Fr2 H (os.set x { o with B := B' }) := fun i a e => by
  rcases set_get hx e with ⟨rfl, rfl⟩ | ⟨_, e⟩
  · exact f _ o hx
  · exact f i a e
theorem Fr2.add {H : Hp} {os : List O2} (f : Fr2 H os) {o : O2} (h : H o.p = none ∧ H o.ce = none ∧ H o.d = none ∧ H o.lc = none) : Fr2 H (os ++ [o]) := fun i a e => by
  rcases app_get e with ⟨_, rfl⟩ | ⟨_, e⟩
  · exact h
  · exact f i a e
theorem iteD {c : Bool} {a b : Prop} (h : c = true) (x : a) : if c = true then a else b := by rw [if_pos h]; exact x
theorem iteE {c : Bool} {a b : Prop} (h : c = false) (x : b) : if c = true then a else b := by rw [if_neg (by rw [h]; intro z; cases z)]; exact x
def notN (v : V) : Bool := !decide (v = .non)
theorem notN_cells (x y : Option Int) : [oV x, oV y].filter notN = (okC x y).map V.int := by
  cases x <;> cases y <;> rfl
theorem filt_step {xs : List V} {i : Nat} {x : V} (h : xs[i]? = some x) : (xs.take (i + 1)).filter notN = if notN x = true then (xs.take i).filter notN ++ [x] else (xs.take i).filter notN := by
  rw [List.take_add_one, h, Option.toList_some, List.filter_append]
  by_cases e : notN x = true
  · rw [if_pos e, List.filter_cons_of_pos e]; rfl
  · rw [if_neg e, List.filter_cons_of_neg e]; simp
theorem Eqv.cell {H : Hp} {n : Nat} (x : Option Int) : Eqv H n (oV x) (oV x) := by
  cases x with
  | none => exact .non _
  | some i => exact .int _ _
theorem Eqv.two {H : Hp} {n : Nat} {a b : Addr} {x1 x2 y1 y2 : V} (h1 : Rd H a (.tup [x1, x2])) (h2 : Rd H b (.tup [y1, y2])) (e1 : Eqv H n x1 y1) (e2 : Eqv H n x2 y2) : Eqv H (n + 1) (.ref a) (.ref b) :=
  .tup h1 h2 rfl (by show 2 ≤ sizeLine; decide) fun i x y ex ey => by
    match i, ex, ey with
    | 0, ex, ey => cases ex; cases ey; exact e1
    | 1, ex, ey => cases ex; cases ey; exact e2
    | i + 2, ex, ey => cases ex
def E10 (H : Hp) (o : O2) : Prop := Rd H o.r (.tup [.ref o.p, .ref o.d])
theorem E10_stb : Stb E10 := fun S H H' o m n h => m.rd n h
end L3

namespace L3
open PySem PySem.Spec PyProof.Rows L2
open Sem (wp)
section
variable {X : Cx} {pins : List (Addr × Obj)} {σ : L2.St} {H : Hp} {s : Shared}
/-- zip of two lists -/
def ItzL (a1 a2 : Addr) : It :=
  ⟨fun i H => ∃ xs ys x y, Rd H a1 (.lst xs) ∧ Rd H a2 (.lst ys) ∧ xs[i]? = some x ∧ ys[i]? = some y,
   fun i H v H' => ∃ p x y, H p = none ∧ v = .ref p ∧ (∀ xs, Rd H a1 (.lst xs) → xs[i]? = some x) ∧ (∀ ys, Rd H a2 (.lst ys) → ys[i]? = some y) ∧ H' = upd H p (.tup [x, y]),
   fun i H => ∃ xs, Rd H a1 (.lst xs) ∧ xs.length = i⟩
theorem turn_zipL {P : Program} {w : World} {K : PySem.W.Frag} {elts : List Expr} {x1} {pos : Pos} (a1 a2 z TI TO i1 i2 : Addr) (d1 : TI ≠ z) (d2 : TO ≠ z) (d3 : i1 ≠ z) (d4 : i2 ≠ z) (d5 : TI ≠ TO) (d6 : TI ≠ i1) (d7 : TI ≠ i2) (d8 : TO ≠ i1) (d9 : TO ≠ i2) (d10 : i1 ≠ i2) :
    Turn P w K (.Tuple elts x1 pos) (ItzL a1 a2) [z, TI, TO, i1, i2] z (fun i h => IsZip h z TI TO .none ∧ IsPair h TI (.ref i1) (.ref i2) ∧ (∃ a b, IsPair h TO a b) ∧ h.IsListIter i1 a1 i ∧ h.IsListIter i2 a2 i) where
  mem := by simp
  obj := fun i h st b hb => by
    obtain ⟨hz, hTI, ⟨a, b', hTO⟩, ⟨o1, ho1, _, hd1⟩, ⟨o2, ho2, _, hd2⟩⟩ := st
    simp only [List.mem_cons, List.not_mem_nil, or_false] at hb
    rcases hb with rfl | rfl | rfl | rfl | rfl
    · exact ⟨_, hz, fun v y => by have y' : Data.fields _ = Data.cell v := y; cases y'⟩
    · exact ⟨_, hTI, fun v y => by have y' : Data.seq _ _ = Data.cell v := y; cases y'⟩
    · exact ⟨_, hTO, fun v y => by have y' : Data.seq _ _ = Data.cell v := y; cases y'⟩
    · exact ⟨_, ho1, fun v y => by rw [hd1] at y; cases y⟩
    · exact ⟨_, ho2, fun v y => by rw [hd2] at y; cases y⟩
  keep := fun i h h' st k => by
    obtain ⟨hz, hTI, ⟨a, b', hTO⟩, h1, h2⟩ := st
    exact ⟨k z (by simp) _ hz, k TI (by simp) _ hTI, ⟨a, b', k TO (by simp) _ hTO⟩, h1.at fun o e => k i1 (by simp) o e, h2.at fun o e => k i2 (by simp) o e⟩
  item := by
    intro X hP hw hK hc i pins s σ H E I hf st hg
    subst hP hw hK
    obtain ⟨xs, ys, x, y, ha1, ha2, hx, hy⟩ := hg
    obtain ⟨its, rv, p, hz0⟩ := I.list (.inl ha1)
    obtain ⟨its2, rv2, p2, hz2⟩ := I.list (.inl ha2)
    obtain ⟨u, hu, ru⟩ := rv.get hx
    obtain ⟨u2, hu2, ru2⟩ := rv2.get hy
    obtain ⟨hz, hTI, ⟨a, b', hTO⟩, h1, h2⟩ := st
    have n1 : ∀ c ∈ [z, TI, TO, i1, i2], a1 ≠ c := fun c hc => rd_ne ha1 (hf c hc).1
    have n2 : ∀ c ∈ [z, TI, TO, i1, i2], a2 ≠ c := fun c hc => rd_ne ha2 (hf c hc).1
    have Z : ZApart z TI TO i1 i2 [i1, a1] [i2, a2] := ⟨d1, d2, d3, d4, d5, d6, d7, d8, d9, d10, by simp [Ne.symm d3, Ne.symm (n1 z (by simp))], by simp [Ne.symm d4, Ne.symm (n2 z (by simp))], by simp [d8, Ne.symm (n1 TO (by simp))], by simp [d9, Ne.symm (n2 TO (by simp))], by simp [Ne.symm d10, Ne.symm (n1 i2 (by simp))], by simp [d10, Ne.symm (n2 i1 (by simp))]⟩
    have hil : i < its.toArray.size := by have := (List.getElem?_eq_some_iff.mp hu).1; simpa using this
    have hil2 : i < its2.toArray.size := by have := (List.getElem?_eq_some_iff.mp hu2).1; simpa using this
    have hT : s.TypeIs (.ref z) "zip" := ⟨_, hz, rfl⟩
    unfold pyNext
    refine wpAny_bind (wpAny_attempt (wpAny_callSpecial?_slot (name := Str.ofString "__next__") hT F.slot_zip_next
      (wpAny_call_entry F.slot_zip_next hT F.entry_zip_next
        (zipD_item (Draws.list (A := X.A.in1) (I.ok.hd hc) i1 a1 (n1 i1 (by simp)) its.toArray) (Draws.list (A := X.A.in1) (I.ok.hd hc) i2 a2 (n2 i2 (by simp)) its2.toArray) Z hz hTI hTO ⟨h1, p.isList⟩ ⟨h2, p2.isList⟩ hil hil2
          fun v v2 h' tk hv hv2 ho hTO' q1 q2 ht hk => wpAny_pure ⟨_, rfl, ?_⟩) (F.args_zip_next_1 _))))
    have ev : v = u := by
      have hv' : its[i]? = some v := by simpa using hv
      rw [hu] at hv'; exact (Option.some.inj hv').symm
    have ev2 : v2 = u2 := by
      have hv' : its2[i]? = some v2 := by simpa using hv2
      rw [hu2] at hv'; exact (Option.some.inj hv').symm
    subst ev ev2
    refine wpAny_letOwnedTupleGo_zip ho fun h'' hz'' hs'' => ?_
    have lt : ∀ c ∈ [z, TI, TO, i1, i2], c < s.heap.objs.size := fun c hc => by
      simp only [List.mem_cons, List.not_mem_nil, or_false] at hc
      rcases hc with rfl | rfl | rfl | rfl | rfl
      · exact Heap.lt_size hz
      · exact Heap.lt_size hTI
      · exact Heap.lt_size hTO
      · obtain ⟨_, e, _⟩ := h1; exact Heap.lt_size e
      · obtain ⟨_, e, _⟩ := h2; exact Heap.lt_size e
    have hTI' : IsPair h'' TI (.ref i1) (.ref i2) := hs''.extBut _ _ d1 (hk _ _ d1 d5 d6 d7 hTI)
    have hTO'' : IsPair h'' TO v v2 := hs''.extBut _ _ d2 hTO'
    have h1' : h''.IsListIter i1 a1 (i + 1) := q1.1.extBut hs''.extBut d3
    have h2' : h''.IsListIter i2 a2 (i + 1) := q2.1.extBut hs''.extBut d4
    refine ⟨.ref s.heap.objs.size, upd H s.heap.objs.size (.tup [x, y]), ?_, rfl, ⟨_, x, y, I.hok.fresh (Nat.le_refl _), rfl, fun zs hy' => by rw [I.list_inj (.inl hy') (.inl ha1)]; exact hx, fun zs hy' => by rw [I.list_inj (.inl hy') (.inl ha2)]; exact hy, rfl⟩, ⟨hz'', hTI', ⟨_, _, hTO''⟩, h1', h2'⟩, ?_⟩
    · show L2.Inv X pins σ _ { s with heap := h'', toks := tk }
      refine turnedT (s := s) (its := [v, v2]) I (ch := [z, TI, TO, i1, i2]) (fun b o hb q => ?_) hf (fun b hb => ?_) (Nat.le_refl _) (by show 2 ≤ sizeLine; decide) (.cons ru (.cons ru2 .nil)) ?_
      · simp only [List.mem_cons, List.not_mem_nil, or_false, not_or] at hb
        exact hs''.extBut b o hb.1 (hk b o hb.1 hb.2.2.1 hb.2.2.2.1 hb.2.2.2.2 q)
      · simp only [List.mem_cons, List.not_mem_nil, or_false] at hb
        rcases hb with rfl | rfl | rfl | rfl | rfl
        · exact ⟨_, hz''⟩
        · exact ⟨_, hTI'⟩
        · exact ⟨_, hTO''⟩
        · obtain ⟨o, e, _⟩ := h1'; exact ⟨o, e⟩
        · obtain ⟨o, e, _⟩ := h2'; exact ⟨o, e⟩
      · exact ⟨_, hs''.extBut _ _ (Nat.ne_of_gt (lt z (by simp))) ht, rfl, _, rfl⟩
    · intro b hb
      rw [upd_ne (Nat.ne_of_lt (lt b hb))]
      exact (hf b hb).1
  done := by
    intro X hP hw hK hc i pins s σ H E I hf st hg
    subst hP hw hK
    obtain ⟨xs, ha1, hx⟩ := hg
    obtain ⟨its, rv, p, hz0⟩ := I.list (.inl ha1)
    obtain ⟨hz, hTI, ⟨a, b', hTO⟩, h1, h2⟩ := st
    have n1 : ∀ c ∈ [z, TI, TO, i1, i2], a1 ≠ c := fun c hc => rd_ne ha1 (hf c hc).1
    have Z : ZApart z TI TO i1 i2 [i1, a1] [i2] := ⟨d1, d2, d3, d4, d5, d6, d7, d8, d9, d10, by simp [Ne.symm d3, Ne.symm (n1 z (by simp))], by simp [Ne.symm d4], by simp [d8, Ne.symm (n1 TO (by simp))], by simp [d9], by simp [Ne.symm d10, Ne.symm (n1 i2 (by simp))], by simp [d10]⟩
    have hl : its.toArray.size = i := by rw [List.size_toArray, ← rv.length]; exact hx
    have hT : s.TypeIs (.ref z) "zip" := ⟨_, hz, rfl⟩
    unfold pyNext
    refine wpAny_bind (wpAny_attempt (wpAny_callSpecial?_slot (name := Str.ofString "__next__") hT F.slot_zip_next
      (wpAny_call_entry F.slot_zip_next hT F.entry_zip_next
        (zipD_end (Draws.list (A := X.A.in1) (I.ok.hd hc) i1 a1 (n1 i1 (by simp)) its.toArray) Z hz hTI ⟨by rw [hl]; exact h1, p.isList⟩ fun h' e hk he => ?_) (F.args_zip_next_1 _))))
    obtain ⟨o, ho, hcl⟩ := he
    refine wpAny_bind (wpAny_isInstance (T := "StopIteration") (b := true) ⟨o, ho, hcl⟩ isSubtype_stop ?_)
    refine wpAny_pure ⟨rfl, turnedC (t' := s.toks) I (ch := [z, i1]) (fun b o hb e => ?_) (fun b hb => hf b ?_)⟩
    · simp only [List.mem_cons, List.not_mem_nil, or_false, not_or] at hb
      exact hk b o hb.1 hb.2 e
    · simp only [List.mem_cons, List.not_mem_nil, or_false] at hb
      rcases hb with rfl | rfl <;> simp
  self := fun _ _ _ _ _ st h => wpAny_pyIter_zip st.1 h
def iZipL (ta : TA) : TI := fun σ H R => ta σ H fun vs H1 => ∃ a1 a2 xs ys, vs = [.ref a1, .ref a2] ∧ Rd H1 a1 (.lst xs) ∧ Rd H1 a2 (.lst ys) ∧ R (ItzL a1 a2) H1
theorem pi_zipL {a b : Expr} {ta : TA} {p pos : Pos} {elts : List Expr} {x1} {tpos : Pos} (hg : Gl X "zip") (hm : X.mg "zip" = none) (ha : PA X [a, b] ta) (h1 : notStar a = true := by rfl) (h2 : notStar b = true := by rfl) :
    PI X (.Tuple elts x1 tpos) (.Call (.Name "zip" p) [a, b] [] pos) (iZipL ta) := by
  intro pins s σ H R I h
  have hs2 : starEach [b] X.env = [(false, eval b X.env)] := star_cons h2
  refine Call_ (ld_blt I hg hm PyProof.Rows.boot_zip (PyProof.Rows.callWith_type1 (thn (ha pos pins s σ H _ I h) fun us s1 ⟨vs, H1, I1, r1, q1⟩ => ?_) (by rw [star_cons h1, hs2]) (by rw [hs2]; rfl)))
  obtain ⟨a1, a2, xs, ys, e, e1, e2, q⟩ := q1
  subst e
  obtain ⟨u, v, rfl, ru, rv⟩ := r1.two
  cases ru
  cases rv
  obtain ⟨its, r1', p1, hz⟩ := I1.list (.inl e1)
  obtain ⟨its2, r2', p2, hz2⟩ := I1.list (.inl e2)
  have ad : ∀ (n i j : Nat), i ≠ j → n + i ≠ n + j := fun n i j h => by omega
  refine call_zip_2 p1.isList p2.isList fun h' hz hTI hTO h1 h2 _ hk => wpAny_pyIter_zip hz ?_
  refine ⟨s1.heap.objs.size + 4, [s1.heap.objs.size + 4, s1.heap.objs.size + 2, s1.heap.objs.size + 3, s1.heap.objs.size, s1.heap.objs.size + 1], _, _, H1, rfl, I1.kept (t' := s1.toks) hk,
    turn_zipL a1 a2 (s1.heap.objs.size + 4) (s1.heap.objs.size + 2) (s1.heap.objs.size + 3) s1.heap.objs.size (s1.heap.objs.size + 1) (ad _ 2 4 (by decide)) (ad _ 3 4 (by decide)) (ad _ 0 4 (by decide)) (ad _ 1 4 (by decide)) (ad _ 2 3 (by decide)) (ad _ 2 0 (by decide)) (ad _ 2 1 (by decide)) (ad _ 3 0 (by decide)) (ad _ 3 1 (by decide)) (ad _ 0 1 (by decide)), ⟨hz, hTI, ⟨_, _, hTO⟩, h1, h2⟩, fun b hb => ?_, q⟩
  have hb' : s1.heap.objs.size ≤ b := by
    simp only [List.mem_cons, List.not_mem_nil, or_false] at hb
    rcases hb with rfl | rfl | rfl | rfl | rfl
    · exact Nat.le_add_right _ 4
    · exact Nat.le_add_right _ 2
    · exact Nat.le_add_right _ 3
    · exact Nat.le_refl _
    · exact Nat.le_add_right _ 1
  exact I1.fpOk hb' (I1.hok.fresh hb')
end
theorem comp_zipL {K : PySem.W.Frag} {js : List Nat} {te : TE} {σ : L2.St} {H : Hp} {Q : VK} {a1 a2 : Addr} {xs ys : List V} (hl : xs.length = ys.length) (hn : xs.length ≤ sizeLine) (Pv : Nat → List V → Hp → Prop) (h0 : Pv 0 [] H)
    (hk : ∀ i zs H, Pv i zs H → Rd H a1 (.lst xs) ∧ Rd H a2 (.lst ys))
    (hs : ∀ i zs H p x y, xs[i]? = some x → ys[i]? = some y → zs.length = i → Pv i zs H → H p = none → te (some x :: some y :: frees js σ) (upd H p (.tup [x, y])) fun v H3 => Pv (i + 1) (zs ++ [v]) H3)
    (hd : ∀ zs H, zs.length = xs.length → Pv xs.length zs H → ∀ p, H p = none → Q (.ref p) (upd H p (.lst zs))) :
    CompG 2 js (gTup K 2 (gCons (gName 0) (gCons (gName 1) gNil))) te σ Q (ItzL a1 a2) H := by
  refine ⟨fun i m zs τ H => m = xs.length - i ∧ i ≤ xs.length ∧ zs.length = i ∧ Pv i zs H ∧ ∃ o o', τ = o :: o' :: frees js σ, ⟨xs.length, by simp, Nat.zero_le _, rfl, h0, none, none, rfl⟩, ?_⟩
  rintro i m zs τ H ⟨rfl, hi, hzl, p, o, o', rfl⟩
  obtain ⟨e1, e2⟩ := hk i zs H p
  by_cases hlt : i < xs.length
  · have hlt2 : i < ys.length := by omega
    refine .inr ⟨⟨xs, ys, xs[i], ys[i], e1, e2, by simp [hlt], by simp [hlt2]⟩, by omega, fun v H' y => ?_⟩
    obtain ⟨pp, x, y, hp, rfl, hx, hy, rfl⟩ := y
    refine ⟨pp, _, rfl, SqT.of upd_same, rfl, _, _, rfl, _, _, rfl, rfl, ?_⟩
    exact ⟨fun v H3 => Pv (i + 1) (zs ++ [v]) H3, fun v H3 p3 => ⟨xs.length - (i + 1), by omega, rfl, hlt, by simp [hzl], p3, _, _, rfl⟩, hs i zs _ pp x y (hx xs e1) (hy ys e2) hzl p hp⟩
  · have e : i = xs.length := by omega
    subst e
    exact .inl ⟨⟨xs, e1, rfl⟩, hd zs H hzl p⟩
theorem qi_zipL {X : Cx} {a b : Expr} {ta : TA} {p pos : Pos} {elts : List Expr} {x1} {tpos : Pos} (hg : Gl X "zip") (hm : X.mg "zip" = none) (ha : QA X [a, b] ta) (h1 : notStar a = true := by rfl) (h2 : notStar b = true := by rfl) :
    QI X (.Tuple elts x1 tpos) (.Call (.Name "zip" p) [a, b] [] pos) (iZipL ta) := ⟨pi_zipL hg hm ha.h h1 h2⟩
/-! ### things alike, lists among them -/
inductive Eqw (H : Hp) : Nat → V → V → Prop where
  | int (n : Nat) (i : Int) : Eqw H n (.int i) (.int i)
  | str (n : Nat) (x : Str) : Eqw H n (.str x) (.str x)
  | non (n : Nat) : Eqw H n .non .non
  | tup {n : Nat} {a b : Addr} {xs ys : List V} (h1 : Rd H a (.tup xs)) (h2 : Rd H b (.tup ys)) (hl : xs.length = ys.length) (hz : xs.length ≤ sizeLine)
      (hi : ∀ (i : Nat) (x y : V), xs[i]? = some x → ys[i]? = some y → Eqw H n x y) : Eqw H (n + 1) (.ref a) (.ref b)
  | lst {n : Nat} {a b : Addr} {xs ys : List V} (h1 : H a = some (.lst xs)) (h2 : H b = some (.lst ys)) (hl : xs.length = ys.length) (hz : xs.length ≤ sizeLine)
      (hi : ∀ (i : Nat) (x y : V), xs[i]? = some x → ys[i]? = some y → Eqw H n x y) : Eqw H (n + 1) (.ref a) (.ref b)
theorem Eqw.same {H H' : Hp} (s : Same H H') : ∀ {n : Nat} {x y : V}, Eqw H n x y → Eqw H' n x y := fun h => by
  induction h with
  | int n i => exact .int n i
  | str n x => exact .str n x
  | non n => exact .non n
  | tup h1 h2 hl hz _ ih => exact .tup (Rd.same s h1) (Rd.same s h2) hl hz ih
  | lst h1 h2 hl hz _ ih => exact .lst (s _ _ h1) (s _ _ h2) hl hz ih
theorem Eqw.ints {H : Hp} {n : Nat} {a b : Addr} {ns : List Int} (h1 : Rd H a (.tup (ns.map V.int))) (h2 : Rd H b (.tup (ns.map V.int))) (hz : ns.length ≤ sizeLine) : Eqw H (n + 1) (.ref a) (.ref b) :=
  .tup h1 h2 rfl (by rw [List.length_map]; exact hz) fun i x y e1 e2 => by
    rw [e1] at e2
    cases e2
    obtain ⟨z, rfl, _⟩ := ints_get e1
    exact .int _ _
theorem Eqw.three {H : Hp} {n : Nat} {a b : Addr} {x1 x2 x3 y1 y2 y3 : V} (h1 : Rd H a (.tup [x1, x2, x3])) (h2 : Rd H b (.tup [y1, y2, y3])) (e1 : Eqw H n x1 y1) (e2 : Eqw H n x2 y2) (e3 : Eqw H n x3 y3) : Eqw H (n + 1) (.ref a) (.ref b) :=
  .tup h1 h2 rfl (by show 3 ≤ sizeLine; decide) fun i x y ex ey => by
    match i, ex, ey with
    | 0, ex, ey => cases ex; cases ey; exact e1
    | 1, ex, ey => cases ex; cases ey; exact e2
    | 2, ex, ey => cases ex; cases ey; exact e3
    | i + 3, ex, ey => cases ex
theorem Eqw.cell {H : Hp} {n : Nat} (x : Option Int) : Eqw H n (oV x) (oV x) := by
  cases x with
  | none => exact .non _
  | some i => exact .int _ _
theorem Eqw.two {H : Hp} {n : Nat} {a b : Addr} {x1 x2 y1 y2 : V} (h1 : Rd H a (.tup [x1, x2])) (h2 : Rd H b (.tup [y1, y2])) (e1 : Eqw H n x1 y1) (e2 : Eqw H n x2 y2) : Eqw H (n + 1) (.ref a) (.ref b) :=
  .tup h1 h2 rfl (by show 2 ≤ sizeLine; decide) fun i x y ex ey => by
    match i, ex, ey with
    | 0, ex, ey => cases ex; cases ey; exact e1
    | 1, ex, ey => cases ex; cases ey; exact e2
    | i + 2, ex, ey => cases ex
theorem Eqw.ltwo {H : Hp} {n : Nat} {a b : Addr} {x1 x2 y1 y2 : V} (h1 : H a = some (.lst [x1, x2])) (h2 : H b = some (.lst [y1, y2])) (e1 : Eqw H n x1 y1) (e2 : Eqw H n x2 y2) : Eqw H (n + 1) (.ref a) (.ref b) :=
  .lst h1 h2 rfl (by show 2 ≤ sizeLine; decide) fun i x y ex ey => by
    match i, ex, ey with
    | 0, ex, ey => cases ex; cases ey; exact e1
    | 1, ex, ey => cases ex; cases ey; exact e2
    | i + 2, ex, ey => cases ex
def spAl (n : Nat) : Sp := fun vs H Q _ => ∃ x y, vs = [x, y] ∧ Eqw H n x y ∧ ∀ H', Same H H' → Q (.bl true) H'
/-! k11: the row beside -/
def Bt.ou (B : Bt) : Bt := { B with cnt := B.bnd }
theorem BtOk.ou {B : Bt} (h : BtOk B) : BtOk B.ou := ⟨by show 0 ≤ B.bnd; have := h.c0; have := h.cb; omega, Int.le_refl _, h.bm, h.s1, h.eq, h.hx, h.hy⟩
def spBOut (K : PySem.W.Frag) (C : Addr) : Sp := fun vs H Q _ => ∃ (p ta ka ce : Addr) (B : Bt), vs = [.ref p] ∧ BtnAt K C H p ta ka ce B ∧ BtOk B ∧ ∀ H', Mv [p, ce] H H' → BtnAt K C H' p ta ka ce B.ou → Q .non H'
def spOut : Sp := fun vs H Q _ => ∃ (d lc : Addr) (B : Bt), vs = [.ref d] ∧ LawAt H d lc B ∧ BtOk B ∧ ∀ H', Mv [d, lc] H H' → LawAt H' d lc B.ou → Q .non H'
def E11 (K : PySem.W.Frag) (H : Hp) (o : O2) : Prop := Rd H o.r (.tup [.ref o.p, .ref o.w, .ref o.d]) ∧ Rd H o.w (.tup [.str o.B.nm, .ref o.rt, .ref o.rk, .int o.B.age]) ∧ SqT K H o.rt (o.B.t.map V.int) ∧ SqT K H o.rk (o.B.ks.map V.int)
theorem E11_stb (K : PySem.W.Frag) : Stb (E11 K) := fun S H H' o m n h => ⟨m.rd n h.1, m.rd n h.2.1, m.sqt n h.2.2.1, m.sqt n h.2.2.2⟩
end L3

namespace Lw
open PySem L2 L3
def top (i : Nat) : Stmt := PySem.Challenge.pw_rollcode_k11_cells_that_were_out.main.body.getD i (.Pass ⟨0, 0, 0, 0⟩)
abbrev s_coded : Stmt := top 6
abbrev s_letter_digits : Stmt := top 10
abbrev s_key_of : Stmt := top 11
abbrev s_count_digits : Stmt := top 12
abbrev s_press_of : Stmt := top 13
abbrev s_Button___init : Stmt := inClass (top 15) 0
abbrev s_Button_is_worn : Stmt := inClass (top 15) 2
abbrev s_Button_must_write : Stmt := inClass (top 15) 3
abbrev s_Button_spare_cell : Stmt := inClass (top 15) 4
abbrev s_Button_write_bound : Stmt := inClass (top 15) 5
abbrev s_Button_press_once : Stmt := inClass (top 15) 1
abbrev s_Button_cell_out : Stmt := inClass (top 15) 6
abbrev s_Button_count_now : Stmt := inClass (top 15) 11
abbrev s_Button_cells_now : Stmt := inClass (top 15) 12
abbrev s_law_box : Stmt := top 17
abbrev s_law_take : Stmt := top 18
abbrev s_law_table : Stmt := top 19
abbrev s_law_key : Stmt := top 20
abbrev s_law_name : Stmt := top 21
abbrev s_law_begun : Stmt := top 22
abbrev s_law_pressed : Stmt := top 23
abbrev s_law_out : Stmt := top 24
abbrev s_law_alike : Stmt := top 26
abbrev s_law : Stmt := top 27
theorem sc_coded : FnScope (["table", "key", "digits", "row", "shift", "place", "ahead"] : List Str) (["table", "key", "digits"] : List Str) (defScope s_coded) := ⟨rfl, rfl, rfl, by decide +kernel, rfl, by decide +kernel, by decide +kernel⟩
theorem sc_letter_digits : FnScope (["name", "digits", "letter", "place"] : List Str) (["name"] : List Str) (defScope s_letter_digits) := ⟨rfl, rfl, rfl, by decide +kernel, rfl, by decide +kernel, by decide +kernel⟩
theorem sc_key_of : FnScope (["table", "key", "name", "sums", "place", "digit"] : List Str) (["table", "key", "name"] : List Str) (defScope s_key_of) := ⟨rfl, rfl, rfl, by decide +kernel, rfl, by decide +kernel, by decide +kernel⟩
theorem sc_count_digits : FnScope (["count"] : List Str) (["count"] : List Str) (defScope s_count_digits) := ⟨rfl, rfl, rfl, by decide +kernel, rfl, by decide +kernel, by decide +kernel⟩
theorem sc_press_of : FnScope (["table", "key", "name", "age", "count", "deed", "four", "five"] : List Str) (["table", "key", "name", "age", "count", "deed"] : List Str) (defScope s_press_of) := ⟨rfl, rfl, rfl, by decide +kernel, rfl, by decide +kernel, by decide +kernel⟩
theorem sc_Button___init : FnScope (["self", "name", "table", "key", "age", "step"] : List Str) (["self", "name", "table", "key", "age", "step"] : List Str) (defScope s_Button___init) := ⟨rfl, rfl, rfl, by decide +kernel, rfl, by decide +kernel, by decide +kernel⟩
theorem sc_Button_is_worn : FnScope (["self"] : List Str) (["self"] : List Str) (defScope s_Button_is_worn) := ⟨rfl, rfl, rfl, by decide +kernel, rfl, by decide +kernel, by decide +kernel⟩
theorem sc_Button_must_write : FnScope (["self"] : List Str) (["self"] : List Str) (defScope s_Button_must_write) := ⟨rfl, rfl, rfl, by decide +kernel, rfl, by decide +kernel, by decide +kernel⟩
theorem sc_Button_spare_cell : FnScope (["self"] : List Str) (["self"] : List Str) (defScope s_Button_spare_cell) := ⟨rfl, rfl, rfl, by decide +kernel, rfl, by decide +kernel, by decide +kernel⟩
theorem sc_Button_write_bound : FnScope (["self", "spare"] : List Str) (["self"] : List Str) (defScope s_Button_write_bound) := ⟨rfl, rfl, rfl, by decide +kernel, rfl, by decide +kernel, by decide +kernel⟩
theorem sc_Button_press_once : FnScope (["self", "deed", "press"] : List Str) (["self", "deed"] : List Str) (defScope s_Button_press_once) := ⟨rfl, rfl, rfl, by decide +kernel, rfl, by decide +kernel, by decide +kernel⟩
theorem sc_Button_cell_out : FnScope (["self", "greatest"] : List Str) (["self"] : List Str) (defScope s_Button_cell_out) := ⟨rfl, rfl, rfl, by decide +kernel, rfl, by decide +kernel, by decide +kernel⟩
theorem sc_Button_count_now : FnScope (["self"] : List Str) (["self"] : List Str) (defScope s_Button_count_now) := ⟨rfl, rfl, rfl, by decide +kernel, rfl, by decide +kernel, by decide +kernel⟩
theorem sc_Button_cells_now : FnScope (["self"] : List Str) (["self"] : List Str) (defScope s_Button_cells_now) := ⟨rfl, rfl, rfl, by decide +kernel, rfl, by decide +kernel, by decide +kernel⟩
theorem sc_law_box : FnScope (["_law_script", "_law_k", "_law_cell", "_law_fold", "_law_one"] : List Str) (["_law_script", "_law_k"] : List Str) (defScope s_law_box) := ⟨rfl, rfl, rfl, by decide +kernel, rfl, by decide +kernel, by decide +kernel⟩
theorem sc_law_take : FnScope (["_law_box_here", "_law_many", "_law_digit", "_law_m", "_law_turn"] : List Str) (["_law_box_here", "_law_many"] : List Str) (defScope s_law_take) := ⟨rfl, rfl, rfl, by decide +kernel, rfl, by decide +kernel, by decide +kernel⟩
theorem sc_law_table : FnScope (["_law_box_here", "_law_rest"] : List Str) (["_law_box_here"] : List Str) (defScope s_law_table) := ⟨rfl, rfl, rfl, by decide +kernel, rfl, by decide +kernel, by decide +kernel⟩
theorem sc_law_key : FnScope (["_law_box_here"] : List Str) (["_law_box_here"] : List Str) (defScope s_law_key) := ⟨rfl, rfl, rfl, by decide +kernel, rfl, by decide +kernel, by decide +kernel⟩
theorem sc_law_name : FnScope (["_law_box_here", "_law_some"] : List Str) (["_law_box_here"] : List Str) (defScope s_law_name) := ⟨rfl, rfl, rfl, by decide +kernel, rfl, by decide +kernel, by decide +kernel⟩
theorem sc_law_begun : FnScope (["_law_step"] : List Str) (["_law_step"] : List Str) (defScope s_law_begun) := ⟨rfl, rfl, rfl, by decide +kernel, rfl, by decide +kernel, by decide +kernel⟩
theorem sc_law_pressed : FnScope (["_law_own", "_law_place"] : List Str) (["_law_own"] : List Str) (defScope s_law_pressed) := ⟨rfl, rfl, rfl, by decide +kernel, rfl, by decide +kernel, by decide +kernel⟩
theorem sc_law_out : FnScope (["_law_own"] : List Str) (["_law_own"] : List Str) (defScope s_law_out) := ⟨rfl, rfl, rfl, by decide +kernel, rfl, by decide +kernel, by decide +kernel⟩
theorem sc_law_alike : FnScope (["_law_found", "_law_due"] : List Str) (["_law_found", "_law_due"] : List Str) (defScope s_law_alike) := ⟨rfl, rfl, rfl, by decide +kernel, rfl, by decide +kernel, by decide +kernel⟩
theorem sc_law : FnScope (["_law_script", "_law_k", "_law_box_here", "_law_made", "_law_turn", "_law_step", "_law_row", "_law_button", "_law_name_here", "_law_table_here", "_law_key_here", "_law_age", "_law_own", "_law_deed", "_law_due"] : List Str) (["_law_script"] : List Str) (defScope s_law) := ⟨rfl, rfl, rfl, by decide +kernel, rfl, by decide +kernel, by decide +kernel⟩
structure Txt (K : PySem.W.Frag) (mg : Str → Option Value) (tk : Nat → Tok) : Prop where
  g_DIGITS : mg "DIGITS" = some (.int 16 (tk 0))
  g_KEY_PLACES : mg "KEY_PLACES" = some (.int 4 (tk 1))
  g_COUNTS : mg "COUNTS" = some (.int 4096 (tk 2))
  b_isinstance : mg "isinstance" = none
  b_bool : mg "bool" = none
  b_int : mg "int" = none
  b_tuple : mg "tuple" = none
  b_all : mg "all" = none
  b_len : mg "len" = none
  b_abs : mg "abs" = none
  b_list : mg "list" = none
  b_range : mg "range" = none
  b_str : mg "str" = none
  b_zip : mg "zip" = none
  b_ord : mg "ord" = none
  b_sum : mg "sum" = none
  b_min : mg "min" = none
  b_enumerate : mg "enumerate" = none
  b_max : mg "max" = none
section
variable {P : Program} {w : World} {K : PySem.W.Frag} {mg : Str → Option Value} {base : Heap} {tk : Nat → Tok}
theorem ok_law_take (a : At K mg "_law_take" s_law_take ["_law_box_here", "_law_many"]) (T : Txt K mg tk) : Df P w K mg base "_law_take" ["_law_box_here", "_law_many"] 1 spTake2 := by
  refine a.dq sc_law_take (fun vs H Q E h => ?_) (fun f cdv A outer s H vs Q E hr h => ?_)
  · obtain ⟨b, many, c, rfl, _⟩ := h
    rfl
  · obtain ⟨b, many, c, rfl, ⟨n, m, k, hb, m0, m1, k0, k1⟩, hc, h0, h1, q⟩ := h
    refine ⟨_, (qss_cons (qs_if (qt_cmpR op_gt (qe_ix ix_list (qv 0) qe_int (fun _ _ => rfl)) qe_int (nomark _)) (qss_cons (qs_set (i := 2) sc_law_take.nd rfl (Or.inl rfl) (qe_op op_mod (qe_ix ix_list (qv 0) qe_int (fun _ _ => rfl)) (qv 1)))
      (qss_cons (qs_asg (qe_op op_fdiv (qe_ix ix_list (qv 0) qe_int (fun _ _ => rfl)) (qv 1)) (qg_sub (qv 0) qe_int set_list))
      (qss_one (qs_ret (qv 2))))) qss_nil)
      (qss_cons (qs_asg (qe_op op_add (qe_ix ix_list (qv 0) qe_int (fun _ _ => rfl)) qe_int) (qg_sub (qv 0) qe_int set_list))
      (qss_cons (qs_set (i := 3) sc_law_take.nd rfl (Or.inl rfl) (qe_op op_add (qe_ix ix_list (qv 0) qe_int (fun _ _ => rfl)) (qe_op op_mul qe_int (qe_ix ix_list (qv 0) qe_int (fun _ _ => rfl)))))
      (qss_cons (qs_for PassesOwn.never rfl (qi_range1 rfl T.b_range (qac qe_int qa_nil)) (qg_name (i := 4) sc_law_take.nd rfl (Or.inl rfl))
      (qss_one (qs_set (i := 3) sc_law_take.nd rfl (Or.inl rfl) (qe_op op_mod (qe_op op_add (qe_op op_add (qe_op op_mul (qv 3) (qv 3)) (qe_op op_mul qe_int (qe_ix ix_list (qv 0) qe_int (fun _ _ => rfl)))) qe_int) qe_int))))
      (qss_one (qs_ret (qe_op op_mod (qe_op op_fdiv (qv 3) qe_int) (qv 1)))))))), ?_⟩
    refine ⟨_, rfl, b, _, _, _, rfl, rfl, SqL.of hb, rfl, _, _, rfl, rfl, _, rfl, ?_⟩
    refine ite2 (fun _ => ?_) (fun _ => ?_)
    · refine ⟨_, rfl, b, _, _, _, rfl, rfl, SqL.of hb, rfl, _, rfl, _, _, rfl, rfl, h0, ?_⟩
      refine ⟨_, rfl, b, _, _, _, rfl, rfl, SqL.of hb, rfl, _, rfl, _, _, rfl, rfl, ⟨h0, h1⟩, _, rfl, b, _, _, 0, rfl, rfl, hb, rfl, ?_⟩
      refine ⟨_, rfl, ?_⟩
      refine q _ _ (Int.emod_nonneg _ (by omega)) (Int.emod_lt_of_pos _ h0) ⟨fun c o hc e => ?_, _, _, _, upd_same, m0, m1, k0, by omega⟩
      rw [upd_ne hc]
      exact e
    · refine ⟨_, rfl, b, _, _, _, rfl, rfl, SqL.of hb, rfl, _, _, rfl, rfl, _, rfl, b, _, _, 2, rfl, rfl, hb, rfl, ?_⟩
      have hb2 : (upd H b (BoxL n m (k + 1))) b = some (BoxL n m (k + 1)) := upd_same
      refine ⟨_, rfl, b, _, _, _, rfl, rfl, SqL.of hb2, rfl, _, rfl, b, _, _, _, rfl, rfl, SqL.of hb2, rfl, _, _, rfl, rfl, .inl ⟨by decide, by decide⟩, _, _, rfl, rfl, ?_⟩
      refine ⟨3, rfl, by decide, by decide, for_range (n := 3) (Pv := fun i σ H2 => H2 = upd H b (BoxL n m (k + 1)) ∧ ∃ (z : Int) (o : Option V), σ = [some (.ref b), some (.int many), none, some (.int z), o] ∧ 0 ≤ z ∧ z < 2 ^ 64) ⟨rfl, _, _, rfl, by omega, by omega⟩ ?_ ?_⟩
      · rintro i σ H2 hi ⟨rfl, z, o, rfl, z0, z1⟩
        refine ⟨_, rfl, _, rfl, _, _, rfl, rfl, .inl ⟨by omega, by omega⟩, _, rfl, b, _, _, _, rfl, rfl, SqL.of hb2, rfl, _, _, rfl, rfl, .inl ⟨by decide, by decide⟩, _, _, rfl, rfl, _, _, rfl, rfl, _, _, rfl, rfl, (by decide : (0 : Int) < 2305843009213693951), rfl, _, _, rfl, ?_, ?_⟩
        · exact Int.emod_nonneg _ (by decide)
        · exact Int.lt_trans (Int.emod_lt_of_pos _ (by decide)) (by decide)
      · rintro σ H2 ⟨rfl, z, o, rfl, z0, z1⟩
        refine ⟨_, rfl, _, _, rfl, rfl, ⟨by decide, by decide⟩, _, rfl, _, _, rfl, rfl, h0, ?_⟩
        refine q _ _ (Int.emod_nonneg _ (by omega)) (Int.emod_lt_of_pos _ h0) ⟨fun c o hc e => ?_, _, _, _, upd_same, m0, m1, by omega, by omega⟩
        rw [upd_ne hc]
        exact e
theorem ok_law_box (a : At K mg "_law_box" s_law_box ["_law_script", "_law_k"]) (T : Txt K mg tk) : Df P w K mg base "_law_box" ["_law_script", "_law_k"] 1 (spBox2 K) := by
  refine a.dq sc_law_box (fun vs H Q E h => ?_) (fun f cdv A outer s H vs Q E hr h => ?_)
  · obtain ⟨b, ns, k, rfl, _⟩ := h
    rfl
  · obtain ⟨b, ns, k, rfl, hS, q⟩ := h
    refine ⟨_, (qss_cons (qs_asg (qe_tup (qac qe_int (qac qe_int qa_nil))) (qg_tup rfl (qgs_cons (qg_name (i := 2) sc_law_box.nd rfl (Or.inl rfl)) (qgs_cons (qg_name (i := 3) sc_law_box.nd rfl (Or.inl rfl)) qgs_nil))))
      (qss_cons (qs_if (qt_cmpR op_lt (qv 1) (qe_callB call_len_seq (by rfl) T.b_len PySem.boot_len (qac (qv 0) qa_nil)) (nomark _)) (qss_one (qs_set (i := 2) sc_law_box.nd rfl (Or.inl rfl) (qe_ix ix_list (qv 0) (qv 1) (fun _ _ => rfl)))) qss_nil)
      (qss_cons (qs_for PassesOwn.never rfl (qi_list (qe_slice sl_list (qv 0) qo_none (qo_some qe_int))) (qg_name (i := 4) sc_law_box.nd rfl (Or.inl rfl))
      (qss_one (qs_set (i := 3) sc_law_box.nd rfl (Or.inl rfl) (qe_op op_mod (qe_op op_add (qe_op op_mul (qv 3) qe_int) (qv 4)) qe_int))))
      (qss_one (qs_ret (qe_lst (qac (qe_op op_mul (qe_callB call_abs (by rfl) T.b_abs PyProof.Rows.boot_abs (qac (qv 2) qa_nil)) (qe_callTy call_int1 (by rfl) T.b_int PyProof.Rows.boot_int (qac (qe_cmpR op_ge (qe_callB call_abs (by rfl) T.b_abs PyProof.Rows.boot_abs (qac (qv 2) qa_nil)) (qe_op op_pow qe_int qe_int) (nomark _)) qa_nil))) (qac (qe_op op_mod (qe_op op_add (qe_op op_add (qe_op op_mul (qv 3) qe_int) (qv 2)) (qe_op op_mul qe_int (qv 1))) qe_int) (qac qe_int qa_nil))))))))), ?_⟩
    refine ⟨by show 2 ≤ sizeLine; decide, fun tp htp => ⟨tp, _, rfl, SqT.of upd_same, rfl, _, _, rfl, _, _, rfl, rfl, ?_⟩⟩
    have s1 := Same.upd (o := .tup [.int 0, .int 7]) htp
    refine ⟨_, rfl, _, rfl, b, _, rfl, .inl (s1.seq hS), _, _, rfl, rfl, _, rfl, ?_⟩
    refine ite2 (fun hk => ?_) (fun _ => ?_)
    · have hk' : k < ns.length := by have := of_decide_eq_true hk; rw [List.length_map] at this; omega
      refine ⟨_, rfl, _, rfl, b, _, _, .int ns[k], rfl, rfl, s1.seq hS, atI_nat (by rw [List.getElem?_map, List.getElem?_eq_getElem hk']; rfl), ?_⟩
      refine ⟨_, rfl, _, rfl, b, _, rfl, s1.seq hS, fun l hl => ⟨l, rfl, ⟨_, SqL.of upd_same⟩, ?_⟩⟩
      rw [cut_ints]
      have s2 := s1.trans (Same.upd (o := .lst ((cutI ns none (some 63)).map V.int)) hl)
      refine for_list (K := K) (a := l) (xs := (cutI ns none (some 63)).map V.int) (fun i σ H2 => H2 = upd (upd H tp (.tup [.int 0, .int 7])) l (.lst ((cutI ns none (some 63)).map V.int)) ∧ ∃ (z : Int) (o : Option V), σ = [some (.ref b), some (.int (k : Int)), some (.int ns[k]), some (.int z), o] ∧ 0 ≤ z ∧ z < 2147483647) ⟨rfl, _, _, rfl, by decide, by decide⟩ (fun i σ H2 _ ⟨e, _⟩ => by subst e; exact SqL.of upd_same) ?_ ?_
      · rintro i x σ H2 hx ⟨rfl, z, o, rfl, z0, z1⟩
        obtain ⟨y, rfl, hy⟩ := ints_get hx
        refine ⟨_, rfl, _, _, rfl, rfl, .inr ⟨by decide, by decide⟩, _, rfl, _, _, rfl, rfl, _, _, rfl, rfl, (by decide : (0 : Int) < 2147483647), rfl, _, _, rfl, Int.emod_nonneg _ (by decide), Int.emod_lt_of_pos _ (by decide)⟩
      · rintro σ H2 ⟨rfl, z, o, rfl, z0, z1⟩
        refine ⟨_, rfl, _, rfl, _, rfl, _, rfl, _, _, rfl, rfl, ⟨by decide, by decide, by decide⟩, _, _, rfl, rfl, .inr ⟨_, rfl, ?_⟩⟩
        refine ⟨_, _, rfl, rfl, .inr ⟨b01_lo _, b01_hi _⟩, _, rfl, _, _, rfl, rfl, .inr ⟨by decide, by decide⟩, _, rfl, _, _, rfl, rfl, _, rfl, _, _, rfl, rfl, .inl ⟨by decide, by decide⟩, _, _, rfl, rfl, _, _, rfl, rfl, (by decide : (0 : Int) < 2305843009213693951), ?_⟩
        exact ⟨by show 3 ≤ sizeLine; decide, fun p hp => q _ _ (s2n hp s2) (s2.trans (Same.upd hp)) ⟨_, _, _, upd_same, Int.emod_nonneg _ (by decide), Int.emod_lt_of_pos _ (by decide), by decide, by decide⟩⟩
    · refine ⟨_, rfl, _, rfl, b, _, rfl, s1.seq hS, fun l hl => ⟨l, rfl, ⟨_, SqL.of upd_same⟩, ?_⟩⟩
      rw [cut_ints]
      have s2 := s1.trans (Same.upd (o := .lst ((cutI ns none (some 63)).map V.int)) hl)
      refine for_list (K := K) (a := l) (xs := (cutI ns none (some 63)).map V.int) (fun i σ H2 => H2 = upd (upd H tp (.tup [.int 0, .int 7])) l (.lst ((cutI ns none (some 63)).map V.int)) ∧ ∃ (z : Int) (o : Option V), σ = [some (.ref b), some (.int (k : Int)), some (.int 0), some (.int z), o] ∧ 0 ≤ z ∧ z < 2147483647) ⟨rfl, _, _, rfl, by decide, by decide⟩ (fun i σ H2 _ ⟨e, _⟩ => by subst e; exact SqL.of upd_same) ?_ ?_
      · rintro i x σ H2 hx ⟨rfl, z, o, rfl, z0, z1⟩
        obtain ⟨y, rfl, hy⟩ := ints_get hx
        refine ⟨_, rfl, _, _, rfl, rfl, .inr ⟨by decide, by decide⟩, _, rfl, _, _, rfl, rfl, _, _, rfl, rfl, (by decide : (0 : Int) < 2147483647), rfl, _, _, rfl, Int.emod_nonneg _ (by decide), Int.emod_lt_of_pos _ (by decide)⟩
      · rintro σ H2 ⟨rfl, z, o, rfl, z0, z1⟩
        refine ⟨_, rfl, _, rfl, _, rfl, _, rfl, _, _, rfl, rfl, ⟨by decide, by decide, by decide⟩, _, _, rfl, rfl, .inr ⟨_, rfl, ?_⟩⟩
        refine ⟨_, _, rfl, rfl, .inr ⟨b01_lo _, b01_hi _⟩, _, rfl, _, _, rfl, rfl, .inr ⟨by decide, by decide⟩, _, rfl, _, _, rfl, rfl, _, rfl, _, _, rfl, rfl, .inl ⟨by decide, by decide⟩, _, _, rfl, rfl, _, _, rfl, rfl, (by decide : (0 : Int) < 2305843009213693951), ?_⟩
        exact ⟨by show 3 ≤ sizeLine; decide, fun p hp => q _ _ (s2n hp s2) (s2.trans (Same.upd hp)) ⟨_, _, _, upd_same, Int.emod_nonneg _ (by decide), Int.emod_lt_of_pos _ (by decide), by decide, by decide⟩⟩
end
section
variable {P : Program} {w : World} {K : PySem.W.Frag} {mg : Str → Option Value} {base : Heap} {tk : Nat → Tok}
theorem ok_coded (a : At K mg "coded" s_coded ["table", "key", "digits"]) (T : Txt K mg tk) : Df P w K mg base "coded" ["table", "key", "digits"] 1 (spCoded K) := by
  refine a.dq sc_coded (fun vs H Q E h => ?_) (fun f cdv A outer s H vs Q E hr h => ?_)
  · obtain ⟨a, b, c, t, ks, ds, rfl, _⟩ := h
    rfl
  · obtain ⟨a, b, c, t, ks, ds, rfl, ha, hb, hc, lt, l1, l64, q⟩ := h
    refine ⟨_, (qss_cons (qs_set (i := 3) sc_coded.nd rfl (Or.inl rfl) (qe_callTy call_list_of (by rfl) T.b_list PyProof.Rows.boot_list (qac (qv 2) qa_nil)))
      (qss_cons (qs_for PassesOwn.never rfl (qi_seq (qv 1)) (qg_name (i := 4) sc_coded.nd rfl (Or.inl rfl))
      (qss_one (qs_for PassesOwn.never rfl (qi_range1 rfl T.b_range (qac (qe_callB call_len_seq (by rfl) T.b_len PySem.boot_len (qac (qv 2) qa_nil)) qa_nil)) (qg_name (i := 5) sc_coded.nd rfl (Or.inl rfl))
      (qss_cons (qs_set (i := 6) sc_coded.nd rfl (Or.inl rfl) (qe_ix ix_list (qv 3) (qe_op op_sub (qv 5) qe_int) (fun _ _ => rfl)))
      (qss_one (qs_asg (qe_ix (IxR.or ix_list ix_tup) (qv 0) (qe_op op_mod (qe_op op_add (qe_op op_add (qe_op op_add (qe_ix ix_list (qv 3) (qv 5) (fun _ _ => rfl)) (qv 4)) (qv 5)) (qv 6)) (qe_glob (v := .int 16) rfl T.g_DIGITS ⟨_, rfl⟩)) (fun _ _ => rfl)) (qg_sub (qv 3) (qv 5) set_list)))))))
      (qss_one (qs_ret (qe_callTy call_tuple_of (by rfl) T.b_tuple PyProof.Rows.boot_tuple (qac (qv 3) qa_nil)))))), ?_⟩
    refine ⟨_, rfl, c, _, rfl, hc, fun l hl => ?_⟩
    have s1 : Same H _ := Same.upd (o := .lst (ds.map V.int)) hl
    refine ⟨_, rfl, b, rfl, for_seq (K := K) (H0 := H) hb (fun j σ H2 => Same H H2 ∧ ∃ o4 o5 o6, σ = [some (.ref a), some (.ref b), some (.ref c), some (.ref l), o4, o5, o6] ∧ H2 l = some (.lst ((encK t (ks.take j) ds).map V.int))) ⟨s1, _, _, _, rfl, upd_same⟩ (fun j σ' H' h => h.1) ?_ ?_⟩
    · rintro j x σ H2 hx ⟨s2, o4, o5, o6, rfl, hm⟩
      obtain ⟨shift, rfl, hks⟩ := ints_get hx
      rw [take_succ_ints hks, encK_app]
      have hrl : (encK t (ks.take j) ds).length = ds.length := encK_len
      generalize encK t (ks.take j) ds = r at hm hrl
      refine ⟨_, rfl, c, _, rfl, hc.same s2, _, rfl, ?_, ?_, ?_⟩
      · omega
      · rw [List.length_map]; omega
      rw [show ((((ds.map V.int).length : Nat) : Int)).toNat = ds.length by rw [List.length_map]; rfl]
      refine for_range (n := ds.length) (Pv := fun i σ H3 => Same H H3 ∧ ∃ o5 o6, σ = [some (.ref a), some (.ref b), some (.ref c), some (.ref l), some (.int shift), o5, o6] ∧ H3 l = some (.lst ((encR t shift r i).map V.int))) ⟨s2, _, _, rfl, hm⟩ ?_ ?_
      · rintro i σ H3 hi ⟨s3, o5, o6, rfl, hm3⟩
        have hrl3 : (encR t shift r i).length = ds.length := by rw [encR_len, hrl]
        generalize hr' : encR t shift r i = r' at hm3 hrl3
        have hi' : i < r'.length := by omega
        refine ⟨_, rfl, _, rfl, _, _, rfl, rfl, l, _, _, _, rfl, rfl, SqL.of hm3, atI_ah (i := i) (by omega) hi', ?_⟩
        refine ⟨_, rfl, _, rfl, _, rfl, l, _, _, _, rfl, rfl, SqL.of hm3, atI_getD (i := i) (by omega) hi', _, rfl, _, _, rfl, rfl, _, rfl, _, _, rfl, rfl, _, rfl, _, _, rfl, rfl, _, _, rfl, rfl, (by decide : (0 : Int) < 16), ?_⟩
        have dm := dig_mod (r'.getD i 0 + shift + (0 + (i : Int)) + ah r' i)
        refine (ha.same s3).ix (atI_getD (i := ((r'.getD i 0 + shift + (0 + (i : Int)) + ah r' i) % 16).toNat) (by have := dm.1; omega) (by rw [lt]; have := dm.1; have := dm.2; omega)) ?_
        refine ⟨_, rfl, _, rfl, l, _, _, i, rfl, rfl, hm3, ixN_int (by omega) (by rw [List.length_map]; exact hi'), same_write s3 hl, _, _, rfl, ?_⟩
        rw [upd_same, ints_set, encR, hr', enc1, Int.zero_add]
      · rintro σ H3 ⟨s3, o5, o6, rfl, hm3⟩
        exact ⟨s3, _, _, _, rfl, hm3⟩
    · rintro σ H2 ⟨s2, o4, o5, o6, rfl, hm⟩
      rw [List.length_map, List.take_length] at hm
      exact ⟨_, rfl, l, _, rfl, .inl ⟨SqL.of hm, fun p hp => q p _ (s2.trans (Same.upd hp)) (s2n hp s2) upd_same⟩⟩
end
section
variable {P : Program} {w : World} {K : PySem.W.Frag} {mg : Str → Option Value} {base : Heap} {tk : Nat → Tok}
theorem ok_letter_digits (a : At K mg "letter_digits" s_letter_digits ["name"]) (T : Txt K mg tk) : Df P w K mg base "letter_digits" ["name"] 1 spLetters := by
  refine a.dq sc_letter_digits (fun vs H Q E h => ?_) (fun f cdv A outer s H vs Q E hr h => ?_)
  · obtain ⟨z, rfl, _⟩ := h
    rfl
  · obtain ⟨z, rfl, hz, q⟩ := h
    refine ⟨_, (qss_cons (qs_set (i := 1) sc_letter_digits.nd rfl (Or.inl rfl) (qe_lst qa_nil))
      (qss_cons (qs_for PassesOwn.never rfl (qi_str (qv 0)) (qg_name (i := 2) sc_letter_digits.nd rfl (Or.inl rfl))
      (qss_cons (qs_set (i := 3) sc_letter_digits.nd rfl (Or.inl rfl) (qe_op op_sub (qe_callB call_ord (by rfl) T.b_ord PyProof.Rows.boot_ord (qac (qv 2) qa_nil)) (qe_callB call_ord (by rfl) T.b_ord PyProof.Rows.boot_ord (qac qe_str qa_nil))))
      (qss_cons (qs_expr (qe_bm PySem.F.plainAttrs_list PySem.F.slot_list_append PySem.F.type_list_append mr_append (qv 1) (qac (qe_op op_mod (qv 3) (qe_glob (v := .int 16) rfl T.g_DIGITS ⟨_, rfl⟩)) qa_nil)))
      (qss_one (qs_expr (qe_bm PySem.F.plainAttrs_list PySem.F.slot_list_append PySem.F.type_list_append mr_append (qv 1) (qac (qe_op op_fdiv (qv 3) (qe_glob (v := .int 16) rfl T.g_DIGITS ⟨_, rfl⟩)) qa_nil)))))))
      (qss_one (qs_ret (qv 1))))), ?_⟩
    refine ⟨by show 0 ≤ sizeLine; decide, fun l hl => ?_⟩
    refine ⟨_, rfl, z, rfl, nm_ascii hz, for_str (fun i σ H2 => Same H H2 ∧ ∃ o2 o3, σ = [some (.str z), some (.ref l), o2, o3] ∧ H2 l = some (.lst ((letDs (z.cps.toList.take i)).map V.int))) ⟨Same.upd hl, _, _, rfl, upd_same⟩ ?_ ?_⟩
    · rintro i c σ H2 hc ⟨s2, o2, o3, rfl, hm⟩
      have hc' := cps_get hc
      rw [take_cs hc', letDs_app]
      have hln : (letDs (z.cps.toList.take i)).length ≤ 16 := by rw [letDs_len, List.length_take]; have := hz.2.2; omega
      generalize letDs (z.cps.toList.take i) = ds at hm hln
      have eX : ((((⟨#[c]⟩ : Str).cps.getD 0 0 : Nat) : Int) - ((("a" : Str).cps.getD 0 0 : Nat) : Int)) = (c : Int) - 97 := rfl
      have big : (100 : Nat) < sizeLine := by decide
      refine ⟨_, rfl, _, rfl, rfl, _, rfl, rfl, _, _, rfl, rfl, ?_⟩
      show tSeq _ _ _ [some (V.str z), some (V.ref l), some (V.str ⟨#[c]⟩), some (V.int ((c : Int) - 97))] H2
      refine ⟨_, rfl, .inl ⟨rfl, _, SqL.of hm⟩, _, rfl, _, _, rfl, rfl, (by decide : (0 : Int) < 16), l, _, _, rfl, rfl, hm, by rw [List.length_map]; omega, ?_⟩
      have w1 : Same H (upd H2 l (.lst (ds.map V.int ++ [V.int (((c : Int) - 97) % 16)]))) := same_write s2 hl
      refine ⟨_, rfl, .inl ⟨rfl, _, SqL.of upd_same⟩, _, rfl, _, _, rfl, rfl, ⟨by decide, by decide⟩, l, _, _, rfl, rfl, upd_same, by rw [List.length_append, List.length_map, List.length_singleton]; omega, same_write w1 hl, _, _, rfl, ?_⟩
      rw [upd_same, List.map_append, List.append_assoc]
      rfl
    · rintro σ H2 ⟨s2, o2, o3, rfl, hm⟩
      rw [show z.cps.size = z.cps.toList.length from rfl, List.take_length] at hm
      exact ⟨_, rfl, q l H2 s2 hl hm⟩
theorem ok_key_of (a : At K mg "key_of" s_key_of ["table", "key", "name"]) (T : Txt K mg tk) (D_letter_digits : Df P w K mg base "letter_digits" ["name"] 1 spLetters) (D_coded : Df P w K mg base "coded" ["table", "key", "digits"] 1 (spCoded K)) : Df P w K mg base "key_of" ["table", "key", "name"] 2 (spKeyOf K) := by
  refine a.dq sc_key_of (fun vs H Q E h => ?_) (fun f cdv A outer s H vs Q E hr h => ?_)
  · obtain ⟨a, b, z, t, ks, rfl, _⟩ := h
    rfl
  · obtain ⟨a, b, z, t, ks, rfl, ha, hb, hz, lt, q⟩ := h
    refine ⟨_, (qss_cons (qs_set (i := 3) sc_key_of.nd rfl (Or.inl rfl) (qe_op op_rep (qe_lst (qac qe_int qa_nil)) (qe_glob (v := .int 4) rfl T.g_KEY_PLACES ⟨_, rfl⟩)))
      (qss_cons (qs_for PassesOwn.never rfl (qi_enum rfl T.b_enumerate (qac (qe_def D_letter_digits (hr.mono (by first | decide | omega)) (qac (qv 2) qa_nil)) qa_nil)) (qg_tup rfl (qgs_cons (qg_name (i := 4) sc_key_of.nd rfl (Or.inl rfl)) (qgs_cons (qg_name (i := 5) sc_key_of.nd rfl (Or.inl rfl)) qgs_nil)))
      (qss_one (qs_augS (qv 3) (qe_op op_mod (qv 4) (qe_glob (v := .int 4) rfl T.g_KEY_PLACES ⟨_, rfl⟩)) get_list (qv 5) ip_add set_list)))
      (qss_one (qs_ret (qe_def D_coded (hr.mono (by first | decide | omega)) (qac (qv 0) (qac (qv 1) (qac (qe_comp (own := ["total"]) (fr := []) (js := []) rfl (qi_list (qv 3)) rfl (fun _ _ h => nomatch h) rfl (bsc0 rfl (by decide +kernel) (by decide +kernel) (by decide +kernel)) (fun _ _ _ _ => qg_name (i := 0) (show List.Nodup (["total"] : List Str) from by decide +kernel) rfl (Or.inl rfl) (.inr rfl)) (fun _ _ _ _ => (qe_op op_mod (qv 0) (qe_glob (v := .int 16) rfl T.g_DIGITS ⟨_, rfl⟩)))) qa_nil)))))))), ?_⟩
    refine ⟨by show 1 ≤ sizeLine; decide, fun p0 hp0 => ⟨p0, 4, _, rfl, rfl, upd_same, by decide, by decide, by show 4 ≤ sizeLine; decide, fun l hl => ?_⟩⟩
    have s1 := (Same.upd (o := .lst [V.int 0]) hp0)
    have s2 := s1.trans (Same.upd (o := .lst (List.replicate (4 : Int).toNat [V.int 0]).flatten) hl)
    have hlH : H l = none := s2n hl s1
    refine ⟨_, rfl, z, rfl, hz, fun ld H1 s3 hldn hld => ?_⟩
    have hm1 := s3 _ _ (upd_same (H := upd H p0 (.lst [V.int 0])) (a := l) (o := .lst (List.replicate (4 : Int).toNat [V.int 0]).flatten))
    have ndl : ld ≠ l := fun y => by rw [y, upd_same] at hldn; cases hldn
    generalize hds : letDs z.cps.toList = ds at hld q
    have hdl : ds.length ≤ 16 := by rw [← hds, letDs_len]; have := hz.2.2; omega
    refine ⟨ld, rfl, ⟨_, SqL.of hld⟩, for_enum (K := K) (a := ld) (xs := ds.map V.int) (fun i σ H2 => ∃ (o4 o5 : Option V), σ = [some (.ref a), some (.ref b), some (.str z), some (.ref l), o4, o5] ∧ H2 l = some (.lst ((sumsL ds i).map V.int)) ∧ H2 ld = some (.lst (ds.map V.int)) ∧ Same H H2)
      ⟨none, none, rfl, hm1, hld, s2.trans s3⟩ (fun i σ H2 _ ⟨_, _, _, _, hd, _⟩ => SqL.of hd) ?_ ?_⟩
    · rintro i x σ H2 pp hx ⟨o4, o5, rfl, hm, hd2, sm⟩ hpp
      obtain ⟨dg, rfl, hz'⟩ := ints_get hx
      have hi : i < ds.length := (List.getElem?_eq_some_iff.mp hz').1
      have eg : ds.getD i 0 = dg := by rw [List.getD_eq_getElem?_getD, hz']; rfl
      have sp2 := Same.upd (o := .tup [.int i, .int dg]) hpp
      have hm' := sp2 _ _ hm
      have h4 : i % 4 < (sumsL ds i).length := Nat.mod_lt i (by decide)
      have e4 : (i : Int) % 4 = ((i % 4 : Nat) : Int) := by omega
      refine ⟨pp, _, rfl, SqT.of upd_same, rfl, _, _, rfl, _, _, rfl, rfl, ?_⟩
      refine ⟨_, rfl, _, rfl, _, _, rfl, rfl, (by decide : (0 : Int) < 4), l, _, i % 4, .int ((sumsL ds i).getD (i % 4) 0), rfl, (by show V.int ((i : Int) % 4) = _; rw [e4]), hm', ?_, _, rfl, _, _, rfl, rfl, l, _, _, i % 4, rfl, rfl, hm', ixN_int e4 (by rw [List.length_map]; exact h4), _, _, rfl, ?_, ?_, ?_⟩
      · rw [ints_at h4, List.getD_eq_getElem?_getD, List.getElem?_eq_getElem h4]; rfl
      · rw [upd_same, ints_set, ← eg, sums_step]
      · rw [upd_ne ndl]; exact sp2 _ _ hd2
      · exact same_write (sm.trans sp2) hlH
    · rintro σ H2 ⟨o4, o5, rfl, hm, hd2, sm⟩
      rw [List.length_map] at hm
      refine ⟨_, rfl, _, rfl, _, rfl, l, rfl, ⟨_, SqL.of hm⟩, comp_list (xs := (sumsL ds ds.length).map V.int) (by show 4 ≤ sizeLine; decide) (fun i ys H3 => ys = ((ownK ds).take i).map V.int ∧ H3 = H2) ⟨by simp, rfl⟩ (fun i ys H3 ⟨_, e⟩ => by rw [e]; exact SqL.of hm) ?_ ?_⟩
      · rintro i ys H3 x hx _ ⟨rfl, rfl⟩
        obtain ⟨y, rfl, hy⟩ := ints_get hx
        refine ⟨_, rfl, _, _, rfl, rfl, (by decide : (0 : Int) < 16), ?_, rfl⟩
        have : (ownK ds)[i]? = some (y % 16) := by unfold ownK; rw [List.getElem?_map, hy]; rfl
        rw [List.take_add_one, this]; simp
      · rintro ys H3 hyl ⟨rfl, rfl⟩ p hp
        rw [show (ownK ds).take ((sumsL ds ds.length).map V.int).length = ownK ds from rfl]
        have su := Same.upd (o := .lst ((ownK ds).map V.int)) hp
        exact ⟨a, b, p, t, ks, ownK ds, rfl, (ha.same sm).same su, (hb.same sm).same su, .lst upd_same, lt, by rw [ownK_len]; decide, by rw [ownK_len]; decide, fun p' H' s' hn' hp' => q p' H' ((sm.trans su).trans s') (s2n hn' (sm.trans su)) hp'⟩
end
section
variable {P : Program} {w : World} {K : PySem.W.Frag} {mg : Str → Option Value} {base : Heap} {tk : Nat → Tok}
theorem ok_count_digits (a : At K mg "count_digits" s_count_digits ["count"]) (T : Txt K mg tk) : Df P w K mg base "count_digits" ["count"] 1 spCD := by
  refine a.dq sc_count_digits (fun vs H Q E h => ?_) (fun f cdv A outer s H vs Q E hr h => ?_)
  · obtain ⟨c, rfl, _⟩ := h
    rfl
  · obtain ⟨c, rfl, q⟩ := h
    refine ⟨_, (qss_one (qs_ret (qe_tup (qac (qe_op op_mod (qv 0) (qe_glob (v := .int 16) rfl T.g_DIGITS ⟨_, rfl⟩)) (qac (qe_op op_mod (qe_op op_fdiv (qv 0) (qe_glob (v := .int 16) rfl T.g_DIGITS ⟨_, rfl⟩)) (qe_glob (v := .int 16) rfl T.g_DIGITS ⟨_, rfl⟩)) (qac (qe_op op_fdiv (qv 0) qe_int) qa_nil)))))), ?_⟩
    exact ⟨_, rfl, _, _, rfl, rfl, (by decide : (0 : Int) < 16), _, rfl, _, _, rfl, rfl, ⟨by decide, by decide⟩, _, _, rfl, rfl, (by decide : (0 : Int) < 16), _, rfl, _, _, rfl, rfl, ⟨by decide, by decide⟩, by show 3 ≤ sizeLine; decide, fun p hp => q p _ (Same.upd hp) upd_same⟩
theorem four_bd {c d : Int} (h0 : 0 ≤ c) (h1 : c < 4096) (hd : dig d) : ∀ z ∈ fourI c d, 0 ≤ z ∧ z ≤ 1000000 := fun z hz => by
  have := five_dig h0 h1 hd z (List.mem_append_left _ hz)
  exact ⟨this.1, Int.le_trans (Int.le_of_lt this.2) (by decide)⟩
theorem ok_press_of (a : At K mg "press_of" s_press_of ["table", "key", "name", "age", "count", "deed"]) (T : Txt K mg tk) (D_count_digits : Df P w K mg base "count_digits" ["count"] 1 spCD) (D_key_of : Df P w K mg base "key_of" ["table", "key", "name"] 2 (spKeyOf K)) (D_coded : Df P w K mg base "coded" ["table", "key", "digits"] 1 (spCoded K)) : Df P w K mg base "press_of" ["table", "key", "name", "age", "count", "deed"] 3 (spPress K) := by
  refine a.dq sc_press_of (fun vs H Q E h => ?_) (fun f cdv A outer s H vs Q E hr h => ?_)
  · obtain ⟨a, b, z, age, c, d, t, ks, rfl, _⟩ := h
    rfl
  · obtain ⟨a, b, z, age, c, d, t, ks, rfl, ha, hb, hz, lt, c0, c1, hd, q⟩ := h
    refine ⟨_, (qss_cons (qs_set (i := 6) sc_press_of.nd rfl (Or.inl rfl) (qe_op op_catW (qe_def D_count_digits (hr.mono (by first | decide | omega)) (qac (qv 4) qa_nil)) (qe_tup (qac (qv 5) qa_nil))))
      (qss_cons (qs_set (i := 7) sc_press_of.nd rfl (Or.inl rfl) (qe_op op_catW (qv 6) (qe_tup (qac (qe_op op_mod (qe_callB (call_sumI rfl) (by rfl) T.b_sum PyProof.Rows.boot_sum (qac (qv 6) qa_nil)) (qe_glob (v := .int 16) rfl T.g_DIGITS ⟨_, rfl⟩)) qa_nil))))
      (qss_one (qs_ret (qe_tup (qac (qv 2) (qac (qv 3) (qac (qe_def D_coded (hr.mono (by first | decide | omega)) (qac (qv 0) (qac (qe_def D_key_of (hr.mono (by first | decide | omega)) (qac (qv 0) (qac (qv 1) (qac (qv 2) qa_nil)))) (qac (qv 7) qa_nil)))) qa_nil)))))))), ?_⟩
    refine ⟨_, rfl, c, rfl, fun p1 H1 s1 hp1 => ?_⟩
    refine ⟨_, rfl, by show 1 ≤ sizeLine; decide, fun p2 hp2 => ?_⟩
    have u2 := Same.upd (o := .tup [V.int d]) hp2
    refine ⟨p1, p2, _, _, rfl, rfl, u2 _ _ hp1, upd_same, by show 4 ≤ sizeLine; decide, fun p3 H3 s3 hp3 => ?_⟩
    have hp3' : H3 p3 = some (.tup ((fourI c d).map V.int)) := hp3
    have S3 := (s1.trans u2).trans s3
    refine ⟨_, rfl, _, rfl, p3, fourI c d, rfl, .tup hp3', by show 4 ≤ 1000; decide, four_bd c0 c1 hd, _, _, rfl, rfl, (by decide : (0 : Int) < 16), by show 1 ≤ sizeLine; decide, fun p4 hp4 => ?_⟩
    have u4 := Same.upd (o := .tup [V.int ((fourI c d).sum % 16)]) hp4
    refine ⟨p3, p4, _, _, rfl, rfl, u4 _ _ hp3', upd_same, by show 5 ≤ sizeLine; decide, fun p5 H5 s5 hp5 => ?_⟩
    have hp5' : H5 p5 = some (.tup ((fiveI c d).map V.int)) := hp5
    have S5 := (S3.trans u4).trans s5
    refine ⟨_, rfl, _, rfl, _, rfl, _, rfl, _, rfl, _, rfl, a, b, z, t, ks, rfl, ha.same S5, hb.same S5, hz, lt, fun pk H6 s6 _ hpk => ?_⟩
    refine ⟨_, rfl, a, pk, p5, t, keyZ t ks z, fiveI c d, rfl, (ha.same S5).same s6, .tup hpk, .tup (s6 _ _ hp5'), lt, by rw [five_len]; decide, by rw [five_len]; decide, fun pc H7 s7 _ hpc => ?_⟩
    refine ⟨by show 3 ≤ sizeLine; decide, fun p hp => ?_⟩
    have u8 := Same.upd (o := .tup [V.str z, .int age, .ref pc]) hp
    exact q p pc _ (((S5.trans s6).trans s7).trans u8) upd_same (u8 _ _ hpc)
end
section
variable {P : Program} {w : World} {K : PySem.W.Frag} {mg : Str → Option Value} {base : Heap} {tk : Nat → Tok}
theorem ok_law_table (a : At K mg "_law_table" s_law_table ["_law_box_here"]) (T : Txt K mg tk) (D_law_take : Df P w K mg base "_law_take" ["_law_box_here", "_law_many"] 1 spTake2) : Df P w K mg base "_law_table" ["_law_box_here"] 2 spTable2 := by
  refine a.dq sc_law_table (fun vs H Q E h => ?_) (fun f cdv A outer s H vs Q E hr h => ?_)
  · obtain ⟨x, c, rfl, _⟩ := h
    rfl
  · obtain ⟨b, c, rfl, hb, hc, q⟩ := h
    refine ⟨_, (qss_cons (qs_set (i := 1) sc_law_table.nd rfl (Or.inr rfl) (qe_callTy (call_listR rfl) (by rfl) T.b_list PyProof.Rows.boot_list (qac (qe_callTy call_rng1 (by rfl) T.b_range PyProof.Rows.boot_range (qac qe_int qa_nil)) qa_nil)))
      (qss_one (qs_ret (qe_callTy call_tuple_of (by rfl) T.b_tuple PyProof.Rows.boot_tuple (qac (qe_comp (own := ["_law_k"]) (fr := ["_law_rest", "_law_box_here"]) (js := [1, 0]) rfl (qi_range1 rfl T.b_range (qac qe_int qa_nil)) rfl (clo2 rfl rfl) rfl (bsc2 rfl (by decide +kernel) (by decide +kernel) (by decide +kernel) rfl rfl rfl rfl rfl rfl) (fun _ _ _ _ => qg_name (i := 0) (show List.Nodup (["_law_k", "_law_rest", "_law_box_here"] : List Str) from by decide +kernel) rfl (Or.inl rfl) (.inr rfl)) (fun _ _ _ _ => (qe_bmK (K := K) rfl PySem.F.plainAttrs_list PySem.F.slot_list_pop PySem.F.type_list_pop mr_popAt (qv 1) (qac (qe_def D_law_take (hr.mono (by first | decide | omega)) (qac (qv 2) (qac (qe_callB (call_len_seqK (K := K) rfl) (by rfl) T.b_len PySem.boot_len (qac (qv 1) qa_nil)) qa_nil))) qa_nil)))) qa_nil))))), ?_⟩
    refine ⟨_, rfl, fun r hr0 => ⟨r, 16, rfl, upd_same, by decide, fun l hl => ?_⟩⟩
    rw [digs_V]
    have s1 := (Same.upd (o := .rng 0 16) hr0).trans (Same.upd (o := .lst (digs.map V.int)) hl)
    have nlb : l ≠ b := boxc_fresh ((Same.upd hr0).grc hb).bx hl
    refine ⟨_, rfl, by decide, by decide, comp_range (n := 16) (by decide) (fun i ys H2 => GrC b (c + i) H H2 ∧ ∃ ms zs : List Int, H2 l = some (.lst (ms.map V.int)) ∧ ys = zs.map V.int ∧ ms.length + i = 16 ∧ (zs ++ ms).Perm digs) ⟨s1.grc hb, digs, [], upd_same, rfl, by rw [digs_len], .refl _⟩ ?_ ?_⟩
    · rintro i ys H2 hi hl2 ⟨G2, ms, zs, hm, rfl, hml, pm⟩
      refine ⟨_, rfl, .inl ⟨rfl, _, SqL.of hm⟩, ?_⟩
      refine ⟨_, rfl, _, rfl, l, _, rfl, .inl (SqL.of hm), b, _, _, rfl, G2.bx, by omega, by rw [List.length_map]; omega, by rw [List.length_map]; omega, fun x H3 x0 x1 g3 => ?_⟩
      rw [List.length_map] at x1
      obtain ⟨k, rfl⟩ : ∃ k : Nat, x = (k : Int) := ⟨x.toNat, by omega⟩
      have hk : k < ms.length := by omega
      have hm3 := g3.kp _ _ nlb hm
      refine ⟨l, _, _, k, .int ms[k], rfl, rfl, hm3, by omega, by omega, ?_, ?_, ?_⟩
      · rw [List.length_map]; exact seqIndex_nat hk
      · rw [List.getElem?_map, List.getElem?_eq_getElem hk]; rfl
      · refine ⟨⟨fun c o hcb e => ?_, ?_⟩, ms.eraseIdx k, zs ++ [ms[k]], ?_, by simp, ?_, ?_⟩
        · by_cases z : c = l
          · subst z
            rw [Same.upd hr0 _ _ e] at hl; cases hl
          · rw [upd_ne z]; exact g3.kp _ _ hcb (G2.kp _ _ hcb e)
        · obtain ⟨n, m, k', e, r⟩ := g3.bx
          exact ⟨n, m, k', by rw [upd_ne nlb.symm]; exact e, r⟩
        · rw [upd_same, erase_ints]
        · rw [List.length_eraseIdx_of_lt hk]; omega
        · exact (perm_pop hk).trans pm
    · rintro ys H2 hyl ⟨G2, ms, zs, hm, rfl, hml, pm⟩ p hp
      have e0 : ms = [] := List.eq_nil_of_length_eq_zero (by omega)
      subst e0
      rw [List.append_nil] at pm
      refine ⟨p, _, rfl, .inl ⟨SqL.of upd_same, fun t ht => ?_⟩⟩
      have G3 := G2.same (Same.upd (o := .lst (zs.map V.int)) hp)
      exact q t zs _ (G3.same (Same.upd ht)) (G3.fresh (hb.mono (by omega)) ht) upd_same pm
theorem ok_law_key (a : At K mg "_law_key" s_law_key ["_law_box_here"]) (T : Txt K mg tk) (D_law_take : Df P w K mg base "_law_take" ["_law_box_here", "_law_many"] 1 spTake2) : Df P w K mg base "_law_key" ["_law_box_here"] 2 spKeyT2 := by
  refine a.dq sc_law_key (fun vs H Q E h => ?_) (fun f cdv A outer s H vs Q E hr h => ?_)
  · obtain ⟨x, c, rfl, _⟩ := h
    rfl
  · obtain ⟨b, c, rfl, hb, hc, q⟩ := h
    refine ⟨_, (qss_one (qs_ret (qe_callTy call_tuple_of (by rfl) T.b_tuple PyProof.Rows.boot_tuple (qac (qe_comp (own := ["_law_k"]) (fr := ["_law_box_here"]) (js := [0]) rfl (qi_range1 rfl T.b_range (qac (qe_op op_add qe_int (qe_def D_law_take (hr.mono (by first | decide | omega)) (qac (qv 0) (qac qe_int qa_nil)))) qa_nil)) rfl (clo1 rfl) rfl (bsc1 rfl (by decide +kernel) (by decide +kernel) (by decide +kernel) rfl rfl rfl) (fun _ _ _ _ => qg_name (i := 0) (show List.Nodup (["_law_k", "_law_box_here"] : List Str) from by decide +kernel) rfl (Or.inl rfl) (.inr rfl)) (fun _ _ _ _ => (qe_def D_law_take (hr.mono (by first | decide | omega)) (qac (qv 1) (qac qe_int qa_nil))))) qa_nil)))), ?_⟩
    refine ⟨_, rfl, b, _, _, rfl, hb, by omega, by decide, by decide, fun r H1 r0 r1 g1 => ⟨_, _, rfl, rfl, _, rfl, by omega, by omega, ?_⟩⟩
    obtain ⟨n, rfl, n8⟩ : ∃ n : Nat, r = (n : Int) ∧ n < 8 := ⟨r.toNat, by omega, by omega⟩
    have en : (1 + (n : Int)).toNat = n + 1 := by omega
    rw [en]
    refine comp_range (n := n + 1) (Nat.le_trans (by omega : n + 1 ≤ 8) (by decide)) (fun i ys H2 => GrC b (c + 1 + i) H H2 ∧ ∃ ks : List Int, ys = ks.map V.int ∧ digR ks) ⟨g1, [], rfl, fun _ h => nomatch h⟩ ?_ ?_
    · rintro i ys H2 hi hl2 ⟨G2, ks, rfl, hk⟩
      refine ⟨_, rfl, b, _, _, rfl, G2.bx, by omega, by decide, by decide, fun x H3 x0 x1 g3 => ⟨G2.trans g3, ks ++ [x], by simp, fun z hz => ?_⟩⟩
      rcases List.mem_append.mp hz with y | y
      · exact hk z y
      · rw [List.mem_singleton.mp y]; exact ⟨x0, x1⟩
    · rintro ys H2 hyl ⟨G2, ks, rfl, hk⟩ p hp
      rw [List.length_map] at hyl
      refine ⟨p, _, rfl, .inl ⟨SqL.of upd_same, fun t ht => ?_⟩⟩
      have G3 := G2.same (Same.upd (o := .lst (ks.map V.int)) hp)
      exact q t ks _ ((G3.same (Same.upd ht)).mono (by omega)) (G3.fresh (hb.mono (by omega)) ht) upd_same hk (by omega) (by omega)
theorem ok_law_name (a : At K mg "_law_name" s_law_name ["_law_box_here"]) (T : Txt K mg tk) (D_law_take : Df P w K mg base "_law_take" ["_law_box_here", "_law_many"] 1 spTake2) : Df P w K mg base "_law_name" ["_law_box_here"] 2 spName2 := by
  refine a.dq sc_law_name (fun vs H Q E h => ?_) (fun f cdv A outer s H vs Q E hr h => ?_)
  · obtain ⟨x, c, rfl, _⟩ := h
    rfl
  · obtain ⟨b, c, rfl, hb, hc, q⟩ := h
    refine ⟨_, (qss_cons (qs_set (i := 1) sc_law_name.nd rfl (Or.inl rfl) (qe_lst (qac qe_str (qac qe_str (qac qe_str (qac qe_str (qac qe_str (qac qe_str (qac qe_str (qac qe_str (qac qe_str (qac qe_str (qac qe_str (qac qe_str qa_nil))))))))))))))
      (qss_one (qs_ret (qe_ix ix_list (qv 1) (qe_def D_law_take (hr.mono (by first | decide | omega)) (qac (qv 0) (qac qe_int qa_nil))) (fun _ _ => rfl))))), ?_⟩
    refine ⟨by show 12 ≤ sizeLine; decide, fun l hl => ⟨_, rfl, _, rfl, b, _, _, rfl, ((Same.upd hl).grc hb).bx, by omega, by decide, by decide, fun r H2 r0 r1 g2 => ?_⟩⟩
    obtain ⟨v, hv, hvm⟩ := draw_at (xs := [V.str "a", .str "b", .str "ab", .str "ba", .str "aaaaaaaa", .str "aaaaaaab", .str "door", .str "gate", .str "x", .str "xy", .str "yx", .str "zz"]) r0 r1
    refine ⟨l, _, r, v, rfl, rfl, SqL.of (g2.kp l _ (boxc_fresh hb hl) upd_same), hv, ?_⟩
    have G := ((Same.upd (o := .lst [V.str "a", .str "b", .str "ab", .str "ba", .str "aaaaaaaa", .str "aaaaaaab", .str "door", .str "gate", .str "x", .str "xy", .str "yx", .str "zz"]) hl).grc hb).trans g2
    simp only [List.mem_cons, List.not_mem_nil, or_false] at hvm
    rcases hvm with rfl | rfl | rfl | rfl | rfl | rfl | rfl | rfl | rfl | rfl | rfl | rfl
    all_goals exact q _ _ G ⟨by decide +kernel, by decide +kernel, by decide +kernel⟩
end
section
variable {P : Program} {w : World} {K : PySem.W.Frag} {mg : Str → Option Value} {base : Heap} {tk : Nat → Tok}
theorem ok_law_alike (a : At K mg "_law_alike" s_law_alike ["_law_found", "_law_due"]) (T : Txt K mg tk) : ∀ n : Nat, n ≤ 8 → Df P w K mg base "_law_alike" ["_law_found", "_law_due"] (n + 1) (spAl n)
  | 0, _ => by
    refine a.dq sc_law_alike (fun vs H Q E h => ?_) (fun f cdv A outer s H vs Q E hr h => ?_)
    · obtain ⟨x, y, rfl, _⟩ := h
      rfl
    · obtain ⟨x, y, rfl, e, q⟩ := h
      refine ⟨_, (qss_cons (qs_if (qt_val (qe_callB call_isiB (by rfl) T.b_isinstance PyProof.Rows.boot_isinstance (qac (qv 1) (qac (qe_tup (qac (qe_bltn (v := .ty "list") rfl T.b_list PyProof.Rows.boot_list rfl) (qac (qe_bltn (v := .ty "tuple") rfl T.b_tuple PyProof.Rows.boot_tuple rfl) qa_nil))) qa_nil)))) qss_never qss_nil)
      (qss_cons (qs_if (QW.pt (qw_or (qt_val (qe_callB call_isiA (by rfl) T.b_isinstance PyProof.Rows.boot_isinstance (qac (qv 1) (qac (qe_bltn (v := .ty "str") rfl T.b_str PyProof.Rows.boot_str rfl) qa_nil)))) (qw_or1 (qt_cmpR op_isN (qv 1) qe_non (nomark _))))) (qss_one (qs_ret (qe_cmpR op_eq (qv 0) (qv 1) (nomark _)))) qss_nil)
      (qss_one (qs_ret (qe_and (qe_callB call_isiA (by rfl) T.b_isinstance PyProof.Rows.boot_isinstance (qac (qv 0) (qac (qe_bltn (v := .ty "int") rfl T.b_int PyProof.Rows.boot_int rfl) qa_nil))) (qe_and (qe_not (qe_callB call_isiA (by rfl) T.b_isinstance PyProof.Rows.boot_isinstance (qac (qv 0) (qac (qe_bltn (v := .ty "bool") rfl T.b_bool PyProof.Rows.boot_bool rfl) qa_nil)))) (qe_one (qe_cmpR op_eq (qv 0) (qv 1) (nomark _))))))))), ?_⟩
      cases e with
      | int _ i =>
        refine ⟨_, rfl, by show 2 ≤ sizeLine; decide, fun p hp => ⟨_, p, ["list", "tuple"], "int", rfl, upd_same, .int i, by simp, _, rfl, ?_⟩⟩
        rw [show (["list", "tuple"].any (subT "int")) = false from by decide]
        refine iteF ⟨_, rfl, _, "str", "int", rfl, .int i, by simp, _, rfl, ?_⟩
        rw [show subT "int" "str" = false from by decide]
        refine iteF ⟨_, rfl, rfl, _, rfl, ?_⟩
        refine ite2 (fun z => nomatch (of_decide_eq_true z)) (fun _ => ⟨_, rfl, _, "int", "int", rfl, .int i, by simp, _, rfl, ?_⟩)
        rw [show subT "int" "int" = true from by decide]
        refine iteT ⟨_, rfl, _, "bool", "int", rfl, .int i, by simp, _, rfl, ?_⟩
        rw [show subT "int" "bool" = false from by decide]
        refine ⟨_, rfl, iteT ⟨_, rfl, _, rfl, rfl, ?_⟩⟩
        rw [decide_eq_true rfl]
        exact q _ (Same.upd hp)
      | str _ z =>
        refine ⟨_, rfl, by show 2 ≤ sizeLine; decide, fun p hp => ⟨_, p, ["list", "tuple"], "str", rfl, upd_same, .str z, by simp, _, rfl, ?_⟩⟩
        rw [show (["list", "tuple"].any (subT "str")) = false from by decide]
        refine iteF ⟨_, rfl, _, "str", "str", rfl, .str z, by simp, _, rfl, ?_⟩
        rw [show subT "str" "str" = true from by decide]
        refine iteT (iteT ⟨_, rfl, _, rfl, rfl, ?_⟩)
        rw [decide_eq_true rfl]
        exact q _ (Same.upd hp)
      | non _ =>
        refine ⟨_, rfl, by show 2 ≤ sizeLine; decide, fun p hp => ⟨_, p, ["list", "tuple"], "NoneType", rfl, upd_same, .non, by simp, _, rfl, ?_⟩⟩
        rw [show (["list", "tuple"].any (subT "NoneType")) = false from by decide]
        refine iteF ⟨_, rfl, _, "str", "NoneType", rfl, .non, by simp, _, rfl, ?_⟩
        rw [show subT "NoneType" "str" = false from by decide]
        refine iteF ⟨_, rfl, rfl, _, rfl, ?_⟩
        refine ite2 (fun _ => ⟨_, rfl, _, rfl, rfl, ?_⟩) (fun z => absurd (decide_eq_true rfl) z)
        rw [decide_eq_true rfl]
        exact q _ (Same.upd hp)
  | n + 1, hn => by
    have D_law_alike := ok_law_alike a T n (by omega)
    refine a.dq sc_law_alike (fun vs H Q E h => ?_) (fun f cdv A outer s H vs Q E hr h => ?_)
    · obtain ⟨x, y, rfl, _⟩ := h
      rfl
    · obtain ⟨x, y, rfl, e, q⟩ := h
      cases e with
      | int _ i =>
        refine ⟨_, (qss_cons (qs_if (qt_val (qe_callB call_isiB (by rfl) T.b_isinstance PyProof.Rows.boot_isinstance (qac (qv 1) (qac (qe_tup (qac (qe_bltn (v := .ty "list") rfl T.b_list PyProof.Rows.boot_list rfl) (qac (qe_bltn (v := .ty "tuple") rfl T.b_tuple PyProof.Rows.boot_tuple rfl) qa_nil))) qa_nil)))) qss_never qss_nil)
      (qss_cons (qs_if (QW.pt (qw_or (qt_val (qe_callB call_isiA (by rfl) T.b_isinstance PyProof.Rows.boot_isinstance (qac (qv 1) (qac (qe_bltn (v := .ty "str") rfl T.b_str PyProof.Rows.boot_str rfl) qa_nil)))) (qw_or1 (qt_cmpR op_isN (qv 1) qe_non (nomark _))))) (qss_one (qs_ret (qe_cmpR op_eq (qv 0) (qv 1) (nomark _)))) qss_nil)
      (qss_one (qs_ret (qe_and (qe_callB call_isiA (by rfl) T.b_isinstance PyProof.Rows.boot_isinstance (qac (qv 0) (qac (qe_bltn (v := .ty "int") rfl T.b_int PyProof.Rows.boot_int rfl) qa_nil))) (qe_and (qe_not (qe_callB call_isiA (by rfl) T.b_isinstance PyProof.Rows.boot_isinstance (qac (qv 0) (qac (qe_bltn (v := .ty "bool") rfl T.b_bool PyProof.Rows.boot_bool rfl) qa_nil)))) (qe_one (qe_cmpR op_eq (qv 0) (qv 1) (nomark _))))))))), ?_⟩
        refine ⟨_, rfl, by show 2 ≤ sizeLine; decide, fun p hp => ⟨_, p, ["list", "tuple"], "int", rfl, upd_same, .int i, by simp, _, rfl, ?_⟩⟩
        rw [show (["list", "tuple"].any (subT "int")) = false from by decide]
        refine iteF ⟨_, rfl, _, "str", "int", rfl, .int i, by simp, _, rfl, ?_⟩
        rw [show subT "int" "str" = false from by decide]
        refine iteF ⟨_, rfl, rfl, _, rfl, ?_⟩
        refine ite2 (fun z => nomatch (of_decide_eq_true z)) (fun _ => ⟨_, rfl, _, "int", "int", rfl, .int i, by simp, _, rfl, ?_⟩)
        rw [show subT "int" "int" = true from by decide]
        refine iteT ⟨_, rfl, _, "bool", "int", rfl, .int i, by simp, _, rfl, ?_⟩
        rw [show subT "int" "bool" = false from by decide]
        refine ⟨_, rfl, iteT ⟨_, rfl, _, rfl, rfl, ?_⟩⟩
        rw [decide_eq_true rfl]
        exact q _ (Same.upd hp)
      | str _ z =>
        refine ⟨_, (qss_cons (qs_if (qt_val (qe_callB call_isiB (by rfl) T.b_isinstance PyProof.Rows.boot_isinstance (qac (qv 1) (qac (qe_tup (qac (qe_bltn (v := .ty "list") rfl T.b_list PyProof.Rows.boot_list rfl) (qac (qe_bltn (v := .ty "tuple") rfl T.b_tuple PyProof.Rows.boot_tuple rfl) qa_nil))) qa_nil)))) qss_never qss_nil)
      (qss_cons (qs_if (QW.pt (qw_or (qt_val (qe_callB call_isiA (by rfl) T.b_isinstance PyProof.Rows.boot_isinstance (qac (qv 1) (qac (qe_bltn (v := .ty "str") rfl T.b_str PyProof.Rows.boot_str rfl) qa_nil)))) (qw_or1 (qt_cmpR op_isN (qv 1) qe_non (nomark _))))) (qss_one (qs_ret (qe_cmpR op_eq (qv 0) (qv 1) (nomark _)))) qss_nil)
      (qss_one (qs_ret (qe_and (qe_callB call_isiA (by rfl) T.b_isinstance PyProof.Rows.boot_isinstance (qac (qv 0) (qac (qe_bltn (v := .ty "int") rfl T.b_int PyProof.Rows.boot_int rfl) qa_nil))) (qe_and (qe_not (qe_callB call_isiA (by rfl) T.b_isinstance PyProof.Rows.boot_isinstance (qac (qv 0) (qac (qe_bltn (v := .ty "bool") rfl T.b_bool PyProof.Rows.boot_bool rfl) qa_nil)))) (qe_one (qe_cmpR op_eq (qv 0) (qv 1) (nomark _))))))))), ?_⟩
        refine ⟨_, rfl, by show 2 ≤ sizeLine; decide, fun p hp => ⟨_, p, ["list", "tuple"], "str", rfl, upd_same, .str z, by simp, _, rfl, ?_⟩⟩
        rw [show (["list", "tuple"].any (subT "str")) = false from by decide]
        refine iteF ⟨_, rfl, _, "str", "str", rfl, .str z, by simp, _, rfl, ?_⟩
        rw [show subT "str" "str" = true from by decide]
        refine iteT (iteT ⟨_, rfl, _, rfl, rfl, ?_⟩)
        rw [decide_eq_true rfl]
        exact q _ (Same.upd hp)
      | non _ =>
        refine ⟨_, (qss_cons (qs_if (qt_val (qe_callB call_isiB (by rfl) T.b_isinstance PyProof.Rows.boot_isinstance (qac (qv 1) (qac (qe_tup (qac (qe_bltn (v := .ty "list") rfl T.b_list PyProof.Rows.boot_list rfl) (qac (qe_bltn (v := .ty "tuple") rfl T.b_tuple PyProof.Rows.boot_tuple rfl) qa_nil))) qa_nil)))) qss_never qss_nil)
      (qss_cons (qs_if (QW.pt (qw_or (qt_val (qe_callB call_isiA (by rfl) T.b_isinstance PyProof.Rows.boot_isinstance (qac (qv 1) (qac (qe_bltn (v := .ty "str") rfl T.b_str PyProof.Rows.boot_str rfl) qa_nil)))) (qw_or1 (qt_cmpR op_isN (qv 1) qe_non (nomark _))))) (qss_one (qs_ret (qe_cmpR op_eq (qv 0) (qv 1) (nomark _)))) qss_nil)
      (qss_one (qs_ret (qe_and (qe_callB call_isiA (by rfl) T.b_isinstance PyProof.Rows.boot_isinstance (qac (qv 0) (qac (qe_bltn (v := .ty "int") rfl T.b_int PyProof.Rows.boot_int rfl) qa_nil))) (qe_and (qe_not (qe_callB call_isiA (by rfl) T.b_isinstance PyProof.Rows.boot_isinstance (qac (qv 0) (qac (qe_bltn (v := .ty "bool") rfl T.b_bool PyProof.Rows.boot_bool rfl) qa_nil)))) (qe_one (qe_cmpR op_eq (qv 0) (qv 1) (nomark _))))))))), ?_⟩
        refine ⟨_, rfl, by show 2 ≤ sizeLine; decide, fun p hp => ⟨_, p, ["list", "tuple"], "NoneType", rfl, upd_same, .non, by simp, _, rfl, ?_⟩⟩
        rw [show (["list", "tuple"].any (subT "NoneType")) = false from by decide]
        refine iteF ⟨_, rfl, _, "str", "NoneType", rfl, .non, by simp, _, rfl, ?_⟩
        rw [show subT "NoneType" "str" = false from by decide]
        refine iteF ⟨_, rfl, rfl, _, rfl, ?_⟩
        refine ite2 (fun _ => ⟨_, rfl, _, rfl, rfl, ?_⟩) (fun z => absurd (decide_eq_true rfl) z)
        rw [decide_eq_true rfl]
        exact q _ (Same.upd hp)
      | @tup _ c d xs ys h1 h2 hl hz hi =>
        refine ⟨_, (qss_cons (qs_if (qt_val (qe_callB call_isiB (by rfl) T.b_isinstance PyProof.Rows.boot_isinstance (qac (qv 1) (qac (qe_tup (qac (qe_bltn (v := .ty "list") rfl T.b_list PyProof.Rows.boot_list rfl) (qac (qe_bltn (v := .ty "tuple") rfl T.b_tuple PyProof.Rows.boot_tuple rfl) qa_nil))) qa_nil)))) (qss_cons (qs_if (QW.pt (qw_or (qt_cmpR op_ne (qe_callB call_isiA (by rfl) T.b_isinstance PyProof.Rows.boot_isinstance (qac (qv 0) (qac (qe_bltn (v := .ty "list") rfl T.b_list PyProof.Rows.boot_list rfl) qa_nil))) (qe_callB call_isiA (by rfl) T.b_isinstance PyProof.Rows.boot_isinstance (qac (qv 1) (qac (qe_bltn (v := .ty "list") rfl T.b_list PyProof.Rows.boot_list rfl) qa_nil))) (nomark _)) (qw_or1 (qt_cmpR op_ne (qe_callB call_isiA (by rfl) T.b_isinstance PyProof.Rows.boot_isinstance (qac (qv 0) (qac (qe_bltn (v := .ty "tuple") rfl T.b_tuple PyProof.Rows.boot_tuple rfl) qa_nil))) (qe_callB call_isiA (by rfl) T.b_isinstance PyProof.Rows.boot_isinstance (qac (qv 1) (qac (qe_bltn (v := .ty "tuple") rfl T.b_tuple PyProof.Rows.boot_tuple rfl) qa_nil))) (nomark _))))) (qss_one (qs_ret qe_bl)) qss_nil)
      (qss_cons (qs_if (qt_cmpR op_ne (qe_callB call_len_seq (by rfl) T.b_len PySem.boot_len (qac (qv 0) qa_nil)) (qe_callB call_len_seq (by rfl) T.b_len PySem.boot_len (qac (qv 1) qa_nil)) (nomark _)) (qss_one (qs_ret qe_bl)) qss_nil)
      (qss_one (qs_ret (qe_callB (call_allB rfl) (by rfl) T.b_all PyProof.Rows.boot_all (qac (qe_comp (own := ["_law_part", "_law_more"]) (fr := []) (js := []) rfl (qi_zip rfl T.b_zip (qac (qv 0) (qac (qv 1) qa_nil))) rfl (fun _ _ h => nomatch h) rfl (bsc0 rfl (by decide +kernel) (by decide +kernel) (by decide +kernel)) (fun _ _ _ _ => qg_tupK (K := K) rfl 2 rfl (qgs_cons (qg_name (i := 0) (show List.Nodup (["_law_part", "_law_more"] : List Str) from by decide +kernel) rfl (Or.inl rfl) (.inr rfl)) (qgs_cons (qg_name (i := 1) (show List.Nodup (["_law_part", "_law_more"] : List Str) from by decide +kernel) rfl (Or.inl rfl) (.inr rfl)) qgs_nil))) (fun _ _ _ _ => (qe_def D_law_alike (hr.mono (by first | decide | omega)) (qac (qv 0) (qac (qv 1) qa_nil))))) qa_nil)))))) qss_nil)
      (qss_cons (qs_if (QW.pt (qw_or (qt_val (qe_callB call_isiA (by rfl) T.b_isinstance PyProof.Rows.boot_isinstance (qac (qv 1) (qac (qe_bltn (v := .ty "str") rfl T.b_str PyProof.Rows.boot_str rfl) qa_nil)))) (qw_or1 (qt_cmpR op_isN (qv 1) qe_non (nomark _))))) (qss_one (qs_ret (qe_cmpR op_eq (qv 0) (qv 1) (nomark _)))) qss_nil)
      (qss_one (qs_ret (qe_and (qe_callB call_isiA (by rfl) T.b_isinstance PyProof.Rows.boot_isinstance (qac (qv 0) (qac (qe_bltn (v := .ty "int") rfl T.b_int PyProof.Rows.boot_int rfl) qa_nil))) (qe_and (qe_not (qe_callB call_isiA (by rfl) T.b_isinstance PyProof.Rows.boot_isinstance (qac (qv 0) (qac (qe_bltn (v := .ty "bool") rfl T.b_bool PyProof.Rows.boot_bool rfl) qa_nil)))) (qe_one (qe_cmpR op_eq (qv 0) (qv 1) (nomark _))))))))), ?_⟩
        refine ⟨_, rfl, by show 2 ≤ sizeLine; decide, fun p hp => ⟨_, p, ["list", "tuple"], "tuple", rfl, upd_same, .tup (Rd.same (Same.upd hp) h2), by simp, _, rfl, ?_⟩⟩
        rw [show (["list", "tuple"].any (subT "tuple")) = true from by decide]
        have s1 : Same H _ := Same.upd (o := .tup (["list", "tuple"].map V.ty)) hp
        have k1 := Rd.same s1 h1
        have k2 := Rd.same s1 h2
        refine iteT ⟨_, rfl, _, "list", "tuple", rfl, .tup k1, by simp, _, rfl, _, "list", "tuple", rfl, .tup k2, by simp, rfl, _, rfl, ?_⟩
        refine iteNS rfl ⟨_, rfl, _, "tuple", "tuple", rfl, .tup k1, by simp, _, rfl, _, "tuple", "tuple", rfl, .tup k2, by simp, rfl, _, rfl, ?_⟩
        refine iteNS rfl ?_
        refine ⟨_, rfl, c, _, rfl, .inr (.inl k1), _, rfl, d, _, rfl, .inr (.inl k2), rfl, _, rfl, ?_⟩
        refine iteNS (by rw [hl]) ?_
        refine ⟨_, rfl, _, rfl, c, d, xs, ys, rfl, k1, k2, comp_zip hl hz (fun i zs H2 => zs = (List.replicate i true).map V.bl ∧ Same H H2) ⟨rfl, s1⟩ (fun i zs H2 ⟨_, s2⟩ => ⟨Rd.same s2 h1, Rd.same s2 h2⟩) ?_ ?_⟩
        · rintro i zs H2 pp x y hx hy hzl ⟨rfl, s2⟩ hpp
          have s3 := s2.trans (Same.upd (o := .tup [x, y]) hpp)
          refine ⟨_, rfl, _, rfl, x, y, rfl, (hi i x y hx hy).same s3, fun H4 s4 => ⟨?_, s3.trans s4⟩⟩
          rw [List.replicate_succ', List.map_append]; rfl
        · rintro zs H2 hzl ⟨rfl, s2⟩ p2 hp2
          refine ⟨p2, _, rfl, SqL.of upd_same, ?_⟩
          rw [show (List.replicate xs.length true).all id = true from by simp]
          exact q _ (s2.trans (Same.upd hp2))
      | @lst _ c d xs ys h1 h2 hl hz hi =>
        refine ⟨_, (qss_cons (qs_if (qt_val (qe_callB call_isiB (by rfl) T.b_isinstance PyProof.Rows.boot_isinstance (qac (qv 1) (qac (qe_tup (qac (qe_bltn (v := .ty "list") rfl T.b_list PyProof.Rows.boot_list rfl) (qac (qe_bltn (v := .ty "tuple") rfl T.b_tuple PyProof.Rows.boot_tuple rfl) qa_nil))) qa_nil)))) (qss_cons (qs_if (QW.pt (qw_or (qt_cmpR op_ne (qe_callB call_isiA (by rfl) T.b_isinstance PyProof.Rows.boot_isinstance (qac (qv 0) (qac (qe_bltn (v := .ty "list") rfl T.b_list PyProof.Rows.boot_list rfl) qa_nil))) (qe_callB call_isiA (by rfl) T.b_isinstance PyProof.Rows.boot_isinstance (qac (qv 1) (qac (qe_bltn (v := .ty "list") rfl T.b_list PyProof.Rows.boot_list rfl) qa_nil))) (nomark _)) (qw_or1 (qt_cmpR op_ne (qe_callB call_isiA (by rfl) T.b_isinstance PyProof.Rows.boot_isinstance (qac (qv 0) (qac (qe_bltn (v := .ty "tuple") rfl T.b_tuple PyProof.Rows.boot_tuple rfl) qa_nil))) (qe_callB call_isiA (by rfl) T.b_isinstance PyProof.Rows.boot_isinstance (qac (qv 1) (qac (qe_bltn (v := .ty "tuple") rfl T.b_tuple PyProof.Rows.boot_tuple rfl) qa_nil))) (nomark _))))) (qss_one (qs_ret qe_bl)) qss_nil)
      (qss_cons (qs_if (qt_cmpR op_ne (qe_callB call_len_seq (by rfl) T.b_len PySem.boot_len (qac (qv 0) qa_nil)) (qe_callB call_len_seq (by rfl) T.b_len PySem.boot_len (qac (qv 1) qa_nil)) (nomark _)) (qss_one (qs_ret qe_bl)) qss_nil)
      (qss_one (qs_ret (qe_callB (call_allB rfl) (by rfl) T.b_all PyProof.Rows.boot_all (qac (qe_comp (own := ["_law_part", "_law_more"]) (fr := []) (js := []) rfl (qi_zipL rfl T.b_zip (qac (qv 0) (qac (qv 1) qa_nil))) rfl (fun _ _ h => nomatch h) rfl (bsc0 rfl (by decide +kernel) (by decide +kernel) (by decide +kernel)) (fun _ _ _ _ => qg_tupK (K := K) rfl 2 rfl (qgs_cons (qg_name (i := 0) (show List.Nodup (["_law_part", "_law_more"] : List Str) from by decide +kernel) rfl (Or.inl rfl) (.inr rfl)) (qgs_cons (qg_name (i := 1) (show List.Nodup (["_law_part", "_law_more"] : List Str) from by decide +kernel) rfl (Or.inl rfl) (.inr rfl)) qgs_nil))) (fun _ _ _ _ => (qe_def D_law_alike (hr.mono (by first | decide | omega)) (qac (qv 0) (qac (qv 1) qa_nil))))) qa_nil)))))) qss_nil)
      (qss_cons (qs_if (QW.pt (qw_or (qt_val (qe_callB call_isiA (by rfl) T.b_isinstance PyProof.Rows.boot_isinstance (qac (qv 1) (qac (qe_bltn (v := .ty "str") rfl T.b_str PyProof.Rows.boot_str rfl) qa_nil)))) (qw_or1 (qt_cmpR op_isN (qv 1) qe_non (nomark _))))) (qss_one (qs_ret (qe_cmpR op_eq (qv 0) (qv 1) (nomark _)))) qss_nil)
      (qss_one (qs_ret (qe_and (qe_callB call_isiA (by rfl) T.b_isinstance PyProof.Rows.boot_isinstance (qac (qv 0) (qac (qe_bltn (v := .ty "int") rfl T.b_int PyProof.Rows.boot_int rfl) qa_nil))) (qe_and (qe_not (qe_callB call_isiA (by rfl) T.b_isinstance PyProof.Rows.boot_isinstance (qac (qv 0) (qac (qe_bltn (v := .ty "bool") rfl T.b_bool PyProof.Rows.boot_bool rfl) qa_nil)))) (qe_one (qe_cmpR op_eq (qv 0) (qv 1) (nomark _))))))))), ?_⟩
        refine ⟨_, rfl, by show 2 ≤ sizeLine; decide, fun p hp => ⟨_, p, ["list", "tuple"], "list", rfl, upd_same, .lst (Same.upd hp _ _ h2), by simp, _, rfl, ?_⟩⟩
        rw [show (["list", "tuple"].any (subT "list")) = true from by decide]
        have s1 : Same H _ := Same.upd (o := .tup (["list", "tuple"].map V.ty)) hp
        have k1 := s1 _ _ h1
        have k2 := s1 _ _ h2
        refine iteT ⟨_, rfl, _, "list", "list", rfl, .lst k1, by simp, _, rfl, _, "list", "list", rfl, .lst k2, by simp, rfl, _, rfl, ?_⟩
        refine iteNS rfl ⟨_, rfl, _, "tuple", "list", rfl, .lst k1, by simp, _, rfl, _, "tuple", "list", rfl, .lst k2, by simp, rfl, _, rfl, ?_⟩
        refine iteNS rfl ?_
        refine ⟨_, rfl, c, _, rfl, .inl (SqL.of k1), _, rfl, d, _, rfl, .inl (SqL.of k2), rfl, _, rfl, ?_⟩
        refine iteNS (by rw [hl]) ?_
        refine ⟨_, rfl, _, rfl, c, d, xs, ys, rfl, .inl k1, .inl k2, comp_zipL hl hz (fun i zs H2 => zs = (List.replicate i true).map V.bl ∧ Same H H2) ⟨rfl, s1⟩ (fun i zs H2 ⟨_, s2⟩ => ⟨.inl (s2 _ _ h1), .inl (s2 _ _ h2)⟩) ?_ ?_⟩
        · rintro i zs H2 pp x y hx hy hzl ⟨rfl, s2⟩ hpp
          have s3 := s2.trans (Same.upd (o := .tup [x, y]) hpp)
          refine ⟨_, rfl, _, rfl, x, y, rfl, (hi i x y hx hy).same s3, fun H4 s4 => ⟨?_, s3.trans s4⟩⟩
          rw [List.replicate_succ', List.map_append]; rfl
        · rintro zs H2 hzl ⟨rfl, s2⟩ p2 hp2
          refine ⟨p2, _, rfl, SqL.of upd_same, ?_⟩
          rw [show (List.replicate xs.length true).all id = true from by simp]
          exact q _ (s2.trans (Same.upd hp2))
end
end Lw

namespace Lw
open PySem L2 L3
section
variable {P : Program} {w : World} {K : PySem.W.Frag} {mg : Str → Option Value} {base : Heap} {tk : Nat → Tok} {C : Addr}
theorem ok_Button___init (a : AtM K C "__init__" "Button.__init__" s_Button___init ["self", "name", "table", "key", "age", "step"]) (T : Txt K mg tk) (U : BCx K C) : Mf P w K mg base C "__init__" ["self", "name", "table", "key", "age", "step"] 1 (spBInit K C) := by
  refine a.mq sc_Button___init (fun vs H Q E h => ?_) (fun f cdv A outer s H vs Q E hr h => ?_)
  · obtain ⟨_, _, _, _, _, _, _, _, _, rfl, _⟩ := h
    rfl
  · obtain ⟨p, a, b, dx, nm, age, step, t, ks, rfl, hp, ha, hb, q⟩ := h
    refine ⟨_, (qss_cons (qs_fld (qv 0) (qv 1))
      (qss_cons (qs_fld (qv 0) (qe_callTy call_tupleQ (by rfl) T.b_tuple PyProof.Rows.boot_tuple (qac (qv 2) qa_nil)))
      (qss_cons (qs_fld (qv 0) (qe_callTy call_tupleQ (by rfl) T.b_tuple PyProof.Rows.boot_tuple (qac (qv 3) qa_nil)))
      (qss_cons (qs_fld (qv 0) (qv 4))
      (qss_cons (qs_fld (qv 0) (qv 5))
      (qss_cons (qs_fld (qv 0) qe_int)
      (qss_cons (qs_fld (qv 0) qe_int)
      (qss_one (qs_fld (qv 0) (qe_lst (qac qe_int (qac qe_non qa_nil)))))))))))), ?_⟩
    refine ⟨_, rfl, _, rfl, p, _, rfl, put_new U.cl hp U.n_name 0, ?_⟩
    refine ⟨_, rfl, a, _, rfl, sq_upd hp ha, fun ta H2 s2 ht => ⟨_, rfl, p, _, rfl, put_new U.cl (s2 _ _ upd_same) U.n_table 1, ?_⟩⟩
    have e2 := s2 _ _ upd_same
    refine ⟨_, rfl, b, _, rfl, sq_upd e2 ((sq_upd hp hb).same s2), fun ka H3 s3 hk => ⟨_, rfl, p, _, rfl, put_new U.cl (s3 _ _ upd_same) U.n_key 2, ?_⟩⟩
    have e3 := s3 _ _ upd_same
    have ht3 := sqt_upd (o := .ins C dx [("name", .str nm), ("table", .ref ta), ("key", .ref ka)]) e3 (Same.sqt s3 (sqt_upd e2 ht))
    have hk3 := sqt_upd (o := .ins C dx [("name", .str nm), ("table", .ref ta), ("key", .ref ka)]) e3 hk
    refine ⟨_, rfl, _, rfl, p, _, rfl, put_new U.cl upd_same U.n_age 3, ?_⟩
    refine ⟨_, rfl, _, rfl, p, _, rfl, put_new U.cl upd_same U.n_step 4, ?_⟩
    refine ⟨_, rfl, p, _, rfl, put_new U.cl upd_same U.n_next_count 5, ?_⟩
    refine ⟨_, rfl, p, _, rfl, put_new U.cl upd_same U.n_bound 6, ?_⟩
    refine ⟨by show 2 ≤ sizeLine; decide, fun ce hce => ⟨_, rfl, p, _, rfl, put_new U.cl (by rw [upd_ne (ne_of_none upd_same hce)]; exact upd_same) U.n_cells 7, ?_⟩⟩
    have nce := ne_of_none upd_same hce
    have m2 : Mv [p] H H2 := Mv.upd1.trans s2.mv
    have m3 : Mv [p] H H3 := (m2.trans Mv.upd1).trans s3.mv
    have m8 : ∀ o4 o5 o6 o7 o8, Mv [p] H (upd (upd (upd (upd (upd H3 p o4) p o5) p o6) p o7) p o8) := fun o4 o5 o6 o7 o8 => ((((m3.trans Mv.upd1).trans Mv.upd1).trans Mv.upd1).trans Mv.upd1).trans Mv.upd1
    have hcH : H ce = none := by
      cases e : H ce with
      | none => rfl
      | some o => exact absurd (hce.symm.trans (m8 _ _ _ _ _ ce o (fun z => nce (List.mem_singleton.mp z).symm) e)) (by intro h; cases h)
    refine q ta ka ce _ hcH (((m8 _ _ _ _ _).trans (Same.upd hce).mv).trans Mv.upd1) ⟨⟨dx, upd_same⟩, ?_, ?_, ?_⟩
    · exact sqt_upd (by rw [upd_ne nce]; exact upd_same) (Same.sqt (Same.upd hce) (sqt_upd upd_same (sqt_upd upd_same (sqt_upd upd_same (sqt_upd upd_same ht3)))))
    · exact sqt_upd (by rw [upd_ne nce]; exact upd_same) (Same.sqt (Same.upd hce) (sqt_upd upd_same (sqt_upd upd_same (sqt_upd upd_same (sqt_upd upd_same hk3)))))
    · rw [upd_ne nce.symm]; exact upd_same
theorem ok_Button_is_worn (a : AtM K C "is_worn" "Button.is_worn" s_Button_is_worn ["self"]) (T : Txt K mg tk) (U : BCx K C) : Mf P w K mg base C "is_worn" ["self"] 1 (spBWorn K C) := by
  refine a.mq sc_Button_is_worn (fun vs H Q E h => ?_) (fun f cdv A outer s H vs Q E hr h => ?_)
  · obtain ⟨_, _, _, _, _, rfl, _⟩ := h
    rfl
  · obtain ⟨p, ta, ka, ce, B, rfl, b, q⟩ := h
    refine ⟨_, (qss_one (qs_ret (qe_cmpR op_ge (qe_fld (qv 0)) (qe_glob (v := .int 4096) rfl T.g_COUNTS ⟨_, rfl⟩) (nomark _)))), ?_⟩
    exact ⟨_, rfl, p, _, rfl, b.h_next_count U, _, _, rfl, rfl, q⟩
theorem ok_Button_must_write (a : AtM K C "must_write" "Button.must_write" s_Button_must_write ["self"]) (T : Txt K mg tk) (U : BCx K C) (D_Button_is_worn : Mf P w K mg base C "is_worn" ["self"] 1 (spBWorn K C)) : Mf P w K mg base C "must_write" ["self"] 2 (spBMust K C) := by
  refine a.mq sc_Button_must_write (fun vs H Q E h => ?_) (fun f cdv A outer s H vs Q E hr h => ?_)
  · obtain ⟨_, _, _, _, _, rfl, _⟩ := h
    rfl
  · obtain ⟨p, ta, ka, ce, B, rfl, b, q⟩ := h
    refine ⟨_, (qss_one (qs_ret (qe_and (qe_cmpR op_eq (qe_fld (qv 0)) (qe_fld (qv 0)) (nomark _)) (qe_one (qe_not (qe_meth0 D_Button_is_worn U.cl (hr.mono (by first | decide | omega)) (qv 0))))))), ?_⟩
    refine ⟨_, rfl, p, _, rfl, b.h_next_count U, _, rfl, p, _, rfl, b.h_bound U, rfl, _, rfl, ?_⟩
    unfold Bt.mw at q
    refine ite2 (fun z => ?_) (fun z => ?_)
    · refine ⟨_, rfl, p, rfl, b.no, p, ta, ka, ce, B, rfl, b, _, rfl, ?_⟩
      have z' : B.cnt = B.bnd := by have := of_decide_eq_true z; injection this
      rw [decide_eq_true z'] at q
      exact q
    · have z' : ¬ B.cnt = B.bnd := fun e => z (decide_eq_true (by rw [e]))
      rw [decide_eq_false z'] at q
      exact q
theorem ok_Button_spare_cell (a : AtM K C "spare_cell" "Button.spare_cell" s_Button_spare_cell ["self"]) (T : Txt K mg tk) (U : BCx K C) : Mf P w K mg base C "spare_cell" ["self"] 1 (spBSpare K C) := by
  refine a.mq sc_Button_spare_cell (fun vs H Q E h => ?_) (fun f cdv A outer s H vs Q E hr h => ?_)
  · obtain ⟨_, _, _, _, _, rfl, _⟩ := h
    rfl
  · obtain ⟨p, ta, ka, ce, B, rfl, b, q⟩ := h
    refine ⟨_, (qss_cons (qs_if (qt_cmpR op_eq (qe_ix ix_list (qe_fld (qv 0)) qe_int (fun _ _ => rfl)) (qe_fld (qv 0)) (nomark _)) (qss_one (qs_ret qe_int)) qss_nil)
      (qss_one (qs_ret qe_int))), ?_⟩
    refine ⟨_, rfl, p, _, rfl, b.h_cells U, ce, _, _, _, rfl, rfl, SqL.of b.cs, rfl, _, rfl, p, _, rfl, b.h_bound U, oV_scal _ _, _, rfl, ?_⟩
    rw [oV_dec]
    unfold Bt.sp at q
    refine ite2 (fun z => ?_) (fun z => ?_)
    · rw [if_pos (of_decide_eq_true z)] at q; exact q
    · rw [if_neg (fun e => z (decide_eq_true e))] at q; exact q
theorem ok_Button_write_bound (a : AtM K C "write_bound" "Button.write_bound" s_Button_write_bound ["self"]) (T : Txt K mg tk) (U : BCx K C) (D_Button_spare_cell : Mf P w K mg base C "spare_cell" ["self"] 1 (spBSpare K C)) : Mf P w K mg base C "write_bound" ["self"] 2 (spBWrite K C) := by
  refine a.mq sc_Button_write_bound (fun vs H Q E h => ?_) (fun f cdv A outer s H vs Q E hr h => ?_)
  · obtain ⟨_, _, _, _, _, rfl, _⟩ := h
    rfl
  · obtain ⟨p, ta, ka, ce, B, rfl, b, q⟩ := h
    obtain ⟨dx, ep⟩ := b.ob
    refine ⟨_, (qss_cons (qs_set (i := 1) sc_Button_write_bound.nd rfl (Or.inl rfl) (qe_meth0 D_Button_spare_cell U.cl (hr.mono (by first | decide | omega)) (qv 0)))
      (qss_cons (qs_fld (qv 0) (qe_callB (call_min2 rfl) (by rfl) T.b_min PyProof.Rows.boot_min (qac (qe_op op_add (qe_fld (qv 0)) (qe_fld (qv 0))) (qac (qe_glob (v := .int 4096) rfl T.g_COUNTS ⟨_, rfl⟩) qa_nil))))
      (qss_one (qs_asg (qe_fld (qv 0)) (qg_sub (qe_fld (qv 0)) (qv 1) set_list))))), ?_⟩
    refine ⟨_, rfl, p, rfl, b.no, p, ta, ka, ce, B, rfl, b, ?_⟩
    refine ⟨_, rfl, p, _, rfl, b.h_bound U, _, rfl, p, _, rfl, b.h_step U, _, _, rfl, rfl, _, _, rfl, _, rfl, p, _, rfl, BtnAt.put U ep 6 _ rfl U.n_bound, ?_⟩
    have b1 : BtnAt K C (upd H p (.ins C dx (bF { B with bnd := B.nb } ta ka ce))) p ta ka ce { B with bnd := B.nb } := b.to (B' := { B with bnd := B.nb }) (Mv.upd1.mono (fun c h z => h (by rw [List.mem_singleton.mp z]; exact List.mem_cons_self ..))) rfl rfl upd_same (by rw [upd_ne b.ne.symm]; exact b.cs)
    refine ⟨_, rfl, p, _, rfl, b1.h_bound U, _, rfl, p, _, rfl, b1.h_cells U, _, rfl, ?_⟩
    unfold Bt.sp Bt.wr at *
    have mv : ∀ o o', Mv [p, ce] H (upd (upd H p o) ce o') := fun o o' c u hc e => by
      rw [upd_ne (fun z => hc (by rw [z]; exact List.mem_cons_of_mem _ (List.mem_cons_self ..))), upd_ne (fun z => hc (by rw [z]; exact List.mem_cons_self ..))]; exact e
    by_cases hx : B.x = some B.bnd
    · rw [if_pos hx]
      rw [if_pos hx] at q
      refine ⟨ce, _, _, 1, rfl, rfl, b1.cs, rfl, ?_⟩
      exact q _ (mv _ _) (b.to (B' := { B with bnd := B.nb, y := some B.nb }) (mv _ _) rfl rfl (by rw [upd_ne b.ne]; exact upd_same) upd_same)
    · rw [if_neg hx]
      rw [if_neg hx] at q
      refine ⟨ce, _, _, 0, rfl, rfl, b1.cs, rfl, ?_⟩
      exact q _ (mv _ _) (b.to (B' := { B with bnd := B.nb, x := some B.nb }) (mv _ _) rfl rfl (by rw [upd_ne b.ne]; exact upd_same) upd_same)
theorem ok_Button_press_once (a : AtM K C "press_once" "Button.press_once" s_Button_press_once ["self", "deed"]) (T : Txt K mg tk) (U : BCx K C) (D_Button_is_worn : Mf P w K mg base C "is_worn" ["self"] 1 (spBWorn K C)) (D_Button_must_write : Mf P w K mg base C "must_write" ["self"] 2 (spBMust K C))
    (D_Button_write_bound : Mf P w K mg base C "write_bound" ["self"] 2 (spBWrite K C)) (D_press_of : Df P w K mg base "press_of" ["table", "key", "name", "age", "count", "deed"] 3 (spPress K)) : Mf P w K mg base C "press_once" ["self", "deed"] 4 (spBPress K C) := by
  refine a.mq sc_Button_press_once (fun vs H Q E h => ?_) (fun f cdv A outer s H vs Q E hr h => ?_)
  · obtain ⟨_, _, _, _, _, _, rfl, _⟩ := h
    rfl
  · obtain ⟨p, ta, ka, ce, B, d, rfl, b, hn, hl, c0, c1, hd, q⟩ := h
    refine ⟨_, (qss_cons (qs_if (qt_val (qe_meth0 D_Button_is_worn U.cl (hr.mono (by first | decide | omega)) (qv 0))) qss_never qss_nil)
      (qss_cons (qs_if (qt_val (qe_meth0 D_Button_must_write U.cl (hr.mono (by first | decide | omega)) (qv 0))) (qss_one (qs_expr (qe_meth0 D_Button_write_bound U.cl (hr.mono (by first | decide | omega)) (qv 0)))) qss_nil)
      (qss_cons (qs_set (i := 2) sc_Button_press_once.nd rfl (Or.inl rfl) (qe_def D_press_of (hr.mono (by first | decide | omega)) (qac (qe_fld (qv 0)) (qac (qe_fld (qv 0)) (qac (qe_fld (qv 0)) (qac (qe_fld (qv 0)) (qac (qe_fld (qv 0)) (qac (qv 1) qa_nil))))))))
      (qss_cons (qs_fldaug in_add (qv 0) qe_int)
      (qss_one (qs_ret (qv 2))))))), ?_⟩
    refine ⟨_, rfl, p, rfl, b.no, p, ta, ka, ce, B, rfl, b, _, rfl, ?_⟩
    refine ite2 (fun z => absurd (of_decide_eq_true z) (by omega)) (fun _ => ?_)
    refine ⟨_, rfl, p, rfl, b.no, p, ta, ka, ce, B, rfl, b, _, rfl, ?_⟩
    refine ite2 (fun z => ?_) (fun z => ?_)
    · refine ⟨_, rfl, p, rfl, b.no, p, ta, ka, ce, B, rfl, b, fun H1 m1 b1 => ?_⟩
      have e0 : ({ B.wr with cnt := B.wr.cnt + 1 } : Bt) = B.pr := by unfold Bt.pr; rw [if_pos z, wr_cnt]
      have e1 := wr_nm B
      have e2 := wr_t B
      have e3 := wr_ks B
      have e4 := wr_age B
      have e5 := wr_cnt B
      generalize B.wr = B1 at b1 e0 e1 e2 e3 e4 e5
      refine ⟨_, rfl, p, _, rfl, b1.h_table U, _, rfl, p, _, rfl, b1.h_key U, _, rfl, p, _, rfl, b1.h_name U, _, rfl, p, _, rfl, b1.h_age U, _, rfl, p, _, rfl, b1.h_next_count U, _, rfl, ta, ka, B1.nm, B1.age, B1.cnt, d, B1.t, B1.ks, rfl, .inr b1.tb, .inr b1.ky, by rw [e1]; exact hn, by rw [e2]; exact hl, by rw [e5]; exact c0, by rw [e5]; exact c1, hd, fun q1 pc H2 s2 h1 h2 => ?_⟩
      have b2 := b1.same s2
      obtain ⟨dx, ep⟩ := b2.ob
      refine ⟨_, rfl, p, _, rfl, b2.h_next_count U, _, _, rfl, rfl, (fun _ e => e), _, BtnAt.put U ep 5 _ rfl U.n_next_count, ?_⟩
      have n1 : q1 ≠ p := ne_of h1 ep (by intro z; cases z)
      have n2 : pc ≠ p := ne_of h2 ep (by intro z; cases z)
      have m3 : Mv [p, ce] H2 (upd H2 p (.ins C dx (bF { B1 with cnt := B1.cnt + 1 } ta ka ce))) := Mv.upd1.mono (fun c h z => h (by rw [List.mem_singleton.mp z]; exact List.mem_cons_self ..))
      have b3 : BtnAt K C (upd H2 p (.ins C dx (bF { B1 with cnt := B1.cnt + 1 } ta ka ce))) p ta ka ce B.pr := by
        have b3' := b2.to (B' := { B1 with cnt := B1.cnt + 1 }) m3 rfl rfl upd_same (by rw [upd_ne b2.ne.symm]; exact b2.cs)
        rw [e0] at b3' ⊢
        exact b3'
      refine ⟨_, rfl, q q1 pc _ ((m1.trans s2.mv).trans m3) b3 ?_ ?_⟩
      · rw [upd_ne n1, h1, e1, e4]
      · rw [upd_ne n2, h2, e1, e2, e3, e5]
    · have b1 := b
      have m1 : Mv [p, ce] H H := Mv.refl
      have e0 : ({ B with cnt := B.cnt + 1 } : Bt) = B.pr := by unfold Bt.pr; rw [if_neg z]
      obtain ⟨B1, hB⟩ : ∃ B1, B1 = B := ⟨B, rfl⟩
      have e1 : B1.nm = B.nm := by rw [hB]
      have e2 : B1.t = B.t := by rw [hB]
      have e3 : B1.ks = B.ks := by rw [hB]
      have e4 : B1.age = B.age := by rw [hB]
      have e5 : B1.cnt = B.cnt := by rw [hB]
      have e0 : ({ B1 with cnt := B1.cnt + 1 } : Bt) = B.pr := by rw [hB]; exact e0
      have b1 : BtnAt K C H p ta ka ce B1 := by rw [hB]; exact b
      refine ⟨_, rfl, p, _, rfl, b1.h_table U, _, rfl, p, _, rfl, b1.h_key U, _, rfl, p, _, rfl, b1.h_name U, _, rfl, p, _, rfl, b1.h_age U, _, rfl, p, _, rfl, b1.h_next_count U, _, rfl, ta, ka, B1.nm, B1.age, B1.cnt, d, B1.t, B1.ks, rfl, .inr b1.tb, .inr b1.ky, by rw [e1]; exact hn, by rw [e2]; exact hl, by rw [e5]; exact c0, by rw [e5]; exact c1, hd, fun q1 pc H2 s2 h1 h2 => ?_⟩
      have b2 := b1.same s2
      obtain ⟨dx, ep⟩ := b2.ob
      refine ⟨_, rfl, p, _, rfl, b2.h_next_count U, _, _, rfl, rfl, (fun _ e => e), _, BtnAt.put U ep 5 _ rfl U.n_next_count, ?_⟩
      have n1 : q1 ≠ p := ne_of h1 ep (by intro z; cases z)
      have n2 : pc ≠ p := ne_of h2 ep (by intro z; cases z)
      have m3 : Mv [p, ce] H2 (upd H2 p (.ins C dx (bF { B1 with cnt := B1.cnt + 1 } ta ka ce))) := Mv.upd1.mono (fun c h z => h (by rw [List.mem_singleton.mp z]; exact List.mem_cons_self ..))
      have b3 : BtnAt K C (upd H2 p (.ins C dx (bF { B1 with cnt := B1.cnt + 1 } ta ka ce))) p ta ka ce B.pr := by
        have b3' := b2.to (B' := { B1 with cnt := B1.cnt + 1 }) m3 rfl rfl upd_same (by rw [upd_ne b2.ne.symm]; exact b2.cs)
        rw [e0] at b3' ⊢
        exact b3'
      refine ⟨_, rfl, q q1 pc _ ((m1.trans s2.mv).trans m3) b3 ?_ ?_⟩
      · rw [upd_ne n1, h1, e1, e4]
      · rw [upd_ne n2, h2, e1, e2, e3, e5]
end
section
variable {P : Program} {w : World} {K : PySem.W.Frag} {mg : Str → Option Value} {base : Heap} {tk : Nat → Tok} {C : Addr}
theorem ok_Button_count_now (a : AtM K C "count_now" "Button.count_now" s_Button_count_now ["self"]) (T : Txt K mg tk) (U : BCx K C) : Mf P w K mg base C "count_now" ["self"] 1 (spBCount K C) := by
  refine a.mq sc_Button_count_now (fun vs H Q E h => ?_) (fun f cdv A outer s H vs Q E hr h => ?_)
  · obtain ⟨_, _, _, _, _, rfl, _⟩ := h
    rfl
  · obtain ⟨p, ta, ka, ce, B, rfl, b, q⟩ := h
    refine ⟨_, (qss_one (qs_ret (qe_fld (qv 0)))), ?_⟩
    exact ⟨_, rfl, p, _, rfl, b.h_next_count U, q⟩
end
section
variable {P : Program} {w : World} {K : PySem.W.Frag} {mg : Str → Option Value} {base : Heap} {tk : Nat → Tok} {C : Addr}
theorem ok_Button_cells_now (a : AtM K C "cells_now" "Button.cells_now" s_Button_cells_now ["self"]) (T : Txt K mg tk) (U : BCx K C) : Mf P w K mg base C "cells_now" ["self"] 1 (spBCells K C) := by
  refine a.mq sc_Button_cells_now (fun vs H Q E h => ?_) (fun f cdv A outer s H vs Q E hr h => ?_)
  · obtain ⟨_, _, _, _, _, rfl, _⟩ := h
    rfl
  · obtain ⟨p, ta, ka, ce, B, rfl, b, q⟩ := h
    refine ⟨_, (qss_one (qs_ret (qe_callTy call_tuple_of (by rfl) T.b_tuple PyProof.Rows.boot_tuple (qac (qe_fld (qv 0)) qa_nil)))), ?_⟩
    exact ⟨_, rfl, p, _, rfl, b.h_cells U, ce, _, rfl, .inl ⟨SqL.of b.cs, fun l hl => q l _ (Same.upd hl) upd_same⟩⟩
end
section
variable {P : Program} {w : World} {K : PySem.W.Frag} {mg : Str → Option Value} {base : Heap} {tk : Nat → Tok}
theorem ok_law_begun (a : At K mg "_law_begun" s_law_begun ["_law_step"]) (T : Txt K mg tk) : Df P w K mg base "_law_begun" ["_law_step"] 1 spBegun := by
  refine a.dq sc_law_begun (fun vs H Q E h => ?_) (fun f cdv A outer s H vs Q E hr h => ?_)
  · obtain ⟨_, rfl, _⟩ := h
    rfl
  · obtain ⟨st, rfl, q⟩ := h
    refine ⟨_, (qss_one (qs_ret (qe_disp (qps_cons qe_str qe_int (qps_cons qe_str qe_int (qps_cons qe_str (qe_lst (qac qe_int (qac qe_non qa_nil))) (qps_cons qe_str (qv 0) qps_nil))))))), ?_⟩
    refine fun d hd => ⟨by show 2 ≤ sizeLine; decide, fun lc hlc => ⟨_, rfl, ?_⟩⟩
    have nd : d ≠ lc := ne_of_none upd_same hlc
    refine ⟨(upd_ne nd).trans upd_same, lawD (zB st) lc, rfl, by show 4 ≤ 15; decide, ?_⟩
    rw [merge_law]
    have hl : H lc = none := by rw [upd_ne nd.symm] at hlc; exact hlc
    refine q d lc _ hd hl (fun c o e => ?_) ⟨upd_same, ?_⟩
    · rw [upd_ne (ne_of_none e hd), upd_ne (ne_of_none e hl), upd_ne (ne_of_none e hd)]; exact e
    · rw [upd_ne nd.symm]; exact upd_same
theorem ok_law_pressed (a : At K mg "_law_pressed" s_law_pressed ["_law_own"]) (T : Txt K mg tk) : Df P w K mg base "_law_pressed" ["_law_own"] 1 spPressed := by
  refine a.dq sc_law_pressed (fun vs H Q E h => ?_) (fun f cdv A outer s H vs Q E hr h => ?_)
  · obtain ⟨_, _, _, rfl, _⟩ := h
    rfl
  · obtain ⟨d, lc, B, rfl, l, hc, q⟩ := h
    refine ⟨_, (qss_cons (qs_if (qt_cmpR op_eq (qe_dget hr (qv 0) qe_str) qe_int (nomark _)) (qss_one (qs_ret qe_non)) qss_nil)
      (qss_cons (qs_if (qt_cmpR op_eq (qe_dget hr (qv 0) qe_str) (qe_dget hr (qv 0) qe_str) (nomark _)) (qss_cons (qs_set (i := 1) sc_law_pressed.nd rfl (Or.inl rfl) (qe_ifExp (qt_cmpR op_eq (qe_ix ix_list (qe_dget hr (qv 0) qe_str) qe_int (fun _ _ => rfl)) (qe_dget hr (qv 0) qe_str) (nomark _)) qe_int qe_int))
      (qss_cons (qs_dputK hr (qv 0) qe_str (qe_callB (call_min2 rfl) (by rfl) T.b_min PyProof.Rows.boot_min (qac qe_int (qac (qe_op op_add (qe_dget hr (qv 0) qe_str) (qe_dget hr (qv 0) qe_str)) qa_nil))))
      (qss_one (qs_asg (qe_dget hr (qv 0) qe_str) (qg_sub (qe_dget hr (qv 0) qe_str) (qv 1) set_list))))) qss_nil)
      (qss_cons (qs_dputK hr (qv 0) qe_str (qe_op op_add (qe_dget hr (qv 0) qe_str) qe_int))
      (qss_one (qs_ret (qe_op op_sub (qe_dget hr (qv 0) qe_str) qe_int)))))), ?_⟩
    refine ⟨_, rfl, d, _, rfl, l.g_count, rfl, _, rfl, ?_⟩
    refine ite2 (fun z => absurd (of_decide_eq_true z) (fun y => by injection y with y; omega)) (fun _ => ?_)
    refine ⟨_, rfl, d, _, rfl, l.g_count, _, rfl, d, _, rfl, l.g_bound, rfl, _, rfl, ?_⟩
    refine ite2 (fun z => ?_) (fun z => ?_)
    · have e : B.cnt = B.bnd := by have := of_decide_eq_true z; injection this
      have hm : B.mw = true := by unfold Bt.mw; rw [decide_eq_true e, decide_eq_false (by omega : ¬ 4096 ≤ B.cnt)]; rfl
      refine ⟨_, rfl, d, _, rfl, l.g_cells, lc, _, _, _, rfl, rfl, SqL.of l.cs, rfl, _, rfl, d, _, rfl, l.g_bound, oV_scal _ _, _, rfl, ?_⟩
      have nb' : (if B.bnd + B.step < 4096 then B.bnd + B.step else 4096) = B.nb := by unfold Bt.nb; split <;> split <;> omega
      have fin : ∀ (B2 : Bt), B2 = B.wr → ∀ H2, Mv [d, lc] H H2 → LawAt H2 d lc B2 → LawAt (upd H2 d (.dK (lawD { B2 with cnt := B2.cnt + 1 } lc))) d lc B.pr ∧ Mv [d, lc] H (upd H2 d (.dK (lawD { B2 with cnt := B2.cnt + 1 } lc))) ∧ B2.cnt = B.cnt := fun B2 e2 H2 m2 l2 => by
        subst e2
        have e3 : ({ B.wr with cnt := B.wr.cnt + 1 } : Bt) = B.pr := by unfold Bt.pr; rw [if_pos hm, wr_cnt]
        have l3 := l2.upd_d { B.wr with cnt := B.wr.cnt + 1 } rfl rfl
        refine ⟨?_, m2.trans (Mv.upd1.mono fun c h y => h (by rw [List.mem_singleton.mp y]; exact List.mem_cons_self ..)), wr_cnt B⟩
        rw [e3] at l3 ⊢
        exact l3
      have mset : ∀ o o', Mv [d, lc] H (upd (upd H d o) lc o') := fun o o' c u hc' e => by
        rw [upd_ne (fun y => hc' (by rw [y]; exact List.mem_cons_of_mem _ (List.mem_cons_self ..))), upd_ne (fun y => hc' (by rw [y]; exact List.mem_cons_self ..))]; exact e
      rw [oV_dec]
      by_cases hx : B.x = some B.bnd
      · refine iteD (decide_eq_true hx) ?_
        refine ⟨_, rfl, d, _, rfl, l.g_bound, _, rfl, d, _, rfl, l.g_step, _, _, rfl, rfl, _, _, rfl, _, rfl, d, _, rfl, l.p_bound _, ?_⟩
        rw [nb']
        have l1 := l.upd_d { B with bnd := B.nb } rfl rfl
        refine ⟨_, rfl, d, _, rfl, l1.g_bound, _, rfl, d, _, rfl, l1.g_cells, _, rfl, lc, _, _, 1, rfl, rfl, l1.cs, rfl, ?_⟩
        have l2 : LawAt (upd (upd H d (.dK (lawD { B with bnd := B.nb } lc))) lc (.lst [oV B.x, .int B.nb])) d lc { B with bnd := B.nb, y := some B.nb } := ⟨by rw [upd_ne l.ne]; exact upd_same, upd_same⟩
        refine ⟨_, rfl, d, _, rfl, l2.g_count, _, _, rfl, rfl, _, rfl, d, _, rfl, l2.p_count _, ?_⟩
        obtain ⟨f1, f2, f3⟩ := fin { B with bnd := B.nb, y := some B.nb } (by unfold Bt.wr; rw [if_pos hx]) _ (mset _ _) l2
        have l3 := l2.upd_d { B with bnd := B.nb, y := some B.nb, cnt := B.cnt + 1 } rfl rfl
        refine ⟨_, rfl, d, _, rfl, l3.g_count, _, _, rfl, rfl, ?_⟩
        show Q (.int (B.cnt + 1 - 1)) _
        rw [show B.cnt + 1 - 1 = B.cnt from by omega]
        exact q _ f2 f1
      · refine iteE (decide_eq_false hx) ?_
        refine ⟨_, rfl, d, _, rfl, l.g_bound, _, rfl, d, _, rfl, l.g_step, _, _, rfl, rfl, _, _, rfl, _, rfl, d, _, rfl, l.p_bound _, ?_⟩
        rw [nb']
        have l1 := l.upd_d { B with bnd := B.nb } rfl rfl
        refine ⟨_, rfl, d, _, rfl, l1.g_bound, _, rfl, d, _, rfl, l1.g_cells, _, rfl, lc, _, _, 0, rfl, rfl, l1.cs, rfl, ?_⟩
        have l2 : LawAt (upd (upd H d (.dK (lawD { B with bnd := B.nb } lc))) lc (.lst [.int B.nb, oV B.y])) d lc { B with bnd := B.nb, x := some B.nb } := ⟨by rw [upd_ne l.ne]; exact upd_same, upd_same⟩
        refine ⟨_, rfl, d, _, rfl, l2.g_count, _, _, rfl, rfl, _, rfl, d, _, rfl, l2.p_count _, ?_⟩
        obtain ⟨f1, f2, f3⟩ := fin { B with bnd := B.nb, x := some B.nb } (by unfold Bt.wr; rw [if_neg hx]) _ (mset _ _) l2
        have l3 := l2.upd_d { B with bnd := B.nb, x := some B.nb, cnt := B.cnt + 1 } rfl rfl
        refine ⟨_, rfl, d, _, rfl, l3.g_count, _, _, rfl, rfl, ?_⟩
        show Q (.int (B.cnt + 1 - 1)) _
        rw [show B.cnt + 1 - 1 = B.cnt from by omega]
        exact q _ f2 f1
    · have e : ¬ B.cnt = B.bnd := fun y => z (decide_eq_true (by rw [y]))
      have hm : ¬ B.mw = true := fun y => e (by unfold Bt.mw at y; rw [Bool.and_eq_true] at y; exact of_decide_eq_true y.1)
      refine ⟨_, rfl, d, _, rfl, l.g_count, _, _, rfl, rfl, _, rfl, d, _, rfl, l.p_count _, ?_⟩
      have l3 := l.upd_d { B with cnt := B.cnt + 1 } rfl rfl
      refine ⟨_, rfl, d, _, rfl, l3.g_count, _, _, rfl, rfl, ?_⟩
      show Q (.int (B.cnt + 1 - 1)) _
      rw [show B.cnt + 1 - 1 = B.cnt from by omega]
      have e3 : ({ B with cnt := B.cnt + 1 } : Bt) = B.pr := by unfold Bt.pr; rw [if_neg hm]
      refine q _ (Mv.upd1.mono fun c h y => h (by rw [List.mem_singleton.mp y]; exact List.mem_cons_self ..)) ?_
      rw [e3] at l3 ⊢
      exact l3
end
section
variable {P : Program} {w : World} {K : PySem.W.Frag} {mg : Str → Option Value} {base : Heap} {tk : Nat → Tok} {C : Addr}
theorem ok_Button_cell_out (a : AtM K C "cell_out" "Button.cell_out" s_Button_cell_out ["self"]) (T : Txt K mg tk) (U : BCx K C) : Mf P w K mg base C "cell_out" ["self"] 1 (spBOut K C) := by
  refine a.mq sc_Button_cell_out (fun vs H Q E h => ?_) (fun f cdv A outer s H vs Q E hr h => ?_)
  · obtain ⟨_, _, _, _, _, rfl, _⟩ := h
    rfl
  · obtain ⟨p, ta, ka, ce, B, rfl, b, ok, q⟩ := h
    refine ⟨_, (qss_cons (qs_set (i := 1) sc_Button_cell_out.nd rfl (Or.inl rfl) (qe_callB (call_maxL rfl) (by rfl) T.b_max PyProof.Rows.boot_max (qac (qe_compF (own := ["cell"]) (fr := []) (js := []) rfl (qi_list (qe_fld (qv 0))) rfl (fun _ _ h => nomatch h) rfl (bsc0 rfl (by decide +kernel) (by decide +kernel) (by decide +kernel)) (fun _ _ _ _ => qg_name (i := 0) (show List.Nodup (["cell"] : List Str) from by decide +kernel) rfl (Or.inl rfl) (.inr rfl)) (fun _ _ _ _ => (qt_cmpR op_notN (qv 0) qe_non (nomark _))) (fun _ _ _ _ => (qv 0))) qa_nil)))
      (qss_cons (qs_fld (qv 0) (qv 1))
      (qss_one (qs_fld (qv 0) (qv 1))))), ?_⟩
    refine ⟨_, rfl, p, _, rfl, b.h_cells U, ce, rfl, ⟨_, SqL.of b.cs⟩, compF_list (K := K) (xs := [oV B.x, oV B.y]) (by show 2 ≤ sizeLine; decide) (fun i ys H2 => H2 = H ∧ ys = ([oV B.x, oV B.y].take i).filter notN) ⟨rfl, rfl⟩ (fun i ys H2 ⟨e, _⟩ => by subst e; exact SqL.of b.cs) ?_ ?_⟩
    · rintro i ys H2 v hv ⟨rfl, rfl⟩
      refine ⟨_, rfl, rfl, _, rfl, ?_⟩
      rw [filt_step hv]
      by_cases e : notN v = true
      · exact iteD e ⟨_, rfl, rfl, by rw [if_pos e]⟩
      · exact iteE (Bool.eq_false_iff.mpr e) ⟨rfl, by rw [if_neg e]⟩
    · rintro ys H2 ⟨rfl, rfl⟩ pm hpm
      obtain ⟨k1, k2, k3⟩ := ok.ok
      refine ⟨pm, okC B.x B.y, rfl, ?_, k2, fun M hM1 hM2 => ?_⟩
      · show upd H2 pm (.lst ([oV B.x, oV B.y].filter notN)) pm = _
        rw [upd_same, notN_cells]
      · have hM : M = B.bnd := by have h1 := hM2 _ k1; have h2 := k3 _ hM1; omega
        subst hM
        have s1 : Same H2 _ := Same.upd (o := .lst ([oV B.x, oV B.y].filter notN)) hpm
        have b1 := b.same s1
        obtain ⟨dx, ep⟩ := b1.ob
        refine ⟨_, rfl, _, rfl, p, _, rfl, BtnAt.put U ep 5 _ rfl U.n_next_count, ?_⟩
        have mp : ∀ (H : Hp) (o : HO), Mv [p, ce] H (upd H p o) := fun H o => Mv.upd1.mono (fun c h z => h (by rw [List.mem_singleton.mp z]; exact List.mem_cons_self ..))
        have b2 := b1.to (B' := { B with cnt := B.bnd }) (mp _ (.ins C dx (bF { B with cnt := B.bnd } ta ka ce))) rfl rfl upd_same (by rw [upd_ne b1.ne.symm]; exact b1.cs)
        refine ⟨_, rfl, _, rfl, p, _, rfl, BtnAt.put (B := { B with cnt := B.bnd }) (ta := ta) (ka := ka) (ce := ce) (dx := dx) U upd_same 6 (.int B.bnd) rfl U.n_bound, ?_⟩
        have b3 := b2.to (B' := { B with cnt := B.bnd }) (mp _ (.ins C dx (bF { B with cnt := B.bnd } ta ka ce))) rfl rfl upd_same (by rw [upd_ne b1.ne.symm]; exact b2.cs)
        exact q _ ((s1.mv.trans (mp _ _)).trans (mp _ _)) b3
theorem ok_law_out (a : At K mg "_law_out" s_law_out ["_law_own"]) (T : Txt K mg tk) : Df P w K mg base "_law_out" ["_law_own"] 1 spOut := by
  refine a.dq sc_law_out (fun vs H Q E h => ?_) (fun f cdv A outer s H vs Q E hr h => ?_)
  · obtain ⟨_, _, _, rfl, _⟩ := h
    rfl
  · obtain ⟨d, lc, B, rfl, l, ok, q⟩ := h
    refine ⟨_, (qss_cons (qs_dputK hr (qv 0) qe_str (qe_callB (call_maxL rfl) (by rfl) T.b_max PyProof.Rows.boot_max (qac (qe_compF (own := ["_law_cell"]) (fr := []) (js := []) rfl (qi_list (qe_dget hr (qv 0) qe_str)) rfl (fun _ _ h => nomatch h) rfl (bsc0 rfl (by decide +kernel) (by decide +kernel) (by decide +kernel)) (fun _ _ _ _ => qg_name (i := 0) (show List.Nodup (["_law_cell"] : List Str) from by decide +kernel) rfl (Or.inl rfl) (.inr rfl)) (fun _ _ _ _ => (qt_cmpR op_notN (qv 0) qe_non (nomark _))) (fun _ _ _ _ => (qv 0))) qa_nil)))
      (qss_one (qs_dputK hr (qv 0) qe_str (qe_dget hr (qv 0) qe_str)))), ?_⟩
    refine ⟨_, rfl, d, _, rfl, l.g_cells, lc, rfl, ⟨_, SqL.of l.cs⟩, compF_list (K := K) (xs := [oV B.x, oV B.y]) (by show 2 ≤ sizeLine; decide) (fun i ys H2 => H2 = H ∧ ys = ([oV B.x, oV B.y].take i).filter notN) ⟨rfl, rfl⟩ (fun i ys H2 ⟨e, _⟩ => by subst e; exact SqL.of l.cs) ?_ ?_⟩
    · rintro i ys H2 v hv ⟨rfl, rfl⟩
      refine ⟨_, rfl, rfl, _, rfl, ?_⟩
      rw [filt_step hv]
      by_cases e : notN v = true
      · exact iteD e ⟨_, rfl, rfl, by rw [if_pos e]⟩
      · exact iteE (Bool.eq_false_iff.mpr e) ⟨rfl, by rw [if_neg e]⟩
    · rintro ys H2 ⟨rfl, rfl⟩ pm hpm
      obtain ⟨k1, k2, k3⟩ := ok.ok
      refine ⟨pm, okC B.x B.y, rfl, ?_, k2, fun M hM1 hM2 => ?_⟩
      · show upd H2 pm (.lst ([oV B.x, oV B.y].filter notN)) pm = _
        rw [upd_same, notN_cells]
      · have hM : M = B.bnd := by have h1 := hM2 _ k1; have h2 := k3 _ hM1; omega
        subst hM
        have s1 : Same H2 _ := Same.upd (o := .lst ([oV B.x, oV B.y].filter notN)) hpm
        have l1 := l.same s1
        refine ⟨_, rfl, d, _, rfl, l1.p_bound _, ?_⟩
        have l2 := l1.upd_d { B with bnd := B.bnd } rfl rfl
        have mp : ∀ (H : Hp) (o : HO), Mv [d, lc] H (upd H d o) := fun H o => Mv.upd1.mono (fun c h z => h (by rw [List.mem_singleton.mp z]; exact List.mem_cons_self ..))
        refine ⟨_, rfl, d, _, rfl, l2.g_bound, _, rfl, d, _, rfl, l2.p_count _, ?_⟩
        have l3 := l2.upd_d { B with cnt := B.bnd } rfl rfl
        exact q _ ((s1.mv.trans (mp _ _)).trans (mp _ _)) l3
end
end Lw

namespace Lw
open PySem L2 L3
section
variable {P : Program} {w : World} {K : PySem.W.Frag} {mg : Str → Option Value} {base : Heap} {tk : Nat → Tok} {C : Addr}
theorem ok_law {f : Addr} {fd : FuncData} (F : Fun K "law" "law" s_law f fd) (T : Txt K mg tk) (U : BCx K C) (I_Button : Mi P w K mg base C "Button" ["self", "name", "table", "key", "age", "step"] 1 (spBInit K C))
    (D_Button_press_once : Mf P w K mg base C "press_once" ["self", "deed"] 4 (spBPress K C)) (D_Button_cell_out : Mf P w K mg base C "cell_out" ["self"] 1 (spBOut K C)) (D_Button_count_now : Mf P w K mg base C "count_now" ["self"] 1 (spBCount K C)) (D_Button_cells_now : Mf P w K mg base C "cells_now" ["self"] 1 (spBCells K C))
    (D_press_of : Df P w K mg base "press_of" ["table", "key", "name", "age", "count", "deed"] 3 (spPress K)) (D_law_box : Df P w K mg base "_law_box" ["_law_script", "_law_k"] 1 (spBox2 K)) (D_law_take : Df P w K mg base "_law_take" ["_law_box_here", "_law_many"] 1 spTake2)
    (D_law_table : Df P w K mg base "_law_table" ["_law_box_here"] 2 spTable2) (D_law_key : Df P w K mg base "_law_key" ["_law_box_here"] 2 spKeyT2) (D_law_name : Df P w K mg base "_law_name" ["_law_box_here"] 2 spName2)
    (D_law_begun : Df P w K mg base "_law_begun" ["_law_step"] 1 spBegun) (D_law_pressed : Df P w K mg base "_law_pressed" ["_law_own"] 1 spPressed) (D_law_out : Df P w K mg base "_law_out" ["_law_own"] 1 spOut)
    (D_all : ∀ n : Nat, n ≤ 8 → Df P w K mg base "_law_alike" ["_law_found", "_law_due"] (n + 1) (spAl n)) : FnOk P w K mg base CX0 6 f fd ["_law_script"] (spLaw K) := by
  have D_law_alike := D_all 2 (by decide)
  refine F.dq sc_law (fun vs H Q E h => ?_) (fun cdv A outer s H vs Q E hr h => ?_)
  · obtain ⟨x, ns, rfl, _⟩ := h
    rfl
  · obtain ⟨sc, ns, rfl, hS, hlen, q⟩ := h
    refine ⟨_, (qss_cons (qs_for PassesOwn.never rfl (qi_range1 rfl T.b_range (qac (qe_op op_add qe_int (qe_callB call_len_seq (by rfl) T.b_len PySem.boot_len (qac (qe_slice sl_list (qv 0) qo_none (qo_some qe_int)) qa_nil))) qa_nil)) (qg_name (i := 1) sc_law.nd rfl (Or.inl rfl))
      (qss_cons (qs_set (i := 2) sc_law.nd rfl (Or.inl rfl) (qe_def D_law_box (hr.mono (by first | decide | omega)) (qac (qv 0) (qac (qv 1) qa_nil))))
      (qss_cons (qs_set (i := 3) sc_law.nd rfl (Or.inl rfl) (qe_lst qa_nil))
      (qss_cons (qs_for PassesOwn.never rfl (qi_range1 rfl T.b_range (qac qe_int qa_nil)) (qg_name (i := 4) sc_law.nd rfl (Or.inl rfl))
      (qss_cons (qs_set (i := 5) sc_law.nd rfl (Or.inl rfl) (qe_ix ix_list (qe_lst (qac qe_int (qac qe_int (qac qe_int (qac qe_int (qac qe_int (qac (qe_op op_add qe_int (qe_def D_law_take (hr.mono (by first | decide | omega)) (qac (qv 2) (qac qe_int qa_nil)))) qa_nil))))))) (qe_def D_law_take (hr.mono (by first | decide | omega)) (qac (qv 2) (qac qe_int qa_nil))) (fun _ _ => rfl)))
      (qss_cons (qs_set (i := 6) sc_law.nd rfl (Or.inl rfl) (qe_tup (qac (qe_def D_law_name (hr.mono (by first | decide | omega)) (qac (qv 2) qa_nil)) (qac (qe_def D_law_table (hr.mono (by first | decide | omega)) (qac (qv 2) qa_nil)) (qac (qe_slice sl_tupW (qe_def D_law_key (hr.mono (by first | decide | omega)) (qac (qv 2) qa_nil)) qo_none (qo_some qe_int)) (qac (qe_def D_law_take (hr.mono (by first | decide | omega)) (qac (qv 2) (qac qe_int qa_nil))) qa_nil))))))
      (qss_one (qs_expr (qe_bm PySem.F.plainAttrs_list PySem.F.slot_list_append PySem.F.type_list_append mr_append (qv 3) (qac (qe_tup (qac (qe_make I_Button (hr.mono (by first | decide | omega)) (qac (qe_ix ix_tup (qv 6) qe_int (fun _ _ => rfl)) (qac (qe_ix ix_tup (qv 6) qe_int (fun _ _ => rfl)) (qac (qe_ix ix_tup (qv 6) qe_int (fun _ _ => rfl)) (qac (qe_ix ix_tup (qv 6) qe_int (fun _ _ => rfl)) (qac (qv 5) qa_nil)))))) (qac (qv 6) (qac (qe_def D_law_begun (hr.mono (by first | decide | omega)) (qac (qv 5) qa_nil)) qa_nil)))) qa_nil)))))))
      (qss_one (qs_for PassesOwn.never rfl (qi_range1 rfl T.b_range (qac (qe_ix ix_list (qe_lst (qac qe_int (qac (qe_op op_add qe_int (qe_def D_law_take (hr.mono (by first | decide | omega)) (qac (qv 2) (qac qe_int qa_nil)))) qa_nil))) (qe_callTy call_int1 (by rfl) T.b_int PyProof.Rows.boot_int (qac (qe_cmpR op_eq (qe_def D_law_take (hr.mono (by first | decide | omega)) (qac (qv 2) (qac qe_int qa_nil))) qe_int (nomark _)) qa_nil)) (fun _ _ => rfl)) qa_nil)) (qg_name (i := 4) sc_law.nd rfl (Or.inl rfl))
      (qss_cons (qs_asg (qe_ix ix_list (qv 3) (qe_def D_law_take (hr.mono (by first | decide | omega)) (qac (qv 2) (qac qe_int qa_nil))) (fun _ _ => rfl)) (qg_seq rfl (qgs_cons (qg_name (i := 7) sc_law.nd rfl (Or.inl rfl)) (qgs_cons (qg_seq rfl (qgs_cons (qg_name (i := 8) sc_law.nd rfl (Or.inl rfl)) (qgs_cons (qg_name (i := 9) sc_law.nd rfl (Or.inl rfl)) (qgs_cons (qg_name (i := 10) sc_law.nd rfl (Or.inl rfl)) (qgs_cons (qg_name (i := 11) sc_law.nd rfl (Or.inl rfl)) qgs_nil))))) (qgs_cons (qg_name (i := 12) sc_law.nd rfl (Or.inl rfl)) qgs_nil)))))
      (qss_cons (qs_if (qt_cmpR op_eq (qe_def D_law_take (hr.mono (by first | decide | omega)) (qac (qv 2) (qac qe_int qa_nil))) qe_int (nomark _)) (qss_cons (qs_if (qt_cmpR op_notN (qe_meth0 D_Button_cell_out U.cl (hr.mono (by first | decide | omega)) (qv 7)) qe_non (nomark _)) (qss_one (qs_ret qe_bl)) qss_nil)
      (qss_one (qs_expr (qe_def D_law_out (hr.mono (by first | decide | omega)) (qac (qv 12) qa_nil))))) (qss_one (qs_if (qt_cmpR op_lt (qe_dget hr (qv 12) qe_str) qe_int (nomark _)) (qss_cons (qs_set (i := 13) sc_law.nd rfl (Or.inl rfl) (qe_def D_law_take (hr.mono (by first | decide | omega)) (qac (qv 2) (qac qe_int qa_nil))))
      (qss_cons (qs_set (i := 14) sc_law.nd rfl (Or.inl rfl) (qe_def D_press_of (hr.mono (by first | decide | omega)) (qac (qv 9) (qac (qv 10) (qac (qv 8) (qac (qv 11) (qac (qe_def D_law_pressed (hr.mono (by first | decide | omega)) (qac (qv 12) qa_nil)) (qac (qv 13) qa_nil))))))))
      (qss_one (qs_if (qt_not (qt_val (qe_def D_law_alike (hr.mono (by first | decide | omega)) (qac (qe_meth D_Button_press_once U.cl (hr.mono (by first | decide | omega)) (qv 7) (qac (qv 13) qa_nil)) (qac (qv 14) qa_nil))))) (qss_one (qs_ret qe_bl)) qss_nil)))) qss_nil)))
      (qss_one (qs_for PassesOwn.never rfl (qi_list (qv 3)) (qg_seq rfl (qgs_cons (qg_name (i := 7) sc_law.nd rfl (Or.inl rfl)) (qgs_cons (qg_name (i := 6) sc_law.nd rfl (Or.inl rfl)) (qgs_cons (qg_name (i := 12) sc_law.nd rfl (Or.inl rfl)) qgs_nil))))
      (qss_one (qs_if (qt_not (qt_val (qe_def D_law_alike (hr.mono (by first | decide | omega)) (qac (qe_lst (qac (qe_meth0 D_Button_cells_now U.cl (hr.mono (by first | decide | omega)) (qv 7)) (qac (qe_meth0 D_Button_count_now U.cl (hr.mono (by first | decide | omega)) (qv 7)) qa_nil))) (qac (qe_lst (qac (qe_callTy call_tuple_of (by rfl) T.b_tuple PyProof.Rows.boot_tuple (qac (qe_dget hr (qv 12) qe_str) qa_nil)) (qac (qe_dget hr (qv 12) qe_str) qa_nil))) qa_nil))))) (qss_one (qs_ret qe_bl)) qss_nil))))))))))))
      (qss_one (qs_ret qe_bl))), ?_⟩
    refine ⟨_, rfl, _, rfl, sc, _, rfl, hS, fun p hp => ⟨p, _, rfl, .inl (SqL.of upd_same), _, _, rfl, rfl, _, rfl, ?_, ?_, ?_⟩⟩
    · omega
    · rw [cut_ints, List.length_map, cutI_len]; omega
    have s1 : Same H _ := Same.upd (o := .lst (cutV (ns.map V.int) none (some 2))) hp
    refine for_range (Pv := fun i σ H2 => Same H H2 ∧ ∃ o1 o2 o3 o4 o5 o6 o7 o8 o9 oa ob oc od oe, σ = [some (.ref sc), o1, o2, o3, o4, o5, o6, o7, o8, o9, oa, ob, oc, od, oe]) ⟨s1, _, _, _, _, _, _, _, _, _, _, _, _, _, _, rfl⟩ ?_ ?_
    · rintro k σ H2 hk ⟨s2, o1, o2, o3, o4, o5, o6, o7, o8, o9, oa, ob, oc, od, oe, rfl⟩
      refine ⟨_, rfl, _, rfl, sc, ns, k, (by simp), s2.seq hS, fun b H3 hb s3 bx => ?_⟩
      refine ⟨by show 0 ≤ sizeLine; decide, fun L hL => ?_⟩
      have fL := s2n hL s3
      have W0 : Wd2 (E11 K) K C (upd H3 L (.lst [])) b L 0 [] := ⟨bx.upd (boxc_fresh bx hL), upd_same, fun i o e => by (cases e), fun i j a c e => by (cases e), fun i j a c e => by (cases e)⟩
      refine ⟨2, rfl, by decide, by decide, for_range (n := 2) (Pv := fun i σ H4 => Same H2 H4 ∧ ∃ (os : List O2) (o4 o5 o6 o7 o8 o9 oa ob oc od oe : Option V), Fr2 H2 os ∧ Wd2 (E11 K) K C H4 b L (40 * i) os ∧ os.length = i ∧ σ = [some (.ref sc), some (.int (0 + (k : Int))), some (.ref b), some (.ref L), o4, o5, o6, o7, o8, o9, oa, ob, oc, od, oe])
        ⟨s3.trans (Same.upd hL), [], _, _, _, _, _, _, _, _, _, _, _, fun i o e => by (cases e), W0, rfl, rfl⟩ ?_ ?_⟩
      · rintro i σ H4 hi ⟨s4, os, o4, o5, o6, o7, o8, o9, oa, ob, oc, od, oe, fr, W, hos, rfl⟩
        -- step
        refine ⟨_, rfl, b, _, _, rfl, W.bx, by omega, by decide, by decide, fun r1 Ha r10 r11 ga => ⟨_, _, rfl, rfl, by show 6 ≤ sizeLine; decide, fun l hl => ?_⟩⟩
        have ul := Same.upd (o := .lst [.int 1, .int 2, .int 3, .int 4, .int 64, .int (1 + r1)]) hl
        refine ⟨_, rfl, b, _, _, rfl, (ul.grc ga.bx).bx, by omega, by decide, by decide, fun r2 Hb r20 r21 gb => ?_⟩
        obtain ⟨v5, hv5, hm5⟩ := draw_at (xs := [V.int 1, .int 2, .int 3, .int 4, .int 64, .int (1 + r1)]) r20 r21
        obtain ⟨step, rfl, st1⟩ : ∃ z : Int, v5 = .int z ∧ 1 ≤ z := by
          simp only [List.mem_cons, List.not_mem_nil, or_false] at hm5
          rcases hm5 with rfl | rfl | rfl | rfl | rfl | rfl <;> exact ⟨_, rfl, by omega⟩
        refine ⟨l, _, _, _, rfl, rfl, SqL.of (gb.kp _ _ (boxc_fresh ga.bx hl) upd_same), hv5, ?_⟩
        have m1 : Mv [b] H4 Hb := (ga.mv.trans ul.mv).trans gb.mv
        -- row
        refine ⟨_, rfl, b, _, rfl, gb.bx, by omega, fun nm Hc gc hnm => ⟨_, rfl, b, _, rfl, gc.bx, by omega, fun rt t Hd gd frt hrt pt => ?_⟩⟩
        have lt : t.length = 16 := tab_len pt
        refine ⟨_, rfl, b, _, rfl, gd.bx, by omega, fun rk0 ks0 He ge frk hrk dk k1 k8 => ⟨_, rfl, rk0, _, rfl, hrk, fun rk Hf sf hrk2 _ => ?_⟩⟩
        rw [cut_ints] at hrk2
        generalize cutI ks0 none (some 3) = ks at hrk2
        have m2 : Mv [b] H4 Hf := ((m1.trans (gc.trans gd).mv).trans ge.mv).trans sf.mv
        have b2 := (sf.grc ge.bx).bx
        have nrt : rt ≠ b := fun z => by obtain ⟨_, _, _, e, _⟩ := gd.bx; rw [← z, hrt] at e; cases e
        have nrk : rk ≠ b := fun z => by obtain ⟨_, _, _, e, _⟩ := b2; rw [← z, hrk2] at e; cases e
        have frt2 : Hf rt = some (.tup (t.map V.int)) := sf _ _ (ge.kp _ _ nrt hrt)
        refine ⟨_, rfl, b, _, _, rfl, b2, by omega, by decide, by decide, fun age Hg' a0 a1 gg => ⟨by show 4 ≤ sizeLine; decide, fun w hw => ?_⟩⟩
        have uw := Same.upd (o := .tup [.str nm, .ref rt, .ref rk, .int age]) hw
        have m3 := (m2.trans gg.mv).trans uw.mv
        have b3 := (uw.grc gg.bx).bx
        have ert := uw _ _ (gg.kp _ _ nrt frt2)
        have erk := uw _ _ (gg.kp _ _ nrk hrk2)
        have ew : _ = some (HO.tup [.str nm, .ref rt, .ref rk, .int age]) := upd_same (H := Hg') (a := w) (o := .tup [.str nm, .ref rt, .ref rk, .int age])
        generalize upd Hg' w (.tup [.str nm, .ref rt, .ref rk, .int age]) = Hg at uw m3 b3 ert erk ew ⊢
        have W3 := W.box (E11_stb K) m3 b3
        -- made.append((Button(..), row, begun(step)))
        refine ⟨_, rfl, .inl ⟨rfl, _, SqL.of W3.ls⟩, _, rfl, w, _, _, _, rfl, rfl, SqT.of ew, rfl, _, rfl, w, _, _, _, rfl, rfl, SqT.of ew, rfl, _, rfl, w, _, _, _, rfl, rfl, SqT.of ew, rfl, _, rfl, w, _, _, _, rfl, rfl, SqT.of ew, rfl, _, rfl, fun x dx nx ndx nex => ?_⟩
        have sJ : Same Hg (upd (upd Hg dx (.own x)) x (.ins C dx [])) := (Same.upd ndx).trans (Same.upd (by rw [upd_ne nex.symm]; exact nx))
        refine ⟨x, rt, rk, dx, nm, age, step, t, ks, rfl, upd_same, .tup (sJ _ _ ert), .tup (sJ _ _ erk), fun ta ka ce Hk hce mk bk => ⟨rfl, ?_⟩⟩
        have sK : Same Hg Hk := fun c o e => mk c o (nin1 (ne_of_none e nx)) (sJ c o e)
        have fx : H4 x = none := m3.free b3 nx
        have fce : H4 ce = none := m3.free b3 (s2n hce sJ)
        have m4 := m3.trans sK.mv
        have b4 := (sK.grc b3).bx
        have W4 := W.box (E11_stb K) m4 b4
        refine ⟨_, rfl, _, rfl, step, rfl, fun d lc Hl hd hlc sl la => ⟨by show 3 ≤ sizeLine; decide, fun r hr' => ?_⟩⟩
        have u7 := Same.upd (o := .tup [.ref x, .ref w, .ref d]) hr'
        have s7 := sl.trans u7
        have W7 := W4.same (E11_stb K) s7
        have fd : H4 d = none := m4.free b4 hd
        have flc : H4 lc = none := m4.free b4 hlc
        refine ⟨L, _, _, rfl, rfl, W7.ls, by rw [List.length_map]; exact small _, ?_⟩
        have on : One2 (E11 K) K C (upd Hl r (.tup [.ref x, .ref w, .ref d])) ⟨r, w, rt, rk, x, ta, ka, ce, d, lc, ⟨nm, t, ks, age, step, 0, 0, some 0, none⟩⟩ :=
          ⟨bk.same s7, (la.same u7).eqv rfl rfl rfl rfl rfl, ⟨.inl upd_same, .inl (s7 _ _ (sK _ _ ew)), SqT.of (s7 _ _ (sK _ _ ert)), SqT.of (s7 _ _ (sK _ _ erk))⟩, hnm, lt, BtOk.new st1⟩
        have W8 := W7.add (E11_stb K) on (ne_of_none bk.cs hlc) (fun j a e => by
          have z := W.on j a e
          obtain ⟨dy, ey⟩ := z.bt.ob
          exact ⟨ne_of_none ey fx, ne_of_none z.bt.cs fce, ne_of_none z.la.di fd, ne_of_none z.la.cs flc, ne_of_none z.bt.cs flc, (ne_of_none z.la.cs fce).symm⟩)
        exact ⟨Same.mv_of (Same.mv_of s4 (m4.trans s7.mv) (fun c hc => by rw [List.mem_singleton.mp hc]; exact hb)) (Mv.upd1 (a := L)) (fun c hc => by rw [List.mem_singleton.mp hc]; exact fL), _, _, _, _, _, _, _, _, _, _, _, _, fr.add ⟨s2n fx s4, s2n fce s4, s2n fd s4, s2n flc s4⟩, W8.mono (by omega), by rw [List.length_append, hos]; rfl, rfl⟩
      · rintro σ H4 ⟨s4, os, o4, o5, o6, o7, o8, o9, oa, ob, oc, od, oe, fr, W, hos, rfl⟩
        refine ⟨_, rfl, b, _, _, rfl, W.bx, by omega, by decide, by decide, fun m2 Hb m20 m21 gb => ⟨_, _, rfl, rfl, by show 2 ≤ sizeLine; decide, fun l hl => ?_⟩⟩
        have ul := Same.upd (o := .lst [.int 20, .int (20 + m2)]) hl
        refine ⟨_, rfl, b, _, _, rfl, (ul.grc gb.bx).bx, by omega, by decide, by decide, fun m3 Hc m30 m31 gc => ⟨rfl, .inr ⟨_, rfl, ?_⟩⟩⟩
        have hl' : Hc l = some (.lst [.int 20, .int (20 + m2)]) := gc.kp _ _ (boxc_fresh gb.bx hl) upd_same
        have W1 := ((W.grc (E11_stb K) gb).same (E11_stb K) ul).grc (E11_stb K) gc
        have s5 : Same H2 Hc := Same.mv_of (Same.mv_of (Same.mv_of s4 gb.mv (fun c hc => by rw [List.mem_singleton.mp hc]; exact hb)) (S := []) ul.mv (fun c hc => by cases hc)) gc.mv (fun c hc => by rw [List.mem_singleton.mp hc]; exact hb)
        obtain ⟨many, hmany, hm30⟩ : ∃ many : Nat, atI [V.int 20, .int (20 + m2)] (if decide (V.int m3 = V.int 5) = true then (1 : Int) else 0) = some (.int (many : Int)) ∧ many ≤ 60 := by
          by_cases e : decide (V.int m3 = V.int 5) = true
          · rw [if_pos e]
            exact ⟨(20 + m2).toNat, by rw [show (((20 + m2).toNat : Nat) : Int) = 20 + m2 from by omega]; rfl, by omega⟩
          · rw [if_neg e]
            exact ⟨20, rfl, by omega⟩
        refine ⟨l, _, _, _, rfl, rfl, SqL.of hl', hmany, _, rfl, by omega, by omega, ?_⟩
        rw [Int.toNat_natCast]
        refine for_range (n := many) (Pv := fun i σ H5 => Same H2 H5 ∧ ∃ (os : List O2) (o4 o5 o6 o7 o8 o9 oa ob oc od oe : Option V), Fr2 H2 os ∧ Wd2 (E11 K) K C H5 b L (90 + 3 * i) os ∧ os.length = 2 ∧ σ = [some (.ref sc), some (.int (0 + (k : Int))), some (.ref b), some (.ref L), o4, o5, o6, o7, o8, o9, oa, ob, oc, od, oe])
          ⟨s5, os, _, _, _, _, _, _, _, _, _, _, _, fr, W1.mono (by omega), hos, rfl⟩ ?_ ?_
        · rintro i σ H5 hi ⟨s5, os, o4, o5, o6, o7, o8, o9, oa, ob, oc, od, oe, fr, W, hos, rfl⟩
          refine ⟨_, rfl, _, rfl, b, _, _, rfl, W.bx, by omega, by decide, by decide, fun x Ha x0 x1 ga => ?_⟩
          obtain ⟨j, rfl⟩ : ∃ j : Nat, x = (j : Int) := ⟨x.toNat, by omega⟩
          have hj : j < os.length := by omega
          have W1 := W.grc (E11_stb K) ga
          have hoj : os[j]? = some os[j] := List.getElem?_eq_getElem hj
          generalize os[j] = o at hoj
          have z1 := W1.on j o hoj
          refine ⟨L, _, _, .ref o.r, rfl, rfl, SqL.of W1.ls, atI_nat (by rw [List.getElem?_map, hoj]; rfl), o.r, _, rfl, .rd z1.ex.1, rfl, _, _, rfl, _, _, rfl, o.w, _, rfl, .rd z1.ex.2.1, rfl, _, _, rfl, _, _, rfl, _, _, rfl, _, _, rfl, rfl, _, _, rfl, rfl, ?_⟩
          refine ⟨_, rfl, b, _, _, rfl, W1.bx, by omega, by decide, by decide, fun c3 Hb c30 c31 gb => ⟨rfl, _, rfl, ?_⟩⟩
          have W2 := W1.grc (E11_stb K) gb
          have z2 := W2.on j o hoj
          obtain ⟨nb1, nb2, nb3, nb4⟩ := z2.nb W2.bx
          obtain ⟨dx, ep⟩ := z2.bt.ob
          have ndp : o.d ≠ o.p := ne_of z2.la.di ep (by intro z; cases z)
          have ndc : o.d ≠ o.ce := ne_of z2.la.di z2.bt.cs (by intro z; cases z)
          have nlp : o.lc ≠ o.p := ne_of z2.la.cs ep (by intro z; cases z)
          have nlc : o.lc ≠ o.ce := (W2.dl j j o o hoj hoj).symm
          have ntd : ∀ {Hx : Hp} {B : Bt}, LawAt Hx o.d o.lc B → NT [o.d, o.lc] Hx := fun l4 c hc => by
            simp only [List.mem_cons, List.not_mem_nil, or_false] at hc
            rcases hc with rfl | rfl
            · exact ⟨_, l4.di, trivial⟩
            · exact ⟨_, l4.cs, trivial⟩
          have fro := fr j o hoj
          have s50 : Same H2 Hb := Same.mv_of s5 (ga.trans gb).mv (fun c hc => by rw [List.mem_singleton.mp hc]; exact hb)
          refine ite2 (fun _ => ?_) (fun _ => ?_)
          · -- the cell goes out
            refine ⟨_, rfl, o.p, rfl, z2.bt.no, o.p, o.ta, o.ka, o.ce, o.B, rfl, z2.bt, z2.ok, fun Hc mc bc => ⟨rfl, _, rfl, ?_⟩⟩
            refine ite2 (fun y => absurd y (by decide)) (fun _ => ?_)
            have la2 := z2.la.mv mc (nin2 ndp ndc) (nin2 nlp nlc)
            refine ⟨_, rfl, o.d, o.lc, o.B, rfl, la2, z2.ok, fun Hf mf lf => ?_⟩
            have M : Mv [b, o.p, o.ce, o.d, o.lc] Hb Hf := (mc.mono (fun c h z => h (by simp only [List.mem_cons, List.not_mem_nil, or_false] at z ⊢; rcases z with z | z <;> simp [z]))).trans (mf.mono (fun c h z => h (by simp only [List.mem_cons, List.not_mem_nil, or_false] at z ⊢; rcases z with z | z <;> simp [z])))
            have on : One2 (E11 K) K C Hf { o with B := o.B.ou } := ⟨bc.mv mf (ntd la2) (nin2 ndp.symm nlp.symm) (nin2 ndc.symm nlc.symm), lf, E11_stb K _ _ _ o mf (ntd la2) (E11_stb K _ _ _ o mc z2.bt.nt z2.ex), z2.nm, z2.tl, z2.ok.ou⟩
            have bx5 := (W2.bx.mv mc (nin2 nb1.symm nb2.symm)).mv mf (nin2 nb3.symm nb4.symm)
            have W5 := W2.step (E11_stb K) hoj M bx5 on
            have s6 : Same H2 Hf := Same.mv_of s50 M (fun c hc => by
                simp only [List.mem_cons, List.not_mem_nil, or_false] at hc
                rcases hc with rfl | rfl | rfl | rfl | rfl
                · exact hb
                · exact fro.1
                · exact fro.2.1
                · exact fro.2.2.1
                · exact fro.2.2.2)
            have hos3 : (os.set j { o with B := o.B.ou }).length = 2 := by rw [List.length_set]; exact hos
            have fr3 := fr.set hoj o.B.ou
            generalize os.set j { o with B := o.B.ou } = os3 at W5 hos3 fr3
            refine ⟨_, rfl, L, rfl, ⟨_, SqL.of W5.ls⟩, for_list (K := K) (a := L) (xs := os3.map fun o => V.ref o.r) (fun i σ Hi => Same Hf Hi ∧ ∃ (o4 o5 o6 o7 o8 o9 oa ob oc od oe : Option V), σ = [some (.ref sc), some (.int (0 + (k : Int))), some (.ref b), some (.ref L), o4, o5, o6, o7, o8, o9, oa, ob, oc, od, oe]) ⟨Same.refl _, _, _, _, _, _, _, _, _, _, _, _, rfl⟩ (fun i σ Hi _ ⟨si, _⟩ => si.seq (SqL.of W5.ls)) ?_ ?_⟩
            · rintro y x σ Hi hx ⟨si, p4, p5, p6, p7, p8, p9, pa, pb, pc, pd, pe, rfl⟩
              obtain ⟨o', ho', rfl⟩ := refs_get hx
              have z := (W5.same (E11_stb K) si).on y o' ho'
              refine ⟨o'.r, _, rfl, .rd z.ex.1, rfl, _, _, rfl, _, _, rfl, _, _, rfl, rfl, ?_⟩
              refine ⟨_, rfl, o'.p, rfl, z.bt.no, o'.p, o'.ta, o'.ka, o'.ce, o'.B, rfl, z.bt, fun t1 Hj sj ht1 => ?_⟩
              have zb := z.bt.same sj
              refine ⟨_, rfl, o'.p, rfl, zb.no, o'.p, o'.ta, o'.ka, o'.ce, o'.B, rfl, zb, by show 2 ≤ sizeLine; decide, fun l1 hl1 => ?_⟩
              have v1 := Same.upd (o := .lst [.ref t1, .int o'.B.cnt]) hl1
              have zl := z.la.same (sj.trans v1)
              refine ⟨_, rfl, o'.d, _, rfl, zl.g_cells, o'.lc, _, rfl, .inl ⟨SqL.of zl.cs, fun t2 ht2 => ?_⟩⟩
              have v2 := Same.upd (o := .tup [oV o'.B.x, oV o'.B.y]) ht2
              have zl2 := zl.same v2
              refine ⟨_, rfl, o'.d, _, rfl, zl2.g_count, by show 2 ≤ sizeLine; decide, fun l2 hl2 => ?_⟩
              have v3 := Same.upd (o := .lst [.ref t2, .int o'.B.cnt]) hl2
              refine ⟨_, _, rfl, Eqw.ltwo (v3 _ _ (v2 _ _ upd_same)) upd_same (Eqw.two (.inl (v3 _ _ (v2 _ _ (v1 _ _ ht1)))) (.inl (v3 _ _ upd_same)) (Eqw.cell (n := 0) _) (Eqw.cell _)) (.int _ _), fun Hm sm => ⟨_, rfl, iteF ?_⟩⟩
              exact ⟨((((si.trans sj).trans v1).trans v2).trans v3).trans sm, _, _, _, _, _, _, _, _, _, _, _, rfl⟩
            · rintro σ Hi ⟨si, p4, p5, p6, p7, p8, p9, pa, pb, pc, pd, pe, rfl⟩
              exact ⟨s6.trans si, os3, _, _, _, _, _, _, _, _, _, _, _, fr3, (W5.same (E11_stb K) si).mono (by omega), hos3, rfl⟩
          · refine ⟨_, rfl, o.d, _, rfl, z2.la.g_count, _, _, rfl, rfl, _, rfl, ?_⟩
            refine ite2 (fun hlt => ?_) (fun _ => ?_)
            · -- a press
              have hc4 : o.B.cnt < 4096 := of_decide_eq_true hlt
              refine ⟨_, rfl, b, _, _, rfl, W2.bx, by omega, by decide, by decide, fun d Hc d0 d1 gc => ?_⟩
              have W3 := W2.grc (E11_stb K) gc
              have z3 := W3.on j o hoj
              refine ⟨_, rfl, _, rfl, _, rfl, _, rfl, _, rfl, o.d, o.lc, o.B, rfl, z3.la, hc4, fun Hd md ld => ?_⟩
              have n3 := ntd z3.la
              have ex3 := E11_stb K _ _ _ o md n3 z3.ex
              refine ⟨_, rfl, o.rt, o.rk, o.B.nm, o.B.age, o.B.cnt, d, o.B.t, o.B.ks, rfl, .inr ex3.2.2.1, .inr ex3.2.2.2, z3.nm, z3.tl, z3.ok.c0, hc4, ⟨d0, d1⟩, fun q2 pc2 He se hq2 hpc2 => ?_⟩
              have bt3 := (z3.bt.mv md n3 (nin2 ndp.symm nlp.symm) (nin2 ndc.symm nlc.symm)).same se
              refine ⟨_, rfl, o.p, rfl, bt3.no, _, rfl, o.p, o.ta, o.ka, o.ce, o.B, d, rfl, bt3, z3.nm, z3.tl, z3.ok.c0, hc4, ⟨d0, d1⟩, fun q1 pc1 Hg mg' bg hq1 hpc1 => ?_⟩
              have cl : (codeI o.B.t o.B.ks o.B.nm o.B.cnt d).length ≤ sizeLine := by unfold codeI; rw [encK_len, five_len]; decide
              refine ⟨_, rfl, _, _, rfl, Eqw.three (.inl hq1) (mg'.rd bt3.nt (.inl hq2)) (.str _ _) (.int _ _) (Eqw.ints (n := 0) (.inl hpc1) (mg'.rd bt3.nt (.inl hpc2)) cl), fun Hf sf => ⟨_, rfl, iteF ?_⟩⟩
              have M : Mv [b, o.p, o.ce, o.d, o.lc] Hc Hf := (((md.mono (fun c h z => h (by simp only [List.mem_cons, List.not_mem_nil, or_false] at z ⊢; rcases z with z | z <;> simp [z]))).trans se.mv).trans (mg'.mono (fun c h z => h (by simp only [List.mem_cons, List.not_mem_nil, or_false] at z ⊢; rcases z with z | z <;> simp [z])))).trans sf.mv
              have on : One2 (E11 K) K C Hf { o with B := o.B.pr } := by
                have ex4 := E11_stb K [] _ _ o sf.mv (fun c hc => by cases hc) (E11_stb K _ _ _ o mg' bt3.nt (E11_stb K [] _ _ o se.mv (fun c hc => by cases hc) ex3))
                refine ⟨bg.same sf, ((ld.same se).mv mg' (nin2 ndp ndc) (nin2 nlp nlc)).same sf, ⟨ex4.1, ?_, ?_, ?_⟩, ?_, ?_, z3.ok.pr hc4⟩
                · show Rd Hf o.w (.tup [.str o.B.pr.nm, .ref o.rt, .ref o.rk, .int o.B.pr.age])
                  rw [pr_nm, pr_age]; exact ex4.2.1
                · show SqT K Hf o.rt (o.B.pr.t.map V.int)
                  rw [pr_t]; exact ex4.2.2.1
                · show SqT K Hf o.rk (o.B.pr.ks.map V.int)
                  rw [pr_ks]; exact ex4.2.2.2
                · show isNm o.B.pr.nm
                  rw [pr_nm]; exact z3.nm
                · show o.B.pr.t.length = 16
                  rw [pr_t]; exact z3.tl
              have bx5 := (sf.grc (((se.grc (W3.bx.mv md (nin2 nb3.symm nb4.symm))).bx).mv mg' (nin2 nb1.symm nb2.symm))).bx
              have W5 := W3.step (E11_stb K) hoj M bx5 on
              have s6 : Same H2 Hf := Same.mv_of (Same.mv_of s50 gc.mv (fun c hc => by rw [List.mem_singleton.mp hc]; exact hb)) M (fun c hc => by
                simp only [List.mem_cons, List.not_mem_nil, or_false] at hc
                rcases hc with rfl | rfl | rfl | rfl | rfl
                · exact hb
                · exact fro.1
                · exact fro.2.1
                · exact fro.2.2.1
                · exact fro.2.2.2)
              have hos3 : (os.set j { o with B := o.B.pr }).length = 2 := by rw [List.length_set]; exact hos
              have fr3 := fr.set hoj o.B.pr
              generalize os.set j { o with B := o.B.pr } = os3 at W5 hos3 fr3
              refine ⟨_, rfl, L, rfl, ⟨_, SqL.of W5.ls⟩, for_list (K := K) (a := L) (xs := os3.map fun o => V.ref o.r) (fun i σ Hi => Same Hf Hi ∧ ∃ (o4 o5 o6 o7 o8 o9 oa ob oc od oe : Option V), σ = [some (.ref sc), some (.int (0 + (k : Int))), some (.ref b), some (.ref L), o4, o5, o6, o7, o8, o9, oa, ob, oc, od, oe]) ⟨Same.refl _, _, _, _, _, _, _, _, _, _, _, _, rfl⟩ (fun i σ Hi _ ⟨si, _⟩ => si.seq (SqL.of W5.ls)) ?_ ?_⟩
              · rintro y x σ Hi hx ⟨si, p4, p5, p6, p7, p8, p9, pa, pb, pc, pd, pe, rfl⟩
                obtain ⟨o', ho', rfl⟩ := refs_get hx
                have z := (W5.same (E11_stb K) si).on y o' ho'
                refine ⟨o'.r, _, rfl, .rd z.ex.1, rfl, _, _, rfl, _, _, rfl, _, _, rfl, rfl, ?_⟩
                refine ⟨_, rfl, o'.p, rfl, z.bt.no, o'.p, o'.ta, o'.ka, o'.ce, o'.B, rfl, z.bt, fun t1 Hj sj ht1 => ?_⟩
                have zb := z.bt.same sj
                refine ⟨_, rfl, o'.p, rfl, zb.no, o'.p, o'.ta, o'.ka, o'.ce, o'.B, rfl, zb, by show 2 ≤ sizeLine; decide, fun l1 hl1 => ?_⟩
                have v1 := Same.upd (o := .lst [.ref t1, .int o'.B.cnt]) hl1
                have zl := z.la.same (sj.trans v1)
                refine ⟨_, rfl, o'.d, _, rfl, zl.g_cells, o'.lc, _, rfl, .inl ⟨SqL.of zl.cs, fun t2 ht2 => ?_⟩⟩
                have v2 := Same.upd (o := .tup [oV o'.B.x, oV o'.B.y]) ht2
                have zl2 := zl.same v2
                refine ⟨_, rfl, o'.d, _, rfl, zl2.g_count, by show 2 ≤ sizeLine; decide, fun l2 hl2 => ?_⟩
                have v3 := Same.upd (o := .lst [.ref t2, .int o'.B.cnt]) hl2
                refine ⟨_, _, rfl, Eqw.ltwo (v3 _ _ (v2 _ _ upd_same)) upd_same (Eqw.two (.inl (v3 _ _ (v2 _ _ (v1 _ _ ht1)))) (.inl (v3 _ _ upd_same)) (Eqw.cell (n := 0) _) (Eqw.cell _)) (.int _ _), fun Hm sm => ⟨_, rfl, iteF ?_⟩⟩
                exact ⟨((((si.trans sj).trans v1).trans v2).trans v3).trans sm, _, _, _, _, _, _, _, _, _, _, _, rfl⟩
              · rintro σ Hi ⟨si, p4, p5, p6, p7, p8, p9, pa, pb, pc, pd, pe, rfl⟩
                exact ⟨s6.trans si, os3, _, _, _, _, _, _, _, _, _, _, _, fr3, (W5.same (E11_stb K) si).mono (by omega), hos3, rfl⟩
            · -- none left
              have W5 := W2
              have s6 := s50
              have hos3 := hos
              have fr3 := fr
              obtain ⟨Hf, hHf⟩ : ∃ Hf, Hf = Hb := ⟨Hb, rfl⟩
              obtain ⟨os3, hos3'⟩ : ∃ os3, os3 = os := ⟨os, rfl⟩
              rw [← hHf, ← hos3'] at W5
              rw [← hHf] at s6
              rw [← hos3'] at hos3 fr3
              rw [← hHf]
              refine ⟨_, rfl, L, rfl, ⟨_, SqL.of W5.ls⟩, for_list (K := K) (a := L) (xs := os3.map fun o => V.ref o.r) (fun i σ Hi => Same Hf Hi ∧ ∃ (o4 o5 o6 o7 o8 o9 oa ob oc od oe : Option V), σ = [some (.ref sc), some (.int (0 + (k : Int))), some (.ref b), some (.ref L), o4, o5, o6, o7, o8, o9, oa, ob, oc, od, oe]) ⟨Same.refl _, _, _, _, _, _, _, _, _, _, _, _, rfl⟩ (fun i σ Hi _ ⟨si, _⟩ => si.seq (SqL.of W5.ls)) ?_ ?_⟩
              · rintro y x σ Hi hx ⟨si, p4, p5, p6, p7, p8, p9, pa, pb, pc, pd, pe, rfl⟩
                obtain ⟨o', ho', rfl⟩ := refs_get hx
                have z := (W5.same (E11_stb K) si).on y o' ho'
                refine ⟨o'.r, _, rfl, .rd z.ex.1, rfl, _, _, rfl, _, _, rfl, _, _, rfl, rfl, ?_⟩
                refine ⟨_, rfl, o'.p, rfl, z.bt.no, o'.p, o'.ta, o'.ka, o'.ce, o'.B, rfl, z.bt, fun t1 Hj sj ht1 => ?_⟩
                have zb := z.bt.same sj
                refine ⟨_, rfl, o'.p, rfl, zb.no, o'.p, o'.ta, o'.ka, o'.ce, o'.B, rfl, zb, by show 2 ≤ sizeLine; decide, fun l1 hl1 => ?_⟩
                have v1 := Same.upd (o := .lst [.ref t1, .int o'.B.cnt]) hl1
                have zl := z.la.same (sj.trans v1)
                refine ⟨_, rfl, o'.d, _, rfl, zl.g_cells, o'.lc, _, rfl, .inl ⟨SqL.of zl.cs, fun t2 ht2 => ?_⟩⟩
                have v2 := Same.upd (o := .tup [oV o'.B.x, oV o'.B.y]) ht2
                have zl2 := zl.same v2
                refine ⟨_, rfl, o'.d, _, rfl, zl2.g_count, by show 2 ≤ sizeLine; decide, fun l2 hl2 => ?_⟩
                have v3 := Same.upd (o := .lst [.ref t2, .int o'.B.cnt]) hl2
                refine ⟨_, _, rfl, Eqw.ltwo (v3 _ _ (v2 _ _ upd_same)) upd_same (Eqw.two (.inl (v3 _ _ (v2 _ _ (v1 _ _ ht1)))) (.inl (v3 _ _ upd_same)) (Eqw.cell (n := 0) _) (Eqw.cell _)) (.int _ _), fun Hm sm => ⟨_, rfl, iteF ?_⟩⟩
                exact ⟨((((si.trans sj).trans v1).trans v2).trans v3).trans sm, _, _, _, _, _, _, _, _, _, _, _, rfl⟩
              · rintro σ Hi ⟨si, p4, p5, p6, p7, p8, p9, pa, pb, pc, pd, pe, rfl⟩
                exact ⟨s6.trans si, os3, _, _, _, _, _, _, _, _, _, _, _, fr3, (W5.same (E11_stb K) si).mono (by omega), hos3, rfl⟩
        · rintro σ H5 ⟨s5, os, o4, o5, o6, o7, o8, o9, oa, ob, oc, od, oe, fr, W, hos, rfl⟩
          exact ⟨s2.trans s5, _, _, _, _, _, _, _, _, _, _, _, _, _, _, rfl⟩
    · rintro σ H2 ⟨s2, o1, o2, o3, o4, o5, o6, o7, o8, o9, oa, ob, oc, od, oe, rfl⟩
      exact q _
end
theorem all_mk {l : PySem.W.OpenLaw} {w : World} {K : PySem.W.Frag} {h : Heap} {mg : Str → Option Value} {fa : Addr} (X : K.In h) (G : h.Ns mainGlobals mg) (hfa : mg "law" = some (.ref fa))
    {C : Addr} (aC : PySem.W.nsIn K mainGlobals "Button" = some (some (.ref C))) (pg : PySem.W.plainGet K C Str.empty = true) (hd : PySem.W.hasDictIn K C = true) (po : PySem.W.plainOver K C = true) (sa : PySem.W.findIn K (.ref C) "__setattr__" = some (some (.builtin "object.__setattr__"))) (mk : PySem.W.makesIn K C = true) (kc : PySem.W.keepIn K (.ref C) = true)
    (n_name : PySem.W.findIn K (.ref C) "name" = some none)
    (n_table : PySem.W.findIn K (.ref C) "table" = some none)
    (n_key : PySem.W.findIn K (.ref C) "key" = some none)
    (n_age : PySem.W.findIn K (.ref C) "age" = some none)
    (n_step : PySem.W.findIn K (.ref C) "step" = some none)
    (n_next_count : PySem.W.findIn K (.ref C) "next_count" = some none)
    (n_bound : PySem.W.findIn K (.ref C) "bound" = some none)
    (n_cells : PySem.W.findIn K (.ref C) "cells" = some none)
    {f0 : Addr} {od0 an0 : Option Addr} {sl0 : Array (Option Value)} {oc0 kV0 dc0 pm0 cd0 ct0 : Value}
    (a0 : PySem.W.nsIn K mainGlobals "coded" = some (some (.ref f0))) (l0 : K.lookup f0 = some ⟨oc0, od0, .func (PySem.W.fnOf "coded" "coded" (defArgs s_coded) (defBody s_coded) (defScope s_coded) .none kV0 dc0 pm0 an0 cd0 ct0), sl0⟩) (c0 : PySem.W.codeIn K cd0 "coded" = true) (k0 : PySem.W.keepIn K (.ref f0) = true)
    {f1 : Addr} {od1 an1 : Option Addr} {sl1 : Array (Option Value)} {oc1 kV1 dc1 pm1 cd1 ct1 : Value}
    (a1 : PySem.W.nsIn K mainGlobals "letter_digits" = some (some (.ref f1))) (l1 : K.lookup f1 = some ⟨oc1, od1, .func (PySem.W.fnOf "letter_digits" "letter_digits" (defArgs s_letter_digits) (defBody s_letter_digits) (defScope s_letter_digits) .none kV1 dc1 pm1 an1 cd1 ct1), sl1⟩) (c1 : PySem.W.codeIn K cd1 "letter_digits" = true) (k1 : PySem.W.keepIn K (.ref f1) = true)
    {f2 : Addr} {od2 an2 : Option Addr} {sl2 : Array (Option Value)} {oc2 kV2 dc2 pm2 cd2 ct2 : Value}
    (a2 : PySem.W.nsIn K mainGlobals "key_of" = some (some (.ref f2))) (l2 : K.lookup f2 = some ⟨oc2, od2, .func (PySem.W.fnOf "key_of" "key_of" (defArgs s_key_of) (defBody s_key_of) (defScope s_key_of) .none kV2 dc2 pm2 an2 cd2 ct2), sl2⟩) (c2 : PySem.W.codeIn K cd2 "key_of" = true) (k2 : PySem.W.keepIn K (.ref f2) = true)
    {f3 : Addr} {od3 an3 : Option Addr} {sl3 : Array (Option Value)} {oc3 kV3 dc3 pm3 cd3 ct3 : Value}
    (a3 : PySem.W.nsIn K mainGlobals "count_digits" = some (some (.ref f3))) (l3 : K.lookup f3 = some ⟨oc3, od3, .func (PySem.W.fnOf "count_digits" "count_digits" (defArgs s_count_digits) (defBody s_count_digits) (defScope s_count_digits) .none kV3 dc3 pm3 an3 cd3 ct3), sl3⟩) (c3 : PySem.W.codeIn K cd3 "count_digits" = true) (k3 : PySem.W.keepIn K (.ref f3) = true)
    {f4 : Addr} {od4 an4 : Option Addr} {sl4 : Array (Option Value)} {oc4 kV4 dc4 pm4 cd4 ct4 : Value}
    (a4 : PySem.W.nsIn K mainGlobals "press_of" = some (some (.ref f4))) (l4 : K.lookup f4 = some ⟨oc4, od4, .func (PySem.W.fnOf "press_of" "press_of" (defArgs s_press_of) (defBody s_press_of) (defScope s_press_of) .none kV4 dc4 pm4 an4 cd4 ct4), sl4⟩) (c4 : PySem.W.codeIn K cd4 "press_of" = true) (k4 : PySem.W.keepIn K (.ref f4) = true)
    {f5 : Addr} {od5 an5 : Option Addr} {sl5 : Array (Option Value)} {oc5 kV5 dc5 pm5 cd5 ct5 : Value}
    (a5 : PySem.W.findIn K (.ref C) "__init__" = some (some (.ref f5))) (i5 : PySem.W.isFn K (.ref f5) = true) (l5 : K.lookup f5 = some ⟨oc5, od5, .func (PySem.W.fnOf "__init__" "Button.__init__" (defArgs s_Button___init) (defBody s_Button___init) (defScope s_Button___init) .none kV5 dc5 pm5 an5 cd5 ct5), sl5⟩) (c5 : PySem.W.codeIn K cd5 "Button.__init__" = true) (k5 : PySem.W.keepIn K (.ref f5) = true)
    {f6 : Addr} {od6 an6 : Option Addr} {sl6 : Array (Option Value)} {oc6 kV6 dc6 pm6 cd6 ct6 : Value}
    (a6 : PySem.W.findIn K (.ref C) "is_worn" = some (some (.ref f6))) (i6 : PySem.W.isFn K (.ref f6) = true) (l6 : K.lookup f6 = some ⟨oc6, od6, .func (PySem.W.fnOf "is_worn" "Button.is_worn" (defArgs s_Button_is_worn) (defBody s_Button_is_worn) (defScope s_Button_is_worn) .none kV6 dc6 pm6 an6 cd6 ct6), sl6⟩) (c6 : PySem.W.codeIn K cd6 "Button.is_worn" = true) (k6 : PySem.W.keepIn K (.ref f6) = true)
    {f7 : Addr} {od7 an7 : Option Addr} {sl7 : Array (Option Value)} {oc7 kV7 dc7 pm7 cd7 ct7 : Value}
    (a7 : PySem.W.findIn K (.ref C) "must_write" = some (some (.ref f7))) (i7 : PySem.W.isFn K (.ref f7) = true) (l7 : K.lookup f7 = some ⟨oc7, od7, .func (PySem.W.fnOf "must_write" "Button.must_write" (defArgs s_Button_must_write) (defBody s_Button_must_write) (defScope s_Button_must_write) .none kV7 dc7 pm7 an7 cd7 ct7), sl7⟩) (c7 : PySem.W.codeIn K cd7 "Button.must_write" = true) (k7 : PySem.W.keepIn K (.ref f7) = true)
    {f8 : Addr} {od8 an8 : Option Addr} {sl8 : Array (Option Value)} {oc8 kV8 dc8 pm8 cd8 ct8 : Value}
    (a8 : PySem.W.findIn K (.ref C) "spare_cell" = some (some (.ref f8))) (i8 : PySem.W.isFn K (.ref f8) = true) (l8 : K.lookup f8 = some ⟨oc8, od8, .func (PySem.W.fnOf "spare_cell" "Button.spare_cell" (defArgs s_Button_spare_cell) (defBody s_Button_spare_cell) (defScope s_Button_spare_cell) .none kV8 dc8 pm8 an8 cd8 ct8), sl8⟩) (c8 : PySem.W.codeIn K cd8 "Button.spare_cell" = true) (k8 : PySem.W.keepIn K (.ref f8) = true)
    {f9 : Addr} {od9 an9 : Option Addr} {sl9 : Array (Option Value)} {oc9 kV9 dc9 pm9 cd9 ct9 : Value}
    (a9 : PySem.W.findIn K (.ref C) "write_bound" = some (some (.ref f9))) (i9 : PySem.W.isFn K (.ref f9) = true) (l9 : K.lookup f9 = some ⟨oc9, od9, .func (PySem.W.fnOf "write_bound" "Button.write_bound" (defArgs s_Button_write_bound) (defBody s_Button_write_bound) (defScope s_Button_write_bound) .none kV9 dc9 pm9 an9 cd9 ct9), sl9⟩) (c9 : PySem.W.codeIn K cd9 "Button.write_bound" = true) (k9 : PySem.W.keepIn K (.ref f9) = true)
    {f10 : Addr} {od10 an10 : Option Addr} {sl10 : Array (Option Value)} {oc10 kV10 dc10 pm10 cd10 ct10 : Value}
    (a10 : PySem.W.findIn K (.ref C) "press_once" = some (some (.ref f10))) (i10 : PySem.W.isFn K (.ref f10) = true) (l10 : K.lookup f10 = some ⟨oc10, od10, .func (PySem.W.fnOf "press_once" "Button.press_once" (defArgs s_Button_press_once) (defBody s_Button_press_once) (defScope s_Button_press_once) .none kV10 dc10 pm10 an10 cd10 ct10), sl10⟩) (c10 : PySem.W.codeIn K cd10 "Button.press_once" = true) (k10 : PySem.W.keepIn K (.ref f10) = true)
    {f11 : Addr} {od11 an11 : Option Addr} {sl11 : Array (Option Value)} {oc11 kV11 dc11 pm11 cd11 ct11 : Value}
    (a11 : PySem.W.findIn K (.ref C) "cell_out" = some (some (.ref f11))) (i11 : PySem.W.isFn K (.ref f11) = true) (l11 : K.lookup f11 = some ⟨oc11, od11, .func (PySem.W.fnOf "cell_out" "Button.cell_out" (defArgs s_Button_cell_out) (defBody s_Button_cell_out) (defScope s_Button_cell_out) .none kV11 dc11 pm11 an11 cd11 ct11), sl11⟩) (c11 : PySem.W.codeIn K cd11 "Button.cell_out" = true) (k11 : PySem.W.keepIn K (.ref f11) = true)
    {f12 : Addr} {od12 an12 : Option Addr} {sl12 : Array (Option Value)} {oc12 kV12 dc12 pm12 cd12 ct12 : Value}
    (a12 : PySem.W.findIn K (.ref C) "count_now" = some (some (.ref f12))) (i12 : PySem.W.isFn K (.ref f12) = true) (l12 : K.lookup f12 = some ⟨oc12, od12, .func (PySem.W.fnOf "count_now" "Button.count_now" (defArgs s_Button_count_now) (defBody s_Button_count_now) (defScope s_Button_count_now) .none kV12 dc12 pm12 an12 cd12 ct12), sl12⟩) (c12 : PySem.W.codeIn K cd12 "Button.count_now" = true) (k12 : PySem.W.keepIn K (.ref f12) = true)
    {f13 : Addr} {od13 an13 : Option Addr} {sl13 : Array (Option Value)} {oc13 kV13 dc13 pm13 cd13 ct13 : Value}
    (a13 : PySem.W.findIn K (.ref C) "cells_now" = some (some (.ref f13))) (i13 : PySem.W.isFn K (.ref f13) = true) (l13 : K.lookup f13 = some ⟨oc13, od13, .func (PySem.W.fnOf "cells_now" "Button.cells_now" (defArgs s_Button_cells_now) (defBody s_Button_cells_now) (defScope s_Button_cells_now) .none kV13 dc13 pm13 an13 cd13 ct13), sl13⟩) (c13 : PySem.W.codeIn K cd13 "Button.cells_now" = true) (k13 : PySem.W.keepIn K (.ref f13) = true)
    {f14 : Addr} {od14 an14 : Option Addr} {sl14 : Array (Option Value)} {oc14 kV14 dc14 pm14 cd14 ct14 : Value}
    (a14 : PySem.W.nsIn K mainGlobals "_law_box" = some (some (.ref f14))) (l14 : K.lookup f14 = some ⟨oc14, od14, .func (PySem.W.fnOf "_law_box" "_law_box" (defArgs s_law_box) (defBody s_law_box) (defScope s_law_box) .none kV14 dc14 pm14 an14 cd14 ct14), sl14⟩) (c14 : PySem.W.codeIn K cd14 "_law_box" = true) (k14 : PySem.W.keepIn K (.ref f14) = true)
    {f15 : Addr} {od15 an15 : Option Addr} {sl15 : Array (Option Value)} {oc15 kV15 dc15 pm15 cd15 ct15 : Value}
    (a15 : PySem.W.nsIn K mainGlobals "_law_take" = some (some (.ref f15))) (l15 : K.lookup f15 = some ⟨oc15, od15, .func (PySem.W.fnOf "_law_take" "_law_take" (defArgs s_law_take) (defBody s_law_take) (defScope s_law_take) .none kV15 dc15 pm15 an15 cd15 ct15), sl15⟩) (c15 : PySem.W.codeIn K cd15 "_law_take" = true) (k15 : PySem.W.keepIn K (.ref f15) = true)
    {f16 : Addr} {od16 an16 : Option Addr} {sl16 : Array (Option Value)} {oc16 kV16 dc16 pm16 cd16 ct16 : Value}
    (a16 : PySem.W.nsIn K mainGlobals "_law_table" = some (some (.ref f16))) (l16 : K.lookup f16 = some ⟨oc16, od16, .func (PySem.W.fnOf "_law_table" "_law_table" (defArgs s_law_table) (defBody s_law_table) (defScope s_law_table) .none kV16 dc16 pm16 an16 cd16 ct16), sl16⟩) (c16 : PySem.W.codeIn K cd16 "_law_table" = true) (k16 : PySem.W.keepIn K (.ref f16) = true)
    {f17 : Addr} {od17 an17 : Option Addr} {sl17 : Array (Option Value)} {oc17 kV17 dc17 pm17 cd17 ct17 : Value}
    (a17 : PySem.W.nsIn K mainGlobals "_law_key" = some (some (.ref f17))) (l17 : K.lookup f17 = some ⟨oc17, od17, .func (PySem.W.fnOf "_law_key" "_law_key" (defArgs s_law_key) (defBody s_law_key) (defScope s_law_key) .none kV17 dc17 pm17 an17 cd17 ct17), sl17⟩) (c17 : PySem.W.codeIn K cd17 "_law_key" = true) (k17 : PySem.W.keepIn K (.ref f17) = true)
    {f18 : Addr} {od18 an18 : Option Addr} {sl18 : Array (Option Value)} {oc18 kV18 dc18 pm18 cd18 ct18 : Value}
    (a18 : PySem.W.nsIn K mainGlobals "_law_name" = some (some (.ref f18))) (l18 : K.lookup f18 = some ⟨oc18, od18, .func (PySem.W.fnOf "_law_name" "_law_name" (defArgs s_law_name) (defBody s_law_name) (defScope s_law_name) .none kV18 dc18 pm18 an18 cd18 ct18), sl18⟩) (c18 : PySem.W.codeIn K cd18 "_law_name" = true) (k18 : PySem.W.keepIn K (.ref f18) = true)
    {f19 : Addr} {od19 an19 : Option Addr} {sl19 : Array (Option Value)} {oc19 kV19 dc19 pm19 cd19 ct19 : Value}
    (a19 : PySem.W.nsIn K mainGlobals "_law_begun" = some (some (.ref f19))) (l19 : K.lookup f19 = some ⟨oc19, od19, .func (PySem.W.fnOf "_law_begun" "_law_begun" (defArgs s_law_begun) (defBody s_law_begun) (defScope s_law_begun) .none kV19 dc19 pm19 an19 cd19 ct19), sl19⟩) (c19 : PySem.W.codeIn K cd19 "_law_begun" = true) (k19 : PySem.W.keepIn K (.ref f19) = true)
    {f20 : Addr} {od20 an20 : Option Addr} {sl20 : Array (Option Value)} {oc20 kV20 dc20 pm20 cd20 ct20 : Value}
    (a20 : PySem.W.nsIn K mainGlobals "_law_pressed" = some (some (.ref f20))) (l20 : K.lookup f20 = some ⟨oc20, od20, .func (PySem.W.fnOf "_law_pressed" "_law_pressed" (defArgs s_law_pressed) (defBody s_law_pressed) (defScope s_law_pressed) .none kV20 dc20 pm20 an20 cd20 ct20), sl20⟩) (c20 : PySem.W.codeIn K cd20 "_law_pressed" = true) (k20 : PySem.W.keepIn K (.ref f20) = true)
    {f21 : Addr} {od21 an21 : Option Addr} {sl21 : Array (Option Value)} {oc21 kV21 dc21 pm21 cd21 ct21 : Value}
    (a21 : PySem.W.nsIn K mainGlobals "_law_out" = some (some (.ref f21))) (l21 : K.lookup f21 = some ⟨oc21, od21, .func (PySem.W.fnOf "_law_out" "_law_out" (defArgs s_law_out) (defBody s_law_out) (defScope s_law_out) .none kV21 dc21 pm21 an21 cd21 ct21), sl21⟩) (c21 : PySem.W.codeIn K cd21 "_law_out" = true) (k21 : PySem.W.keepIn K (.ref f21) = true)
    {f22 : Addr} {od22 an22 : Option Addr} {sl22 : Array (Option Value)} {oc22 kV22 dc22 pm22 cd22 ct22 : Value}
    (a22 : PySem.W.nsIn K mainGlobals "_law_alike" = some (some (.ref f22))) (l22 : K.lookup f22 = some ⟨oc22, od22, .func (PySem.W.fnOf "_law_alike" "_law_alike" (defArgs s_law_alike) (defBody s_law_alike) (defScope s_law_alike) .none kV22 dc22 pm22 an22 cd22 ct22), sl22⟩) (c22 : PySem.W.codeIn K cd22 "_law_alike" = true) (k22 : PySem.W.keepIn K (.ref f22) = true)
    {f23 : Addr} {od23 an23 : Option Addr} {sl23 : Array (Option Value)} {oc23 kV23 dc23 pm23 cd23 ct23 : Value}
    (a23 : PySem.W.nsIn K mainGlobals "law" = some (some (.ref f23))) (l23 : K.lookup f23 = some ⟨oc23, od23, .func (PySem.W.fnOf "law" "law" (defArgs s_law) (defBody s_law) (defScope s_law) .none kV23 dc23 pm23 an23 cd23 ct23), sl23⟩) (c23 : PySem.W.codeIn K cd23 "law" = true) (k23 : PySem.W.keepIn K (.ref f23) = true)
    {t0 : Tok} (yg0 : PySem.W.nsIn K mainGlobals "DIGITS" = some (some (.int 16 t0)))
    {t1 : Tok} (yg1 : PySem.W.nsIn K mainGlobals "KEY_PLACES" = some (some (.int 4 t1)))
    {t2 : Tok} (yg2 : PySem.W.nsIn K mainGlobals "COUNTS" = some (some (.int 4096 t2)))
    (z0 : PySem.W.nsIn K mainGlobals "isinstance" = some none)
    (z1 : PySem.W.nsIn K mainGlobals "bool" = some none)
    (z2 : PySem.W.nsIn K mainGlobals "int" = some none)
    (z3 : PySem.W.nsIn K mainGlobals "tuple" = some none)
    (z4 : PySem.W.nsIn K mainGlobals "all" = some none)
    (z5 : PySem.W.nsIn K mainGlobals "len" = some none)
    (z6 : PySem.W.nsIn K mainGlobals "abs" = some none)
    (z7 : PySem.W.nsIn K mainGlobals "list" = some none)
    (z8 : PySem.W.nsIn K mainGlobals "range" = some none)
    (z9 : PySem.W.nsIn K mainGlobals "str" = some none)
    (z10 : PySem.W.nsIn K mainGlobals "zip" = some none)
    (z11 : PySem.W.nsIn K mainGlobals "ord" = some none)
    (z12 : PySem.W.nsIn K mainGlobals "sum" = some none)
    (z13 : PySem.W.nsIn K mainGlobals "min" = some none)
    (z14 : PySem.W.nsIn K mainGlobals "enumerate" = some none)
    (z15 : PySem.W.nsIn K mainGlobals "max" = some none) :
    ∃ fd : FuncData, (∀ (s : Shared) (v : Value), BindsTo s fd ⟨[v], []⟩ [("_law_script", v)]) ∧ ∀ base : Heap, K.In base → base.Ns mainGlobals mg → FnOk l.prog w K mg base CX0 6 fa fd ["_law_script"] (spLaw K) := by
  have e := hfa.symm.trans (PySem.W.mg_of X G a23)
  cases e
  have T : Txt K mg (fun i => if i = 0 then t0 else if i = 1 then t1 else if i = 2 then t2 else 0) := ⟨PySem.W.mg_of X G yg0, PySem.W.mg_of X G yg1, PySem.W.mg_of X G yg2, PySem.W.mg_none_of X G z0, PySem.W.mg_none_of X G z1, PySem.W.mg_none_of X G z2, PySem.W.mg_none_of X G z3, PySem.W.mg_none_of X G z4, PySem.W.mg_none_of X G z5, PySem.W.mg_none_of X G z6, PySem.W.mg_none_of X G z7, PySem.W.mg_none_of X G z8, PySem.W.mg_none_of X G z9, PySem.W.mg_none_of X G z10, PySem.W.mg_none_of X G z11, PySem.W.mg_none_of X G z12, PySem.W.mg_none_of X G z13, PySem.W.mg_none_of X G z14, PySem.W.mg_none_of X G z15⟩
  have F0 := fun_mk (st := s_coded) l0 c0 k0
  have b0 := F0.binds (ps := ["table", "key", "digits"]) fun _ _ _ _ _ _ us hl => match us, hl with | [_, _, _], _ => rfl
  have A0 : At K mg "coded" s_coded ["table", "key", "digits"] := at_mk F0 (PySem.W.mg_of X G a0) b0
  have F1 := fun_mk (st := s_letter_digits) l1 c1 k1
  have b1 := F1.binds (ps := ["name"]) fun _ _ _ _ _ _ us hl => match us, hl with | [_], _ => rfl
  have A1 : At K mg "letter_digits" s_letter_digits ["name"] := at_mk F1 (PySem.W.mg_of X G a1) b1
  have F2 := fun_mk (st := s_key_of) l2 c2 k2
  have b2 := F2.binds (ps := ["table", "key", "name"]) fun _ _ _ _ _ _ us hl => match us, hl with | [_, _, _], _ => rfl
  have A2 : At K mg "key_of" s_key_of ["table", "key", "name"] := at_mk F2 (PySem.W.mg_of X G a2) b2
  have F3 := fun_mk (st := s_count_digits) l3 c3 k3
  have b3 := F3.binds (ps := ["count"]) fun _ _ _ _ _ _ us hl => match us, hl with | [_], _ => rfl
  have A3 : At K mg "count_digits" s_count_digits ["count"] := at_mk F3 (PySem.W.mg_of X G a3) b3
  have F4 := fun_mk (st := s_press_of) l4 c4 k4
  have b4 := F4.binds (ps := ["table", "key", "name", "age", "count", "deed"]) fun _ _ _ _ _ _ us hl => match us, hl with | [_, _, _, _, _, _], _ => rfl
  have A4 : At K mg "press_of" s_press_of ["table", "key", "name", "age", "count", "deed"] := at_mk F4 (PySem.W.mg_of X G a4) b4
  have F5 := fun_mk (st := s_Button___init) l5 c5 k5
  have b5 := F5.binds (ps := ["self", "name", "table", "key", "age", "step"]) fun _ _ _ _ _ _ us hl => match us, hl with | [_, _, _, _, _, _], _ => rfl
  have A5 : AtM K C "__init__" "Button.__init__" s_Button___init ["self", "name", "table", "key", "age", "step"] := ⟨_, _, F5, ⟨a5, i5, k5⟩, b5⟩
  have F6 := fun_mk (st := s_Button_is_worn) l6 c6 k6
  have b6 := F6.binds (ps := ["self"]) fun _ _ _ _ _ _ us hl => match us, hl with | [_], _ => rfl
  have A6 : AtM K C "is_worn" "Button.is_worn" s_Button_is_worn ["self"] := ⟨_, _, F6, ⟨a6, i6, k6⟩, b6⟩
  have F7 := fun_mk (st := s_Button_must_write) l7 c7 k7
  have b7 := F7.binds (ps := ["self"]) fun _ _ _ _ _ _ us hl => match us, hl with | [_], _ => rfl
  have A7 : AtM K C "must_write" "Button.must_write" s_Button_must_write ["self"] := ⟨_, _, F7, ⟨a7, i7, k7⟩, b7⟩
  have F8 := fun_mk (st := s_Button_spare_cell) l8 c8 k8
  have b8 := F8.binds (ps := ["self"]) fun _ _ _ _ _ _ us hl => match us, hl with | [_], _ => rfl
  have A8 : AtM K C "spare_cell" "Button.spare_cell" s_Button_spare_cell ["self"] := ⟨_, _, F8, ⟨a8, i8, k8⟩, b8⟩
  have F9 := fun_mk (st := s_Button_write_bound) l9 c9 k9
  have b9 := F9.binds (ps := ["self"]) fun _ _ _ _ _ _ us hl => match us, hl with | [_], _ => rfl
  have A9 : AtM K C "write_bound" "Button.write_bound" s_Button_write_bound ["self"] := ⟨_, _, F9, ⟨a9, i9, k9⟩, b9⟩
  have F10 := fun_mk (st := s_Button_press_once) l10 c10 k10
  have b10 := F10.binds (ps := ["self", "deed"]) fun _ _ _ _ _ _ us hl => match us, hl with | [_, _], _ => rfl
  have A10 : AtM K C "press_once" "Button.press_once" s_Button_press_once ["self", "deed"] := ⟨_, _, F10, ⟨a10, i10, k10⟩, b10⟩
  have F11 := fun_mk (st := s_Button_cell_out) l11 c11 k11
  have b11 := F11.binds (ps := ["self"]) fun _ _ _ _ _ _ us hl => match us, hl with | [_], _ => rfl
  have A11 : AtM K C "cell_out" "Button.cell_out" s_Button_cell_out ["self"] := ⟨_, _, F11, ⟨a11, i11, k11⟩, b11⟩
  have F12 := fun_mk (st := s_Button_count_now) l12 c12 k12
  have b12 := F12.binds (ps := ["self"]) fun _ _ _ _ _ _ us hl => match us, hl with | [_], _ => rfl
  have A12 : AtM K C "count_now" "Button.count_now" s_Button_count_now ["self"] := ⟨_, _, F12, ⟨a12, i12, k12⟩, b12⟩
  have F13 := fun_mk (st := s_Button_cells_now) l13 c13 k13
  have b13 := F13.binds (ps := ["self"]) fun _ _ _ _ _ _ us hl => match us, hl with | [_], _ => rfl
  have A13 : AtM K C "cells_now" "Button.cells_now" s_Button_cells_now ["self"] := ⟨_, _, F13, ⟨a13, i13, k13⟩, b13⟩
  have F14 := fun_mk (st := s_law_box) l14 c14 k14
  have b14 := F14.binds (ps := ["_law_script", "_law_k"]) fun _ _ _ _ _ _ us hl => match us, hl with | [_, _], _ => rfl
  have A14 : At K mg "_law_box" s_law_box ["_law_script", "_law_k"] := at_mk F14 (PySem.W.mg_of X G a14) b14
  have F15 := fun_mk (st := s_law_take) l15 c15 k15
  have b15 := F15.binds (ps := ["_law_box_here", "_law_many"]) fun _ _ _ _ _ _ us hl => match us, hl with | [_, _], _ => rfl
  have A15 : At K mg "_law_take" s_law_take ["_law_box_here", "_law_many"] := at_mk F15 (PySem.W.mg_of X G a15) b15
  have F16 := fun_mk (st := s_law_table) l16 c16 k16
  have b16 := F16.binds (ps := ["_law_box_here"]) fun _ _ _ _ _ _ us hl => match us, hl with | [_], _ => rfl
  have A16 : At K mg "_law_table" s_law_table ["_law_box_here"] := at_mk F16 (PySem.W.mg_of X G a16) b16
  have F17 := fun_mk (st := s_law_key) l17 c17 k17
  have b17 := F17.binds (ps := ["_law_box_here"]) fun _ _ _ _ _ _ us hl => match us, hl with | [_], _ => rfl
  have A17 : At K mg "_law_key" s_law_key ["_law_box_here"] := at_mk F17 (PySem.W.mg_of X G a17) b17
  have F18 := fun_mk (st := s_law_name) l18 c18 k18
  have b18 := F18.binds (ps := ["_law_box_here"]) fun _ _ _ _ _ _ us hl => match us, hl with | [_], _ => rfl
  have A18 : At K mg "_law_name" s_law_name ["_law_box_here"] := at_mk F18 (PySem.W.mg_of X G a18) b18
  have F19 := fun_mk (st := s_law_begun) l19 c19 k19
  have b19 := F19.binds (ps := ["_law_step"]) fun _ _ _ _ _ _ us hl => match us, hl with | [_], _ => rfl
  have A19 : At K mg "_law_begun" s_law_begun ["_law_step"] := at_mk F19 (PySem.W.mg_of X G a19) b19
  have F20 := fun_mk (st := s_law_pressed) l20 c20 k20
  have b20 := F20.binds (ps := ["_law_own"]) fun _ _ _ _ _ _ us hl => match us, hl with | [_], _ => rfl
  have A20 : At K mg "_law_pressed" s_law_pressed ["_law_own"] := at_mk F20 (PySem.W.mg_of X G a20) b20
  have F21 := fun_mk (st := s_law_out) l21 c21 k21
  have b21 := F21.binds (ps := ["_law_own"]) fun _ _ _ _ _ _ us hl => match us, hl with | [_], _ => rfl
  have A21 : At K mg "_law_out" s_law_out ["_law_own"] := at_mk F21 (PySem.W.mg_of X G a21) b21
  have F22 := fun_mk (st := s_law_alike) l22 c22 k22
  have b22 := F22.binds (ps := ["_law_found", "_law_due"]) fun _ _ _ _ _ _ us hl => match us, hl with | [_, _], _ => rfl
  have A22 : At K mg "_law_alike" s_law_alike ["_law_found", "_law_due"] := at_mk F22 (PySem.W.mg_of X G a22) b22
  have F23 := fun_mk (st := s_law) l23 c23 k23
  refine ⟨PySem.W.fnOf "law" "law" (defArgs s_law) (defBody s_law) (defScope s_law) .none kV23 dc23 pm23 an23 cd23 ct23, fun s v => .of_eq rfl, fun base _ _ => ?_⟩
  have U : BCx K C := ⟨⟨pg, hd, po, sa⟩, n_name, n_table, n_key, n_age, n_step, n_next_count, n_bound, n_cells⟩
  have D_coded := ok_coded (P := l.prog) (w := w) (base := base) A0 T
  have D_letter_digits := ok_letter_digits (P := l.prog) (w := w) (base := base) A1 T
  have D_key_of := ok_key_of (P := l.prog) (w := w) (base := base) A2 T D_letter_digits D_coded
  have D_count_digits := ok_count_digits (P := l.prog) (w := w) (base := base) A3 T
  have D_press_of := ok_press_of (P := l.prog) (w := w) (base := base) A4 T D_count_digits D_key_of D_coded
  have D_Button___init := ok_Button___init (P := l.prog) (w := w) (base := base) A5 T U
  have I_Button := D_Button___init.mi mk kc (PySem.W.mg_of X G aC)
  have D_Button_is_worn := ok_Button_is_worn (P := l.prog) (w := w) (base := base) A6 T U
  have D_Button_must_write := ok_Button_must_write (P := l.prog) (w := w) (base := base) A7 T U D_Button_is_worn
  have D_Button_spare_cell := ok_Button_spare_cell (P := l.prog) (w := w) (base := base) A8 T U
  have D_Button_write_bound := ok_Button_write_bound (P := l.prog) (w := w) (base := base) A9 T U D_Button_spare_cell
  have D_Button_press_once := ok_Button_press_once (P := l.prog) (w := w) (base := base) A10 T U D_Button_is_worn D_Button_must_write D_Button_write_bound D_press_of
  have D_Button_cell_out := ok_Button_cell_out (P := l.prog) (w := w) (base := base) A11 T U
  have D_Button_count_now := ok_Button_count_now (P := l.prog) (w := w) (base := base) A12 T U
  have D_Button_cells_now := ok_Button_cells_now (P := l.prog) (w := w) (base := base) A13 T U
  have D_law_box := ok_law_box (P := l.prog) (w := w) (base := base) A14 T
  have D_law_take := ok_law_take (P := l.prog) (w := w) (base := base) A15 T
  have D_law_table := ok_law_table (P := l.prog) (w := w) (base := base) A16 T D_law_take
  have D_law_key := ok_law_key (P := l.prog) (w := w) (base := base) A17 T D_law_take
  have D_law_name := ok_law_name (P := l.prog) (w := w) (base := base) A18 T D_law_take
  have D_law_begun := ok_law_begun (P := l.prog) (w := w) (base := base) A19 T
  have D_law_pressed := ok_law_pressed (P := l.prog) (w := w) (base := base) A20 T
  have D_law_out := ok_law_out (P := l.prog) (w := w) (base := base) A21 T
  have D_law_alike := ok_law_alike (P := l.prog) (w := w) (base := base) A22 T
  exact ok_law F23 T U I_Button D_Button_press_once D_Button_cell_out D_Button_count_now D_Button_cells_now D_press_of D_law_box D_law_take D_law_table D_law_key D_law_name D_law_begun D_law_pressed D_law_out D_law_alike
theorem walk {l : PySem.W.OpenLaw} {q : Program} {loose : List Str} {XP : (Str → Option Value) → Heap → Prop} {YP : World → Heap → Prop} {d : DefRec} {K : Params → PySem.W.Frag} (hn : l.most = some 63) (hdf : d.params.defaults = [])
    (hY : ∀ (w : World) (h : Heap), YP w h → (K w.params).In h)
    (F : ∀ (w : World) (mg : Str → Option Value) (fa : Addr) (h : Heap), (K w.params).In h → h.Ns mainGlobals mg → mg d.name = some (.ref fa) →
      ∃ fd : FuncData, (∀ (s : Shared) (u : Value), BindsTo s fd ⟨[u], []⟩ [("_law_script", u)]) ∧ ∀ base : Heap, (K w.params).In base → base.Ns mainGlobals mg → FnOk l.prog w (K w.params) mg base CX0 6 fa fd ["_law_script"] (spLaw (K w.params))) :
    PySem.W.WalkO q loose XP YP l.row.toRowW d [] (fun f vs => PySem.call f vs) :=
  L2.walk_of (n := 63) (k := 6) (x := "_law_script") (CX := fun _ => CX0) (sp := fun w => spLaw (K w.params)) hn (by decide) hdf ⟨rfl, by decide, by decide⟩ hY F (fun _ _ a ns hl _ hS => ⟨a, ns, rfl, hS, hl, fun _ => rfl⟩) fun _ _ _ _ _ z => z
end Lw
open PySem PySem.W PyProof.Rows
set_option maxRecDepth 100000 in
set_option maxHeartbeats 0 in
theorem PySem.Challenge.cw_rollcode_k11_cells_that_were_out_holds : PySem.Challenge.rw_rollcode_k11_cells_that_were_out.Holds := by
  w_on; o_law; k_head; (case hw => w_witness2)
  k_fill
  refine Lw.walk (l := PySem.Challenge.rw_rollcode_k11_cells_that_were_out) rfl rfl (fun w h Y => PySem.W.kIn_of Y) ?F
  case F =>
    intro w mg fa h KX G hmg
    refine' Lw.all_mk KX G hmg ?aC ?pg ?hd ?po ?sa ?mk ?kc ?n_name ?n_table ?n_key ?n_age ?n_step ?n_next_count ?n_bound ?n_cells ?a0 ?l0 ?c0 ?k0 ?a1 ?l1 ?c1 ?k1 ?a2 ?l2 ?c2 ?k2 ?a3 ?l3 ?c3 ?k3 ?a4 ?l4 ?c4 ?k4 ?a5 ?i5 ?l5 ?c5 ?k5 ?a6 ?i6 ?l6 ?c6 ?k6 ?a7 ?i7 ?l7 ?c7 ?k7 ?a8 ?i8 ?l8 ?c8 ?k8 ?a9 ?i9 ?l9 ?c9 ?k9 ?a10 ?i10 ?l10 ?c10 ?k10 ?a11 ?i11 ?l11 ?c11 ?k11 ?a12 ?i12 ?l12 ?c12 ?k12 ?a13 ?i13 ?l13 ?c13 ?k13 ?a14 ?l14 ?c14 ?k14 ?a15 ?l15 ?c15 ?k15 ?a16 ?l16 ?c16 ?k16 ?a17 ?l17 ?c17 ?k17 ?a18 ?l18 ?c18 ?k18 ?a19 ?l19 ?c19 ?k19 ?a20 ?l20 ?c20 ?k20 ?a21 ?l21 ?c21 ?k21 ?a22 ?l22 ?c22 ?k22 ?a23 ?l23 ?c23 ?k23 ?yg0 ?yg1 ?yg2 ?z0 ?z1 ?z2 ?z3 ?z4 ?z5 ?z6 ?z7 ?z8 ?z9 ?z10 ?z11 ?z12 ?z13 ?z14 ?z15
    (case aC => k_is)
    (case pg => k_is)
    (case hd => k_is)
    (case po => k_is)
    (case sa => k_is)
    (case mk => k_is)
    (case kc => k_is)
    (case n_name => k_is)
    (case n_table => k_is)
    (case n_key => k_is)
    (case n_age => k_is)
    (case n_step => k_is)
    (case n_next_count => k_is)
    (case n_bound => k_is)
    (case n_cells => k_is)
    (case a0 => k_is)
    (case l0 => k_is)
    (case c0 => k_is)
    (case k0 => k_is)
    (case a1 => k_is)
    (case l1 => k_is)
    (case c1 => k_is)
    (case k1 => k_is)
    (case a2 => k_is)
    (case l2 => k_is)
    (case c2 => k_is)
    (case k2 => k_is)
    (case a3 => k_is)
    (case l3 => k_is)
    (case c3 => k_is)
    (case k3 => k_is)
    (case a4 => k_is)
    (case l4 => k_is)
    (case c4 => k_is)
    (case k4 => k_is)
    (case a5 => k_is)
    (case i5 => k_is)
    (case l5 => k_is)
    (case c5 => k_is)
    (case k5 => k_is)
    (case a6 => k_is)
    (case i6 => k_is)
    (case l6 => k_is)
    (case c6 => k_is)
    (case k6 => k_is)
    (case a7 => k_is)
    (case i7 => k_is)
    (case l7 => k_is)
    (case c7 => k_is)
    (case k7 => k_is)
    (case a8 => k_is)
    (case i8 => k_is)
    (case l8 => k_is)
    (case c8 => k_is)
    (case k8 => k_is)
    (case a9 => k_is)
    (case i9 => k_is)
    (case l9 => k_is)
    (case c9 => k_is)
    (case k9 => k_is)
    (case a10 => k_is)
    (case i10 => k_is)
    (case l10 => k_is)
    (case c10 => k_is)
    (case k10 => k_is)
    (case a11 => k_is)
    (case i11 => k_is)
    (case l11 => k_is)
    (case c11 => k_is)
    (case k11 => k_is)
    (case a12 => k_is)
    (case i12 => k_is)
    (case l12 => k_is)
    (case c12 => k_is)
    (case k12 => k_is)
    (case a13 => k_is)
    (case i13 => k_is)
    (case l13 => k_is)
    (case c13 => k_is)
    (case k13 => k_is)
    (case a14 => k_is)
    (case l14 => k_is)
    (case c14 => k_is)
    (case k14 => k_is)
    (case a15 => k_is)
    (case l15 => k_is)
    (case c15 => k_is)
    (case k15 => k_is)
    (case a16 => k_is)
    (case l16 => k_is)
    (case c16 => k_is)
    (case k16 => k_is)
    (case a17 => k_is)
    (case l17 => k_is)
    (case c17 => k_is)
    (case k17 => k_is)
    (case a18 => k_is)
    (case l18 => k_is)
    (case c18 => k_is)
    (case k18 => k_is)
    (case a19 => k_is)
    (case l19 => k_is)
    (case c19 => k_is)
    (case k19 => k_is)
    (case a20 => k_is)
    (case l20 => k_is)
    (case c20 => k_is)
    (case k20 => k_is)
    (case a21 => k_is)
    (case l21 => k_is)
    (case c21 => k_is)
    (case k21 => k_is)
    (case a22 => k_is)
    (case l22 => k_is)
    (case c22 => k_is)
    (case k22 => k_is)
    (case a23 => k_is)
    (case l23 => k_is)
    (case c23 => k_is)
    (case k23 => k_is)
    (case yg0 => k_is)
    (case yg1 => k_is)
    (case yg2 => k_is)
    (case z0 => k_is)
    (case z1 => k_is)
    (case z2 => k_is)
    (case z3 => k_is)
    (case z4 => k_is)
    (case z5 => k_is)
    (case z6 => k_is)
    (case z7 => k_is)
    (case z8 => k_is)
    (case z9 => k_is)
    (case z10 => k_is)
    (case z11 => k_is)
    (case z12 => k_is)
    (case z13 => k_is)
    (case z14 => k_is)
    (case z15 => k_is)
