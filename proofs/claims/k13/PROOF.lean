import PyProof.Rows.All
import Wide.All
import OpenK.AllK
import Wide.FinOn
import Lean
import PyProof.EqAt
import PyProof.EqKinds
import PyProof.TupleCall
import PySem.Challenge.RW_rollcode_k13_keys_turned_and_worn
import PyProof.AttrMissHeap
import PyProof.Rows.SetFrom
import KE.KDictOf
import PyProof.DictWalks
import PyProof.Rows.DictUnroll
import PyProof.StationsW
import PyProof.ExcClass2
import OpenK.KOwn
import PyProof.ExcBaseAll.ValueError
import PyProof.RulesAs
import PyProof.NsDelKeeps
import PyProof.Rows.Catch
import KE.KIsAll
import PyProof.ExcArgsOwn
import PyProof.Rows.CatchOwn
import PyProof.ExcAttrAll.ValueError
set_option Elab.async false
set_option maxRecDepth 100000
set_option maxHeartbeats 4000000
set_option linter.unusedVariables false
set_option linter.all false
namespace L2
open PySem PySem.Spec PyProof.Rows
abbrev Key := Sum Int Str
def keyIs : Key → Value → Bool
  | .inl k, v => Value.isInt k v
  | .inr x, v => Value.isStrOf x v
def keyH (w : World) : Key → Int
  | .inl k => hashInt k
  | .inr x => hashStr w x
theorem keyIs_shape : ∀ {k : Key} {v : Value}, keyIs k v = true → (∃ i t, k = Sum.inl i ∧ v = Value.int i t) ∨ (∃ x t, k = Sum.inr x ∧ v = Value.str x t)
  | .inl i, v, h => by
    obtain ⟨t, e⟩ := Value.isInt_shape (k := i) (v := v) h
    exact .inl ⟨i, t, rfl, e⟩
  | .inr x, v, h => by
    obtain ⟨t, e⟩ := Value.isStrOf_shape (x := x) (v := v) h
    exact .inr ⟨x, t, rfl, e⟩
theorem keyIs_int (i : Int) (t : Tok) : keyIs (.inl i) (.int i t) = true := by simp [keyIs, Value.isInt]
theorem keyIs_str (x : Str) (t : Tok) : keyIs (.inr x) (.str x t) = true := by simp [keyIs, Value.isStrOf]
theorem key_ll (a b : Int) : decide ((Sum.inl a : Key) = Sum.inl b) = (a == b) := by
  by_cases e : a = b
  · subst e; simp
  · have h : ¬ (Sum.inl a : Key) = Sum.inl b := fun q => e (Sum.inl.inj q)
    rw [decide_eq_false h]
    exact (beq_eq_false_iff_ne.mpr e).symm
theorem key_rr (a b : Str) : decide ((Sum.inr a : Key) = Sum.inr b) = decide (a = b) := by
  by_cases e : a = b
  · subst e; simp
  · have h : ¬ (Sum.inr a : Key) = Sum.inr b := fun q => e (Sum.inr.inj q)
    rw [decide_eq_false h, decide_eq_false e]
theorem key_lr (a : Int) (b : Str) : decide ((Sum.inl a : Key) = Sum.inr b) = false := decide_eq_false (fun q => nomatch q)
theorem key_rl (a : Str) (b : Int) : decide ((Sum.inr a : Key) = Sum.inl b) = false := decide_eq_false (fun q => nomatch q)
def mixKind (prog : Program) (w : World) : PySem.KeyKind prog w Key where
  is := keyIs
  hash := keyH w
  inj := fun v a b ha hb => by
    rcases keyIs_shape ha with ⟨i, t, rfl, rfl⟩ | ⟨x, t, rfl, rfl⟩
    · rcases keyIs_shape hb with ⟨j, u, rfl, e⟩ | ⟨y, u, rfl, e⟩
      · injection e with e1 _; rw [e1]
      · exact nomatch e
    · rcases keyIs_shape hb with ⟨j, u, rfl, e⟩ | ⟨y, u, rfl, e⟩
      · exact nomatch e
      · injection e with e1 _; rw [e1]
  byValue := fun k v h => by
    rcases keyIs_shape h with ⟨i, t, rfl, rfl⟩ | ⟨x, t, rfl, rfl⟩ <;> rfl
  pyHash := fun hv h => by
    rcases keyIs_shape hv with ⟨i, t, rfl, rfl⟩ | ⟨x, t, rfl, rfl⟩
    · exact wpAny_pyHash_int h
    · exact wpAny_pyHash_str h
  eqBool := fun hu hv h => by
    rcases keyIs_shape hu with ⟨i, t, rfl, rfl⟩ | ⟨x, t, rfl, rfl⟩
    · rcases keyIs_shape hv with ⟨j, u, rfl, rfl⟩ | ⟨y, u, rfl, rfl⟩
      · rw [key_ll] at h; exact wpAny_eqBool_int h
      · rw [key_lr] at h; exact SeqAt.EqAt.int_str i t y u _ _ _ _ h
    · rcases keyIs_shape hv with ⟨j, u, rfl, rfl⟩ | ⟨y, u, rfl, rfl⟩
      · rw [key_rl] at h; exact SeqAt.EqAt.str_int x t j u _ _ _ _ h
      · rw [key_rr] at h; exact wpAny_eqBool_str h
  «strs» := fun k x t v h => by
    rcases keyIs_shape h with ⟨i, u, rfl, e⟩ | ⟨y, u, rfl, e⟩
    · exact nomatch e
    · injection e with e1 _
      subst e1
      cases v <;> rfl
theorem mixKind_int (prog : Program) (w : World) (i : Int) (t : Tok) : (mixKind prog w).is (.inl i) (.int i t) = true := keyIs_int i t
theorem mixKind_str (prog : Program) (w : World) (x : Str) (t : Tok) : (mixKind prog w).is (.inr x) (.str x t) = true := keyIs_str x t
end L2
namespace L2
open PySem PySem.Spec PyProof.Rows
inductive V where
  | non | bl (b : Bool) | int (i : Int) | str (x : Str) | byt (b : Array UInt8) | flt (b : UInt64) | ref (a : Addr) | ty (n : String)
  deriving DecidableEq
def RelV : V → Value → Prop
  | .non, u => u = Value.none
  | .bl b, u => u = Value.bool b
  | .int i, u => ∃ t, u = Value.int i t
  | .str x, u => ∃ t, u = Value.str x t
  | .byt b, u => ∃ t, u = Value.bytes b t
  | .flt b, u => ∃ t, u = Value.float b t
  | .ref a, u => u = Value.ref a
  | .ty n, u => u = Value.type n
abbrev Vals : List V → List Value → Prop := Paired RelV
theorem Vals.length {xs : List V} {us : List Value} (r : Vals xs us) : xs.length = us.length := Paired.length r
theorem Vals.get : ∀ {xs : List V} {us : List Value} {i : Nat} {x : V}, Vals xs us → xs[i]? = some x → ∃ u, us[i]? = some u ∧ RelV x u
  | _, _, _, _, .nil, e => by simp at e
  | _, _, 0, _, .cons r _, e => by simp at e; subst e; exact ⟨_, rfl, r⟩
  | _, _, i + 1, x, .cons _ t, e => by
    obtain ⟨u, h1, h2⟩ := Vals.get (i := i) (x := x) t (by simpa using e)
    exact ⟨u, by simpa using h1, h2⟩
theorem Vals.set {x : V} {u : Value} (r : RelV x u) : ∀ {xs : List V} {us : List Value} (i : Nat), Vals xs us → Vals (xs.set i x) (us.set i u)
  | _, _, _, .nil => .nil
  | _, _, 0, .cons _ t => .cons r t
  | _, _, i + 1, .cons q t => .cons q (Vals.set r i t)
theorem Vals.append : ∀ {xs ys : List V} {us ws : List Value}, Vals xs us → Vals ys ws → Vals (xs ++ ys) (us ++ ws)
  | _, _, _, _, .nil, s => s
  | _, _, _, _, .cons r t, s => .cons r (Vals.append t s)
theorem Vals.take : ∀ {xs : List V} {us : List Value} (n : Nat), Vals xs us → Vals (xs.take n) (us.take n)
  | _, _, 0, _ => .nil
  | _, _, _ + 1, .nil => .nil
  | _, _, n + 1, .cons r t => .cons r (Vals.take n t)
theorem Vals.drop : ∀ {xs : List V} {us : List Value} (n : Nat), Vals xs us → Vals (xs.drop n) (us.drop n)
  | _, _, 0, r => r
  | _, _, _ + 1, .nil => .nil
  | _, _, n + 1, .cons _ t => Vals.drop n t
def RelO : Option V → Option Value → Prop
  | some v, some u => RelV v u
  | none, none => True
  | _, _ => False
def KV {κ : Type} : List (κ × V) → List (κ × Value) → Prop := Paired fun (p : κ × V) (q : κ × Value) => p.1 = q.1 ∧ RelV p.2 q.2
def kV : Key → V
  | .inl i => .int i
  | .inr x => .str x
inductive HO where
  /-- a list -/
  | lst (xs : List V)
  /-- a tuple (never changes) -/
  | tup (xs : List V)
  /-- a dict whose keys are ints and texts; one whose keys are tuples of ints and texts (the empty one is both) -/
  | dK (kvs : List (Key × V)) | dT (kvs : List (List Key × V))
  /-- a set of ints: its members, its size -/
  | set (S : Int → Bool) (n : Nat)
  /-- an instance of the class at C, its dict at dx, its attributes -/
  | ins (C dx : Addr) (fs : List (Str × V))
  /-- the dict of the instance at x -/
  | own (x : Addr)
  /-- the dict of an exception -/
  | xd (fs : List (Str × V))
  /-- a bound method, f of x -/
  | met (f x : Addr)
  /-- a range object lo, lo + 1, .. below hi -/
  | rng (lo hi : Int)
  /-- a thing that is known to the object (the script; a dict while a loop walks it): read, never written while it is so -/
  | frz (o : Obj) (u : HO)
  /-- a code object's table -/
  | tbl (ps : Array Value)
  /-- any other thing, by what is true of its one object (a def of one's own: SetO a S n := HO.ext fun h => ..) -/
  | ext (φ : Heap → Prop)
abbrev Hp := Addr → Option HO
def upd (H : Hp) (a : Addr) (o : HO) : Hp := fun b => if b = a then some o else H b
theorem upd_same {H : Hp} {a : Addr} {o : HO} : upd H a o a = some o := by unfold upd; rw [if_pos rfl]
theorem upd_ne {H : Hp} {a b : Addr} {o : HO} (h : b ≠ a) : upd H a o b = H b := by unfold upd; rw [if_neg h]
theorem ne_of {H : Hp} {a b : Addr} {o u : HO} (h : H a = some o) (h' : H b = some u) (d : o ≠ u) : a ≠ b := by
  intro e; subst e; rw [h] at h'; exact d (Option.some.inj h')
theorem ne_of_none {H : Hp} {a b : Addr} {o : HO} (h : H a = some o) (h' : H b = none) : a ≠ b := by
  intro e; subst e; rw [h] at h'; cases h'
section
variable (P : Program) (w : World)
def ObjOk (H : Hp) (h : Heap) (a : Addr) : HO → Prop
  | .lst xs => xs.length ≤ sizeLine ∧ ∃ (its : List Value) (n : Nat), Vals xs its ∧ h.get? a = some { cls := .type "list", data := .seq its.toArray n }
  | .tup xs => xs.length ≤ sizeLine ∧ ∃ its : List Value, Vals xs its ∧ IsTup h a its.toArray
  | .dK kvs => kvs.length ≤ sizeLine ∧ (a == sysModules) = false ∧ ∃ vs, KV kvs vs ∧ h.DictOf (mixKind P w) a vs
  | .dT kvs => kvs.length ≤ sizeLine ∧ (a == sysModules) = false ∧ ∃ xs : List (List Key × Addr × Value),
      Paired (fun (p : List Key × V) (q : List Key × Addr × Value) => p.1 = q.1 ∧ H q.2.1 = some (.tup (p.1.map kV)) ∧ RelV p.2 q.2.2) kvs xs ∧
      ∃ o es ep, h.get? a = some o ∧ o.ExactDict ∧ o.data = .dict es ep ∧ es.toList = xs.map (entryOfKey (tupleKind (mixKind P w))) ∧ (xs.map (·.1)).Nodup
  | .set S n => h.SetOf (intKind P w) a S n
  | .ins C dx fs => H dx = some (.own a) ∧ fs.length ≤ 1000 ∧ dx ≠ a ∧ h.get? a = some (PySem.W.instObj C dx) ∧
      ∃ mA, h.Ns1 dx mA ∧ (∀ f, RelO (fs.lookup f) (mA f)) ∧ PySem.Within mA (fs.map (·.1))
  | .own _ => ∃ o, h.get? a = some o
  | .xd fs => ∃ mA, h.Ns1 a mA ∧ ∀ f, RelO (fs.lookup f) (mA f)
  | .rng lo hi => ∃ t u v, h.get? a = some { cls := .type "range", data := .fields #[.int lo t, .int hi u, .int 1 v] }
  | .frz o u => h.get? a = some o ∧ ObjOk H h a u
  | .tbl ps => h.get? a = some { cls := .none, data := .fields ps }
  | .met f x => h.get? a = some (PySem.W.methodObj (.ref f) (.ref x))
  | .ext φ => φ h ∧ (∃ o, h.get? a = some o) ∧ ∀ h1 h2 : Heap, φ h1 → (∀ o, h1.get? a = some o → h2.get? a = some o) → φ h2
def HOk (H : Hp) (h : Heap) : Prop := ∀ a o, H a = some o → ObjOk P w H h a o
end
section
variable {P : Program} {w : World} {H H' : Hp} {h h' : Heap} {a : Addr} {o : HO}
theorem ObjOk.lt (x : ObjOk P w H h a o) : a < h.objs.size := by
  cases o with
  | lst xs => obtain ⟨_, _, _, _, e⟩ := x; exact Heap.lt_size e
  | tup xs => obtain ⟨_, _, _, p⟩ := x; exact p.lt
  | dK kvs => obtain ⟨_, _, _, _, o, _, _, e, _⟩ := x; exact Heap.lt_size e
  | dT kvs => obtain ⟨_, _, _, _, o, _, _, e, _⟩ := x; exact Heap.lt_size e
  | set S n => obtain ⟨o, _, _, _, e, _⟩ := x; exact Heap.lt_size e
  | ins C dx fs => obtain ⟨_, _, _, e, _⟩ := x; exact Heap.lt_size e
  | own y => obtain ⟨_, e⟩ := x; exact Heap.lt_size e
  | xd fs => obtain ⟨_, ⟨_, _, _, e, _⟩, _⟩ := x; exact Heap.lt_size e
  | rng lo hi => obtain ⟨_, _, _, e⟩ := x; exact Heap.lt_size e
  | frz ob u => obtain ⟨e, _⟩ := x; exact Heap.lt_size e
  | tbl ps => exact Heap.lt_size (show h.get? a = some _ from x)
  | met f y => exact Heap.lt_size (show h.get? a = some _ from x)
  | ext φ => obtain ⟨_, ⟨_, e⟩, _⟩ := x; exact Heap.lt_size e
theorem Paired.mapP {α β : Type} {F G : α → β → Prop} : ∀ {l₁ : List α} {l₂ : List β}, Paired F l₁ l₂ → (∀ a b, F a b → G a b) → Paired G l₁ l₂
  | _, _, .nil, _ => .nil
  | _, _, .cons r t, f => .cons (f _ _ r) (Paired.mapP t f)
theorem ObjOk.stay (x : ObjOk P w H h a o) (k : ∀ b u, (b = a ∨ H b = some (.own a)) → h.get? b = some u → h'.get? b = some u)
    (ho : ∀ b, H b = some (.own a) → H' b = some (.own a)) (ht : ∀ b xs, H b = some (.tup xs) → H' b = some (.tup xs)) : ObjOk P w H' h' a o := by
  induction o with
  | lst xs => obtain ⟨z, its, n, r, e⟩ := x; exact ⟨z, its, n, r, k _ _ (.inl rfl) e⟩
  | tup xs => obtain ⟨z, its, r, ob, e, c⟩ := x; exact ⟨z, its, r, ob, k _ _ (.inl rfl) e, c⟩
  | dK kvs => obtain ⟨z, y, vs, r, ob, es, ep, e, c⟩ := x; exact ⟨z, y, vs, r, ob, es, ep, k _ _ (.inl rfl) e, c⟩
  | dT kvs =>
    obtain ⟨z, y, xs, r, ob, es, ep, e, c⟩ := x
    exact ⟨z, y, xs, Paired.mapP r fun p q z => ⟨z.1, ht _ _ z.2.1, z.2.2⟩, ob, es, ep, k _ _ (.inl rfl) e, c⟩
  | set S n => obtain ⟨ob, es, ep, t, e, c⟩ := x; exact ⟨ob, es, ep, t, k _ _ (.inl rfl) e, c⟩
  | ins C dx fs =>
    obtain ⟨d, z, ne, e, mA, ⟨od, es, ep, e2, c⟩, r⟩ := x
    exact ⟨ho _ d, z, ne, k _ _ (.inl rfl) e, mA, ⟨od, es, ep, k _ _ (.inr d) e2, c⟩, r⟩
  | own y => obtain ⟨ob, e⟩ := x; exact ⟨ob, k _ _ (.inl rfl) e⟩
  | xd fs => obtain ⟨mA, ⟨od, es, ep, e, c⟩, r⟩ := x; exact ⟨mA, ⟨od, es, ep, k _ _ (.inl rfl) e, c⟩, r⟩
  | rng lo hi => obtain ⟨t, u, v, e⟩ := x; exact ⟨t, u, v, k _ _ (.inl rfl) e⟩
  | frz ob u ih => obtain ⟨e, q⟩ := x; exact ⟨k _ _ (.inl rfl) e, ih q⟩
  | tbl ps =>
    have e : h.get? a = some { cls := .none, data := .fields ps } := x
    show h'.get? a = some { cls := .none, data := .fields ps }
    exact k a _ (.inl rfl) e
  | met f y =>
    have e : h.get? a = some (PySem.W.methodObj (.ref f) (.ref y)) := x
    show h'.get? a = some (PySem.W.methodObj (.ref f) (.ref y))
    exact k a _ (.inl rfl) e
  | ext φ => obtain ⟨p, ⟨o, e⟩, st⟩ := x; exact ⟨st _ _ p fun o q => k _ _ (.inl rfl) q, ⟨o, k _ _ (.inl rfl) e⟩, st⟩
theorem HOk.lt (x : HOk P w H h) (e : H a = some o) : a < h.objs.size := (x a o e).lt
theorem HOk.fresh (x : HOk P w H h) (e : h.objs.size ≤ a) : H a = none := by
  cases q : H a with
  | none => rfl
  | some u => exact absurd (Nat.lt_of_lt_of_le (x.lt q) e) (Nat.lt_irrefl _)
theorem HOk.kept (x : HOk P w H h) (k : ∀ b u, h.get? b = some u → h'.get? b = some u) : HOk P w H h' := fun a o e =>
  (x a o e).stay (fun b u _ q => k b u q) (fun _ q => q) fun _ _ q => q
theorem HOk.laid (x : HOk P w H h) (k : ∀ b u, h.get? b = some u → h'.get? b = some u) (hp : h.objs.size ≤ a) (new : ObjOk P w (upd H a o) h' a o) : HOk P w (upd H a o) h' := fun b u e => by
  have hn := x.fresh hp
  by_cases hb : b = a
  · subst hb; rw [upd_same] at e; cases e; exact new
  · rw [upd_ne hb] at e
    exact (x b u e).stay (fun c v _ q => k c v q) (fun c q => by rw [upd_ne (ne_of_none q hn)]; exact q) fun c xs q => by rw [upd_ne (ne_of_none q hn)]; exact q
end
def Rd (H : Hp) (a : Addr) (u : HO) : Prop := H a = some u ∨ ∃ o, H a = some (.frz o u)
theorem Rd.ok {P : Program} {w : World} {H : Hp} {h : Heap} {a : Addr} {u : HO} (r : Rd H a u) (x : HOk P w H h) : ObjOk P w H h a u := by
  rcases r with r | ⟨o, r⟩
  · exact x a u r
  · obtain ⟨_, q⟩ := x a _ r
    exact q
def Mut : Option HO → Prop
  | some (.lst _) => True
  | some (.dK _) => True
  | some (.dT _) => True
  | some (.set _ _) => True
  | some (.ins _ _ _) => True
  | some (.ext _) => True
  | _ => False
section
variable {P : Program} {w : World} {H : Hp} {h h' : Heap} {x e : Addr} {o' : HO}
theorem HOk.write (ok : HOk P w H h) (mu : Mut (H x)) (he : e = x ∨ H e = some (.own x)) (k : ∀ b u, b ≠ e → h.get? b = some u → h'.get? b = some u) (heo : ∃ u, h'.get? e = some u)
    (new : ObjOk P w (upd H x o') h' x o') : HOk P w (upd H x o') h' := fun b u q => by
  have nown : ∀ c y, H c = some (.own y) → c ≠ x := fun c y r z => by subst z; rw [r] at mu; exact mu
  have ntup : ∀ c xs, H c = some (.tup xs) → c ≠ x := fun c xs r z => by subst z; rw [r] at mu; exact mu
  by_cases hb : b = x
  · subst hb; rw [upd_same] at q; cases q; exact new
  · rw [upd_ne hb] at q
    by_cases hbe : b = e
    · have q' : H b = some (.own x) := by
        rcases he with z | z
        · exact absurd (hbe.trans z) hb
        · rw [hbe]; exact z
      rw [q] at q'; cases q'
      obtain ⟨v, hv⟩ := heo
      exact ⟨v, by rw [hbe]; exact hv⟩
    · refine (ok b u q).stay (fun c v hc r => k c v ?_ r) (fun c r => by rw [upd_ne (nown c b r)]; exact r) fun c xs r => by rw [upd_ne (ntup c xs r)]; exact r
      rcases hc with rfl | hc
      · exact hbe
      · rintro rfl
        rcases he with z | z
        · exact nown c b hc z
        · rw [hc] at z; cases z; exact hb rfl
end
structure Un (fs ex : List Addr) (H H' : Hp) (h h' : Heap) : Prop where
  keep : ∀ b o, h.get? b = some o → H b = none → b ∉ fs → b ∉ ex → h'.get? b = some o
  slot : ∀ b o, h.get? b = some o → H b = none → b ∈ fs → b ∉ ex → ∃ sl, h'.get? b = some { o with slots := sl }
  free : ∀ b o, h.get? b = some o → H b = none → b ∉ ex → H' b = none
  there : ∀ b o, h.get? b = some o → b ∉ ex → ∃ o', h'.get? b = some o'
  tups : ∀ b xs, H b = some (.tup xs) → H' b = some (.tup xs)
  frzs : ∀ b o u, H b = some (.frz o u) → H' b = some (.frz o u)
  tbls : ∀ b ps, H b = some (.tbl ps) → ∃ more, H' b = some (.tbl (ps ++ more))
section
variable {fs fs' ex ex' : List Addr} {H H1 H2 : Hp} {h h1 h2 h' : Heap} {a x e : Addr} {o : HO}
theorem Un.any (u : Un fs ex H H1 h h1) {b : Addr} {ob : Obj} (q : h.get? b = some ob) (n : H b = none) (hx : b ∉ ex) : ∃ sl, h1.get? b = some { ob with slots := sl } := by
  by_cases hb : b ∈ fs
  · exact u.slot b ob q n hb hx
  · exact ⟨ob.slots, u.keep b ob q n hb hx⟩
theorem Un.kept (k : ∀ b u, h.get? b = some u → h'.get? b = some u) : Un fs ex H H h h' :=
  ⟨fun b ob q _ _ _ => k b ob q, fun b ob q _ _ _ => ⟨ob.slots, k b ob q⟩, fun _ _ _ n _ => n, fun b ob q _ => ⟨ob, k b ob q⟩, fun _ _ q => q, fun _ _ _ q => q, fun _ ps q => ⟨#[], by rw [q]; simp⟩⟩
theorem Un.refl : Un fs ex H H h h := Un.kept fun _ _ q => q
theorem Un.laid (k : ∀ b u, h.get? b = some u → h'.get? b = some u) (hp : h.objs.size ≤ a) (hn : H a = none) : Un fs ex H (upd H a o) h h' where
  keep := fun b u q _ _ _ => k b u q
  slot := fun b u q _ _ _ => ⟨u.slots, k b u q⟩
  free := fun b u q n _ => by rw [upd_ne (Nat.ne_of_lt (Nat.lt_of_lt_of_le (Heap.lt_size q) hp))]; exact n
  there := fun b u q _ => ⟨u, k b u q⟩
  tups := fun b xs q => by rw [upd_ne (ne_of_none q hn)]; exact q
  frzs := fun b u xs q => by rw [upd_ne (ne_of_none q hn)]; exact q
  tbls := fun b ps q => ⟨#[], by rw [upd_ne (ne_of_none q hn), q]; simp⟩
theorem Un.write (mu : Mut (H x)) (he : e = x ∨ H e = some (.own x)) (k : ∀ b u, b ≠ e → h.get? b = some u → h'.get? b = some u) (heo : ∃ u, h'.get? e = some u) : Un fs ex H (upd H x o) h h' := by
  have hx : ∀ b, H b = none → b ≠ x := fun b n z => by subst z; rw [n] at mu; exact mu
  have hb : ∀ b, H b = none → b ≠ e := fun b n z => by
    subst z
    rcases he with r | r
    · exact hx b n r
    · rw [n] at r; cases r
  have hm : ∀ b u, H b = some u → ¬ Mut (some u) → b ≠ x := fun b u q nm z => by subst z; rw [q] at mu; exact nm mu
  refine ⟨fun b u q n _ _ => k b u (hb b n) q, fun b u q n _ _ => ⟨u.slots, k b u (hb b n) q⟩, fun b u q n _ => by rw [upd_ne (hx b n)]; exact n, fun b u q _ => ?_,
    fun b xs q => by rw [upd_ne (hm b _ q fun z => z)]; exact q, fun b u xs q => by rw [upd_ne (hm b _ q fun z => z)]; exact q, fun b ps q => ⟨#[], by rw [upd_ne (hm b _ q fun z => z), q]; simp⟩⟩
  by_cases hbe : b = e
  · subst hbe; exact heo
  · exact ⟨u, k b u hbe q⟩
end
def trk (h : Heap) (H : Hp) : List Addr := (List.range h.objs.size).filter fun a => (H a).isSome
def hidT (h : Heap) (H : Hp) : Heap := PySem.W.hideAll h (trk h H)
theorem hidT_size (h : Heap) (H : Hp) : (hidT h H).objs.size = h.objs.size := PySem.W.hideAll_size _ _
theorem hidT_get {h : Heap} {H : Hp} {b : Addr} {o : Obj} (e : h.get? b = some o) (n : H b = none) : (hidT h H).get? b = some o :=
  PySem.W.hideAll_get _ e fun hm => by
    have q : (H b).isSome = true := (List.mem_filter.mp hm).2
    rw [n] at q; simp at q
theorem of_hidT {h : Heap} {H : Hp} {b : Addr} {o : Obj} (e : (hidT h H).get? b = some o) : h.get? b = some o ∧ H b = none := by
  have e' : h.get? b = some o := PySem.W.of_hideAll (trk h H) e
  refine ⟨e', ?_⟩
  cases q : H b with
  | none => rfl
  | some x =>
    have hm : b ∈ trk h H := List.mem_filter.mpr ⟨List.mem_range.mpr (Heap.lt_size e'), by simp [q]⟩
    have z : (hidT h H).get? b = none := PySem.W.hideAll_none (trk h H) hm
    rw [z] at e; cases e
end L2
namespace L2
open PySem PySem.Spec PyProof.Rows
structure Mod (K : PySem.W.Frag) (mg : Str → Option Value) (base : Heap) : Prop where
  kin : K.In base
  glob : base.Ns mainGlobals mg
  blt : ∃ mb, base.Ns builtinsNs mb ∧ ∀ x : Str, x ≠ "__name__" → mb x = bootBuiltins x
  nolimit : base.NoLimit
structure Cx where
  prog : Program
  w : World
  K : PySem.W.Frag
  mg : Str → Option Value
  base : Heap
  A : Around
  N : List Str
  s₀ : Shared
  H₀ : Hp
  env : Env
  outer : List Env
  stack : List Env
  ex : List Addr
  fn : Str → Bool
  calm : Bool
  pn : List (Addr × Obj)
  xe : Value → Shared → Prop
def frs (l : List Env) : List Addr := l.filterMap (·.frame)
abbrev Cx.fs (X : Cx) : List Addr := frs X.outer
def Vis (sc : Scope) (x : Str) : Prop := sc.names.lookup x = some .local ∨ sc.names.lookup x = some .cell ∨ sc.names.lookup x = some .free
def Loc (sc : Scope) (x : Str) : Prop := sc.names.lookup x = some .local ∨ sc.names.lookup x = some .cell
def Look (env : Env) (h : Heap) (m : Str → Option Value) (x : Str) (u : Value) : Prop :=
  (env.kindOf x = some .local ∧ m x = some u) ∨ ((env.kindOf x = some .cell ∨ env.kindOf x = some .free) ∧ ∃ c, env.cells.lookup x = some c ∧ h.IsCell c (some u))
structure Cx.Ok (X : Cx) : Prop where
  mod : Mod X.K X.mg X.base
  kind : X.env.scope.kind = .function
  glob : X.env.globals = mainGlobals
  blt : X.env.builtins = builtinsNs
  above : X.s₀.heap.objs.size ≤ X.env.locals
  inj : ∀ x y c, X.env.cells.lookup x = some c → X.env.cells.lookup y = some c → x = y
  has : ∀ x, (X.env.kindOf x = some .cell ∨ X.env.kindOf x = some .free) → ∃ c, X.env.cells.lookup x = some c
  cab : ∀ x c, X.fn x = true → X.env.cells.lookup x = some c → X.s₀.heap.objs.size ≤ c
  hd : X.calm = true → X.A.handled = none
  frames : X.A.frames = some X.stack
  stk : X.stack = X.outer ∨ (X.stack = X.env :: X.outer ∧ X.env.frame = some X.env.locals)
  exf : ∀ b ∈ X.ex, b ≠ X.env.locals ∧ ∀ x c, X.env.cells.lookup x = some c → c ≠ b
  bs : ∀ b o, X.base.get? b = some o → X.s₀.heap.get? b = some o ∧ X.H₀ b = none
  bsz : X.base.objs.size ≤ X.s₀.heap.objs.size
  noex : ∀ b o, X.base.get? b = some o → b ∉ X.ex
  exfs : ∀ b ∈ X.ex, b ∉ X.fs
  funs : X.s₀.heap.FunFrames X.base X.outer
  frf : ∀ b ∈ X.fs, X.H₀ b = none
structure Inv (X : Cx) (pins : List (Addr × Obj)) (σ : List (Option V)) (H : Hp) (s : Shared) : Prop where
  ok : X.Ok
  os : s.os = X.s₀.os
  bare : AllBare s.gens
  base : Un X.fs X.ex X.H₀ H X.s₀.heap s.heap
  loc : ∃ m, s.heap.Ns X.env.locals m ∧ ∀ (i : Nat) (x : Str) (v : V), X.N[i]? = some x → σ[i]? = some (some v) → Vis X.env.scope x → ∃ u, RelV v u ∧ Look X.env s.heap m x u
  cell : ∀ x c, X.env.cells.lookup x = some c → ∃ v, s.heap.IsCell c v
  free : H X.env.locals = none
  freeC : ∀ x c, X.env.cells.lookup x = some c → H c = none
  pin : ∀ p ∈ X.pn ++ pins, s.heap.get? p.1 = some p.2 ∧ H p.1 = none ∧ p.1 ≠ X.env.locals ∧ p.1 ∉ X.fs ∧ ∀ v, p.2.data ≠ .cell v
  hok : HOk X.prog X.w H s.heap
  len : σ.length = X.N.length
section
variable {X : Cx} {pins : List (Addr × Obj)} {σ : List (Option V)} {H H' : Hp} {s : Shared} {h' : Heap}
theorem Cx.Ok.nofr (ok : X.Ok) {b : Addr} {o : Obj} (e : X.base.get? b = some o) : b ∉ X.fs := fun hb => by
  have := (ok.funs.mem hb).1
  rw [e] at this; cases this
theorem Inv.bs (I : Inv X pins σ H s) : ∀ b o, X.base.get? b = some o → s.heap.get? b = some o ∧ H b = none := fun b o e =>
  ⟨I.base.keep b o (I.ok.bs b o e).1 (I.ok.bs b o e).2 (I.ok.nofr e) (I.ok.noex b o e), I.base.free b o (I.ok.bs b o e).1 (I.ok.bs b o e).2 (I.ok.noex b o e)⟩
theorem Inv.bk (I : Inv X pins σ H s) : ∀ b o, X.base.get? b = some o → s.heap.get? b = some o := fun b o e => (I.bs b o e).1
theorem Inv.mod (I : Inv X pins σ H s) : Mod X.K X.mg X.base := I.ok.mod
theorem Inv.kIn (I : Inv X pins σ H s) : X.K.In s.heap := I.ok.mod.kin.keeps I.bk
theorem Inv.lt (I : Inv X pins σ H s) : X.env.locals < s.heap.objs.size := let ⟨_, hn, _⟩ := I.loc; hn.lt
theorem Inv.sz (I : Inv X pins σ H s) : X.s₀.heap.objs.size ≤ s.heap.objs.size := Nat.le_trans I.ok.above (Nat.le_of_lt I.lt)
theorem Inv.nofs (I : Inv X pins σ H s) {a : Addr} (h : s.heap.objs.size ≤ a) : a ∉ X.fs := fun hb => by
  obtain ⟨_, o, ho, _⟩ := I.ok.funs.mem hb
  exact absurd (Nat.lt_of_lt_of_le (Heap.lt_size ho) (Nat.le_trans I.sz h)) (Nat.lt_irrefl _)
theorem Inv.cne (I : Inv X pins σ H s) : ∀ x c, X.env.cells.lookup x = some c → c ≠ X.env.locals := fun x c e z => by
  obtain ⟨v, o, ho, hd⟩ := I.cell x c e
  obtain ⟨m, ⟨o', es, ep, ho', hd', _⟩, _⟩ := I.loc
  rw [z, ho'] at ho; cases ho; rw [hd'] at hd; cases hd
theorem Inv.funs (I : Inv X pins σ H s) : s.heap.FunFrames X.base X.outer := by
  have all : ∀ (l : List Env), (∀ b ∈ frs l, b ∈ X.fs) → X.s₀.heap.FunFrames X.base l → s.heap.FunFrames X.base l := by
    intro l
    induction l with
    | nil => intro _ _; trivial
    | cons env r ih =>
      intro hs hl
      obtain ⟨hk, ⟨L, o, hf, hn, ho, hd⟩, hr⟩ := hl
      have hL : L ∈ X.fs := hs L (by unfold frs; rw [List.filterMap_cons, hf]; exact List.mem_cons_self)
      obtain ⟨sl, e⟩ := I.base.slot L o ho (I.ok.frf L hL) hL fun z => I.ok.exfs L z hL
      exact ⟨hk, ⟨L, _, hf, hn, e, hd⟩, ih (fun b hb => hs b (by unfold frs; rw [List.filterMap_cons, hf]; exact List.mem_cons_of_mem _ hb)) hr⟩
  exact all X.outer (fun _ hb => hb) I.ok.funs
theorem Inv.stack (I : Inv X pins σ H s) : s.heap.FunFrames X.base X.stack := by
  rcases I.ok.stk with e | ⟨e, hf⟩
  · rw [e]; exact I.funs
  · rw [e]
    obtain ⟨m, hn, _⟩ := I.loc
    refine .cons (by rw [I.ok.kind]; decide) hf hn ?_ I.funs
    exact Heap.get?_none_of_le (Nat.le_trans I.ok.bsz I.ok.above)
theorem Inv.stkSub (I : Inv X pins σ H s) : ∀ b ∈ frs X.stack, b ∈ X.env.locals :: X.fs := fun b hb => by
  rcases I.ok.stk with e | ⟨e, hf⟩
  · rw [e] at hb; exact List.mem_cons_of_mem _ hb
  · rw [e] at hb
    unfold frs at hb
    rw [List.filterMap_cons, hf] at hb
    exact hb
theorem Inv.stkFree (I : Inv X pins σ H s) : ∀ b ∈ frs X.stack, H b = none := fun b hb => by
  rcases List.mem_cons.mp (I.stkSub b hb) with e | hb
  · rw [e]; exact I.free
  · obtain ⟨_, o, ho, _⟩ := I.ok.funs.mem hb
    exact I.base.free b o ho (I.ok.frf b hb) fun z => I.ok.exfs b z hb
theorem Inv.step {g' : Array GenState} {t' : Nat} {d' : Drawn} {ch : List Addr} (I : Inv X pins σ H s)
    (hch : ∀ b ∈ ch, (b ∈ X.ex ∨ X.s₀.heap.objs.size ≤ b) ∧ b ≠ X.env.locals ∧ (∀ x c, X.env.cells.lookup x = some c → c ≠ b) ∧ ∀ p ∈ X.pn ++ pins, p.1 ≠ b)
    (keep : ∀ b o, b ≠ X.env.locals → b ∉ X.fs → b ∉ ch → s.heap.get? b = some o → H b = none → h'.get? b = some o)
    (slot : ∀ b o, b ≠ X.env.locals → b ∈ X.fs → b ∉ ch → s.heap.get? b = some o → H b = none → ∃ sl, h'.get? b = some { o with slots := sl }) (free : ∀ b o, b ∉ ch → s.heap.get? b = some o → H b = none → H' b = none)
    (there : ∀ b o, b ∉ ch → s.heap.get? b = some o → ∃ o', h'.get? b = some o')
    (tups : ∀ b xs, H b = some (.tup xs) → H' b = some (.tup xs)) (frzs : ∀ b o u, H b = some (.frz o u) → H' b = some (.frz o u)) (tbls : ∀ b ps, H b = some (.tbl ps) → ∃ more, H' b = some (.tbl (ps ++ more)))
    (ns : ∀ m, s.heap.Ns X.env.locals m → h'.Ns X.env.locals m) (hok : HOk X.prog X.w H' h') (hg : AllBare g') :
    Inv X pins σ H' { s with heap := h', gens := g', drawn := d', toks := t' } := by
  have neL : ∀ b o, X.s₀.heap.get? b = some o → b ≠ X.env.locals := fun b o e => Nat.ne_of_lt (Nat.lt_of_lt_of_le (Heap.lt_size e) I.ok.above)
  have neC : ∀ b o, X.s₀.heap.get? b = some o → b ∉ X.ex → b ∉ ch := fun b o e hx hb => by
    rcases (hch b hb).1 with z | z
    · exact hx z
    · exact absurd (Nat.lt_of_lt_of_le (Heap.lt_size e) z) (Nat.lt_irrefl _)
  have cellK : ∀ x c, X.env.cells.lookup x = some c → ∀ v, s.heap.IsCell c v → h'.IsCell c v := fun x c e v ⟨o, ho, hd⟩ => by
    have nch : c ∉ ch := fun z => (hch c z).2.2.1 x c e rfl
    by_cases hc : c ∈ X.fs
    · obtain ⟨sl, q⟩ := slot c o (I.cne x c e) hc nch ho (I.freeC x c e)
      exact ⟨_, q, hd⟩
    · exact ⟨o, keep c o (I.cne x c e) hc nch ho (I.freeC x c e), hd⟩
  refine ⟨I.ok, I.os, hg, ⟨fun b o e n hb hx => ?_, fun b o e n hb hx => ?_, fun b o e n hx => ?_, fun b o e hx => ?_, fun b xs e => tups b xs (I.base.tups b xs e), fun b o xs e => frzs b o xs (I.base.frzs b o xs e), fun b ps e => ?_⟩, ?_, fun x c e => ?_, ?_, fun x c e => ?_, fun p hp => ?_, hok, I.len⟩
  · exact keep b o (neL b o e) hb (neC b o e hx) (I.base.keep b o e n hb hx) (I.base.free b o e n hx)
  · obtain ⟨sl, e1⟩ := I.base.slot b o e n hb hx
    obtain ⟨sl', e2⟩ := slot b _ (neL b o e) hb (neC b o e hx) e1 (I.base.free b o e n hx)
    exact ⟨sl', e2⟩
  · obtain ⟨o', e1⟩ := I.base.there b o e hx
    exact free b o' (neC b o e hx) e1 (I.base.free b o e n hx)
  · obtain ⟨o', e1⟩ := I.base.there b o e hx
    exact there b o' (neC b o e hx) e1
  · obtain ⟨m1, e1⟩ := I.base.tbls b ps e
    obtain ⟨m2, e2⟩ := tbls b _ e1
    exact ⟨m1 ++ m2, by rw [e2, Array.append_assoc]⟩
  · obtain ⟨m, hn, hl⟩ := I.loc
    refine ⟨m, ns m hn, fun i x v e1 e2 e3 => ?_⟩
    obtain ⟨u, r, l⟩ := hl i x v e1 e2 e3
    refine ⟨u, r, ?_⟩
    rcases l with l | ⟨k, c, e, z⟩
    · exact .inl l
    · exact .inr ⟨k, c, e, cellK x c e _ z⟩
  · obtain ⟨v, z⟩ := I.cell x c e
    exact ⟨v, cellK x c e v z⟩
  · obtain ⟨m, ⟨o, _, _, ho, _⟩, _⟩ := I.loc
    exact free _ o (fun z => (hch _ z).2.1 rfl) ho I.free
  · obtain ⟨v, o, ho, hd⟩ := I.cell x c e
    exact free c o (fun z => (hch c z).2.2.1 x c e rfl) ho (I.freeC x c e)
  · obtain ⟨e, n, ne, nf, d⟩ := I.pin p hp
    have nch : p.1 ∉ ch := fun z => (hch p.1 z).2.2.2 p hp rfl
    exact ⟨keep p.1 p.2 ne nf nch e n, free p.1 p.2 nch e n, ne, nf, d⟩
theorem Inv.un {t' : Nat} (I : Inv X pins σ H s) (u : Un X.fs [] H H' s.heap h') (hok : HOk X.prog X.w H' h') : Inv X pins σ H' { s with heap := h', toks := t' } := by
  obtain ⟨m, ⟨o, es, ep, ho, r⟩, _⟩ := id I.loc
  obtain ⟨sl, hL⟩ := u.any ho I.free (by simp)
  exact I.step (g' := s.gens) (d' := s.drawn) (ch := []) (fun _ z => nomatch z) (fun b o _ hb _ e n => u.keep b o e n hb (by simp)) (fun b o _ hb _ e n => u.slot b o e n hb (by simp)) (fun b o _ e n => u.free b o e n (by simp)) (fun b o _ e => u.there b o e (by simp)) u.tups u.frzs u.tbls (fun m' hm => by
    obtain ⟨o', es', ep', ho', r'⟩ := hm
    rw [ho] at ho'; cases ho'
    exact ⟨_, es', ep', hL, r'⟩) hok I.bare
theorem Inv.call {g' : Array GenState} {t' : Nat} {d' : Drawn} {ch : List Addr} (I : Inv X pins σ H s) (u : Un (frs X.stack) ch H H' s.heap h') (hok : HOk X.prog X.w H' h') (hg : AllBare g')
    (hch : ∀ b ∈ ch, (b ∈ X.ex ∨ X.s₀.heap.objs.size ≤ b) ∧ b ≠ X.env.locals ∧ (∀ x c, X.env.cells.lookup x = some c → c ≠ b) ∧ ∀ p ∈ X.pn ++ pins, p.1 ≠ b) :
    Inv X pins σ H' { s with heap := h', gens := g', drawn := d', toks := t' } := by
  obtain ⟨m, ⟨o, es, ep, ho, r⟩, _⟩ := id I.loc
  obtain ⟨sl, hL⟩ := u.any ho I.free fun z => (hch _ z).2.1 rfl
  exact I.step (ch := ch) hch (fun b o hL hb hc e n => u.keep b o e n (fun z => (List.mem_cons.mp (I.stkSub b z)).elim hL hb) hc) (fun b o _ _ hc e n => u.any e n hc) (fun b o hc e n => u.free b o e n hc) (fun b o hc e => u.there b o e hc) u.tups u.frzs u.tbls (fun m' hm => by
    obtain ⟨o', es', ep', ho', r'⟩ := hm
    rw [ho] at ho'; cases ho'
    exact ⟨_, es', ep', hL, r'⟩) hok hg
theorem Inv.turned {t' : Nat} {it : Addr} (I : Inv X pins σ H s) (k : ∀ b o, b ≠ it → s.heap.get? b = some o → h'.get? b = some o) (hn : H it = none) (hL : it ≠ X.env.locals)
    (h1 : it ∈ X.ex ∨ X.s₀.heap.objs.size ≤ it) (h2 : ∀ x c, X.env.cells.lookup x = some c → c ≠ it) (h3 : ∀ p ∈ X.pn ++ pins, p.1 ≠ it) : Inv X pins σ H { s with heap := h', toks := t' } := by
  have nit : ∀ b u, H b = some u → b ≠ it := fun b u e z => by rw [z, hn] at e; cases e
  refine I.step (g' := s.gens) (d' := s.drawn) (ch := [it]) (fun b hb => ?_) (fun b o _ _ hc e _ => k b o (fun z => hc (by simp [z])) e) (fun b o _ _ hc e _ => ⟨o.slots, k b o (fun z => hc (by simp [z])) e⟩) (fun _ _ _ _ n => n)
    (fun b o hc e => ⟨o, k b o (fun z => hc (by simp [z])) e⟩) (fun _ _ e => e) (fun _ _ _ e => e) (fun b ps e => ⟨#[], by rw [e]; simp⟩) (fun m hm => ?_) (fun b u e => ?_) I.bare
  · have e : b = it := by simpa using hb
    subst e
    exact ⟨h1, hL, h2, h3⟩
  · obtain ⟨o, es, ep, ho, r⟩ := hm
    exact ⟨o, es, ep, k _ o (Ne.symm hL) ho, r⟩
  · refine (I.hok b u e).stay (fun c v hc q => k c v ?_ q) (fun _ q => q) fun _ _ q => q
    rcases hc with z | z
    · rw [z]; exact nit b u e
    · exact nit c _ z
theorem Inv.tok (I : Inv X pins σ H s) (t : Nat) : Inv X pins σ H { s with toks := t } := I.un (h' := s.heap) (t' := t) Un.refl I.hok
theorem Inv.kept {t' : Nat} (I : Inv X pins σ H s) (k : ∀ b u, s.heap.get? b = some u → h'.get? b = some u) : Inv X pins σ H { s with heap := h', toks := t' } := I.un (Un.kept k) (I.hok.kept k)
theorem Inv.laid {a : Addr} {o : HO} {t' : Nat} (I : Inv X pins σ H s) (k : ∀ b u, s.heap.get? b = some u → h'.get? b = some u) (hp : s.heap.objs.size ≤ a) (new : ObjOk X.prog X.w (upd H a o) h' a o) :
    Inv X pins σ (upd H a o) { s with heap := h', toks := t' } := I.un (Un.laid k hp (I.hok.fresh hp)) (I.hok.laid k hp new)
theorem Inv.write {x e : Addr} {o : HO} {t' : Nat} (I : Inv X pins σ H s) (mu : Mut (H x)) (he : e = x ∨ H e = some (.own x)) (k : ∀ b u, b ≠ e → s.heap.get? b = some u → h'.get? b = some u) (heo : ∃ u, h'.get? e = some u)
    (new : ObjOk X.prog X.w (upd H x o) h' x o) : Inv X pins σ (upd H x o) { s with heap := h', toks := t' } := I.un (Un.write mu he k heo) (I.hok.write mu he k heo new)
theorem Inv.pins_of {pins' : List (Addr × Obj)} (I : Inv X pins σ H s) (h : ∀ p ∈ pins', s.heap.get? p.1 = some p.2 ∧ H p.1 = none ∧ p.1 ≠ X.env.locals ∧ p.1 ∉ X.fs ∧ ∀ v, p.2.data ≠ .cell v) : Inv X pins' σ H s :=
  ⟨I.ok, I.os, I.bare, I.base, I.loc, I.cell, I.free, I.freeC, fun p hp => (List.mem_append.mp hp).elim (fun z => I.pin p (List.mem_append_left _ z)) (h p), I.hok, I.len⟩
theorem nodup_ix {N : List Str} (hN : N.Nodup) {i j : Nat} {x : Str} (a : N[i]? = some x) (b : N[j]? = some x) : i = j := by
  obtain ⟨h1, e1⟩ := List.getElem?_eq_some_iff.mp a
  obtain ⟨h2, e2⟩ := List.getElem?_eq_some_iff.mp b
  exact (List.getElem_inj hN).mp (e1.trans e2.symm)
theorem store_ok2 {M : Model} {A : Around} {E : Value → Shared → Prop} {i : Nat} {x : Str} {v : V} {u : Value} {Q : Unit → Shared → Prop} (I : Inv X pins σ H s) (hN : X.N.Nodup) (hi : X.N[i]? = some x) (hx : Loc X.env.scope x) (r : RelV v u)
    (h : ∀ s', Inv X pins (σ.set i (some v)) H s' → (∃ a, Heap.SameBut a s.heap s'.heap ∧ (a = X.env.locals ∨ X.env.cells.lookup x = some a)) → Q () s') (hf : X.fn x = true ∨ X.env.scope.names.lookup x = some .local := by first | exact .inl rfl | exact .inr rfl | assumption) : wpAny M A (storeName X.env x u) Q E s := by
  obtain ⟨m, hn, hl⟩ := id I.loc
  have hcls : (X.env.scope.kind == .class || (X.env.scope.kind == .module && X.env.locals != X.env.globals)) = false := by rw [I.ok.kind]; rfl
  have hiσ : i < σ.length := by rw [I.len]; exact (List.getElem?_eq_some_iff.mp hi).1
  have cne := I.cne
  have tracked : ∀ {a : Addr} {h' : Heap}, (∃ o, s.heap.get? a = some o ∧ H a = none) → Heap.SameBut a s.heap h' → HOk X.prog X.w H h' := fun {a h'} ha hs b ob e => by
    obtain ⟨_, _, hfree⟩ := ha
    refine (I.hok b ob e).stay (fun c w' hc q => (hs.2 c ?_).trans q) (fun _ q => q) fun _ _ q => q
    rintro rfl
    rcases hc with rfl | hc
    · rw [hfree] at e; cases e
    · rw [hfree] at hc; cases hc
  rcases hx with hk | hk
  · refine wpAny_storeName_local hk hn (fun h' hn' hs => ?_) hcls
    obtain ⟨oL, _, _, hoL, _⟩ := id hn
    refine h _ ⟨I.ok, I.os, I.bare, ⟨fun b o e n hb hx => ?_, fun b o e n hb hx => ?_, I.base.free, fun b o e hx => ?_, I.base.tups, I.base.frzs, I.base.tbls⟩, ⟨_, hn', fun j y v' e1 e2 e3 => ?_⟩, fun y c e => ?_, I.free, I.freeC, fun p hp => ?_, tracked ⟨oL, hoL, I.free⟩ hs, by simpa using I.len⟩ ⟨_, hs, .inl rfl⟩
    · exact (hs.2 b (Nat.ne_of_lt (Nat.lt_of_lt_of_le (Heap.lt_size e) I.ok.above))).trans (I.base.keep b o e n hb hx)
    · obtain ⟨sl, e1⟩ := I.base.slot b o e n hb hx
      exact ⟨sl, (hs.2 b (Nat.ne_of_lt (Nat.lt_of_lt_of_le (Heap.lt_size e) I.ok.above))).trans e1⟩
    · obtain ⟨o', e1⟩ := I.base.there b o e hx
      exact ⟨o', (hs.2 b (Nat.ne_of_lt (Nat.lt_of_lt_of_le (Heap.lt_size e) I.ok.above))).trans e1⟩
    · by_cases hj : j = i
      · subst hj
        rw [hi] at e1; cases e1
        rw [List.getElem?_set_self hiσ] at e2
        cases e2
        exact ⟨u, r, .inl ⟨hk, by simp⟩⟩
      · rw [List.getElem?_set_ne (Ne.symm hj)] at e2
        obtain ⟨u', r', q⟩ := hl j y v' e1 e2 e3
        refine ⟨u', r', ?_⟩
        rcases q with ⟨k, e⟩ | ⟨k, c, e, z⟩
        · refine .inl ⟨k, ?_⟩
          have : y ≠ x := fun e => hj (nodup_ix hN e1 (e ▸ hi))
          simp [this, e]
        · exact .inr ⟨k, c, e, z.sameBut hs (cne y c e)⟩
    · obtain ⟨w', z⟩ := I.cell y c e
      exact ⟨w', z.sameBut hs (cne y c e)⟩
    · obtain ⟨e, n, ne, nf, d⟩ := I.pin p hp
      exact ⟨(hs.2 p.1 ne).trans e, n, ne, nf, d⟩
  · have hfn : X.fn x = true := by
      rcases hf with z | z
      · exact z
      · rw [z] at hk; cases hk
    obtain ⟨c, hc⟩ := I.ok.has x (.inl hk)
    obtain ⟨w', z⟩ := I.cell x c hc
    refine wpAny_storeName_cell I.ok.kind hk hc z (fun h' hc' hs => ?_)
    obtain ⟨oc, hoc, hocd⟩ := id z
    refine h { s with heap := h' } ⟨I.ok, I.os, I.bare, ⟨fun b o e n hb hx => ?_, fun b o e n hb hx => ?_, I.base.free, fun b o e hx => ?_, I.base.tups, I.base.frzs, I.base.tbls⟩, ⟨m, hn.sameBut hs (Ne.symm (cne x c hc)), fun j y v' e1 e2 e3 => ?_⟩, fun y c' e => ?_, I.free, I.freeC, fun p hp => ?_, tracked ⟨oc, hoc, I.freeC x c hc⟩ hs, by simpa using I.len⟩ ⟨c, hs, .inr hc⟩
    · exact (hs.2 b (Nat.ne_of_lt (Nat.lt_of_lt_of_le (Heap.lt_size e) (I.ok.cab x c hfn hc)))).trans (I.base.keep b o e n hb hx)
    · obtain ⟨sl, e1⟩ := I.base.slot b o e n hb hx
      exact ⟨sl, (hs.2 b (Nat.ne_of_lt (Nat.lt_of_lt_of_le (Heap.lt_size e) (I.ok.cab x c hfn hc)))).trans e1⟩
    · obtain ⟨o', e1⟩ := I.base.there b o e hx
      exact ⟨o', (hs.2 b (Nat.ne_of_lt (Nat.lt_of_lt_of_le (Heap.lt_size e) (I.ok.cab x c hfn hc)))).trans e1⟩
    · by_cases hj : j = i
      · subst hj
        rw [hi] at e1; cases e1
        rw [List.getElem?_set_self hiσ] at e2
        cases e2
        exact ⟨u, r, .inr ⟨.inl hk, c, hc, hc'⟩⟩
      · rw [List.getElem?_set_ne (Ne.symm hj)] at e2
        obtain ⟨u', r', q⟩ := hl j y v' e1 e2 e3
        refine ⟨u', r', ?_⟩
        rcases q with q | ⟨k, c', e, z'⟩
        · exact .inl q
        · refine .inr ⟨k, c', e, z'.sameBut hs ?_⟩
          rintro rfl
          exact hj (nodup_ix hN e1 (I.ok.inj _ _ _ e hc ▸ hi))
    · by_cases hcc : c' = c
      · subst hcc; exact ⟨_, hc'⟩
      · obtain ⟨w2, z2⟩ := I.cell y c' e
        exact ⟨w2, z2.sameBut hs hcc⟩
    · obtain ⟨e, n, ne, nf, d⟩ := I.pin p hp
      refine ⟨(hs.2 p.1 ?_).trans e, n, ne, nf, d⟩
      intro q
      rw [q, hoc] at e
      have q' : oc = p.2 := Option.some.inj e
      exact d w' (by rw [← q']; exact hocd)
theorem store_ok {M : Model} {A : Around} {E : Value → Shared → Prop} {i : Nat} {x : Str} {v : V} {u : Value} {Q : Unit → Shared → Prop} (I : Inv X pins σ H s) (hN : X.N.Nodup) (hi : X.N[i]? = some x) (hx : Loc X.env.scope x) (r : RelV v u)
    (h : ∀ s', Inv X pins (σ.set i (some v)) H s' → Q () s') (hf : X.fn x = true ∨ X.env.scope.names.lookup x = some .local := by first | exact .inl rfl | exact .inr rfl | assumption) : wpAny M A (storeName X.env x u) Q E s :=
  store_ok2 I hN hi hx r (fun s' I' _ => h s' I') hf
theorem Inv.call' {s' : Shared} {ch : List Addr} (I : Inv X pins σ H s) (ho : s'.os = s.os) (u : Un (frs X.stack) ch H H' s.heap s'.heap) (hok : HOk X.prog X.w H' s'.heap) (hg : AllBare s'.gens)
    (hch : ∀ b ∈ ch, (b ∈ X.ex ∨ X.s₀.heap.objs.size ≤ b) ∧ b ≠ X.env.locals ∧ (∀ x c, X.env.cells.lookup x = some c → c ≠ b) ∧ ∀ p ∈ X.pn ++ pins, p.1 ≠ b) : Inv X pins σ H' s' := by
  obtain ⟨h', g', d', t', o'⟩ := s'
  have e : o' = s.os := ho
  subst e
  exact I.call (g' := g') (t' := t') (d' := d') u hok hg hch
end
abbrev XK := Value → Option Addr → Hp → Prop
abbrev St := List (Option V)
abbrev VK := V → Hp → Prop
abbrev TE := St → Hp → VK → Prop
abbrev TT := St → Hp → (Bool → Hp → Prop) → Prop
abbrev TA := St → Hp → (List V → Hp → Prop) → Prop
structure Ends where
  nx : St → Hp → Prop
  rt : VK
  bk : St → Hp → Prop := fun _ _ => False
  ct : St → Hp → Prop := fun _ _ => False
abbrev TS := Ends → St → Hp → Prop
def EP (X : Cx) (pins : List (Addr × Obj)) (σ : St) (Q : VK) (u : Value) (s' : Shared) : Prop := ∃ v H', Inv X pins σ H' s' ∧ RelV v u ∧ Q v H'
def TP (X : Cx) (pins : List (Addr × Obj)) (σ : St) (Q : Bool → Hp → Prop) (b : Bool) (s' : Shared) : Prop := ∃ H', Inv X pins σ H' s' ∧ Q b H'
def AP (X : Cx) (pins : List (Addr × Obj)) (σ : St) (Q : List V → Hp → Prop) (us : List Value) (s' : Shared) : Prop := ∃ vs H', Inv X pins σ H' s' ∧ Vals vs us ∧ Q vs H'
def SP (X : Cx) (pins : List (Addr × Obj)) (D : Ends) (f : Flow) (s' : Shared) : Prop :=
  match f with
  | .next => ∃ σ' H', Inv X pins σ' H' s' ∧ D.nx σ' H'
  | .brk => ∃ σ' H', Inv X pins σ' H' s' ∧ D.bk σ' H'
  | .cont => ∃ σ' H', Inv X pins σ' H' s' ∧ D.ct σ' H'
  | .ret u => ∃ v σ' H', Inv X pins σ' H' s' ∧ RelV v u ∧ D.rt v H'
def PE (X : Cx) (e : Expr) (t : TE) : Prop :=
  ∀ (pins : List (Addr × Obj)) (s : Shared) (σ : St) (H : Hp) (Q : VK), Inv X pins σ H s → t σ H Q → wpAny (model X.prog X.w) X.A (eval e X.env) (EP X pins σ Q) X.xe s
def PT (X : Cx) (e : Expr) (t : TT) : Prop :=
  ∀ (pins : List (Addr × Obj)) (s : Shared) (σ : St) (H : Hp) (Q : Bool → Hp → Prop), Inv X pins σ H s → t σ H Q → wpAny (model X.prog X.w) X.A (isTrue e X.env (eval e X.env)) (TP X pins σ Q) X.xe s
def PW (X : Cx) (e : Expr) (t : TT) : Prop :=
  ∀ (whole : Sem Value) (pins : List (Addr × Obj)) (s : Shared) (σ : St) (H : Hp) (Q : Bool → Hp → Prop), Inv X pins σ H s → t σ H Q → wpAny (model X.prog X.w) X.A (isTrue e X.env whole) (TP X pins σ Q) X.xe s
theorem PW.pt {X : Cx} {e : Expr} {t : TT} (h : PW X e t) : PT X e t := h _
def PA (X : Cx) (es : List Expr) (t : TA) : Prop :=
  ∀ (pos : Pos) (pins : List (Addr × Obj)) (s : Shared) (σ : St) (H : Hp) (Q : List V → Hp → Prop), Inv X pins σ H s → t σ H Q → wpAny (model X.prog X.w) X.A (spliced (backTo pos (starEach es X.env))) (AP X pins σ Q) X.xe s
def PS (X : Cx) (st : Stmt) (t : TS) : Prop :=
  ∀ (pins : List (Addr × Obj)) (s : Shared) (σ : St) (H : Hp) (D : Ends), Inv X pins σ H s → t D σ H → wpAny (model X.prog X.w) X.A (exec st X.env) (SP X pins D) X.xe s
def PSs (X : Cx) (st : List Stmt) (t : TS) : Prop :=
  ∀ (pins : List (Addr × Obj)) (s : Shared) (σ : St) (H : Hp) (D : Ends), Inv X pins σ H s → t D σ H → wpAny (model X.prog X.w) X.A (execs st X.env) (SP X pins D) X.xe s
theorem thn {α : Type} {t : Sem α} {Q Q' : α → Shared → Prop} {M : Model} {A : Around} {E : Value → Shared → Prop} {s : Shared} (h : wpAny M A t Q E s) (hQ : ∀ a s, Q a s → Q' a s) : wpAny M A t Q' E s := wpAny_mono h hQ fun _ _ x => x
end L2
namespace L2
open PySem PySem.Spec PyProof.Rows
section
variable {X : Cx}
def tVar (i : Nat) : TE := fun σ H Q => ∃ v, σ[i]? = some (some v) ∧ Q v H
def tC (v : V) : TE := fun _ H Q => Q v H
theorem pe_var {i : Nat} {x : Str} {pos : Pos} (hN : X.N[i]? = some x) (hv : Vis X.env.scope x) (hd : (x == ("__debug__" : Str)) = false := by decide) (hcd : (x == ("__classdict__" : Str)) = false := by decide) : PE X (.Name x pos) (tVar i) := by
  intro pins s σ H Q I h
  obtain ⟨v, e, h⟩ := h
  obtain ⟨m, hn, hl⟩ := I.loc
  obtain ⟨u, r, l⟩ := hl i x v hN e hv
  have fin : EP X pins σ Q u s := ⟨v, H, I, r, h⟩
  rcases l with ⟨hk, hm⟩ | ⟨hk, c, hc, hcell⟩
  · exact wpAny_Name (wpAny_loadName_local I.ok.kind hk hn hm fin) hd
  · rcases hk with hk | hk
    · exact wpAny_Name (wpAny_loadName_cell I.ok.kind hk hc hcell fin) hd
    · exact wpAny_Name (wpAny_loadName_free I.ok.kind hk hc hcell fin hcd) hd
theorem pe_int {i j pos} : PE X (.Constant (.int i) j pos) (tC (.int i)) := fun _ _ _ H _ I h => wpAny_Constant_int ⟨.int i, H, I.tok _, ⟨_, rfl⟩, h⟩
theorem pe_bl {b j pos} : PE X (.Constant (.bool b) j pos) (tC (.bl b)) := fun _ _ _ H _ I h => Constant_bool ⟨.bl b, H, I, rfl, h⟩
theorem pe_non {j pos} : PE X (.Constant .none j pos) (tC .non) := fun _ _ _ H _ I h => Constant_none ⟨.non, H, I, rfl, h⟩
theorem pe_str {x j pos} : PE X (.Constant (.str x) j pos) (tC (.str x)) := fun _ _ _ H _ I h => Calls.Constant_str ⟨.str x, H, I.tok _, ⟨_, rfl⟩, h⟩
def Gl (X : Cx) (x : Str) : Prop := X.env.kindOf x = some .globalImplicit
theorem ld_glob {E : Value → Shared → Prop} {pins : List (Addr × Obj)} {s : Shared} {σ : St} {H : Hp} {x : Str} {u : Value} {pos : Pos} {Q : Value → Shared → Prop} (I : Inv X pins σ H s) (hg : Gl X x) (hm : X.mg x = some u) (h : Q u s)
    (hd : (x == ("__debug__" : Str)) = false := by decide) : wpAny (model X.prog X.w) X.A (eval (.Name x pos) X.env) Q E s :=
  Calls.Name_function_global I.ok.kind hg (Calls.loadGlobal_global (by rw [I.ok.glob]; exact I.mod.glob.keeps I.bk) hm h) hd
theorem ld_blt {E : Value → Shared → Prop} {pins : List (Addr × Obj)} {s : Shared} {σ : St} {H : Hp} {x : Str} {u : Value} {pos : Pos} {Q : Value → Shared → Prop} (I : Inv X pins σ H s) (hg : Gl X x) (hm : X.mg x = none) (hv : bootBuiltins x = some u) (h : Q u s)
    (hn : x ≠ "__name__" := by decide) (hd : (x == ("__debug__" : Str)) = false := by decide) : wpAny (model X.prog X.w) X.A (eval (.Name x pos) X.env) Q E s := by
  obtain ⟨mb, h1, h2⟩ := I.mod.blt
  exact Calls.Name_function_global I.ok.kind hg (Calls.loadGlobal_builtin (by rw [I.ok.glob]; exact I.mod.glob.keeps I.bk) hm (by rw [I.ok.blt]; exact h1.keeps I.bk) ((h2 x hn).trans hv) h) hd
theorem pe_glob {x : Str} {v : V} {u : Value} {pos : Pos} (hg : Gl X x) (hm : X.mg x = some u) (r : RelV v u) (hd : (x == ("__debug__" : Str)) = false := by decide) : PE X (.Name x pos) (tC v) :=
  fun _ _ _ H _ I h => ld_glob I hg hm ⟨v, H, I, r, h⟩ hd
theorem pe_bltn {x : Str} {v : V} {u : Value} {pos : Pos} (hg : Gl X x) (hm : X.mg x = none) (hv : bootBuiltins x = some u) (r : RelV v u) (hn : x ≠ "__name__" := by decide) (hd : (x == ("__debug__" : Str)) = false := by decide) : PE X (.Name x pos) (tC v) :=
  fun _ _ _ H _ I h => ld_blt I hg hm hv ⟨v, H, I, r, h⟩ hn hd
variable {a b : Expr} {ta tb : TE} {pos : Pos}
def tB (t : TE) : TT := fun σ H Q => t σ H fun x H1 => ∃ c, x = .bl c ∧ Q c H1
theorem pt_val {e : Expr} {t : TE} (h : PE X e t) (he : ∀ whole, isTrue e X.env whole = (do let v ← whole; standAt e.pos; holding [v] (truthy v)) := by intro _; rfl) : PT X e (tB t) := by
  intro pins s σ H Q I hw
  refine isTrue_plain (thn (h pins s σ H _ I hw) fun v s1 ⟨x, H1, I1, r1, q1⟩ => ?_) (he _)
  obtain ⟨d, rfl, q⟩ := q1
  cases r1
  exact wpAny_truthy_bool ⟨H1, I1, q⟩
variable {tA tB' : TT} {rest : List Expr}
def tAnd (t u : TT) : TT := fun σ H Q => t σ H fun c H1 => if c = true then u σ H1 Q else Q false H1
def tOr (t u : TT) : TT := fun σ H Q => t σ H fun c H1 => if c = true then Q true H1 else u σ H1 Q
def tNot (t : TT) : TT := fun σ H Q => t σ H fun c H1 => Q (!c) H1
theorem pw_and1 (ha : PT X a tA) : PW X (.BoolOp .And [a] pos) tA := by
  intro wh pins s σ H Q I h
  refine isTrue_and (thn (ha pins s σ H Q I h) fun c s1 e => ?_)
  cases c with
  | true => exact isTrue_and_nil e
  | false => exact e
theorem pw_or1 (ha : PT X a tA) : PW X (.BoolOp .Or [a] pos) tA := by
  intro wh pins s σ H Q I h
  refine isTrue_or (thn (ha pins s σ H Q I h) fun c s1 e => ?_)
  cases c with
  | false => exact isTrue_or_nil e
  | true => exact e
theorem pw_and (ha : PT X a tA) (hb : PW X (.BoolOp .And (b :: rest) pos) tB') : PW X (.BoolOp .And (a :: b :: rest) pos) (tAnd tA tB') := by
  intro wh pins s σ H Q I h
  refine isTrue_and (thn (ha pins s σ H _ I h) fun c s1 ⟨H1, I1, q1⟩ => ?_)
  cases c with
  | true => exact hb wh pins s1 σ H1 Q I1 q1
  | false => exact ⟨H1, I1, q1⟩
theorem pw_or (ha : PT X a tA) (hb : PW X (.BoolOp .Or (b :: rest) pos) tB') : PW X (.BoolOp .Or (a :: b :: rest) pos) (tOr tA tB') := by
  intro wh pins s σ H Q I h
  refine isTrue_or (thn (ha pins s σ H _ I h) fun c s1 ⟨H1, I1, q1⟩ => ?_)
  cases c with
  | true => exact ⟨H1, I1, q1⟩
  | false => exact hb wh pins s1 σ H1 Q I1 q1
theorem pt_not (ha : PT X a tA) : PT X (.UnaryOp .Not a pos) (tNot tA) := by
  intro pins s σ H Q I h
  exact isTrue_not (ha pins s σ H (fun c H1 => Q (!c) H1) I h)
def tAndV (ta tb : TE) : TE := fun σ H Q => ta σ H fun x H1 => ∃ c, x = .bl c ∧ if c = true then tb σ H1 Q else Q (.bl false) H1
def tNotV (ta : TE) : TE := fun σ H Q => ta σ H fun x H1 => ∃ c, x = .bl c ∧ Q (.bl (!c)) H1
theorem pe_one {op} {t : TE} (h : PE X a t) : PE X (.BoolOp op [a] pos) t := fun pins s σ H Q I hw => BoolOp_one (h pins s σ H Q I hw)
theorem pe_and (ha : PE X a ta) (hb : PE X (.BoolOp .And (b :: rest) pos) tb) : PE X (.BoolOp .And (a :: b :: rest) pos) (tAndV ta tb) := by
  intro pins s σ H Q I h
  refine BoolOp_and (thn (ha pins s σ H _ I h) fun v s1 ⟨x, H1, I1, r1, q1⟩ => ?_)
  obtain ⟨c, rfl, q1⟩ := q1
  cases r1
  refine wpAny_truthy_bool ?_
  cases c with
  | true => exact hb pins s1 σ H1 Q I1 q1
  | false => exact ⟨.bl false, H1, I1, rfl, q1⟩
theorem pe_not (ha : PE X a ta) : PE X (.UnaryOp .Not a pos) (tNotV ta) := by
  intro pins s σ H Q I h
  refine UnaryOp_ (thn (ha pins s σ H _ I h) fun v s1 ⟨x, H1, I1, r1, q1⟩ => ?_)
  obtain ⟨c, rfl, q1⟩ := q1
  cases r1
  exact not_of (wpAny_truthy_bool ⟨.bl (!c), H1, I1, rfl, q1⟩)
def tIf (t : TT) (ta tb : TE) : TE := fun σ H Q => t σ H fun c H1 => if c = true then ta σ H1 Q else tb σ H1 Q
theorem pe_ifExp {c : Expr} (hc : PT X c tA) (ha : PE X a ta) (hb : PE X b tb) : PE X (.IfExp c a b pos) (tIf tA ta tb) := by
  intro pins s σ H Q I h
  refine wpAny_IfExp (thn (hc pins s σ H _ I h) fun d s1 ⟨H1, I1, q1⟩ => ?_)
  cases d with
  | true => exact ha pins s1 σ H1 Q I1 q1
  | false => exact hb pins s1 σ H1 Q I1 q1
end
end L2
namespace L2
open PySem PySem.Spec PyProof.Rows
def SqL (K : PySem.W.Frag) (H : Hp) (a : Addr) (xs : List V) : Prop :=
  Rd H a (.lst xs) ∨
    ∃ (o : Obj) (its : Array Value) (n : Nat), K.lookup a = some o ∧ o.cls = .type "list" ∧ o.dict = none ∧ o.data = .seq its n ∧ its.size ≤ sizeLine ∧ Vals xs its.toList
def SqT (K : PySem.W.Frag) (H : Hp) (a : Addr) (xs : List V) : Prop :=
  Rd H a (.tup xs) ∨
    ∃ (o : Obj) (its : Array Value) (n : Nat), K.lookup a = some o ∧ o.cls = .type "tuple" ∧ o.data = .seq its n ∧ its.size ≤ sizeLine ∧ Vals xs its.toList
def absV : Value → Option V
  | .none => some .non
  | .bool b => some (.bl b)
  | .int i _ => some (.int i)
  | .str x _ => some (.str x)
  | .bytes b _ => some (.byt b)
  | .float b _ => some (.flt b)
  | .ref a => some (.ref a)
  | .type n => some (.ty n)
  | _ => none
theorem RelV.abs {x : V} {u : Value} (r : RelV x u) : absV u = some x := by
  cases x with
  | non => cases r; rfl
  | bl _ => cases r; rfl
  | int _ => obtain ⟨t, rfl⟩ := r; rfl
  | str _ => obtain ⟨t, rfl⟩ := r; rfl
  | byt _ => obtain ⟨t, rfl⟩ := r; rfl
  | flt _ => obtain ⟨t, rfl⟩ := r; rfl
  | ref _ => cases r; rfl
  | ty _ => cases r; rfl
theorem RelV.inj {x y : V} {u : Value} (r : RelV x u) (q : RelV y u) : x = y := Option.some.inj (r.abs.symm.trans q.abs)
theorem Vals.inj : ∀ {xs ys : List V} {us : List Value}, Vals xs us → Vals ys us → xs = ys
  | _, _, _, .nil, .nil => rfl
  | _, _, _, .cons r t, .cons r' t' => by rw [r.inj r', Vals.inj t t']
section
variable {X : Cx} {pins : List (Addr × Obj)} {σ : St} {H : Hp} {s : Shared} {a : Addr} {xs ys : List V}
theorem SqL.of {K : PySem.W.Frag} (h : H a = some (.lst xs)) : SqL K H a xs := .inl (.inl h)
theorem SqT.of {K : PySem.W.Frag} (h : H a = some (.tup xs)) : SqT K H a xs := .inl (.inl h)
theorem Inv.list (I : Inv X pins σ H s) (h : SqL X.K H a xs) : ∃ its : List Value, Vals xs its ∧ PlainL s.heap a its.toArray ∧ xs.length ≤ sizeLine := by
  rcases h with h | ⟨o, its, n, hk, hc, hd, hs, hz, r⟩
  · obtain ⟨z, its, n, r, e⟩ := h.ok I.hok
    exact ⟨its, r, ⟨_, n, e, rfl, rfl, rfl⟩, z⟩
  · refine ⟨its.toList, r, ⟨o, n, I.kIn a o hk, hc, hd, by simpa using hs⟩, ?_⟩
    have e := r.length
    simp only [Array.length_toList] at e
    omega
theorem Inv.tuple (I : Inv X pins σ H s) (h : SqT X.K H a xs) : ∃ its : List Value, Vals xs its ∧ IsTup s.heap a its.toArray ∧ xs.length ≤ sizeLine := by
  rcases h with h | ⟨o, its, n, hk, hc, hs, hz, r⟩
  · obtain ⟨z, its, r, p⟩ := h.ok I.hok
    exact ⟨its, r, p, z⟩
  · refine ⟨its.toList, r, ⟨o, I.kIn a o hk, hc, n, by simpa using hs⟩, ?_⟩
    have e := r.length
    simp only [Array.length_toList] at e
    omega
theorem Inv.list_inj (I : Inv X pins σ H s) (h : SqL X.K H a xs) (h' : SqL X.K H a ys) : xs = ys := by
  obtain ⟨its, r, ⟨o, n, e, _, _, d⟩, _⟩ := I.list h
  obtain ⟨its', r', ⟨o', n', e', _, _, d'⟩, _⟩ := I.list h'
  rw [e] at e'; cases e'
  rw [d] at d'
  injection d' with d1 _
  have : its = its' := by simpa using congrArg Array.toList d1
  subst this
  exact r.inj r'
theorem Inv.tuple_inj (I : Inv X pins σ H s) (h : SqT X.K H a xs) (h' : SqT X.K H a ys) : xs = ys := by
  obtain ⟨its, r, ⟨o, e, _, n, d⟩, _⟩ := I.tuple h
  obtain ⟨its', r', ⟨o', e', _, n', d'⟩, _⟩ := I.tuple h'
  rw [e] at e'; cases e'
  rw [d] at d'
  injection d' with d1 _
  have : its = its' := by simpa using congrArg Array.toList d1
  subst this
  exact r.inj r'
end
abbrev Cx.wish (X : Cx) (E : Value → Shared → Prop) : Cx := { X with xe := E }
abbrev Cx.nox (X : Cx) : Cx := X.wish fun _ _ => False
theorem Cx.Ok.wish {X : Cx} (ok : X.Ok) (E : Value → Shared → Prop) : (X.wish E).Ok :=
  ⟨ok.mod, ok.kind, ok.glob, ok.blt, ok.above, ok.inj, ok.has, ok.cab, ok.hd, ok.frames, ok.stk, ok.exf, ok.bs, ok.bsz, ok.noex, ok.exfs, ok.funs, ok.frf⟩
theorem Cx.Ok.unwish {X : Cx} {E : Value → Shared → Prop} (ok : (X.wish E).Ok) : X.Ok :=
  ⟨ok.mod, ok.kind, ok.glob, ok.blt, ok.above, ok.inj, ok.has, ok.cab, ok.hd, ok.frames, ok.stk, ok.exf, ok.bs, ok.bsz, ok.noex, ok.exfs, ok.funs, ok.frf⟩
section
variable {X : Cx} {pins : List (Addr × Obj)} {σ : St} {H : Hp} {s : Shared} {E : Value → Shared → Prop}
theorem Inv.wish (I : Inv X pins σ H s) (E : Value → Shared → Prop) : Inv (X.wish E) pins σ H s := ⟨I.ok.wish E, I.os, I.bare, I.base, I.loc, I.cell, I.free, I.freeC, I.pin, I.hok, I.len⟩
theorem Inv.unwish (I : Inv (X.wish E) pins σ H s) : Inv X pins σ H s := ⟨I.ok.unwish, I.os, I.bare, I.base, I.loc, I.cell, I.free, I.freeC, I.pin, I.hok, I.len⟩
theorem SP.unwish {D : Ends} {f : Flow} {s' : Shared} (h : SP (X.wish E) pins D f s') : SP X pins D f s' := by
  cases f with
  | next => obtain ⟨σ', H', I, q⟩ := h; exact ⟨σ', H', I.unwish, q⟩
  | brk => obtain ⟨σ', H', I, q⟩ := h; exact ⟨σ', H', I.unwish, q⟩
  | cont => obtain ⟨σ', H', I, q⟩ := h; exact ⟨σ', H', I.unwish, q⟩
  | ret u => obtain ⟨v, σ', H', I, r, q⟩ := h; exact ⟨v, σ', H', I.unwish, r, q⟩
theorem PSs.nox {st : List Stmt} {t : TS} (h : PSs X.nox st t) : PSs X st t := fun pins s σ H D I hw =>
  wpAny_mono (h pins s σ H D (I.wish _) hw) (fun _ _ q => q.unwish) fun _ _ z => False.elim z
end
section
variable {X : Cx} {st : Stmt} {rest : List Stmt} {t u : TS} {e : Expr} {te : TE} {pos : Pos}
def tNext : TS := fun D σ H => D.nx σ H
def tSeq (t u : TS) : TS := fun D σ H => t { D with nx := u D } σ H
theorem pss_nil : PSs X [] tNext := fun _ _ σ H _ I h => wpAny_execs_nil ⟨σ, H, I, h⟩
theorem pss_cons (h1 : PS X st t) (h2 : PSs X rest u) : PSs X (st :: rest) (tSeq t u) := by
  intro pins s σ H D I h
  refine wpAny_execs_cons (thn (h1 pins s σ H { D with nx := u D } I h) fun f s1 q => ?_)
  cases f with
  | next =>
    obtain ⟨σ', H', I', q⟩ := q
    exact h2 pins s1 σ' H' D I' q
  | ret v => exact q
  | brk => exact q
  | cont => exact q
theorem pss_one (h1 : PS X st t) : PSs X [st] t := by
  intro pins s σ H D I h
  refine wpAny_execs_cons (thn (h1 pins s σ H D I h) fun f s1 q => ?_)
  cases f with
  | next => exact wpAny_execs_nil q
  | ret v => exact q
  | brk => exact q
  | cont => exact q
theorem Inv.quiet {pins : List (Addr × Obj)} {σ : St} {H : Hp} {s : Shared} (I : Inv X pins σ H s) : interactive X.env = false := by simp [interactive, I.ok.kind]
def tDrop (te : TE) : TS := fun D σ H => te σ H fun _ H1 => D.nx σ H1
theorem ps_expr (he : PE X e te) (hs : swapsWith e none pos.line X.env = pure false := by rfl) : PS X (.Expr e pos) (tDrop te) := by
  intro pins s σ H D I h
  exact wpAny_Expr_any (thn (he pins s σ H _ I h) fun v s1 ⟨x, H1, I1, r1, q1⟩ => ⟨σ, H1, I1, q1⟩) I.quiet hs
def tRet (te : TE) : TS := fun D σ H => te σ H D.rt
theorem ps_ret (he : PE X e te) : PS X (.Return (some e) pos) (tRet te) := by
  intro pins s σ H D I h
  exact wpAny_Return_some (thn (he pins s σ H _ I h) fun v s1 ⟨x, H1, I1, r1, q1⟩ => ⟨x, σ, H1, I1, r1, q1⟩)
def tIfS (c : TT) (t u : TS) : TS := fun D σ H => c σ H fun b H1 => if b = true then t D σ H1 else u D σ H1
theorem ps_if {c : Expr} {a b : List Stmt} {tc : TT} (hc : PT X c tc) (ha : PSs X a t) (hb : PSs X b u) : PS X (.If c a b pos) (tIfS tc t u) := by
  intro pins s σ H D I h
  refine wpAny_If (thn (hc pins s σ H _ I h) fun d s1 ⟨H1, I1, q1⟩ => ?_)
  cases d with
  | true => exact ha pins s1 σ H1 D I1 q1
  | false => exact hb pins s1 σ H1 D I1 q1
def tNever : TS := fun _ _ _ => False
theorem pss_never {sts : List Stmt} : PSs X sts tNever := fun _ _ _ _ _ _ h => h.elim
end
abbrev TG := V → St → Hp → (St → Hp → Prop) → Prop
abbrev TGs := List V → St → Hp → (St → Hp → Prop) → Prop
def PG (X : Cx) (target : Expr) (t : TG) : Prop :=
  ∀ (pins : List (Addr × Obj)) (s : Shared) (σ : St) (H : Hp) (v : V) (u : Value) (Q : St → Hp → Prop), Inv X pins σ H s → RelV v u → t v σ H Q →
    wpAny (model X.prog X.w) X.A (assign target X.env u) (fun _ s' => ∃ σ' H', Inv X pins σ' H' s' ∧ Q σ' H') X.xe s
def PGs (X : Cx) (ts : List Expr) (t : TGs) : Prop :=
  ∀ (pins : List (Addr × Obj)) (s : Shared) (σ : St) (H : Hp) (vs : List V) (us : List Value) (Q : St → Hp → Prop), Inv X pins σ H s → Vals vs us → t vs σ H Q →
    wpAny (model X.prog X.w) X.A (assignInOrder ((assignEach ts X.env).map (·.2)) us) (fun _ s' => ∃ σ' H', Inv X pins σ' H' s' ∧ Q σ' H') X.xe s
abbrev TSet := V → V → V → Hp → (Hp → Prop) → Prop
def PSet (X : Cx) (t : TSet) : Prop :=
  ∀ (pins : List (Addr × Obj)) (s : Shared) (σ : St) (H : Hp) (o i v : V) (ov iv u : Value) (Q : Hp → Prop), Inv X pins σ H s → RelV o ov → RelV i iv → RelV v u → t o i v H Q →
    wpAny (model X.prog X.w) X.A (setItem ov iv u) (fun _ s' => ∃ H', Inv X pins σ H' s' ∧ Q H') X.xe s
abbrev TIp := V → V → Hp → VK → Prop
def PIp (X : Cx) (op : Operator) (t : TIp) : Prop :=
  ∀ (pins : List (Addr × Obj)) (s : Shared) (σ : St) (H : Hp) (x y : V) (v u : Value) (Q : VK), Inv X pins σ H s → RelV x v → RelV y u → t x y H Q →
    wpAny (model X.prog X.w) X.A (inplaceOp op v u) (EP X pins σ Q) X.xe s
section
variable {X : Cx} {pos : Pos}
def gName (i : Nat) : TG := fun v σ H Q => Q (σ.set i (some v)) H
theorem pg_name {i : Nat} {x : Str} (hN : X.N.Nodup) (hi : X.N[i]? = some x) (hx : Loc X.env.scope x) (hf : X.fn x = true ∨ X.env.scope.names.lookup x = some .local := by first | exact .inl rfl | exact .inr rfl | assumption) : PG X (.Name x pos) (gName i) := by
  intro pins s σ H v u Q I r h
  exact wpAny_assign_Name (store_ok I hN hi hx r (fun s' I' => ⟨_, H, I', h⟩) hf)
def gNil : TGs := fun vs σ H Q => vs = [] ∧ Q σ H
def gCons (t : TG) (u : TGs) : TGs := fun vs σ H Q => ∃ v r, vs = v :: r ∧ t v σ H fun σ' H' => u r σ' H' Q
theorem pgs_nil : PGs X [] gNil := by
  intro pins s σ H vs us Q I r h
  obtain ⟨e, h⟩ := h
  subst e
  cases r
  exact assignInOrder_nil ⟨σ, H, I, h⟩
theorem pgs_cons {e : Expr} {es : List Expr} {t : TG} {u : TGs} (h1 : PG X e t) (h2 : PGs X es u)
    (hs : (assignEach (e :: es) X.env).map (·.2) = assign e X.env :: (assignEach es X.env).map (·.2) := by rfl) : PGs X (e :: es) (gCons t u) := by
  intro pins s σ H vs us Q I r h
  obtain ⟨v, vr, e1, h⟩ := h
  subst e1
  cases r with
  | cons r rr =>
    rw [hs]
    refine assignInOrder_cons (thn (h1 pins s σ H _ _ _ I r h) fun _ s1 ⟨σ1, H1, I1, q1⟩ => ?_)
    exact h2 pins s1 σ1 H1 _ _ Q I1 rr q1
def gTup (K : PySem.W.Frag) (n : Nat) (t : TGs) : TG := fun v σ H Q => ∃ a xs, v = .ref a ∧ SqT K H a xs ∧ xs.length = n ∧ t xs σ H Q
theorem pg_tup {es : List Expr} {k : Nat} {t : TGs} {n : Nat} (hc : X.calm = true) (h : PGs X es t)
    (hn : (assignEach es X.env).length = n := by rfl) (hst : (assignEach es X.env).findIdx? (·.1) = none := by rfl) : PG X (.Tuple es k pos) (gTup X.K n t) := by
  intro pins s σ H v u Q I r hw
  obtain ⟨a, xs, e1, hq, hl, hw⟩ := hw
  subst e1
  cases r
  obtain ⟨its, rv, ht, hz⟩ := I.tuple hq
  refine assign_Tuple_tuple (I.ok.hd hc) ht (by simp [hn, ← hl, rv.length]) hst fun h' hx => ?_
  have I1 : Inv X pins σ H { s with heap := h' } := I.kept (t' := s.toks) fun b o e => hx b o (Nat.ne_of_lt (Heap.lt_size e)) e
  exact h pins _ σ H xs _ Q I1 (by simpa using rv) hw
def gSub (to ti : TE) (t : TSet) : TG := fun v σ H Q => to σ H fun o H1 => ti σ H1 fun i H2 => t o i v H2 fun H3 => Q σ H3
theorem pg_sub {o i : Expr} {to ti : TE} {t : TSet} (ho : PE X o to) (hi : PE X i ti) (hs : PSet X t)
    (ha : ∀ v, assign (.Subscript o i pos) X.env v = (do
      let ov ← holding [v] (eval o X.env)
      let iv ← holding [v, ov] (eval i X.env)
      standAt pos
      holding [v, ov, iv] (setItem ov iv v)
      release [v, ov, iv] []) := by intro _; rfl) : PG X (.Subscript o i pos) (gSub to ti t) := by
  intro pins s σ H v u Q I r h
  rw [ha]
  refine wpAny_bind (wpAny_holding (thn (ho pins s σ H _ I h) fun ov s1 ⟨x, H1, I1, r1, q1⟩ => ?_))
  refine wpAny_bind (wpAny_holding (thn (hi pins s1 σ H1 _ I1 q1) fun iv s2 ⟨y, H2, I2, r2, q2⟩ => ?_))
  refine wpAny_bind (wpAny_standAt (wpAny_bind (wpAny_holding (thn (hs pins s2 σ H2 x y v ov iv u _ I2 r1 r2 r q2) fun _ s3 ⟨H3, I3, q3⟩ => ?_))))
  exact wpAny_release ⟨σ, H3, I3, q3⟩
def tAsg (te : TE) (g : TG) : TS := fun D σ H => te σ H fun x H1 => g x σ H1 D.nx
theorem ps_asg {tg e : Expr} {te : TE} {g : TG} (he : PE X e te) (hg : PG X tg g) (hs : swapsWithSole [tg] e pos.line X.env = pure false := by rfl) (hw : swappedStores [tg] e X.env = pure none := by rfl)
    (h1 : (assignEach [tg] X.env).map (·.2) = [assign tg X.env] := by rfl) : PS X (.Assign [tg] e pos) (tAsg te g) := by
  intro pins s σ H D I h
  refine wpAny_Assign_stores (thn (he pins s σ H _ I h) fun v s1 ⟨x, H1, I1, r1, q1⟩ => ?_) hs hw
  rw [h1]
  exact thn (hg pins s1 σ H1 x v _ I1 r1 q1) fun _ s2 q => q
theorem ps_set {i : Nat} {x : Str} {e : Expr} {te : TE} {pos' : Pos} (hN : X.N.Nodup) (hi : X.N[i]? = some x) (hx : Loc X.env.scope x) (he : PE X e te) (hs : swapsWith e (some (.Name x pos')) pos.line X.env = pure false := by rfl) (hf : X.fn x = true ∨ X.env.scope.names.lookup x = some .local := by first | exact .inl rfl | exact .inr rfl | assumption) :
    PS X (.Assign [.Name x pos'] e pos) (tAsg te (gName i)) := by
  intro pins s σ H D I h
  refine wpAny_Assign_Name (thn (he pins s σ H _ I h) fun v s1 ⟨y, H1, I1, r1, q1⟩ => ?_) hs
  exact store_ok I1 hN hi hx r1 (fun s2 I2 => ⟨_, H1, I2, q1⟩) hf
def tPar (i j : Nat) (ta : TA) : TS := fun D σ H => ta σ H fun vs H1 => ∃ v w, vs = [v, w] ∧ D.nx ((σ.set i (some v)).set j (some w)) H1
theorem ps_par {i j : Nat} {x y : Str} {a b : Expr} {ta : TA} {px py pt : Pos} {kt k2 pt2} (hc : X.calm = true) (hN : X.N.Nodup) (hi : X.N[i]? = some x) (hj : X.N[j]? = some y) (hij : i ≠ j)
    (hx : X.env.scope.names.lookup x = some .local) (hy : X.env.scope.names.lookup y = some .local) (ha : PA X [a, b] ta)
    (hw : swappedStores [.Tuple [.Name x px, .Name y py] kt pt] (.Tuple [a, b] k2 pt2) X.env = pure (some [x, y]))
    (hs : swapsWithSole [.Tuple [.Name x px, .Name y py] kt pt] (.Tuple [a, b] k2 pt2) pos.line X.env = pure false := by rfl) :
    PS X (.Assign [.Tuple [.Name x px, .Name y py] kt pt] (.Tuple [a, b] k2 pt2) pos) (tPar i j ta) := by
  intro pins s σ H D I h
  rw [exec_Assign_arm]
  refine wpAny_bind (wpAny_standAt ?_)
  rw [hs]
  refine wpAny_bind (wpAny_pure ?_)
  rw [if_neg (by decide)]
  refine wpAny_bind (Tuple_ (thn (ha _ pins s σ H _ I h) fun us s1 ⟨vs, H1, I1, r1, q1⟩ => ?_))
  obtain ⟨v, w, e1, q1⟩ := q1
  subst e1
  obtain ⟨u1, u2, rfl, rv, rw'⟩ : ∃ u1 u2, us = [u1, u2] ∧ RelV v u1 ∧ RelV w u2 := by
    cases r1 with
    | cons p q =>
      cases q with
      | cons p' q' =>
        cases q'
        exact ⟨_, _, rfl, p, p'⟩
  refine wpAny_newObj_type ?_ (by show 2 ≤ sizeLine; decide)
  have I2 : Inv X pins σ H1 { s1 with heap := s1.heap.push { cls := .type "tuple", data := .seq [u1, u2].toArray } } := I1.kept (t' := s1.toks) fun b o e => Heap.get?_push_of_some _ e
  rw [hw]
  refine wpAny_bind (wpAny_pure ?_)
  show wpAny (model X.prog X.w) X.A (do rule "assign.swapped-stores"; let items ← unpackItems (.ref s1.heap.objs.size) 2 none; assignInOrder [fun v => bindName X.env y v, fun v => bindName X.env x v] items.reverse; pure Flow.next) _ _ _
  refine wpAny_bind (wpAny_rule (wpAny_bind (unpackItems_tuple (items := #[u1, u2]) (I.ok.hd hc) (IsTup.new s1.heap _) fun h' hx' => ?_)))
  have I3 := I2.kept (h' := h') (t' := s1.toks) fun b o e => hx' b o (Nat.ne_of_lt (Heap.lt_size e)) e
  show wpAny _ _ (assignInOrder [fun v => bindName X.env y v, fun v => bindName X.env x v] [u2, u1] >>= fun _ => pure Flow.next) _ _ _
  refine wpAny_bind (assignInOrder_cons (wpAny_bindName (store_ok I3 hN hj (.inl hy) rw' (fun s2 I4 => ?_) (.inr hy))))
  refine assignInOrder_cons (wpAny_bindName (store_ok I4 hN hi (.inl hx) rv (fun s3 I5 => assignInOrder_nil (wpAny_pure ?_)) (.inr hx)))
  rw [List.set_comm _ _ (Ne.symm hij)] at I5
  exact ⟨_, H1, I5, q1⟩
def tAugS (to ti te : TE) (tget : V → V → Hp → VK → Prop) (tip : TIp) (tset : TSet) : TS := fun D σ H => to σ H fun o H1 => ti σ H1 fun i H2 => tget o i H2 fun x H3 => te σ H3 fun y H4 => tip x y H4 fun z H5 => tset o i z H5 fun H6 => D.nx σ H6
def PGet (X : Cx) (t : V → V → Hp → VK → Prop) : Prop :=
  ∀ (pins : List (Addr × Obj)) (s : Shared) (σ : St) (H : Hp) (o i : V) (ov iv : Value) (Q : VK), Inv X pins σ H s → RelV o ov → RelV i iv → t o i H Q →
    wpAny (model X.prog X.w) X.A (getItem ov iv) (EP X pins σ Q) X.xe s
theorem ps_augS {o i e : Expr} {to ti te : TE} {tget : V → V → Hp → VK → Prop} {tip : TIp} {tset : TSet} {op : Operator} {tpos : Pos} (ho : PE X o to) (hi : PE X i ti) (hg : PGet X tget) (he : PE X e te) (hp : PIp X op tip) (hs : PSet X tset)
    (ha : ∀ ov iv new, augStore i ov iv new = (do holding [new, ov, iv] (setItem ov iv new); release [new, ov, iv] []; pure .next) := by intros; rfl) : PS X (.AugAssign (.Subscript o i tpos) op e pos) (tAugS to ti te tget tip tset) := by
  intro pins s σ H D I h
  refine wpAny_AugAssign_SubscriptAny (thn (ho pins s σ H _ I h) fun ov s1 ⟨x1, H1, I1, r1, q1⟩ => ?_) ha
  refine thn (hi pins s1 σ H1 _ I1 q1) fun iv s2 ⟨x2, H2, I2, r2, q2⟩ => ?_
  refine thn (hg pins s2 σ H2 x1 x2 ov iv _ I2 r1 r2 q2) fun old s3 ⟨x3, H3, I3, r3, q3⟩ => ?_
  refine thn (he pins s3 σ H3 _ I3 q3) fun v s4 ⟨x4, H4, I4, r4, q4⟩ => ?_
  refine thn (hp pins s4 σ H4 x3 x4 old v _ I4 r3 r4 q4) fun new s5 ⟨x5, H5, I5, r5, q5⟩ => ?_
  exact thn (hs pins s5 σ H5 x1 x2 x5 ov iv new _ I5 r1 r2 r5 q5) fun _ s6 ⟨H6, I6, q6⟩ => ⟨σ, H6, I6, q6⟩
def ipI (f : Int → Int → Int) : TIp := fun x y H Q => ∃ i j, x = .int i ∧ y = .int j ∧ Q (.int (f i j)) H
theorem ip_add : PIp X .Add (ipI fun i j => i + j) := by
  intro pins s σ H x y v u Q I r1 r2 h
  obtain ⟨i, j, e1, e2, q⟩ := h
  subst e1; subst e2
  obtain ⟨t, rfl⟩ := r1
  obtain ⟨t', rfl⟩ := r2
  exact iadd_int ⟨.int _, H, I.tok _, ⟨_, rfl⟩, q⟩
end
section
variable {X : Cx} {pos : Pos}
def tWhile (c : TT) (tb : TS) : TS := fun D σ H => ∃ W : Nat → St → Hp → Prop, (∃ m, W m σ H) ∧ ∀ m σ H, W m σ H →
  c σ H fun b H1 => if b = true then ∃ N : St → Hp → Prop, (∀ σ' H', N σ' H' → ∃ m', m' < m ∧ W m' σ' H') ∧ tb { D with nx := N, ct := N, bk := D.nx } σ H1 else D.nx σ H1
theorem ps_while {c : Expr} {body : List Stmt} {tc : TT} {tb : TS} (hp : PassesOwn (model X.prog X.w) X.A X.env X.xe) (hc : PT X c tc) (hb : PSs X body tb) : PS X (.While c body [] pos) (tWhile tc tb) := by
  intro pins s σ H D I h
  obtain ⟨W, ⟨m0, w0⟩, turn⟩ := h
  refine wpAny_While (codeAny_whileLoop (fun n s' => ∃ σ' H', Inv X pins σ' H' s' ∧ W n σ' H') ?_ m0 ⟨σ, H, I, w0⟩)
  rintro n s1 ⟨σ1, H1, I1, w1⟩
  refine wpAny_passesOwn hp (thn (hc pins s1 σ1 H1 _ I1 (turn n σ1 H1 w1)) fun b s2 ⟨H2, I2, q2⟩ => ?_)
  cases b with
  | true =>
    obtain ⟨N, hN, q2⟩ := q2
    rw [if_pos rfl]
    refine wpAny_passesOwn hp (thn (hb pins s2 σ1 H2 _ I2 q2) fun f s3 q3 => ?_)
    cases f with
    | next =>
      obtain ⟨σ3, H3, I3, n3⟩ := q3
      obtain ⟨m', hm, w3⟩ := hN σ3 H3 n3
      exact ⟨m', hm, σ3, H3, I3, w3⟩
    | cont =>
      obtain ⟨σ3, H3, I3, n3⟩ := q3
      obtain ⟨m', hm, w3⟩ := hN σ3 H3 n3
      exact ⟨m', hm, σ3, H3, I3, w3⟩
    | brk => exact q3
    | ret v => exact q3
  | false =>
    rw [if_neg Bool.false_ne_true]
    exact wpAny_execs_nil ⟨σ1, H2, I2, q2⟩
end
structure It where
  go : Nat → Hp → Prop
  yld : Nat → Hp → V → Hp → Prop
  stop : Nat → Hp → Prop
def FpOk (X : Cx) (pins : List (Addr × Obj)) (H : Hp) (b : Addr) : Prop :=
  H b = none ∧ b ≠ X.env.locals ∧ b ∉ X.fs ∧ (b ∈ X.ex ∨ X.s₀.heap.objs.size ≤ b) ∧ (∀ x c, X.env.cells.lookup x = some c → c ≠ b) ∧ ∀ p ∈ X.pn ++ pins, p.1 ≠ b
theorem Inv.fpOk {X : Cx} {pins : List (Addr × Obj)} {σ : St} {H H' : Hp} {s : Shared} {b : Addr} (I : Inv X pins σ H s) (hb : s.heap.objs.size ≤ b) (hn : H' b = none) : FpOk X pins H' b := by
  refine ⟨hn, Nat.ne_of_gt (Nat.lt_of_lt_of_le I.lt hb), I.nofs hb, .inr (Nat.le_trans I.sz hb), fun x c e z => ?_, fun p hp z => ?_⟩
  · obtain ⟨v, q⟩ := I.cell x c e
    exact absurd (Nat.lt_of_lt_of_le q.lt (by rw [z]; exact hb)) (Nat.lt_irrefl _)
  · exact absurd (Nat.lt_of_lt_of_le (Heap.lt_size (I.pin p hp).1) (by rw [z]; exact hb)) (Nat.lt_irrefl _)
structure Turn (P : Program) (w : World) (K : PySem.W.Frag) (tg : Expr) (J : It) (fp : List Addr) (it : Addr) (tn : Nat → Heap → Prop) : Prop where
  mem : it ∈ fp
  obj : ∀ i h, tn i h → ∀ b ∈ fp, ∃ o, h.get? b = some o ∧ ∀ v, o.data ≠ .cell v
  keep : ∀ i h h', tn i h → (∀ b ∈ fp, ∀ o, h.get? b = some o → h'.get? b = some o) → tn i h'
  item : ∀ (X : Cx), X.prog = P → X.w = w → X.K = K → X.calm = true → ∀ (i : Nat) (pins : List (Addr × Obj)) (s : Shared) (σ : St) (H : Hp) (E : Value → Shared → Prop), Inv X pins σ H s → (∀ b ∈ fp, FpOk X pins H b) → tn i s.heap → J.go i H →
    wpAny (model P w) X.A (pyNext (.ref it)) (fun r s1 => ∃ u, r = some u ∧
      wpAny (model P w) X.A (letOwnedTupleGo tg (.ref it) u) (fun _ s2 => ∃ x H', Inv X pins σ H' s2 ∧ RelV x u ∧ J.yld i H x H' ∧ tn (i + 1) s2.heap ∧ ∀ b ∈ fp, H' b = none) E s1) E s
  done : ∀ (X : Cx), X.prog = P → X.w = w → X.K = K → X.calm = true → ∀ (i : Nat) (pins : List (Addr × Obj)) (s : Shared) (σ : St) (H : Hp) (E : Value → Shared → Prop), Inv X pins σ H s → (∀ b ∈ fp, FpOk X pins H b) → tn i s.heap → J.stop i H →
    wpAny (model P w) X.A (pyNext (.ref it)) (fun r s1 => r = none ∧ Inv X pins σ H s1) E s
  self : ∀ (A : Around) (i : Nat) (s : Shared) (Q : Value → Shared → Prop) (E : Value → Shared → Prop), tn i s.heap → Q (.ref it) s → wpAny (model P w) A (pyIter (.ref it)) Q E s
abbrev TI := St → Hp → (It → Hp → Prop) → Prop
def PIE (X : Cx) (pins : List (Addr × Obj)) (σ : St) (tg : Expr) (R : It → Hp → Prop) (itv : Value) (s2 : Shared) : Prop :=
  ∃ (it : Addr) (fp : List Addr) (tn : Nat → Heap → Prop) (J : It) (H' : Hp), itv = .ref it ∧ Inv X pins σ H' s2 ∧ Turn X.prog X.w X.K tg J fp it tn ∧ tn 0 s2.heap ∧ (∀ b ∈ fp, FpOk X pins H' b) ∧ R J H'
def PI (X : Cx) (tg iter : Expr) (wi : TI) : Prop :=
  ∀ (pins : List (Addr × Obj)) (s : Shared) (σ : St) (H : Hp) (R : It → Hp → Prop), Inv X pins σ H s → wi σ H R →
    wpAny (model X.prog X.w) X.A (eval iter X.env) (fun v s1 => wpAny (model X.prog X.w) X.A (pyIter v) (PIE X pins σ tg R) X.xe s1) X.xe s
theorem go_of {M : Model} {A : Around} {E : Value → Shared → Prop} {s : Shared} {tg : Expr} {it : Addr} {u : Value} {o : Obj} {n : String} {vs : Array Value} {Q : Unit → Shared → Prop} (ho : s.heap.get? it = some o) (hc : o.cls = .type n) (hd : o.data = .fields vs)
    (hn : ["enumerate", "zip", "dict_itemiterator", "dict_reverseitemiterator", "odict_iterator", "itertools.zip_longest", "itertools.pairwise"].contains n = false) (hQ : Q () s) : wpAny M A (letOwnedTupleGo tg (.ref it) u) Q E s := by
  unfold letOwnedTupleGo
  cases tg <;> first
    | exact wpAny_pure hQ
    | (cases u <;> first
        | exact wpAny_pure hQ
        | (refine wpAny_bind (wpAny_load ho ?_)
           rw [hc, hd]
           show wpAny M A (if (["enumerate", "zip", "dict_itemiterator", "dict_reverseitemiterator", "odict_iterator", "itertools.zip_longest", "itertools.pairwise"].contains n && vs[0]? == some (rawInt _)) = true then _ else _) Q E s
           rw [if_neg (by intro h; rw [hn, Bool.false_and] at h; cases h)]
           exact wpAny_pure hQ))
def Itl (K : PySem.W.Frag) (a : Addr) : It :=
  ⟨fun i H => ∃ xs x, SqL K H a xs ∧ xs[i]? = some x, fun i H x H' => H' = H ∧ ∀ xs, SqL K H a xs → xs[i]? = some x, fun i H => ∃ xs, SqL K H a xs ∧ xs.length ≤ i⟩
def Itt (K : PySem.W.Frag) (a : Addr) : It :=
  ⟨fun i H => ∃ xs x, SqT K H a xs ∧ xs[i]? = some x, fun i H x H' => H' = H ∧ ∀ xs, SqT K H a xs → xs[i]? = some x, fun i H => ∃ xs, SqT K H a xs ∧ xs.length ≤ i⟩
def Itr (lo : Int) (n : Nat) : It := ⟨fun i _ => i < n, fun i H x H' => H' = H ∧ x = .int (lo + i), fun i _ => n ≤ i⟩
theorem turn_list {P : Program} {w : World} {K : PySem.W.Frag} {tg : Expr} (a it : Addr) : Turn P w K tg (Itl K a) [it] it (fun i h => h.IsListIter it a i) where
  mem := by simp
  obj := fun i h st b hb => by
    have e : b = it := by simpa using hb
    subst e
    obtain ⟨o, e, c, d⟩ := st
    exact ⟨o, e, fun v z => by rw [d] at z; cases z⟩
  keep := fun i h h' st k => st.at fun o e => k it (by simp) o e
  item := by
    intro X hP hw hK hc i pins s σ H E I hf st hg
    subst hP hw hK
    obtain ⟨xs, x, hq, hx⟩ := hg
    obtain ⟨its, rv, p, hz⟩ := I.list hq
    obtain ⟨u, hu, ru⟩ := rv.get hx
    obtain ⟨f0, f1, f2, f3, f4, f5⟩ := hf it (by simp)
    refine wpAny_pyNext_list_item st p.isList (x := u) (by simpa using hu) fun h' st' sb => ?_
    have I1 : Inv X pins σ H { s with heap := h' } := I.turned (t' := s.toks) (fun b o hb e => (sb.2 b hb).trans e) f0 f1 f3 f4 f5
    obtain ⟨o, e, c, d⟩ := id st'
    exact ⟨u, rfl, go_of (s := { s with heap := h' }) e c d (by decide) ⟨x, H, I1, ru, ⟨rfl, fun ys hy => by rw [I.list_inj hy hq]; exact hx⟩, st', fun b hb => (hf b hb).1⟩⟩
  done := by
    intro X hP hw hK hc i pins s σ H E I hf st hg
    subst hP hw hK
    obtain ⟨xs, hq, hx⟩ := hg
    obtain ⟨its, rv, p, hz⟩ := I.list hq
    obtain ⟨f0, f1, f2, f3, f4, f5⟩ := hf it (by simp)
    have hl := rv.length
    exact wpAny_pyNext_list_end (I.ok.hd hc) st p.isList (by simp; omega) fun h' eb => ⟨rfl, I.turned (t' := s.toks) (fun b o hb e => eb b o hb e) f0 f1 f3 f4 f5⟩
  self := fun _ _ _ _ _ st h => wpAny_pyIter_listiter st h
theorem turn_tuple {P : Program} {w : World} {K : PySem.W.Frag} {tg : Expr} (a it : Addr) : Turn P w K tg (Itt K a) [it] it (fun i h => h.IsTupleIter it a i) where
  mem := by simp
  obj := fun i h st b hb => by
    have e : b = it := by simpa using hb
    subst e
    obtain ⟨o, e, c, d⟩ := st
    exact ⟨o, e, fun v z => by rw [d] at z; cases z⟩
  keep := fun i h h' st k => st.at fun o e => k it (by simp) o e
  item := by
    intro X hP hw hK hc i pins s σ H E I hf st hg
    subst hP hw hK
    obtain ⟨xs, x, hq, hx⟩ := hg
    obtain ⟨its, rv, p, hz⟩ := I.tuple hq
    obtain ⟨u, hu, ru⟩ := rv.get hx
    obtain ⟨f0, f1, f2, f3, f4, f5⟩ := hf it (by simp)
    refine wpAny_pyNext_tuple_item st (show s.heap.IsTuple a its.toArray from p) (x := u) (by simpa using hu) fun h' st' sb => ?_
    have I1 : Inv X pins σ H { s with heap := h' } := I.turned (t' := s.toks) (fun b o hb e => (sb.2 b hb).trans e) f0 f1 f3 f4 f5
    obtain ⟨o, e, c, d⟩ := id st'
    exact ⟨u, rfl, go_of (s := { s with heap := h' }) e c d (by decide) ⟨x, H, I1, ru, ⟨rfl, fun ys hy => by rw [I.tuple_inj hy hq]; exact hx⟩, st', fun b hb => (hf b hb).1⟩⟩
  done := by
    intro X hP hw hK hc i pins s σ H E I hf st hg
    subst hP hw hK
    obtain ⟨xs, hq, hx⟩ := hg
    obtain ⟨its, rv, p, hz⟩ := I.tuple hq
    obtain ⟨f0, f1, f2, f3, f4, f5⟩ := hf it (by simp)
    have hl := rv.length
    exact wpAny_pyNext_tuple_end (I.ok.hd hc) st (show s.heap.IsTuple a its.toArray from p) (by simp; omega) fun h' eb => ⟨rfl, I.turned (t' := s.toks) (fun b o hb e => eb b o hb e) f0 f1 f3 f4 f5⟩
  self := fun _ _ _ _ _ st h => wpAny_pyIter_tupleiter st h
theorem turn_range {P : Program} {w : World} {K : PySem.W.Frag} {tg : Expr} (it : Addr) (lo : Int) (n : Nat) : Turn P w K tg (Itr lo n) [it] it (fun i h => IsRangeIter h it (lo + (i : Nat) * 1) ((n : Int) - (i : Nat)) 1) where
  mem := by simp
  obj := fun i h st b hb => by
    have e : b = it := by simpa using hb
    subst e
    exact ⟨_, st, fun v z => by
      have z' : Data.fields _ = Data.cell v := z
      cases z'⟩
  keep := fun i h h' st k => k it (by simp) _ st
  item := by
    intro X hP hw hK hc i pins s σ H E I hf st hg
    subst hP hw hK
    obtain ⟨f0, f1, f2, f3, f4, f5⟩ := hf it (by simp)
    have W := Walks.range (prog := X.prog) (w := X.w) (I.ok.hd hc) it lo 1 n
    refine W.item i s _ _ hg st fun v h' tk hv st' kk => ?_
    obtain ⟨t, rfl⟩ := hv
    have I1 : Inv X pins σ H { s with heap := h', toks := tk } := I.turned (fun b o hb e => kk b o (by simpa using hb) e) f0 f1 f3 f4 f5
    refine ⟨_, rfl, go_of (s := { s with heap := h', toks := tk }) (n := "range_iterator") st' rfl rfl (by decide) ⟨.int (lo + i), H, I1, ⟨t, ?_⟩, ⟨rfl, rfl⟩, st', fun b hb => (hf b hb).1⟩⟩
    rw [Int.mul_one]
  done := by
    intro X hP hw hK hc i pins s σ H E I hf st hg
    subst hP hw hK
    obtain ⟨f0, f1, f2, f3, f4, f5⟩ := hf it (by simp)
    exact wpAny_pyNext_range_end (I.ok.hd hc) st (by have : n ≤ i := hg; omega) fun h' eb => ⟨rfl, I.turned (t' := s.toks) (fun b o hb e => eb b o hb e) f0 f1 f3 f4 f5⟩
  self := fun _ _ _ _ _ st h => wpAny_pyIter_rangeiter st h
end L2
namespace L2
open PySem PySem.Spec PyProof.Rows
section
variable {X : Cx} {tg : Expr}
def iList (K : PySem.W.Frag) (tl : TE) : TI := fun σ H R => tl σ H fun x H1 => ∃ a, x = .ref a ∧ (∃ xs, SqL K H1 a xs) ∧ R (Itl K a) H1
theorem pi_list {l : Expr} {tl : TE} (hl : PE X l tl) : PI X tg l (iList X.K tl) := by
  intro pins s σ H R I h
  refine thn (hl pins s σ H _ I h) fun v s1 ⟨x, H1, I1, r1, q1⟩ => ?_
  obtain ⟨a, e, ⟨xs, hq⟩, q⟩ := q1
  subst e
  cases r1
  obtain ⟨its, rv, p, hz⟩ := I1.list hq
  refine wpAny_pyIter_list p.isList ?_
  refine ⟨s1.heap.objs.size, [s1.heap.objs.size], _, _, H1, rfl, I1.kept (t' := s1.toks) fun b o e => Heap.get?_push_of_some _ e, turn_list a _, ⟨_, Heap.get?_push_size _ rfl, rfl, rfl⟩, fun b hb => ?_, q⟩
  have e : b = s1.heap.objs.size := by simpa using hb
  subst e
  exact I1.fpOk (Nat.le_refl _) (I1.hok.fresh (Nat.le_refl _))
theorem range_it {pins : List (Addr × Obj)} {σ : St} {H : Hp} {s : Shared} {R : It → Hp → Prop} {E : Value → Shared → Prop} {lo hi : Int} {t u v : Tok} {tk : Nat} (I : Inv X pins σ H s) (h1 : -(2 ^ 62) ≤ lo) (h2 : lo < 2 ^ 62) (h3 : -(2 ^ 62) ≤ hi) (h4 : hi < 2 ^ 62)
    (q : R (Itr lo (hi - lo).toNat) H) : wpAny (model X.prog X.w) X.A (pyIter (.ref s.heap.objs.size)) (PIE X pins σ tg R) E { s with heap := s.heap.push { cls := .type "range", data := .fields #[.int lo t, .int hi u, .int 1 v] }, toks := tk } := by
  refine wpAny_pyIter_range (IsRange.new ..) (small_one h1 h2 h3 h4) ?_
  have I1 : Inv X pins σ H { s with heap := s.heap.push { cls := .type "range", data := .fields #[.int lo t, .int hi u, .int 1 v] }, toks := tk } := I.kept fun b o e => Heap.get?_push_of_some _ e
  refine ⟨(s.heap.push { cls := .type "range", data := .fields #[.int lo t, .int hi u, .int 1 v] }).objs.size, [(s.heap.push { cls := .type "range", data := .fields #[.int lo t, .int hi u, .int 1 v] }).objs.size], _, _, H, rfl,
    I1.kept (t' := tk) fun b o e => Heap.get?_push_of_some _ e, turn_range _ lo (hi - lo).toNat, ?_, fun b hb => ?_, q⟩
  · have e1 : lo + ((0 : Nat) : Int) * 1 = lo := by simp
    have e2 : (((hi - lo).toNat : Nat) : Int) - ((0 : Nat) : Int) = Builtin.Range.rangeSize lo hi 1 := by rw [rangeSize_one]; split <;> omega
    show IsRangeIter _ _ (lo + ((0 : Nat) : Int) * 1) ((((hi - lo).toNat : Nat) : Int) - ((0 : Nat) : Int)) 1
    rw [e1, e2]
    exact Heap.get?_push_size _ rfl
  · have e : b = (s.heap.push { cls := .type "range", data := .fields #[.int lo t, .int hi u, .int 1 v] }).objs.size := by simpa using hb
    subst e
    exact I1.fpOk (Nat.le_refl _) (I1.hok.fresh (Nat.le_refl _))
def iRng1 (ta : TA) : TI := fun σ H R => ta σ H fun vs H1 => ∃ j : Int, vs = [.int j] ∧ -(2 ^ 62) ≤ j ∧ j < 2 ^ 62 ∧ R (Itr 0 j.toNat) H1
theorem pi_range1 {a : Expr} {ta : TA} {p pos : Pos} (hg : Gl X "range") (hm : X.mg "range" = none) (ha : PA X [a] ta) (hs : starEach [a] X.env = [(false, eval a X.env)] := by rfl) : PI X tg (.Call (.Name "range" p) [a] [] pos) (iRng1 ta) := by
  intro pins s σ H R I h
  refine Call_ (ld_blt I hg hm boot_range (PyProof.Rows.callWith_type1 (thn (ha pos pins s σ H _ I h) fun us s1 ⟨vs, H1, I1, r1, q1⟩ => ?_) hs rfl))
  obtain ⟨j, e, q1, q2, q⟩ := q1
  subst e
  cases r1 with
  | cons r rr =>
    cases rr
    obtain ⟨t, rfl⟩ := r
    exact call_range_1 (range_it I1 (by omega) (by omega) q1 q2 (by simpa using q))
def tFor (wi : TI) (g : TG) (tb : TS) : TS := fun D σ H => wi σ H fun J H1 => ∃ W : Nat → Nat → St → Hp → Prop, (∃ m, W 0 m σ H1) ∧ ∀ i m σ H, W i m σ H →
  (J.stop i H ∧ D.nx σ H) ∨ (J.go i H ∧ ∃ N : St → Hp → Prop, (∀ σ' H', N σ' H' → ∃ m', m' < m ∧ W (i + 1) m' σ' H') ∧ ∀ x H', J.yld i H x H' → g x σ H' fun σ2 H2 => tb { D with nx := N, ct := N, bk := D.nx } σ2 H2)
def pinsAt (fp : List Addr) (h : Heap) : List (Addr × Obj) := fp.filterMap fun b => (h.get? b).map fun o => (b, o)
theorem mem_pinsAt {fp : List Addr} {h : Heap} {b : Addr} {o : Obj} (hb : b ∈ fp) (e : h.get? b = some o) : (b, o) ∈ pinsAt fp h := List.mem_filterMap.mpr ⟨b, hb, by rw [e]; rfl⟩
theorem of_pinsAt {fp : List Addr} {h : Heap} {p : Addr × Obj} (hp : p ∈ pinsAt fp h) : p.1 ∈ fp ∧ h.get? p.1 = some p.2 := by
  obtain ⟨b, hb, e⟩ := List.mem_filterMap.mp hp
  cases q : h.get? b with
  | none => rw [q] at e; cases e
  | some o =>
    rw [q] at e
    have e' : (b, o) = p := Option.some.inj e
    subst e'
    exact ⟨hb, q⟩
theorem Inv.pinned {pins : List (Addr × Obj)} {σ : St} {H : Hp} {s : Shared} {fp : List Addr} (I : Inv X pins σ H s) (hf : ∀ b ∈ fp, FpOk X pins H b) (ho : ∀ b ∈ fp, ∃ o, s.heap.get? b = some o ∧ ∀ v, o.data ≠ .cell v) : Inv X (pins ++ pinsAt fp s.heap) σ H s :=
  I.pins_of fun p hp => (List.mem_append.mp hp).elim (fun z => I.pin p (List.mem_append_right _ z)) fun z => by
    obtain ⟨hb, e⟩ := of_pinsAt z
    obtain ⟨f0, f1, f2, _⟩ := hf p.1 hb
    obtain ⟨o, e', d⟩ := ho p.1 hb
    rw [e] at e'; cases e'
    exact ⟨e, f0, f1, f2, d⟩
theorem Inv.unpinned {pins pl : List (Addr × Obj)} {σ : St} {H : Hp} {s : Shared} (I : Inv X (pins ++ pl) σ H s) : Inv X pins σ H s := I.pins_of fun p hp => I.pin p (List.mem_append_right _ (List.mem_append_left _ hp))
theorem ps_for {iter : Expr} {body : List Stmt} {wi : TI} {g : TG} {tb : TS} {pos : Pos} (hp : PassesOwn (model X.prog X.w) X.A X.env X.xe) (hc : X.calm = true) (hi : PI X tg iter wi) (hg : PG X tg g) (hb : PSs X body tb)
    (hs : ∀ x, foldedSetIterable iter X.env x = pure x := by intro _; rfl) : PS X (.For tg iter body [] pos) (tFor wi g tb) := by
  intro pins s σ H D I h
  refine wpAny_For (thn (hi pins s σ H _ I h) fun v s1 h1 => thn h1 fun itv s2 h2 => ?_) hs
  obtain ⟨it, fp, tn, J, H2, e, I2, T, st2, f2, W, ⟨m0, w0⟩, turn⟩ := h2
  subst e
  have stat : ∀ {H' : Hp}, (∀ b ∈ fp, H' b = none) → ∀ b ∈ fp, FpOk X pins H' b := fun hn b hb => ⟨hn b hb, (f2 b hb).2⟩
  refine codeAny_forLoop_any (fun n s' => ∃ i σ' H', Inv X pins σ' H' s' ∧ tn i s'.heap ∧ (∀ b ∈ fp, H' b = none) ∧ W i n σ' H') ?_ m0 ⟨0, σ, H2, I2, st2, fun b hb => (f2 b hb).1, w0⟩
  rintro n s3 ⟨i, σ3, H3, I3, st3, fr3, w3⟩
  rcases turn i n σ3 H3 w3 with ⟨stop, qn⟩ | ⟨go, N, hN, step⟩
  · refine wpAny_passesOwn hp (thn (T.done X rfl rfl rfl hc i pins s3 σ3 H3 X.xe I3 (stat fr3) st3 stop) fun r s4 ⟨hr, I4⟩ => ?_)
    subst hr
    exact wpAny_execs_nil ⟨σ3, H3, I4, qn⟩
  · refine wpAny_passesOwn hp (thn (T.item X rfl rfl rfl hc i pins s3 σ3 H3 X.xe I3 (stat fr3) st3 go) fun r s4 ⟨u, hr, h4⟩ => ?_)
    subst hr
    refine wpAny_passesOwn hp (thn h4 fun _ s5 ⟨x, H5, I5, r5, y5, st5, fr5⟩ => ?_)
    have I5' := I5.pinned (stat fr5) (T.obj _ _ st5)
    refine wpAny_passesOwn hp (thn (hg _ s5 σ3 H5 x u _ I5' r5 (step x H5 y5)) fun _ s6 ⟨σ6, H6, I6, q6⟩ => ?_)
    refine wpAny_passesOwn hp (thn (hb _ s6 σ6 H6 _ I6 q6) fun f s7 q7 => ?_)
    have again : ∀ {σ7 : St} {H7 : Hp}, Inv X (pins ++ pinsAt fp s5.heap) σ7 H7 s7 → N σ7 H7 → ∃ m, m < n ∧ ∃ i σ' H', Inv X pins σ' H' s7 ∧ tn i s7.heap ∧ (∀ b ∈ fp, H' b = none) ∧ W i m σ' H' := fun {σ7 H7} I7 n7 => by
      obtain ⟨m', hm, w7⟩ := hN σ7 H7 n7
      refine ⟨m', hm, i + 1, σ7, H7, I7.unpinned, T.keep _ _ _ st5 fun b hb o e => (I7.pin (b, o) (List.mem_append_right _ (List.mem_append_right _ (mem_pinsAt hb e)))).1, fun b hb => ?_, w7⟩
      obtain ⟨o, e, d⟩ := T.obj _ _ st5 b hb
      exact (I7.pin (b, o) (List.mem_append_right _ (List.mem_append_right _ (mem_pinsAt hb e)))).2.1
    cases f with
    | next => obtain ⟨σ7, H7, I7, n7⟩ := q7; exact again I7 n7
    | cont => obtain ⟨σ7, H7, I7, n7⟩ := q7; exact again I7 n7
    | brk => obtain ⟨σ7, H7, I7, q7⟩ := q7; exact ⟨σ7, H7, I7.unpinned, q7⟩
    | ret v => obtain ⟨x7, σ7, H7, I7, r7, q7⟩ := q7; exact ⟨x7, σ7, H7, I7.unpinned, r7, q7⟩
end
theorem for_list {K : PySem.W.Frag} {a : Addr} {xs : List V} {g : TG} {tb : TS} {D : Ends} {σ : St} {H : Hp} (Pv : Nat → St → Hp → Prop) (h0 : Pv 0 σ H) (hl : ∀ i σ H, i ≤ xs.length → Pv i σ H → SqL K H a xs)
    (hs : ∀ i x σ H, xs[i]? = some x → Pv i σ H → g x σ H fun σ2 H2 => tb { D with nx := Pv (i + 1), ct := Pv (i + 1), bk := D.nx } σ2 H2) (hd : ∀ σ H, Pv xs.length σ H → D.nx σ H) :
    ∃ W : Nat → Nat → St → Hp → Prop, (∃ m, W 0 m σ H) ∧ ∀ i m σ H, W i m σ H →
      ((Itl K a).stop i H ∧ D.nx σ H) ∨ ((Itl K a).go i H ∧ ∃ N : St → Hp → Prop, (∀ σ' H', N σ' H' → ∃ m', m' < m ∧ W (i + 1) m' σ' H') ∧ ∀ x H', (Itl K a).yld i H x H' → g x σ H' fun σ2 H2 => tb { D with nx := N, ct := N, bk := D.nx } σ2 H2) := by
  refine ⟨fun i m σ H => m = xs.length - i ∧ i ≤ xs.length ∧ Pv i σ H, ⟨xs.length, by simp, Nat.zero_le _, h0⟩, ?_⟩
  rintro i m σ H ⟨rfl, hi, p⟩
  have q := hl i σ H hi p
  by_cases hlt : i < xs.length
  · refine .inr ⟨⟨xs, xs[i], q, by simp [hlt]⟩, Pv (i + 1), fun σ' H' p' => ⟨xs.length - (i + 1), by omega, rfl, hlt, p'⟩, fun x H' y => ?_⟩
    obtain ⟨e, y⟩ := y
    subst e
    exact hs i x σ _ (y xs q) p
  · have e : i = xs.length := by omega
    subst e
    exact .inl ⟨⟨xs, q, Nat.le_refl _⟩, hd σ H p⟩
theorem for_tup {K : PySem.W.Frag} {a : Addr} {xs : List V} {g : TG} {tb : TS} {D : Ends} {σ : St} {H : Hp} (Pv : Nat → St → Hp → Prop) (h0 : Pv 0 σ H) (hl : ∀ i σ H, i ≤ xs.length → Pv i σ H → SqT K H a xs)
    (hs : ∀ i x σ H, xs[i]? = some x → Pv i σ H → g x σ H fun σ2 H2 => tb { D with nx := Pv (i + 1), ct := Pv (i + 1), bk := D.nx } σ2 H2) (hd : ∀ σ H, Pv xs.length σ H → D.nx σ H) :
    ∃ W : Nat → Nat → St → Hp → Prop, (∃ m, W 0 m σ H) ∧ ∀ i m σ H, W i m σ H →
      ((Itt K a).stop i H ∧ D.nx σ H) ∨ ((Itt K a).go i H ∧ ∃ N : St → Hp → Prop, (∀ σ' H', N σ' H' → ∃ m', m' < m ∧ W (i + 1) m' σ' H') ∧ ∀ x H', (Itt K a).yld i H x H' → g x σ H' fun σ2 H2 => tb { D with nx := N, ct := N, bk := D.nx } σ2 H2) := by
  refine ⟨fun i m σ H => m = xs.length - i ∧ i ≤ xs.length ∧ Pv i σ H, ⟨xs.length, by simp, Nat.zero_le _, h0⟩, ?_⟩
  rintro i m σ H ⟨rfl, hi, p⟩
  have q := hl i σ H hi p
  by_cases hlt : i < xs.length
  · refine .inr ⟨⟨xs, xs[i], q, by simp [hlt]⟩, Pv (i + 1), fun σ' H' p' => ⟨xs.length - (i + 1), by omega, rfl, hlt, p'⟩, fun x H' y => ?_⟩
    obtain ⟨e, y⟩ := y
    subst e
    exact hs i x σ _ (y xs q) p
  · have e : i = xs.length := by omega
    subst e
    exact .inl ⟨⟨xs, q, Nat.le_refl _⟩, hd σ H p⟩
theorem for_range {lo : Int} {n : Nat} {g : TG} {tb : TS} {D : Ends} {σ : St} {H : Hp} (Pv : Nat → St → Hp → Prop) (h0 : Pv 0 σ H)
    (hs : ∀ i σ H, i < n → Pv i σ H → g (.int (lo + i)) σ H fun σ2 H2 => tb { D with nx := Pv (i + 1), ct := Pv (i + 1), bk := D.nx } σ2 H2) (hd : ∀ σ H, Pv n σ H → D.nx σ H) :
    ∃ W : Nat → Nat → St → Hp → Prop, (∃ m, W 0 m σ H) ∧ ∀ i m σ H, W i m σ H →
      ((Itr lo n).stop i H ∧ D.nx σ H) ∨ ((Itr lo n).go i H ∧ ∃ N : St → Hp → Prop, (∀ σ' H', N σ' H' → ∃ m', m' < m ∧ W (i + 1) m' σ' H') ∧ ∀ x H', (Itr lo n).yld i H x H' → g x σ H' fun σ2 H2 => tb { D with nx := N, ct := N, bk := D.nx } σ2 H2) := by
  refine ⟨fun i m σ H => m = n - i ∧ i ≤ n ∧ Pv i σ H, ⟨n, by simp, Nat.zero_le _, h0⟩, ?_⟩
  rintro i m σ H ⟨rfl, hi, p⟩
  by_cases hlt : i < n
  · refine .inr ⟨hlt, Pv (i + 1), fun σ' H' p' => ⟨n - (i + 1), by omega, rfl, hlt, p'⟩, fun x H' y => ?_⟩
    obtain ⟨e, y⟩ := y
    subst e y
    exact hs i σ _ hlt p
  · have e : i = n := by omega
    subst e
    exact .inl ⟨Nat.le_refl _, hd σ H p⟩
end L2
namespace L2
open PySem PySem.Spec PyProof.Rows
abbrev R2 := V → V → Hp → VK → Prop
def OpR (X : Cx) (f : Value → Value → Sem Value) (r : R2) : Prop :=
  ∀ (pins : List (Addr × Obj)) (s : Shared) (σ : St) (H : Hp) (x y : V) (v u : Value) (Q : VK), Inv X pins σ H s → RelV x v → RelV y u → r x y H Q →
    wpAny (model X.prog X.w) X.A (f v u) (EP X pins σ Q) X.xe s
def CallR (X : Cx) (f : Value) (r : List V → Hp → VK → Prop) : Prop :=
  ∀ (pins : List (Addr × Obj)) (s : Shared) (σ : St) (H : Hp) (xs : List V) (us : List Value) (Q : VK), Inv X pins σ H s → Vals xs us → r xs H Q →
    wpAny (model X.prog X.w) X.A (call f us) (EP X pins σ Q) X.xe s
def tOp (r : R2) (ta tb : TE) : TE := fun σ H Q => ta σ H fun x H1 => tb σ H1 fun y H2 => r x y H2 Q
def rI (C : Int → Int → Prop) (g : Int → Int → V) : R2 := fun x y H Q => ∃ i j, x = .int i ∧ y = .int j ∧ C i j ∧ Q (g i j) H
def rI0 (g : Int → Int → V) : R2 := fun x y H Q => ∃ i j, x = .int i ∧ y = .int j ∧ Q (g i j) H
section
variable {X : Cx} {a b c : Expr} {ta tb tc : TE} {pos : Pos}
theorem binT (ha : PE X a ta) (hb : PE X b tb) {pins : List (Addr × Obj)} {s : Shared} {σ : St} {H : Hp} {R : V → V → Hp → Prop} (I : Inv X pins σ H s)
    (h : ta σ H fun x H1 => tb σ H1 fun y H2 => R x y H2) {Q : Value → Shared → Prop} {f : Value → Value → Sem Value}
    (hf : ∀ v u s2 x y H2, Inv X pins σ H2 s2 → RelV x v → RelV y u → R x y H2 → wpAny (model X.prog X.w) X.A (f v u) Q X.xe s2) :
    wpAny (model X.prog X.w) X.A (eval a X.env) (fun v s₁ => wpAny (model X.prog X.w) X.A (eval b X.env) (fun u s₂ => wpAny (model X.prog X.w) X.A (f v u) Q X.xe s₂) X.xe s₁) X.xe s := by
  refine thn (ha pins s σ H _ I h) fun v s1 ⟨x, H1, I1, r1, q1⟩ => ?_
  refine thn (hb pins s1 σ H1 _ I1 q1) fun u s2 ⟨y, H2, I2, r2, q2⟩ => ?_
  exact hf v u s2 x y H2 I2 r1 r2 q2
theorem pe_op {op : Operator} {r : R2} (ho : OpR X (binaryOp op) r) (ha : PE X a ta) (hb : PE X b tb) : PE X (.BinOp a op b pos) (tOp r ta tb) := by
  intro pins s σ H Q I h
  exact wpAny_BinOp (binT ha hb I h fun v u s2 x y H2 I2 rx ry q => ho pins s2 σ H2 x y v u Q I2 rx ry q)
theorem opI {f : Value → Value → Sem Value} {C : Int → Int → Prop} {g : Int → Int → Int}
    (rule : ∀ (i j : Int) (t u : Tok) (s : Shared) (Q : Value → Shared → Prop) (E : Value → Shared → Prop), C i j → Q (.int (g i j) s.toks) { s with toks := s.toks + 1 } → wpAny (model X.prog X.w) X.A (f (.int i t) (.int j u)) Q E s) :
    OpR X f (rI C fun i j => .int (g i j)) := by
  intro pins s σ H x y v u Q I rx ry h
  obtain ⟨i, j, rfl, rfl, hc, q⟩ := h
  obtain ⟨t, rfl⟩ := rx
  obtain ⟨t', rfl⟩ := ry
  exact rule i j t t' s _ _ hc ⟨.int (g i j), H, I.tok _, ⟨_, rfl⟩, q⟩
theorem opI0 {f : Value → Value → Sem Value} {g : Int → Int → Int}
    (rule : ∀ (i j : Int) (t u : Tok) (s : Shared) (Q : Value → Shared → Prop) (E : Value → Shared → Prop), Q (.int (g i j) s.toks) { s with toks := s.toks + 1 } → wpAny (model X.prog X.w) X.A (f (.int i t) (.int j u)) Q E s) :
    OpR X f (rI0 fun i j => .int (g i j)) := by
  intro pins s σ H x y v u Q I rx ry h
  obtain ⟨i, j, rfl, rfl, q⟩ := h
  obtain ⟨t, rfl⟩ := rx
  obtain ⟨t', rfl⟩ := ry
  exact rule i j t t' s _ _ ⟨.int (g i j), H, I.tok _, ⟨_, rfl⟩, q⟩
theorem opB0 {f : Value → Value → Sem Value} {g : Int → Int → Bool}
    (rule : ∀ (i j : Int) (t u : Tok) (s : Shared) (Q : Value → Shared → Prop) (E : Value → Shared → Prop), Q (.bool (g i j)) s → wpAny (model X.prog X.w) X.A (f (.int i t) (.int j u)) Q E s) :
    OpR X f (rI0 fun i j => .bl (g i j)) := by
  intro pins s σ H x y v u Q I rx ry h
  obtain ⟨i, j, rfl, rfl, q⟩ := h
  obtain ⟨t, rfl⟩ := rx
  obtain ⟨t', rfl⟩ := ry
  exact rule i j t t' s _ _ ⟨.bl (g i j), H, I, rfl, q⟩
def CDiv (i j : Int) : Prop := 0 < j ∧ j < 1073741824
def CPow (i j : Int) : Prop := 0 ≤ j ∧ j ≤ 1000000 ∧ i.natAbs < 2 ^ 64
def CMul (i j : Int) : Prop := (-(2 ^ 64) < i ∧ i < 2 ^ 64) ∨ (-(2 ^ 64) < j ∧ j < 2 ^ 64)
theorem CMul.ok {i j : Int} (h : CMul i j) : IntMulOk i j := by
  rcases h with ⟨h1, h2⟩ | ⟨h1, h2⟩
  · exact .of_left (intBits_le_64 h1 h2)
  · exact .of_right (intBits_le_64 h1 h2)
theorem op_add : OpR X (binaryOp .Add) (rI0 fun i j => .int (i + j)) := opI0 fun _ _ _ _ _ _ _ q => add_int q
theorem op_sub : OpR X (binaryOp .Sub) (rI0 fun i j => .int (i - j)) := opI0 fun _ _ _ _ _ _ _ q => sub_int q
theorem op_mul : OpR X (binaryOp .Mult) (rI CMul fun i j => .int (i * j)) := opI fun _ _ _ _ _ _ _ hc q => mul_int q hc.ok
theorem op_fdiv : OpR X (binaryOp .FloorDiv) (rI CDiv fun i j => .int (i / j)) := opI fun i j _ _ _ _ _ hc q => by
  have h1 : (0 : Int) < j := hc.1
  have h2 : j < 1073741824 := hc.2
  exact floordiv_int (by omega) (by rw [Int.fdiv_eq_ediv_of_nonneg i (by omega)]; exact q) (.inl (PyProof.noPylong_small (by omega)))
theorem op_mod : OpR X (binaryOp .Mod) (rI (fun _ j => 0 < j) fun i j => .int (i % j)) := opI fun i j _ _ _ _ _ hc q => by
  have h1 : (0 : Int) < j := hc
  exact mod_int' (by omega) (by rw [Int.fmod_eq_emod_of_nonneg i (by omega)]; exact q)
theorem op_pow : OpR X (binaryOp .Pow) (rI CPow fun i j => .int (i ^ j.toNat)) := opI fun _ _ _ _ _ _ _ hc q => pow_int_small hc.1 hc.2.1 hc.2.2 q
end
def scal : V → V → Bool
  | .non, .non => true | .non, .int _ => true | .int _, .non => true | .non, .bl _ => true | .bl _, .non => true | .non, .str _ => true | .str _, .non => true
  | .int _, .int _ => true | .bl _, .bl _ => true | .str _, .str _ => true | .byt _, .byt _ => true
  | .int _, .str _ => true | .str _, .int _ => true | .bl _, .str _ => true | .str _, .bl _ => true
  | _, _ => false
def rEq : R2 := fun x y H Q => scal x y = true ∧ Q (.bl (decide (x = y))) H
def rNe : R2 := fun x y H Q => scal x y = true ∧ Q (.bl (!decide (x = y))) H
theorem dec_int {i j : Int} : decide (V.int i = V.int j) = (i == j) := by
  rw [Bool.eq_iff_iff]
  simp
theorem dec_bl {i j : Bool} : decide (V.bl i = V.bl j) = (i == j) := by
  rw [Bool.eq_iff_iff]
  simp
theorem dec_str {i j : Str} : decide (V.str i = V.str j) = (i == j) := by
  rw [Bool.eq_iff_iff]
  simp
theorem dec_byt {i j : Array UInt8} : decide (V.byt i = V.byt j) = (i.toList == j.toList) := by
  rw [Bool.eq_iff_iff]
  cases i
  cases j
  simp
section
variable {X : Cx} {a b c : Expr} {ta tb tc : TE} {pos : Pos}
theorem fin_bl {pins : List (Addr × Obj)} {σ : St} {H : Hp} {s : Shared} {Q : VK} {k k' : Bool} (I : Inv X pins σ H s) (q : Q (.bl k) H) (e : k = k') : EP X pins σ Q (.bool k') s := by
  subst e
  exact ⟨.bl k, H, I, rfl, q⟩
theorem op_eq : OpR X (compareOp .Eq) rEq := by
  intro pins s σ H x y v u Q I rx ry h
  obtain ⟨hs, q⟩ := h
  cases x with
  | non =>
    cases rx
    cases y with
    | non => cases ry; exact PySem.EqNone.eq_none_none (fin_bl I q (by simp))
    | bl j => cases ry; exact PySem.EqNone.eq_none_bool (fin_bl I q (by simp))
    | int j => obtain ⟨t', rfl⟩ := ry; exact PySem.EqNone.eq_none_int (fin_bl I q (by simp))
    | str j => obtain ⟨t', rfl⟩ := ry; exact PySem.EqNone.eq_none_str (fin_bl I q (by simp))
    | _ => exact absurd (show false = true from hs) Bool.false_ne_true
  | bl i =>
    cases rx
    cases y with
    | non => cases ry; exact PySem.EqNone.eq_bool_none (fin_bl I q (by simp))
    | bl j => cases ry; exact eq_bool (fin_bl I q dec_bl)
    | str j => obtain ⟨t', rfl⟩ := ry; exact PySem.EqMixed.eq_bool_str (fin_bl I q (by simp))
    | _ => exact absurd (show false = true from hs) Bool.false_ne_true
  | int i =>
    obtain ⟨t, rfl⟩ := rx
    cases y with
    | non => cases ry; exact PySem.EqNone.eq_int_none (fin_bl I q (by simp))
    | int j => obtain ⟨t', rfl⟩ := ry; exact eq_int (fin_bl I q dec_int)
    | str j => obtain ⟨t', rfl⟩ := ry; exact PySem.EqMixed.eq_int_str (fin_bl I q (by simp))
    | _ => exact absurd (show false = true from hs) Bool.false_ne_true
  | str i =>
    obtain ⟨t, rfl⟩ := rx
    cases y with
    | non => cases ry; exact PySem.EqNone.eq_str_none (fin_bl I q (by simp))
    | bl j => cases ry; exact PySem.EqMixed.eq_str_bool (fin_bl I q (by simp))
    | int j => obtain ⟨t', rfl⟩ := ry; exact PySem.EqMixed.eq_str_int (fin_bl I q (by simp))
    | str j => obtain ⟨t', rfl⟩ := ry; exact eq_str (fin_bl I q dec_str)
    | _ => exact absurd (show false = true from hs) Bool.false_ne_true
  | byt i =>
    obtain ⟨t, rfl⟩ := rx
    cases y with
    | byt j => obtain ⟨t', rfl⟩ := ry; exact PySem.W.eq_bytes (fin_bl I q dec_byt)
    | _ => exact absurd (show false = true from hs) Bool.false_ne_true
  | _ => cases y <;> exact absurd (show false = true from hs) Bool.false_ne_true
theorem op_ne : OpR X (compareOp .NotEq) rNe := by
  intro pins s σ H x y v u Q I rx ry h
  obtain ⟨hs, q⟩ := h
  cases x with
  | non =>
    cases rx
    cases y with
    | non => cases ry; exact PySem.EqNone.ne_none_none (fin_bl I q (by simp))
    | bl j => cases ry; exact PySem.EqNone.ne_none_bool (fin_bl I q (by simp))
    | int j => obtain ⟨t', rfl⟩ := ry; exact PySem.EqNone.ne_none_int (fin_bl I q (by simp))
    | str j => obtain ⟨t', rfl⟩ := ry; exact PySem.EqNone.ne_none_str (fin_bl I q (by simp))
    | _ => exact absurd (show false = true from hs) Bool.false_ne_true
  | bl i =>
    cases rx
    cases y with
    | non => cases ry; exact PySem.EqNone.ne_bool_none (fin_bl I q (by simp))
    | bl j => cases ry; exact ne_bool (fin_bl I q (congrArg not dec_bl))
    | str j => obtain ⟨t', rfl⟩ := ry; exact PySem.EqMixed.ne_bool_str (fin_bl I q (by simp))
    | _ => exact absurd (show false = true from hs) Bool.false_ne_true
  | int i =>
    obtain ⟨t, rfl⟩ := rx
    cases y with
    | non => cases ry; exact PySem.EqNone.ne_int_none (fin_bl I q (by simp))
    | int j => obtain ⟨t', rfl⟩ := ry; exact ne_int (fin_bl I q (congrArg not dec_int))
    | str j => obtain ⟨t', rfl⟩ := ry; exact PySem.EqMixed.ne_int_str (fin_bl I q (by simp))
    | _ => exact absurd (show false = true from hs) Bool.false_ne_true
  | str i =>
    obtain ⟨t, rfl⟩ := rx
    cases y with
    | non => cases ry; exact PySem.EqNone.ne_str_none (fin_bl I q (by simp))
    | bl j => cases ry; exact PySem.EqMixed.ne_str_bool (fin_bl I q (by simp))
    | int j => obtain ⟨t', rfl⟩ := ry; exact PySem.EqMixed.ne_str_int (fin_bl I q (by simp))
    | str j => obtain ⟨t', rfl⟩ := ry; exact ne_str (fin_bl I q (congrArg not dec_str))
    | _ => exact absurd (show false = true from hs) Bool.false_ne_true
  | byt i =>
    obtain ⟨t, rfl⟩ := rx
    cases y with
    | byt j => obtain ⟨t', rfl⟩ := ry; exact PySem.W.ne_bytes (fin_bl I q (congrArg not dec_byt))
    | _ => exact absurd (show false = true from hs) Bool.false_ne_true
  | _ => cases y <;> exact absurd (show false = true from hs) Bool.false_ne_true
theorem op_lt : OpR X (compareOp .Lt) (rI0 fun i j => .bl (decide (i < j))) := opB0 fun _ _ _ _ _ _ _ q => lt_int q
theorem op_gt : OpR X (compareOp .Gt) (rI0 fun i j => .bl (decide (j < i))) := opB0 fun _ _ _ _ _ _ _ q => gt_int q
theorem op_ge : OpR X (compareOp .GtE) (rI0 fun i j => .bl (decide (j ≤ i))) := opB0 fun _ _ _ _ _ _ _ q => ge_int q
theorem op_isN : OpR X (compareOp .Is) (fun x y H Q => y = .non ∧ Q (.bl (decide (x = .non))) H) := by
  intro pins s σ H x y v u Q I rx ry h
  obtain ⟨rfl, q⟩ := h
  cases ry
  refine is_none_gen (fin_bl I q ?_)
  cases x <;> first
    | (cases rx; rfl)
    | (obtain ⟨t, rfl⟩ := rx; rfl)
theorem op_notN : OpR X (compareOp .IsNot) (fun x y H Q => y = .non ∧ Q (.bl (!decide (x = .non))) H) := by
  intro pins s σ H x y v u Q I rx ry h
  obtain ⟨rfl, q⟩ := h
  cases ry
  refine isnot_none_gen (fin_bl I q ?_)
  cases x <;> first
    | (cases rx; rfl)
    | (obtain ⟨t, rfl⟩ := rx; rfl)
theorem nomark (b : Expr) {op : CmpOp} (h : op ≠ .In := by decide) (h2 : op ≠ .NotIn := by decide) : behindInMarks op b = false := by
  have e1 : (op == CmpOp.In) = false := by cases op <;> first | rfl | exact absurd rfl h
  have e2 : (op == CmpOp.NotIn) = false := by cases op <;> first | rfl | exact absurd rfl h2
  cases b <;> simp [behindInMarks, e1, e2]
theorem pe_cmpR {op : CmpOp} {r : R2} (ho : OpR X (compareOp op) r) (ha : PE X a ta) (hb : PE X b tb) (hm : behindInMarks op b = false) : PE X (.Compare a [op] [b] pos) (tOp r ta tb) := by
  intro pins s σ H Q I h
  exact wpAny_Compare1 (binT ha hb I h fun v u s2 x y H2 I2 rx ry q => ho pins s2 σ H2 x y v u Q I2 rx ry q) hm
def tTest (t : TE) : TT := fun σ H Q => t σ H fun x H' => ∃ k, x = .bl k ∧ Q k H'
theorem pt_cmpR {op : CmpOp} {r : R2} (ho : OpR X (compareOp op) r) (ha : PE X a ta) (hb : PE X b tb) (hm : behindInMarks op b = false) : PT X (.Compare a [op] [b] pos) (tTest (tOp r ta tb)) := by
  intro pins s σ H Q I h
  refine wpAny_isTrue_Compare1 (thn (ha pins s σ H _ I h) fun v s1 ⟨x, H1, I1, r1, q1⟩ => thn (hb pins s1 σ H1 _ I1 q1) fun u s2 ⟨y, H2, I2, r2, q2⟩ =>
    thn (ho pins s2 σ H2 x y v u _ I2 r1 r2 q2) fun c s3 ⟨z, H3, I3, r3, k, e, q3⟩ => ?_) hm
  subst e
  cases r3
  exact wpAny_truthy_bool ⟨H3, I3, q3⟩
theorem line63 : (sizeLine : Nat) < 2 ^ 63 := by rw [sizeLine_eq]; decide
theorem vals1 {x : V} {us : List Value} (r : Vals [x] us) : ∃ u, us = [u] ∧ RelV x u := by
  cases r with
  | cons r1 r2 => cases r2; exact ⟨_, rfl, r1⟩
theorem vals2 {x y : V} {us : List Value} (r : Vals [x, y] us) : ∃ u w', us = [u, w'] ∧ RelV x u ∧ RelV y w' := by
  cases r with
  | cons r1 r2 =>
    cases r2 with
    | cons r3 r4 => cases r4; exact ⟨_, _, rfl, r1, r3⟩
theorem call_abs : CallR X (.builtin "abs") (fun xs H Q => ∃ i, xs = [.int i] ∧ Q (.int (if i < 0 then -i else i)) H) := by
  intro pins s σ H xs us Q I r h
  obtain ⟨i, rfl, q⟩ := h
  obtain ⟨u, rfl, t, rfl⟩ := vals1 r
  exact call_abs_int fun u tk => ⟨.int (if i < 0 then -i else i), H, I.tok _, ⟨_, rfl⟩, q⟩
theorem call_min2 (hc : X.calm = true) : CallR X (.builtin "min") (fun xs H Q => ∃ i j, xs = [.int i, .int j] ∧ Q (.int (if j < i then j else i)) H) := by
  intro pins s σ H xs us Q I r h
  obtain ⟨i, j, rfl, q⟩ := h
  obtain ⟨u, w', rfl, ⟨t, rfl⟩, ⟨t', rfl⟩⟩ := vals2 r
  refine min_two_ints (I.ok.hd hc) fun h' tk k => ⟨_, H, I.kept k, ?_, q⟩
  by_cases hj : j < i
  · rw [if_pos hj, if_pos hj]; exact ⟨_, rfl⟩
  · rw [if_neg hj, if_neg hj]; exact ⟨_, rfl⟩
theorem call_int1 : CallR X (.type "int") (fun xs H Q => (∃ i, xs = [.int i] ∧ Q (.int i) H) ∨ ∃ k, xs = [.bl k] ∧ Q (.int (if k then 1 else 0)) H) := by
  intro pins s σ H xs us Q I r h
  rcases h with ⟨i, rfl, q⟩ | ⟨k, rfl, q⟩
  · obtain ⟨u, rfl, t, rfl⟩ := vals1 r
    exact call_int_int ⟨.int i, H, I, ⟨_, rfl⟩, q⟩
  · obtain ⟨u, rfl, r1⟩ := vals1 r
    cases r1
    exact call_int_bool ⟨.int (if k then 1 else 0), H, I.tok _, ⟨_, rfl⟩, q⟩
theorem call_ord : CallR X (.builtin "ord") (fun xs H Q => ∃ x, xs = [.str x] ∧ x.length = 1 ∧ Q (.int (x.cps.getD 0 0 : Nat)) H) := by
  intro pins s σ H xs us Q I r h
  obtain ⟨x, rfl, hz, q⟩ := h
  obtain ⟨u, rfl, t, rfl⟩ := vals1 r
  exact ord_of_one hz ⟨.int _, H, I.tok _, ⟨_, rfl⟩, q⟩
end
end L2
namespace L2
open PySem PySem.Spec PyProof.Rows
structure ObjM (h : Heap) (x dx C : Addr) (mA : Str → Option Value) : Prop where
  obj : h.get? x = some (PySem.W.instObj C dx)
  ns : h.Ns1 dx mA
  ne : dx ≠ x
theorem lookIn_ns {h : Heap} {dx : Addr} {mA : Str → Option Value} (n : h.Ns1 dx mA) : ∃ od, h.get? dx = some od ∧ ∀ name, PySem.W.lookIn name od = some (mA name) := by
  obtain ⟨o, es, ep, ho, hd, hk, _, hm⟩ := n
  refine ⟨o, ho, fun name => ?_⟩
  have e := hm name
  unfold nsFind findBy at e
  rw [← Array.find?_toList] at e
  unfold PySem.W.lookIn
  rw [hd]
  dsimp only
  split
  · rename_i y q
    rw [q] at e
    exact congrArg some e
  · rename_i q
    rw [q] at e
    have a : es.toList.any (·.refKey) = false := by
      rw [List.any_eq_false]
      intro y hy
      obtain ⟨z, t, hkey⟩ := hk y (Array.mem_toList_iff.mp hy)
      simp [DictEntry.refKey, hkey]
    have a' : ¬ es.toList.any (·.refKey) = true := by rw [a]; exact Bool.false_ne_true
    rw [if_neg a']
    exact congrArg some e
theorem ObjM.look {h : Heap} {x dx C : Addr} {mA : Str → Option Value} (I : ObjM h x dx C mA) : ∃ od, PySem.W.InstAt h x (PySem.W.instObj C dx) C (some od) ∧ ∀ name, PySem.W.lookIn name od = some (mA name) :=
  let ⟨od, ho, hl⟩ := lookIn_ns I.ns
  ⟨od, ⟨I.obj, rfl, rfl, ho⟩, hl⟩
section
variable {prog : Program} {w : World} {A : Around} {E : Value → Shared → Prop} {s : Shared} {K : PySem.W.Frag} {x dx C f : Addr} {mA : Str → Option Value} {name : Str} {v : Value}
theorem get_map {expr : Bool} {Q : Value → Shared → Prop} (X : K.In s.heap) (I : ObjM s.heap x dx C mA) (hg : PySem.W.plainGet K C name = true) (hh : PySem.W.hasDictIn K C = true)
    (ha : PySem.W.findIn K (.ref C) name = some none) (hv : mA name = some v) (hv' : PySem.W.handedIn v = true) (h : Q v { s with toks := s.toks + 1 }) :
    wpAny (model prog w) A (getAttr (.ref x) name expr) Q E s := by
  obtain ⟨od, J, hl⟩ := I.look
  exact PySem.W.get_value X J (PySem.W.plainGet_of hg).1 (PySem.W.findObj_own hh ha rfl (by rw [hl, hv])) hv' h
theorem get_meth {pl : Sem Bool} {Q : Value × List Value → Shared → Prop} (X : K.In s.heap) (I : ObjM s.heap x dx C mA) (hg : PySem.W.plainGet K C name = true)
    (hf : PySem.W.findIn K (.ref C) name = some (some (.ref f))) (ht : PySem.W.isFn K (.ref f) = true) (hv : mA name = none) (h : Q (.ref f, [.ref x]) s) :
    wpAny (model prog w) A (getMethod (.ref x) name pl) Q E s := by
  obtain ⟨od, J, hl⟩ := I.look
  exact PySem.W.method_fn X J (PySem.W.plainGet_of hg).1 (PySem.W.plainGet_of hg).2 hf (beq_iff_eq.mp ht) (by show (PySem.W.lookIn name od).map (·.isSome) = some false; rw [hl, hv]; rfl) h
theorem set_map {ns : List Str} {Q : Unit → Shared → Prop} (X : K.In s.heap) (I : ObjM s.heap x dx C mA)
    (hs : PySem.W.findIn K (.ref C) "__setattr__" = some (some (.builtin "object.__setattr__"))) (hp : PySem.W.plainOver K C = true) (ht : PySem.W.takerIn K C name = some none) (hh : PySem.W.hasDictIn K C = true)
    (hw : PySem.Within mA ns) (hsz : ns.length ≤ sizeLine)
    (h : ∀ h', ObjM h' x dx C (fun y => if y = name then some v else mA y) → Heap.SameBut dx s.heap h' → Q () { s with heap := h', toks := s.toks + 2 }) :
    wpAny (model prog w) A (setAttr (.ref x) name v) Q E s := by
  obtain ⟨od, J, hl⟩ := I.look
  refine PySem.W.set_plain X J hs (PySem.W.osa_open (s := { s with toks := s.toks + 1 }) (r := none) X J hp ht fun b => ?_)
  obtain ⟨cd, hc, hd'⟩ := PySem.W.any_some hh
  have hx : s.heap.get? x = some ⟨.ref C, some dx, .plain, #[]⟩ := I.obj
  refine wpAny_bind (wpAny_pure (wpAny_bind (wpAny_bind (wpAny_loadPart hx (wpAny_bind (PySem.W.Looks.here (s := { s with toks := s.toks + 1 }) (PySem.W.looks_clsIn X hc) ?_))))))
  rw [hd']
  refine wpAny_pure (a := some dx) (wpAny_bind (wpAny_pure (wpAny_bind ?_)))
  refine wpAny_nsSet1 (s := { s with toks := s.toks + 1 }) I.ns fun h' hn2 hs2 => ?_
  obtain ⟨oD, esD, epD, hoD, hdD, hcD⟩ := hn2.count (PySem.Within.cons name v hw)
  refine wpAny_bind (wpAny_lookBehind hoD (by rw [hdD]; exact pastItsLine_dict (Nat.le_trans hcD (by rw [List.length_cons]; omega))) ?_)
  exact wpAny_pure (h _ ⟨(hs2.2 _ (Ne.symm I.ne)).trans I.obj, hn2, I.ne⟩ hs2)
theorem make_map {R : Result → Shared → Prop} {vs : List Value} {kw : List (Str × Value)} (X : K.In s.heap) (hm : PySem.W.makesIn K C = true)
    (hi : PySem.W.findIn K (.ref C) "__init__" = some (some (.ref f))) (hf : PySem.W.typeIn K (.ref f) = some (.type "function"))
    (h : codeAny (model prog w) (A.under (.builtin "type.__call__" ⟨.ref C :: vs, kw⟩)) (.call (.ref f) ⟨.ref (s.heap.objs.size + 1) :: vs, kw⟩) (PySem.W.InitBack (s.heap.objs.size + 1) R)
      { s with heap := (s.heap.push PySem.W.emptyDict).push (PySem.W.instObj C s.heap.objs.size) }) :
    codeAny (model prog w) A (.call (.ref C) ⟨vs, kw⟩) R s := by
  obtain ⟨hh, g, d, t, os⟩ := s
  exact PySem.W.make_core (PySem.W.makes_of X hm) (PySem.W.looks_findIn X hi) (fun self => PySem.W.bind_fn X self hf) (.inl rfl) h
end
def putF (f : Str) (v : V) : List (Str × V) → List (Str × V)
  | [] => [(f, v)]
  | (g, x) :: r => if g = f then (g, v) :: r else (g, x) :: putF f v r
theorem lookup_putF (f g : Str) (v : V) : ∀ fs : List (Str × V), (putF f v fs).lookup g = if g = f then some v else fs.lookup g
  | [] => by
    show List.lookup g [(f, v)] = _
    by_cases h : g = f
    · have hb : (g == f) = true := beq_iff_eq.mpr h
      simp only [List.lookup, hb, if_pos h]
    · have hb : (g == f) = false := beq_eq_false_iff_ne.mpr h
      simp only [List.lookup, hb, if_neg h]
  | (k, x) :: r => by
    have ih := lookup_putF f g v r
    rw [show putF f v ((k, x) :: r) = (if k = f then (k, v) :: r else (k, x) :: putF f v r) from rfl]
    by_cases hk : k = f
    · rw [if_pos hk]
      by_cases h : g = k
      · have hb : (g == k) = true := beq_iff_eq.mpr h
        simp only [List.lookup, hb, if_pos (h.trans hk)]
      · have hb : (g == k) = false := beq_eq_false_iff_ne.mpr h
        simp only [List.lookup, hb, if_neg (fun e : g = f => h (e.trans hk.symm))]
    · rw [if_neg hk]
      by_cases h : g = k
      · have hb : (g == k) = true := beq_iff_eq.mpr h
        simp only [List.lookup, hb, if_neg (fun e : g = f => hk (h.symm.trans e))]
      · have hb : (g == k) = false := beq_eq_false_iff_ne.mpr h
        simp only [List.lookup, hb]
        exact ih
theorem keys_putF (f : Str) (v : V) : ∀ fs : List (Str × V), f ∈ (putF f v fs).map (·.1) ∧ ∀ g, g ∈ fs.map (·.1) → g ∈ (putF f v fs).map (·.1)
  | [] => ⟨by simp [putF], fun g h => by simp at h⟩
  | (k, x) :: r => by
    obtain ⟨i1, i2⟩ := keys_putF f v r
    rw [show putF f v ((k, x) :: r) = (if k = f then (k, v) :: r else (k, x) :: putF f v r) from rfl]
    by_cases hk : k = f
    · rw [if_pos hk]
      subst hk
      exact ⟨by simp, fun g h => by simpa using h⟩
    · rw [if_neg hk]
      refine ⟨?_, fun g h => ?_⟩
      · rw [List.map_cons]
        exact List.mem_cons_of_mem _ i1
      · rw [List.map_cons] at h ⊢
        rcases List.mem_cons.mp h with e | e
        · exact List.mem_cons.mpr (.inl e)
        · exact List.mem_cons_of_mem _ (i2 g e)
theorem length_putF (f : Str) (v : V) : ∀ fs : List (Str × V), (putF f v fs).length ≤ fs.length + 1
  | [] => by simp [putF]
  | (k, x) :: r => by
    have ih := length_putF f v r
    rw [show putF f v ((k, x) :: r) = (if k = f then (k, v) :: r else (k, x) :: putF f v r) from rfl]
    by_cases hk : k = f
    · rw [if_pos hk, List.length_cons, List.length_cons]; omega
    · rw [if_neg hk, List.length_cons, List.length_cons]; omega
theorem RelO.some_of {v : V} {o : Option Value} (r : RelO (some v) o) : ∃ u, o = some u ∧ RelV v u := by
  cases o with
  | none => exact (show False from r).elim
  | some u => exact ⟨u, rfl, r⟩
theorem RelO.none_of {o : Option Value} (r : RelO none o) : o = none := by
  cases o with
  | none => rfl
  | some u => exact (show False from r).elim
theorem handed_of {v : V} {u : Value} (r : RelV v u) : PySem.W.handedIn u = true := by
  cases v with
  | non => cases (show u = Value.none from r); rfl
  | bl b => cases (show u = Value.bool b from r); rfl
  | int i => obtain ⟨t, e⟩ := (show ∃ t, u = Value.int i t from r); cases e; rfl
  | str x => obtain ⟨t, e⟩ := (show ∃ t, u = Value.str x t from r); cases e; rfl
  | byt b => obtain ⟨t, e⟩ := (show ∃ t, u = Value.bytes b t from r); cases e; rfl
  | flt b => obtain ⟨t, e⟩ := (show ∃ t, u = Value.float b t from r); cases e; rfl
  | ref a => cases (show u = Value.ref a from r); rfl
  | ty n => cases (show u = Value.type n from r); rfl
section
variable {P : Program} {w : World} {H H' : Hp} {h h' : Heap} {a C dx : Addr} {fs fs' : List (Str × V)}
theorem ins_get (hok : HOk P w H h) (e : H a = some (.ins C dx fs)) : ∃ mA, ObjM h a dx C mA ∧ (∀ f, RelO (fs.lookup f) (mA f)) ∧ PySem.Within mA (fs.map (·.1)) ∧ fs.length ≤ 1000 ∧ H dx = some (.own a) := by
  obtain ⟨d, z, ne, ob, mA, n, r, q⟩ := (show ObjOk P w H h a (.ins C dx fs) from hok a _ e)
  exact ⟨mA, ⟨ob, n, ne⟩, r, q, z, d⟩
end
structure Cls (K : PySem.W.Frag) (C : Addr) : Prop where
  pg : PySem.W.plainGet K C Str.empty = true
  hd : PySem.W.hasDictIn K C = true
  po : PySem.W.plainOver K C = true
  sa : PySem.W.findIn K (.ref C) "__setattr__" = some (some (.builtin "object.__setattr__"))
theorem Cls.get {K : PySem.W.Frag} {C : Addr} (c : Cls K C) (f : Str) : PySem.W.plainGet K C f = true := c.pg
def NoAttr (K : PySem.W.Frag) (C : Addr) (f : Str) : Prop := PySem.W.findIn K (.ref C) f = some none
theorem NoAttr.taker {K : PySem.W.Frag} {C : Addr} {f : Str} (n : NoAttr K C f) : PySem.W.takerIn K C f = some none := by
  unfold PySem.W.takerIn
  rw [show PySem.W.findIn K (.ref C) f = some none from n]
  rfl
structure Meth (K : PySem.W.Frag) (C : Addr) (m : Str) (f : Addr) : Prop where
  at_ : PySem.W.findIn K (.ref C) m = some (some (.ref f))
  fn : PySem.W.isFn K (.ref f) = true
  kp : PySem.W.keepIn K (.ref f) = true
section
variable {X : Cx} {pins : List (Addr × Obj)} {σ : St} {H : Hp} {s : Shared} {a C dx : Addr} {fs : List (Str × V)} {f : Str} {v : V} {A : Around} {E : Value → Shared → Prop}
theorem getattr_ok {b : Bool} {Q : Value → Shared → Prop} (I : Inv X pins σ H s) (e : H a = some (.ins C dx fs)) (c : Cls X.K C) (n : NoAttr X.K C f) (l : fs.lookup f = some v)
    (h : ∀ u s', Inv X pins σ H s' → RelV v u → Q u s') : wpAny (model X.prog X.w) A (getAttr (.ref a) f b) Q E s := by
  obtain ⟨mA, O, r, _, _, _⟩ := ins_get I.hok e
  obtain ⟨u, hu, ru⟩ := RelO.some_of (v := v) (o := mA f) (by rw [← l]; exact r f)
  exact get_map I.kIn O (c.get f) c.hd n hu (handed_of ru) (h u _ (I.tok _) ru)
theorem getmeth_ok {m : Str} {g : Addr} {pl : Sem Bool} {Q : Value × List Value → Shared → Prop} (I : Inv X pins σ H s) (e : H a = some (.ins C dx fs)) (c : Cls X.K C) (k : Meth X.K C m g) (l : fs.lookup m = none)
    (h : Q (.ref g, [.ref a]) s) : wpAny (model X.prog X.w) A (getMethod (.ref a) m pl) Q E s := by
  obtain ⟨mA, O, r, _, _, _⟩ := ins_get I.hok e
  have hn : mA m = none := RelO.none_of (by rw [← l]; exact r m)
  exact get_meth I.kIn O (c.get m) k.at_ k.fn hn h
theorem setattr_ok {y : V} {u : Value} {Q : Unit → Shared → Prop} (I : Inv X pins σ H s) (e : H a = some (.ins C dx fs)) (c : Cls X.K C) (n : NoAttr X.K C f) (hl : fs.length < 1000) (ry : RelV y u)
    (h : ∀ s', Inv X pins σ (upd H a (.ins C dx (putF f y fs))) s' → Q () s') : wpAny (model X.prog X.w) A (setAttr (.ref a) f u) Q E s := by
  obtain ⟨mA, O, r, wi, _, ho⟩ := ins_get I.hok e
  have hz : (fs.map (·.1)).length ≤ sizeLine := by rw [List.length_map, sizeLine_eq]; omega
  refine set_map I.kIn O c.sa c.po n.taker c.hd wi hz fun h' O' sb => h _ ?_
  have hd : ∃ o, h'.get? dx = some o := let ⟨o, _, _, e', _⟩ := O'.ns; ⟨o, e'⟩
  refine I.write (x := a) (e := dx) (by rw [e]; exact True.intro) (.inr ho) (fun b q hb z => (sb.2 b hb).trans z) hd ?_
  refine ⟨by rw [upd_ne O.ne]; exact ho, ?_, O.ne, O'.obj, _, O'.ns, fun g => ?_, fun g hg => ?_⟩
  · have := length_putF f y fs; omega
  · show RelO ((putF f y fs).lookup g) (if g = f then some u else mA g)
    rw [lookup_putF]
    by_cases q : g = f
    · rw [if_pos q, if_pos q]; exact ry
    · rw [if_neg q, if_neg q]; exact r g
  · by_cases q : g = f
    · rw [q]; exact (keys_putF f y fs).1
    · refine (keys_putF f y fs).2 g (wi g fun z => hg ?_)
      show (if g = f then some u else mA g) = none
      rw [if_neg q]; exact z
theorem Inv.made (I : Inv X pins σ H s) : Inv X pins σ (upd (upd H s.heap.objs.size (.own (s.heap.objs.size + 1))) (s.heap.objs.size + 1) (.ins C s.heap.objs.size []))
    { s with heap := (s.heap.push PySem.W.emptyDict).push (PySem.W.instObj C s.heap.objs.size) } := by
  have e1 : (s.heap.push PySem.W.emptyDict).get? s.heap.objs.size = some PySem.W.emptyDict := Heap.get?_push_size s.heap rfl
  have e2 : ((s.heap.push PySem.W.emptyDict).push (PySem.W.instObj C s.heap.objs.size)).get? (s.heap.objs.size + 1) = some (PySem.W.instObj C s.heap.objs.size) := by
    have := Heap.get?_push_size (s.heap.push PySem.W.emptyDict) (o := PySem.W.instObj C s.heap.objs.size) rfl
    rwa [Heap.size_push] at this
  have e3 : (s.heap.push PySem.W.emptyDict).Ns s.heap.objs.size (fun _ => none) := ⟨PySem.W.emptyDict, #[], _, e1, rfl, (fun e he => absurd he (by simp)), fun _ => rfl⟩
  have I1 := I.laid (a := s.heap.objs.size) (o := .own (s.heap.objs.size + 1)) (h' := s.heap.push PySem.W.emptyDict) (t' := s.toks) (fun b u q => Heap.get?_push_of_some _ q) (Nat.le_refl _) ⟨_, e1⟩
  refine I1.laid (a := s.heap.objs.size + 1) (o := .ins C s.heap.objs.size []) (t' := s.toks) (fun b u q => Heap.get?_push_of_some _ q) (Nat.le_of_eq (Heap.size_push _ _)) ?_
  have ne : s.heap.objs.size ≠ s.heap.objs.size + 1 := Nat.ne_of_lt (Nat.lt_succ_self _)
  refine ⟨by rw [upd_ne ne, upd_same], Nat.zero_le _, ne, e2, fun _ => none, (Heap.Ns1.of_empty e3).at fun o q => Heap.get?_push_of_some _ q, fun _ => True.intro, fun y hy => absurd rfl hy⟩
theorem attr_of {prog : Program} {w : World} {env : Env} {e : Expr} {f : Str} {pos : Pos} {s : Shared} {Q : Value → Shared → Prop} (hb : attributeBase e f env (eval e env) = eval e env)
    (h : wpAny (model prog w) A (eval e env) (fun o s₁ => wpAny (model prog w) A (getAttr o f true) Q E s₁) E s) : wpAny (model prog w) A (eval (.Attribute e f pos) env) Q E s :=
  Attribute_any_ h (by rw [arm_eval_Attribute, hb])
end
def InOp (X : Cx) (op : Operator) (rd : V → V → Hp → VK → Prop) : Prop :=
  ∀ (pins : List (Addr × Obj)) (s : Shared) (σ : St) (H : Hp) (x y : V) (u v : Value) (Q : VK), Inv X pins σ H s → RelV x u → RelV y v → rd x y H Q → wpAny (model X.prog X.w) X.A (inplaceOp op u v) (EP X pins σ Q) X.xe s
section
variable {X : Cx} {o e value : Expr} {f : Str} {pos pos' tpos : Pos} {ta tv : TE}
def rAdd : V → V → Hp → VK → Prop := fun x y H Q => ∃ i j, x = .int i ∧ y = .int j ∧ Q (.int (i + j)) H
theorem in_add : InOp X .Add rAdd := by
  rintro pins s σ H x y u v Q I rx ry ⟨i, j, rfl, rfl, q⟩
  obtain ⟨t, rfl⟩ := (show ∃ t, u = Value.int i t from rx)
  obtain ⟨t', rfl⟩ := (show ∃ t', v = Value.int j t' from ry)
  exact PyProof.Rows.iadd_int ⟨.int (i + j), H, I.tok _, ⟨_, rfl⟩, q⟩
end
section
variable {X : Cx} {pins : List (Addr × Obj)} {σ : St} {H : Hp} {s : Shared} {A : Around} {E : Value → Shared → Prop} {Q : Value → Shared → Prop} {c : Value} {b : Bool}
end
end L2
namespace L2
open PySem PySem.Spec PyProof.Rows
structure Room (k : Nat) (A : Around) : Prop where
  hd : A.handled = none
  dp : A.depth + 3 * k + 5 < recursionLimit
  un : A.units + 16 * k + 200 < cLine
theorem Room.mono {j k : Nat} {A : Around} (r : Room k A) (h : j ≤ k) : Room j A := ⟨r.hd, by have := r.dp; omega, by have := r.un; omega⟩
theorem Room.deeper {k : Nat} {A : Around} (r : Room (k + 1) A) (env : Env) : Room k (A.deeper env) :=
  ⟨r.hd, by have := r.dp; show A.depth + 1 + 3 * k + 5 < _; omega, by have := r.un; show A.units + 3 + 16 * k + 200 < _; omega⟩
theorem make_depth {A : Around} {C : Addr} {us : List Value} {kw : List (Str × Value)} : (A.under (.builtin "type.__call__" ⟨.ref C :: us, kw⟩)).depth = A.depth + 1 := by
  first | rfl | simp [Around.under, Code.weight, Code.isCreation, Code.isGuard, Code.isCaller, Code.frames, Code.isFrame, guardIds]
theorem make_units {A : Around} {C : Addr} {us : List Value} {kw : List (Str × Value)} : (A.under (.builtin "type.__call__" ⟨.ref C :: us, kw⟩)).units = A.units + 1 := by
  first | rfl | simp [Around.under, Code.cUnits, Code.frames, Code.isFrame]
theorem Room.make {k : Nat} {A : Around} (r : Room (k + 1) A) (C : Addr) (us : List Value) (kw : List (Str × Value)) : Room k (A.under (.builtin "type.__call__" ⟨.ref C :: us, kw⟩)) :=
  ⟨r.hd, by have := r.dp; rw [make_depth]; omega, by have := r.un; rw [make_units]; omega⟩
theorem Room.depth {k : Nat} {A : Around} (r : Room k A) : A.depth < recursionLimit := by have := r.dp; omega
def tNil : TA := fun _ H Q => Q [] H
def tCons (ta : TE) (tr : TA) : TA := fun σ H Q => ta σ H fun x H1 => tr σ H1 fun xs H2 => Q (x :: xs) H2
section
variable {X : Cx} {e : Expr} {es : List Expr} {te : TE} {t : TA} {pos : Pos}
theorem pa_nil : PA X [] tNil := fun _ _ _ _ H Q I h => Calls.spliced_nil ⟨[], H, I, .nil, h⟩
theorem pa_cons (ha : PE X e te) (hr : PA X es t) (hs : starEach (e :: es) X.env = (false, eval e X.env) :: starEach es X.env := by rfl) : PA X (e :: es) (tCons te t) := by
  intro pos pins s σ H Q I h
  rw [hs]
  show wpAny _ _ (spliced ((false, eval e X.env) :: backTo pos (starEach es X.env))) _ _ s
  refine Calls.spliced_cons (thn (ha pins s σ H _ I h) fun u s1 ⟨x, H1, I1, r1, q1⟩ => ?_)
  exact thn (hr pos pins s1 σ H1 _ I1 q1) fun us s2 ⟨xs, H2, I2, r2, q2⟩ => ⟨x :: xs, H2, I2, .cons r1 r2, q2⟩
def tTup (t : TA) : TE := fun σ H Q => t σ H fun xs H1 => xs.length ≤ sizeLine ∧ ∀ p, H1 p = none → Q (.ref p) (upd H1 p (.tup xs))
def tLst (t : TA) : TE := fun σ H Q => t σ H fun xs H1 => xs.length ≤ sizeLine ∧ ∀ p, H1 p = none → Q (.ref p) (upd H1 p (.lst xs))
theorem pe_tup {x1} (h : PA X es t) : PE X (.Tuple es x1 pos) (tTup t) := by
  intro pins s σ H Q I hq
  refine wpAny_Tuple_spliced (thn (h pos pins s σ H _ I hq) fun us s1 ⟨xs, H1, I1, r, z, q⟩ => ⟨by rw [← r.length]; exact z, ?_⟩)
  have hf : H1 s1.heap.objs.size = none := I1.hok.fresh (Nat.le_refl _)
  refine ⟨.ref s1.heap.objs.size, upd H1 s1.heap.objs.size (.tup xs), I1.laid (t' := s1.toks) (fun b u e => Heap.get?_push_of_some _ e) (Nat.le_refl _) ?_, rfl, q _ hf⟩
  exact ⟨z, us, r, ⟨_, Heap.get?_push_size _ rfl, rfl, _, rfl⟩⟩
theorem pe_lst (h : PA X es t) : PE X (.List es pos) (tLst t) := by
  intro pins s σ H Q I hq
  refine wpAny_List_spliced (thn (h pos pins s σ H _ I hq) fun us s1 ⟨xs, H1, I1, r, z, q⟩ => ⟨by rw [← r.length]; exact z, ?_⟩)
  have hf : H1 s1.heap.objs.size = none := I1.hok.fresh (Nat.le_refl _)
  refine ⟨.ref s1.heap.objs.size, upd H1 s1.heap.objs.size (.lst xs), I1.laid (t' := s1.toks) (fun b u e => Heap.get?_push_of_some _ e) (Nat.le_refl _) ?_, rfl, q _ hf⟩
  exact ⟨z, us, 0, r, Heap.get?_push_size _ rfl⟩
end
abbrev Sp := List V → Hp → VK → XK → Prop
abbrev CXT := List Env → Hp → Shared → XK → Value → Shared → Prop
structure Env0 (P : Program) (w : World) (K : PySem.W.Frag) (mg : Str → Option Value) (base : Heap) (A : Around) (outer : List Env) (s : Shared) (H : Hp) : Prop where
  frames : A.frames = some outer
  mod : Mod K mg base
  bs : ∀ b o, base.get? b = some o → s.heap.get? b = some o ∧ H b = none
  bsz : base.objs.size ≤ s.heap.objs.size
  funs : s.heap.FunFrames base outer
  frf : ∀ b ∈ frs outer, H b = none
  hok : HOk P w H s.heap
  bare : AllBare s.gens
def CE (outer : List Env) (P : Program) (w : World) (H : Hp) (s : Shared) (Q : VK) (u : Value) (s' : Shared) : Prop :=
  ∃ v H', s'.os = s.os ∧ AllBare s'.gens ∧ Un (frs outer) [] H H' s.heap s'.heap ∧ HOk P w H' s'.heap ∧ RelV v u ∧ Q v H'
def CR (CX : CXT) (outer : List Env) (P : Program) (w : World) (H : Hp) (s : Shared) (Q : VK) (E : XK) (r : Result) (s' : Shared) : Prop :=
  match r with
  | .ok (.ret u) => CE outer P w H s Q u s'
  | .ok _ => False
  | .error e => CX outer H s E e s'
structure FnOk (P : Program) (w : World) (K : PySem.W.Frag) (mg : Str → Option Value) (base : Heap) (CX : CXT) (k : Nat) (f : Addr) (fd : FuncData) (ps : List Str) (sp : Sp) : Prop where
  len : ∀ vs H Q E, sp vs H Q E → vs.length = ps.length
  run : ∀ (A : Around) (outer : List Env) (s : Shared) (H : Hp) (args : Args) (us : List Value) (vs : List V) (Q : VK) (E : XK), Room k A → Env0 P w K mg base A outer s H → BindsTo s fd args (ps.zip us) → Vals vs us → sp vs H Q E →
    codeAny (model P w) A (.call (.ref f) args) (CR CX outer P w H s Q E) s
theorem Env0.make {P : Program} {w : World} {K : PySem.W.Frag} {mg : Str → Option Value} {base : Heap} {A : Around} {outer : List Env} {s : Shared} {H : Hp} (e : Env0 P w K mg base A outer s H) (C : Addr) (us : List Value) (kw : List (Str × Value)) :
    Env0 P w K mg base (A.under (.builtin "type.__call__" ⟨.ref C :: us, kw⟩)) outer s H := ⟨by first | exact e.frames | (simpa [Around.under, Code.envs, Code.isFrame, pushEnvs] using e.frames), e.mod, e.bs, e.bsz, e.funs, e.frf, e.hok, e.bare⟩
section
variable {X : Cx} {pins : List (Addr × Obj)} {σ : St} {H : Hp} {s s' : Shared}
theorem Inv.env0 (I : Inv X pins σ H s) : Env0 X.prog X.w X.K X.mg X.base X.A X.stack s H :=
  ⟨I.ok.frames, I.ok.mod, I.bs, Nat.le_trans I.ok.bsz I.sz, I.stack, I.stkFree, I.hok, I.bare⟩
theorem Inv.after {Q : VK} {u : Value} (I : Inv X pins σ H s) (h : CE X.stack X.prog X.w H s Q u s') : EP X pins σ Q u s' := by
  obtain ⟨v, H', os, bare, un, hok, r, q⟩ := h
  obtain ⟨hh, g, d, t, os'⟩ := s'
  obtain rfl : os' = s.os := os
  exact ⟨v, H', I.call (h' := hh) (g' := g) (d' := d) (t' := t) (ch := []) un hok bare (fun b z => absurd z (by simp)), r, q⟩
end
def tCall (sp : Sp) (dvs : List V) (E : XK) (t : TA) : TE := fun σ H Q => t σ H fun vs H1 => sp (vs ++ dvs) H1 Q E
def tMake (C : Addr) (sp : Sp) (dvs : List V) (E : XK) (t : TA) : TE := fun σ H Q => t σ H fun vs H1 => ∀ x dx, H1 x = none → H1 dx = none → dx ≠ x →
  sp (.ref x :: (vs ++ dvs)) (upd (upd H1 dx (.own x)) x (.ins C dx [])) (fun v H2 => v = .non ∧ Q (.ref x) H2) E
def Binds (K : PySem.W.Frag) (fd : FuncData) (ps : List Str) (ds : List Value) : Prop :=
  ∀ (s : Shared) (us : List Value), K.In s.heap → (us ++ ds).length = ps.length → BindsTo s fd ⟨us, []⟩ (ps.zip (us ++ ds))
theorem Binds.all {K : PySem.W.Frag} {fd : FuncData} {ps : List Str} (h : ∀ us : List Value, us.length = ps.length → bindArgs fd ⟨us, []⟩ = pure (ps.zip us)) : Binds K fd ps [] := fun s us _ hl => by
  rw [List.append_nil] at hl ⊢
  exact .of_eq (h us hl)
def Passes (CX : CXT) (X : Cx) (E : XK) : Prop := ∀ (pins : List (Addr × Obj)) (σ : St) (H : Hp) (s : Shared) (e : Value) (s' : Shared), Inv X pins σ H s → CX X.stack H s E e s' → X.xe e s'
section
variable {X : Cx} {CX : CXT} {k : Nat} {f C : Addr} {fd : FuncData} {ps : List Str} {sp : Sp} {dvs : List V} {ds : List Value} {E : XK} {x m : Str} {p pos apos : Pos} {e o : Expr} {es : List Expr} {ta : TE} {t : TA}
theorem run_fn {pins : List (Addr × Obj)} {σ : St} {H : Hp} {s : Shared} {Q : VK} {us : List Value} {vs : List V} (F : FnOk X.prog X.w X.K X.mg X.base CX k f fd ps sp) (hr : Room k X.A) (hb : Binds X.K fd ps ds) (hd : Vals dvs ds) (hx : Passes CX X E)
    (I : Inv X pins σ H s) (r : Vals vs us) (h : sp (vs ++ dvs) H Q E) : wpAny (model X.prog X.w) X.A (call (.ref f) us) (EP X pins σ Q) X.xe s := by
  have r2 : Vals (vs ++ dvs) (us ++ ds) := r.append hd
  have hl : (us ++ ds).length = ps.length := by rw [← r2.length]; exact F.len _ _ _ _ h
  refine wpAny_call (codeAny_mono (F.run X.A X.stack s H ⟨us, []⟩ (us ++ ds) (vs ++ dvs) Q E hr I.env0 (hb s us I.kIn hl) r2 h) fun r s' hq => ?_)
  cases r with
  | error e => exact hx pins σ H s e s' I hq
  | ok fl =>
    cases fl with
    | ret u => exact I.after hq
    | next => exact False.elim hq
    | brk => exact False.elim hq
    | cont => exact False.elim hq
theorem pe_call (F : FnOk X.prog X.w X.K X.mg X.base CX k f fd ps sp) (hr : Room k X.A) (hg : Gl X x) (hm : X.mg x = some (.ref f)) (hk : PySem.W.keepIn X.K (.ref f) = true) (hb : Binds X.K fd ps ds) (hd : Vals dvs ds) (hx : Passes CX X E)
    (ha : PA X (e :: es) t) (hdb : (x == ("__debug__" : Str)) = false := by decide) (he : starEach (e :: es) X.env = (false, eval e X.env) :: starEach es X.env := by rfl) (hpl : (backTo pos (starEach es X.env)).any (·.1) = false := by rfl) :
    PE X (.Call (.Name x p) (e :: es) [] pos) (tCall sp dvs E t) := by
  intro pins s σ H Q I h
  refine wpAny_Call_Name_kw (ld_glob I hg hm ?_ hdb)
  refine PySem.W.callWith_K (h₀ := X.base) I.ok.mod.kin hk (thn (ha pos pins s σ H _ I h) fun us s1 ⟨vs, H1, I1, r, q⟩ => ⟨I1.kIn, ?_⟩) he hpl
  exact run_fn F hr hb hd hx I1 r q
structure Mk (K : PySem.W.Frag) (C f : Addr) : Prop where
  makes : PySem.W.makesIn K C = true
  init : PySem.W.findIn K (.ref C) "__init__" = some (some (.ref f))
  fn : PySem.W.isFn K (.ref f) = true
  kp : PySem.W.keepIn K (.ref C) = true
theorem run_make {pins : List (Addr × Obj)} {σ : St} {H : Hp} {s : Shared} {Q : VK} {us : List Value} {vs : List V} (M : Mk X.K C f) (F : FnOk X.prog X.w X.K X.mg X.base CX k f fd ps sp) (hr : Room (k + 1) X.A) (hb : Binds X.K fd ps ds) (hd : Vals dvs ds)
    (hx : Passes CX X E) (I : Inv X pins σ H s) (r : Vals vs us)
    (h : ∀ x dx, H x = none → H dx = none → dx ≠ x → sp (.ref x :: (vs ++ dvs)) (upd (upd H dx (.own x)) x (.ins C dx [])) (fun v H2 => v = .non ∧ Q (.ref x) H2) E) :
    wpAny (model X.prog X.w) X.A (call (.ref C) us) (EP X pins σ Q) X.xe s := by
  have hq := h (s.heap.objs.size + 1) s.heap.objs.size (I.hok.fresh (Nat.le_succ _)) (I.hok.fresh (Nat.le_refl _)) (Nat.ne_of_lt (Nat.lt_succ_self _))
  have I2 := Inv.made (C := C) I
  have r2 : Vals (V.ref (s.heap.objs.size + 1) :: (vs ++ dvs)) (Value.ref (s.heap.objs.size + 1) :: (us ++ ds)) := .cons rfl (r.append hd)
  have hl : (Value.ref (s.heap.objs.size + 1) :: us ++ ds).length = ps.length := by
    have e := r2.length
    rw [F.len _ _ _ _ hq] at e
    exact e.symm
  refine wpAny_call (make_map (f := f) I.kIn M.makes M.init (beq_iff_eq.mp M.fn) (codeAny_mono (F.run _ X.stack _ _ ⟨Value.ref (s.heap.objs.size + 1) :: us, []⟩ (Value.ref (s.heap.objs.size + 1) :: (us ++ ds)) _ _ E (hr.make C us [])
    (I2.env0.make C us []) (hb _ (Value.ref (s.heap.objs.size + 1) :: us) I2.kIn hl) r2 hq) fun r s' hq' => ?_))
  cases r with
  | error e => exact hx pins σ _ _ e s' I2 hq'
  | ok fl =>
    cases fl with
    | ret u =>
      obtain ⟨v, H', I3, rv, ev, q3⟩ := I2.after hq'
      subst ev
      exact ⟨rv, ⟨V.ref (s.heap.objs.size + 1), H', I3, rfl, q3⟩⟩
    | next => exact False.elim hq'
    | brk => exact False.elim hq'
    | cont => exact False.elim hq'
theorem pe_make (M : Mk X.K C f) (F : FnOk X.prog X.w X.K X.mg X.base CX k f fd ps sp) (hr : Room (k + 1) X.A) (hg : Gl X x) (hm : X.mg x = some (.ref C)) (hb : Binds X.K fd ps ds) (hd : Vals dvs ds) (hx : Passes CX X E)
    (ha : PA X (e :: es) t) (hdb : (x == ("__debug__" : Str)) = false := by decide) (he : starEach (e :: es) X.env = (false, eval e X.env) :: starEach es X.env := by rfl) (hpl : (backTo pos (starEach es X.env)).any (·.1) = false := by rfl) :
    PE X (.Call (.Name x p) (e :: es) [] pos) (tMake C sp dvs E t) := by
  intro pins s σ H Q I h
  refine wpAny_Call_Name_kw (ld_glob I hg hm ?_ hdb)
  refine PySem.W.callWith_K (h₀ := X.base) I.ok.mod.kin M.kp (thn (ha pos pins s σ H _ I h) fun us s1 ⟨vs, H1, I1, r, q⟩ => ⟨I1.kIn, ?_⟩) he hpl
  exact run_make M F hr hb hd hx I1 r q
end
section
variable {X : Cx} {CX : CXT} {k : Nat} {f C : Addr} {fd : FuncData} {ps ks : List Str} {sp : Sp} {E : XK} {x m : Str} {p pos apos kpos : Pos} {e o : Expr} {es : List Expr} {kws : List Keyword} {te ta : TE} {t tk : TA} {nm : Option Str}
variable {g : List Value → List Value → List Value} {gV : List V → List V → List V}
end
structure FnScope (N P : List Str) (sc : Scope) : Prop where
  kind : sc.kind = .function
  co : sc.isCoroutine = false
  gen : sc.isGenerator = false
  nd : N.Nodup
  pre : N.take P.length = P
  par : ∀ x ∈ P, sc.names.lookup x = some .local ∨ sc.names.lookup x = some .cell
  nofree : ∀ y ∈ sc.names, y.2 ≠ .free
theorem bindL_out {kindOf : Str → Option NameKind} {x : Str} : ∀ {binds : List (Str × Value)} {m : Str → Option Value}, (∀ v, (x, v) ∉ binds) → bindL kindOf binds m x = m x
  | [], _, _ => rfl
  | (n, v) :: r, m, h => by
    unfold bindL
    rw [bindL_out fun w hw => h w (List.mem_cons_of_mem _ hw)]
    split
    · have : x ≠ n := by rintro rfl; exact h v List.mem_cons_self
      simp [this]
    · rfl
theorem bindC_out {kindOf : Str → Option NameKind} {x : Str} : ∀ {binds : List (Str × Value)} {m : Str → Option Value}, (∀ v, (x, v) ∉ binds) → bindC kindOf binds m x = m x
  | [], _, _ => rfl
  | (n, v) :: r, m, h => by
    unfold bindC
    rw [bindC_out fun w hw => h w (List.mem_cons_of_mem _ hw)]
    split
    · rfl
    · have : x ≠ n := by rintro rfl; exact h v List.mem_cons_self
      simp [this]
theorem bindL_get {kindOf : Str → Option NameKind} {x : Str} {v : Value} : ∀ {P : List Str} {vs : List Value} {i : Nat} {m : Str → Option Value}, P.Nodup → P[i]? = some x → vs[i]? = some v → kindOf x = some .local →
    bindL kindOf (P.zip vs) m x = some v
  | [], _, _, _, _, h, _, _ => by simp at h
  | _ :: _, [], _, _, _, _, h, _ => by simp at h
  | p :: P, w :: vs, 0, m, nd, h1, h2, hk => by
    simp at h1 h2; subst h1; subst h2
    show bindL kindOf ((p, w) :: P.zip vs) m p = _
    unfold bindL
    rw [bindL_out fun v hv => (List.nodup_cons.mp nd).1 (List.of_mem_zip hv).1, if_pos hk]
    simp
  | p :: P, w :: vs, i + 1, m, nd, h1, h2, hk => by
    show bindL kindOf ((p, w) :: P.zip vs) m x = _
    unfold bindL
    exact bindL_get (i := i) (List.nodup_cons.mp nd).2 (by simpa using h1) (by simpa using h2) hk
theorem bindC_get {kindOf : Str → Option NameKind} {x : Str} {v : Value} : ∀ {P : List Str} {vs : List Value} {i : Nat} {m : Str → Option Value}, P.Nodup → P[i]? = some x → vs[i]? = some v → kindOf x ≠ some .local →
    bindC kindOf (P.zip vs) m x = some v
  | [], _, _, _, _, h, _, _ => by simp at h
  | _ :: _, [], _, _, _, _, h, _ => by simp at h
  | p :: P, w :: vs, 0, m, nd, h1, h2, hk => by
    simp at h1 h2; subst h1; subst h2
    show bindC kindOf ((p, w) :: P.zip vs) m p = _
    unfold bindC
    rw [bindC_out fun v hv => (List.nodup_cons.mp nd).1 (List.of_mem_zip hv).1, if_neg hk]
    simp
  | p :: P, w :: vs, i + 1, m, nd, h1, h2, hk => by
    show bindC kindOf ((p, w) :: P.zip vs) m x = _
    unfold bindC
    exact bindC_get (i := i) (List.nodup_cons.mp nd).2 (by simpa using h1) (by simpa using h2) hk
def start (N : List Str) (vs : List V) : St := vs.map some ++ List.replicate (N.length - vs.length) none
def cxOf (CX : CXT) (P : Program) (w : World) (K : PySem.W.Frag) (mg : Str → Option Value) (base : Heap) (N : List Str) (qual : Str) (scope : Scope) (f : Addr) (cd : Value) (A : Around) (outer : List Env) (s : Shared) (H : Hp) (E : XK) : Cx where
  prog := P
  w := w
  K := K
  mg := mg
  base := base
  A := A.deeper (envOfC qual scope s.heap.objs.size f cd)
  N := N
  s₀ := s
  H₀ := H
  env := envOfC qual scope s.heap.objs.size f cd
  outer := outer
  stack := envOfC qual scope s.heap.objs.size f cd :: outer
  ex := []
  calm := true
  fn := fun _ => true
  pn := []
  xe := fun e s' => wpAny (model P w) (A.deeper (envOfC qual scope s.heap.objs.size f cd)) (leaving (envOfC qual scope s.heap.objs.size f cd) e) (fun _ s'' => CX outer H s E e s'') (fun e' s'' => CX outer H s E e' s'') s'
theorem cell_has {sc : Scope} {n : Nat} {x : Str} (h : sc.names.lookup x = some .cell) : ∃ c, (cellsFrom n sc.names []).lookup x = some c := by
  have q := PySem.W.cellsFrom_some sc.names n [] (.inl h)
  exact Option.isSome_iff_exists.mp q
theorem inv_start {CX : CXT} {P : Program} {w : World} {K : PySem.W.Frag} {mg : Str → Option Value} {base : Heap} {N ps : List Str} {qual : Str} {scope : Scope} {f : Addr} {cd : Value} {A : Around} {outer : List Env} {s s1 : Shared} {H : Hp} {E : XK} {us : List Value} {vs : List V}
    (S : FnScope N ps scope) (hd : A.handled = none) (e0 : Env0 P w K mg base A outer s H) (hl : vs.length = ps.length) (r : Vals vs us)
    (x : InCallC s s.heap.objs.size (bindL (envOfC qual scope s.heap.objs.size f cd).kindOf (ps.zip us) fun _ => none) (cellsFrom (s.heap.objs.size + 1) scope.names []) (bindC (envOfC qual scope s.heap.objs.size f cd).kindOf (ps.zip us) fun _ => none) s1) :
    Inv (cxOf CX P w K mg base N qual scope f cd A outer s H E) [] (start N vs) H s1 := by
  have hpl : ps.length ≤ N.length := by have := congrArg List.length S.pre; rw [List.length_take] at this; omega
  obtain ⟨h1, tk, rfl, hk⟩ := x.done
  have noA : ∀ b : Addr, b ∉ (cxOf CX P w K mg base N qual scope f cd A outer s H E).ex := fun b z => absurd (show b ∈ ([] : List Addr) from z) (by simp)
  refine ⟨⟨e0.mod, S.kind, rfl, rfl, Nat.le_refl _, fun y z c h1 h2 => ?_, fun y hy => ?_, fun y c _ h => ?_, fun _ => hd, Around.frames_deeper e0.frames, .inr ⟨rfl, rfl⟩, fun b z => absurd z (noA b), e0.bs, e0.bsz, fun b _ _ => noA b, fun b z => absurd z (noA b), e0.funs, e0.frf⟩,
    rfl, e0.bare, Un.kept hk, ⟨_, x.toInCall.ns, fun i y v h1 h2 h3 => ?_⟩, fun y c h => ⟨_, x.cell y c h⟩, e0.hok.fresh (Nat.le_refl _), fun y c h => ?_, fun p hp => absurd (show p ∈ ([] : List (Addr × Obj)) from hp) (by simp), e0.hok.kept hk, ?_⟩
  · exact name_of_addr x.apart (PySem.mem_of_lookup h1) (PySem.mem_of_lookup h2)
  · have hy : scope.names.lookup y = some .cell ∨ scope.names.lookup y = some .free := hy
    rcases hy with hy | hy
    · exact cell_has hy
    · exact absurd rfl (S.nofree _ (PySem.mem_of_lookup hy))
  · exact Nat.le_of_lt (x.above y c (PySem.mem_of_lookup h))
  · have hi : i < vs.length := by
      unfold start at h2
      by_cases hi : i < vs.length
      · exact hi
      · rw [List.getElem?_append_right (by simpa using hi)] at h2
        rw [List.getElem?_replicate] at h2
        split at h2 <;> cases h2
    have ha : vs[i]? = some v := by
      unfold start at h2
      rw [List.getElem?_append_left (by simpa using hi), List.getElem?_map] at h2
      cases e : vs[i]? with
      | none => rw [e] at h2; cases h2
      | some a => rw [e] at h2; cases h2; rfl
    obtain ⟨u, hu, rv⟩ := r.get ha
    have hp : ps[i]? = some y := by
      rw [← S.pre, List.getElem?_take_of_lt (by omega)]; exact h1
    have ndP : ps.Nodup := by rw [← S.pre]; exact S.nd.sublist (List.take_sublist _ _)
    refine ⟨u, rv, ?_⟩
    rcases S.par y (List.mem_of_getElem? hp) with k | k
    · exact .inl ⟨k, bindL_get ndP hp hu k⟩
    · obtain ⟨c, e⟩ := cell_has (n := s.heap.objs.size + 1) k
      refine .inr ⟨.inl k, c, e, ?_⟩
      have q := x.cell y c e
      rw [bindC_get ndP hp hu (by show scope.names.lookup y ≠ _; rw [k]; decide)] at q
      exact q
  · exact e0.hok.fresh (Nat.le_of_lt (x.above y c (PySem.mem_of_lookup h)))
  · unfold start
    show _ = N.length
    rw [List.length_append, List.length_map, List.length_replicate]
    omega
theorem fn_of {CX : CXT} {P : Program} {w : World} {K : PySem.W.Frag} {mg : Str → Option Value} {base : Heap} {k : Nat} {f : Addr} {name qual : Str} {params : Arguments} {body : List Stmt} {scope : Scope} {dV kV doc pm cdv ct oc : Value} {an od : Option Addr}
    {osl : Array (Option Value)} {N ps : List Str} {sp : Sp} (lk : K.lookup f = some ⟨oc, od, .func (PySem.W.fnOf name qual params body scope dV kV doc pm an cdv ct), osl⟩) (hcd : PySem.W.codeIn K cdv qual = true) (S : FnScope N ps scope)
    (len : ∀ vs H Q E, sp vs H Q E → vs.length = ps.length)
    (hbody : ∀ (A : Around) (outer : List Env) (s : Shared) (H : Hp) (vs : List V) (Q : VK) (E : XK), Room k (A.deeper (envOfC qual scope s.heap.objs.size f cdv)) → sp vs H Q E →
      ∃ t, PSs (cxOf CX P w K mg base N qual scope f cdv A outer s H E) body t ∧ t { nx := fun _ H' => Q .non H', rt := Q } (start N vs) H) :
    FnOk P w K mg base CX (k + 1) f (PySem.W.fnOf name qual params body scope dV kV doc pm an cdv ct) ps sp := by
  refine ⟨len, fun A outer s H args us vs Q E hr e0 hb r hsp => ?_⟩
  have hl := len _ _ _ _ hsp
  have KX : K.In s.heap := e0.mod.kin.keeps fun b o e => (e0.bs b o e).1
  have lim : s.heap.NoLimit := e0.mod.nolimit.keeps fun b o e => (e0.bs b o e).1
  have hkind : ∀ y ∈ ps.zip us, scope.names.lookup y.1 = some .local ∨ (scope.names.lookup y.1 = some .cell ∧ ((cellsFrom (s.heap.objs.size + 1) scope.names []).lookup y.1).isSome = true) := fun ⟨n, v⟩ hy => by
    rcases S.par n (List.of_mem_zip hy).1 with q | q
    · exact .inl q
    · exact .inr ⟨q, PySem.W.cellsFrom_some _ _ _ (.inl q)⟩
  refine codeAny_call_function hr.depth (KX _ _ lk) rfl S.co S.gen rfl (PySem.W.codeRec_of KX hcd) (hb _ _ _ _ ?_)
  refine wpAny_newFunctionEnv_cells S.kind hkind fun env he s1 x => ?_
  subst he
  refine ⟨lim.keeps x.toInCall.keep, codeAny_func ?_⟩
  obtain ⟨t, ht, hq⟩ := hbody A outer s H vs Q E (hr.deeper _) hsp
  have I : Inv (cxOf CX P w K mg base N qual scope f cdv A outer s H E) [] (start N vs) H s1 := inv_start S hr.hd e0 hl r x
  refine wpAny_mono (ht [] s1 (start N vs) H _ I hq) (fun fl s' hs => ?_) fun e s' hs => hs
  have fin : ∀ {σ' : St} {H' : Hp} {v : V} {u : Value}, Inv (cxOf CX P w K mg base N qual scope f cdv A outer s H E) [] σ' H' s' → RelV v u → Q v H' → CE outer P w H s Q u s' :=
    fun {σ' H' v u} J rv q => ⟨v, H', J.os, J.bare, J.base, J.hok, rv, q⟩
  cases fl with
  | ret u =>
    obtain ⟨v, σ', H', J, rv, q⟩ := hs
    exact fin J rv q
  | next =>
    obtain ⟨σ', H', J, q⟩ := hs
    exact fin (v := V.non) (u := Value.none) J rfl q
  | brk =>
    obtain ⟨_, _, _, q⟩ := hs
    exact False.elim q
  | cont =>
    obtain ⟨_, _, _, q⟩ := hs
    exact False.elim q
end L2
namespace L2
open PySem PySem.Spec PyProof.Rows
section
variable {X : Cx} {x : Str} {p pos : Pos} {e : Expr} {es : List Expr} {t : TA} {id T : String} {r : List V → Hp → VK → Prop}
def tCB (r : List V → Hp → VK → Prop) (t : TA) : TE := fun σ H Q => t σ H fun vs H1 => r vs H1 Q
theorem pe_callB (hc : CallR X (.builtin id) r) (hg : Gl X x) (hm : X.mg x = none) (hv : bootBuiltins x = some (.builtin id)) (ha : PA X (e :: es) t) (hn : x ≠ "__name__" := by decide) (hdb : (x == ("__debug__" : Str)) = false := by decide)
    (he : starEach (e :: es) X.env = (false, eval e X.env) :: starEach es X.env := by rfl) (hpl : (backTo pos (starEach es X.env)).any (·.1) = false := by rfl) : PE X (.Call (.Name x p) (e :: es) [] pos) (tCB r t) := by
  intro pins s σ H Q I h
  refine wpAny_Call_Name_kw (ld_blt I hg hm hv ?_ hn hdb)
  exact PyProof.Rows.callWith_builtin1 (thn (ha pos pins s σ H _ I h) fun us s1 ⟨vs, H1, I1, r1, q1⟩ => hc pins s1 σ H1 vs us Q I1 r1 q1) he hpl
theorem pe_callTy (hc : CallR X (.type T) r) (hg : Gl X x) (hm : X.mg x = none) (hv : bootBuiltins x = some (.type T)) (ha : PA X (e :: es) t) (hn : x ≠ "__name__" := by decide) (hdb : (x == ("__debug__" : Str)) = false := by decide)
    (he : starEach (e :: es) X.env = (false, eval e X.env) :: starEach es X.env := by rfl) (hpl : (backTo pos (starEach es X.env)).any (·.1) = false := by rfl) : PE X (.Call (.Name x p) (e :: es) [] pos) (tCB r t) := by
  intro pins s σ H Q I h
  refine wpAny_Call_Name_kw (ld_blt I hg hm hv ?_ hn hdb)
  exact PyProof.Rows.callWith_type1 (thn (ha pos pins s σ H _ I h) fun us s1 ⟨vs, H1, I1, r1, q1⟩ => hc pins s1 σ H1 vs us Q I1 r1 q1) he hpl
end
end L2
namespace HT
open PySem PyProof.Rows
section
open PySem.SeqAt
open PySem.AutoSeq1 (wpAny_loadPart')
open PySem.MeetsSeq PySem.MeetsSeq2 PySem.MeetsSeq3
end
section
variable {prog : Program} {w : World} {A : Around} {E : Value → Shared → Prop} {s : Shared}
theorem cat_tup {t b : Addr} {vs ws : List Value} {Q : Value → Shared → Prop} (ht : IsTup s.heap t vs.toArray) (hb : IsTup s.heap b ws.toArray) (hv : vs ≠ [])
    (h1 : ws = [] → Q (.ref t) s) (h2 : ws ≠ [] → Q (.ref s.heap.objs.size) { s with heap := s.heap.push { cls := .type "tuple", data := .seq (vs ++ ws).toArray } })
    (hsz : vs.length + ws.length ≤ sizeLine) : wpAny (model prog w) A (binaryOp .Add (.ref t) (.ref b)) Q E s := by
  obtain ⟨⟨cls, dd, data, sl⟩, ho, hc, n, hd⟩ := id ht
  obtain ⟨⟨cls2, dd2, data2, sl2⟩, ho2, hc2, n2, hd2⟩ := id hb
  simp only at hc hd hc2 hd2
  subst hc hd hc2 hd2
  have e : vs.toArray ++ ws.toArray = (vs ++ ws).toArray := by simp
  by_cases hw : ws = []
  · exact concat_meets ⟨_, ho, rfl⟩ ⟨_, ho2, rfl⟩ noFill_tuple_add seq_tuple_add PySem.F.slot_tuple_add PySem.F.entry_tuple_add (PySem.F.args_tuple_add_2 _ _)
      (tuple_addW1 t b vs.toArray ws.toArray n n2 dd dd2 sl sl2 (by simpa using hv) (by simp [hw])) ⟨ho, ho2, h1 hw⟩
  · refine concat_meets ⟨_, ho, rfl⟩ ⟨_, ho2, rfl⟩ noFill_tuple_add seq_tuple_add PySem.F.slot_tuple_add PySem.F.entry_tuple_add (PySem.F.args_tuple_add_2 _ _)
      (tuple_addW2 t b vs.toArray ws.toArray n n2 dd dd2 sl sl2 (by simpa using hv) (by simpa using hw) (by rw [List.size_toArray, List.size_toArray]; exact hsz)) ⟨ho, ho2, ?_⟩
    rw [e]
    exact h2 hw
def sIx (n d : Nat) : Option Int → Nat
  | none => d
  | some v => if v < 0 then (v + (n : Int)).toNat else min v.toNat n
end
end HT
namespace L2
open PySem PySem.Spec PyProof.Rows
abbrev TO := St → Hp → (Option Int → Hp → Prop) → Prop
def PO (X : Cx) (e : Option Expr) (t : TO) : Prop :=
  ∀ (pins : List (Addr × Obj)) (s : Shared) (σ : St) (H : Hp) (Q : Option Int → Hp → Prop), Inv X pins σ H s → t σ H Q →
    wpAny (model X.prog X.w) X.A (evalPart e X.env) (fun u s' => ∃ o H', Inv X pins σ H' s' ∧ IsPart u o ∧ Q o H') X.xe s
def tNoPart : TO := fun _ H Q => Q none H
def tPart (t : TE) : TO := fun σ H Q => t σ H fun x H1 => ∃ i, x = .int i ∧ Q (some i) H1
theorem intsAre_of {ns : List Int} : ∀ {us : List Value}, Vals (ns.map V.int) us → IntsAre us ns := by
  induction ns with
  | nil => intro us r; rw [List.map_nil] at r; cases r; exact .nil
  | cons n ns ih =>
    intro us r
    rw [List.map_cons] at r
    cases r with
    | cons r1 r2 =>
      obtain ⟨t, e⟩ := r1
      subst e
      exact .cons n t (ih r2)
section
variable {X : Cx} {e : Expr} {te : TE} {lo hi : Option Expr} {tl th : TO} {pos p2 : Pos}
theorem po_none : PO X none tNoPart := by
  intro pins s σ H Q I h
  rw [evalPart_none]
  exact wpAny_pure ⟨none, H, I, .none, h⟩
theorem po_some (h : PE X e te) : PO X (some e) (tPart te) := by
  intro pins s σ H Q I hw
  rw [evalPart_some]
  refine thn (h pins s σ H _ I hw) fun u s1 ⟨x, H1, I1, r1, q1⟩ => ?_
  obtain ⟨i, rfl, q⟩ := q1
  obtain ⟨t, rfl⟩ := r1
  exact ⟨some i, H1, I1, .int i t, q⟩
def SlR (X : Cx) (r : V → Option Int → Option Int → Hp → VK → Prop) : Prop :=
  ∀ (pins : List (Addr × Obj)) (s : Shared) (σ : St) (H : Hp) (x : V) (v vl vu : Value) (lo hi : Option Int) (sl : Addr) (Q : VK), Inv X pins σ H s → RelV x v → s.heap.IsSliceOf sl vl vu .none → IsPart vl lo → IsPart vu hi → r x lo hi H Q →
    ∃ T id, typeLookup (.type T) "__getitem__" = pure (some (.builtin id)) ∧ s.TypeIs v T ∧ wpAny (model X.prog X.w) X.A (getItem v (.ref sl)) (EP X pins σ Q) X.xe s
def tSl (r : V → Option Int → Option Int → Hp → VK → Prop) (te : TE) (tl th : TO) : TE := fun σ H Q => te σ H fun x H1 => tl σ H1 fun l H2 => th σ H2 fun u H3 => r x l u H3 Q
theorem pe_slice {r : V → Option Int → Option Int → Hp → VK → Prop} (hr : SlR X r) (he : PE X e te) (hl : PO X lo tl) (hu : PO X hi th) : PE X (.Subscript e (.Slice lo hi none p2) pos) (tSl r te tl th) := by
  intro pins s σ H Q I h
  refine Subscript_ (thn (he pins s σ H _ I h) fun v s1 ⟨x, H1, I1, r1, q1⟩ => ?_)
  refine wpAny_Slice (thn (hl pins s1 σ H1 _ I1 q1) fun vl s2 ⟨l, H2, I2, pl, q2⟩ => thn (hu pins s2 σ H2 _ I2 q2) fun vu s3 ⟨u, H3, I3, pu, q3⟩ => ?_)
  rw [evalPart_none]
  refine wpAny_pure ?_
  have I4 : Inv X pins σ H3 { s3 with heap := s3.heap.push { cls := .type "slice", data := .fields #[vl, vu, .none] } } := I3.kept (t' := s3.toks) fun b ob q => Heap.get?_push_of_some _ q
  obtain ⟨T, id, hT, ht, hg⟩ := hr pins { s3 with heap := s3.heap.push { cls := .type "slice", data := .fields #[vl, vu, .none] } } σ H3 x v vl vu l u s3.heap.objs.size Q I4 r1 (Heap.IsSliceOf.new ..) pl pu q3
  show wpAny (model X.prog X.w) X.A (subscriptTail e (.Slice lo hi none p2) v (.ref s3.heap.objs.size)) (EP X pins σ Q) X.xe { s3 with heap := s3.heap.push { cls := .type "slice", data := .fields #[vl, vu, .none] } }
  exact tail_any (ops := [.ref s3.heap.objs.size, v]) ht hT hg (by with_unfolding_all rfl)
def cutV (xs : List V) (lo hi : Option Int) : List V := (xs.drop (HT.sIx xs.length 0 lo)).take (HT.sIx xs.length xs.length hi - HT.sIx xs.length 0 lo)
theorem cutV_length (xs : List V) (lo hi : Option Int) : (cutV xs lo hi).length ≤ xs.length := by
  unfold cutV
  rw [List.length_take, List.length_drop]
  omega
def rCatT (K : PySem.W.Frag) : R2 := fun x y H Q => ∃ a b xs ys, x = .ref a ∧ y = .ref b ∧ SqT K H a xs ∧ SqT K H b ys ∧ xs ≠ [] ∧ xs.length + ys.length ≤ sizeLine ∧
  (ys = [] → Q (.ref a) H) ∧ (ys ≠ [] → ∀ p, H p = none → Q (.ref p) (upd H p (.tup (xs ++ ys))))
theorem Vals.nil_iff {xs : List V} {us : List Value} (r : Vals xs us) : us = [] ↔ xs = [] := by
  cases r with
  | nil => simp
  | cons _ _ => simp
theorem op_catT : OpR X (binaryOp .Add) (rCatT X.K) := by
  intro pins s σ H x y v u Q I rx ry h
  obtain ⟨a, b, xs, ys, rfl, rfl, ha, hb, hx, hz, q1, q2⟩ := h
  cases rx
  cases ry
  obtain ⟨its, r1, p1, _⟩ := I.tuple ha
  obtain ⟨its2, r2, p2, _⟩ := I.tuple hb
  refine HT.cat_tup p1 p2 (fun z => hx (r1.nil_iff.mp z)) (fun z => ⟨.ref a, H, I, rfl, q1 (r2.nil_iff.mp z)⟩) (fun z => ?_) (by rw [← r1.length, ← r2.length]; exact hz)
  refine ⟨.ref s.heap.objs.size, _, I.laid (t' := s.toks) (o := .tup (xs ++ ys)) (fun b ob q => Heap.get?_push_of_some _ q) (Nat.le_refl _) ?_, rfl, q2 (fun w => z (r2.nil_iff.mpr w)) _ (I.hok.fresh (Nat.le_refl _))⟩
  exact ⟨by rw [List.length_append]; exact hz, _, r1.append r2, IsTup.new _ _⟩
end
end L2
namespace L2
open PySem PySem.Spec PyProof.Rows
def ixN (n : Nat) (i : Int) : Option Nat := if 0 ≤ i then (if i < n then some i.toNat else none) else if -(n : Int) ≤ i then some (i + n).toNat else none
def atI {α : Type} (xs : List α) (i : Int) : Option α := (ixN xs.length i).bind fun j => xs[j]?
theorem ixN_seq {n : Nat} {i : Int} {j : Nat} (h : ixN n i = some j) : seqIndex? i n = some j ∧ j < n ∧ -(n : Int) ≤ i ∧ i < n := by
  unfold ixN at h
  by_cases h0 : 0 ≤ i
  · rw [if_pos h0] at h
    by_cases h1 : i < n
    · rw [if_pos h1] at h
      have e : i.toNat = j := Option.some.inj h
      exact ⟨by rw [seqIndex_of h0 h1, e], by omega, by omega, h1⟩
    · rw [if_neg h1] at h; cases h
  · rw [if_neg h0] at h
    by_cases h1 : -(n : Int) ≤ i
    · rw [if_pos h1] at h
      have e : (i + n).toNat = j := Option.some.inj h
      exact ⟨by rw [seqIndex_neg (by omega) h1, e], by omega, h1, by omega⟩
    · rw [if_neg h1] at h; cases h
theorem atI_get {α : Type} {xs : List α} {i : Int} {v : α} (h : atI xs i = some v) : ∃ j, seqIndex? i xs.length = some j ∧ xs[j]? = some v ∧ j < xs.length ∧ -(xs.length : Int) ≤ i ∧ i < xs.length := by
  unfold atI at h
  cases e : ixN xs.length i with
  | none => rw [e] at h; cases h
  | some j =>
    rw [e] at h
    obtain ⟨h1, h2, h3, h4⟩ := ixN_seq e
    exact ⟨j, h1, h, h2, h3, h4⟩
theorem atI_nat {α : Type} {xs : List α} {j : Nat} {v : α} (h : xs[j]? = some v) : atI xs (j : Int) = some v := by
  have hj : j < xs.length := (List.getElem?_eq_some_iff.mp h).1
  have e : ixN xs.length (j : Int) = some j := by
    unfold ixN
    rw [if_pos (by omega), if_pos (by omega)]; simp
  unfold atI; rw [e]; exact h
def PlainIx (b : Expr) : Prop := ∀ o i, subscripted b false o i = operate [o, i] (getItem o i)
def IxR (X : Cx) (r : R2) : Prop :=
  ∀ (value slice : Expr) (pins : List (Addr × Obj)) (s : Shared) (σ : St) (H : Hp) (x y : V) (v u : Value) (Q : VK), Inv X pins σ H s → RelV x v → RelV y u → r x y H Q →
    subscripted slice false v u = operate [v, u] (getItem v u) → wpAny (model X.prog X.w) X.A (subscriptTail value slice v u) (EP X pins σ Q) X.xe s
def MtR (X : Cx) (id : String) (r : V → List V → Hp → VK → Prop) : Prop :=
  ∀ (pins : List (Addr × Obj)) (s : Shared) (σ : St) (H : Hp) (x : V) (xs : List V) (v : Value) (us : List Value) (Q : VK), Inv X pins σ H s → RelV x v → Vals xs us → r x xs H Q →
    wpAny (model X.prog X.w) X.A (call (.builtin id) (v :: us)) (EP X pins σ Q) X.xe s
section
variable {X : Cx} {a b : Expr} {ta tb : TE} {pos : Pos}
theorem IxR.or {r r' : R2} (h : IxR X r) (h' : IxR X r') : IxR X (fun x y H Q => r x y H Q ∨ r' x y H Q) := by
  intro value slice pins s σ H x y v u Q I rx ry q hs
  rcases q with q | q
  · exact h value slice pins s σ H x y v u Q I rx ry q hs
  · exact h' value slice pins s σ H x y v u Q I rx ry q hs
theorem pe_ix {r : R2} (hr : IxR X r) (ha : PE X a ta) (hb : PE X b tb) (hs : PlainIx b) : PE X (.Subscript a b pos) (tOp r ta tb) := by
  intro pins s σ H Q I h
  exact Subscript_ (binT ha hb I h fun v u s2 x y H2 I2 rx ry q => hr a b pins s2 σ H2 x y v u Q I2 rx ry q (hs _ _))
def rIxL (K : PySem.W.Frag) : R2 := fun x y H Q => ∃ p xs i v, x = .ref p ∧ y = .int i ∧ SqL K H p xs ∧ atI xs i = some v ∧ Q v H
def rIxT (K : PySem.W.Frag) : R2 := fun x y H Q => ∃ p xs i v, x = .ref p ∧ y = .int i ∧ SqT K H p xs ∧ atI xs i = some v ∧ Q v H
theorem ix_list : IxR X (rIxL X.K) := by
  intro value slice pins s σ H x y v u Q I rx ry h hs
  obtain ⟨p, xs, i, z, rfl, rfl, hq, he, q⟩ := h
  cases rx
  obtain ⟨t, rfl⟩ := ry
  obtain ⟨its, r, pl, hz⟩ := I.list hq
  obtain ⟨j, h1, h2, h3, h4, h5⟩ := atI_get he
  obtain ⟨w, ew, rw'⟩ := r.get h2
  have hl := r.length
  have hn := line63
  have fin : EP X pins σ Q w s := ⟨z, H, I, rw', q⟩
  by_cases h0 : 0 ≤ i
  · have hj : i.toNat = j := by
      rw [seqIndex_of h0 h5] at h1
      exact Option.some.inj h1
    exact item_listR pl.isList h0 (by omega) (by rw [hj]; simpa using ew) fin hs
  · have hj : (i + (its.toArray.size : Int)).toNat = j := by
      rw [seqIndex_neg (by omega) h4] at h1
      rw [List.size_toArray, ← hl]
      exact Option.some.inj h1
    exact subscriptTail_builtinR (x := w) pl.isList.typeIs slot_list_getitem.lookup
      (wpAny_getItem_list_neg (Q := fun r s' => r = w ∧ EP X pins σ Q r s') pl.isList (by omega) (by rw [List.size_toArray] <;> omega) (by omega) (by rw [hj]; simpa using ew) ⟨rfl, fin⟩) hs
theorem ix_tup : IxR X (rIxT X.K) := by
  intro value slice pins s σ H x y v u Q I rx ry h hs
  obtain ⟨p, xs, i, z, rfl, rfl, hq, he, q⟩ := h
  cases rx
  obtain ⟨t, rfl⟩ := ry
  obtain ⟨its, r, pl, hz⟩ := I.tuple hq
  obtain ⟨j, h1, h2, h3, h4, h5⟩ := atI_get he
  obtain ⟨w, ew, rw'⟩ := r.get h2
  have hl := r.length
  have hn := line63
  have fin : EP X pins σ Q w s := ⟨z, H, I, rw', q⟩
  exact subscriptTail_builtinR (x := w) pl.typeIs slot_tuple_getitem.lookup
    (getItem_tuple (j := j) (Q := fun r s' => r = w ∧ EP X pins σ Q r s') pl (by omega) (by omega) (by rw [List.size_toArray, ← hl]; exact h1) (by simpa using ew) ⟨rfl, fin⟩) hs
theorem mapSeq_set (its : List Value) (n j : Nat) (u : Value) : Obj.mapSeq (·.setIfInBounds j u) { cls := .type "list", data := .seq its.toArray n } = { cls := .type "list", data := .seq (its.set j u).toArray n } := by
  simp [Obj.mapSeq]
theorem Inv.lst {pins : List (Addr × Obj)} {σ : St} {H : Hp} {s : Shared} {p : Addr} {xs : List V} (I : Inv X pins σ H s) (h : H p = some (.lst xs)) :
    ∃ (its : List Value) (n : Nat), Vals xs its ∧ s.heap.get? p = some { cls := .type "list", data := .seq its.toArray n } ∧ xs.length ≤ sizeLine := by
  obtain ⟨z, its, n, r, e⟩ := I.hok p _ h
  exact ⟨its, n, r, e, z⟩
theorem Inv.lstUpd {pins : List (Addr × Obj)} {σ : St} {H : Hp} {s : Shared} {p : Addr} {xs ys : List V} {its its' : List Value} {n n' : Nat} {f : Obj → Obj} (I : Inv X pins σ H s) (h : H p = some (.lst xs))
    (ho : s.heap.get? p = some { cls := .type "list", data := .seq its.toArray n }) (hf : f { cls := .type "list", data := .seq its.toArray n } = { cls := .type "list", data := .seq its'.toArray n' }) (r : Vals ys its') (hz : ys.length ≤ sizeLine) (t : Nat) :
    Inv X pins σ (upd H p (.lst ys)) { s with heap := s.heap.update p f, toks := t } := by
  have e : (s.heap.update p f).get? p = some { cls := .type "list", data := .seq its'.toArray n' } := by
    rw [Heap.get?_update_self f ho (by rw [hf] <;> rfl), hf]
  refine I.write (x := p) (e := p) (by rw [h]; trivial) (.inl rfl) (fun b u hb q => (Heap.get?_update_other _ _ (Ne.symm hb)).trans q) ⟨_, e⟩ ?_
  exact ⟨hz, its', n', r, e⟩
def rSetL : V → V → V → Hp → (Hp → Prop) → Prop := fun o i v H Q => ∃ p xs k j, o = .ref p ∧ i = .int k ∧ H p = some (.lst xs) ∧ ixN xs.length k = some j ∧ Q (upd H p (.lst (xs.set j v)))
theorem set_list : PSet X rSetL := by
  intro pins s σ H o i v ov iv u Q I ro ri rv h
  obtain ⟨p, xs, k, j, rfl, rfl, hp, hj, q⟩ := h
  cases ro
  obtain ⟨t, rfl⟩ := ri
  obtain ⟨its, n, r, ho, hz⟩ := I.lst hp
  obtain ⟨h1, h2, h3, h4⟩ := ixN_seq hj
  have hl := r.length
  have hn := line63
  have I' : Inv X pins σ (upd H p (.lst (xs.set j v))) { s with heap := s.heap.update p (Obj.mapSeq (·.setIfInBounds j u)) } :=
    I.lstUpd hp ho (mapSeq_set its n j u) (r.set rv j) (by rw [List.length_set]; exact hz) s.toks
  by_cases h0 : 0 ≤ k
  · have hk : k.toNat = j := by
      rw [seqIndex_of h0 h4] at h1
      exact Option.some.inj h1
    exact PySem.W.ki_setAt ho h0 (by omega) (by rw [List.size_toArray, ← hl]; exact h4) (by rw [hk]; exact ⟨_, I', q⟩)
  · have hk : (k + (its.toArray.size : Int)).toNat = j := by
      rw [seqIndex_neg (by omega) h3] at h1
      rw [List.size_toArray, ← hl]
      exact Option.some.inj h1
    exact PySem.W.ki_setBack ho (by omega) (by rw [List.size_toArray, ← hl]; exact h3) (by omega) (by rw [hk]; exact ⟨_, I', q⟩)
theorem slice_bounds (lo hi : Option Int) (n : Nat) : (sliceBounds lo hi none n).1 = ((HT.sIx n 0 lo : Nat) : Int) ∧ (sliceBounds lo hi none n).2.1 = ((HT.sIx n n hi : Nat) : Int) ∧ (sliceBounds lo hi none n).2.2 = 1 := by
  refine ⟨?_, ?_, rfl⟩
  · cases lo with
    | none => simp [sliceBounds, HT.sIx]
    | some i =>
      simp only [sliceBounds, HT.sIx, Option.getD_none, show (1 : Int) > 0 by decide, if_true]
      by_cases h : i < 0
      · simp only [h, if_true] <;> omega
      · simp only [h, if_false] <;> omega
  · cases hi with
    | none => simp [sliceBounds, HT.sIx]
    | some i =>
      simp only [sliceBounds, HT.sIx, Option.getD_none, show (1 : Int) > 0 by decide, if_true]
      by_cases h : i < 0
      · simp only [h, if_true] <;> omega
      · simp only [h, if_false] <;> omega
theorem slicePick_cut (its : List Value) (lo hi : Option Int) : slicePick its.toArray lo hi none = ((its.drop (HT.sIx its.length 0 lo)).take (HT.sIx its.length its.length hi - HT.sIx its.length 0 lo)).toArray := by
  obtain ⟨h1, h2, h3⟩ := slice_bounds lo hi its.toArray.size
  unfold slicePick
  rw [h1, h2, h3]
  simp only [sliceRange_one, pick_run, List.size_toArray] <;> rfl
def rSlL (K : PySem.W.Frag) : V → Option Int → Option Int → Hp → VK → Prop := fun x lo hi H Q => ∃ a xs, x = .ref a ∧ SqL K H a xs ∧ ∀ p, H p = none → Q (.ref p) (upd H p (.lst (cutV xs lo hi)))
theorem sl_list : SlR X (rSlL X.K) := by
  intro pins s σ H x v vl vu lo hi sl Q I rx hs pl pu h
  obtain ⟨a, xs, rfl, hx, q⟩ := h
  cases rx
  obtain ⟨its, r, ht, hz⟩ := I.list hx
  have hlen := r.length
  refine ⟨"list", _, slot_list_getitem.lookup, ht.isList.typeIs, ?_⟩
  refine wpAny_getItem_list_slice ht.isList hs pl pu .none (by simp) ?_ (by rw [List.size_toArray] <;> omega)
  rw [slicePick_cut, ← hlen]
  refine ⟨.ref s.heap.objs.size, _, I.laid (t' := s.toks) (o := .lst (cutV xs lo hi)) (fun b ob q => Heap.get?_push_of_some _ q) (Nat.le_refl _) ?_, rfl, q _ (I.hok.fresh (Nat.le_refl _))⟩
  exact ⟨Nat.le_trans (cutV_length xs lo hi) hz, _, 0, (r.drop (HT.sIx xs.length 0 lo)).take (HT.sIx xs.length xs.length hi - HT.sIx xs.length 0 lo), Heap.get?_push_size _ rfl⟩
theorem call_len_seq : CallR X (.builtin "len") (fun xs H Q => ∃ p ys, xs = [.ref p] ∧ (SqL X.K H p ys ∨ SqT X.K H p ys) ∧ Q (.int ys.length) H) := by
  intro pins s σ H xs us Q I r h
  obtain ⟨p, ys, rfl, hq, q⟩ := h
  obtain ⟨u, rfl, rx⟩ := vals1 r
  cases rx
  have hn := line63
  rcases hq with hq | hq
  · obtain ⟨its, r', pl, hz⟩ := I.list hq
    have hlen := r'.length
    exact Calls.call_len_list pl.isList (by simp only [List.size_toArray] <;> omega) ⟨.int ys.length, H, I.tok _, ⟨s.toks + 1, by rw [List.size_toArray, hlen]⟩, q⟩
  · obtain ⟨its, r', pl, hz⟩ := I.tuple hq
    have hlen := r'.length
    exact len_tuple pl (by simp only [List.size_toArray] <;> omega) ⟨.int ys.length, H, I.tok _, ⟨s.toks + 1, by rw [List.size_toArray, hlen]⟩, q⟩
theorem call_list_of : CallR X (.type "list") (fun xs H Q => ∃ p ys, xs = [.ref p] ∧ (SqL X.K H p ys ∨ SqT X.K H p ys) ∧ ∀ l, H l = none → Q (.ref l) (upd H l (.lst ys))) := by
  intro pins s σ H xs us Q I r h
  obtain ⟨p, ys, rfl, hq, q⟩ := h
  obtain ⟨u, rfl, rx⟩ := vals1 r
  cases rx
  have fin : ∀ (its : List Value), Vals ys its → ys.length ≤ sizeLine → ∀ (h' : Heap) (c' : Nat), (∀ b o', s.heap.get? b = some o' → h'.get? b = some o') →
      h'.get? s.heap.objs.size = some { cls := .type "list", dict := none, data := .seq its.toArray c', slots := #[] } → EP X pins σ Q (.ref s.heap.objs.size) { s with heap := h' } := fun its r' hz h' c' kp e =>
    ⟨.ref s.heap.objs.size, _, I.laid (t' := s.toks) kp (Nat.le_refl _) (show ObjOk X.prog X.w _ h' _ (.lst ys) from ⟨hz, its, c', r', e⟩), rfl, q _ (I.hok.fresh (Nat.le_refl _))⟩
  rcases hq with hq | hq
  · obtain ⟨its, r', pl, hz⟩ := I.list hq
    have hlen := r'.length
    obtain ⟨o, ho, hc, n, hd⟩ := pl.isList
    exact call_list_seq p (.inl rfl) ho hc hd (fun h' c' kp e => fin its r' hz h' c' kp e) (by simp only [List.size_toArray] <;> omega)
  · obtain ⟨its, r', pl, hz⟩ := I.tuple hq
    have hlen := r'.length
    obtain ⟨o, ho, hc, n, hd⟩ := pl
    exact call_list_seq p (.inr rfl) ho hc hd (fun h' c' kp e => fin its r' hz h' c' kp e) (by simp only [List.size_toArray] <;> omega)
theorem call_tuple_of : CallR X (.type "tuple") (fun xs H Q => ∃ p ys, xs = [.ref p] ∧ ((SqL X.K H p ys ∧ ∀ l, H l = none → Q (.ref l) (upd H l (.tup ys))) ∨ (SqT X.K H p ys ∧ Q (.ref p) H))) := by
  intro pins s σ H xs us Q I r h
  obtain ⟨p, ys, rfl, h⟩ := h
  obtain ⟨u, rfl, rx⟩ := vals1 r
  cases rx
  rcases h with ⟨hq, q⟩ | ⟨hq, q⟩
  · obtain ⟨its, r', pl, hz⟩ := I.list hq
    have hlen := r'.length
    refine call_tuple_list pl.isList (fun h' kp => ?_) (by simp only [List.size_toArray] <;> omega)
    have I1 : Inv X pins σ H { s with heap := h' } := I.kept (t' := s.toks) kp
    have I2 : Inv X pins σ (upd H h'.objs.size (.tup ys)) { s with heap := h'.push { cls := .type "tuple", data := .seq its.toArray } } :=
      I1.laid (t' := s.toks) (fun b o e => Heap.get?_push_of_some _ e) (Nat.le_refl _) (show ObjOk X.prog X.w _ _ _ (.tup ys) from ⟨hz, its, r', IsTup.new _ _⟩)
    exact ⟨.ref h'.objs.size, _, I2, rfl, q _ (I1.hok.fresh (Nat.le_refl _))⟩
  · obtain ⟨its, r', pl, hz⟩ := I.tuple hq
    exact call_tuple_same pl ⟨.ref p, H, I, rfl, q⟩
def tyV (K : PySem.W.Frag) (T : String) (x : V) (H : Hp) : Prop := match x with
  | .str _ => T = "str"
  | .int _ => T = "int"
  | .ref p => (T = "list" ∧ ∃ xs, SqL K H p xs) ∨ (T = "tuple" ∧ ∃ o, K.lookup p = some o ∧ o.cls = .type "tuple" ∧ o.dict = none) ∨
      (T = "dict" ∧ ((∃ kvs, H p = some (.dK kvs)) ∨ ∃ kvs, H p = some (.dT kvs))) ∨ (T = "set" ∧ ∃ S n, H p = some (.set S n))
  | _ => False
theorem tyV_is {pins : List (Addr × Obj)} {σ : St} {H : Hp} {s : Shared} {T : String} {x : V} {v : Value} (I : Inv X pins σ H s) (r : RelV x v) (ty : tyV X.K T x H) :
    s.TypeIs v T ∧ ∀ a, v = .ref a → ∃ ob, s.heap.get? a = some ob ∧ ob.dict = none := by
  cases x with
  | str z =>
    obtain ⟨t, rfl⟩ := r
    cases (show T = "str" from ty)
    exact ⟨typeIs_str s z t, fun _ e => nomatch e⟩
  | int i =>
    obtain ⟨t, rfl⟩ := r
    cases (show T = "int" from ty)
    exact ⟨typeIs_int s i t, fun _ e => nomatch e⟩
  | ref p =>
    cases r
    rcases ty with ⟨rfl, xs, hq⟩ | ⟨rfl, o, hk, hc, hd⟩ | ⟨rfl, hk⟩ | ⟨rfl, S, n, hk⟩
    · obtain ⟨its, _, pl, _⟩ := I.list hq
      refine ⟨pl.isList.typeIs, fun a e => ?_⟩
      cases e
      obtain ⟨o, n, e, c, hd, _⟩ := pl
      exact ⟨o, e, hd⟩
    · refine ⟨⟨o, I.kIn p o hk, hc⟩, fun a e => ?_⟩
      cases e
      exact ⟨o, I.kIn _ o hk, hd⟩
    · have z : ∃ o, s.heap.get? p = some o ∧ o.ExactDict := by
        rcases hk with ⟨kvs, hk⟩ | ⟨kvs, hk⟩
        · obtain ⟨_, _, _, _, o, _, _, e, ex, _⟩ := I.hok p _ hk
          exact ⟨o, e, ex⟩
        · obtain ⟨_, _, _, _, o, _, _, e, ex, _⟩ := I.hok p _ hk
          exact ⟨o, e, ex⟩
      obtain ⟨o, e, ex⟩ := z
      refine ⟨⟨o, e, ex.1⟩, fun a e2 => ?_⟩
      cases e2
      exact ⟨o, e, ex.2.1⟩
    · obtain ⟨o, _, _, _, e, ex, _⟩ := I.hok p _ hk
      refine ⟨⟨o, e, ex.1⟩, fun a e2 => ?_⟩
      cases e2
      exact ⟨o, e, ex.2.1⟩
  | _ => exact False.elim ty
def tBM0 (K : PySem.W.Frag) (T : String) (r : V → List V → Hp → VK → Prop) (to : TE) : TE := fun σ H Q => to σ H fun x H1 => tyV K T x H1 ∧ r x [] H1 Q
def tBM (K : PySem.W.Frag) (T : String) (r : V → List V → Hp → VK → Prop) (to : TE) (t : TA) : TE := fun σ H Q => to σ H fun x H1 => tyV K T x H1 ∧ t σ H1 fun xs H2 => r x xs H2 Q
variable {o e : Expr} {es : List Expr} {to : TE} {t : TA} {name : Str} {apos cpos : Pos} {T id : String} {r : V → List V → Hp → VK → Prop}
theorem pe_bm0 (pa : PlainAttrs T) (slot : Slot T name id) (hty : typeOf (.builtin id) = pure (.type "method_descriptor")) (hm : MtR X id r) (ho : PE X o to)
    (hbase : attributeBase o name X.env (eval o X.env) = eval o X.env := by rfl) (hline : (apos.endLine == cpos.line) = true := by rfl) : PE X (.Call (.Attribute o name apos) [] [] cpos) (tBM0 X.K T r to) := by
  intro pins s σ H Q I h
  refine wpAny_Call_method0_late hbase hline (thn (ho pins s σ H _ I h) fun v s1 ⟨x, H1, I1, r1, ty, q1⟩ => ?_)
  obtain ⟨h1, h2⟩ := tyV_is I1 r1 ty
  exact ⟨T, id, pa, slot, hty, h1, h2, Calls.callWith_builtin rfl (PySem.evalArgs_none (hm pins s1 σ H1 x [] v [] Q I1 r1 .nil q1))⟩
theorem pe_bm (pa : PlainAttrs T) (slot : Slot T name id) (hty : typeOf (.builtin id) = pure (.type "method_descriptor")) (hm : MtR X id r) (ho : PE X o to) (ha : PA X (e :: es) t)
    (hbase : attributeBase o name X.env (eval o X.env) = eval o X.env := by rfl)
    (hfew : ((backTo cpos (starEach (e :: es) X.env)).all (fun x => !x.1) && (backToKw cpos (keywordEach [] X.env)).all (fun x => x.1.isSome)
      && decide ((e :: es).length + ([] : List Keyword).length + (if ([] : List Keyword).isEmpty then 0 else 1) < 30)) = true := by rfl)
    (hline : (apos.endLine == cpos.line) = true := by rfl) (hs : starEach (e :: es) X.env = (false, eval e X.env) :: starEach es X.env := by rfl) (hplain : (backTo cpos (starEach es X.env)).any (·.1) = false := by rfl) :
    PE X (.Call (.Attribute o name apos) (e :: es) [] cpos) (tBM X.K T r to t) := by
  intro pins s σ H Q I h
  refine wpAny_Call_method_late hbase hfew hline rfl (thn (ho pins s σ H _ I h) fun v s1 ⟨x, H1, I1, r1, ty, q1⟩ => ?_)
  obtain ⟨h1, h2⟩ := tyV_is I1 r1 ty
  refine ⟨T, id, pa, slot, hty, h1, h2, ?_⟩
  have hA := ha cpos pins s1 σ H1 _ I1 q1
  rw [hs] at hA ⊢
  refine Calls.callWith_builtin (by show (false || (backTo cpos (starEach es X.env)).any (·.1)) = false; rw [hplain] <;> rfl) (Calls.evalArgs_plain ?_)
  exact thn hA fun us s2 ⟨vs, H2, I2, r2, q2⟩ => hm pins s2 σ H2 x vs v us Q I2 r1 r2 q2
/- xs.append(e), list.index on a module's tuple .. are MtR facts of 06m -/
end
end L2
namespace L2
open PySem PySem.Spec PyProof.Rows
def MtM (X : Cx) (id : String) (r : V → List V → Hp → VK → Prop) : Prop :=
  ∀ (pins : List (Addr × Obj)) (s : Shared) (σ : St) (H : Hp) (x : V) (xs : List V) (v : Value) (us : List Value) (Q : VK), Inv X pins σ H s → RelV x v → Vals xs us → r x xs H Q →
    wpAny (model X.prog X.w) X.A (call (.builtin id) (v :: us)) (EP X pins σ Q) X.xe s
theorem Vals.one : ∀ {x : V} {us : List Value}, Vals [x] us → ∃ u, us = [u] ∧ RelV x u
  | _, _, .cons r .nil => ⟨_, rfl, r⟩
theorem Vals.two : ∀ {x y : V} {us : List Value}, Vals [x, y] us → ∃ u v, us = [u, v] ∧ RelV x u ∧ RelV y v
  | _, _, _, .cons r (.cons q .nil) => ⟨_, _, rfl, r, q⟩
theorem Vals.zero : ∀ {us : List Value}, Vals [] us → us = []
  | _, .nil => rfl
theorem Vals.eraseIdx : ∀ {xs : List V} {us : List Value} (i : Nat), Vals xs us → Vals (xs.eraseIdx i) (us.eraseIdx i)
  | _, _, _, .nil => .nil
  | _, _, 0, .cons _ t => t
  | _, _, i + 1, .cons r t => .cons r (Vals.eraseIdx i t)
theorem Vals.reverse {xs : List V} {us : List Value} (h : Vals xs us) : Vals xs.reverse us.reverse := by
  induction h with
  | nil => exact .nil
  | cons r t ih => rw [List.reverse_cons, List.reverse_cons]; exact Vals.append ih (.cons r .nil)
theorem Vals.rep {xs : List V} {us : List Value} (h : Vals xs us) : ∀ k : Nat, Vals (List.replicate k xs).flatten (List.replicate k us).flatten
  | 0 => .nil
  | k + 1 => by
    rw [List.replicate_succ, List.replicate_succ, List.flatten_cons, List.flatten_cons]
    exact Vals.append h (Vals.rep h k)
theorem len_erase {α : Type} : ∀ (l : List α) (i : Nat), (l.eraseIdx i).length ≤ l.length
  | [], _ => Nat.le_refl _
  | _ :: _, 0 => Nat.le_succ _
  | _ :: r, i + 1 => Nat.succ_le_succ (len_erase r i)
theorem foldl_rep (its : List Value) : ∀ (k : Nat) (acc : List Value),
    List.foldl (fun x1 x2 => x1 ++ x2) acc.toArray (List.replicate k its.toArray) = (acc ++ (List.replicate k its).flatten).toArray
  | 0, acc => by simp
  | k + 1, acc => by
    have e : acc.toArray ++ its.toArray = (acc ++ its).toArray := by simp
    have e2 : (acc ++ its) ++ (List.replicate k its).flatten = acc ++ (List.replicate (k + 1) its).flatten := by
      rw [List.replicate_succ, List.flatten_cons, List.append_assoc]
    rw [← e2, ← foldl_rep its k (acc ++ its), ← e, List.replicate_succ, List.foldl_cons]
section
variable {X : Cx} {pins : List (Addr × Obj)} {σ : St} {H : Hp} {s : Shared} {l b : Addr} {xs ys zs : List V}
theorem Inv.lset {its its' : List Value} {n : Nat} {f : Array Value → Array Value} {t' : Nat} (I : Inv X pins σ H s) (hH : H l = some (.lst xs))
    (e : s.heap.get? l = some { cls := .type "list", data := .seq its.toArray n }) (hf : f its.toArray = its'.toArray) (hv : Vals ys its') (hz : ys.length ≤ sizeLine) :
    Inv X pins σ (upd H l (.lst ys)) { s with heap := s.heap.update l (Obj.mapSeq f), toks := t' } := by
  have q := PySem.IsL.update e f
  rw [hf] at q
  refine I.write (x := l) (e := l) (by rw [hH]; exact trivial) (.inl rfl) (fun b' u hb hu => (Heap.get?_update_other s.heap (Obj.mapSeq f) (Ne.symm hb)).trans hu) ⟨_, q⟩ ?_
  exact ⟨hz, its', _, hv, q⟩
theorem Inv.lnew {its : List Value} {t' : Nat} (I : Inv X pins σ H s) (hv : Vals ys its) (hz : ys.length ≤ sizeLine) :
    Inv X pins σ (upd H s.heap.objs.size (.lst ys)) { s with heap := s.heap.push { cls := .type "list", data := .seq its.toArray }, toks := t' } :=
  I.laid (fun _ _ q => Heap.get?_push_of_some _ q) (Nat.le_refl _) ⟨hz, its, 0, hv, Heap.get?_push_size _ rfl⟩
theorem Inv.fresh (I : Inv X pins σ H s) : H s.heap.objs.size = none := I.hok.fresh (Nat.le_refl _)
theorem Inv.lstM (I : Inv X pins σ H s) (hH : H l = some (.lst xs)) : xs.length ≤ sizeLine ∧ ∃ (its : List Value) (n : Nat), Vals xs its ∧ xs.length = its.length ∧ s.heap.get? l = some { cls := .type "list", data := .seq its.toArray n } := by
  obtain ⟨z, its, n, r, e⟩ := I.hok l _ hH
  exact ⟨z, its, n, r, r.length, e⟩
theorem notLongL {n : Nat} (h : n ≤ sizeLine) : Builtin.List.listTooLong n = false := by
  unfold Builtin.List.listTooLong
  exact decide_eq_false (by omega)
end
section
variable {X : Cx}
def rAppend : V → List V → Hp → VK → Prop := fun x vs H Q => ∃ l xs y, x = .ref l ∧ vs = [y] ∧ H l = some (.lst xs) ∧ xs.length < sizeLine ∧ Q .non (upd H l (.lst (xs ++ [y])))
theorem mt_append : MtM X "list.append" rAppend := by
  intro pins s σ H x vs v us Q I rx rv h
  obtain ⟨l, xs, y, rfl, rfl, hH, hz, q⟩ := h
  cases rx
  obtain ⟨u, rfl, ru⟩ := rv.one
  obtain ⟨z, its, n, r, hl, e⟩ := I.lstM hH
  refine call_meets F.slot_list_append ⟨_, e, rfl⟩ F.entry_list_append (F.args_list_append_2 _ _) (PySem.list_append l its.toArray n u (by rw [List.size_toArray]; omega)) ⟨e, ?_⟩
  refine ⟨.non, _, I.lset (its' := its ++ [u]) hH e (by simp) (r.append (.cons ru .nil)) ?_, rfl, q⟩
  rw [List.length_append, List.length_singleton]
  omega
def rPopAt : V → List V → Hp → VK → Prop := fun x vs H Q => ∃ l xs i k y, x = .ref l ∧ vs = [.int i] ∧ H l = some (.lst xs) ∧ -(2 ^ 63) ≤ i ∧ i < 2 ^ 63 ∧ seqIndex? i xs.length = some k ∧ xs[k]? = some y ∧ Q y (upd H l (.lst (xs.eraseIdx k)))
theorem mt_popAt : MtM X "list.pop" rPopAt := by
  intro pins s σ H x vs v us Q I rx rv h
  obtain ⟨l, xs, i, k, y, rfl, rfl, hH, h1, h2, hk, hy, q⟩ := h
  cases rx
  obtain ⟨u, rfl, ru⟩ := rv.one
  obtain ⟨t, rfl⟩ := ru
  obtain ⟨z, its, n, r, hl, e⟩ := I.lstM hH
  obtain ⟨w, hw, rw'⟩ := r.get hy
  refine call_meets F.slot_list_pop ⟨_, e, rfl⟩ F.entry_list_pop (F.args_list_pop_2 _ _)
    (MeetsSeq.list_pop_at l its.toArray n i t k w (fitsIndex_both h1 h2) (by rw [List.size_toArray, ← hl]; exact hk) (by rw [← Array.getElem?_toList]; exact hw) (by rw [List.size_toArray]; omega)) ⟨e, ?_⟩
  refine ⟨y, _, I.lset (its' := its.eraseIdx k) hH e ?_ (r.eraseIdx k) ?_, rw', q⟩
  · show its.toArray.eraseIdxIfInBounds k = (its.eraseIdx k).toArray
    rw [List.eraseIdxIfInBounds_toArray]
  · have := len_erase xs k
    omega
def rReverse : V → List V → Hp → VK → Prop := fun x vs H Q => ∃ l xs, x = .ref l ∧ vs = [] ∧ H l = some (.lst xs) ∧ Q .non (upd H l (.lst xs.reverse))
theorem mt_reverse : MtM X "list.reverse" rReverse := by
  intro pins s σ H x vs v us Q I rx rv h
  obtain ⟨l, xs, rfl, rfl, hH, q⟩ := h
  cases rx
  have hus := rv.zero
  subst hus
  obtain ⟨z, its, n, r, hl, e⟩ := I.lstM hH
  refine call_meets F.slot_list_reverse ⟨_, e, rfl⟩ F.entry_list_reverse (F.args_list_reverse_1 _) (AutoSeq1.list_reverse_list_0 l its.toArray n (by rw [List.size_toArray]; omega)) ⟨e, ?_⟩
  refine ⟨.non, _, I.lset (its' := its.reverse) hH e (by simp) r.reverse ?_, rfl, q⟩
  rw [List.length_reverse]
  omega
def rRep : R2 := fun x y H Q => ∃ l k xs, x = .ref l ∧ y = .int k ∧ H l = some (.lst xs) ∧ -(2 ^ 63) ≤ k ∧ k < 2 ^ 63 ∧ xs.length * k.toNat ≤ sizeLine ∧
  ∀ p, H p = none → Q (.ref p) (upd H p (.lst (List.replicate k.toNat xs).flatten))
theorem len_rep {α : Type} (xs : List α) (k : Nat) : (List.replicate k xs).flatten.length = k * xs.length := by
  induction k with
  | zero => simp
  | succ k ih => rw [List.replicate_succ, List.flatten_cons, List.length_append, ih, Nat.succ_mul, Nat.add_comm]
theorem op_rep : OpR X (binaryOp .Mult) rRep := by
  intro pins s σ H x y v u Q I rx ry h
  obtain ⟨l, k, xs, rfl, rfl, hH, h1, h2, hz, q⟩ := h
  cases rx
  obtain ⟨t, rfl⟩ := ry
  obtain ⟨z, its, n, r, hl, e⟩ := I.lstM hH
  have hlen : its.toArray.size * k.toNat ≤ sizeLine := by rw [List.size_toArray, ← hl]; exact hz
  have hcap : ¬ its.toArray.size * k.toNat > (2 ^ 63 - 1) / 8 := by
    have : (sizeLine : Nat) ≤ (2 ^ 63 - 1) / 8 := by decide
    omega
  have hfit : ¬ (!Builtin.List.listFitsIndex k) = true := by
    rw [fitsIndex_both h1 h2]
    exact Bool.false_ne_true
  have hlong : ¬ Builtin.List.listTooLong (its.toArray.size * k.toNat) = true := by
    rw [notLongL hlen]
    exact Bool.false_ne_true
  have hnew : List.foldl (fun x1 x2 => x1 ++ x2) #[] (List.replicate (if its.toArray.isEmpty = true then 0 else k.toNat) its.toArray) = (List.replicate k.toNat its).flatten.toArray := by
    have f0 : ∀ m : Nat, List.foldl (fun x1 x2 => x1 ++ x2) #[] (List.replicate m its.toArray) = (List.replicate m its).flatten.toArray := fun m => by
      have := foldl_rep its m []
      rw [List.nil_append] at this
      exact this
    rw [f0]
    cases its with
    | nil => simp
    | cons a r' => rw [if_neg (by simp)]
  refine wpAny_binaryOp_repeat_ref (T := "list") (U := "int") (by decide) ⟨_, e, rfl⟩ (fun s' => typeIs_int s' k t) noFill_list_mul F.fills_int_mul F.slot_int_rmul repeat_list F.slot_int_index.lookup
    (call_meets F.slot_int_rmul (typeIs_int s k t) F.entry_int_rmul (F.args_int_rmul_2 _ _) (int___rmul___int_list k t l its.toArray n)
      ⟨e, rfl, ⟨_, e, rfl⟩, call_meets F.slot_list_mul ⟨_, e, rfl⟩ F.entry_list_mul (F.args_list_mul_2 _ _) (AutoListH.list___mul___list_int_3 l its.toArray n k t hfit hcap hlong) ⟨e, ?_⟩⟩)
  rw [hnew]
  exact ⟨.ref _, _, I.lnew (t' := s.toks) (r.rep k.toNat) (by rw [len_rep, Nat.mul_comm]; exact hz), rfl, q _ I.fresh⟩
end
section
variable {prog : Program} {w : World} {A : Around} {E : Value → Shared → Prop} {s : Shared}
end
section
variable {X : Cx}
end
end L2
namespace Att
open PySem PySem.W PySem.Calls PyProof.Rows
theorem ints_of_wellAll {P : Params} {h : Heap} : ∀ (ns : List Int) (vs : List Value), WellAll P h vs (ns.map WData.int) → IntsAre vs ns := by
  intro ns
  induction ns with
  | nil =>
    intro vs w
    rw [List.map_nil] at w
    cases w
    exact .nil
  | cons n ns ih =>
    intro vs w
    rw [List.map_cons] at w
    cases w with
    | cons a b =>
      cases a
      exact .cons _ _ (ih _ b)
theorem script_of {l : OpenLaw} {n : Nat} (hn : l.most = some n) {P : Params} {h : Heap} {args : List WData} {vals : List Value}
    (hpre : l.row.toRowW.claim.pre args = true) (hwl : WellAll P h vals args) :
    ∃ a vs ns, vals = [Value.ref a] ∧ args = [WData.list (ns.map WData.int)] ∧ h.get? a = some { cls := .type "list", data := .seq vs.toArray } ∧ IntsAre vs ns ∧ ns.length ≤ n := by
  have hsh : WShape.hasAll [] args [.list .int] = true := (pre_splitW hpre).1
  have hc : l.pre.holds [] { args := args } = true := (pre_splitW hpre).2
  obtain ⟨d, r, rfl, h1, h2⟩ := hasAllW_cons hsh
  obtain rfl := hasAllW_nil h2
  obtain ⟨xs, rfl, h3⟩ := hasW_list h1
  obtain ⟨ns, rfl⟩ := items_int h3
  have hlen : ns.length ≤ n := by
    unfold OpenLaw.pre at hc
    have h4 : (WTm.not (.lt (.lit (.int (n : Int))) (.len (.arg 0)))).holds [] { args := [.list (ns.map .int)] } = true := by
      have h4 := (holds_andW hc).1
      rw [hn] at h4
      exact h4
    have h5 := condW_of h4 (w_not (w_lt w_lit (w_len_list (w_arg rfl))))
    rw [List.length_map] at h5
    refine Nat.le_of_not_lt fun q => ?_
    have q' : (n : Int) < ((ns.length : Nat) : Int) := by omega
    first
      | (rw [decide_eq_true q'] at h5; exact absurd h5 (by decide))
      | (simp at h5; omega)
  cases hwl with
  | cons w1 w2 =>
    cases w2
    cases w1 with
    | list ho hall => exact ⟨_, _, ns, rfl, rfl, ho, ints_of_wellAll ns _ hall, hlen⟩
theorem post_true (l : OpenLaw) (args : List WData) : l.row.toRowW.claim.post args (.bool true) args = true :=
  postW_of (r := l.row.toRowW) (X := (true == true))
    (show WShape.has [] (.bool true) .bool = true by first | rfl | decide | simp [WShape.has, WShape.arms, WShape.armsAll])
    (show (WTm.eq .res (.lit (.bool true))).value [] { args := args, res := some (.bool true), after := args } = some (.bool (true == true)) from w_eq_bool (w_res rfl) w_lit) rfl
theorem attach_call {l : OpenLaw} {n : Nat} {q : Program} {loose : List Str} {XP : (Str → Option Value) → Heap → Prop} {YP : World → Heap → Prop} {d : DefRec}
    (hn : l.most = some n) (hdf : d.params.defaults = [])
    (call : ∀ (w : World) (s₀ s₁ : Shared) (mg mb : Str → Option Value) (fa : Addr) (o : Obj) (pm cd doc : Value) (a : Addr) (vs : List Value) (ns : List Int),
      Ground q loose [] XP w s₀ mg mb s₁.heap → YP w s₁.heap →
      s₁.heap.get? fa = some o → o.data = .func (docDef d.name d.params d.body d.scope pm cd doc) → s₁.heap.CodeRec cd d.name → mg d.name = some (.ref fa) →
      s₁.heap.get? a = some { cls := .type "list", data := .seq vs.toArray } → IntsAre vs ns → ns.length ≤ n → s₁.gens = #[] →
      codeAny (model l.prog w) callerA (.call (.ref fa) ⟨[.ref a], []⟩) (fun r s' => r = .ok (.ret (.bool true)) ∧ OldK s₁.heap s'.heap ∧ s'.os = s₁.os ∧ AllBare s'.gens) s₁) :
    WalkO q loose XP YP l.row.toRowW d [] (fun f vs => PySem.call f vs) := by
  intro w s₀ s₁ mg mb G Y fa o pm cd doc dV kV ho hd hcd hD hmg hg args vals as hpre hlay hrd hwl hlo
  obtain rfl : dV = .none := Dflts.none hD hdf
  obtain rfl : kV = .none := Dflts.noKw hD
  obtain ⟨a, vs, ns, rfl, rfl, hobj, hints, hlen⟩ := script_of hn hpre hwl
  refine enter_call (codeAny_mono (call w s₀ s₁ mg mb fa o pm cd doc a vs ns G Y ho (fd_plain hd) hcd hmg hobj hints hlen hg) fun r s' hq => ?_)
  obtain ⟨rfl, h2, h3, h4⟩ := hq
  exact ⟨.inl ⟨.bool true, .bool true, [], rfl, fun _ => rfl, .bool true, post_true l _, fun _ => ⟨List.Pairwise.nil, fun _ hm => (nomatch hm)⟩⟩, h2, h3, h4⟩
section
variable {prog : Program} {w : World} {A : Around} {E : Value → Shared → Prop} {s : Shared} {K : Frag}
end
end Att
namespace L2
open PySem PySem.Spec PyProof.Rows
theorem vals_ints : ∀ {vs : List Value} {ns : List Int}, IntsAre vs ns → Vals (ns.map V.int) vs
  | _, _, .nil => .nil
  | _, _, .cons n t h => .cons ⟨t, rfl⟩ (vals_ints h)
def Only (H : Hp) : Prop := ∀ b, H b = none ∨ ∃ o xs, H b = some (.frz o (.lst xs))
theorem law_call {P : Program} {w : World} {K : PySem.W.Frag} {mg mb : Str → Option Value} {CX : CXT} {k : Nat} {fa a : Addr} {fd : FuncData} {x : Str} {sp : Sp} {s₁ : Shared} {vs : List Value} {ns : List Int}
    (KX : K.In s₁.heap) (hns : s₁.heap.Ns mainGlobals mg) (hb : s₁.heap.Ns builtinsNs mb) (hbb : ∀ x : Str, x ≠ "__name__" → mb x = bootBuiltins x) (hlim : s₁.heap.NoLimit) (hg : s₁.gens = #[])
    (ha : s₁.heap.get? a = some { cls := .type "list", data := .seq vs.toArray }) (hi : IntsAre vs ns) (hl : ns.length ≤ sizeLine) (hr : Room k callerA)
    (F : ∀ base : Heap, K.In base → base.Ns mainGlobals mg → FnOk P w K mg base CX k fa fd [x] sp) (hbind : ∀ (s : Shared) (u : Value), BindsTo s fd ⟨[u], []⟩ [(x, u)])
    (hsp : ∀ H : Hp, Only H → SqL K H a (ns.map V.int) → sp [.ref a] H (fun v _ => v = .bl true) fun _ _ _ => False)
    (hCX : ∀ H e s', CX [] H s₁ (fun _ _ _ => False) e s' → False) :
    codeAny (model P w) callerA (.call (.ref fa) ⟨[.ref a], []⟩) (fun r s' => r = .ok (.ret (.bool true)) ∧ OldK s₁.heap s'.heap ∧ s'.os = s₁.os ∧ AllBare s'.gens) s₁ := by
  have rv := vals_ints hi
  have lenV := hi.length
  have core : ∀ H : Hp, Only H → SqL K H a (ns.map V.int) → HOk P w H s₁.heap → (∀ b, H b ≠ none → b = a) → (H a ≠ none → K.lookup a = none) →
      codeAny (model P w) callerA (.call (.ref fa) ⟨[.ref a], []⟩) (fun r s' => r = .ok (.ret (.bool true)) ∧ OldK s₁.heap s'.heap ∧ s'.os = s₁.os ∧ AllBare s'.gens) s₁ := by
    intro H hO hS hok hA hK
    have base_of : ∀ {b : Addr} {o : Obj}, s₁.heap.get? b = some o → H b = none → (hidT s₁.heap H).get? b = some o := fun e n => hidT_get e n
    have noA : ∀ {b : Addr} {o : Obj} {es : Array DictEntry} {ep : Nat}, s₁.heap.get? b = some o → o.data = .dict es ep → H b = none := fun {b o es ep} e d => by
      cases q : H b with
      | none => rfl
      | some u =>
        have e' : b = a := hA b (by rw [q]; simp)
        subst e'
        rw [ha] at e; cases e
        have d' : Data.seq vs.toArray _ = Data.dict es ep := d
        cases d'
    have nsK : ∀ {b : Addr} {m : Str → Option Value}, s₁.heap.Ns b m → (hidT s₁.heap H).Ns b m := fun {b m} ⟨o, es, ep, e, d, r⟩ => ⟨o, es, ep, base_of e (noA e d), d, r⟩
    have hKb : K.In (hidT s₁.heap H) := fun b o e => base_of (KX b o e) (by
      cases q : H b with
      | none => rfl
      | some u =>
        have e' : b = a := hA b (by rw [q]; simp)
        subst e'
        rw [hK (by rw [q]; simp)] at e; cases e)
    have hM : Mod K mg (hidT s₁.heap H) := ⟨hKb, nsK hns, ⟨mb, nsK hb, hbb⟩, let ⟨mc, h1, h2⟩ := hlim; ⟨mc, nsK h1, h2⟩⟩
    have e0 : Env0 P w K mg (hidT s₁.heap H) callerA [] s₁ H := ⟨rfl, hM, fun b o e => of_hidT e, Nat.le_of_eq (hidT_size _ _), trivial, fun b hb => absurd (show b ∈ ([] : List Addr) from hb) (by simp), hok, .of_eq hg⟩
    refine codeAny_mono ((F _ hKb (nsK hns)).run callerA [] s₁ H ⟨[.ref a], []⟩ [.ref a] [.ref a] _ _ hr e0 (hbind s₁ (.ref a)) (.cons rfl .nil) (hsp H hO hS)) fun r s' h => ?_
    cases r with
    | error e => exact (hCX H e s' h).elim
    | ok fl =>
      cases fl with
      | next => exact False.elim h
      | brk => exact False.elim h
      | cont => exact False.elim h
      | ret u =>
        obtain ⟨v, H', os, bare, un, hok', r', q⟩ := h
        have q' : v = .bl true := q
        subst q'
        obtain rfl : u = Value.bool true := r'
        refine ⟨rfl, OldK.of_keep fun b o e => ?_, os, bare⟩
        cases q : H b with
        | none => exact un.keep b o e q (by intro z; exact absurd (show b ∈ ([] : List Addr) from z) (by simp)) (by simp)
        | some u =>
          rcases hO b with z | ⟨ob, xs, z⟩
          · rw [q] at z; cases z
          · have z2 := un.frzs b ob _ z
            obtain ⟨e1, _⟩ := hok b _ z
            obtain ⟨e2, _⟩ := hok' b _ z2
            rw [e] at e1; cases e1
            exact e2
  cases hk : K.lookup a with
  | some o =>
    have e := KX a o hk
    rw [ha] at e
    cases e
    refine core (fun _ => none) (fun _ => .inl rfl) (.inr ⟨_, vs.toArray, _, hk, rfl, rfl, rfl, by rw [List.size_toArray, lenV]; exact hl, by simpa using rv⟩) (fun b u z => by have z' : (none : Option HO) = some u := z; cases z') (fun b z => absurd rfl z) fun z => absurd rfl z
  | none =>
    refine core (fun b => if b = a then some (.frz { cls := .type "list", data := .seq vs.toArray } (.lst (ns.map V.int))) else none) (fun b => ?_) (.inl (.inr ⟨{ cls := .type "list", data := .seq vs.toArray }, if_pos rfl⟩)) (fun b u z => ?_) (fun b z => ?_) fun _ => hk
    · by_cases hb : b = a
      · exact .inr ⟨_, _, if_pos hb⟩
      · exact .inl (if_neg hb)
    · by_cases hb : b = a
      · have z' := (if_pos hb).symm.trans z
        cases z'
        subst hb
        exact ⟨ha, by rw [List.length_map]; exact hl, vs, _, rv, ha⟩
      · have z' := (if_neg hb).symm.trans z
        cases z'
    · by_cases hb : b = a
      · exact hb
      · exact absurd (if_neg hb) z
end L2
namespace L2
open PySem PySem.Spec PyProof.Rows
theorem walk_of {l : PySem.W.OpenLaw} {n k : Nat} {q : Program} {loose : List Str} {XP : (Str → Option Value) → Heap → Prop} {YP : World → Heap → Prop} {d : DefRec} {K : Params → PySem.W.Frag} {CX : World → CXT} {sp : World → Sp} {x : Str}
    (hn : l.most = some n) (hn2 : n ≤ sizeLine) (hdf : d.params.defaults = []) (hr : Room k callerA)
    (hY : ∀ (w : World) (h : Heap), YP w h → (K w.params).In h)
    (F : ∀ (w : World) (mg : Str → Option Value) (fa : Addr) (h : Heap), (K w.params).In h → h.Ns mainGlobals mg → mg d.name = some (.ref fa) →
      ∃ fd : FuncData, (∀ (s : Shared) (u : Value), BindsTo s fd ⟨[u], []⟩ [(x, u)]) ∧
        ∀ base : Heap, (K w.params).In base → base.Ns mainGlobals mg → FnOk l.prog w (K w.params) mg base (CX w) k fa fd [x] (sp w))
    (hsp : ∀ (w : World) (H : Hp) (a : Addr) (ns : List Int), ns.length ≤ n → Only H → SqL (K w.params) H a (ns.map V.int) → sp w [.ref a] H (fun v _ => v = .bl true) fun _ _ _ => False)
    (hCX : ∀ (w : World) (H : Hp) (s : Shared) (e : Value) (s' : Shared), CX w [] H s (fun _ _ _ => False) e s' → False) :
    PySem.W.WalkO q loose XP YP l.row.toRowW d [] (fun f vs => PySem.call f vs) := by
  refine Att.attach_call hn hdf fun w s₀ s₁ mg mb fa o pm cd doc a vs ns G Y ho hd hcd hmg hobj hints hlen hg => ?_
  have KX := hY w _ Y
  obtain ⟨fd, hb, hF⟩ := F w mg fa _ KX G.T.g hmg
  exact law_call KX G.T.g G.T.b G.T.builtins G.T.nolimit hg hobj hints (Nat.le_trans hlen hn2) hr hF hb (fun H hO hS => hsp w H a ns hlen hO hS) fun H e s' => hCX w H s₁ e s'
end L2
/- THE LAST THEOREM (shape; LID, My.* are yours):
   My.Adr: a structure of the addresses that your layer names (classes, functions); My.Txt K t: a structure (Prop) of the equations over K;
   My.txt_mk : {K} {implicit addresses ..} (e1 : nsIn K mainGlobals "law" = some (some (.ref f))) (e2 : K.lookup f = some ⟨oc, od, .func (fnOf "law" "law" params body scope dV kV doc pm an cdv ct), sl⟩) (e3 : codeIn K cdv "law" = true) .. : ∃ t, My.Txt K t
set_option maxRecDepth 100000 in
set_option maxHeartbeats 0 in
theorem PySem.Challenge.cw_LID_holds : PySem.Challenge.rw_LID.Holds := by
  w_on; o_law; k_head; (case hw => w_witness2)
  k_fill
  refine L2.walk_of (l := PySem.Challenge.rw_LID) (n := 63) (k := 40) (x := "script") (CX := fun w => ..) (sp := fun _ => My.sp_law) rfl (by decide) rfl ⟨rfl, by decide, by decide⟩ (fun w h Y => PySem.W.kIn_of Y) ?F ?S ?C
  case F =>
    intro w mg fa h KX G hmg
    have T : ∃ t, My.Txt (L2.KOf KX) t := by
      dsimp only [L2.KOf]                          -- K must stand as «<heap const> w.params» for k_is
      refine' My.txt_mk ?e1 ?e2 ?e3 ..
      (case e1 => PySem.W.k_is)                    -- in the order: a name -> its address -> its object -> its parts
      (case e2 => PySem.W.k_is)
      ..
    obtain ⟨t, T⟩ := T
    have e0 := hmg.symm.trans (PySem.W.mg_of KX G T.law)
    cases e0                                       -- fa is the law's own address
    exact ⟨_, fun s u => .of_eq rfl, fun base kb nb => My.law_fn T kb nb⟩     -- if «.of_eq rfl» comes too early: refine' ⟨_, ?b, fun base kb nb => My.law_fn T kb nb⟩; exact fun s u => .of_eq rfl
  case S => exact fun w H a ns hl hO hS => ..
  case C => exact ..
(the tactic k_is has no namespace: write k_is) -/
namespace L2
open PySem PySem.Spec PyProof.Rows
def inClass (s : Stmt) (j : Nat) : Stmt := match s with
  | .ClassDef _ _ _ body _ _ _ _ _ _ _ => body.getD j (.Pass ⟨0, 0, 0, 0⟩)
  | _ => .Pass ⟨0, 0, 0, 0⟩
def defArgs (s : Stmt) : Arguments := match s with
  | .FunctionDef _ a _ _ _ _ _ _ _ _ => a
  | _ => { posonlyargs := [], args := [], vararg := none, kwonlyargs := [], kw_defaults := [], kwarg := none, defaults := [] }
def defBody (s : Stmt) : List Stmt := match s with
  | .FunctionDef _ _ b _ _ _ _ _ _ _ => b
  | _ => []
def defScope (s : Stmt) : Scope := match s with
  | .FunctionDef _ _ _ _ _ _ sc _ _ _ => sc
  | _ => { kind := .function, names := [], isGenerator := false, isCoroutine := false }
abbrev CX0 : CXT := fun _ _ _ _ _ _ => False
abbrev E0 : XK := fun _ _ _ => False
theorem pass0 {X : Cx} : Passes CX0 X E0 := fun _ _ _ _ _ _ _ h => h.elim
structure Fun (K : PySem.W.Frag) (x qual : Str) (st : Stmt) (f : Addr) (fd : FuncData) : Prop where
  ex : ∃ (oc : Value) (od : Option Addr) (kV doc pm : Value) (an : Option Addr) (cdv ct : Value) (osl : Array (Option Value)),
    fd = PySem.W.fnOf x qual (defArgs st) (defBody st) (defScope st) .none kV doc pm an cdv ct ∧ K.lookup f = some ⟨oc, od, .func fd, osl⟩ ∧ PySem.W.codeIn K cdv qual = true
  kp : PySem.W.keepIn K (.ref f) = true
section
variable {P : Program} {w : World} {K : PySem.W.Frag} {mg : Str → Option Value} {base : Heap}
theorem Fun.ok {x qual : Str} {st : Stmt} {f : Addr} {fd : FuncData} {N ps : List Str} {k : Nat} {sp : Sp} (F : Fun K x qual st f fd) (S : FnScope N ps (defScope st)) (len : ∀ vs H Q E, sp vs H Q E → vs.length = ps.length)
    (hbody : ∀ (cdv : Value) (A : Around) (outer : List Env) (s : Shared) (H : Hp) (vs : List V) (Q : VK) (E : XK), Room k (A.deeper (envOfC qual (defScope st) s.heap.objs.size f cdv)) → sp vs H Q E →
      ∃ t, PSs (cxOf CX0 P w K mg base N qual (defScope st) f cdv A outer s H E).nox (defBody st) t ∧ t { nx := fun _ H' => Q .non H', rt := Q } (start N vs) H) : FnOk P w K mg base CX0 (k + 1) f fd ps sp := by
  obtain ⟨oc, od, kV, doc, pm, an, cdv, ct, osl, rfl, lk, hcd⟩ := F.ex
  refine fn_of lk hcd S len fun A outer s H vs Q E hr hsp => ?_
  obtain ⟨t, h, q⟩ := hbody cdv A outer s H vs Q E hr hsp
  exact ⟨t, h.nox, q⟩
theorem Fun.binds {x qual : Str} {st : Stmt} {f : Addr} {fd : FuncData} {ps : List Str} (F : Fun K x qual st f fd)
    (h : ∀ (kV doc pm : Value) (an : Option Addr) (cdv ct : Value) (us : List Value), us.length = ps.length → bindArgs (PySem.W.fnOf x qual (defArgs st) (defBody st) (defScope st) .none kV doc pm an cdv ct) ⟨us, []⟩ = pure (ps.zip us)) : Binds K fd ps [] := by
  obtain ⟨oc, od, kV, doc, pm, an, cdv, ct, osl, rfl, lk, hcd⟩ := F.ex
  exact .all (h kV doc pm an cdv ct)
theorem fun_mk {x qual : Str} {st : Stmt} {f : Addr} {oc : Value} {od an : Option Addr} {osl : Array (Option Value)} {kV doc pm cdv ct : Value} (l : K.lookup f = some ⟨oc, od, .func (PySem.W.fnOf x qual (defArgs st) (defBody st) (defScope st) .none kV doc pm an cdv ct), osl⟩)
    (c : PySem.W.codeIn K cdv qual = true) (k : PySem.W.keepIn K (.ref f) = true) : Fun K x qual st f (PySem.W.fnOf x qual (defArgs st) (defBody st) (defScope st) .none kV doc pm an cdv ct) := ⟨⟨oc, od, kV, doc, pm, an, cdv, ct, osl, rfl, l, c⟩, k⟩
end
section
variable {X : Cx}
end
theorem iteF {A B : Prop} (h : B) : if false = true then A else B := by
  rw [if_neg Bool.false_ne_true]
  exact h
theorem iteT {A B : Prop} (h : A) : if true = true then A else B := by
  rw [if_pos rfl]
  exact h
theorem ite2 {c A B : Prop} [Decidable c] (h1 : c → A) (h2 : ¬ c → B) : if c then A else B := by
  by_cases h : c
  · rw [if_pos h]
    exact h1 h
  · rw [if_neg h]
    exact h2 h
theorem iteNS {c A B : Prop} [Decidable c] (hc : c) (h : B) : if (!decide c) = true then A else B := by
  rw [decide_eq_true hc]
  exact iteF h
def Same (H H' : Hp) : Prop := ∀ b o, H b = some o → H' b = some o
theorem Same.refl (H : Hp) : Same H H := fun _ _ h => h
theorem Same.trans {H H1 H2 : Hp} (a : Same H H1) (b : Same H1 H2) : Same H H2 := fun c o h => b c o (a c o h)
theorem Same.seq {K : PySem.W.Frag} {H H' : Hp} {a : Addr} {xs : List V} (e : Same H H') (h : SqL K H a xs) : SqL K H' a xs := by
  rcases h with (h | ⟨o, h⟩) | h
  · exact .inl (.inl (e _ _ h))
  · exact .inl (.inr ⟨o, e _ _ h⟩)
  · exact .inr h
end L2
namespace L3
open PySem PySem.Spec PyProof.Rows L2
def blk (X : Cx) (N : List Str) (scope : Scope) (cl : List (Str × Addr)) (C : Addr) (s : Shared) (H : Hp) (fp : List Addr) : Cx :=
  { X with N := N, s₀ := s, H₀ := H, env := compEnvC scope cl C X.env, outer := X.stack, ex := fp, fn := fun _ => false, pn := [], xe := fun _ _ => False }
structure BScope (X : Cx) (scope : Scope) (fr : List Str) (js : List Nat) : Prop where
  kind : scope.kind = .function
  names : ∀ x ∈ scope.names, x.2 = .local → scope.names.lookup x.1 = some .local
  nocell : ∀ x ∈ scope.names, x.2 ≠ .cell
  free : ∀ x ∈ scope.names, x.2 = .free → x.1 ∈ fr
  len : js.length = fr.length
  at_ : ∀ (i j : Nat) (y : Str), js[i]? = some j → fr[i]? = some y → X.N[j]? = some y ∧ X.env.kindOf y = some .cell ∧ (relabel scope X.env).names.lookup y = some .cell
theorem mem_lookup_isSome {α : Type} {y : Str} : ∀ {l : List (Str × α)}, y ∈ l.map (·.1) → ∃ c, l.lookup y = some c
  | [], h => by simp at h
  | (n, a) :: r, h => by
    cases e : y == n with
    | true => exact ⟨a, by simp [List.lookup_cons, e]⟩
    | false =>
      have hr : y ∈ r.map (·.1) := by
        rcases List.mem_cons.mp h with z | z
        · exact absurd z (by simpa using e)
        · exact z
      obtain ⟨c, hc⟩ := mem_lookup_isSome hr
      exact ⟨c, by simp [List.lookup_cons, e, hc]⟩
def σ0 (k : Nat) (js : List Nat) (σ : L2.St) : L2.St := List.replicate k none ++ js.map fun j => (σ[j]?).join
def CompG (k : Nat) (js : List Nat) (g : TG) (te : TE) (σ : L2.St) (Q : VK) (J : It) (H1 : Hp) : Prop := ∃ W : Nat → Nat → List V → L2.St → Hp → Prop, (∃ m, W 0 m [] (σ0 k js σ) H1) ∧ ∀ i m ys τ H, W i m ys τ H →
  (J.stop i H ∧ ∀ p, H p = none → Q (.ref p) (upd H p (.lst ys))) ∨ (J.go i H ∧ ys.length < sizeLine ∧ ∀ x H', J.yld i H x H' → g x τ H' fun τ2 H2 => ∃ N : V → Hp → Prop, (∀ v H3, N v H3 → ∃ m', m' < m ∧ W (i + 1) m' (ys ++ [v]) τ2 H3) ∧ te τ2 H2 N)
def tComp (k : Nat) (js : List Nat) (wi : TI) (g : TG) (te : TE) : TE := fun σ H Q => wi σ H (CompG k js g te σ Q)
section
variable {prog : Program} {w : World} {A : Around} {R : Result → Shared → Prop} {s : Shared}
theorem compLoop_any {elt target iter : Expr} {scope : Scope} {pos : Pos} {it acc : Value} {env : Env} (I : Nat → Shared → Prop)
    (turn : ∀ n s, I n s → wpAny (model prog w) A (pyNext it) (fun r s₁ => match r with
      | none => R (.ok .next) s₁
      | some v => wpAny (model prog w) A (letOwnedTupleGo target it v) (fun _ s₁' => wpAny (model prog w) A (assign target env v) (fun _ s₂ => wpAny (model prog w) A (eval elt env) (fun x s₃ =>
          wpAny (model prog w) A (call (.builtin "list.append") [acc, x]) (fun _ s₄ => ∃ m, m < n ∧ I m s₄) (fun _ _ => False) s₃)
          (fun _ _ => False) s₂) (fun _ _ => False) s₁') (fun _ _ => False) s₁) (fun _ _ => False) s)
    (n : Nat) (h : I n s) :
    codeAny (model prog w) A (.compLoop (.ListComp elt [⟨target, iter, [], 0⟩] scope pos) 0 it acc env) R s := by
  refine codeAny_loop rfl I (fun n s hI => ?_) n h
  show wpAny _ _ ((compTurn (.ListComp elt [⟨target, iter, [], 0⟩] scope pos) 0 it acc env).onRaise (fun x => do noteFrame x env; theTreesLotGoes x)) _ _ s
  refine wpAny_noted ?_
  rw [compTurn_list1]
  refine wpAny_bind (wpAny_standAt (wpAny_bind (wpAny_mono (turn n s hI) (fun r s₁ h₁ => ?_) fun _ _ h' => h'.elim)))
  cases r with
  | none => exact wpAny_pure h₁
  | some v =>
    refine wpAny_bind (wpAny_mono h₁ (fun _ s₁' h₁' => ?_) fun _ _ h' => h'.elim)
    exact wpAny_bind (wpAny_mono h₁' (fun _ s₂ h₂ => wpAny_bind (wpAny_bind (wpAny_mono h₂ (fun x s₃ h₃ => wpAny_bind (wpAny_mono h₃
      (fun _ s₄ h₄ => wpAny_pure (wpAny_pure ⟨rfl, h₄⟩)) fun _ _ h' => h'.elim)) fun _ _ h' => h'.elim))) fun _ _ h' => h'.elim)
end
variable {X : Cx}
structure Away (X : Cx) (pins : List (Addr × Obj)) (H : Hp) (C : Addr) : Prop where
  free : H C = none
  loc : C ≠ X.env.locals
  new : X.s₀.heap.objs.size ≤ C
  cell : ∀ x c, X.env.cells.lookup x = some c → c ≠ C
  pin : ∀ p ∈ X.pn ++ pins, p.1 ≠ C
theorem comp_run {elt tg iter : Expr} {scope : Scope} {cl : List (Str × Addr)} {pos fpos : Pos} {fr own : List Str} {js : List Nat} {wi : TI} {g : TG} {te : TE} {use : Option (Value → Sem Unit)} {Post : Value → Shared → Prop}
    {pins : List (Addr × Obj)} {s : Shared} {σ : L2.St} {H : Hp} {Q : VK}
    (hc : X.calm = true) (hi : PI X tg iter wi) (hclos : closureFor scope X.env = pure cl) (hcl : ∀ y c, cl.lookup y = some c → X.env.cells.lookup y = some c) (hfr : cl.map (·.1) = fr)
    (S : BScope X scope fr js)
    (hg : ∀ C s H fp, PG (blk X (own ++ fr) scope cl C s H fp) tg g) (he : ∀ C s H fp, PE (blk X (own ++ fr) scope cl C s H fp) elt te)
    (hs : ∀ x, foldedSetIterable iter X.env x = pure x)
    (I : L2.Inv X pins σ H s) (h : tComp own.length js wi g te σ H Q)
    (hfin : ∀ (acc C : Addr) (s5 : Shared) (H' : Hp) (m : Str → Option Value), L2.Inv X pins σ H' s5 → s5.heap.Ns C m → Away X pins H' C → Q (.ref acc) H' → compPost (model X.prog X.w) X.A X.xe use Post (.ref acc) C (.ok .next) s5) :
    wpAny (model X.prog X.w) X.A (comprehension (.ListComp elt [⟨tg, iter, [], 0⟩] scope pos) scope X.env fpos (newList []) false (eval iter X.env) use) Post X.xe s := by
  refine wpAny_comprehension_free (use := use) rfl hs hclos S.kind S.names (thn (hi pins s σ H _ I h) fun v s1 h1 => thn h1 fun itv s2 h2 => ?_)
  obtain ⟨it, fp, tn, J, H2, e, I2, T, st2, f2, W, ⟨m0, w0⟩, turn⟩ := h2
  subst e
  refine wpAny_newObj_type (wpAny_newFunctionEnv S.nocell (by intro y hy; simp at hy) (fun h₁ hns₁ hsb₁ => ?_) S.kind)
  dsimp only at hns₁ hsb₁ ⊢
  generalize hH2 : s2.heap.push { cls := .type "list", dict := none, data := .seq ([] : List Value).toArray } = G at hns₁ hsb₁ ⊢
  have hC : G.objs.size = s2.heap.objs.size + 1 := by rw [← hH2, Heap.size_push]
  have hDC : s2.heap.objs.size ≠ G.objs.size := by rw [hC]; exact Nat.ne_of_lt (Nat.lt_succ_self _)
  have below : ∀ b, b < s2.heap.objs.size → b ≠ G.objs.size ∧ b ≠ s2.heap.objs.size := fun b hb => ⟨by rw [hC]; exact Nat.ne_of_lt (Nat.lt_succ_of_lt hb), Nat.ne_of_lt hb⟩
  have old : ∀ b o, s2.heap.get? b = some o → h₁.get? b = some o := fun b o e => hsb₁.extBut b o (below b (Heap.lt_size e)).1 (Heap.get?_push_of_some _ (hH2 ▸ Heap.get?_push_of_some _ e))
  have hacc : h₁.get? s2.heap.objs.size = some { cls := .type "list", data := .seq ([] : List Value).toArray 0 } := hsb₁.extBut _ _ hDC (Heap.get?_push_of_some _ (hH2 ▸ Heap.get?_push_size _ rfl))
  let Y : Cx := blk X (own ++ fr) scope cl G.objs.size s2 H2 fp
  have fplt : ∀ b ∈ fp, b < s2.heap.objs.size := fun b hb => by obtain ⟨o, e, _⟩ := T.obj _ _ st2 b hb; exact Heap.lt_size e
  have okY : Y.Ok := by
    refine ⟨I2.ok.mod, S.kind, I2.ok.glob, I2.ok.blt, by show s2.heap.objs.size ≤ G.objs.size; omega, ?_, ?_, ?_, I2.ok.hd, I2.ok.frames, .inl rfl, ?_, I2.bs, Nat.le_trans I2.ok.bsz I2.sz, ?_, ?_, I2.stack, I2.stkFree⟩
    · exact fun x y c e1 e2 => I2.ok.inj x y c (hcl x c e1) (hcl y c e2)
    · intro x hx
      have hx' : (relabel scope X.env).names.lookup x = some .cell ∨ (relabel scope X.env).names.lookup x = some .free := hx
      have hm : ∃ k, (x, k) ∈ scope.names ∧ k = .free := by
        have aux : ∀ kk : NameKind, (kk = .cell ∨ kk = .free) → (relabel scope X.env).names.lookup x = some kk → ∃ k, (x, k) ∈ scope.names ∧ k = .free := by
          intro kk hk el
          obtain ⟨⟨n, k⟩, hmem, e⟩ := List.mem_map.mp (PySem.mem_of_lookup el)
          dsimp only at e
          split at e
          · rename_i hcond
            cases e
            refine ⟨k, hmem, ?_⟩
            simp only [Bool.and_eq_true, beq_iff_eq] at hcond
            exact hcond.1.1
          · cases e
            rcases hk with z | z
            · subst z; exact absurd rfl (S.nocell _ hmem)
            · exact ⟨_, hmem, z⟩
        rcases hx' with z | z
        · exact aux _ (.inl rfl) z
        · exact aux _ (.inr rfl) z
      obtain ⟨k, hmem, hk⟩ := hm
      exact mem_lookup_isSome (l := cl) (by rw [hfr]; exact S.free _ hmem hk)
    · exact fun x c e _ => nomatch e
    · refine fun b hb => ⟨?_, fun x c e => (f2 b hb).2.2.2.2.1 x c (hcl x c e)⟩
      show b ≠ G.objs.size
      exact (below b (fplt b hb)).1
    · intro b o e hb
      rcases (f2 b hb).2.2.2.1 with z | z
      · exact I2.ok.noex b o e z
      · exact absurd (Nat.lt_of_lt_of_le (Heap.lt_size e) (Nat.le_trans I2.ok.bsz z)) (Nat.lt_irrefl _)
    · intro b hb hf
      rcases List.mem_cons.mp (I2.stkSub b hf) with z | z
      · exact (f2 b hb).2.1 z
      · exact (f2 b hb).2.2.1 z
  have lenσ : (σ0 own.length js σ).length = (own ++ fr).length := by unfold σ0; simp [S.len]
  have IY : Inv Y [] (σ0 own.length js σ) H2 { s2 with heap := h₁, toks := s2.toks + ([] : List (Str × Value)).length } := by
    refine ⟨okY, rfl, I2.bare, Un.kept old, ⟨_, hns₁, ?_⟩, ?_, ?_, ?_, fun p hp => absurd (show p ∈ ([] : List (Addr × Obj)) from hp) (by simp), I2.hok.kept old, lenσ⟩
    · intro i x v hN hv _
      have hN' : (own ++ fr)[i]? = some x := hN
      unfold σ0 at hv
      by_cases hlt : i < own.length
      · rw [List.getElem?_append_left (by simpa using hlt), List.getElem?_replicate] at hv
        split at hv <;> cases hv
      · rw [List.getElem?_append_right (by simpa using Nat.le_of_not_lt hlt), List.length_replicate, List.getElem?_map] at hv
        rw [List.getElem?_append_right (Nat.le_of_not_lt hlt)] at hN'
        cases ej : js[i - own.length]? with
        | none => rw [ej] at hv; cases hv
        | some j =>
          rw [ej] at hv
          have hσ : σ[j]? = some (some v) := by
            have hv' : (σ[j]?).join = some v := Option.some.inj hv
            cases q : σ[j]? with
            | none => rw [q] at hv'; cases hv'
            | some o => rw [q] at hv'; have : o = some v := hv'; rw [this]
          obtain ⟨hNj, hk, hkr⟩ := S.at_ _ j x ej hN'
          obtain ⟨m, hn, hl⟩ := I2.loc
          obtain ⟨u, ru, lk⟩ := hl j x v hNj hσ (.inr (.inl hk))
          refine ⟨u, ru, .inr ?_⟩
          rcases lk with ⟨k1, _⟩ | ⟨_, c, ec, ic⟩
          · rw [hk] at k1; cases k1
          · obtain ⟨c', hc'⟩ := mem_lookup_isSome (y := x) (l := cl) (by rw [hfr]; exact List.mem_of_getElem? hN')
            have : c' = c := by have := hcl x c' hc'; rw [ec] at this; exact (Option.some.inj this).symm
            subst this
            refine ⟨?_, c', hc', ?_⟩
            · show (relabel scope X.env).names.lookup x = some .cell ∨ (relabel scope X.env).names.lookup x = some .free
              exact .inl hkr
            · obtain ⟨oc, hoc, hd⟩ := ic
              exact ⟨oc, old _ _ hoc, hd⟩
    · intro x c e
      obtain ⟨v, oc, hoc, hd⟩ := I2.cell x c (hcl x c e)
      exact ⟨v, oc, old _ _ hoc, hd⟩
    · exact I2.hok.fresh (by show s2.heap.objs.size ≤ G.objs.size; omega)
    · exact fun x c e => I2.freeC x c (hcl x c e)
  have accfs : s2.heap.objs.size ∉ frs X.stack := fun hf => by
    rcases List.mem_cons.mp (I2.stkSub _ hf) with z | z
    · exact absurd (by rw [← z] ; exact Nat.le_refl _ : s2.heap.objs.size ≤ X.env.locals) (Nat.not_le.mpr I2.lt)
    · exact I2.nofs (Nat.le_refl _) z
  have acccell : ∀ x c, cl.lookup x = some c → c ≠ s2.heap.objs.size := fun x c e z => by
    obtain ⟨v, oc, hoc, _⟩ := I2.cell x c (hcl x c e)
    exact absurd (Heap.lt_size hoc) (by rw [z]; exact Nat.lt_irrefl _)
  have fpY : ∀ {H' : Hp} {pl : List (Addr × Obj)}, (∀ b ∈ fp, H' b = none) → (∀ p ∈ pl, p.1 = s2.heap.objs.size) → ∀ b ∈ fp, FpOk Y pl H' b := fun {H' pl} hn hp b hb =>
    ⟨hn b hb, (below b (fplt b hb)).1, okY.exfs b hb, .inl hb, fun x c e => (f2 b hb).2.2.2.2.1 x c (hcl x c e), fun p hpp => by
      have hpp' : p ∈ pl := by simpa [Y, blk] using hpp
      rw [hp p hpp']; exact Ne.symm (below b (fplt b hb)).2⟩
  have loop : ∀ s₃ : Shared, Inv Y [] (σ0 own.length js σ) H2 s₃ → tn 0 s₃.heap → s₃.heap.get? s2.heap.objs.size = some { cls := .type "list", data := .seq ([] : List Value).toArray 0 } →
      codeAny (model X.prog X.w) X.A (.compLoop (.ListComp elt [⟨tg, iter, [], 0⟩] scope pos) 0 (.ref it) (.ref s2.heap.objs.size) (compEnvC scope cl G.objs.size X.env))
        (compPost (model X.prog X.w) X.A X.xe use Post (.ref s2.heap.objs.size) G.objs.size) s₃ := by
    intro s₃ I3 st3 ha3
    refine compLoop_any (fun n s' => ∃ i ys τ H' its k, Inv Y [(s2.heap.objs.size, { cls := .type "list", data := .seq its.toArray k })] τ H' s' ∧ tn i s'.heap ∧ (∀ b ∈ fp, H' b = none) ∧ Vals ys its ∧ ys.length ≤ sizeLine ∧ W i n ys τ H') ?_ m0 ?_
    · rintro n s4 ⟨i, ys, τ, H4, its, k, I4, st4, fr4, vl, hz, w4⟩
      have pin4 := I4.pin (s2.heap.objs.size, { cls := .type "list", data := .seq its.toArray k }) (by simp [Y, blk])
      rcases turn i n ys τ H4 w4 with ⟨stop, qn⟩ | ⟨go, hlt, step⟩
      · refine thn (T.done Y rfl rfl rfl hc i _ s4 τ H4 _ I4 (fpY fr4 (by simp)) st4 stop) fun r s5 ⟨hr, I5⟩ => ?_
        subst hr
        show compPost _ _ _ _ _ _ _ _ _
        obtain ⟨m5, hn5, _⟩ := I5.loc
        have pin5 := I5.pin (s2.heap.objs.size, { cls := .type "list", data := .seq its.toArray k }) (by simp [Y, blk])
        have nacc : H4 s2.heap.objs.size = none := pin5.2.1
        have B := I5.base
        have nC : H4 G.objs.size = none := I5.free
        refine hfin s2.heap.objs.size G.objs.size s5 (upd H4 s2.heap.objs.size (.lst ys)) m5 ?_ hn5 ?_ (qn _ nacc)
        · refine I2.call' (s' := s5) (ch := fp) I5.os ⟨B.keep, B.slot, fun b o e n hx => ?_, B.there, fun b xs e => ?_, fun b o u e => ?_, fun b ps e => ?_⟩ ?_ I5.bare ?_
          · rw [upd_ne (below b (Heap.lt_size e)).2]; exact B.free b o e n hx
          · have e1 := B.tups b xs e
            rw [upd_ne (ne_of_none e1 nacc)]; exact e1
          · have e1 := B.frzs b o u e
            rw [upd_ne (ne_of_none e1 nacc)]; exact e1
          · obtain ⟨more, e1⟩ := B.tbls b ps e
            exact ⟨more, by rw [upd_ne (ne_of_none e1 nacc)]; exact e1⟩
          · intro b u e
            by_cases hb : b = s2.heap.objs.size
            · subst hb
              rw [upd_same] at e; cases e
              exact ⟨hz, its, k, vl, pin5.1⟩
            · rw [upd_ne hb] at e
              exact (I5.hok b u e).stay (fun c v _ q => q) (fun c q => by rw [upd_ne (ne_of_none q nacc)]; exact q) fun c xs q => by rw [upd_ne (ne_of_none q nacc)]; exact q
          · exact fun b hb => ⟨(f2 b hb).2.2.2.1, (f2 b hb).2.1, (f2 b hb).2.2.2.2.1, (f2 b hb).2.2.2.2.2⟩
        · have hge : s2.heap.objs.size ≤ G.objs.size := by omega
          refine ⟨by rw [upd_ne (Ne.symm hDC)]; exact nC, ?_, Nat.le_trans I2.sz hge, fun x c e z => ?_, fun p hp z => ?_⟩
          · exact Nat.ne_of_gt (Nat.lt_of_lt_of_le I2.lt hge)
          · obtain ⟨v, oc, hoc, _⟩ := I2.cell x c e
            exact absurd (Nat.lt_of_lt_of_le (Heap.lt_size hoc) hge) (by rw [z]; exact Nat.lt_irrefl _)
          · exact absurd (Nat.lt_of_lt_of_le (Heap.lt_size (I2.pin p hp).1) hge) (by rw [z]; exact Nat.lt_irrefl _)
      · refine thn (T.item Y rfl rfl rfl hc i _ s4 τ H4 _ I4 (fpY fr4 (by simp)) st4 go) fun r s5 ⟨u, hr, h5⟩ => ?_
        subst hr
        refine thn h5 fun _ s6 ⟨x, H6, I6, r6, y6, st6, fr6⟩ => ?_
        have I6' := I6.pinned (fpY fr6 (by simp)) (T.obj _ _ st6)
        refine thn (hg _ _ _ _ _ s6 τ H6 x u _ I6' r6 (step x H6 y6)) fun _ s7 ⟨τ7, H7, I7, N, hN, q7⟩ => ?_
        refine thn (he _ _ _ _ _ s7 τ7 H7 _ I7 q7) fun v' s8 ⟨y, H8, I8, r8, n8⟩ => ?_
        obtain ⟨m', hm', w8⟩ := hN _ _ n8
        have pin8 := I8.pin (s2.heap.objs.size, { cls := .type "list", data := .seq its.toArray k }) (by simp [blk])
        have pinfp : ∀ b ∈ fp, ∀ o, s6.heap.get? b = some o → s8.heap.get? b = some o ∧ H8 b = none := fun b hb o e => by
          have := I8.pin (b, o) (List.mem_append_right _ (List.mem_append_right _ (mem_pinsAt hb e)))
          exact ⟨this.1, this.2.1⟩
        refine wpAny_list_append_plain (items := its.toArray) ⟨k, pin8.1⟩ (fun h' ha' hs' => ?_) (by have := vl.length; simp; omega)
        obtain ⟨k', ha'⟩ := ha'
        have I9 : Inv Y [] τ7 H8 { s8 with heap := h' } := by
          refine (I8.pins_of (pins' := []) (by simp)).turned (t' := s8.toks) (it := s2.heap.objs.size) (fun b o hb e => (hs'.2 b hb).trans e) pin8.2.1 ?_ (.inr (Nat.le_refl _)) (fun x c e => acccell x c e) (fun p hp => absurd (show p ∈ ([] : List (Addr × Obj)) from by simpa [Y, blk] using hp) (by simp))
          exact hDC
        have ea : (its.toArray.push v') = (its ++ [v']).toArray := by simp
        rw [ea] at ha'
        refine ⟨m', hm', i + 1, ys ++ [y], τ7, H8, its ++ [v'], k', I9.pins_of ?_, T.keep _ _ _ st6 fun b hb o e => (hs'.2 b (below b (fplt b hb)).2).trans (pinfp b hb o e).1, fun b hb => ?_, vl.append (.cons r8 .nil), ?_, w8⟩
        · intro p hp
          rw [List.mem_singleton.mp hp]
          exact ⟨ha', pin8.2.1, hDC, accfs, fun v z => by cases z⟩
        · obtain ⟨o, e, _⟩ := T.obj _ _ st6 b hb
          exact (pinfp b hb o e).2
        · rw [List.length_append, List.length_singleton]; omega
    · refine ⟨0, [], σ0 own.length js σ, H2, [], 0, I3.pins_of ?_, st3, fun b hb => (f2 b hb).1, .nil, Nat.zero_le _, w0⟩
      intro p hp
      rw [List.mem_singleton.mp hp]
      exact ⟨ha3, I2.hok.fresh (Nat.le_refl _), hDC, accfs, fun v z => by cases z⟩
  have st1 : tn 0 h₁ := T.keep _ _ _ st2 fun b _ o e => old b o e
  exact codeAny_compStart_list (loop _ IY st1 hacc) (T.self _ 0 _ _ _ st1 (loop _ IY st1 hacc))
theorem pe_comp {elt tg iter : Expr} {scope : Scope} {cl : List (Str × Addr)} {pos : Pos} {fr own : List Str} {js : List Nat} {wi : TI} {g : TG} {te : TE}
    (hc : X.calm = true) (hi : PI X tg iter wi) (hclos : closureFor scope X.env = pure cl) (hcl : ∀ y c, cl.lookup y = some c → X.env.cells.lookup y = some c) (hfr : cl.map (·.1) = fr)
    (S : BScope X scope fr js)
    (hg : ∀ C s H fp, PG (blk X (own ++ fr) scope cl C s H fp) tg g) (he : ∀ C s H fp, PE (blk X (own ++ fr) scope cl C s H fp) elt te)
    (hs : ∀ x, foldedSetIterable iter X.env x = pure x := by intro _; rfl) :
    PE X (.ListComp elt [⟨tg, iter, [], 0⟩] scope pos) (tComp own.length js wi g te) := by
  intro pins s σ H Q I h
  rw [eval_ListComp]
  refine comp_run (use := none) hc hi hclos hcl hfr S hg he hs I h fun acc C s5 H' m I5 hn aw q => ?_
  exact ⟨m, hn, fun h' hs' => ⟨.ref acc, H', I5.turned (t' := s5.toks) (fun b o hb e => (hs'.2 b hb).trans e) aw.free aw.loc (.inr aw.new) aw.cell aw.pin, rfl, q⟩⟩
section
variable {js : List Nat} {te : TE} {σ : L2.St} {H : Hp} {Q : VK} {K : PySem.W.Frag}
abbrev frees (js : List Nat) (σ : L2.St) : L2.St := js.map fun j => (σ[j]?).join
abbrev CompW (J : It) (js : List Nat) (te : TE) (σ : L2.St) (H1 : Hp) (Q : VK) : Prop := CompG 1 js (gName 0) te σ Q J H1
theorem comp_gen {J : It} {n : Nat} (hn : n ≤ sizeLine) (item : Nat → V → Prop) (Pv : Nat → List V → Hp → Prop) (h0 : Pv 0 [] H) (hgo : ∀ i ys H, i < n → Pv i ys H → J.go i H) (hst : ∀ ys H, Pv n ys H → J.stop n H)
    (hy : ∀ i ys H x H', i < n → Pv i ys H → J.yld i H x H' → H' = H ∧ item i x)
    (hs : ∀ i ys H x, i < n → ys.length = i → Pv i ys H → item i x → te (some x :: frees js σ) H fun v H3 => Pv (i + 1) (ys ++ [v]) H3)
    (hd : ∀ ys H, ys.length = n → Pv n ys H → ∀ p, H p = none → Q (.ref p) (upd H p (.lst ys))) : CompW J js te σ H Q := by
  refine ⟨fun i m ys τ H => m = n - i ∧ i ≤ n ∧ ys.length = i ∧ Pv i ys H ∧ ∃ o, τ = o :: frees js σ, ⟨n, by simp, Nat.zero_le _, rfl, h0, none, rfl⟩, ?_⟩
  rintro i m ys τ H ⟨rfl, hi, hl, p, o, rfl⟩
  by_cases hlt : i < n
  · refine .inr ⟨hgo i ys H hlt p, by omega, fun x H' y => ?_⟩
    obtain ⟨e, hx⟩ := hy i ys H x H' hlt p y
    subst e
    exact ⟨fun v H3 => Pv (i + 1) (ys ++ [v]) H3, fun v H3 p3 => ⟨n - (i + 1), by omega, rfl, hlt, by simp [hl], p3, _, rfl⟩, hs i ys _ x hlt hl p hx⟩
  · have e : i = n := by omega
    subst e
    exact .inl ⟨hst ys H p, hd ys H hl p⟩
theorem comp_list {a : Addr} {xs : List V} (hn : xs.length ≤ sizeLine) (Pv : Nat → List V → Hp → Prop) (h0 : Pv 0 [] H) (hl : ∀ i ys H, Pv i ys H → SqL K H a xs)
    (hs : ∀ i ys H x, xs[i]? = some x → ys.length = i → Pv i ys H → te (some x :: frees js σ) H fun v H3 => Pv (i + 1) (ys ++ [v]) H3)
    (hd : ∀ ys H, ys.length = xs.length → Pv xs.length ys H → ∀ p, H p = none → Q (.ref p) (upd H p (.lst ys))) : CompW (Itl K a) js te σ H Q :=
  comp_gen hn (fun i x => xs[i]? = some x) Pv h0 (fun i ys H hi p => ⟨xs, xs[i], hl _ _ _ p, by simp [hi]⟩) (fun ys H p => ⟨xs, hl _ _ _ p, Nat.le_refl _⟩) (fun i ys H x H' _ p y => ⟨y.1, y.2 xs (hl _ _ _ p)⟩) (fun i ys H x _ hl p hx => hs i ys H x hx hl p) hd
theorem comp_range {lo : Int} {n : Nat} (hn : n ≤ sizeLine) (Pv : Nat → List V → Hp → Prop) (h0 : Pv 0 [] H)
    (hs : ∀ i ys H, i < n → ys.length = i → Pv i ys H → te (some (.int (lo + i)) :: frees js σ) H fun v H3 => Pv (i + 1) (ys ++ [v]) H3)
    (hd : ∀ ys H, ys.length = n → Pv n ys H → ∀ p, H p = none → Q (.ref p) (upd H p (.lst ys))) : CompW (Itr lo n) js te σ H Q :=
  comp_gen hn (fun i x => x = .int (lo + i)) Pv h0 (fun i ys H hi p => hi) (fun ys H p => Nat.le_refl _) (fun i ys H x H' _ p y => y) (fun i ys H x hi hl p hx => by subst hx; exact hs i ys H hi hl p) hd
end
end L3
namespace L3
open PySem PySem.Spec PyProof.Rows L2
section
variable {X : Cx} {pins : List (Addr × Obj)} {σ : L2.St} {H : Hp} {s : Shared}
theorem turnedT {h' : Heap} {t' : Nat} {ch : List Addr} {a : Addr} {xs : List V} {its : List Value} (I : L2.Inv X pins σ H s) (k : ∀ b o, b ∉ ch → s.heap.get? b = some o → h'.get? b = some o) (hch : ∀ b ∈ ch, FpOk X pins H b)
    (ho : ∀ b ∈ ch, ∃ o, h'.get? b = some o) (ha : s.heap.objs.size ≤ a) (hz : xs.length ≤ sizeLine) (hv : Vals xs its) (ht : IsTup h' a its.toArray) : L2.Inv X pins σ (upd H a (.tup xs)) { s with heap := h', toks := t' } := by
  have na : H a = none := I.hok.fresh ha
  have nlt : ∀ b o, s.heap.get? b = some o → b ≠ a := fun b o e => Nat.ne_of_lt (Nat.lt_of_lt_of_le (Heap.lt_size e) ha)
  have nch : ∀ b u, H b = some u → b ∉ ch := fun b u e z => by rw [(hch b z).1] at e; cases e
  refine I.step (g' := s.gens) (d' := s.drawn) (ch := ch) (fun b hb => ⟨(hch b hb).2.2.2.1, (hch b hb).2.1, (hch b hb).2.2.2.2.1, (hch b hb).2.2.2.2.2⟩) (fun b o _ _ hc e _ => k b o hc e) (fun b o _ _ hc e _ => ⟨o.slots, k b o hc e⟩)
    (fun b o _ e n => by rw [upd_ne (nlt b o e)]; exact n) (fun b o hc e => ⟨o, k b o hc e⟩) (fun b ys e => by rw [upd_ne (ne_of_none e na)]; exact e) (fun b o u e => by rw [upd_ne (ne_of_none e na)]; exact e)
    (fun b ps e => ⟨#[], by rw [upd_ne (ne_of_none e na), e]; simp⟩) (fun m hm => ?_) (fun b u e => ?_) I.bare
  · obtain ⟨o, es, ep, ho, r⟩ := hm
    exact ⟨o, es, ep, k _ o (fun z => (hch _ z).2.1 rfl) ho, r⟩
  · by_cases hb : b = a
    · subst hb
      rw [upd_same] at e; cases e
      exact ⟨hz, its, hv, ht⟩
    · rw [upd_ne hb] at e
      refine (I.hok b u e).stay (fun c v hc q => k c v ?_ q) (fun c q => by rw [upd_ne (ne_of_none q na)]; exact q) fun c ys q => by rw [upd_ne (ne_of_none q na)]; exact q
      rcases hc with z | z
      · rw [z]; exact nch b u e
      · exact nch c _ z
def Ite (K : PySem.W.Frag) (a : Addr) : It :=
  ⟨fun i H => ∃ xs x, SqL K H a xs ∧ xs[i]? = some x, fun i H x H' => ∃ p v, H p = none ∧ x = .ref p ∧ (∀ xs, SqL K H a xs → xs[i]? = some v) ∧ H' = upd H p (.tup [.int i, v]), fun i H => ∃ xs, SqL K H a xs ∧ xs.length ≤ i⟩
theorem turn_enum {P : Program} {w : World} {K : PySem.W.Frag} {elts : List Expr} {x1} {pos : Pos} (a e it : Addr) (hei : e ≠ it) :
    Turn P w K (.Tuple elts x1 pos) (Ite K a) [e, it] e (fun i h => (∃ old, IsEnum h e it i old) ∧ h.IsListIter it a i) where
  mem := by simp
  obj := fun i h st b hb => by
    obtain ⟨⟨old, he⟩, ⟨o, ho, hc, hd⟩⟩ := st
    rcases List.mem_cons.mp hb with z | z
    · subst z
      refine ⟨_, he, fun v z => ?_⟩
      have z' : Data.fields _ = Data.cell v := z
      cases z'
    · rw [List.mem_singleton.mp z]
      exact ⟨o, ho, fun v z => by rw [hd] at z; cases z⟩
  keep := fun i h h' st k => ⟨let ⟨old, he⟩ := st.1; ⟨old, k e (by simp) _ he⟩, st.2.at fun o q => k it (by simp) o q⟩
  item := by
    intro X hP hw hK hc i pins s σ H E I hf st hg
    subst hP hw hK
    obtain ⟨xs, x, hq, hx⟩ := hg
    obtain ⟨its, rv, p, hz⟩ := I.list hq
    obtain ⟨u, hu, ru⟩ := rv.get hx
    obtain ⟨⟨old, he⟩, hit⟩ := st
    refine wpAny_pyNext_enum_item he hit p.isList (x := u) (by simpa using hu) hei fun h' ho hit' ht hsz hk => ⟨_, rfl, ?_⟩
    refine wpAny_letOwnedTupleGo_enum ho fun h'' he'' hs'' => ?_
    have helt : e < s.heap.objs.size := Heap.lt_size he
    have hilt : it < s.heap.objs.size := by obtain ⟨_, y, _⟩ := hit; exact Heap.lt_size y
    refine ⟨.ref s.heap.objs.size, upd H s.heap.objs.size (.tup [.int i, x]), ?_, rfl, ⟨_, x, I.hok.fresh (Nat.le_refl _), rfl, fun ys hy => by rw [I.list_inj hy hq]; exact hx, rfl⟩, ⟨⟨_, by simpa using he''⟩, ?_⟩, ?_⟩
    · show L2.Inv X pins σ _ { s with heap := h'', toks := s.toks + 1 }
      refine turnedT (s := s) (its := [.int i s.toks, u]) I (ch := [e, it]) (fun b o hb q => ?_) hf (fun b hb => ?_) (Nat.le_refl _) (by show 2 ≤ sizeLine; decide) (.cons ⟨_, rfl⟩ (.cons ru .nil)) ?_
      · have hb1 : b ≠ e := fun z => hb (by simp [z])
        have hb2 : b ≠ it := fun z => hb (by simp [z])
        exact (hs''.2 b hb1).trans (hk b o hb1 hb2 q)
      · rcases List.mem_cons.mp hb with z | z
        · subst z; exact ⟨_, he''⟩
        · rw [List.mem_singleton.mp z]
          obtain ⟨o, y, _⟩ := hit'
          exact ⟨o, (hs''.2 it (Ne.symm hei)).trans y⟩
      · exact ⟨_, (hs''.2 _ (Nat.ne_of_gt helt)).trans ht, rfl, _, rfl⟩
    · exact hit'.extBut hs''.extBut (Ne.symm hei)
    · intro b hb
      rw [upd_ne]
      · exact (hf b hb).1
      · rcases List.mem_cons.mp hb with z | z
        · subst z; exact Nat.ne_of_lt helt
        · rw [List.mem_singleton.mp z]; exact Nat.ne_of_lt hilt
  done := by
    intro X hP hw hK hc i pins s σ H E I hf st hg
    subst hP hw hK
    obtain ⟨xs, hq, hx⟩ := hg
    obtain ⟨its, rv, p, hz⟩ := I.list hq
    obtain ⟨⟨old, he⟩, hit⟩ := st
    obtain ⟨f0, f1, f2, f3, f4, f5⟩ := hf it (by simp)
    have hl := rv.length
    exact wpAny_pyNext_enum_end (I.ok.hd hc) he hit p.isList (by simp; omega) fun h' eb => ⟨rfl, I.turned (t' := s.toks) (fun b o hb e => eb b o hb e) f0 f1 f3 f4 f5⟩
  self := fun _ _ _ _ _ st h => by
    obtain ⟨⟨old, he⟩, _⟩ := st
    exact wpAny_pyIter_enum he h
def iEnum (K : PySem.W.Frag) (ta : TA) : TI := fun σ H R => ta σ H fun vs H1 => ∃ a, vs = [.ref a] ∧ (∃ xs, SqL K H1 a xs) ∧ R (Ite K a) H1
theorem pi_enum {a : Expr} {ta : TA} {p pos : Pos} {elts : List Expr} {x1} {tpos : Pos} (hg : Gl X "enumerate") (hm : X.mg "enumerate" = none) (ha : PA X [a] ta) (hs : starEach [a] X.env = [(false, eval a X.env)] := by rfl) :
    PI X (.Tuple elts x1 tpos) (.Call (.Name "enumerate" p) [a] [] pos) (iEnum X.K ta) := by
  intro pins s σ H R I h
  refine Call_ (ld_blt I hg hm boot_enumerate (PyProof.Rows.callWith_type1 (thn (ha pos pins s σ H _ I h) fun us s1 ⟨vs, H1, I1, r1, q1⟩ => ?_) hs rfl))
  obtain ⟨l, e, ⟨xs, hq⟩, q⟩ := q1
  subst e
  obtain ⟨u, rfl, ru⟩ := r1.one
  cases ru
  obtain ⟨its, rv, pl, hz⟩ := I1.list hq
  refine call_enumerate_list pl.isList fun h' he hit hsz hk => wpAny_pyIter_enum he ?_
  have I2 : L2.Inv X pins σ H1 { s1 with heap := h' } := I1.kept (t' := s1.toks) hk
  refine ⟨s1.heap.objs.size + 1, [s1.heap.objs.size + 1, s1.heap.objs.size], _, _, H1, rfl, I2, turn_enum l _ _ (Nat.ne_of_gt (Nat.lt_succ_self _)), ⟨⟨_, he⟩, hit⟩, fun b hb => ?_, q⟩
  have hb' : s1.heap.objs.size ≤ b := by
    rcases List.mem_cons.mp hb with z | z
    · rw [z]; exact Nat.le_succ _
    · rw [List.mem_singleton.mp z]; exact Nat.le_refl _
  exact I1.fpOk hb' (I1.hok.fresh hb')
theorem for_enum {K : PySem.W.Frag} {a : Addr} {xs : List V} {g : TG} {tb : TS} {D : Ends} {σ : L2.St} {H : Hp} (Pv : Nat → L2.St → Hp → Prop) (h0 : Pv 0 σ H) (hl : ∀ i σ H, i ≤ xs.length → Pv i σ H → SqL K H a xs)
    (hs : ∀ i x σ H p, xs[i]? = some x → Pv i σ H → H p = none → g (.ref p) σ (upd H p (.tup [.int i, x])) fun σ2 H2 => tb { D with nx := Pv (i + 1), ct := Pv (i + 1), bk := D.nx } σ2 H2) (hd : ∀ σ H, Pv xs.length σ H → D.nx σ H) :
    ∃ W : Nat → Nat → L2.St → Hp → Prop, (∃ m, W 0 m σ H) ∧ ∀ i m σ H, W i m σ H →
      ((Ite K a).stop i H ∧ D.nx σ H) ∨ ((Ite K a).go i H ∧ ∃ N : L2.St → Hp → Prop, (∀ σ' H', N σ' H' → ∃ m', m' < m ∧ W (i + 1) m' σ' H') ∧ ∀ x H', (Ite K a).yld i H x H' → g x σ H' fun σ2 H2 => tb { D with nx := N, ct := N, bk := D.nx } σ2 H2) := by
  refine ⟨fun i m σ H => m = xs.length - i ∧ i ≤ xs.length ∧ Pv i σ H, ⟨xs.length, by simp, Nat.zero_le _, h0⟩, ?_⟩
  rintro i m σ H ⟨rfl, hi, p⟩
  have q := hl i σ H hi p
  by_cases hlt : i < xs.length
  · refine .inr ⟨⟨xs, xs[i], q, by simp [hlt]⟩, Pv (i + 1), fun σ' H' p' => ⟨xs.length - (i + 1), by omega, rfl, hlt, p'⟩, fun x H' y => ?_⟩
    obtain ⟨pp, v, hp, rfl, hv, rfl⟩ := y
    exact hs i v σ H pp (hv xs q) p hp
  · have e : i = xs.length := by omega
    subst e
    exact .inl ⟨⟨xs, q, Nat.le_refl _⟩, hd σ H p⟩
end
end L3
namespace L3
open PySem PySem.Spec PyProof.Rows L2
def subT (t c : String) : Bool := t == c || (t == "bool" && c == "int")
abbrev tysL : List String := ["NoneType", "bool", "int", "str", "list", "tuple"]
abbrev clsL : List String := ["bool", "int", "str", "list", "tuple"]
theorem kit_tab (K : PySem.W.Frag) : ∀ t ∈ tysL, ∀ c ∈ clsL, PySem.W.kitOne K (.type t) (.type c) = some (subT t c) := by
  intro t ht c hc
  simp only [tysL, clsL, List.mem_cons, List.not_mem_nil, or_false] at ht hc
  rcases ht with rfl | rfl | rfl | rfl | rfl | rfl <;> rcases hc with rfl | rfl | rfl | rfl | rfl <;> kernel_rfl
section
variable {X : Cx}
theorem vals_bls : ∀ {bs : List Bool} {us : List Value}, Vals (bs.map V.bl) us → us = bs.map Value.bool
  | [], _, .nil => rfl
  | b :: bs, _, .cons r t => by
    cases (show _ = Value.bool b from r)
    rw [vals_bls t]; rfl
theorem range_all' (bs : List Bool) : ((List.range bs.length).all fun i => (bs[i]?).getD true) = bs.all id := by
  rw [Bool.eq_iff_iff, List.all_eq_true, List.all_eq_true]
  constructor
  · intro h b hb
    obtain ⟨i, hi, e⟩ := List.mem_iff_getElem.mp hb
    have := h i (List.mem_range.mpr hi)
    rw [List.getElem?_eq_getElem hi, Option.getD_some, e] at this
    exact this
  · intro h i hi
    have hi' := List.mem_range.mp hi
    rw [List.getElem?_eq_getElem hi', Option.getD_some]
    exact h _ (List.getElem_mem hi')
theorem call_allB (hc : X.calm = true) : CallR X (.builtin "all") (fun xs H Q => ∃ (p : Addr) (bs : List Bool), xs = [.ref p] ∧ SqL X.K H p (bs.map V.bl) ∧ Q (.bl (bs.all id)) H) := by
  intro pins s σ H xs us Q I r h
  obtain ⟨p, bs, rfl, hq, q⟩ := h
  obtain ⟨u, rfl, ru⟩ := vals1 r
  cases ru
  obtain ⟨its, rv, pl, hz⟩ := I.list hq
  have e := vals_bls rv
  have hl := pl.isList
  have hlt : p < s.heap.objs.size := by obtain ⟨_, e, _⟩ := hl; exact Heap.lt_size e
  refine call_all_walk (wpAny_pyIter_list hl ?_)
  refine ⟨s.heap.objs.size, [s.heap.objs.size, p], [s.heap.objs.size], its.toArray.size, _, _, fun i => (bs[i]?).getD true, rfl, Walks.list (A := X.A.in1) (I.ok.hd hc) _ p (Nat.ne_of_lt hlt) its.toArray,
    ⟨⟨_, Heap.get?_push_size _ rfl, rfl, rfl⟩, hl.push _⟩, fun i v s' Q' E' hP hQ => ?_, fun h' tk hk => ?_⟩
  · have hP' : its[i]? = some v := by simpa using hP
    rw [e, List.getElem?_map] at hP'
    cases eb : bs[i]? with
    | none => rw [eb] at hP'; cases hP'
    | some b =>
      rw [eb] at hP'
      cases (Option.some.inj hP' : Value.bool b = v)
      simp only [eb, Option.getD_some] at hQ
      exact wpAny_truthy_bool hQ
  · have e2 : ((List.range its.toArray.size).all fun i => (bs[i]?).getD true) = bs.all id := by
      rw [List.size_toArray, e, List.length_map]; exact range_all' bs
    rw [e2]
    refine ⟨.bl _, H, I.kept (h' := h') (t' := tk) fun b o q => hk b o (fun hm => ?_) (Heap.get?_push_of_some _ q), rfl, q⟩
    rw [List.mem_singleton.mp hm] at q
    exact Nat.lt_irrefl _ (Heap.lt_size q)
theorem call_rng1 : CallR X (.type "range") (fun xs H Q => ∃ j : Int, xs = [.int j] ∧ ∀ p, H p = none → Q (.ref p) (upd H p (.rng 0 j))) := by
  intro pins s σ H xs us Q I r h
  obtain ⟨j, rfl, q⟩ := h
  obtain ⟨u, rfl, ru⟩ := vals1 r
  obtain ⟨t, rfl⟩ := ru
  refine call_range_1 ⟨.ref s.heap.objs.size, _, I.laid (o := .rng 0 j) (fun b o e => Heap.get?_push_of_some _ e) (Nat.le_refl _) ⟨_, _, _, Heap.get?_push_size _ rfl⟩, rfl, q _ (I.hok.fresh (Nat.le_refl _))⟩
theorem call_listR (hc : X.calm = true) : CallR X (.type "list") (fun xs H Q => ∃ (p : Addr) (j : Nat), xs = [.ref p] ∧ H p = some (.rng 0 (j : Int)) ∧ j ≤ 2 ^ 24 ∧ ∀ l, H l = none → Q (.ref l) (upd H l (.lst ((List.range j).map fun i => V.int (i : Nat))))) := by
  intro pins s σ H xs us Q I r h
  obtain ⟨p, j, rfl, hp, hj, q⟩ := h
  obtain ⟨u, rfl, ru⟩ := vals1 r
  cases ru
  obtain ⟨t, u, v, e⟩ := I.hok p _ hp
  refine call_list_range (n := j) (I.ok.hd hc) (show IsRange s.heap p 0 (j : Int) 1 t u v from e) (small_one (by omega) (by omega) (by omega) (by omega)) (by rw [rangeSize_one]; split <;> omega) hj fun h' tk acc' c' hk hS' hacc => ?_
  refine ⟨.ref s.heap.objs.size, _, I.laid (h' := h') (t' := tk) hk (Nat.le_refl _) ?_, rfl, q _ (I.hok.fresh (Nat.le_refl _))⟩
  have aux : ∀ (us : List Value) (n k : Nat), us.length = n → (∀ i v, us[i]? = some v → ∃ t, v = Value.int ((k + i : Nat) : Int) t) → Vals ((List.range' k n).map fun i => V.int (i : Nat)) us := by
    intro us
    induction us with
    | nil => intro n k hn _; cases hn; exact .nil
    | cons u us ih =>
      intro n k hn hv
      cases n with
      | zero => cases hn
      | succ n =>
        rw [List.range'_succ, List.map_cons]
        obtain ⟨t, ht⟩ := hv 0 u rfl
        refine .cons ⟨t, by simpa using ht⟩ (ih n (k + 1) (by simpa using hn) fun i v hi => ?_)
        obtain ⟨t, ht⟩ := hv (i + 1) v hi
        exact ⟨t, by rw [ht]; congr 1; omega⟩
  have vals : Vals ((List.range j).map fun i => V.int (i : Nat)) acc'.toList := by
    rw [List.range_eq_range']
    refine aux _ _ 0 (by rw [Array.length_toList]; exact hacc.1) fun i v hi => ?_
    obtain ⟨t, ht⟩ := hacc.2 i v (by rw [← Array.getElem?_toList]; exact hi)
    exact ⟨t, by rw [ht]; congr 1; omega⟩
  exact ⟨by simp only [List.length_map, List.length_range]; exact Nat.le_trans hj (by rw [sizeLine_eq]; decide), acc'.toList, c', vals, hS'⟩
def rCatW : R2 := fun x y H Q => ∃ a b xs ys, x = .ref a ∧ y = .ref b ∧ H a = some (.tup xs) ∧ H b = some (.tup ys) ∧ xs.length + ys.length ≤ sizeLine ∧ ∀ p H', Same H H' → H' p = some (.tup (xs ++ ys)) → Q (.ref p) H'
theorem op_catW : OpR X (binaryOp .Add) rCatW := by
  intro pins s σ H x y v u Q I rx ry h
  obtain ⟨a, b, xs, ys, rfl, rfl, ha, hb, hz, q⟩ := h
  by_cases hx : xs = []
  · subst hx
    cases rx
    cases ry
    obtain ⟨its, r1, p1, _⟩ := I.tuple (SqT.of ha)
    obtain ⟨its2, r2, p2, _⟩ := I.tuple (SqT.of hb)
    cases r1
    obtain ⟨⟨cls, dd, data, sl⟩, ho, hc, n, hd⟩ := id p1
    obtain ⟨⟨cls2, dd2, data2, sl2⟩, ho2, hc2, n2, hd2⟩ := id p2
    simp only at hc hd hc2 hd2
    subst hc hd hc2 hd2
    exact concat_meets ⟨_, ho, rfl⟩ ⟨_, ho2, rfl⟩ noFill_tuple_add seq_tuple_add PySem.F.slot_tuple_add PySem.F.entry_tuple_add (PySem.F.args_tuple_add_2 _ _)
      (tuple_addW0 a b _ its2.toArray n n2 dd dd2 sl sl2 (by simp)) ⟨ho, ho2, ⟨.ref b, H, I, rfl, q b H (Same.refl H) hb⟩⟩
  · refine op_catT pins s σ H _ _ v u Q I rx ry ⟨a, b, xs, ys, rfl, rfl, SqT.of ha, SqT.of hb, hx, hz, fun e => q a H (Same.refl H) (by subst e; simpa using ha), fun _ p hp => q p _ (fun b o e => by rw [upd_ne (ne_of_none e hp)]; exact e) upd_same⟩
end
end L3
namespace L3
open PySem PySem.Spec PyProof.Rows L2
def notStar : Expr → Bool
  | .Starred .. => false
  | _ => true
theorem star_cons {e : Expr} {es : List Expr} {env : Env} (h : notStar e = true) : starEach (e :: es) env = (false, eval e env) :: starEach es env := by
  cases e <;> first | rfl | cases h
theorem pac {X : Cx} {e : Expr} {es : List Expr} {te : TE} {t : TA} (ha : PE X e te) (hr : PA X es t) (h : notStar e = true := by rfl) : PA X (e :: es) (tCons te t) := pa_cons ha hr (star_cons h)
structure Df (P : Program) (w : World) (K : PySem.W.Frag) (mg : Str → Option Value) (base : Heap) (x : Str) (ps : List Str) (k : Nat) (sp : Sp) : Prop where
  ex : ∃ (f : Addr) (fd : FuncData), FnOk P w K mg base CX0 k f fd ps sp ∧ mg x = some (.ref f) ∧ PySem.W.keepIn K (.ref f) = true ∧ Binds K fd ps []
structure At (K : PySem.W.Frag) (mg : Str → Option Value) (x : Str) (st : Stmt) (ps : List Str) : Prop where
  ex : ∃ (f : Addr) (fd : FuncData), Fun K x x st f fd ∧ mg x = some (.ref f) ∧ PySem.W.keepIn K (.ref f) = true ∧ Binds K fd ps []
section
variable {P : Program} {w : World} {K : PySem.W.Frag} {mg : Str → Option Value} {base : Heap}
theorem At.df {x : Str} {st : Stmt} {ps N : List Str} {k : Nat} {sp : Sp} (a : At K mg x st ps) (S : FnScope N ps (defScope st)) (len : ∀ vs H Q E, sp vs H Q E → vs.length = ps.length)
    (hbody : ∀ (f : Addr) (cdv : Value) (A : Around) (outer : List Env) (s : Shared) (H : Hp) (vs : List V) (Q : VK) (E : XK), Room k (A.deeper (envOfC x (defScope st) s.heap.objs.size f cdv)) → sp vs H Q E →
      ∃ t, PSs (cxOf CX0 P w K mg base N x (defScope st) f cdv A outer s H E).nox (defBody st) t ∧ t { nx := fun _ H' => Q .non H', rt := Q } (start N vs) H) : Df P w K mg base x ps (k + 1) sp := by
  obtain ⟨f, fd, F, m, kp, bd⟩ := a.ex
  exact ⟨f, fd, F.ok S len (fun cdv A outer s H vs Q E hr h => hbody f cdv A outer s H vs Q E hr h), m, kp, bd⟩
end
section
variable {X : Cx} {x : Str} {ps : List Str} {k : Nat} {sp : Sp} {e : Expr} {es : List Expr} {p pos : Pos} {t : TA}
theorem pe_def (D : Df X.prog X.w X.K X.mg X.base x ps k sp) (hr : Room k X.A) (ha : PA X (e :: es) t) (hg : Gl X x := by rfl) (hdb : (x == ("__debug__" : Str)) = false := by decide) (he : starEach (e :: es) X.env = (false, eval e X.env) :: starEach es X.env := by rfl) (hpl : (backTo pos (starEach es X.env)).any (·.1) = false := by rfl) :
    PE X (.Call (.Name x p) (e :: es) [] pos) (tCall sp [] E0 t) := by
  obtain ⟨f, fd, ok, m, kp, bd⟩ := D.ex
  exact pe_call ok hr hg m kp bd .nil pass0 ha hdb he hpl
end
theorem bsc0 {X : Cx} {scope : Scope} (kind : scope.kind = .function) (names : ∀ x ∈ scope.names, x.2 = .local → scope.names.lookup x.1 = some .local) (nocell : ∀ x ∈ scope.names, x.2 ≠ .cell)
    (free : ∀ x ∈ scope.names, x.2 = .free → x.1 ∈ ([] : List Str)) : BScope X scope [] [] := ⟨kind, names, nocell, free, rfl, fun i j y h => by simp at h⟩
theorem bsc1 {X : Cx} {scope : Scope} {y : Str} {j : Nat} (kind : scope.kind = .function) (names : ∀ x ∈ scope.names, x.2 = .local → scope.names.lookup x.1 = some .local) (nocell : ∀ x ∈ scope.names, x.2 ≠ .cell)
    (free : ∀ x ∈ scope.names, x.2 = .free → x.1 ∈ ([y] : List Str)) (h1 : X.N[j]? = some y) (h2 : X.env.kindOf y = some .cell) (h3 : (relabel scope X.env).names.lookup y = some .cell) : BScope X scope [y] [j] :=
  ⟨kind, names, nocell, free, rfl, fun i j' y' e1 e2 => by
    cases i with
    | zero => cases e1; cases e2; exact ⟨h1, h2, h3⟩
    | succ i => simp at e1⟩
theorem clo1 {X : Cx} {y : Str} {c : Addr} (h : X.env.cells.lookup y = some c) : ∀ z d, ([(y, c)] : List (Str × Addr)).lookup z = some d → X.env.cells.lookup z = some d := fun z d e => by
  by_cases hz : z = y
  · subst hz
    simp at e
    rw [← e]; exact h
  · simp [List.lookup_cons, show (z == y) = false from by simpa using hz] at e
abbrev BoxL (n m k : Int) : HO := .lst [.int n, .int m, .int k]
theorem _root_.L2.Same.upd {H : Hp} {p : Addr} {o : HO} (h : H p = none) : Same H (upd H p o) := fun b u e => by rw [upd_ne (ne_of_none e h)]; exact e
theorem b01_lo (c : Bool) : -(2 ^ 64 : Int) < (if c = true then (1 : Int) else 0) := by cases c <;> decide
theorem b01_hi (c : Bool) : (if c = true then (1 : Int) else 0) < (2 ^ 64 : Int) := by cases c <;> decide
theorem ixN_nat {n j : Nat} (h : j < n) : ixN n (j : Int) = some j := by unfold ixN; rw [if_pos (by omega), if_pos (by omega)]; simp
def cutI (ns : List Int) (lo hi : Option Int) : List Int := (ns.drop (HT.sIx ns.length 0 lo)).take (HT.sIx ns.length ns.length hi - HT.sIx ns.length 0 lo)
theorem cut_ints (ns : List Int) (lo hi : Option Int) : cutV (ns.map V.int) lo hi = (cutI ns lo hi).map V.int := by unfold cutV cutI; rw [List.length_map, List.map_take, List.map_drop]
theorem cutI_len (ns : List Int) (lo hi : Option Int) : (cutI ns lo hi).length = min (HT.sIx ns.length ns.length hi - HT.sIx ns.length 0 lo) (ns.length - HT.sIx ns.length 0 lo) := by unfold cutI; rw [List.length_take, List.length_drop]
theorem ints_get {ns : List Int} {i : Nat} {x : V} (h : (ns.map V.int)[i]? = some x) : ∃ z, x = .int z ∧ ns[i]? = some z := by
  rw [List.getElem?_map] at h
  cases e : ns[i]? with
  | none => rw [e] at h; cases h
  | some z => rw [e] at h; exact ⟨z, (Option.some.inj h).symm, rfl⟩
theorem ints_at {ns : List Int} {i : Nat} (h : i < ns.length) : (ns.map V.int)[i]? = some (.int ns[i]) := by rw [List.getElem?_map, List.getElem?_eq_getElem h]; rfl
theorem ints_set (ns : List Int) (i : Nat) (z : Int) : (ns.map V.int).set i (.int z) = (ns.set i z).map V.int := by rw [List.map_set]
theorem draw_at {α : Type} {xs : List α} {r : Int} (h0 : 0 ≤ r) (h1 : r < xs.length) : ∃ v, atI xs r = some v ∧ v ∈ xs := by
  have hr : r.toNat < xs.length := by omega
  refine ⟨xs[r.toNat], ?_, List.getElem_mem hr⟩
  have e : atI xs ((r.toNat : Nat) : Int) = some xs[r.toNat] := atI_nat (List.getElem?_eq_getElem hr)
  rwa [show ((r.toNat : Nat) : Int) = r by omega] at e
def spLaw (K : PySem.W.Frag) : Sp := fun vs H Q _ => ∃ (a : Addr) (ns : List Int), vs = [.ref a] ∧ SqL K H a (ns.map V.int) ∧ ns.length ≤ 63 ∧ ∀ H', Q (.bl true) H'
end L3
namespace L3
open PySem PySem.Spec L2
structure QE (X : Cx) (e : Expr) (t : TE) : Prop where
  h : PE X e t
structure QT (X : Cx) (e : Expr) (t : TT) : Prop where
  h : PT X e t
structure QW (X : Cx) (e : Expr) (t : TT) : Prop where
  h : PW X e t
structure QA (X : Cx) (e : List Expr) (t : TA) : Prop where
  h : PA X e t
structure QS (X : Cx) (e : Stmt) (t : TS) : Prop where
  h : PS X e t
structure QSs (X : Cx) (e : List Stmt) (t : TS) : Prop where
  h : PSs X e t
structure QG (X : Cx) (e : Expr) (t : TG) : Prop where
  h : PG X e t
structure QGs (X : Cx) (e : List Expr) (t : TGs) : Prop where
  h : PGs X e t
structure QO (X : Cx) (e : Option Expr) (t : TO) : Prop where
  h : PO X e t
structure QI (X : Cx) (tg e : Expr) (t : TI) : Prop where
  h : PI X tg e t
variable {X : Cx}
theorem qe_int  {i j pos} : QE X (.Constant (.int i) j pos) (tC (.int i)) := ⟨pe_int ⟩
theorem qe_bl  {b j pos} : QE X (.Constant (.bool b) j pos) (tC (.bl b)) := ⟨pe_bl ⟩
theorem qe_non  {j pos} : QE X (.Constant .none j pos) (tC .non) := ⟨pe_non ⟩
theorem qe_str  {x j pos} : QE X (.Constant (.str x) j pos) (tC (.str x)) := ⟨pe_str ⟩
theorem qe_glob  {x : Str} {v : V} {u : Value} {pos : Pos} (hg : Gl X x) (hm : X.mg x = some u) (r : RelV v u) (hd : (x == ("__debug__" : Str)) = false := by decide) : QE X (.Name x pos) (tC v) := ⟨pe_glob (hg := hg) (hm := hm) (r := r) (hd := hd)⟩
theorem qe_bltn  {x : Str} {v : V} {u : Value} {pos : Pos} (hg : Gl X x) (hm : X.mg x = none) (hv : bootBuiltins x = some u) (r : RelV v u) (hn : x ≠ "__name__" := by decide) (hd : (x == ("__debug__" : Str)) = false := by decide) : QE X (.Name x pos) (tC v) := ⟨pe_bltn (hg := hg) (hm := hm) (hv := hv) (r := r) (hn := hn) (hd := hd)⟩
theorem qe_op  {a b : Expr} {ta tb : TE} {pos : Pos} {op : Operator} {r : R2} (ho : OpR X (binaryOp op) r) (ha : QE X a ta) (hb : QE X b tb) : QE X (.BinOp a op b pos) (tOp r ta tb) := ⟨pe_op (ho := ho) (ha := ha.h) (hb := hb.h)⟩
theorem qe_cmpR  {a b : Expr} {ta tb : TE} {pos : Pos} {op : CmpOp} {r : R2} (ho : OpR X (compareOp op) r) (ha : QE X a ta) (hb : QE X b tb) (hm : behindInMarks op b = false) : QE X (.Compare a [op] [b] pos) (tOp r ta tb) := ⟨pe_cmpR (ho := ho) (ha := ha.h) (hb := hb.h) (hm := hm)⟩
theorem qt_cmpR  {a b : Expr} {ta tb : TE} {pos : Pos} {op : CmpOp} {r : R2} (ho : OpR X (compareOp op) r) (ha : QE X a ta) (hb : QE X b tb) (hm : behindInMarks op b = false) : QT X (.Compare a [op] [b] pos) (tTest (tOp r ta tb)) := ⟨pt_cmpR (ho := ho) (ha := ha.h) (hb := hb.h) (hm := hm)⟩
theorem qe_and  {a b : Expr} {rest : List Expr} {ta tb : TE} {pos : Pos} (ha : QE X a ta) (hb : QE X (.BoolOp .And (b :: rest) pos) tb) : QE X (.BoolOp .And (a :: b :: rest) pos) (tAndV ta tb) := ⟨pe_and (ha := ha.h) (hb := hb.h)⟩
theorem qe_one  {a : Expr} {pos : Pos} {op} {t : TE} (h : QE X a t) : QE X (.BoolOp op [a] pos) t := ⟨pe_one (h := h.h)⟩
theorem qe_not  {a : Expr} {ta : TE} {pos : Pos} (ha : QE X a ta) : QE X (.UnaryOp .Not a pos) (tNotV ta) := ⟨pe_not (ha := ha.h)⟩
theorem qw_and  {a b : Expr} {rest : List Expr} {tA tB' : TT} {pos : Pos} (ha : QT X a tA) (hb : QW X (.BoolOp .And (b :: rest) pos) tB') : QW X (.BoolOp .And (a :: b :: rest) pos) (tAnd tA tB') := ⟨pw_and (ha := ha.h) (hb := hb.h)⟩
theorem qw_or  {a b : Expr} {rest : List Expr} {tA tB' : TT} {pos : Pos} (ha : QT X a tA) (hb : QW X (.BoolOp .Or (b :: rest) pos) tB') : QW X (.BoolOp .Or (a :: b :: rest) pos) (tOr tA tB') := ⟨pw_or (ha := ha.h) (hb := hb.h)⟩
theorem qw_and1  {a : Expr} {tA : TT} {pos : Pos} (ha : QT X a tA) : QW X (.BoolOp .And [a] pos) tA := ⟨pw_and1 (ha := ha.h)⟩
theorem qw_or1  {a : Expr} {tA : TT} {pos : Pos} (ha : QT X a tA) : QW X (.BoolOp .Or [a] pos) tA := ⟨pw_or1 (ha := ha.h)⟩
theorem qt_not  {a : Expr} {tA : TT} {pos : Pos} (ha : QT X a tA) : QT X (.UnaryOp .Not a pos) (tNot tA) := ⟨pt_not (ha := ha.h)⟩
theorem qt_val  {e : Expr} {t : TE} (h : QE X e t) (he : ∀ whole, isTrue e X.env whole = (do let v ← whole; standAt e.pos; holding [v] (truthy v)) := by intro _; rfl) : QT X e (tB t) := ⟨pt_val (h := h.h) (he := he)⟩
theorem qe_ifExp  {a b : Expr} {ta tb : TE} {tA : TT} {pos : Pos} {c : Expr} (hc : QT X c tA) (ha : QE X a ta) (hb : QE X b tb) : QE X (.IfExp c a b pos) (tIf tA ta tb) := ⟨pe_ifExp (hc := hc.h) (ha := ha.h) (hb := hb.h)⟩
theorem qac  {e : Expr} {es : List Expr} {te : TE} {t : TA} (ha : QE X e te) (hr : QA X es t) (h : notStar e = true := by rfl) : QA X (e :: es) (tCons te t) := ⟨pac (ha := ha.h) (hr := hr.h) (h := h)⟩
theorem qa_nil  : QA X [] tNil := ⟨pa_nil ⟩
theorem qe_tup  {es : List Expr} {t : TA} {pos : Pos} {x1} (h : QA X es t) : QE X (.Tuple es x1 pos) (tTup t) := ⟨pe_tup (h := h.h)⟩
theorem qe_lst  {es : List Expr} {t : TA} {pos : Pos} (h : QA X es t) : QE X (.List es pos) (tLst t) := ⟨pe_lst (h := h.h)⟩
theorem qe_ix  {a b : Expr} {ta tb : TE} {pos : Pos} {r : R2} (hr : IxR X r) (ha : QE X a ta) (hb : QE X b tb) (hs : PlainIx b) : QE X (.Subscript a b pos) (tOp r ta tb) := ⟨pe_ix (hr := hr) (ha := ha.h) (hb := hb.h) (hs := hs)⟩
theorem qe_slice  {e : Expr} {te : TE} {lo hi : Option Expr} {tl th : TO} {pos p2 : Pos} {r : V → Option Int → Option Int → Hp → VK → Prop} (hr : SlR X r) (he : QE X e te) (hl : QO X lo tl) (hu : QO X hi th) : QE X (.Subscript e (.Slice lo hi none p2) pos) (tSl r te tl th) := ⟨pe_slice (hr := hr) (he := he.h) (hl := hl.h) (hu := hu.h)⟩
theorem qo_none  : QO X none tNoPart := ⟨po_none ⟩
theorem qo_some  {e : Expr} {te : TE} (h : QE X e te) : QO X (some e) (tPart te) := ⟨po_some (h := h.h)⟩
theorem qe_callB  {x : Str} {p pos : Pos} {e : Expr} {es : List Expr} {t : TA} {id : String} {r : List V → Hp → VK → Prop} (hc : CallR X (.builtin id) r) (hg : Gl X x) (hm : X.mg x = none) (hv : bootBuiltins x = some (.builtin id)) (ha : QA X (e :: es) t) (hn : x ≠ "__name__" := by decide) (hdb : (x == ("__debug__" : Str)) = false := by decide) (he : starEach (e :: es) X.env = (false, eval e X.env) :: starEach es X.env := by rfl) (hpl : (backTo pos (starEach es X.env)).any (·.1) = false := by rfl) : QE X (.Call (.Name x p) (e :: es) [] pos) (tCB r t) := ⟨pe_callB (hc := hc) (hg := hg) (hm := hm) (hv := hv) (ha := ha.h) (hn := hn) (hdb := hdb) (he := he) (hpl := hpl)⟩
theorem qe_callTy  {x : Str} {p pos : Pos} {e : Expr} {es : List Expr} {t : TA} {T : String} {r : List V → Hp → VK → Prop} (hc : CallR X (.type T) r) (hg : Gl X x) (hm : X.mg x = none) (hv : bootBuiltins x = some (.type T)) (ha : QA X (e :: es) t) (hn : x ≠ "__name__" := by decide) (hdb : (x == ("__debug__" : Str)) = false := by decide) (he : starEach (e :: es) X.env = (false, eval e X.env) :: starEach es X.env := by rfl) (hpl : (backTo pos (starEach es X.env)).any (·.1) = false := by rfl) : QE X (.Call (.Name x p) (e :: es) [] pos) (tCB r t) := ⟨pe_callTy (hc := hc) (hg := hg) (hm := hm) (hv := hv) (ha := ha.h) (hn := hn) (hdb := hdb) (he := he) (hpl := hpl)⟩
theorem qe_def  {x : Str} {ps : List Str} {k : Nat} {sp : Sp} {e : Expr} {es : List Expr} {p pos : Pos} {t : TA} (D : Df X.prog X.w X.K X.mg X.base x ps k sp) (hr : Room k X.A) (ha : QA X (e :: es) t) (hg : Gl X x := by rfl) (hdb : (x == ("__debug__" : Str)) = false := by decide) (he : starEach (e :: es) X.env = (false, eval e X.env) :: starEach es X.env := by rfl) (hpl : (backTo pos (starEach es X.env)).any (·.1) = false := by rfl) : QE X (.Call (.Name x p) (e :: es) [] pos) (tCall sp [] E0 t) := ⟨pe_def (D := D) (hr := hr) (ha := ha.h) (hg := hg) (hdb := hdb) (he := he) (hpl := hpl)⟩
theorem qss_nil  : QSs X [] tNext := ⟨pss_nil ⟩
theorem qss_cons  {st : Stmt} {rest : List Stmt} {t u : TS} (h1 : QS X st t) (h2 : QSs X rest u) : QSs X (st :: rest) (tSeq t u) := ⟨pss_cons (h1 := h1.h) (h2 := h2.h)⟩
theorem qss_one  {st : Stmt} {t : TS} (h1 : QS X st t) : QSs X [st] t := ⟨pss_one (h1 := h1.h)⟩
theorem qs_set  {pos : Pos} {i : Nat} {x : Str} {e : Expr} {te : TE} {pos' : Pos} (hN : X.N.Nodup) (hi : X.N[i]? = some x) (hx : Loc X.env.scope x) (he : QE X e te) (hs : swapsWith e (some (.Name x pos')) pos.line X.env = pure false := by rfl) (hf : X.fn x = true ∨ X.env.scope.names.lookup x = some .local := by first | exact .inl rfl | exact .inr rfl | assumption) : QS X (.Assign [.Name x pos'] e pos) (tAsg te (gName i)) := ⟨ps_set (hN := hN) (hi := hi) (hx := hx) (he := he.h) (hs := hs) (hf := hf)⟩
theorem qs_asg  {pos : Pos} {tg e : Expr} {te : TE} {g : TG} (he : QE X e te) (hg : QG X tg g) (hs : swapsWithSole [tg] e pos.line X.env = pure false := by rfl) (hw : swappedStores [tg] e X.env = pure none := by rfl) (h1 : (assignEach [tg] X.env).map (·.2) = [assign tg X.env] := by rfl) : QS X (.Assign [tg] e pos) (tAsg te g) := ⟨ps_asg (he := he.h) (hg := hg.h) (hs := hs) (hw := hw) (h1 := h1)⟩
theorem qs_ret  {e : Expr} {te : TE} {pos : Pos} (he : QE X e te) : QS X (.Return (some e) pos) (tRet te) := ⟨ps_ret (he := he.h)⟩
theorem qs_if  {t u : TS} {pos : Pos} {c : Expr} {a b : List Stmt} {tc : TT} (hc : QT X c tc) (ha : QSs X a t) (hb : QSs X b u) : QS X (.If c a b pos) (tIfS tc t u) := ⟨ps_if (hc := hc.h) (ha := ha.h) (hb := hb.h)⟩
theorem qs_for  {tg : Expr} {iter : Expr} {body : List Stmt} {wi : TI} {g : TG} {tb : TS} {pos : Pos} (hp : PassesOwn (model X.prog X.w) X.A X.env X.xe) (hc : X.calm = true) (hi : QI X tg iter wi) (hg : QG X tg g) (hb : QSs X body tb) (hs : ∀ x, foldedSetIterable iter X.env x = pure x := by intro _; rfl) : QS X (.For tg iter body [] pos) (tFor wi g tb) := ⟨ps_for (hp := hp) (hc := hc) (hi := hi.h) (hg := hg.h) (hb := hb.h) (hs := hs)⟩
theorem qs_expr  {e : Expr} {te : TE} {pos : Pos} (he : QE X e te) (hs : swapsWith e none pos.line X.env = pure false := by rfl) : QS X (.Expr e pos) (tDrop te) := ⟨ps_expr (he := he.h) (hs := hs)⟩
theorem qs_augS  {pos : Pos} {o i e : Expr} {to ti te : TE} {tget : V → V → Hp → VK → Prop} {tip : TIp} {tset : TSet} {op : Operator} {tpos : Pos} (ho : QE X o to) (hi : QE X i ti) (hg : PGet X tget) (he : QE X e te) (hp : PIp X op tip) (hs : PSet X tset) (ha : ∀ ov iv new, augStore i ov iv new = (do holding [new, ov, iv] (setItem ov iv new); release [new, ov, iv] []; pure .next) := by intros; rfl) : QS X (.AugAssign (.Subscript o i tpos) op e pos) (tAugS to ti te tget tip tset) := ⟨ps_augS (ho := ho.h) (hi := hi.h) (hg := hg) (he := he.h) (hp := hp) (hs := hs) (ha := ha)⟩
theorem qi_list  {tg : Expr} {l : Expr} {tl : TE} (hl : QE X l tl) : QI X tg l (iList X.K tl) := ⟨pi_list (hl := hl.h)⟩
theorem qi_range1  {tg : Expr} {a : Expr} {ta : TA} {p pos : Pos} (hg : Gl X "range") (hm : X.mg "range" = none) (ha : QA X [a] ta) (hs : starEach [a] X.env = [(false, eval a X.env)] := by rfl) : QI X tg (.Call (.Name "range" p) [a] [] pos) (iRng1 ta) := ⟨pi_range1 (hg := hg) (hm := hm) (ha := ha.h) (hs := hs)⟩
theorem qi_enum  {a : Expr} {ta : TA} {p pos : Pos} {elts : List Expr} {x1} {tpos : Pos} (hg : Gl X "enumerate") (hm : X.mg "enumerate" = none) (ha : QA X [a] ta) (hs : starEach [a] X.env = [(false, eval a X.env)] := by rfl) : QI X (.Tuple elts x1 tpos) (.Call (.Name "enumerate" p) [a] [] pos) (iEnum X.K ta) := ⟨pi_enum (hg := hg) (hm := hm) (ha := ha.h) (hs := hs)⟩
theorem qg_name  {pos : Pos} {i : Nat} {x : Str} (hN : X.N.Nodup) (hi : X.N[i]? = some x) (hx : Loc X.env.scope x) (hf : X.fn x = true ∨ X.env.scope.names.lookup x = some .local := by first | exact .inl rfl | exact .inr rfl | assumption) : QG X (.Name x pos) (gName i) := ⟨pg_name (hN := hN) (hi := hi) (hx := hx) (hf := hf)⟩
theorem qg_tup  {pos : Pos} {es : List Expr} {k : Nat} {t : TGs} {n : Nat} (hc : X.calm = true) (h : QGs X es t) (hn : (assignEach es X.env).length = n := by rfl) (hst : (assignEach es X.env).findIdx? (·.1) = none := by rfl) : QG X (.Tuple es k pos) (gTup X.K n t) := ⟨pg_tup (hc := hc) (h := h.h) (hn := hn) (hst := hst)⟩
theorem qg_sub  {pos : Pos} {o i : Expr} {to ti : TE} {t : TSet} (ho : QE X o to) (hi : QE X i ti) (hs : PSet X t) (ha : ∀ v, assign (.Subscript o i pos) X.env v = (do
      let ov ← holding [v] (eval o X.env)
      let iv ← holding [v, ov] (eval i X.env)
      standAt pos
      holding [v, ov, iv] (setItem ov iv v)
      release [v, ov, iv] []) := by intro _; rfl) : QG X (.Subscript o i pos) (gSub to ti t) := ⟨pg_sub (ho := ho.h) (hi := hi.h) (hs := hs) (ha := ha)⟩
theorem qgs_nil  : QGs X [] gNil := ⟨pgs_nil ⟩
theorem qgs_cons  {e : Expr} {es : List Expr} {t : TG} {u : TGs} (h1 : QG X e t) (h2 : QGs X es u) (hs : (assignEach (e :: es) X.env).map (·.2) = assign e X.env :: (assignEach es X.env).map (·.2) := by rfl) : QGs X (e :: es) (gCons t u) := ⟨pgs_cons (h1 := h1.h) (h2 := h2.h) (hs := hs)⟩
theorem QW.pt {e : Expr} {t : TT} (h : QW X e t) : QT X e t := ⟨PW.pt h.h⟩
theorem qv (i : Nat) {x : Str} {pos : Pos} (hN : X.N[i]? = some x := by rfl) (hv : Vis X.env.scope x := by first | exact Or.inl rfl | exact Or.inr (Or.inl rfl) | exact Or.inr (Or.inr rfl)) (hd : (x == ("__debug__" : Str)) = false := by decide)
    (hcd : (x == ("__classdict__" : Str)) = false := by decide) : QE X (.Name x pos) (tVar i) := ⟨pe_var hN hv hd hcd⟩
theorem qe_comp {elt tg iter : Expr} {scope : Scope} {cl : List (Str × Addr)} {pos : Pos} {fr own : List Str} {js : List Nat} {wi : TI} {g : TG} {te : TE}
    (hc : X.calm = true) (hi : QI X tg iter wi) (hclos : closureFor scope X.env = pure cl) (hcl : ∀ y c, cl.lookup y = some c → X.env.cells.lookup y = some c) (hfr : cl.map (·.1) = fr)
    (S : BScope X scope fr js)
    (hg : ∀ C s H fp, QG (blk X (own ++ fr) scope cl C s H fp) tg g) (he : ∀ C s H fp, QE (blk X (own ++ fr) scope cl C s H fp) elt te)
    (hs : ∀ x, foldedSetIterable iter X.env x = pure x := by intro _; rfl) :
    QE X (.ListComp elt [⟨tg, iter, [], 0⟩] scope pos) (tComp own.length js wi g te) := ⟨pe_comp hc hi.h hclos hcl hfr S (fun C s H fp => (hg C s H fp).h) (fun C s H fp => (he C s H fp).h) hs⟩
section
variable {P : Program} {w : World} {K : PySem.W.Frag} {mg : Str → Option Value} {base : Heap}
theorem At.dq {x : Str} {st : Stmt} {ps N : List Str} {k : Nat} {sp : Sp} (a : At K mg x st ps) (S : FnScope N ps (defScope st)) (len : ∀ vs H Q E, sp vs H Q E → vs.length = ps.length)
    (hbody : ∀ (f : Addr) (cdv : Value) (A : Around) (outer : List Env) (s : Shared) (H : Hp) (vs : List V) (Q : VK) (E : XK), Room k (A.deeper (PyProof.Rows.envOfC x (defScope st) s.heap.objs.size f cdv)) → sp vs H Q E →
      ∃ t, QSs (cxOf CX0 P w K mg base N x (defScope st) f cdv A outer s H E).nox (defBody st) t ∧ t { nx := fun _ H' => Q .non H', rt := Q } (start N vs) H) : Df P w K mg base x ps (k + 1) sp :=
  a.df S len fun f cdv A outer s H vs Q E hr h => let ⟨t, q1, q2⟩ := hbody f cdv A outer s H vs Q E hr h; ⟨t, q1.h, q2⟩
theorem _root_.L2.Fun.dq {x qual : Str} {st : Stmt} {f : Addr} {fd : FuncData} {N ps : List Str} {k : Nat} {sp : Sp} (F : Fun K x qual st f fd) (S : FnScope N ps (defScope st)) (len : ∀ vs H Q E, sp vs H Q E → vs.length = ps.length)
    (hbody : ∀ (cdv : Value) (A : Around) (outer : List Env) (s : Shared) (H : Hp) (vs : List V) (Q : VK) (E : XK), Room k (A.deeper (PyProof.Rows.envOfC qual (defScope st) s.heap.objs.size f cdv)) → sp vs H Q E →
      ∃ t, QSs (cxOf CX0 P w K mg base N qual (defScope st) f cdv A outer s H E).nox (defBody st) t ∧ t { nx := fun _ H' => Q .non H', rt := Q } (start N vs) H) : FnOk P w K mg base CX0 (k + 1) f fd ps sp :=
  F.ok S len fun cdv A outer s H vs Q E hr h => let ⟨t, q1, q2⟩ := hbody cdv A outer s H vs Q E hr h; ⟨t, q1.h, q2⟩
theorem at_mk {x : Str} {st : Stmt} {ps : List Str} {f : Addr} {fd : FuncData} (F : Fun K x x st f fd) (m : mg x = some (.ref f)) (b : Binds K fd ps []) : At K mg x st ps := ⟨f, fd, F, m, F.kp, b⟩
end
end L3
namespace L3
open PySem PySem.Spec PyProof.Rows L2
section
variable {prog : Program} {w : World} {A : Around} {E : Value → Shared → Prop} {s : Shared}
end
section
variable {X : Cx}
end
def digs : List Int := (List.range 16).map fun i => ((i : Nat) : Int)
theorem digs_len : digs.length = 16 := by decide
theorem digs_V : ((List.range 16).map fun i => V.int ((i : Nat) : Int)) = digs.map V.int := by decide +kernel
theorem atI_int {α : Type} {xs : List α} {z : Int} {j : Nat} {v : α} (e : z = (j : Int)) (h : xs[j]? = some v) : atI xs z = some v := by rw [e]; exact atI_nat h
theorem ixN_int {n j : Nat} {z : Int} (e : z = (j : Int)) (h : j < n) : ixN n z = some j := by rw [e]; exact ixN_nat h
end L3
namespace L3
open PySem PySem.Spec PyProof.Rows L2
open Sem (wp)
section
variable {prog : Program} {w : World} {A : Around} {E : Value → Shared → Prop} {s : Shared}
theorem nextT_item {it t : Addr} {i : Nat} {its : Array Value} {x : Value} {Q : Value → Shared → Prop} (hit : s.heap.IsTupleIter it t i) (ht : s.heap.IsTuple t its) (hx : its[i]? = some x)
    (hQ : ∀ h', h'.IsTupleIter it t (i + 1) → Heap.SameBut it s.heap h' → Q x { s with heap := h' }) : wpAny (model prog w) A (Builtin.SmallTypes.nextOf (.ref it)) Q E s := by
  obtain ⟨o, ho, hc, hd⟩ := id hit
  obtain ⟨ol, hol, _, nl, hdl⟩ := ht
  unfold Builtin.SmallTypes.nextOf
  refine wpAny_bind (wpAny_callSpecial?_slot (name := Str.ofString "__next__") hit.typeIs F.slot_tuple_iterator_next
    (wpAny_call_entry F.slot_tuple_iterator_next hit.typeIs F.entry_tuple_iterator_next ?_ (F.args_tuple_iterator_next_1 _)))
  show wpAny _ _ (field (.ref it) 0 >>= _) _ _ s
  refine wpAny_bind (wpAny_field ho hd (x := .ref t) rfl ?_)
  show wpAny _ _ (if (Value.ref t == Value.none) = true then _ else _) _ _ s
  rw [if_neg (show ¬ ((Value.ref t == Value.none) = true) from Bool.false_ne_true)]
  show wpAny _ _ (field (.ref it) 1 >>= _) _ _ s
  refine wpAny_bind (wpAny_field ho hd (x := .int i 0) rfl ?_)
  show wpAny _ _ (seqItems? (.ref t) >>= _) _ _ s
  refine wpAny_bind (wpAny_seqItems hol hdl ?_)
  simp only [Int.toNat_natCast, hx]
  refine wpAny_bind (wpAny_setField ho hd (by simp) (wpAny_pure ⟨x, rfl, wpAny_pure (hQ _ ?_ (Heap.SameBut.update ..))⟩))
  exact ⟨_, Heap.get?_update_self _ ho (Obj.isFreed_of_fields (Obj.data_mapFields hd _)), (Obj.cls_mapFields ..).trans hc, by
    rw [Obj.data_mapFields hd]; simp [rawInt]⟩
theorem nextT_end {it t : Addr} {i : Nat} {its : Array Value} {Q : Value → Shared → Prop} (hh : A.handled = none) (hit : s.heap.IsTupleIter it t i) (ht : s.heap.IsTuple t its) (hx : its[i]? = none)
    (hE : ∀ h' e, Heap.ExtBut it s.heap h' → (∃ o, h'.get? e = some o ∧ o.cls = .type "StopIteration") → E (.ref e) { s with heap := h' }) :
    wpAny (model prog w) A (Builtin.SmallTypes.nextOf (.ref it)) Q E s := by
  obtain ⟨o, ho, hc, hd⟩ := id hit
  obtain ⟨ol, hol, _, nl, hdl⟩ := ht
  unfold Builtin.SmallTypes.nextOf
  refine wpAny_bind (wpAny_callSpecial?_slot (name := Str.ofString "__next__") hit.typeIs F.slot_tuple_iterator_next
    (wpAny_call_entry F.slot_tuple_iterator_next hit.typeIs F.entry_tuple_iterator_next ?_ (F.args_tuple_iterator_next_1 _)))
  show wpAny _ _ (field (.ref it) 0 >>= _) _ _ s
  refine wpAny_bind (wpAny_field ho hd (x := .ref t) rfl ?_)
  show wpAny _ _ (if (Value.ref t == Value.none) = true then _ else _) _ _ s
  rw [if_neg (show ¬ ((Value.ref t == Value.none) = true) from Bool.false_ne_true)]
  show wpAny _ _ (field (.ref it) 1 >>= _) _ _ s
  refine wpAny_bind (wpAny_field ho hd (x := .int i 0) rfl ?_)
  show wpAny _ _ (seqItems? (.ref t) >>= _) _ _ s
  refine wpAny_bind (wpAny_seqItems hol hdl ?_)
  simp only [Int.toNat_natCast, hx]
  refine wpAny_bind (wpAny_rule (wpAny_bind (wpAny_setField ho hd (by simp) ?_)))
  show wpAny _ _ (newExc (.type "StopIteration") [] >>= _) _ _ _
  refine wpAny_bind ?_
  simp only [newExc, newTuple]
  refine wpAny_bind (wpAny_newObj_type ?_ (by size_fits))
  refine wpAny_bind (m := firstArgMember _ _) (wpAny_of_eq (a := Value.none) (by first | rfl | (simp only [firstArgMember]; rfl)) ?_)
  refine wpAny_newObj_type ?_ (by size_fits)
  simp only [raiseNew]
  refine wpAny_bind (wpAny_handled ?_)
  first | rw [show A.in1.handled = none from hh] | rw [hh]
  refine wpAny_bind (wpAny_pure (wpAny_throw ?_))
  exact hE _ _ (((Heap.SameBut.update ..).extBut.push _).push _) ⟨_, Heap.get?_push_size _ rfl, rfl⟩
end
theorem drawsT {prog : Program} {w : World} {A : Around} (hh : A.handled = none) (it t : Addr) (hne : t ≠ it) (its : Array Value) :
    Draws prog w A it [it, t] its.size (fun i v => its[i]? = some v) (fun i h => h.IsTupleIter it t i ∧ h.IsTuple t its) where
  live := fun _ _ st => let ⟨o, ho, _⟩ := st.1; ⟨o, ho⟩
  frame := fun _ _ _ st hk => ⟨st.1.at fun o e => hk it (by simp) o e, let ⟨o, e, r⟩ := st.2; ⟨o, hk t (by simp) o e, r⟩⟩
  item := fun i s Q E hi st hQ => by
    refine nextT_item st.1 st.2 (x := its[i]) (by simp [hi]) fun h' hit' hs' => ?_
    exact hQ _ h' s.toks (by simp [hi]) ⟨hit', let ⟨o, e, r⟩ := st.2; ⟨o, hs'.extBut _ _ hne e, r⟩⟩ hs'
  done := fun s Q E st hE => nextT_end hh st.1 st.2 (by simp) hE
section
variable {prog : Program} {w : World} {A : Around} {E : Value → Shared → Prop} {s : Shared}
end
section
variable {X : Cx}
end
end L3
namespace L3
open PySem PySem.Spec PyProof.Rows L2
open Sem (wp)
structure ZApart (z TI TO i1 i2 : Addr) (f1 f2 : List Addr) : Prop where
  TIz : TI ≠ z
  TOz : TO ≠ z
  i1z : i1 ≠ z
  i2z : i2 ≠ z
  TITO : TI ≠ TO
  TIi1 : TI ≠ i1
  TIi2 : TI ≠ i2
  TOi1 : TO ≠ i1
  TOi2 : TO ≠ i2
  i12 : i1 ≠ i2
  z1 : z ∉ f1
  z2 : z ∉ f2
  t1 : TO ∉ f1
  t2 : TO ∉ f2
  x1 : i2 ∉ f1
  x2 : i1 ∉ f2
section
variable {prog : Program} {w : World} {A : Around} {E : Value → Shared → Prop} {s : Shared} {z TI TO i1 i2 : Addr} {f1 f2 : List Addr} {n1 n2 k : Nat} {P1 P2 : Nat → Value → Prop} {S1 S2 : Nat → Heap → Prop} {a b : Value}
theorem zipD_item {Q : Value → Shared → Prop} (D1 : Draws prog w A i1 f1 n1 P1 S1) (D2 : Draws prog w A i2 f2 n2 P2 S2) (Z : ZApart z TI TO i1 i2 f1 f2)
    (hz : IsZip s.heap z TI TO .none) (hTI : IsPair s.heap TI (.ref i1) (.ref i2)) (hTO : IsPair s.heap TO a b) (q1 : S1 k s.heap) (q2 : S2 k s.heap) (k1 : k < n1) (k2 : k < n2)
    (hQ : ∀ x y h' tk, P1 k x → P2 k y → IsZip h' z TI TO (rawInt s.heap.objs.size) → IsPair h' TO x y → S1 (k + 1) h' → S2 (k + 1) h' → IsPair h' s.heap.objs.size x y →
      (∀ c o, c ≠ z → c ≠ TO → c ≠ i1 → c ≠ i2 → s.heap.get? c = some o → h'.get? c = some o) → Q (.ref s.heap.objs.size) { s with heap := h', toks := tk }) :
    wpAny (model prog w) A (Builtin.«zip.__next__» ⟨[.ref z], []⟩) (fun fin s' => ∃ v, fin = .done (.ret v) ∧ Q v s') E s := by
  obtain ⟨hp, g, d, t0, os⟩ := s
  show wpAny _ _ (field (.ref z) 2 >>= _) _ _ _
  refine wpAny_bind (wpAny_field hz rfl (x := .bool false) rfl ?_)
  show wpAny _ _ (field (.ref z) 3 >>= _) _ _ _
  refine wpAny_bind (wpAny_field hz rfl (x := .ref TI) rfl ?_)
  refine wpAny_bind (wpAny_seqItems hTI rfl ?_)
  show wpAny _ _ (Builtin.SmallTypes.ownedTupleIsFree (.ref z) >>= _) _ _ _
  refine wpAny_bind ?_
  unfold Builtin.SmallTypes.ownedTupleIsFree
  refine wpAny_bind (wpAny_field hz rfl (x := .none) rfl (wpAny_pure ?_))
  simp only [if_true]
  refine wpAny_bind (wpAny_rule ?_)
  refine wpAny_bind (wpAny_field hz rfl (x := .ref TO) rfl ?_)
  refine wpAny_bind (wpAny_setField_rec hz (by simp) fun h₁ hz₁ hs₁ => ?_)
  replace hz₁ : IsZip h₁ z TI TO .ellipsis := hz₁
  replace hs₁ : Heap.SameBut z hp h₁ := hs₁
  refine wpAny_bind ?_
  simp only [List.zipIdx_cons, List.zipIdx_nil, List.forIn_cons, List.forIn_nil]
  refine wpAny_bind (wpAny_bind (wpAny_onRaise ?_))
  show wpAny _ _ (Builtin.SmallTypes.nextOf (.ref i1) >>= _) _ _ _
  have q1a : S1 k h₁ := D1.frame _ _ _ q1 fun c hc o e => hs₁.extBut c o (fun y => Z.z1 (y ▸ hc)) e
  refine wpAny_bind (D1.item k ⟨h₁, g, d, t0, os⟩ _ _ k1 q1a fun x h₂ tk₂ p1 q1b hs₂ => wpAny_pure ?_)
  replace hs₂ : Heap.SameBut i1 h₁ h₂ := hs₂
  have hTO₂ : IsPair h₂ TO a b := hs₂.extBut _ _ Z.TOi1 (hs₁.extBut _ _ Z.TOz hTO)
  refine wpAny_bind (wpAny_seqItems hTO₂ rfl ?_)
  refine wpAny_bind (wpAny_updateSeq_pair hTO₂ fun h₃ hTO₃ hs₃ => ?_)
  replace hTO₃ : IsPair h₃ TO x b := hTO₃
  replace hs₃ : Heap.SameBut TO h₂ h₃ := hs₃
  refine wpAny_bind (wpAny_letGo (wpAny_pure ?_))
  refine wpAny_bind (wpAny_bind (wpAny_onRaise ?_))
  show wpAny _ _ (Builtin.SmallTypes.nextOf (.ref i2) >>= _) _ _ _
  have q2a : S2 k h₃ := D2.frame _ _ _ q2 fun c hc o e => hs₃.extBut c o (fun y => Z.t2 (y ▸ hc)) (hs₂.extBut c o (fun y => Z.x2 (y ▸ hc)) (hs₁.extBut c o (fun y => Z.z2 (y ▸ hc)) e))
  refine wpAny_bind (D2.item k ⟨h₃, g, d, tk₂, os⟩ _ _ k2 q2a fun y h₄ tk₄ p2 q2b hs₄ => wpAny_pure ?_)
  replace hs₄ : Heap.SameBut i2 h₃ h₄ := hs₄
  have hTO₄ : IsPair h₄ TO x b := hs₄.extBut _ _ Z.TOi2 hTO₃
  refine wpAny_bind (wpAny_seqItems hTO₄ rfl ?_)
  refine wpAny_bind (wpAny_updateSeq_pair hTO₄ fun h₅ hTO₅ hs₅ => ?_)
  replace hTO₅ : IsPair h₅ TO x y := hTO₅
  replace hs₅ : Heap.SameBut TO h₄ h₅ := hs₅
  refine wpAny_bind (wpAny_letGo (wpAny_pure (wpAny_pure ?_)))
  refine wpAny_bind (wpAny_seqItems hTO₅ rfl ?_)
  refine wpAny_bind (wpAny_newTuple ?_)
  have hsz : h₅.objs.size = hp.objs.size := by rw [hs₅.1, hs₄.1, hs₃.1, hs₂.1, hs₁.1]
  have hz₅ : IsZip h₅ z TI TO .ellipsis := hs₅.extBut _ _ Z.TOz.symm (hs₄.extBut _ _ Z.i2z.symm (hs₃.extBut _ _ Z.TOz.symm (hs₂.extBut _ _ Z.i1z.symm hz₁)))
  have hk₅ : ∀ c o, c ≠ z → c ≠ TO → c ≠ i1 → c ≠ i2 → hp.get? c = some o → h₅.get? c = some o := fun c o c1 c2 c3 c4 e =>
    hs₅.extBut _ _ c2 (hs₄.extBut _ _ c4 (hs₃.extBut _ _ c2 (hs₂.extBut _ _ c3 (hs₁.extBut _ _ c1 e))))
  have q1c : S1 (k + 1) h₅ := D1.frame _ _ _ q1b fun c hc o e => hs₅.extBut c o (fun y => Z.t1 (y ▸ hc)) (hs₄.extBut c o (fun y => Z.x1 (y ▸ hc)) (hs₃.extBut c o (fun y => Z.t1 (y ▸ hc)) e))
  have q2c : S2 (k + 1) h₅ := D2.frame _ _ _ q2b fun c hc o e => hs₅.extBut c o (fun y => Z.t2 (y ▸ hc)) e
  have hzlt : z < h₅.objs.size := Heap.lt_size hz₅
  show wpAny _ _ (Builtin.SmallTypes.ownedTupleHandOut (.ref z) (.ref h₅.objs.size) >>= _) _ _ _
  refine wpAny_bind ?_
  unfold Builtin.SmallTypes.ownedTupleHandOut
  have hz₆ : IsZip (h₅.push { cls := .type "tuple", data := .seq #[x, y] }) z TI TO .ellipsis := Heap.get?_push_of_some _ hz₅
  refine wpAny_bind (wpAny_setField_rec hz₆ (by simp) fun h₇ hz₇ hs₇ => ?_)
  replace hz₇ : IsZip h₇ z TI TO (rawInt h₅.objs.size) := hz₇
  refine wpAny_setField_rec hz₇ (by simp) fun h₈ hz₈ hs₈ => ?_
  replace hz₈ : IsZip h₈ z TI TO (rawInt h₅.objs.size) := hz₈
  have up : ∀ c o, c ≠ z → h₅.get? c = some o → h₈.get? c = some o := fun c o c1 e => hs₈.extBut _ _ c1 (hs₇.extBut _ _ c1 (Heap.get?_push_of_some _ e))
  have hT₈ : IsPair h₈ h₅.objs.size x y := hs₈.extBut _ _ (Nat.ne_of_gt hzlt) (hs₇.extBut _ _ (Nat.ne_of_gt hzlt) (Heap.get?_push_size _ rfl))
  rw [hsz] at hz₈ hT₈
  refine wpAny_pure ⟨_, rfl, ?_⟩
  show Q (.ref h₅.objs.size) _
  rw [hsz]
  exact hQ x y h₈ tk₄ p1 p2 hz₈ (up _ _ Z.TOz hTO₅) (D1.frame _ _ _ q1c fun c hc o e => up c o (fun y => Z.z1 (y ▸ hc)) e) (D2.frame _ _ _ q2c fun c hc o e => up c o (fun y => Z.z2 (y ▸ hc)) e) hT₈ fun c o c1 c2 c3 c4 e => up c o c1 (hk₅ c o c1 c2 c3 c4 e)
theorem zipD_end {Q : Fin → Shared → Prop} (D1 : Draws prog w A i1 f1 n1 P1 S1) (Z : ZApart z TI TO i1 i2 f1 f2)
    (hz : IsZip s.heap z TI TO .none) (hTI : IsPair s.heap TI (.ref i1) (.ref i2)) (q1 : S1 n1 s.heap)
    (hE : ∀ h' e, (∀ c o, c ≠ z → c ≠ i1 → s.heap.get? c = some o → h'.get? c = some o) → (∃ o, h'.get? e = some o ∧ o.cls = .type "StopIteration") → E (.ref e) { s with heap := h' }) :
    wpAny (model prog w) A (Builtin.«zip.__next__» ⟨[.ref z], []⟩) Q E s := by
  obtain ⟨hp, g, d, t0, os⟩ := s
  show wpAny _ _ (field (.ref z) 2 >>= _) _ _ _
  refine wpAny_bind (wpAny_field hz rfl (x := .bool false) rfl ?_)
  show wpAny _ _ (field (.ref z) 3 >>= _) _ _ _
  refine wpAny_bind (wpAny_field hz rfl (x := .ref TI) rfl ?_)
  refine wpAny_bind (wpAny_seqItems hTI rfl ?_)
  show wpAny _ _ (Builtin.SmallTypes.ownedTupleIsFree (.ref z) >>= _) _ _ _
  refine wpAny_bind ?_
  unfold Builtin.SmallTypes.ownedTupleIsFree
  refine wpAny_bind (wpAny_field hz rfl (x := .none) rfl (wpAny_pure ?_))
  simp only [if_true]
  refine wpAny_bind (wpAny_rule ?_)
  refine wpAny_bind (wpAny_field hz rfl (x := .ref TO) rfl ?_)
  refine wpAny_bind (wpAny_setField_rec hz (by simp) fun h₁ hz₁ hs₁ => ?_)
  replace hz₁ : IsZip h₁ z TI TO .ellipsis := hz₁
  replace hs₁ : Heap.SameBut z hp h₁ := hs₁
  refine wpAny_bind ?_
  simp only [List.zipIdx_cons, List.zipIdx_nil, List.forIn_cons, List.forIn_nil]
  refine wpAny_bind (wpAny_bind (wpAny_onRaise ?_))
  show wpAny _ _ (Builtin.SmallTypes.nextOf (.ref i1) >>= _) _ _ _
  have q1a : S1 n1 h₁ := D1.frame _ _ _ q1 fun c hc o e => hs₁.extBut c o (fun y => Z.z1 (y ▸ hc)) e
  refine wpAny_bind (D1.done ⟨h₁, g, d, t0, os⟩ _ _ q1a fun h₂ e hs₂ he => ?_)
  obtain ⟨oe, hoe, hce⟩ := he
  replace hs₂ : Heap.ExtBut i1 h₁ h₂ := hs₂
  have hz₂ : IsZip h₂ z TI TO .ellipsis := hs₂ _ _ Z.i1z.symm hz₁
  have hez : e ≠ z := fun x => by subst x; rw [hz₂] at hoe; cases hoe; simp at hce
  refine wpAny_setField_rec hz₂ (by simp) fun h₃ _ hs₃ => hE h₃ e (fun c o c1 c3 x => hs₃.extBut _ _ c1 (hs₂ _ _ c3 (hs₁.extBut _ _ c1 x))) ⟨oe, hs₃.extBut _ _ hez hoe, hce⟩
end
abbrev zT1 (h : Heap) (l1 : Addr) : Heap := h.push { cls := .type "tuple_iterator", data := .fields #[.ref l1, .int 0 0] }
abbrev zT2 (h : Heap) (l1 l2 : Addr) : Heap := (zT1 h l1).push { cls := .type "tuple_iterator", data := .fields #[.ref l2, .int 0 0] }
abbrev zT3 (h : Heap) (l1 l2 : Addr) : Heap := (zT2 h l1 l2).push { cls := .type "tuple", data := .seq #[.ref h.objs.size, .ref (zT1 h l1).objs.size] }
abbrev zT4 (h : Heap) (l1 l2 : Addr) : Heap := (zT3 h l1 l2).push { cls := .type "tuple", data := .seq #[.none, .none] }
abbrev zT5 (h : Heap) (l1 l2 : Addr) : Heap := (zT4 h l1 l2).push { cls := .type "zip", data := .fields #[.none, .bool false, .bool false, .ref (zT2 h l1 l2).objs.size, .ref (zT3 h l1 l2).objs.size] }
theorem meetsT_zip (l1 l2 : Addr) (xs ys : Array Value) :
    Meets (Builtin.«zip.__new__» ⟨[.type "zip", .ref l1, .ref l2], []⟩) (fun _ R s => s.heap.IsTuple l1 xs ∧ s.heap.IsTuple l2 ys ∧
      R (.ok (.ret (.ref (zT4 s.heap l1 l2).objs.size))) { s with heap := zT5 s.heap l1 l2 }) :=
  .of_wp fun prog w A R s h => by
    obtain ⟨hp, g, d, tk, os⟩ := s; obtain ⟨hl1, hl2, h⟩ := h
    have hsub := sub_zip
    have hL1 : Heap.IsTuple (Shared.heap ⟨hp, g, d, tk, os⟩) l1 xs := hl1
    have hL2 : Heap.IsTuple (Shared.heap ⟨hp.push { cls := .type "tuple_iterator", data := .fields #[.ref l1, .int 0 0] }, g, d, tk, os⟩) l2 ys := let ⟨o, e, r⟩ := hl2; ⟨o, Heap.get?_push_of_some _ e, r⟩
    wp_walk using wpAny_pyIter_tuple hL1, wpAny_pyIter_tuple hL2
    exact ⟨_, rfl, h⟩
section
variable {prog : Program} {w : World} {A : Around} {E : Value → Shared → Prop} {s : Shared}
theorem callT_zip {l1 l2 : Addr} {xs ys : Array Value} {Q : Value → Shared → Prop} (hl1 : s.heap.IsTuple l1 xs) (hl2 : s.heap.IsTuple l2 ys)
    (h : ∀ h', IsZip h' (s.heap.objs.size + 4) (s.heap.objs.size + 2) (s.heap.objs.size + 3) .none → IsPair h' (s.heap.objs.size + 2) (.ref s.heap.objs.size) (.ref (s.heap.objs.size + 1)) →
      IsPair h' (s.heap.objs.size + 3) .none .none → h'.IsTupleIter s.heap.objs.size l1 0 → h'.IsTupleIter (s.heap.objs.size + 1) l2 0 →
      (∀ c o, s.heap.get? c = some o → h'.get? c = some o) → Q (.ref (s.heap.objs.size + 4)) { s with heap := h' }) :
    wpAny (model prog w) A (call (.type "zip") [.ref l1, .ref l2]) Q E s := by
  refine callType_new F.called_zip (by decide) (F.typeCall_zip_2 _ _) (F.newCall_zip_2 _ _) (fun obj => F.args_object_init_3 obj _ _) F.entry_zip_new
    (meetsT_zip l1 l2 xs ys) ⟨hl1, hl2, ?_⟩
  have z1 : (zT1 s.heap l1).objs.size = s.heap.objs.size + 1 := Heap.size_push ..
  have z2 : (zT2 s.heap l1 l2).objs.size = s.heap.objs.size + 2 := by rw [Heap.size_push, z1]
  have z3 : (zT3 s.heap l1 l2).objs.size = s.heap.objs.size + 3 := by rw [Heap.size_push, z2]
  have z4 : (zT4 s.heap l1 l2).objs.size = s.heap.objs.size + 4 := by rw [Heap.size_push, z3]
  have g5 : (zT5 s.heap l1 l2).get? (zT4 s.heap l1 l2).objs.size = some _ := Heap.get?_push_size _ rfl
  have g4 : (zT5 s.heap l1 l2).get? (zT3 s.heap l1 l2).objs.size = some _ := Heap.get?_push_of_some _ (Heap.get?_push_size _ rfl)
  have g3 : (zT5 s.heap l1 l2).get? (zT2 s.heap l1 l2).objs.size = some _ := Heap.get?_push_of_some _ (Heap.get?_push_of_some _ (Heap.get?_push_size _ rfl))
  have g2 : (zT5 s.heap l1 l2).get? (zT1 s.heap l1).objs.size = some _ := Heap.get?_push_of_some _ (Heap.get?_push_of_some _ (Heap.get?_push_of_some _ (Heap.get?_push_size _ rfl)))
  have g1 : (zT5 s.heap l1 l2).get? s.heap.objs.size = some _ := Heap.get?_push_of_some _ (Heap.get?_push_of_some _ (Heap.get?_push_of_some _ (Heap.get?_push_of_some _ (Heap.get?_push_size _ rfl))))
  show _ ∧ _
  rw [z2, z3, z4] at g5
  rw [z1, z2] at g3
  rw [z3] at g4
  rw [z1] at g2
  rw [z4]
  exact ⟨⟨_, g5, rfl⟩, h _ g5 g3 g4 ⟨_, g1, rfl, rfl⟩ ⟨_, g2, rfl, rfl⟩ fun c o x =>
    Heap.get?_push_of_some _ (Heap.get?_push_of_some _ (Heap.get?_push_of_some _ (Heap.get?_push_of_some _ (Heap.get?_push_of_some _ x))))⟩
end
section
variable {X : Cx} {pins : List (Addr × Obj)} {σ : L2.St} {H : Hp} {s : Shared}
theorem turnedC {h' : Heap} {t' : Nat} {ch : List Addr} (I : L2.Inv X pins σ H s) (k : ∀ b o, b ∉ ch → s.heap.get? b = some o → h'.get? b = some o) (hch : ∀ b ∈ ch, FpOk X pins H b) : L2.Inv X pins σ H { s with heap := h', toks := t' } := by
  have nch : ∀ b u, H b = some u → b ∉ ch := fun b u e z => by rw [(hch b z).1] at e; cases e
  refine I.step (g' := s.gens) (d' := s.drawn) (ch := ch) (fun b hb => ⟨(hch b hb).2.2.2.1, (hch b hb).2.1, (hch b hb).2.2.2.2.1, (hch b hb).2.2.2.2.2⟩) (fun b o _ _ hc e _ => k b o hc e) (fun b o _ _ hc e _ => ⟨o.slots, k b o hc e⟩)
    (fun _ _ _ _ n => n) (fun b o hc e => ⟨o, k b o hc e⟩) (fun _ _ e => e) (fun _ _ _ e => e) (fun b ps e => ⟨#[], by rw [e]; simp⟩) (fun m hm => ?_) (fun b u e => ?_) I.bare
  · obtain ⟨o, es, ep, ho, r⟩ := hm
    exact ⟨o, es, ep, k _ o (fun z => (hch _ z).2.1 rfl) ho, r⟩
  · refine (I.hok b u e).stay (fun c v hc q => k c v ?_ q) (fun _ q => q) fun _ _ q => q
    rcases hc with z | z
    · rw [z]; exact nch b u e
    · exact nch c _ z
theorem rd_ne {H : Hp} {a b : Addr} {u : HO} (h : Rd H a u) (h' : H b = none) : a ≠ b := by
  rcases h with h | ⟨o, h⟩
  · exact ne_of_none h h'
  · exact ne_of_none h h'
def Itz (a1 a2 : Addr) : It :=
  ⟨fun i H => ∃ xs ys x y, Rd H a1 (.tup xs) ∧ Rd H a2 (.tup ys) ∧ xs[i]? = some x ∧ ys[i]? = some y,
   fun i H v H' => ∃ p x y, H p = none ∧ v = .ref p ∧ (∀ xs, Rd H a1 (.tup xs) → xs[i]? = some x) ∧ (∀ ys, Rd H a2 (.tup ys) → ys[i]? = some y) ∧ H' = upd H p (.tup [x, y]),
   fun i H => ∃ xs, Rd H a1 (.tup xs) ∧ xs.length = i⟩
theorem turn_zip {P : Program} {w : World} {K : PySem.W.Frag} {elts : List Expr} {x1} {pos : Pos} (a1 a2 z TI TO i1 i2 : Addr) (d1 : TI ≠ z) (d2 : TO ≠ z) (d3 : i1 ≠ z) (d4 : i2 ≠ z) (d5 : TI ≠ TO) (d6 : TI ≠ i1) (d7 : TI ≠ i2) (d8 : TO ≠ i1) (d9 : TO ≠ i2) (d10 : i1 ≠ i2) :
    Turn P w K (.Tuple elts x1 pos) (Itz a1 a2) [z, TI, TO, i1, i2] z (fun i h => IsZip h z TI TO .none ∧ IsPair h TI (.ref i1) (.ref i2) ∧ (∃ a b, IsPair h TO a b) ∧ h.IsTupleIter i1 a1 i ∧ h.IsTupleIter i2 a2 i) where
  mem := by simp
  obj := fun i h st b hb => by
    obtain ⟨hz, hTI, ⟨a, b', hTO⟩, ⟨o1, ho1, _, hd1⟩, ⟨o2, ho2, _, hd2⟩⟩ := st
    simp only [List.mem_cons, List.not_mem_nil, or_false] at hb
    rcases hb with rfl | rfl | rfl | rfl | rfl
    · exact ⟨_, hz, fun v y => by have y' : Data.fields _ = Data.cell v := y; cases y'⟩
    · exact ⟨_, hTI, fun v y => by have y' : Data.seq _ _ = Data.cell v := y; cases y'⟩
    · exact ⟨_, hTO, fun v y => by have y' : Data.seq _ _ = Data.cell v := y; cases y'⟩
    · exact ⟨_, ho1, fun v y => by rw [hd1] at y; cases y⟩
    · exact ⟨_, ho2, fun v y => by rw [hd2] at y; cases y⟩
  keep := fun i h h' st k => by
    obtain ⟨hz, hTI, ⟨a, b', hTO⟩, h1, h2⟩ := st
    exact ⟨k z (by simp) _ hz, k TI (by simp) _ hTI, ⟨a, b', k TO (by simp) _ hTO⟩, h1.at fun o e => k i1 (by simp) o e, h2.at fun o e => k i2 (by simp) o e⟩
  item := by
    intro X hP hw hK hc i pins s σ H E I hf st hg
    subst hP hw hK
    obtain ⟨xs, ys, x, y, ha1, ha2, hx, hy⟩ := hg
    obtain ⟨its, rv, p, hz0⟩ := I.tuple (.inl ha1)
    obtain ⟨its2, rv2, p2, hz2⟩ := I.tuple (.inl ha2)
    obtain ⟨u, hu, ru⟩ := rv.get hx
    obtain ⟨u2, hu2, ru2⟩ := rv2.get hy
    obtain ⟨hz, hTI, ⟨a, b', hTO⟩, h1, h2⟩ := st
    have n1 : ∀ c ∈ [z, TI, TO, i1, i2], a1 ≠ c := fun c hc => rd_ne ha1 (hf c hc).1
    have n2 : ∀ c ∈ [z, TI, TO, i1, i2], a2 ≠ c := fun c hc => rd_ne ha2 (hf c hc).1
    have Z : ZApart z TI TO i1 i2 [i1, a1] [i2, a2] := ⟨d1, d2, d3, d4, d5, d6, d7, d8, d9, d10, by simp [Ne.symm d3, Ne.symm (n1 z (by simp))], by simp [Ne.symm d4, Ne.symm (n2 z (by simp))], by simp [d8, Ne.symm (n1 TO (by simp))], by simp [d9, Ne.symm (n2 TO (by simp))], by simp [Ne.symm d10, Ne.symm (n1 i2 (by simp))], by simp [d10, Ne.symm (n2 i1 (by simp))]⟩
    have hil : i < its.toArray.size := by have := (List.getElem?_eq_some_iff.mp hu).1; simpa using this
    have hil2 : i < its2.toArray.size := by have := (List.getElem?_eq_some_iff.mp hu2).1; simpa using this
    have hT : s.TypeIs (.ref z) "zip" := ⟨_, hz, rfl⟩
    unfold pyNext
    refine wpAny_bind (wpAny_attempt (wpAny_callSpecial?_slot (name := Str.ofString "__next__") hT F.slot_zip_next
      (wpAny_call_entry F.slot_zip_next hT F.entry_zip_next
        (zipD_item (drawsT (A := X.A.in1) (I.ok.hd hc) i1 a1 (n1 i1 (by simp)) its.toArray) (drawsT (A := X.A.in1) (I.ok.hd hc) i2 a2 (n2 i2 (by simp)) its2.toArray) Z hz hTI hTO ⟨h1, p⟩ ⟨h2, p2⟩ hil hil2
          fun v v2 h' tk hv hv2 ho hTO' q1 q2 ht hk => wpAny_pure ⟨_, rfl, ?_⟩) (F.args_zip_next_1 _))))
    have ev : v = u := by
      have hv' : its[i]? = some v := by simpa using hv
      rw [hu] at hv'; exact (Option.some.inj hv').symm
    have ev2 : v2 = u2 := by
      have hv' : its2[i]? = some v2 := by simpa using hv2
      rw [hu2] at hv'; exact (Option.some.inj hv').symm
    subst ev ev2
    refine wpAny_letOwnedTupleGo_zip ho fun h'' hz'' hs'' => ?_
    have lt : ∀ c ∈ [z, TI, TO, i1, i2], c < s.heap.objs.size := fun c hc => by
      simp only [List.mem_cons, List.not_mem_nil, or_false] at hc
      rcases hc with rfl | rfl | rfl | rfl | rfl
      · exact Heap.lt_size hz
      · exact Heap.lt_size hTI
      · exact Heap.lt_size hTO
      · obtain ⟨_, e, _⟩ := h1; exact Heap.lt_size e
      · obtain ⟨_, e, _⟩ := h2; exact Heap.lt_size e
    have hTI' : IsPair h'' TI (.ref i1) (.ref i2) := hs''.extBut _ _ d1 (hk _ _ d1 d5 d6 d7 hTI)
    have hTO'' : IsPair h'' TO v v2 := hs''.extBut _ _ d2 hTO'
    have h1' : h''.IsTupleIter i1 a1 (i + 1) := q1.1.extBut hs''.extBut d3
    have h2' : h''.IsTupleIter i2 a2 (i + 1) := q2.1.extBut hs''.extBut d4
    refine ⟨.ref s.heap.objs.size, upd H s.heap.objs.size (.tup [x, y]), ?_, rfl, ⟨_, x, y, I.hok.fresh (Nat.le_refl _), rfl, fun zs hy' => by rw [I.tuple_inj (.inl hy') (.inl ha1)]; exact hx, fun zs hy' => by rw [I.tuple_inj (.inl hy') (.inl ha2)]; exact hy, rfl⟩, ⟨hz'', hTI', ⟨_, _, hTO''⟩, h1', h2'⟩, ?_⟩
    · show L2.Inv X pins σ _ { s with heap := h'', toks := tk }
      refine turnedT (s := s) (its := [v, v2]) I (ch := [z, TI, TO, i1, i2]) (fun b o hb q => ?_) hf (fun b hb => ?_) (Nat.le_refl _) (by show 2 ≤ sizeLine; decide) (.cons ru (.cons ru2 .nil)) ?_
      · simp only [List.mem_cons, List.not_mem_nil, or_false, not_or] at hb
        exact hs''.extBut b o hb.1 (hk b o hb.1 hb.2.2.1 hb.2.2.2.1 hb.2.2.2.2 q)
      · simp only [List.mem_cons, List.not_mem_nil, or_false] at hb
        rcases hb with rfl | rfl | rfl | rfl | rfl
        · exact ⟨_, hz''⟩
        · exact ⟨_, hTI'⟩
        · exact ⟨_, hTO''⟩
        · obtain ⟨o, e, _⟩ := h1'; exact ⟨o, e⟩
        · obtain ⟨o, e, _⟩ := h2'; exact ⟨o, e⟩
      · exact ⟨_, hs''.extBut _ _ (Nat.ne_of_gt (lt z (by simp))) ht, rfl, _, rfl⟩
    · intro b hb
      rw [upd_ne (Nat.ne_of_lt (lt b hb))]
      exact (hf b hb).1
  done := by
    intro X hP hw hK hc i pins s σ H E I hf st hg
    subst hP hw hK
    obtain ⟨xs, ha1, hx⟩ := hg
    obtain ⟨its, rv, p, hz0⟩ := I.tuple (.inl ha1)
    obtain ⟨hz, hTI, ⟨a, b', hTO⟩, h1, h2⟩ := st
    have n1 : ∀ c ∈ [z, TI, TO, i1, i2], a1 ≠ c := fun c hc => rd_ne ha1 (hf c hc).1
    have Z : ZApart z TI TO i1 i2 [i1, a1] [i2] := ⟨d1, d2, d3, d4, d5, d6, d7, d8, d9, d10, by simp [Ne.symm d3, Ne.symm (n1 z (by simp))], by simp [Ne.symm d4], by simp [d8, Ne.symm (n1 TO (by simp))], by simp [d9], by simp [Ne.symm d10, Ne.symm (n1 i2 (by simp))], by simp [d10]⟩
    have hl : its.toArray.size = i := by rw [List.size_toArray, ← rv.length]; exact hx
    have hT : s.TypeIs (.ref z) "zip" := ⟨_, hz, rfl⟩
    unfold pyNext
    refine wpAny_bind (wpAny_attempt (wpAny_callSpecial?_slot (name := Str.ofString "__next__") hT F.slot_zip_next
      (wpAny_call_entry F.slot_zip_next hT F.entry_zip_next
        (zipD_end (drawsT (A := X.A.in1) (I.ok.hd hc) i1 a1 (n1 i1 (by simp)) its.toArray) Z hz hTI ⟨by rw [hl]; exact h1, p⟩ fun h' e hk he => ?_) (F.args_zip_next_1 _))))
    obtain ⟨o, ho, hcl⟩ := he
    refine wpAny_bind (wpAny_isInstance (T := "StopIteration") (b := true) ⟨o, ho, hcl⟩ isSubtype_stop ?_)
    refine wpAny_pure ⟨rfl, turnedC (t' := s.toks) I (ch := [z, i1]) (fun b o hb e => ?_) (fun b hb => hf b ?_)⟩
    · simp only [List.mem_cons, List.not_mem_nil, or_false, not_or] at hb
      exact hk b o hb.1 hb.2 e
    · simp only [List.mem_cons, List.not_mem_nil, or_false] at hb
      rcases hb with rfl | rfl <;> simp
  self := fun _ _ _ _ _ st h => wpAny_pyIter_zip st.1 h
def iZip (ta : TA) : TI := fun σ H R => ta σ H fun vs H1 => ∃ a1 a2 xs ys, vs = [.ref a1, .ref a2] ∧ Rd H1 a1 (.tup xs) ∧ Rd H1 a2 (.tup ys) ∧ R (Itz a1 a2) H1
theorem pi_zip {a b : Expr} {ta : TA} {p pos : Pos} {elts : List Expr} {x1} {tpos : Pos} (hg : Gl X "zip") (hm : X.mg "zip" = none) (ha : PA X [a, b] ta) (h1 : notStar a = true := by rfl) (h2 : notStar b = true := by rfl) :
    PI X (.Tuple elts x1 tpos) (.Call (.Name "zip" p) [a, b] [] pos) (iZip ta) := by
  intro pins s σ H R I h
  have hs2 : starEach [b] X.env = [(false, eval b X.env)] := star_cons h2
  refine Call_ (ld_blt I hg hm boot_zip (PyProof.Rows.callWith_type1 (thn (ha pos pins s σ H _ I h) fun us s1 ⟨vs, H1, I1, r1, q1⟩ => ?_) (by rw [star_cons h1, hs2]) (by rw [hs2]; rfl)))
  obtain ⟨a1, a2, xs, ys, e, e1, e2, q⟩ := q1
  subst e
  obtain ⟨u, v, rfl, ru, rv⟩ := r1.two
  cases ru
  cases rv
  obtain ⟨its, r1', p1, hz⟩ := I1.tuple (.inl e1)
  obtain ⟨its2, r2', p2, hz2⟩ := I1.tuple (.inl e2)
  have ad : ∀ (n i j : Nat), i ≠ j → n + i ≠ n + j := fun n i j h => by omega
  refine callT_zip (show s1.heap.IsTuple a1 its.toArray from p1) (show s1.heap.IsTuple a2 its2.toArray from p2) fun h' hz hTI hTO h1 h2 hk => wpAny_pyIter_zip hz ?_
  refine ⟨s1.heap.objs.size + 4, [s1.heap.objs.size + 4, s1.heap.objs.size + 2, s1.heap.objs.size + 3, s1.heap.objs.size, s1.heap.objs.size + 1], _, _, H1, rfl, I1.kept (t' := s1.toks) hk,
    turn_zip a1 a2 (s1.heap.objs.size + 4) (s1.heap.objs.size + 2) (s1.heap.objs.size + 3) s1.heap.objs.size (s1.heap.objs.size + 1) (ad _ 2 4 (by decide)) (ad _ 3 4 (by decide)) (ad _ 0 4 (by decide)) (ad _ 1 4 (by decide)) (ad _ 2 3 (by decide)) (ad _ 2 0 (by decide)) (ad _ 2 1 (by decide)) (ad _ 3 0 (by decide)) (ad _ 3 1 (by decide)) (ad _ 0 1 (by decide)), ⟨hz, hTI, ⟨_, _, hTO⟩, h1, h2⟩, fun b hb => ?_, q⟩
  have hb' : s1.heap.objs.size ≤ b := by
    simp only [List.mem_cons, List.not_mem_nil, or_false] at hb
    rcases hb with rfl | rfl | rfl | rfl | rfl
    · exact Nat.le_add_right _ 4
    · exact Nat.le_add_right _ 2
    · exact Nat.le_add_right _ 3
    · exact Nat.le_refl _
    · exact Nat.le_add_right _ 1
  exact I1.fpOk hb' (I1.hok.fresh hb')
end
theorem comp_zip {K : PySem.W.Frag} {js : List Nat} {te : TE} {σ : L2.St} {H : Hp} {Q : VK} {a1 a2 : Addr} {xs ys : List V} (hl : xs.length = ys.length) (hn : xs.length ≤ sizeLine) (Pv : Nat → List V → Hp → Prop) (h0 : Pv 0 [] H)
    (hk : ∀ i zs H, Pv i zs H → Rd H a1 (.tup xs) ∧ Rd H a2 (.tup ys))
    (hs : ∀ i zs H p x y, xs[i]? = some x → ys[i]? = some y → zs.length = i → Pv i zs H → H p = none → te (some x :: some y :: frees js σ) (upd H p (.tup [x, y])) fun v H3 => Pv (i + 1) (zs ++ [v]) H3)
    (hd : ∀ zs H, zs.length = xs.length → Pv xs.length zs H → ∀ p, H p = none → Q (.ref p) (upd H p (.lst zs))) :
    CompG 2 js (gTup K 2 (gCons (gName 0) (gCons (gName 1) gNil))) te σ Q (Itz a1 a2) H := by
  refine ⟨fun i m zs τ H => m = xs.length - i ∧ i ≤ xs.length ∧ zs.length = i ∧ Pv i zs H ∧ ∃ o o', τ = o :: o' :: frees js σ, ⟨xs.length, by simp, Nat.zero_le _, rfl, h0, none, none, rfl⟩, ?_⟩
  rintro i m zs τ H ⟨rfl, hi, hzl, p, o, o', rfl⟩
  obtain ⟨e1, e2⟩ := hk i zs H p
  by_cases hlt : i < xs.length
  · have hlt2 : i < ys.length := by omega
    refine .inr ⟨⟨xs, ys, xs[i], ys[i], e1, e2, by simp [hlt], by simp [hlt2]⟩, by omega, fun v H' y => ?_⟩
    obtain ⟨pp, x, y, hp, rfl, hx, hy, rfl⟩ := y
    refine ⟨pp, _, rfl, SqT.of upd_same, rfl, _, _, rfl, _, _, rfl, rfl, ?_⟩
    exact ⟨fun v H3 => Pv (i + 1) (zs ++ [v]) H3, fun v H3 p3 => ⟨xs.length - (i + 1), by omega, rfl, hlt, by simp [hzl], p3, _, _, rfl⟩, hs i zs _ pp x y (hx xs e1) (hy ys e2) hzl p hp⟩
  · have e : i = xs.length := by omega
    subst e
    exact .inl ⟨⟨xs, e1, rfl⟩, hd zs H hzl p⟩
end L3
namespace L3
open PySem PySem.Spec PyProof.Rows L2 PySem.SeqAt
open Sem (wp)
open AutoSeq1 (wpAny_loadPart')
section
variable {X : Cx}
theorem Rd.same {H H' : Hp} {a : Addr} {u : HO} (s : Same H H') (h : Rd H a u) : Rd H' a u := by
  rcases h with h | ⟨o, h⟩
  · exact .inl (s _ _ h)
  · exact .inr ⟨o, s _ _ h⟩
inductive Ty2 (H : Hp) : V → String → Prop where
  | int (i : Int) : Ty2 H (.int i) "int"
  | bl (b : Bool) : Ty2 H (.bl b) "bool"
  | tup {a : Addr} {xs : List V} (h : Rd H a (.tup xs)) : Ty2 H (.ref a) "tuple"
  | str (x : Str) : Ty2 H (.str x) "str"
  | non : Ty2 H .non "NoneType"
  | lst {a : Addr} {xs : List V} (h : H a = some (.lst xs)) : Ty2 H (.ref a) "list"
theorem ty2_mem {H : Hp} {x : V} {t : String} (h : Ty2 H x t) : t ∈ tysL := by cases h <;> simp
theorem kit_any (K : PySem.W.Frag) {t : String} (ht : t ∈ tysL) : ∀ cs : List String, (∀ c ∈ cs, c ∈ clsL) → PySem.W.kitAny K (.type t) (cs.map Value.type) = some (cs.any (subT t))
  | [], _ => rfl
  | c :: r, h => by
    have e := kit_tab K t ht c (h c List.mem_cons_self)
    have ih := kit_any K ht r fun d hd => h d (List.mem_cons_of_mem _ hd)
    simp only [List.map_cons, PySem.W.kitAny, e, List.any_cons]
    cases subT t c with
    | true => rfl
    | false => simpa using ih
theorem call_isiA : CallR X (.builtin "isinstance") (fun xs H Q => ∃ x c t, xs = [x, .ty c] ∧ Ty2 H x t ∧ c ∈ clsL ∧ Q (.bl (subT t c)) H) := by
  intro pins s σ H xs us Q I r h
  obtain ⟨x, c, t, rfl, ty, hc, q⟩ := h
  obtain ⟨u, v, rfl, ru, rv⟩ := vals2 r
  cases (show v = Value.type c from rv)
  have e := kit_tab X.K t (ty2_mem ty) c hc
  have fin : ∀ tk, EP X pins σ Q (.bool (subT t c)) { s with toks := tk } := fun tk => ⟨.bl _, H, I.tok tk, rfl, q⟩
  cases ty with
  | int i => obtain ⟨t, q⟩ := (show ∃ t, u = Value.int i t from ru); cases q; exact PySem.W.kia_one PySem.W.kitx_int I.kIn True.intro e (fun z => nomatch z) fin
  | bl b => cases (show u = Value.bool b from ru); exact PySem.W.kia_one PySem.W.kitx_bool I.kIn True.intro e (fun z => nomatch z) fin
  | @tup a ys hr =>
    cases (show u = Value.ref a from ru)
    obtain ⟨its, _, ⟨o, h1, h2, _⟩, _⟩ := I.tuple (.inl hr)
    exact PySem.W.kia_one PySem.W.kitx_tuple I.kIn ⟨o, h1, h2⟩ e (fun z => nomatch z) fin
  | str x => obtain ⟨t, q⟩ := (show ∃ t, u = Value.str x t from ru); cases q; exact PySem.W.kia_one PySem.W.kitx_str I.kIn True.intro e (fun z => nomatch z) fin
  | non => cases (show u = Value.none from ru); exact PySem.W.kia_one PySem.W.kitx_none I.kIn True.intro e (fun z => nomatch z) fin
  | @lst a ys ea =>
    cases (show u = Value.ref a from ru)
    obtain ⟨_, _, n, _, h1⟩ := (show ObjOk X.prog X.w H s.heap a (.lst ys) from I.hok a _ ea)
    exact PySem.W.kia_one PySem.W.kitx_list I.kIn ⟨_, h1, rfl⟩ e (fun z => nomatch z) fin
theorem vals_tys : ∀ {cs : List String} {us : List Value}, Vals (cs.map V.ty) us → us = cs.map Value.type
  | [], _, .nil => rfl
  | c :: cs, _, .cons r t => by
    cases (show _ = Value.type c from r)
    rw [vals_tys t]; rfl
theorem call_isiB : CallR X (.builtin "isinstance") (fun xs H Q => ∃ (x : V) (p : Addr) (cs : List String) (t : String), xs = [x, .ref p] ∧ H p = some (.tup (cs.map V.ty)) ∧ Ty2 H x t ∧ (∀ c ∈ cs, c ∈ clsL) ∧ Q (.bl (cs.any (subT t))) H) := by
  intro pins s σ H xs us Q I r h
  obtain ⟨x, p, cs, t, rfl, hp, ty, hc, q⟩ := h
  obtain ⟨u, v, rfl, ru, rv⟩ := vals2 r
  cases (show v = Value.ref p from rv)
  obtain ⟨its, rvs, ⟨⟨cl, dd, dt, sl⟩, ho, hcl, n, hdt⟩, _⟩ := I.tuple (SqT.of hp)
  replace hcl : cl = .type "tuple" := hcl
  replace hdt : dt = .seq its.toArray n := hdt
  subst hcl hdt
  have e := kit_any X.K (ty2_mem ty) cs hc
  rw [← vals_tys rvs] at e
  have fin : ∀ tk, EP X pins σ Q (.bool (cs.any (subT t))) { s with toks := tk } := fun tk => ⟨.bl _, H, I.tok tk, rfl, q⟩
  cases ty with
  | int i => obtain ⟨t, q⟩ := (show ∃ t, u = Value.int i t from ru); cases q; exact PySem.W.kia_tup PySem.W.kitx_int I.kIn True.intro ho e (fun z => nomatch z) fin
  | bl b => cases (show u = Value.bool b from ru); exact PySem.W.kia_tup PySem.W.kitx_bool I.kIn True.intro ho e (fun z => nomatch z) fin
  | @tup a ys hr =>
    cases (show u = Value.ref a from ru)
    obtain ⟨its', _, ⟨o, h1, h2, _⟩, _⟩ := I.tuple (.inl hr)
    exact PySem.W.kia_tup PySem.W.kitx_tuple I.kIn ⟨o, h1, h2⟩ ho e (fun z => nomatch z) fin
  | str x => obtain ⟨t, q⟩ := (show ∃ t, u = Value.str x t from ru); cases q; exact PySem.W.kia_tup PySem.W.kitx_str I.kIn True.intro ho e (fun z => nomatch z) fin
  | non => cases (show u = Value.none from ru); exact PySem.W.kia_tup PySem.W.kitx_none I.kIn True.intro ho e (fun z => nomatch z) fin
  | @lst a ys ea =>
    cases (show u = Value.ref a from ru)
    obtain ⟨_, _, n, _, h1⟩ := (show ObjOk X.prog X.w H s.heap a (.lst ys) from I.hok a _ ea)
    exact PySem.W.kia_tup PySem.W.kitx_list I.kIn ⟨_, h1, rfl⟩ ho e (fun z => nomatch z) fin
end
section
variable {t : List Int} (p : t.Perm digs)
include p
theorem tab_len : t.length = 16 := by rw [p.length_eq, digs_len]
end
end L3
namespace L3
open PySem PySem.Spec L2
variable {X : Cx}
theorem qss_never  {sts : List Stmt} : QSs X sts tNever := ⟨pss_never ⟩
theorem qi_zip  {a b : Expr} {ta : TA} {p pos : Pos} {elts : List Expr} {x1} {tpos : Pos} (hg : Gl X "zip") (hm : X.mg "zip" = none) (ha : QA X [a, b] ta) (h1 : notStar a = true := by rfl) (h2 : notStar b = true := by rfl) : QI X (.Tuple elts x1 tpos) (.Call (.Name "zip" p) [a, b] [] pos) (iZip ta) := ⟨pi_zip (hg := hg) (hm := hm) (ha := ha.h) (h1 := h1) (h2 := h2)⟩
def BoxC (H : Hp) (b : Addr) (c : Nat) : Prop := ∃ n m k : Int, H b = some (BoxL n m k) ∧ 0 ≤ m ∧ m < 4611686018427387904 ∧ 0 ≤ k ∧ k ≤ c
structure GrC (b : Addr) (c : Nat) (H H' : Hp) : Prop where
  kp : ∀ a o, a ≠ b → H a = some o → H' a = some o
  bx : BoxC H' b c
theorem BoxC.mono {H : Hp} {b : Addr} {c d : Nat} (h : BoxC H b c) (l : c ≤ d) : BoxC H b d := let ⟨n, m, k, e, a1, a2, a3, a4⟩ := h; ⟨n, m, k, e, a1, a2, a3, by omega⟩
theorem GrC.mono {b : Addr} {c d : Nat} {H H' : Hp} (h : GrC b c H H') (l : c ≤ d) : GrC b d H H' := ⟨h.kp, h.bx.mono l⟩
theorem GrC.trans {b : Addr} {c d : Nat} {H H1 H2 : Hp} (x : GrC b c H H1) (y : GrC b d H1 H2) : GrC b d H H2 := ⟨fun c o n e => y.kp c o n (x.kp c o n e), y.bx⟩
theorem _root_.L2.Same.grc {b : Addr} {c : Nat} {H H' : Hp} (x : Same H H') (h : BoxC H b c) : GrC b c H H' := ⟨fun c o _ e => x c o e, let ⟨n, m, k, e, r⟩ := h; ⟨n, m, k, x _ _ e, r⟩⟩
theorem GrC.same {b : Addr} {c : Nat} {H H1 H2 : Hp} (x : GrC b c H H1) (y : Same H1 H2) : GrC b c H H2 := x.trans (y.grc x.bx)
theorem boxc_fresh {H : Hp} {b l : Addr} {c : Nat} (hb : BoxC H b c) (h : H l = none) : l ≠ b := fun z => by
  obtain ⟨_, _, _, e, _⟩ := hb
  subst z
  rw [e] at h
  cases h
def spBox2 (K : PySem.W.Frag) : Sp := fun vs H Q _ => ∃ (a : Addr) (ns : List Int) (k : Nat), vs = [.ref a, .int k] ∧ SqL K H a (ns.map V.int) ∧ ∀ b H', H b = none → Same H H' → BoxC H' b 0 → Q (.ref b) H'
def spTake2 : Sp := fun vs H Q _ => ∃ (b : Addr) (many : Int) (c : Nat), vs = [.ref b, .int many] ∧ BoxC H b c ∧ c < 1000000000 ∧ 0 < many ∧ many < 1073741824 ∧ ∀ r H', 0 ≤ r → r < many → GrC b (c + 1) H H' → Q (.int r) H'
theorem s2n {H H' : Hp} {p : Addr} (h : H' p = none) (s : Same H H') : H p = none := by
  cases e : H p with
  | none => rfl
  | some o => rw [s _ _ e] at h; cases h
theorem Same.sqt {K : PySem.W.Frag} {H H' : Hp} {a : Addr} {xs : List V} (e : Same H H') (h : SqT K H a xs) : SqT K H' a xs := by
  rcases h with h | h
  · exact .inl (Rd.same e h)
  · exact .inr h
theorem qg_tupK {X : Cx} {K : PySem.W.Frag} (hK : X.K = K) {pos : Pos} {es : List Expr} {k : Nat} {t : TGs} (n : Nat) (hc : X.calm = true) (h : QGs X es t) (hn : (assignEach es X.env).length = n := by rfl) (hst : (assignEach es X.env).findIdx? (·.1) = none := by rfl) : QG X (.Tuple es k pos) (gTup K n t) := by
  subst hK
  exact ⟨pg_tup (hc := hc) (h := h.h) (hn := hn) (hst := hst)⟩
end L3
namespace L3
open PySem PySem.Spec PyProof.Rows L2
open Sem (wp)
namespace RV
end RV
end L3
namespace L3
open PySem PySem.Spec PyProof.Rows L2
open Sem (wp)
section
variable {prog : Program} {w : World} {A : Around} {E : Value → Shared → Prop} {s : Shared}
end
section
variable {X : Cx} {tg : Expr}
def iSeq (K : PySem.W.Frag) (tl : TE) : TI := fun σ H R => tl σ H fun x H1 => ∃ a, x = .ref a ∧ ((∃ xs, SqL K H1 a xs) ∧ R (Itl K a) H1 ∨ (∃ xs, SqT K H1 a xs) ∧ R (Itt K a) H1)
theorem pi_seq {l : Expr} {tl : TE} (hl : PE X l tl) : PI X tg l (iSeq X.K tl) := by
  intro pins s σ H R I h
  refine thn (hl pins s σ H _ I h) fun v s1 ⟨x, H1, I1, r1, q1⟩ => ?_
  obtain ⟨a, e, q1⟩ := q1
  subst e
  cases r1
  have fpk : ∀ b ∈ [s1.heap.objs.size], FpOk X pins H1 b := fun b hb => by
    rw [List.mem_singleton.mp hb]
    exact I1.fpOk (Nat.le_refl _) (I1.hok.fresh (Nat.le_refl _))
  rcases q1 with ⟨⟨xs, hq⟩, q⟩ | ⟨⟨xs, hq⟩, q⟩
  · obtain ⟨its, rv, p, hz⟩ := I1.list hq
    refine wpAny_pyIter_list p.isList ?_
    exact ⟨s1.heap.objs.size, [s1.heap.objs.size], _, _, H1, rfl, I1.kept (t' := s1.toks) fun b o e => Heap.get?_push_of_some _ e, turn_list a _, ⟨_, Heap.get?_push_size _ rfl, rfl, rfl⟩, fpk, q⟩
  · obtain ⟨its, rv, p, hz⟩ := I1.tuple hq
    refine wpAny_pyIter_tuple (show s1.heap.IsTuple a its.toArray from p) ?_
    exact ⟨s1.heap.objs.size, [s1.heap.objs.size], _, _, H1, rfl, I1.kept (t' := s1.toks) fun b o e => Heap.get?_push_of_some _ e, turn_tuple a _, ⟨_, Heap.get?_push_size _ rfl, rfl, rfl⟩, fpk, q⟩
end
section
variable {K : PySem.W.Frag} {a : Addr} {xs : List V} {g : TG} {tb : TS} {D : Ends} {σ : L2.St} {H : Hp}
abbrev LoopP (J : It) (g : TG) (tb : TS) (D : Ends) (σ : L2.St) (H : Hp) : Prop := ∃ W : Nat → Nat → L2.St → Hp → Prop, (∃ m, W 0 m σ H) ∧ ∀ i m σ H, W i m σ H →
      (J.stop i H ∧ D.nx σ H) ∨ (J.go i H ∧ ∃ N : L2.St → Hp → Prop, (∀ σ' H', N σ' H' → ∃ m', m' < m ∧ W (i + 1) m' σ' H') ∧ ∀ x H', J.yld i H x H' → g x σ H' fun σ2 H2 => tb { D with nx := N, ct := N, bk := D.nx } σ2 H2)
theorem for_gen {J : It} {n : Nat} (Pv : Nat → L2.St → Hp → Prop) (h0 : Pv 0 σ H) (hgo : ∀ i σ H, i < n → Pv i σ H → J.go i H) (hst : ∀ H, J.stop n H)
    (hs : ∀ i x σ H H', i < n → Pv i σ H → J.yld i H x H' → g x σ H' fun σ2 H2 => tb { D with nx := Pv (i + 1), ct := Pv (i + 1), bk := D.nx } σ2 H2) (hd : ∀ σ H, Pv n σ H → D.nx σ H) : LoopP J g tb D σ H := by
  refine ⟨fun i m σ H => m = n - i ∧ i ≤ n ∧ Pv i σ H, ⟨n, by simp, Nat.zero_le _, h0⟩, ?_⟩
  rintro i m σ H ⟨rfl, hi, p⟩
  by_cases hlt : i < n
  · exact .inr ⟨hgo i σ H hlt p, Pv (i + 1), fun σ' H' p' => ⟨n - (i + 1), by omega, rfl, hlt, p'⟩, fun x H' y => hs i x σ H H' hlt p y⟩
  · have e : i = n := by omega
    subst e
    exact .inl ⟨hst H, hd σ H p⟩
end
end L3
namespace L3
open PySem PySem.Spec L2
variable {X : Cx}
theorem qi_seq  {tg : Expr} {l : Expr} {tl : TE} (hl : QE X l tl) : QI X tg l (iSeq X.K tl) := ⟨pi_seq (hl := hl.h)⟩
def dig (x : Int) : Prop := 0 ≤ x ∧ x < 16
def digR (r : List Int) : Prop := ∀ x ∈ r, dig x
def ahI (n i : Nat) : Nat := if i = 0 then n - 1 else i - 1
def ah (r : List Int) (i : Nat) : Int := r.getD (ahI r.length i) 0
def enc1 (t : List Int) (s : Int) (r : List Int) (i : Nat) : List Int := r.set i (t.getD ((r.getD i 0 + s + i + ah r i) % 16).toNat 0)
def encR (t : List Int) (s : Int) (r : List Int) : Nat → List Int
  | 0 => r
  | n + 1 => enc1 t s (encR t s r n) n
def encK (t : List Int) : List Int → List Int → List Int
  | [], r => r
  | s :: ks, r => encK t ks (encR t s r r.length)
theorem enc1_len {t : List Int} {s : Int} {r : List Int} {i : Nat} : (enc1 t s r i).length = r.length := List.length_set ..
theorem encR_len {t : List Int} {s : Int} {r : List Int} : ∀ {n : Nat}, (encR t s r n).length = r.length
  | 0 => rfl
  | n + 1 => by rw [encR, enc1_len, encR_len]
theorem encK_len {t : List Int} : ∀ {ks r : List Int}, (encK t ks r).length = r.length
  | [], _ => rfl
  | s :: ks, r => by rw [encK, encK_len, encR_len]
theorem dig_mod (x : Int) : dig (x % 16) := ⟨Int.emod_nonneg _ (by decide), Int.emod_lt_of_pos _ (by decide)⟩
theorem encK_app (t : List Int) : ∀ (ks : List Int) (s : Int) (r : List Int), encK t (ks ++ [s]) r = encR t s (encK t ks r) r.length
  | [], _, _ => rfl
  | a :: ks, s, r => by rw [List.cons_append, encK, encK_app t ks s, encK, encR_len]
def Sq (K : PySem.W.Frag) (H : Hp) (a : Addr) (xs : List V) : Prop := SqL K H a xs ∨ SqT K H a xs
theorem Sq.same {K : PySem.W.Frag} {H H' : Hp} {a : Addr} {xs : List V} (e : Same H H') (h : Sq K H a xs) : Sq K H' a xs := h.elim (fun h => .inl (e.seq h)) fun h => .inr (Same.sqt e h)
theorem Sq.lst {K : PySem.W.Frag} {H : Hp} {a : Addr} {xs : List V} (h : H a = some (.lst xs)) : Sq K H a xs := .inl (SqL.of h)
theorem Sq.tup {K : PySem.W.Frag} {H : Hp} {a : Addr} {xs : List V} (h : H a = some (.tup xs)) : Sq K H a xs := .inr (SqT.of h)
def spCoded (K : PySem.W.Frag) : Sp := fun vs H Q _ => ∃ (a b c : Addr) (t ks ds : List Int), vs = [.ref a, .ref b, .ref c] ∧ Sq K H a (t.map V.int) ∧ Sq K H b (ks.map V.int) ∧ Sq K H c (ds.map V.int) ∧ t.length = 16 ∧ 1 ≤ ds.length ∧ ds.length < 64 ∧
  ∀ p H', Same H H' → H p = none → H' p = some (.tup ((encK t ks ds).map V.int)) → Q (.ref p) H'
theorem atI_getD {r : List Int} {i : Nat} {z : Int} (e : z = (i : Int)) (h : i < r.length) : atI (r.map V.int) z = some (.int (r.getD i 0)) := by
  rw [atI_int e (ints_at h), List.getD_eq_getElem?_getD, List.getElem?_eq_getElem h]; rfl
theorem atI_ah {r : List Int} {i : Nat} {z : Int} (e : z = (i : Int) - 1) (h : i < r.length) : atI (r.map V.int) z = some (.int (ah r i)) := by
  subst e
  unfold ah ahI
  by_cases h0 : i = 0
  · subst h0
    rw [if_pos rfl]
    have hl : r.length - 1 < r.length := by omega
    unfold atI ixN
    rw [List.length_map, if_neg (by omega), if_pos (by omega)]
    have e2 : ((((0 : Nat) : Int) - 1) + (r.length : Int)).toNat = r.length - 1 := by omega
    show (r.map V.int)[((((0 : Nat) : Int) - 1) + (r.length : Int)).toNat]? = _
    rw [e2, ints_at hl, List.getD_eq_getElem?_getD, List.getElem?_eq_getElem hl]; rfl
  · rw [if_neg h0]
    exact atI_getD (by omega) (by omega)
theorem Sq.ix {K : PySem.W.Frag} {H : Hp} {a : Addr} {xs : List V} {i : Int} {v : V} {Q : VK} (h : Sq K H a xs) (e : atI xs i = some v) (q : Q v H) : rIxL K (.ref a) (.int i) H Q ∨ rIxT K (.ref a) (.int i) H Q :=
  h.elim (fun h => .inl ⟨a, xs, i, v, rfl, rfl, h, e, q⟩) fun h => .inr ⟨a, xs, i, v, rfl, rfl, h, e, q⟩
section
variable {K : PySem.W.Frag} {a : Addr} {xs : List V} {g : TG} {tb : TS} {D : Ends} {σ : L2.St} {H H0 : Hp}
theorem for_seq (hq : Sq K H0 a xs) (Pv : Nat → L2.St → Hp → Prop) (h0 : Pv 0 σ H) (hk : ∀ i σ' H', Pv i σ' H' → Same H0 H')
    (hs : ∀ i x σ H, xs[i]? = some x → Pv i σ H → g x σ H fun σ2 H2 => tb { D with nx := Pv (i + 1), ct := Pv (i + 1), bk := D.nx } σ2 H2) (hd : ∀ σ H, Pv xs.length σ H → D.nx σ H) :
    ((∃ xs, SqL K H a xs) ∧ LoopP (Itl K a) g tb D σ H) ∨ ((∃ xs, SqT K H a xs) ∧ LoopP (Itt K a) g tb D σ H) := by
  rcases hq with hq | hq
  · exact .inl ⟨⟨xs, (hk _ _ _ h0).seq hq⟩, for_list Pv h0 (fun i σ H _ p => (hk i σ H p).seq hq) hs hd⟩
  · exact .inr ⟨⟨xs, Same.sqt (hk _ _ _ h0) hq⟩, for_tup Pv h0 (fun i σ H _ p => Same.sqt (hk i σ H p) hq) hs hd⟩
end
theorem same_write {H H2 : Hp} {l : Addr} {o : HO} (s : Same H H2) (h : H l = none) : Same H (upd H2 l o) := fun d u e => by
  rw [upd_ne (ne_of_none e h)]; exact s _ _ e
theorem take_succ_ints {ks : List Int} {j : Nat} {s : Int} (h : ks[j]? = some s) : ks.take (j + 1) = ks.take j ++ [s] := by rw [List.take_add_one, h]; rfl
section
open SeqAt
variable {pins : List (Addr × Obj)} {σ : L2.St} {H : Hp} {s : Shared}
theorem vals_at {xs : List V} {us : List Value} (r : Vals xs us) {j : Nat} (h : j < us.length) : ∃ x, xs[j]? = some x ∧ RelV x us[j] := by
  have hl := r.length
  have hj : j < xs.length := by omega
  obtain ⟨u, hu, ru⟩ := r.get (List.getElem?_eq_getElem hj)
  rw [List.getElem?_eq_getElem h] at hu
  cases hu
  exact ⟨_, List.getElem?_eq_getElem hj, ru⟩
end
end L3
namespace L3
open PySem PySem.Spec PyProof.Rows L2
open Sem (wp)
def Its (x : Str) : It := ⟨fun i _ => i < x.cps.size, fun i H v H' => H' = H ∧ ∃ c, x.cps[i]? = some c ∧ v = .str ⟨#[c]⟩, fun i _ => x.cps.size ≤ i⟩
theorem turn_str {P : Program} {w : World} {K : PySem.W.Frag} {tg : Expr} (it : Addr) (x : Str) (t : Tok) : Turn P w K tg (Its x) [it] it (fun i h => h.IsStrIter it "str_ascii_iterator" x t i) where
  mem := by simp
  obj := fun i h st b hb => by
    have e : b = it := by simpa using hb
    subst e
    obtain ⟨o, e, c, d⟩ := st
    exact ⟨o, e, fun v z => by rw [d] at z; cases z⟩
  keep := fun i h h' st k => let ⟨o, e, r⟩ := st; ⟨o, k it (by simp) o e, r⟩
  item := by
    intro X hP hw hK hc i pins s σ H E I hf st hg
    subst hP hw hK
    obtain ⟨f0, f1, f2, f3, f4, f5⟩ := hf it (by simp)
    have W := Walks.strAscii (prog := X.prog) (w := X.w) (I.ok.hd hc) it x t
    refine W.item i s _ _ hg st fun v h' tk hv st' kk => ?_
    obtain ⟨c, u, hc', rfl⟩ := hv
    have I1 : L2.Inv X pins σ H { s with heap := h', toks := tk } := I.turned (fun b o hb e => kk b o (by simpa using hb) e) f0 f1 f3 f4 f5
    obtain ⟨o, e, cc, d⟩ := id st'
    exact ⟨_, rfl, go_of (s := { s with heap := h', toks := tk }) e cc d (by decide) ⟨.str ⟨#[c]⟩, H, I1, ⟨u, rfl⟩, ⟨rfl, c, hc', rfl⟩, st', fun b hb => (hf b hb).1⟩⟩
  done := by
    intro X hP hw hK hc i pins s σ H E I hf st hg
    subst hP hw hK
    obtain ⟨f0, f1, f2, f3, f4, f5⟩ := hf it (by simp)
    have hg' : x.cps.size ≤ i := hg
    exact wpAny_pyNext_ascii_end (I.ok.hd hc) st (by simp [hg']) fun h' eb => ⟨rfl, I.turned (t' := s.toks) (fun b o hb e => eb b o hb e) f0 f1 f3 f4 f5⟩
  self := fun _ _ _ _ _ st h => wpAny_pyIter_striter_ascii st h
section
variable {X : Cx} {tg : Expr}
def iStr (tl : TE) : TI := fun σ H R => tl σ H fun v H1 => ∃ x, v = .str x ∧ x.cps.all (· < 128) = true ∧ R (Its x) H1
theorem pi_str {l : Expr} {tl : TE} (hl : PE X l tl) : PI X tg l (iStr tl) := by
  intro pins s σ H R I h
  refine thn (hl pins s σ H _ I h) fun v s1 ⟨x, H1, I1, r1, q1⟩ => ?_
  obtain ⟨z, rfl, ha, q⟩ := q1
  obtain ⟨t, rfl⟩ := r1
  refine wpAny_pyIter_ascii ha ?_
  refine ⟨s1.heap.objs.size, [s1.heap.objs.size], _, _, H1, rfl, I1.kept (t' := s1.toks) fun b o e => Heap.get?_push_of_some _ e, turn_str _ z t, ⟨_, Heap.get?_push_size _ rfl, rfl, rfl⟩, fun b hb => ?_, q⟩
  rw [List.mem_singleton.mp hb]
  exact I1.fpOk (Nat.le_refl _) (I1.hok.fresh (Nat.le_refl _))
theorem qi_str {l : Expr} {tl : TE} (hl : QE X l tl) : QI X tg l (iStr tl) := ⟨pi_str hl.h⟩
end
theorem for_str {x : Str} {g : TG} {tb : TS} {D : Ends} {σ : L2.St} {H : Hp} (Pv : Nat → L2.St → Hp → Prop) (h0 : Pv 0 σ H)
    (hs : ∀ i c σ H, x.cps[i]? = some c → Pv i σ H → g (.str ⟨#[c]⟩) σ H fun σ2 H2 => tb { D with nx := Pv (i + 1), ct := Pv (i + 1), bk := D.nx } σ2 H2) (hd : ∀ σ H, Pv x.cps.size σ H → D.nx σ H) : LoopP (Its x) g tb D σ H :=
  for_gen Pv h0 (fun i σ H hi p => hi) (fun _ => Nat.le_refl _) (fun i v σ H H' hi p y => by
    obtain ⟨rfl, c, hc, rfl⟩ := y
    exact hs i c σ H' hc p) hd
section
variable {X : Cx} {o e : Expr} {es : List Expr} {to : TE} {t : TA} {name : Str} {apos cpos : Pos} {T id : String} {r : V → List V → Hp → VK → Prop}
theorem qe_bm (pa : PlainAttrs T) (slot : Slot T name id) (hty : typeOf (.builtin id) = pure (.type "method_descriptor")) (hm : MtR X id r) (ho : QE X o to) (ha : QA X (e :: es) t)
    (hbase : attributeBase o name X.env (eval o X.env) = eval o X.env := by rfl)
    (hfew : ((backTo cpos (starEach (e :: es) X.env)).all (fun x => !x.1) && (backToKw cpos (keywordEach [] X.env)).all (fun x => x.1.isSome)
      && decide ((e :: es).length + ([] : List Keyword).length + (if ([] : List Keyword).isEmpty then 0 else 1) < 30)) = true := by rfl)
    (hline : (apos.endLine == cpos.line) = true := by rfl) (hs : starEach (e :: es) X.env = (false, eval e X.env) :: starEach es X.env := by rfl) (hplain : (backTo cpos (starEach es X.env)).any (·.1) = false := by rfl) :
    QE X (.Call (.Attribute o name apos) (e :: es) [] cpos) (tBM X.K T r to t) := ⟨pe_bm pa slot hty hm ho.h ha.h hbase hfew hline hs hplain⟩
theorem mr_append : MtR X "list.append" rAppend := mt_append
end
theorem preSum_list (ns : List Int) : ∀ n, n ≤ ns.length → preSum (fun i => ns.getD i 0) n = (ns.take n).sum
  | 0, _ => by simp [preSum]
  | n + 1, h => by
    have hn : n < ns.length := by omega
    rw [preSum, preSum_list ns n (by omega), List.take_add_one, List.getElem?_eq_getElem hn, Option.toList_some, List.sum_append, List.getD_eq_getElem?_getD, List.getElem?_eq_getElem hn]
    simp
theorem sum_bd {B : Int} : ∀ {ns : List Int}, (∀ z ∈ ns, 0 ≤ z ∧ z ≤ B) → 0 ≤ ns.sum ∧ ns.sum ≤ ns.length * B
  | [], _ => ⟨by simp, by simp⟩
  | n :: r, h => by
    have h1 := h n List.mem_cons_self
    have h2 := sum_bd (ns := r) fun z hz => h z (List.mem_cons_of_mem _ hz)
    rw [List.sum_cons, List.length_cons]
    refine ⟨by omega, ?_⟩
    have : (((r.length + 1 : Nat) : Int)) * B = r.length * B + B := by rw [Int.natCast_add, Int.add_mul]; simp
    omega
section
variable {X : Cx}
theorem call_sumI (hc : X.calm = true) : CallR X (.builtin "sum") (fun xs H Q => ∃ (p : Addr) (ns : List Int), xs = [.ref p] ∧ Sq X.K H p (ns.map V.int) ∧ ns.length ≤ 1000 ∧ (∀ z ∈ ns, 0 ≤ z ∧ z ≤ 1000000) ∧ Q (.int ns.sum) H) := by
  intro pins s σ H xs us Q I r h
  obtain ⟨p, ns, rfl, hq, hl, hb, q⟩ := h
  obtain ⟨u, rfl, ru⟩ := vals1 r
  cases ru
  have bd : ∀ n, n ≤ ns.length → 0 ≤ preSum (fun i => ns.getD i 0) n ∧ preSum (fun i => ns.getD i 0) n ≤ 1000000000 := fun n hn => by
    rw [preSum_list ns n hn]
    have h1 := sum_bd (B := 1000000) (ns := ns.take n) fun z hz => hb z (List.mem_of_mem_take hz)
    have h2 : (ns.take n).length ≤ 1000 := by rw [List.length_take]; omega
    omega
  have fit : ∀ j, j < ns.length → InLong ((fun i => ns.getD i 0) j) ∧ InLong (preSum (fun i => ns.getD i 0) (j + 1)) := fun j hj => by
    have b1 := bd (j + 1) (by omega)
    have b2 : 0 ≤ ns.getD j 0 ∧ ns.getD j 0 ≤ 1000000 := by
      rw [List.getD_eq_getElem?_getD, List.getElem?_eq_getElem hj]; exact hb _ (List.getElem_mem hj)
    unfold InLong
    simp only
    omega
  have eS : preSum (fun i => ns.getD i 0) ns.length = ns.sum := by rw [preSum_list ns _ (Nat.le_refl _), List.take_length]
  have val : ∀ {its : List Value}, Vals (ns.map V.int) its → ∀ (i : Nat) (v : Value), its.toArray[i]? = some v → ∃ t, v = .int ((fun i => ns.getD i 0) i) t := fun {its} rv i v hv => by
    have hv' : its[i]? = some v := by simpa using hv
    have hi : i < its.length := (List.getElem?_eq_some_iff.mp hv').1
    obtain ⟨x, ex, rx⟩ := vals_at rv hi
    obtain ⟨z, rfl, hz⟩ := ints_get ex
    obtain ⟨t, ht⟩ := rx
    refine ⟨t, ?_⟩
    rw [(List.getElem?_eq_some_iff.mp hv').2] at ht
    rw [ht]
    show Value.int z t = Value.int (ns.getD i 0) t
    rw [List.getD_eq_getElem?_getD, hz]; rfl
  rcases hq with hq | hq
  · obtain ⟨its, rv, pl, hz⟩ := I.list hq
    have hlen : ns.length = its.length := by have := rv.length; rwa [List.length_map] at this
    have hlt : p < s.heap.objs.size := by obtain ⟨_, e, _⟩ := pl.isList; exact Heap.lt_size e
    refine call_sum_walk (wpAny_pyIter_list pl.isList ?_)
    refine ⟨s.heap.objs.size, [s.heap.objs.size, p], [s.heap.objs.size], its.toArray.size, _, _, fun i => ns.getD i 0, rfl, Walks.list (A := X.A.in1) (I.ok.hd hc) _ p (Nat.ne_of_lt hlt) its.toArray,
      ⟨⟨_, Heap.get?_push_size _ rfl, rfl, rfl⟩, pl.isList.push _⟩, fun b hb' => ?_, val rv, fun j hj => fit j (by simp at hj; omega), fun h' tk t' hk => ?_⟩
    · have sz : (s.heap.push { cls := .type "list_iterator", data := .fields #[.ref p, .int 0 0] }).objs.size = s.heap.objs.size + 1 := Heap.size_push ..
      simp only [List.mem_cons, List.not_mem_nil, or_false] at hb'
      show b < (Heap.push s.heap _).objs.size
      rw [Heap.size_push]
      rcases hb' with rfl | rfl
      · exact Nat.lt_succ_self _
      · exact Nat.lt_succ_of_lt hlt
    · have e2 : preSum (fun i => ns.getD i 0) its.toArray.size = ns.sum := by rw [List.size_toArray, ← hlen]; exact eS
      rw [e2]
      refine ⟨.int _, H, I.kept (h' := h') (t' := tk) fun b o q => hk b o (fun hm => ?_) (Heap.get?_push_of_some _ q), ⟨_, rfl⟩, q⟩
      rw [List.mem_singleton.mp hm] at q
      exact Nat.lt_irrefl _ (Heap.lt_size q)
  · obtain ⟨its, rv, pl, hz⟩ := I.tuple hq
    have hlen : ns.length = its.length := by have := rv.length; rwa [List.length_map] at this
    have hT : s.heap.IsTuple p its.toArray := pl
    have hlt : p < s.heap.objs.size := by obtain ⟨_, e, _⟩ := hT; exact Heap.lt_size e
    refine call_sum_walk (wpAny_pyIter_tuple hT ?_)
    refine ⟨s.heap.objs.size, [s.heap.objs.size, p], [s.heap.objs.size], its.toArray.size, _, _, fun i => ns.getD i 0, rfl, Walks.tuple (A := X.A.in1) (I.ok.hd hc) _ p (Nat.ne_of_lt hlt) its.toArray,
      ⟨⟨_, Heap.get?_push_size _ rfl, rfl, rfl⟩, let ⟨o, e, r⟩ := hT; ⟨o, Heap.get?_push_of_some _ e, r⟩⟩, fun b hb' => ?_, val rv, fun j hj => fit j (by simp at hj; omega), fun h' tk t' hk => ?_⟩
    · simp only [List.mem_cons, List.not_mem_nil, or_false] at hb'
      show b < (Heap.push s.heap _).objs.size
      rw [Heap.size_push]
      rcases hb' with rfl | rfl
      · exact Nat.lt_succ_self _
      · exact Nat.lt_succ_of_lt hlt
    · have e2 : preSum (fun i => ns.getD i 0) its.toArray.size = ns.sum := by rw [List.size_toArray, ← hlen]; exact eS
      rw [e2]
      refine ⟨.int _, H, I.kept (h' := h') (t' := tk) fun b o q => hk b o (fun hm => ?_) (Heap.get?_push_of_some _ q), ⟨_, rfl⟩, q⟩
      rw [List.mem_singleton.mp hm] at q
      exact Nat.lt_irrefl _ (Heap.lt_size q)
end
end L3
namespace L3
open PySem PySem.Spec PyProof.Rows L2
section
variable {X : Cx}
theorem get_list : PGet X (fun x y H Q => ∃ (p : Addr) (xs : List V) (i : Nat) (v : V), x = .ref p ∧ y = .int (i : Int) ∧ H p = some (.lst xs) ∧ xs[i]? = some v ∧ Q v H) := by
  intro pins s σ H o i ov iv Q I r1 r2 h
  obtain ⟨p, xs, j, v, rfl, rfl, hH, hv, q⟩ := h
  cases r1
  obtain ⟨t, rfl⟩ := r2
  obtain ⟨its, r, pl, hz⟩ := I.list (SqL.of hH)
  obtain ⟨u, hu, ru⟩ := r.get hv
  have hl := r.length
  have hn := line63
  have hj : j < xs.length := (List.getElem?_eq_some_iff.mp hv).1
  exact wpAny_getItem_list pl.isList (by omega) (by omega) (by simpa using hu) ⟨v, H, I, ru, q⟩
end
def isNm (z : Str) : Prop := (∀ c ∈ z.cps.toList, 97 ≤ c ∧ c ≤ 122) ∧ 1 ≤ z.cps.toList.length ∧ z.cps.toList.length ≤ 8
theorem nm_ascii {z : Str} (h : isNm z) : z.cps.all (· < 128) = true := by
  rw [Array.all_eq_true']
  intro c hc
  have := h.1 c (by simpa using hc)
  simp; omega
def letD (c : Nat) : List Int := [((c : Int) - 97) % 16, ((c : Int) - 97) / 16]
def letDs (cs : List Nat) : List Int := cs.flatMap letD
theorem letDs_app (cs : List Nat) (c : Nat) : letDs (cs ++ [c]) = letDs cs ++ letD c := by simp [letDs]
theorem letDs_len (cs : List Nat) : (letDs cs).length = 2 * cs.length := by
  induction cs with
  | nil => rfl
  | cons c r ih => simp only [letDs, List.flatMap_cons, List.length_append, List.length_cons] at ih ⊢; rw [ih]; simp [letD]; omega
def part (ds : List Int) (j : Nat) : Nat → Int
  | 0 => 0
  | n + 1 => part ds j n + if n % 4 = j then ds.getD n 0 else 0
def sumsL (ds : List Int) (n : Nat) : List Int := [part ds 0 n, part ds 1 n, part ds 2 n, part ds 3 n]
theorem sums_step (ds : List Int) (n : Nat) : (sumsL ds n).set (n % 4) ((sumsL ds n).getD (n % 4) 0 + ds.getD n 0) = sumsL ds (n + 1) := by
  have h : n % 4 = 0 ∨ n % 4 = 1 ∨ n % 4 = 2 ∨ n % 4 = 3 := by omega
  rcases h with h | h | h | h <;> simp [sumsL, part, h]
def ownK (ds : List Int) : List Int := (sumsL ds ds.length).map (· % 16)
theorem ownK_len (ds : List Int) : (ownK ds).length = 4 := rfl
def spLetters : Sp := fun vs H Q _ => ∃ z, vs = [.str z] ∧ isNm z ∧ ∀ l H', Same H H' → H l = none → H' l = some (.lst ((letDs z.cps.toList).map V.int)) → Q (.ref l) H'
def spKeyOf (K : PySem.W.Frag) : Sp := fun vs H Q _ => ∃ (a b : Addr) (z : Str) (t ks : List Int), vs = [.ref a, .ref b, .str z] ∧ Sq K H a (t.map V.int) ∧ Sq K H b (ks.map V.int) ∧ isNm z ∧ t.length = 16 ∧
  ∀ p H', Same H H' → H p = none → H' p = some (.tup ((encK t ks (ownK (letDs z.cps.toList))).map V.int)) → Q (.ref p) H'
theorem take_cs {cs : List Nat} {i c : Nat} (h : cs[i]? = some c) : cs.take (i + 1) = cs.take i ++ [c] := by rw [List.take_add_one, h]; rfl
theorem cps_get {z : Str} {i c : Nat} (h : z.cps[i]? = some c) : z.cps.toList[i]? = some c := by simpa using h
theorem bsc2 {X : Cx} {scope : Scope} {y z : Str} {j k : Nat} (kind : scope.kind = .function) (names : ∀ x ∈ scope.names, x.2 = .local → scope.names.lookup x.1 = some .local) (nocell : ∀ x ∈ scope.names, x.2 ≠ .cell)
    (free : ∀ x ∈ scope.names, x.2 = .free → x.1 ∈ ([y, z] : List Str)) (h1 : X.N[j]? = some y) (h2 : X.env.kindOf y = some .cell) (h3 : (relabel scope X.env).names.lookup y = some .cell)
    (g1 : X.N[k]? = some z) (g2 : X.env.kindOf z = some .cell) (g3 : (relabel scope X.env).names.lookup z = some .cell) : BScope X scope [y, z] [j, k] :=
  ⟨kind, names, nocell, free, rfl, fun i j' y' e1 e2 => by
    match i with
    | 0 => cases e1; cases e2; exact ⟨h1, h2, h3⟩
    | 1 => cases e1; cases e2; exact ⟨g1, g2, g3⟩
    | i + 2 => simp at e1⟩
theorem clo2 {X : Cx} {y z : Str} {c d : Addr} (h : X.env.cells.lookup y = some c) (g : X.env.cells.lookup z = some d) : ∀ u e, ([(y, c), (z, d)] : List (Str × Addr)).lookup u = some e → X.env.cells.lookup u = some e := fun u e he => by
  by_cases hu : u = y
  · subst hu
    simp at he
    rw [← he]; exact h
  · by_cases hv : u = z
    · subst hv
      simp [List.lookup_cons, show (u == y) = false from by simpa using hu] at he
      rw [← he]; exact g
    · simp [List.lookup_cons, show (u == y) = false from by simpa using hu, show (u == z) = false from by simpa using hv] at he
end L3
namespace L3
open PySem PySem.Spec PyProof.Rows L2
open Sem (wp)
section
variable {prog : Program} {w : World} {A : Around} {E : Value → Shared → Prop} {s : Shared}
end
section
variable {X : Cx} {pos : Pos}
end
end L3
namespace L3
open PySem PySem.Spec PyProof.Rows L2
open Sem (wp)
namespace RV
end RV
section
variable {prog : Program} {w : World} {A : Around} {E : Value → Shared → Prop} {s : Shared}
end
section
variable {X : Cx}
end
end L3
namespace L3
open PySem PySem.Spec PyProof.Rows L2
def fourI (c d : Int) : List Int := [c % 16, c / 16 % 16, c / 256, d]
def fiveI (c d : Int) : List Int := fourI c d ++ [(fourI c d).sum % 16]
def keyZ (t ks : List Int) (z : Str) : List Int := encK t ks (ownK (letDs z.cps.toList))
def codeI (t ks : List Int) (z : Str) (c d : Int) : List Int := encK t (keyZ t ks z) (fiveI c d)
theorem five_len (c d : Int) : (fiveI c d).length = 5 := rfl
theorem five_dig {c d : Int} (h0 : 0 ≤ c) (h1 : c < 4096) (hd : dig d) : digR (fiveI c d) := fun x hx => by
  simp only [fiveI, fourI, List.cons_append, List.nil_append, List.mem_cons, List.not_mem_nil, or_false] at hx
  rcases hx with rfl | rfl | rfl | rfl | rfl
  · exact dig_mod _
  · exact dig_mod _
  · exact ⟨by omega, by omega⟩
  · exact hd
  · exact dig_mod _
def spCD : Sp := fun vs H Q _ => ∃ c : Int, vs = [.int c] ∧ ∀ p H', Same H H' → H' p = some (.tup [.int (c % 16), .int (c / 16 % 16), .int (c / 256)]) → Q (.ref p) H'
def spPress (K : PySem.W.Frag) : Sp := fun vs H Q _ => ∃ (a b : Addr) (z : Str) (age c d : Int) (t ks : List Int), vs = [.ref a, .ref b, .str z, .int age, .int c, .int d] ∧ Sq K H a (t.map V.int) ∧ Sq K H b (ks.map V.int) ∧ isNm z ∧ t.length = 16 ∧ 0 ≤ c ∧ c < 4096 ∧ dig d ∧
  ∀ p pc H', Same H H' → H' p = some (.tup [.str z, .int age, .ref pc]) → H' pc = some (.tup ((codeI t ks z c d).map V.int)) → Q (.ref p) H'
theorem qs_par {X : Cx} {pos : Pos} {i j : Nat} {x y : Str} {a b : Expr} {ta : TA} {px py pt : Pos} {kt k2 pt2} (hc : X.calm = true) (hN : X.N.Nodup) (hi : X.N[i]? = some x) (hj : X.N[j]? = some y) (hij : i ≠ j)
    (hx : X.env.scope.names.lookup x = some .local) (hy : X.env.scope.names.lookup y = some .local) (ha : QA X [a, b] ta)
    (hw : swappedStores [.Tuple [.Name x px, .Name y py] kt pt] (.Tuple [a, b] k2 pt2) X.env = pure (some [x, y]) := by rfl)
    (hs : swapsWithSole [.Tuple [.Name x px, .Name y py] kt pt] (.Tuple [a, b] k2 pt2) pos.line X.env = pure false := by rfl) :
    QS X (.Assign [.Tuple [.Name x px, .Name y py] kt pt] (.Tuple [a, b] k2 pt2) pos) (tPar i j ta) := ⟨ps_par hc hN hi hj hij hx hy ha.h hw hs⟩
end L3
namespace L2
open PySem PySem.Spec PyProof.Rows
section
variable {κ : Type} [DecidableEq κ]
def valV (kvs : List (κ × V)) (k : κ) : Option V := (kvs.find? fun kv => decide (kv.1 = k)).map (·.2)
def putK (kvs : List (κ × V)) (k : κ) (v : V) : List (κ × V) :=
  if (kvs.any fun kv => decide (kv.1 = k)) = true then kvs.map (fun kv => if kv.1 = k then (kv.1, v) else kv) else kvs ++ [(k, v)]
theorem valV_pos {p : κ × V} {r : List (κ × V)} {k : κ} (e : p.1 = k) : valV (p :: r) k = some p.2 := by simp [valV, List.find?_cons, e]
theorem valV_neg {p : κ × V} {r : List (κ × V)} {k : κ} (e : ¬ p.1 = k) : valV (p :: r) k = valV r k := by simp [valV, List.find?_cons, e]
theorem valV_any (k : κ) : ∀ kvs : List (κ × V), (kvs.any fun kv => decide (kv.1 = k)) = (valV kvs k).isSome
  | [] => rfl
  | p :: r => by
    rw [List.any_cons]
    by_cases e : p.1 = k
    · simp only [valV_pos e, decide_eq_true e, Bool.true_or, Option.isSome_some]
    · rw [valV_neg e, decide_eq_false e, Bool.false_or]; exact valV_any k r
theorem length_putK (kvs : List (κ × V)) (k : κ) (v : V) : (putK kvs k v).length ≤ kvs.length + 1 := by
  unfold putK
  split
  · rw [List.length_map]; omega
  · rw [List.length_append, List.length_cons, List.length_nil]; omega
theorem RelO.isSome_eq {o : Option V} {u : Option Value} (r : RelO o u) : o.isSome = u.isSome := by
  cases o with
  | none => cases u with
    | none => rfl
    | some _ => exact (show False from r).elim
  | some _ => cases u with
    | none => exact (show False from r).elim
    | some _ => rfl
theorem KV.val {kvs : List (κ × V)} {vs : List (κ × Value)} (r : KV kvs vs) (k : κ) : RelO (valV kvs k) (valueAt vs k) := by
  unfold KV at r
  induction r with
  | nil => exact True.intro
  | @cons p q ps qs h t ih =>
    obtain ⟨h1, h2⟩ := h
    by_cases e : p.1 = k
    · have e' : q.1 = k := h1.symm.trans e
      have b : valueAt (q :: qs) k = some q.2 := by simp [valueAt, List.find?_cons, e']
      rw [valV_pos e, b]; exact h2
    · have e' : ¬ q.1 = k := fun z => e (h1.trans z)
      have b : valueAt (q :: qs) k = valueAt qs k := by simp [valueAt, List.find?_cons, e']
      rw [valV_neg e, b]; exact ih
theorem KV.any {kvs : List (κ × V)} {vs : List (κ × Value)} (r : KV kvs vs) (k : κ) : (kvs.any fun kv => decide (kv.1 = k)) = vs.any fun kv => decide (kv.1 = k) := by
  unfold KV at r
  induction r with
  | nil => rfl
  | cons h t ih => rw [List.any_cons, List.any_cons, ih, h.1]
theorem KV.repl {kvs : List (κ × V)} {vs : List (κ × Value)} (r : KV kvs vs) (k : κ) {y : V} {u : Value} (ry : RelV y u) :
    KV (kvs.map fun kv => if kv.1 = k then (kv.1, y) else kv) (vs.map fun kv => if kv.1 = k then (kv.1, u) else kv) := by
  unfold KV at r ⊢
  induction r with
  | nil => exact .nil
  | @cons p q ps qs h t ih =>
    rw [List.map_cons, List.map_cons]
    refine .cons ?_ ih
    obtain ⟨h1, h2⟩ := h
    by_cases e : p.1 = k
    · rw [if_pos e, if_pos (h1.symm.trans e)]; exact ⟨h1, ry⟩
    · rw [if_neg e, if_neg (fun z => e (h1.trans z))]; exact ⟨h1, h2⟩
theorem KV.put {kvs : List (κ × V)} {vs : List (κ × Value)} (r : KV kvs vs) (k : κ) {y : V} {u : Value} (ry : RelV y u) : KV (putK kvs k y) (stored vs k u) := by
  unfold putK stored
  rw [r.any k]
  by_cases e : (vs.any fun kv => decide (kv.1 = k)) = true
  · rw [if_pos e, if_pos e]; exact r.repl k ry
  · rw [if_neg e, if_neg e]; exact Paired.snoc r ⟨rfl, ry⟩
theorem KV.length {kvs : List (κ × V)} {vs : List (κ × Value)} (r : KV kvs vs) : kvs.length = vs.length := Paired.length r
end
theorem kV_is {P : Program} {w : World} {k : Key} {u : Value} (r : RelV (kV k) u) : (mixKind P w).is k u = true := by
  cases k with
  | inl i => obtain ⟨t, e⟩ := (show ∃ t, u = Value.int i t from r); subst e; exact mixKind_int P w i t
  | inr x => obtain ⟨t, e⟩ := (show ∃ t, u = Value.str x t from r); subst e; exact mixKind_str P w x t
theorem items_are {P : Program} {w : World} : ∀ {ks : List Key} {us : List Value}, Vals (ks.map kV) us → ItemsAre (mixKind P w) ks us
  | [], _, r => by rw [List.map_nil] at r; cases r; exact .nil
  | k :: ks, _, r => by
    rw [List.map_cons] at r
    cases r with
    | cons h t => exact .cons (kV_is h) (items_are t)
abbrev KT (H : Hp) : List (List Key × V) → List (List Key × Addr × Value) → Prop := Paired fun p q => p.1 = q.1 ∧ H q.2.1 = some (.tup (p.1.map kV)) ∧ RelV p.2 q.2.2
theorem KT.val {H : Hp} {kvs : List (List Key × V)} {xs : List (List Key × Addr × Value)} (r : KT H kvs xs) (k : List Key) : RelO (valV kvs k) ((atKey xs k).map (·.2)) := by
  induction r with
  | nil => exact True.intro
  | @cons p q ps qs h t ih =>
    obtain ⟨h1, _, h2⟩ := h
    by_cases e : p.1 = k
    · have e' : q.1 = k := h1.symm.trans e
      have b : atKey (q :: qs) k = some q.2 := by simp [atKey, List.find?_cons, e']
      rw [valV_pos e, b]; exact h2
    · have e' : ¬ q.1 = k := fun z => e (h1.trans z)
      have b : atKey (q :: qs) k = atKey qs k := by simp [atKey, List.find?_cons, e']
      rw [valV_neg e, b]; exact ih
theorem KT.repl {H : Hp} {kvs : List (List Key × V)} {xs : List (List Key × Addr × Value)} (r : KT H kvs xs) (k : List Key) {y : V} {u : Value} (ry : RelV y u) :
    KT H (kvs.map fun kv => if kv.1 = k then (kv.1, y) else kv) (xs.map (putAt k u)) := by
  induction r with
  | nil => exact .nil
  | @cons p q ps qs h t ih =>
    rw [List.map_cons, List.map_cons]
    refine .cons ?_ ih
    obtain ⟨h1, h2, h3⟩ := h
    unfold putAt
    by_cases e : p.1 = k
    · rw [if_pos e, if_pos (h1.symm.trans e)]; exact ⟨h1, h2, ry⟩
    · rw [if_neg e, if_neg (fun z => e (h1.trans z))]; exact ⟨h1, h2, h3⟩
theorem KT.put {H : Hp} {kvs : List (List Key × V)} {xs : List (List Key × Addr × Value)} (r : KT H kvs xs) (k : List Key) {b : Addr} {y : V} {u : Value} (hb : H b = some (.tup (k.map kV))) (ry : RelV y u) :
    KT H (putK kvs k y) (storedH xs k b u) := by
  have e : (kvs.any fun kv => decide (kv.1 = k)) = (atKey xs k).isSome := by
    rw [valV_any, (r.val k).isSome_eq, Option.isSome_map]
  unfold putK storedH
  rw [e]
  by_cases q : (atKey xs k).isSome = true
  · rw [if_pos q, if_pos q]; exact r.repl k ry
  · rw [if_neg q, if_neg q]; exact Paired.snoc r ⟨rfl, hb, ry⟩
theorem KT.keeps {H H' : Hp} {kvs : List (List Key × V)} {xs : List (List Key × Addr × Value)} (r : KT H kvs xs) (ht : ∀ b ys, H b = some (.tup ys) → H' b = some (.tup ys)) : KT H' kvs xs :=
  Paired.mapP r fun _ _ z => ⟨z.1, ht _ _ z.2.1, z.2.2⟩
section
variable {P : Program} {w : World} {H : Hp} {h : Heap} {a : Addr}
theorem rd_of {u : HO} (ok : HOk P w H h) (e : Rd H a u) : ObjOk P w H h a u := e.ok ok
theorem dk_rd {kvs : List (Key × V)} (ok : HOk P w H h) (e : Rd H a (.dK kvs)) : kvs.length ≤ sizeLine ∧ (a == sysModules) = false ∧ ∃ vs, KV kvs vs ∧ h.DictOf (mixKind P w) a vs :=
  show ObjOk P w H h a (.dK kvs) from rd_of ok e
theorem dk_of {kvs : List (Key × V)} (ok : HOk P w H h) (e : H a = some (.dK kvs)) : kvs.length ≤ sizeLine ∧ (a == sysModules) = false ∧ ∃ vs, KV kvs vs ∧ h.DictOf (mixKind P w) a vs := dk_rd ok (.inl e)
theorem key_of {ks : List Key} (ok : HOk P w H h) (e : H a = some (.tup (ks.map kV))) : (tupleKind (mixKind P w)).is h ks a := by
  obtain ⟨_, its, r, o, h1, h2, n, h3⟩ := (show ObjOk P w H h a (.tup (ks.map kV)) from ok a _ e)
  exact ⟨o, its.toArray, n, h1, h2, h3, by simpa using items_are r⟩
theorem dt_rd {kvs : List (List Key × V)} (ok : HOk P w H h) (e : Rd H a (.dT kvs)) : kvs.length ≤ sizeLine ∧ (a == sysModules) = false ∧
    ∃ xs, KT H kvs xs ∧ h.DictOfH (tupleKind (mixKind P w)) a xs := by
  obtain ⟨z, y, xs, r, o, es, ep, h1, h2, h3, h4, h5⟩ := (show ObjOk P w H h a (.dT kvs) from rd_of ok e)
  refine ⟨z, y, xs, r, o, es, ep, h1, h2, h3, h4, fun x hx => ?_, h5⟩
  have all : ∀ {l : List (List Key × V)} {m : List (List Key × Addr × Value)}, KT H l m → ∀ x ∈ m, (tupleKind (mixKind P w)).is h x.1 x.2.1 := by
    intro l m q
    induction q with
    | nil => intro x hx; exact nomatch hx
    | @cons p q ps qs hq t ih =>
      intro x hx
      rcases List.mem_cons.mp hx with e | hx
      · subst e
        exact key_of ok (by rw [← hq.1]; exact hq.2.1)
      · exact ih x hx
  exact all r x hx
theorem dt_of {kvs : List (List Key × V)} (ok : HOk P w H h) (e : H a = some (.dT kvs)) : kvs.length ≤ sizeLine ∧ (a == sysModules) = false ∧
    ∃ xs, KT H kvs xs ∧ h.DictOfH (tupleKind (mixKind P w)) a xs := dt_rd ok (.inl e)
end
def DGet (H : Hp) (a : Addr) (y : V) (r : Option V) : Prop :=
  (∃ kvs k, Rd H a (.dK kvs) ∧ y = kV k ∧ r = valV kvs k) ∨ ∃ kvs k b, Rd H a (.dT kvs) ∧ y = .ref b ∧ H b = some (.tup (k.map kV)) ∧ r = valV kvs k
def DPut (H : Hp) (a : Addr) (y v : V) (H' : Hp) : Prop :=
  (∃ kvs k, H a = some (.dK kvs) ∧ y = kV k ∧ kvs.length < sizeLine ∧ H' = upd H a (.dK (putK kvs k v))) ∨
  ∃ kvs k b, H a = some (.dT kvs) ∧ y = .ref b ∧ H b = some (.tup (k.map kV)) ∧ kvs.length < sizeLine ∧ H' = upd H a (.dT (putK kvs k v))
theorem DGet.k {H : Hp} {a : Addr} {kvs : List (Key × V)} {k : Key} (e : H a = some (.dK kvs)) : DGet H a (kV k) (valV kvs k) := .inl ⟨kvs, k, .inl e, rfl, rfl⟩
theorem DPut.k {H : Hp} {a : Addr} {kvs : List (Key × V)} {k : Key} {v : V} (e : H a = some (.dK kvs)) (hl : kvs.length < sizeLine) : DPut H a (kV k) v (upd H a (.dK (putK kvs k v))) := .inl ⟨kvs, k, e, rfl, hl, rfl⟩
section
variable {X : Cx} {pins : List (Addr × Obj)} {σ : St} {H : Hp} {s : Shared} {a : Addr} {y v : V} {u r : Value} {o : Option V} {A : Around} {E : Value → Shared → Prop}
theorem Inv.big (I : Inv X pins σ H s) : sysModules < s.heap.objs.size := by
  have h : mainGlobals < s.heap.objs.size := (I.mod.glob.keeps I.bk).lt
  exact Nat.lt_trans (by decide) h
theorem d_getItem {Q : Value → Shared → Prop} (hu : A.units + 1 < cLine) (I : Inv X pins σ H s) (g : DGet H a y (some v)) (ry : RelV y u) (h : ∀ w' s', Inv X pins σ H s' → RelV v w' → Q w' s') :
    wpAny (model X.prog X.w) A (getItem (.ref a) u) Q E s := by
  rcases g with ⟨kvs, k, e, ey, l⟩ | ⟨kvs, k, b, e, ey, eb, l⟩
  · subst ey
    obtain ⟨z, hd, vs, rel, dd⟩ := dk_rd I.hok e
    obtain ⟨w', hw, rw'⟩ := RelO.some_of (v := v) (o := valueAt vs k) (by rw [l]; exact rel.val k)
    exact wpAny_getItem_of (kV_is ry) dd.mapOf hw (h w' _ (I.tok _) rw')
  · subst ey
    cases (show u = Value.ref b from ry)
    obtain ⟨z, hd, xs, rel, dd⟩ := dt_rd I.hok e
    obtain ⟨w', hw, rw'⟩ := RelO.some_of (v := v) (o := (atKey xs k).map (·.2)) (by rw [l]; exact rel.val k)
    obtain ⟨p, hp, hp2⟩ := Option.map_eq_some_iff.mp hw
    refine wpAny_getItem_heap (tupleKind_room_in1 hu) (key_of I.hok eb) dd hp ?_
    rw [hp2]
    exact h w' _ (I.tok _) rw'
theorem d_write {h' : Heap} {t' : Nat} {ob : HO} (I : Inv X pins σ H s) (mu : Mut (H a)) (hs : Heap.SameBut a s.heap h') (he : ∃ q, h'.get? a = some q) (new : ObjOk X.prog X.w (upd H a ob) h' a ob) :
    Inv X pins σ (upd H a ob) { s with heap := h', toks := t' } :=
  I.write (x := a) (e := a) mu (.inl rfl) (fun b q hb z => (hs.2 b hb).trans z) he new
theorem dk_new {P : Program} {w : World} {H' : Hp} {h' : Heap} {kvs : List (Key × V)} {vs : List (Key × Value)} (z : kvs.length ≤ sizeLine) (hd : (a == sysModules) = false) (rel : KV kvs vs) (dd : h'.DictOf (mixKind P w) a vs) :
    ObjOk P w H' h' a (.dK kvs) := ⟨z, hd, vs, rel, dd⟩
theorem d_setItem {H' : Hp} {Q : Unit → Shared → Prop} (hu : A.units + 1 < cLine) (I : Inv X pins σ H s) (g : DPut H a y v H') (ry : RelV y u) (rv : RelV v r) (h : ∀ s', Inv X pins σ H' s' → Q () s') :
    wpAny (model X.prog X.w) A (setItem (.ref a) u r) Q E s := by
  rcases g with ⟨kvs, k, e, ey, l, eH⟩ | ⟨kvs, k, b, e, ey, eb, l, eH⟩
  · subst ey eH
    obtain ⟨z, hd, vs, rel, dd⟩ := dk_of I.hok e
    have hz : vs.length ≤ sizeLine := by rw [← rel.length]; exact z
    have hl : (putK kvs k v).length ≤ sizeLine := by have := length_putK kvs k v; omega
    refine wpAny_setItem_pairs (hsz := hz) (kV_is ry) dd fun h' dd' hs => h _ ?_
    have he : ∃ q, h'.get? a = some q := let ⟨q, _, _, hq, _⟩ := dd'; ⟨q, hq⟩
    exact d_write I (by rw [e]; exact True.intro) hs he (dk_new hl hd (rel.put k rv) dd')
  · subst ey eH
    cases (show u = Value.ref b from ry)
    obtain ⟨z, hd, xs, rel, dd⟩ := dt_of I.hok e
    have hz : xs.length ≤ sizeLine := by rw [← Paired.length rel]; exact z
    have hl : (putK kvs k v).length ≤ sizeLine := by have := length_putK kvs k v; omega
    refine wpAny_setItem_heap (hsz := hz) (tupleKind_room_in1 hu) (key_of I.hok eb) dd fun h' dd' hs => h _ ?_
    obtain ⟨q, es, ep, hq, h2, h3, h4, _, h5⟩ := dd'
    refine d_write I (by rw [e]; exact True.intro) hs ⟨q, hq⟩ ⟨hl, hd, _, (rel.put k eb rv).keeps fun c ys ec => ?_, q, es, ep, hq, h2, h3, h4, h5⟩
    rw [upd_ne (ne_of ec e (fun z => nomatch z))]
    exact ec
end
section
variable {X : Cx} {pins : List (Addr × Obj)} {σ : St} {H : Hp} {s : Shared} {a : Addr} {kvs : List (Key × V)} {k : Key} {u : Value} {A : Around} {E : Value → Shared → Prop}
end
def NoSl (i : Expr) : Prop := ∀ ov iv, subscripted i false ov iv = operate [ov, iv] (getItem ov iv)
theorem subD_of {prog : Program} {w : World} {A : Around} {E : Value → Shared → Prop} {s : Shared} {env : Env} {value slice : Expr} {pos : Pos} {T id : String} {Q : Value → Shared → Prop}
    (hl : typeLookup (.type T) "__getitem__" = pure (some (.builtin id))) (hs : NoSl slice)
    (h : wpAny (model prog w) A (eval value env) (fun o s₁ => wpAny (model prog w) A (eval slice env) (fun i s₂ => s₂.TypeIs o T ∧ wpAny (model prog w) A (getItem o i) Q E s₂) E s₁) E s) :
    wpAny (model prog w) A (eval (.Subscript value slice pos) env) Q E s := by
  refine Subscript_ (wpAny_mono h (fun o s₁ h₁ => wpAny_mono h₁ (fun i s₂ h₂ => ?_) fun _ _ x => x) fun _ _ x => x)
  obtain ⟨hT, h₂⟩ := h₂
  unfold subscriptTail
  refine wpAny_bind ?_
  rw [getitemInPython_of_ne hT.not_modules]
  refine wpAny_bind (wpAny_specialOf hT hl ?_)
  have fin : wpAny (model prog w) A (subscripted slice false o i) (fun r s₃ => wpAny (model prog w) A (letTemporaryGo value o r >>= fun _ => pure r) Q E s₃) E s₂ := by
    rw [hs o i]
    exact wpAny_operating (wpAny_mono h₂ (fun r s₃ h₃ => wpAny_bind (wpAny_letTemporaryGo (wpAny_pure h₃))) fun _ _ x => x)
  first
    | exact wpAny_pure (wpAny_bind fin)
    | exact wpAny_bind (wpAny_pure (wpAny_bind fin))
    | exact wpAny_bind fin
theorem dict_typeIs {X : Cx} {pins : List (Addr × Obj)} {σ : St} {H : Hp} {s : Shared} {a : Addr} {y : V} {o : Option V} (I : Inv X pins σ H s) (g : DGet H a y o) : s.TypeIs (.ref a) "dict" := by
  rcases g with ⟨kvs, k, e, _, _⟩ | ⟨kvs, k, b, e, _, _, _⟩
  · obtain ⟨_, _, vs, _, dd⟩ := dk_rd I.hok e
    exact dd.typeIs
  · obtain ⟨_, _, xs, _, dd⟩ := dt_rd I.hok e
    exact dd.typeIs
def tDGet (td ty : TE) : TE := fun σ H Q => td σ H fun x H1 => ty σ H1 fun y H2 => ∃ a v, x = .ref a ∧ DGet H2 a y (some v) ∧ Q v H2
def sDPut (td ty tv : TE) : TS := fun D σ H => tv σ H fun v H1 => td σ H1 fun x H2 => ty σ H2 fun y H3 => ∃ a H4, x = .ref a ∧ DPut H3 a y v H4 ∧ D.nx σ H4
section
variable {X : Cx} {o i e value : Expr} {pos pos' tpos : Pos} {td ty tv : TE}
theorem pe_dget (hu : X.A.units + 1 < cLine) (ho : PE X o td) (hi : PE X i ty) (hs : NoSl i) : PE X (.Subscript o i pos) (tDGet td ty) := by
  intro pins s σ H Q I h
  refine subD_of PySem.F.slot_dict_getitem.lookup hs (thn (ho pins s σ H _ I h) fun u s1 ⟨x, H1, I1, rx, q1⟩ => thn (hi pins s1 σ H1 _ I1 q1) fun iv s2 ⟨y, H2, I2, ry, a, v, ex, g, q2⟩ => ?_)
  subst ex
  obtain rfl : u = Value.ref a := rx
  exact ⟨dict_typeIs I2 g, d_getItem hu I2 g ry fun w' s3 I3 rw' => ⟨v, H2, I3, rw', q2⟩⟩
theorem ps_dput (hu : X.A.units + 1 < cLine) (ho : PE X o td) (hi : PE X i ty) (hv : PE X value tv) (hs : swapsWith value (some (.Subscript o i pos')) pos.line X.env = pure false) :
    PS X (.Assign [.Subscript o i pos'] value pos) (sDPut td ty tv) := by
  intro pins s σ H D I h
  refine wpAny_Assign_Subscript (thn (hv pins s σ H _ I h) fun r s1 ⟨v, H1, I1, rv, q1⟩ => thn (ho pins s1 σ H1 _ I1 q1) fun u s2 ⟨x, H2, I2, rx, q2⟩ => thn (hi pins s2 σ H2 _ I2 q2) fun iv s3 ⟨y, H3, I3, ry, a, H4, ex, g, q3⟩ => ?_) hs
  subst ex
  obtain rfl : u = Value.ref a := rx
  exact d_setItem hu I3 g ry rv fun s4 I4 => ⟨σ, H4, I4, q3⟩
end
theorem dk_empty {P : Program} {w : World} {H : Hp} (h : Heap) (hb : sysModules < h.objs.size) : ObjOk P w H (h.push { cls := .type "dict", data := .dict #[] }) h.objs.size (.dK []) :=
  ⟨Nat.zero_le _, beq_eq_false_iff_ne.mpr (Ne.symm (Nat.ne_of_lt hb)), [], .nil, Heap.DictOf.new h⟩
section
variable {X : Cx} {pos : Pos}
end
end L2
namespace L2
open PySem PySem.Spec PyProof.Rows
def tPairs : List (TE × TE) → St → Hp → (List (V × V) → Hp → Prop) → Prop
  | [], _, H, Q => Q [] H
  | (tk, tv) :: r, σ, H, Q => tk σ H fun x H1 => tv σ H1 fun y H2 => tPairs r σ H2 fun ps H3 => Q ((x, y) :: ps) H3
abbrev VV : List (V × V) → List (Value × Value) → Prop := Paired fun p q => RelV p.1 q.1 ∧ RelV p.2 q.2
def PPs (X : Cx) (pos : Pos) (keys : List (Option Expr)) (values : List Expr) (trs : List (TE × TE)) : Prop :=
  ∀ (pins : List (Addr × Obj)) (s : Shared) (σ : St) (H : Hp) (Q : List (V × V) → Hp → Prop), Inv X pins σ H s → tPairs trs σ H Q →
    wpAny (model X.prog X.w) X.A (evalPairs (pairTrees keys values X.env pos)) (fun vs s' => ∃ ps H', Inv X pins σ H' s' ∧ VV ps vs ∧ Q ps H') X.xe s
theorem pps_nil {X : Cx} {pos : Pos} : PPs X pos [] [] [] := fun pins s σ H Q I h => pairTrees_nil_walk ⟨[], H, I, .nil, h⟩
theorem pps_cons {X : Cx} {pos : Pos} {k v : Expr} {ks : List (Option Expr)} {vs : List Expr} {tk tv : TE} {trs : List (TE × TE)} (hk : PE X k tk) (hv : PE X v tv) (hr : PPs X pos ks vs trs) :
    PPs X pos (some k :: ks) (v :: vs) ((tk, tv) :: trs) := fun pins s σ H Q I h =>
  pairTrees_cons_walk (thn (hk pins s σ H _ I h) fun u s1 ⟨x, H1, I1, rx, q1⟩ => thn (hv pins s1 σ H1 _ I1 q1) fun w2 s2 ⟨y, H2, I2, ry, q2⟩ =>
    thn (hr pins s2 σ H2 _ I2 q2) fun ws s3 ⟨ps, H3, I3, rel, q3⟩ => ⟨(x, y) :: ps, H3, I3, .cons ⟨rx, ry⟩ rel, q3⟩)
def mergeK (kvs more : List (Key × V)) : List (Key × V) := more.foldl (fun acc kv => putK acc kv.1 kv.2) kvs
theorem KV.merge : ∀ {more : List (Key × V)} {rs : List (Key × Value)} {kvs : List (Key × V)} {vs : List (Key × Value)}, KV more rs → KV kvs vs → KV (mergeK kvs more) (merged vs rs) := by
  intro more rs kvs vs r
  unfold KV at r
  induction r generalizing kvs vs with
  | nil => intro q; exact q
  | @cons p q ps qs h t ih =>
    intro r0
    have e : KV (putK kvs p.1 p.2) (stored vs q.1 q.2) := by
      have := r0.put p.1 h.2
      rw [← h.1]; exact this
    exact ih e
theorem length_mergeK : ∀ (more kvs : List (Key × V)), (mergeK kvs more).length ≤ kvs.length + more.length
  | [], kvs => by show kvs.length ≤ kvs.length + 0; omega
  | p :: r, kvs => by
    have h1 := length_mergeK r (putK kvs p.1 p.2)
    have h2 := length_putK kvs p.1 p.2
    show (mergeK (putK kvs p.1 p.2) r).length ≤ _
    rw [List.length_cons]; omega
theorem carries_of {P : Program} {w : World} : ∀ {kvs : List (Key × V)} {ws : List (Value × Value)}, VV (kvs.map fun kv => (kV kv.1, kv.2)) ws → ∃ rs, Carries (mixKind P w) ws rs ∧ KV kvs rs
  | [], _, r => by rw [List.map_nil] at r; cases r; exact ⟨[], True.intro, .nil⟩
  | p :: kvs, _, r => by
    rw [List.map_cons] at r
    cases r with
    | @cons a b as bs h t =>
      obtain ⟨rs, c, q⟩ := carries_of (P := P) (w := w) t
      obtain ⟨b1, b2⟩ := b
      exact ⟨(p.1, b2) :: rs, ⟨kV_is h.1, rfl, c⟩, .cons ⟨rfl, h.2⟩ q⟩
def tDisp (trs : List (TE × TE)) : TE := fun σ H Q => ∀ p, H p = none → tPairs trs σ (upd H p (.dK [])) fun ps H2 => H2 p = some (.dK []) ∧ ∃ kvs : List (Key × V), ps = kvs.map (fun kv => (kV kv.1, kv.2)) ∧ kvs.length ≤ 15 ∧ Q (.ref p) (upd H2 p (.dK (mergeK [] kvs)))
theorem pe_disp {X : Cx} {pos : Pos} {keys : List (Option Expr)} {values : List Expr} {trs : List (TE × TE)} (h : PPs X pos keys values trs) (hall : keys.all (·.isSome) = true) (hl : keys.length = values.length) (h0 : keys ≠ [])
    (h15 : keys.length ≤ 15) : PE X (.Dict keys values pos) (tDisp trs) := by
  intro pins s σ H Q I q
  have hn := I.hok.fresh (Nat.le_refl s.heap.objs.size)
  have I1 := I.laid (a := s.heap.objs.size) (o := .dK []) (h' := s.heap.push { cls := .type "dict", data := .dict #[] }) (t' := s.toks) (fun _ _ q => Heap.get?_push_of_some _ q) (Nat.le_refl _) (dk_empty s.heap I.big)
  refine wpAny_Dict_walk (knd := mixKind X.prog X.w) hall hl h0 h15 (thn (h pins _ σ _ _ I1 (q _ hn)) fun ws s2 ⟨ps, H2, I2, rel, e, kvs, ep, lk, q2⟩ => ?_)
  subst ep
  obtain ⟨rs, c, rk⟩ := carries_of (P := X.prog) (w := X.w) rel
  obtain ⟨z, hd, vs0, r0, dd⟩ := dk_of I2.hok e
  cases r0
  refine ⟨rs, c, dd, fun h' dd' hs => ⟨.ref s.heap.objs.size, _, ?_, rfl, q2⟩⟩
  have hz : (mergeK [] kvs).length ≤ sizeLine := by
    have h1 := length_mergeK kvs []
    rw [List.length_nil] at h1
    rw [sizeLine_eq]; omega
  have he : ∃ q, h'.get? s.heap.objs.size = some q := let ⟨q, _, _, hq, _⟩ := dd'; ⟨q, hq⟩
  exact d_write I2 (by rw [e]; exact True.intro) hs he (dk_new hz hd (rk.merge .nil) dd')
end L2
namespace L2
open PySem PySem.Spec PyProof.Rows
section
variable {X : Cx} {pins : List (Addr × Obj)} {σ : St} {H : Hp} {s : Shared} {a : Addr} {y d : V} {u r : Value} {o : Option V} {A : Around} {E : Value → Shared → Prop}
end
section
variable {X : Cx} {o e f : Expr} {apos cpos : Pos} {td ty tx : TE}
end
section
variable {X : Cx}
end
end L2
namespace L2
open PySem PySem.Spec PyProof.Rows
section
variable {X : Cx} {pins : List (Addr × Obj)} {σ : St} {H : Hp} {s : Shared} {a : Addr} {kvs : List (Key × V)} {A : Around} {E : Value → Shared → Prop}
end
end L2
namespace L2
open PySem PySem.Spec PyProof.Rows
section
variable {X : Cx} {o e f : Expr} {apos cpos : Pos} {td ty tx : TE}
end
end L2
namespace L3
open PySem PySem.Spec PyProof.Rows L2
def HasF (K : PySem.W.Frag) (H : Hp) (a : Addr) (f : Str) (v : V) : Prop := ∃ C dx fs, H a = some (.ins C dx fs) ∧ Cls K C ∧ NoAttr K C f ∧ fs.lookup f = some v
def PutF (K : PySem.W.Frag) (H : Hp) (a : Addr) (f : Str) (v : V) (H' : Hp) : Prop := ∃ C dx fs, H a = some (.ins C dx fs) ∧ Cls K C ∧ NoAttr K C f ∧ fs.length < 1000 ∧ H' = upd H a (.ins C dx (putF f v fs))
def NoF (C : Addr) (H : Hp) (a : Addr) (m : Str) : Prop := ∃ dx fs, H a = some (.ins C dx fs) ∧ fs.lookup m = none
def tFldA (K : PySem.W.Frag) (ta : TE) (f : Str) : TE := fun σ H Q => ta σ H fun x H1 => ∃ a v, x = .ref a ∧ HasF K H1 a f v ∧ Q v H1
def sFldA (K : PySem.W.Frag) (ta tv : TE) (f : Str) : TS := fun D σ H => tv σ H fun y H1 => ta σ H1 fun x H2 => ∃ a H3, x = .ref a ∧ PutF K H2 a f y H3 ∧ D.nx σ H3
def sFldAugA (K : PySem.W.Frag) (ta tv : TE) (rd : V → V → Hp → VK → Prop) (f : Str) : TS := fun D σ H => ta σ H fun x H1 => ∃ a v, x = .ref a ∧ HasF K H1 a f v ∧
  tv σ H1 fun y H2 => rd v y H2 fun z H3 => (∀ o, H1 a = some o → H3 a = some o) ∧ ∃ H4, PutF K H3 a f z H4 ∧ D.nx σ H4
def tMethA (C : Addr) (m : Str) (sp : Sp) (ta : TE) (t : TA) : TE := fun σ H Q => ta σ H fun x H1 => ∃ a, x = .ref a ∧ NoF C H1 a m ∧ t σ H1 fun vs H2 => sp (x :: (vs ++ [])) H2 Q E0
section
variable {X : Cx} {o e value : Expr} {f : Str} {pos pos' tpos : Pos} {ta tv : TE}
theorem qe_fld (he : QE X e ta) (hb : attributeBase e f X.env (eval e X.env) = eval e X.env := by rfl) : QE X (.Attribute e f pos) (tFldA X.K ta f) := ⟨by
  intro pins s σ H Q I h
  refine attr_of hb (thn (he.h pins s σ H _ I h) fun u s1 ⟨x, H1, I1, rx, a, v, ex, ⟨C, dx, fs, ea, c, n, l⟩, q⟩ => ?_)
  subst ex
  obtain rfl : u = Value.ref a := rx
  exact getattr_ok I1 ea c n l fun u' s2 I2 ru => ⟨v, H1, I2, ru, q⟩⟩
theorem qs_fld (ha : QE X o ta) (hv : QE X value tv) (hs : swapsWith value (some (.Attribute o f pos')) pos.line X.env = pure false := by rfl) : QS X (.Assign [.Attribute o f pos'] value pos) (sFldA X.K ta tv f) := ⟨by
  intro pins s σ H D I h
  refine plainObj_wpAny_Assign_Attribute (thn (hv.h pins s σ H _ I h) fun u s1 ⟨y, H1, I1, ry, q⟩ => thn (ha.h pins s1 σ H1 _ I1 q) fun ov s2 ⟨x, H2, I2, rx, a, H3, ex, ⟨C, dx, fs, ea, c, n, l, e3⟩, q2⟩ => ?_) hs
  subst ex e3
  obtain rfl : ov = Value.ref a := rx
  exact setattr_ok I2 ea c n l ry fun s3 I3 => ⟨σ, _, I3, q2⟩⟩
theorem qs_fldaug {op : Operator} {rd : V → V → Hp → VK → Prop} (hop : InOp X op rd) (ha : QE X o ta) (hv : QE X value tv) : QS X (.AugAssign (.Attribute o f tpos) op value pos) (sFldAugA X.K ta tv rd f) := ⟨by
  intro pins s σ H D I h
  refine wpAny_AugAssign_AttributeAny (thn (ha.h pins s σ H _ I h) fun ov s1 ⟨x, H1, I1, rx, a, v, ex, ⟨C, dx, fs, ea, c, n, l⟩, q⟩ => ?_)
  subst ex
  obtain rfl : ov = Value.ref a := rx
  refine getattr_ok I1 ea c n l fun u s2 I2 ru => thn (hv.h pins s2 σ H1 _ I2 q) fun w3 s3 ⟨y, H2, I3, ry, q3⟩ => thn (hop pins s3 σ H2 v y u w3 _ I3 ru ry q3) fun w4 s4 ⟨z, H3, I4, rz, _, H4, ⟨C', dx', fs', ea', c', n', l', e4⟩, q4⟩ => ?_
  subst e4
  exact setattr_ok I4 ea' c' n' l' rz fun s5 I5 => ⟨σ, _, I5, q4⟩⟩
end
structure Mf (P : Program) (w : World) (K : PySem.W.Frag) (mg : Str → Option Value) (base : Heap) (C : Addr) (m : Str) (ps : List Str) (k : Nat) (sp : Sp) : Prop where
  ex : ∃ (f : Addr) (fd : FuncData), FnOk P w K mg base CX0 k f fd ps sp ∧ Meth K C m f ∧ Binds K fd ps []
structure AtM (K : PySem.W.Frag) (C : Addr) (m qual : Str) (st : Stmt) (ps : List Str) : Prop where
  ex : ∃ (f : Addr) (fd : FuncData), Fun K m qual st f fd ∧ Meth K C m f ∧ Binds K fd ps []
structure Mi (P : Program) (w : World) (K : PySem.W.Frag) (mg : Str → Option Value) (base : Heap) (C : Addr) (x : Str) (ps : List Str) (k : Nat) (sp : Sp) : Prop where
  ex : ∃ (f : Addr) (fd : FuncData), FnOk P w K mg base CX0 k f fd ps sp ∧ Mk K C f ∧ mg x = some (.ref C) ∧ Binds K fd ps []
section
variable {P : Program} {w : World} {K : PySem.W.Frag} {mg : Str → Option Value} {base : Heap} {C : Addr}
theorem AtM.mq {m qual : Str} {st : Stmt} {ps N : List Str} {k : Nat} {sp : Sp} (a : AtM K C m qual st ps) (S : FnScope N ps (defScope st)) (len : ∀ vs H Q E, sp vs H Q E → vs.length = ps.length)
    (hbody : ∀ (f : Addr) (cdv : Value) (A : Around) (outer : List Env) (s : Shared) (H : Hp) (vs : List V) (Q : VK) (E : XK), Room k (A.deeper (envOfC qual (defScope st) s.heap.objs.size f cdv)) → sp vs H Q E →
      ∃ t, QSs (cxOf CX0 P w K mg base N qual (defScope st) f cdv A outer s H E).nox (defBody st) t ∧ t { nx := fun _ H' => Q .non H', rt := Q } (start N vs) H) : Mf P w K mg base C m ps (k + 1) sp := by
  obtain ⟨f, fd, F, m, bd⟩ := a.ex
  exact ⟨f, fd, F.ok S len (fun cdv A outer s H vs Q E hr h => let ⟨t, q1, q2⟩ := hbody f cdv A outer s H vs Q E hr h; ⟨t, q1.h, q2⟩), m, bd⟩
theorem Mf.mi {x : Str} {ps : List Str} {k : Nat} {sp : Sp} (a : Mf P w K mg base C "__init__" ps k sp) (mk : PySem.W.makesIn K C = true) (kc : PySem.W.keepIn K (.ref C) = true) (hx : mg x = some (.ref C)) : Mi P w K mg base C x ps k sp :=
  let ⟨f, fd, F, m, bd⟩ := a.ex; ⟨f, fd, F, ⟨mk, m.at_, m.fn, kc⟩, hx, bd⟩
end
section
variable {X : Cx} {C : Addr} {x m : Str} {ps : List Str} {k : Nat} {sp : Sp} {o e : Expr} {es : List Expr} {p pos apos : Pos} {ta : TE} {t : TA}
theorem qe_meth {pl : Sem Bool} (M : Mf X.prog X.w X.K X.mg X.base C m ps k sp) (c : Cls X.K C) (hr : Room k X.A) (he : QE X o ta) (ha : QA X (e :: es) t)
    (hst : starEach (e :: es) X.env = (false, eval e X.env) :: starEach es X.env := by rfl) (hpl : (backTo pos (starEach es X.env)).any (·.1) = false := by rfl)
    (ht : eval (.Call (.Attribute o m apos) (e :: es) [] pos) X.env = (do
      let ov ← eval o X.env
      standAt apos.atName
      let (f, first) ← holding [ov] (getMethod ov m pl)
      callWith pos f first (backTo pos (starEach (e :: es) X.env)) (backToKw pos (keywordEach [] X.env))) := by rfl) :
    QE X (.Call (.Attribute o m apos) (e :: es) [] pos) (tMethA C m sp ta t) := ⟨by
  obtain ⟨f, fd, F, hm, hb⟩ := M.ex
  intro pins s σ H Q I h
  refine PySem.W.methodCall_KW (pl := pl) (thn (he.h pins s σ H _ I h) fun u s1 ⟨x, H1, I1, rx, a, ex, ⟨dx, fs, ea, l⟩, q⟩ => ?_) ht
  subst ex
  obtain rfl : u = Value.ref a := rx
  refine getmeth_ok I1 ea c hm l ?_
  refine PySem.W.callWith_K (first := [.ref a]) (h₀ := X.base) I.ok.mod.kin hm.kp (thn (ha.h pos pins s1 σ H1 _ I1 q) fun us s2 ⟨vs, H2, I2, r, q2⟩ => ⟨I2.kIn, ?_⟩) hst hpl
  exact run_fn (us := .ref a :: us) (vs := .ref a :: vs) F hr hb .nil pass0 I2 (.cons rfl r) q2⟩
theorem qe_meth0 {pl : Sem Bool} (M : Mf X.prog X.w X.K X.mg X.base C m ps k sp) (c : Cls X.K C) (hr : Room k X.A) (he : QE X o ta)
    (ht : eval (.Call (.Attribute o m apos) [] [] pos) X.env = (do
      let ov ← eval o X.env
      standAt apos.atName
      let (f, first) ← holding [ov] (getMethod ov m pl)
      callWith pos f first (backTo pos (starEach [] X.env)) (backToKw pos (keywordEach [] X.env))) := by rfl) :
    QE X (.Call (.Attribute o m apos) [] [] pos) (tMethA C m sp ta tNil) := ⟨by
  obtain ⟨f, fd, F, hm, hb⟩ := M.ex
  intro pins s σ H Q I h
  refine PySem.W.methodCall_KW (pl := pl) (thn (he.h pins s σ H _ I h) fun u s1 ⟨x, H1, I1, rx, a, ex, ⟨dx, fs, ea, l⟩, q⟩ => ?_) ht
  subst ex
  obtain rfl : u = Value.ref a := rx
  refine getmeth_ok I1 ea c hm l ?_
  exact PySem.W.callWith_K0 (first := [.ref a]) I1.kIn hm.kp (run_fn (us := [.ref a]) (vs := [.ref a]) F hr hb .nil pass0 I1 (.cons rfl .nil) q)⟩
theorem qe_make (M : Mi X.prog X.w X.K X.mg X.base C x ps k sp) (hr : Room (k + 1) X.A) (ha : QA X (e :: es) t) (hg : Gl X x := by rfl) (hdb : (x == ("__debug__" : Str)) = false := by decide)
    (he : starEach (e :: es) X.env = (false, eval e X.env) :: starEach es X.env := by rfl) (hpl : (backTo pos (starEach es X.env)).any (·.1) = false := by rfl) :
    QE X (.Call (.Name x p) (e :: es) [] pos) (tMake C sp [] E0 t) := ⟨by
  obtain ⟨f, fd, F, mk, hx, hb⟩ := M.ex
  exact pe_make mk F hr hg hx hb .nil pass0 ha.h hdb he hpl⟩
end
section
variable {X : Cx} {o e : Expr} {es : List Expr} {to : TE} {t : TA} {name : Str} {apos cpos : Pos} {T id : String} {r : V → List V → Hp → VK → Prop} {K : PySem.W.Frag}
theorem qe_bmK (hK : X.K = K) (pa : PlainAttrs T) (slot : Slot T name id) (hty : typeOf (.builtin id) = pure (.type "method_descriptor")) (hm : MtR X id r) (ho : QE X o to) (ha : QA X (e :: es) t)
    (hbase : attributeBase o name X.env (eval o X.env) = eval o X.env := by rfl)
    (hfew : ((backTo cpos (starEach (e :: es) X.env)).all (fun x => !x.1) && (backToKw cpos (keywordEach [] X.env)).all (fun x => x.1.isSome)
      && decide ((e :: es).length + ([] : List Keyword).length + (if ([] : List Keyword).isEmpty then 0 else 1) < 30)) = true := by rfl)
    (hline : (apos.endLine == cpos.line) = true := by rfl) (hs : starEach (e :: es) X.env = (false, eval e X.env) :: starEach es X.env := by rfl) (hplain : (backTo cpos (starEach es X.env)).any (·.1) = false := by rfl) :
    QE X (.Call (.Attribute o name apos) (e :: es) [] cpos) (tBM K T r to t) := by
  subst hK
  exact qe_bm pa slot hty hm ho ha hbase hfew hline hs hplain
theorem qe_bm0 (pa : PlainAttrs T) (slot : Slot T name id) (hty : typeOf (.builtin id) = pure (.type "method_descriptor")) (hm : MtR X id r) (ho : QE X o to)
    (hbase : attributeBase o name X.env (eval o X.env) = eval o X.env := by rfl) (hline : (apos.endLine == cpos.line) = true := by rfl) : QE X (.Call (.Attribute o name apos) [] [] cpos) (tBM0 X.K T r to) := ⟨pe_bm0 pa slot hty hm ho.h hbase hline⟩
theorem mr_popAt : MtR X "list.pop" rPopAt := mt_popAt
theorem mr_reverse : MtR X "list.reverse" rReverse := mt_reverse
end
theorem lookup_at {f : Str} {v : V} : ∀ {fs : List (Str × V)} (i : Nat), fs[i]? = some (f, v) → (fs.map (·.1)).Nodup → fs.lookup f = some v
  | [], i, h, _ => by cases h
  | (g, x) :: r, 0, h, _ => by
    cases Option.some.inj h
    exact List.lookup_cons_self
  | (g, x) :: r, i + 1, h, nd => by
    have h' : r[i]? = some (f, v) := h
    have nd' : g ∉ r.map (·.1) ∧ (r.map (·.1)).Nodup := List.nodup_cons.mp nd
    have hm : f ∈ r.map (·.1) := List.mem_map.mpr ⟨(f, v), List.mem_of_getElem? h', rfl⟩
    have ne : f ≠ g := fun z => nd'.1 (z ▸ hm)
    rw [List.lookup_cons, beq_false_of_ne ne]
    exact lookup_at i h' nd'.2
theorem lookup_no {f : Str} : ∀ {fs : List (Str × V)}, f ∉ fs.map (·.1) → fs.lookup f = none
  | [], _ => rfl
  | (g, x) :: r, h => by
    have ne : f ≠ g := fun z => h (z ▸ List.mem_cons_self ..)
    rw [List.lookup_cons, beq_false_of_ne ne]
    exact lookup_no fun z => h (List.mem_cons_of_mem _ z)
theorem putF_at {f : Str} {v u : V} : ∀ {fs : List (Str × V)} (i : Nat), fs[i]? = some (f, u) → (fs.map (·.1)).Nodup → putF f v fs = fs.set i (f, v)
  | [], i, h, _ => by cases h
  | (g, x) :: r, 0, h, _ => by
    cases Option.some.inj h
    show (if f = f then _ else _) = _
    rw [if_pos rfl]; rfl
  | (g, x) :: r, i + 1, h, nd => by
    have h' : r[i]? = some (f, u) := h
    have nd' : g ∉ r.map (·.1) ∧ (r.map (·.1)).Nodup := List.nodup_cons.mp nd
    have hm : f ∈ r.map (·.1) := List.mem_map.mpr ⟨(f, u), List.mem_of_getElem? h', rfl⟩
    have ne : ¬ g = f := fun z => nd'.1 (z ▸ hm)
    show (if g = f then _ else (g, x) :: putF f v r) = _
    rw [if_neg ne, putF_at i h' nd'.2]; rfl
theorem putF_new {f : Str} {v : V} : ∀ {fs : List (Str × V)}, f ∉ fs.map (·.1) → putF f v fs = fs ++ [(f, v)]
  | [], _ => rfl
  | (g, x) :: r, h => by
    have ne : ¬ g = f := fun z => h (z ▸ List.mem_cons_self ..)
    show (if g = f then _ else (g, x) :: putF f v r) = _
    rw [if_neg ne, putF_new fun z => h (List.mem_cons_of_mem _ z)]; rfl
def Mv (S : List Addr) (H H' : Hp) : Prop := ∀ c o, c ∉ S → H c = some o → H' c = some o
theorem Mv.refl {S : List Addr} {H : Hp} : Mv S H H := fun _ _ _ e => e
theorem Mv.trans {S : List Addr} {H H1 H2 : Hp} (a : Mv S H H1) (b : Mv S H1 H2) : Mv S H H2 := fun c o n e => b c o n (a c o n e)
theorem Mv.mono {S S' : List Addr} {H H' : Hp} (a : Mv S H H') (h : ∀ c, c ∉ S' → c ∉ S) : Mv S' H H' := fun c o n e => a c o (h c n) e
theorem _root_.L2.Same.mv {S : List Addr} {H H' : Hp} (a : Same H H') : Mv S H H' := fun c o _ e => a c o e
theorem Mv.upd1 {a : Addr} {H : Hp} {o : HO} : Mv [a] H (upd H a o) := fun c u n e => by
  rw [upd_ne (fun z => n (List.mem_singleton.mpr z))]; exact e
theorem GrC.mv {b : Addr} {n : Nat} {H H' : Hp} (g : GrC b n H H') : Mv [b] H H' := fun c o h e => g.kp c o (fun z => h (List.mem_singleton.mpr z)) e
def noTup : HO → Prop
  | .tup _ => False
  | .frz _ _ => False
  | _ => True
def NT (S : List Addr) (H : Hp) : Prop := ∀ c, c ∈ S → ∃ o, H c = some o ∧ noTup o
theorem Mv.rd {S : List Addr} {H H' : Hp} {a : Addr} {xs : List V} (m : Mv S H H') (n : NT S H) (h : Rd H a (.tup xs)) : Rd H' a (.tup xs) := by
  have hn : a ∉ S := fun z => by
    obtain ⟨o, e, no⟩ := n a z
    rcases h with h | ⟨o', h⟩
    · rw [e] at h; cases h; exact no
    · rw [e] at h; cases h; exact no
  rcases h with h | ⟨o', h⟩
  · exact .inl (m _ _ hn h)
  · exact .inr ⟨o', m _ _ hn h⟩
theorem Mv.sqt {K : PySem.W.Frag} {S : List Addr} {H H' : Hp} {a : Addr} {xs : List V} (m : Mv S H H') (n : NT S H) (h : SqT K H a xs) : SqT K H' a xs := by
  rcases h with h | h
  · exact .inl (m.rd n h)
  · exact .inr h
end L3
namespace L3
open PySem PySem.Spec PyProof.Rows L2
structure Ac (K : PySem.W.Frag) (mg : Str → Option Value) (x : Str) (st : Stmt) : Prop where
  ex : ∃ (f : Addr) (fd : FuncData), Fun K x x st f fd ∧ mg x = some (.ref f)
structure Acm (K : PySem.W.Frag) (C : Addr) (m qual : Str) (st : Stmt) : Prop where
  ex : ∃ (f : Addr) (fd : FuncData), Fun K m qual st f fd ∧ Meth K C m f
section
variable {K : PySem.W.Frag} {mg : Str → Option Value} {h : Heap} {x m qual : Str} {st : Stmt} {C f : Addr} {oc : Value} {od an : Option Addr} {osl : Array (Option Value)} {kV doc pm cdv ct : Value} {ps : List Str}
theorem ac_mk (X : K.In h) (G : h.Ns mainGlobals mg) (a : PySem.W.nsIn K mainGlobals x = some (some (.ref f))) (l : K.lookup f = some ⟨oc, od, .func (PySem.W.fnOf x x (defArgs st) (defBody st) (defScope st) .none kV doc pm an cdv ct), osl⟩) (c : PySem.W.codeIn K cdv x = true) (k : PySem.W.keepIn K (.ref f) = true) : Ac K mg x st := ⟨f, _, fun_mk l c k, PySem.W.mg_of X G a⟩
theorem acm_mk (a : PySem.W.findIn K (.ref C) m = some (some (.ref f))) (i : PySem.W.isFn K (.ref f) = true) (l : K.lookup f = some ⟨oc, od, .func (PySem.W.fnOf m qual (defArgs st) (defBody st) (defScope st) .none kV doc pm an cdv ct), osl⟩) (c : PySem.W.codeIn K cdv qual = true) (k : PySem.W.keepIn K (.ref f) = true) : Acm K C m qual st := ⟨f, _, fun_mk l c k, a, i, k⟩
theorem Ac.at (a : Ac K mg x st) (b : ∀ (kV doc pm : Value) (an : Option Addr) (cdv ct : Value) (us : List Value), us.length = ps.length → bindArgs (PySem.W.fnOf x x (defArgs st) (defBody st) (defScope st) .none kV doc pm an cdv ct) ⟨us, []⟩ = pure (ps.zip us)) : At K mg x st ps := let ⟨_, _, F, m⟩ := a.ex; at_mk F m (F.binds b)
theorem Acm.at (a : Acm K C m qual st) (b : ∀ (kV doc pm : Value) (an : Option Addr) (cdv ct : Value) (us : List Value), us.length = ps.length → bindArgs (PySem.W.fnOf m qual (defArgs st) (defBody st) (defScope st) .none kV doc pm an cdv ct) ⟨us, []⟩ = pure (ps.zip us)) : AtM K C m qual st ps := let ⟨_, _, F, m⟩ := a.ex; ⟨_, _, F, m, F.binds b⟩
end
end L3
namespace L3
open PySem PySem.Spec PyProof.Rows L2
structure Bt where
  nm : Str
  t : List Int
  ks : List Int
  age : Int
  step : Int
  cnt : Int
  bnd : Int
  x : Option Int
  y : Option Int
def oV : Option Int → V
  | none => .non
  | some i => .int i
theorem oV_inj {a b : Option Int} (h : oV a = oV b) : a = b := by
  cases a <;> cases b <;> simp [oV] at h ⊢ <;> exact h
theorem oV_scal (a : Option Int) (i : Int) : scal (oV a) (.int i) = true := by cases a <;> rfl
theorem oV_dec (a : Option Int) (i : Int) : decide (oV a = .int i) = decide (a = some i) := by
  rw [Bool.eq_iff_iff, decide_eq_true_iff, decide_eq_true_iff]
  constructor
  · intro h; exact oV_inj (b := some i) h
  · intro h; rw [h]; rfl
def bF (B : Bt) (ta ka ce : Addr) : List (Str × V) :=
  [("name", .str B.nm), ("table", .ref ta), ("key", .ref ka), ("age", .int B.age), ("step", .int B.step), ("next_count", .int B.cnt), ("bound", .int B.bnd), ("cells", .ref ce)]
def bN : List Str := ["name", "table", "key", "age", "step", "next_count", "bound", "cells"]
theorem bN_nd : bN.Nodup := by decide +kernel
theorem bF_nd (B : Bt) (ta ka ce : Addr) : ((bF B ta ka ce).map (·.1)).Nodup := bN_nd
structure BCx (K : PySem.W.Frag) (C : Addr) : Prop where
  cl : Cls K C
  n_name : NoAttr K C "name"
  n_table : NoAttr K C "table"
  n_key : NoAttr K C "key"
  n_age : NoAttr K C "age"
  n_step : NoAttr K C "step"
  n_next_count : NoAttr K C "next_count"
  n_bound : NoAttr K C "bound"
  n_cells : NoAttr K C "cells"
structure BtnAt (K : PySem.W.Frag) (C : Addr) (H : Hp) (p ta ka ce : Addr) (B : Bt) : Prop where
  ob : ∃ dx, H p = some (.ins C dx (bF B ta ka ce))
  tb : SqT K H ta (B.t.map V.int)
  ky : SqT K H ka (B.ks.map V.int)
  cs : H ce = some (.lst [oV B.x, oV B.y])
section
variable {K : PySem.W.Frag} {C : Addr} {H H' : Hp} {p ta ka ce dx : Addr} {B : Bt}
theorem BtnAt.has (b : BtnAt K C H p ta ka ce B) (U : BCx K C) (i : Nat) {f : Str} {v : V} (h : (bF B ta ka ce)[i]? = some (f, v)) (n : NoAttr K C f) : HasF K H p f v := by
  obtain ⟨dx, e⟩ := b.ob
  exact ⟨C, dx, _, e, U.cl, n, lookup_at i h (bF_nd ..)⟩
theorem BtnAt.h_name (b : BtnAt K C H p ta ka ce B) (U : BCx K C) : HasF K H p "name" (.str B.nm) := b.has U 0 rfl U.n_name
theorem BtnAt.h_table (b : BtnAt K C H p ta ka ce B) (U : BCx K C) : HasF K H p "table" (.ref ta) := b.has U 1 rfl U.n_table
theorem BtnAt.h_key (b : BtnAt K C H p ta ka ce B) (U : BCx K C) : HasF K H p "key" (.ref ka) := b.has U 2 rfl U.n_key
theorem BtnAt.h_age (b : BtnAt K C H p ta ka ce B) (U : BCx K C) : HasF K H p "age" (.int B.age) := b.has U 3 rfl U.n_age
theorem BtnAt.h_step (b : BtnAt K C H p ta ka ce B) (U : BCx K C) : HasF K H p "step" (.int B.step) := b.has U 4 rfl U.n_step
theorem BtnAt.h_next_count (b : BtnAt K C H p ta ka ce B) (U : BCx K C) : HasF K H p "next_count" (.int B.cnt) := b.has U 5 rfl U.n_next_count
theorem BtnAt.h_bound (b : BtnAt K C H p ta ka ce B) (U : BCx K C) : HasF K H p "bound" (.int B.bnd) := b.has U 6 rfl U.n_bound
theorem BtnAt.h_cells (b : BtnAt K C H p ta ka ce B) (U : BCx K C) : HasF K H p "cells" (.ref ce) := b.has U 7 rfl U.n_cells
theorem BtnAt.no (b : BtnAt K C H p ta ka ce B) {m : Str} (h : m ∉ bN := by decide +kernel) : NoF C H p m := by
  obtain ⟨dx, e⟩ := b.ob
  exact ⟨dx, _, e, lookup_no h⟩
theorem BtnAt.ne (b : BtnAt K C H p ta ka ce B) : p ≠ ce := by
  obtain ⟨dx, e⟩ := b.ob
  exact ne_of e b.cs (by intro z; cases z)
theorem BtnAt.nt (b : BtnAt K C H p ta ka ce B) : NT [p, ce] H := fun c hc => by
  obtain ⟨dx, e⟩ := b.ob
  simp only [List.mem_cons, List.not_mem_nil, or_false] at hc
  rcases hc with rfl | rfl
  · exact ⟨_, e, trivial⟩
  · exact ⟨_, b.cs, trivial⟩
theorem BtnAt.put (U : BCx K C) (e : H p = some (.ins C dx (bF B ta ka ce))) (i : Nat) {f : Str} {u : V} (v : V) (h : (bF B ta ka ce)[i]? = some (f, u)) (n : NoAttr K C f) :
    PutF K H p f v (upd H p (.ins C dx ((bF B ta ka ce).set i (f, v)))) := ⟨C, dx, _, e, U.cl, n, by show 8 < 1000; decide, by rw [putF_at i h (bF_nd ..)]⟩
theorem BtnAt.to (b : BtnAt K C H p ta ka ce B) (m : Mv [p, ce] H H') {B' : Bt} (ht : B'.t = B.t) (hk : B'.ks = B.ks) (e : H' p = some (.ins C dx (bF B' ta ka ce))) (ec : H' ce = some (.lst [oV B'.x, oV B'.y])) : BtnAt K C H' p ta ka ce B' :=
  ⟨⟨dx, e⟩, by rw [ht]; exact m.sqt b.nt b.tb, by rw [hk]; exact m.sqt b.nt b.ky, ec⟩
theorem BtnAt.mv {S : List Addr} (b : BtnAt K C H p ta ka ce B) (m : Mv S H H') (n : NT S H) (hp : p ∉ S) (hc : ce ∉ S) : BtnAt K C H' p ta ka ce B := by
  obtain ⟨dx, e⟩ := b.ob
  exact ⟨⟨dx, m _ _ hp e⟩, m.sqt n b.tb, m.sqt n b.ky, m _ _ hc b.cs⟩
theorem BtnAt.same (b : BtnAt K C H p ta ka ce B) (s : Same H H') : BtnAt K C H' p ta ka ce B := b.mv (S := []) s.mv (fun c h => nomatch h) (fun h => nomatch h) (fun h => nomatch h)
end
def Bt.sp (B : Bt) : Int := if B.x = some B.bnd then 1 else 0
def Bt.nb (B : Bt) : Int := if 4096 < B.bnd + B.step then 4096 else B.bnd + B.step
def Bt.wr (B : Bt) : Bt := if B.x = some B.bnd then { B with bnd := B.nb, y := some B.nb } else { B with bnd := B.nb, x := some B.nb }
def Bt.mw (B : Bt) : Bool := decide (B.cnt = B.bnd) && !decide (4096 ≤ B.cnt)
def Bt.pr (B : Bt) : Bt := if B.mw then { B.wr with cnt := B.cnt + 1 } else { B with cnt := B.cnt + 1 }
theorem wr_nm (B : Bt) : B.wr.nm = B.nm := by unfold Bt.wr; split <;> rfl
theorem wr_t (B : Bt) : B.wr.t = B.t := by unfold Bt.wr; split <;> rfl
theorem wr_ks (B : Bt) : B.wr.ks = B.ks := by unfold Bt.wr; split <;> rfl
theorem wr_age (B : Bt) : B.wr.age = B.age := by unfold Bt.wr; split <;> rfl
theorem wr_cnt (B : Bt) : B.wr.cnt = B.cnt := by unfold Bt.wr; split <;> rfl
theorem pr_nm (B : Bt) : B.pr.nm = B.nm := by unfold Bt.pr; split <;> first | exact wr_nm B | rfl
theorem pr_t (B : Bt) : B.pr.t = B.t := by unfold Bt.pr; split <;> first | exact wr_t B | rfl
theorem pr_ks (B : Bt) : B.pr.ks = B.ks := by unfold Bt.pr; split <;> first | exact wr_ks B | rfl
theorem pr_age (B : Bt) : B.pr.age = B.age := by unfold Bt.pr; split <;> first | exact wr_age B | rfl
theorem pr_cnt (B : Bt) : B.pr.cnt = B.cnt + 1 := by unfold Bt.pr; split <;> rfl
section
variable (K : PySem.W.Frag) (C : Addr)
def spBInit : Sp := fun vs H Q _ => ∃ (p a b dx : Addr) (nm : Str) (age step : Int) (t ks : List Int), vs = [.ref p, .str nm, .ref a, .ref b, .int age, .int step] ∧ H p = some (.ins C dx []) ∧ Sq K H a (t.map V.int) ∧ Sq K H b (ks.map V.int) ∧
  ∀ ta ka ce H', H ce = none → Mv [p] H H' → BtnAt K C H' p ta ka ce ⟨nm, t, ks, age, step, 0, 0, some 0, none⟩ → Q .non H'
def spBWorn : Sp := fun vs H Q _ => ∃ (p ta ka ce : Addr) (B : Bt), vs = [.ref p] ∧ BtnAt K C H p ta ka ce B ∧ Q (.bl (decide (4096 ≤ B.cnt))) H
def spBMust : Sp := fun vs H Q _ => ∃ (p ta ka ce : Addr) (B : Bt), vs = [.ref p] ∧ BtnAt K C H p ta ka ce B ∧ Q (.bl B.mw) H
def spBSpare : Sp := fun vs H Q _ => ∃ (p ta ka ce : Addr) (B : Bt), vs = [.ref p] ∧ BtnAt K C H p ta ka ce B ∧ Q (.int B.sp) H
def spBWrite : Sp := fun vs H Q _ => ∃ (p ta ka ce : Addr) (B : Bt), vs = [.ref p] ∧ BtnAt K C H p ta ka ce B ∧ ∀ H', Mv [p, ce] H H' → BtnAt K C H' p ta ka ce B.wr → Q .non H'
def spBPress : Sp := fun vs H Q _ => ∃ (p ta ka ce : Addr) (B : Bt) (d : Int), vs = [.ref p, .int d] ∧ BtnAt K C H p ta ka ce B ∧ isNm B.nm ∧ B.t.length = 16 ∧ 0 ≤ B.cnt ∧ B.cnt < 4096 ∧ dig d ∧
  ∀ q pc H', Mv [p, ce] H H' → BtnAt K C H' p ta ka ce B.pr → H' q = some (.tup [.str B.nm, .int B.age, .ref pc]) → H' pc = some (.tup ((codeI B.t B.ks B.nm B.cnt d).map V.int)) → Q (.ref q) H'
def spBAge : Sp := fun vs H Q _ => ∃ (p ta ka ce : Addr) (B : Bt), vs = [.ref p] ∧ BtnAt K C H p ta ka ce B ∧ Q (.int B.age) H
def spBCount : Sp := fun vs H Q _ => ∃ (p ta ka ce : Addr) (B : Bt), vs = [.ref p] ∧ BtnAt K C H p ta ka ce B ∧ Q (.int B.cnt) H
def spBCells : Sp := fun vs H Q _ => ∃ (p ta ka ce : Addr) (B : Bt), vs = [.ref p] ∧ BtnAt K C H p ta ka ce B ∧ ∀ q H', Same H H' → H' q = some (.tup [oV B.x, oV B.y]) → Q (.ref q) H'
end
def spTable2 : Sp := fun vs H Q _ => ∃ (b : Addr) (c : Nat), vs = [.ref b] ∧ BoxC H b c ∧ c < 100000000 ∧ ∀ p (t : List Int) H', GrC b (c + 16) H H' → H p = none → H' p = some (.tup (t.map V.int)) → t.Perm digs → Q (.ref p) H'
def spKeyT2 : Sp := fun vs H Q _ => ∃ (b : Addr) (c : Nat), vs = [.ref b] ∧ BoxC H b c ∧ c < 100000000 ∧ ∀ p (ks : List Int) H', GrC b (c + 9) H H' → H p = none → H' p = some (.tup (ks.map V.int)) → digR ks → 1 ≤ ks.length → ks.length ≤ 8 → Q (.ref p) H'
def spName2 : Sp := fun vs H Q _ => ∃ (b : Addr) (c : Nat), vs = [.ref b] ∧ BoxC H b c ∧ c < 100000000 ∧ ∀ z H', GrC b (c + 1) H H' → isNm z → Q (.str z) H'
theorem GrC.fresh {b c : Addr} {n : Nat} {H H' : Hp} (g : GrC b n H H') (hb : BoxC H b n) (h : H' c = Option.none) : H c = Option.none := by
  cases e : H c with
  | none => rfl
  | some o =>
    by_cases z : c = b
    · subst z
      obtain ⟨_, _, _, e', _⟩ := g.bx
      rw [e'] at h; cases h
    · rw [g.kp c o z e] at h; cases h
theorem put_new {K : PySem.W.Frag} {C p dx : Addr} {H : Hp} {fs : List (Str × V)} {f : Str} {v : V} (c : Cls K C) (e : H p = some (.ins C dx fs)) (n : NoAttr K C f) (i : Nat) (hns : fs.map (·.1) = bN.take i := by rfl) (hn : f ∉ bN.take i := by decide +kernel) :
    PutF K H p f v (upd H p (.ins C dx (fs ++ [(f, v)]))) := ⟨C, dx, fs, e, c, n, by
    have h1 : fs.length = (bN.take i).length := by rw [← hns, List.length_map]
    have h2 : (bN.take i).length ≤ 8 := by rw [List.length_take]; exact Nat.min_le_right _ _
    omega, by rw [putF_new (by rw [hns]; exact hn)]⟩
theorem sq_tuple {K : PySem.W.Frag} {H : Hp} {a : Addr} {xs : List V} {Q : VK} (h : Sq K H a xs) (q : ∀ l H', Same H H' → SqT K H' l xs → Q (.ref l) H') : (SqL K H a xs ∧ ∀ l, H l = none → Q (.ref l) (upd H l (.tup xs))) ∨ (SqT K H a xs ∧ Q (.ref a) H) :=
  h.elim (fun h => .inl ⟨h, fun l hl => q l _ (Same.upd hl) (SqT.of upd_same)⟩) fun h => .inr ⟨h, q a H (Same.refl _) h⟩
theorem sq_upd {K : PySem.W.Frag} {C p dx a : Addr} {H : Hp} {fs : List (Str × V)} {xs : List V} {o : HO} (e : H p = some (.ins C dx fs)) (h : Sq K H a xs) : Sq K (upd H p o) a xs := by
  rcases h with (h | h) | (h | h)
  · refine .inl (.inl ?_)
    rcases h with h | ⟨u, h⟩
    · exact .inl (by rw [upd_ne (ne_of h e (by intro z; cases z))]; exact h)
    · exact .inr ⟨u, by rw [upd_ne (ne_of h e (by intro z; cases z))]; exact h⟩
  · exact .inl (.inr h)
  · refine .inr (.inl ?_)
    rcases h with h | ⟨u, h⟩
    · exact .inl (by rw [upd_ne (ne_of h e (by intro z; cases z))]; exact h)
    · exact .inr ⟨u, by rw [upd_ne (ne_of h e (by intro z; cases z))]; exact h⟩
  · exact .inr (.inr h)
theorem sqt_upd {K : PySem.W.Frag} {C p dx a : Addr} {H : Hp} {fs : List (Str × V)} {xs : List V} {o : HO} (e : H p = some (.ins C dx fs)) (h : SqT K H a xs) : SqT K (upd H p o) a xs := by
  rcases h with (h | ⟨u, h⟩) | h
  · exact .inl (.inl (by rw [upd_ne (ne_of h e (by intro z; cases z))]; exact h))
  · exact .inl (.inr ⟨u, by rw [upd_ne (ne_of h e (by intro z; cases z))]; exact h⟩)
  · exact .inr h
theorem call_len_seqK {X : Cx} {K : PySem.W.Frag} (hK : X.K = K) : CallR X (.builtin "len") (fun xs H Q => ∃ p ys, xs = [.ref p] ∧ (SqL K H p ys ∨ SqT K H p ys) ∧ Q (.int (ys.length : Nat)) H) := by
  subst hK
  exact call_len_seq
theorem seqIndex_nat {k n : Nat} (h : k < n) : seqIndex? (k : Int) n = some k := by
  unfold seqIndex?
  simp
  omega
theorem perm_pop {ms zs : List Int} {k : Nat} (h : k < ms.length) : (zs ++ [ms[k]] ++ ms.eraseIdx k).Perm (zs ++ ms) := by
  rw [List.append_assoc]
  refine List.Perm.append_left zs ?_
  rw [List.eraseIdx_eq_take_drop_succ]
  have e : ms = ms.take k ++ ms[k] :: ms.drop (k + 1) := by rw [← List.drop_eq_getElem_cons h, List.take_append_drop]
  refine List.Perm.trans (List.perm_middle (a := ms[k]) (l₁ := ms.take k) (l₂ := ms.drop (k + 1))).symm ?_
  rw [← e]
theorem erase_ints (ms : List Int) (k : Nat) : (ms.map V.int).eraseIdx k = (ms.eraseIdx k).map V.int := by
  rw [List.eraseIdx_eq_take_drop_succ, List.eraseIdx_eq_take_drop_succ, List.map_append, List.map_take, List.map_drop]
theorem call_tupleQ {X : Cx} : CallR X (.type "tuple") (fun xs H Q => ∃ p ys, xs = [.ref p] ∧ Sq X.K H p ys ∧ ∀ l H', Same H H' → SqT X.K H' l ys → Q (.ref l) H') := by
  intro pins s σ H xs us Q I r h
  obtain ⟨p, ys, e, hs, q⟩ := h
  exact call_tuple_of pins s σ H xs us Q I r ⟨p, ys, e, sq_tuple hs q⟩
end L3
namespace L3
open PySem PySem.Spec PyProof.Rows L2
theorem Mv.free {b c : Addr} {H H' : Hp} {n : Nat} (m : Mv [b] H H') (hb : BoxC H' b n) (h : H' c = Option.none) : H c = Option.none := by
  cases e : H c with
  | none => rfl
  | some o =>
    by_cases z : c = b
    · subst z
      obtain ⟨_, _, _, e', _⟩ := hb
      rw [e'] at h; cases h
    · rw [m c o (fun y => z (List.mem_singleton.mp y)) e] at h; cases h
theorem lne_len {xs ys : List V} (h : xs.length ≠ ys.length) : HO.lst xs ≠ HO.lst ys := fun z => by injection z with z; exact h (by rw [z])
section
variable {K : PySem.W.Frag} {C : Addr} {H H' : Hp} {b L : Addr} {n n' : Nat} {os : List O}
theorem nin1 {a x : Addr} (h : a ≠ x) : a ∉ [x] := fun z => h (List.mem_singleton.mp z)
end
end L3
namespace L3
open PySem PySem.Spec PyProof.Rows L2
theorem Same.mv_of {H H1 H2 : Hp} {S : List Addr} (s : Same H H1) (m : Mv S H1 H2) (h : ∀ c ∈ S, H c = none) : Same H H2 := fun c o e => m c o (fun z => ne_of_none e (h c z) rfl) (s c o e)
theorem BoxC.mv {H H' : Hp} {S : List Addr} {b : Addr} {n : Nat} (h : BoxC H b n) (m : Mv S H H') (ne : b ∉ S) : BoxC H' b n := let ⟨a1, a2, a3, e, r⟩ := h; ⟨a1, a2, a3, m _ _ ne e, r⟩
theorem nin2 {a x y : Addr} (h : a ≠ x) (g : a ≠ y) : a ∉ [x, y] := fun z => by
  simp only [List.mem_cons, List.not_mem_nil, or_false] at z
  exact z.elim h g
theorem NT.one {H : Hp} {a : Addr} {o : HO} (e : H a = some o) (n : noTup o) : NT [a] H := fun c hc => ⟨o, by rw [List.mem_singleton.mp hc]; exact e, n⟩
end L3
namespace L3
open PySem PySem.Spec PyProof.Rows L2
open Sem (wp)
def CompGF (k : Nat) (js : List Nat) (g : TG) (tc : TT) (te : TE) (σ : L2.St) (Q : VK) (J : It) (H1 : Hp) : Prop := ∃ W : Nat → Nat → List V → L2.St → Hp → Prop, (∃ m, W 0 m [] (σ0 k js σ) H1) ∧ ∀ i m ys τ H, W i m ys τ H →
  (J.stop i H ∧ ∀ p, H p = none → Q (.ref p) (upd H p (.lst ys))) ∨ (J.go i H ∧ ys.length < sizeLine ∧ ∀ x H', J.yld i H x H' → g x τ H' fun τ2 H2 => ∃ (N : V → Hp → Prop) (N0 : Hp → Prop), (∀ v H3, N v H3 → ∃ m', m' < m ∧ W (i + 1) m' (ys ++ [v]) τ2 H3) ∧
    (∀ H3, N0 H3 → ∃ m', m' < m ∧ W (i + 1) m' ys τ2 H3) ∧ tc τ2 H2 fun c H3 => if c = true then te τ2 H3 N else N0 H3)
def tCompF (k : Nat) (js : List Nat) (wi : TI) (g : TG) (tc : TT) (te : TE) : TE := fun σ H Q => wi σ H (CompGF k js g tc te σ Q)
section
variable {prog : Program} {w : World} {A : Around} {R : Result → Shared → Prop} {s : Shared}
theorem compLoop_if {elt target iter cnd : Expr} {scope : Scope} {pos : Pos} {it acc : Value} {env : Env} (I : Nat → Shared → Prop)
    (turn : ∀ n s, I n s → wpAny (model prog w) A (pyNext it) (fun r s₁ => match r with
      | none => R (.ok .next) s₁
      | some v => wpAny (model prog w) A (letOwnedTupleGo target it v) (fun _ s₁' => wpAny (model prog w) A (assign target env v) (fun _ s₂ => wpAny (model prog w) A (isTrue cnd env (eval cnd env)) (fun ok s₂' =>
          if ok = true then wpAny (model prog w) A (eval elt env) (fun x s₃ =>
            wpAny (model prog w) A (call (.builtin "list.append") [acc, x]) (fun _ s₄ => ∃ m, m < n ∧ I m s₄) (fun _ _ => False) s₃) (fun _ _ => False) s₂' else ∃ m, m < n ∧ I m s₂')
          (fun _ _ => False) s₂) (fun _ _ => False) s₁') (fun _ _ => False) s₁) (fun _ _ => False) s)
    (n : Nat) (h : I n s) :
    codeAny (model prog w) A (.compLoop (.ListComp elt [⟨target, iter, [cnd], 0⟩] scope pos) 0 it acc env) R s := by
  refine codeAny_loop rfl I (fun n s hI => ?_) n h
  show wpAny _ _ ((compTurn (.ListComp elt [⟨target, iter, [cnd], 0⟩] scope pos) 0 it acc env).onRaise (fun x => do noteFrame x env; theTreesLotGoes x)) _ _ s
  refine wpAny_noted ?_
  rw [compTurn_list]
  refine wpAny_bind (wpAny_standAt (wpAny_bind (wpAny_mono (turn n s hI) (fun r s₁ h₁ => ?_) fun _ _ h' => h'.elim)))
  cases r with
  | none => exact wpAny_pure h₁
  | some v =>
    refine wpAny_bind (wpAny_mono h₁ (fun _ s₁' h₁' => ?_) fun _ _ h' => h'.elim)
    refine wpAny_bind (wpAny_mono h₁' (fun _ s₂ h₂ => wpAny_bind (wpAny_tests_one (wpAny_mono h₂ (fun ok s₂' h₂' => ?_) fun _ _ h' => h'.elim))) fun _ _ h' => h'.elim)
    cases ok with
    | false => exact wpAny_pure ⟨rfl, h₂'⟩
    | true =>
      exact wpAny_bind (wpAny_bind (wpAny_mono h₂' (fun x s₃ h₃ => wpAny_bind (wpAny_mono h₃ (fun _ s₄ h₄ => wpAny_pure (wpAny_pure ⟨rfl, h₄⟩)) fun _ _ h' => h'.elim)) fun _ _ h' => h'.elim))
end
variable {X : Cx}
theorem comp_runF {elt tg iter cnd : Expr} {scope : Scope} {cl : List (Str × Addr)} {pos fpos : Pos} {fr own : List Str} {js : List Nat} {wi : TI} {g : TG} {tc : TT} {te : TE} {use : Option (Value → Sem Unit)} {Post : Value → Shared → Prop}
    {pins : List (Addr × Obj)} {s : Shared} {σ : L2.St} {H : Hp} {Q : VK}
    (hc : X.calm = true) (hi : PI X tg iter wi) (hclos : closureFor scope X.env = pure cl) (hcl : ∀ y c, cl.lookup y = some c → X.env.cells.lookup y = some c) (hfr : cl.map (·.1) = fr)
    (S : BScope X scope fr js)
    (hg : ∀ C s H fp, PG (blk X (own ++ fr) scope cl C s H fp) tg g) (ht : ∀ C s H fp, PT (blk X (own ++ fr) scope cl C s H fp) cnd tc) (he : ∀ C s H fp, PE (blk X (own ++ fr) scope cl C s H fp) elt te)
    (hs : ∀ x, foldedSetIterable iter X.env x = pure x)
    (I : L2.Inv X pins σ H s) (h : tCompF own.length js wi g tc te σ H Q)
    (hfin : ∀ (acc C : Addr) (s5 : Shared) (H' : Hp) (m : Str → Option Value), L2.Inv X pins σ H' s5 → s5.heap.Ns C m → Away X pins H' C → Q (.ref acc) H' → compPost (model X.prog X.w) X.A X.xe use Post (.ref acc) C (.ok .next) s5) :
    wpAny (model X.prog X.w) X.A (comprehension (.ListComp elt [⟨tg, iter, [cnd], 0⟩] scope pos) scope X.env fpos (newList []) false (eval iter X.env) use) Post X.xe s := by
  refine wpAny_comprehension_free (use := use) rfl hs hclos S.kind S.names (thn (hi pins s σ H _ I h) fun v s1 h1 => thn h1 fun itv s2 h2 => ?_)
  obtain ⟨it, fp, tn, J, H2, e, I2, T, st2, f2, W, ⟨m0, w0⟩, turn⟩ := h2
  subst e
  refine wpAny_newObj_type (wpAny_newFunctionEnv S.nocell (by intro y hy; simp at hy) (fun h₁ hns₁ hsb₁ => ?_) S.kind)
  dsimp only at hns₁ hsb₁ ⊢
  generalize hH2 : s2.heap.push { cls := .type "list", dict := none, data := .seq ([] : List Value).toArray } = G at hns₁ hsb₁ ⊢
  have hC : G.objs.size = s2.heap.objs.size + 1 := by rw [← hH2, Heap.size_push]
  have hDC : s2.heap.objs.size ≠ G.objs.size := by rw [hC]; exact Nat.ne_of_lt (Nat.lt_succ_self _)
  have below : ∀ b, b < s2.heap.objs.size → b ≠ G.objs.size ∧ b ≠ s2.heap.objs.size := fun b hb => ⟨by rw [hC]; exact Nat.ne_of_lt (Nat.lt_succ_of_lt hb), Nat.ne_of_lt hb⟩
  have old : ∀ b o, s2.heap.get? b = some o → h₁.get? b = some o := fun b o e => hsb₁.extBut b o (below b (Heap.lt_size e)).1 (Heap.get?_push_of_some _ (hH2 ▸ Heap.get?_push_of_some _ e))
  have hacc : h₁.get? s2.heap.objs.size = some { cls := .type "list", data := .seq ([] : List Value).toArray 0 } := hsb₁.extBut _ _ hDC (Heap.get?_push_of_some _ (hH2 ▸ Heap.get?_push_size _ rfl))
  let Y : Cx := blk X (own ++ fr) scope cl G.objs.size s2 H2 fp
  have fplt : ∀ b ∈ fp, b < s2.heap.objs.size := fun b hb => by obtain ⟨o, e, _⟩ := T.obj _ _ st2 b hb; exact Heap.lt_size e
  have okY : Y.Ok := by
    refine ⟨I2.ok.mod, S.kind, I2.ok.glob, I2.ok.blt, by show s2.heap.objs.size ≤ G.objs.size; omega, ?_, ?_, ?_, I2.ok.hd, I2.ok.frames, .inl rfl, ?_, I2.bs, Nat.le_trans I2.ok.bsz I2.sz, ?_, ?_, I2.stack, I2.stkFree⟩
    · exact fun x y c e1 e2 => I2.ok.inj x y c (hcl x c e1) (hcl y c e2)
    · intro x hx
      have hx' : (relabel scope X.env).names.lookup x = some .cell ∨ (relabel scope X.env).names.lookup x = some .free := hx
      have hm : ∃ k, (x, k) ∈ scope.names ∧ k = .free := by
        have aux : ∀ kk : NameKind, (kk = .cell ∨ kk = .free) → (relabel scope X.env).names.lookup x = some kk → ∃ k, (x, k) ∈ scope.names ∧ k = .free := by
          intro kk hk el
          obtain ⟨⟨n, k⟩, hmem, e⟩ := List.mem_map.mp (PySem.mem_of_lookup el)
          dsimp only at e
          split at e
          · rename_i hcond
            cases e
            refine ⟨k, hmem, ?_⟩
            simp only [Bool.and_eq_true, beq_iff_eq] at hcond
            exact hcond.1.1
          · cases e
            rcases hk with z | z
            · subst z; exact absurd rfl (S.nocell _ hmem)
            · exact ⟨_, hmem, z⟩
        rcases hx' with z | z
        · exact aux _ (.inl rfl) z
        · exact aux _ (.inr rfl) z
      obtain ⟨k, hmem, hk⟩ := hm
      exact mem_lookup_isSome (l := cl) (by rw [hfr]; exact S.free _ hmem hk)
    · exact fun x c e _ => nomatch e
    · refine fun b hb => ⟨?_, fun x c e => (f2 b hb).2.2.2.2.1 x c (hcl x c e)⟩
      show b ≠ G.objs.size
      exact (below b (fplt b hb)).1
    · intro b o e hb
      rcases (f2 b hb).2.2.2.1 with z | z
      · exact I2.ok.noex b o e z
      · exact absurd (Nat.lt_of_lt_of_le (Heap.lt_size e) (Nat.le_trans I2.ok.bsz z)) (Nat.lt_irrefl _)
    · intro b hb hf
      rcases List.mem_cons.mp (I2.stkSub b hf) with z | z
      · exact (f2 b hb).2.1 z
      · exact (f2 b hb).2.2.1 z
  have lenσ : (σ0 own.length js σ).length = (own ++ fr).length := by unfold σ0; simp [S.len]
  have IY : Inv Y [] (σ0 own.length js σ) H2 { s2 with heap := h₁, toks := s2.toks + ([] : List (Str × Value)).length } := by
    refine ⟨okY, rfl, I2.bare, Un.kept old, ⟨_, hns₁, ?_⟩, ?_, ?_, ?_, fun p hp => absurd (show p ∈ ([] : List (Addr × Obj)) from hp) (by simp), I2.hok.kept old, lenσ⟩
    · intro i x v hN hv _
      have hN' : (own ++ fr)[i]? = some x := hN
      unfold σ0 at hv
      by_cases hlt : i < own.length
      · rw [List.getElem?_append_left (by simpa using hlt), List.getElem?_replicate] at hv
        split at hv <;> cases hv
      · rw [List.getElem?_append_right (by simpa using Nat.le_of_not_lt hlt), List.length_replicate, List.getElem?_map] at hv
        rw [List.getElem?_append_right (Nat.le_of_not_lt hlt)] at hN'
        cases ej : js[i - own.length]? with
        | none => rw [ej] at hv; cases hv
        | some j =>
          rw [ej] at hv
          have hσ : σ[j]? = some (some v) := by
            have hv' : (σ[j]?).join = some v := Option.some.inj hv
            cases q : σ[j]? with
            | none => rw [q] at hv'; cases hv'
            | some o => rw [q] at hv'; have : o = some v := hv'; rw [this]
          obtain ⟨hNj, hk, hkr⟩ := S.at_ _ j x ej hN'
          obtain ⟨m, hn, hl⟩ := I2.loc
          obtain ⟨u, ru, lk⟩ := hl j x v hNj hσ (.inr (.inl hk))
          refine ⟨u, ru, .inr ?_⟩
          rcases lk with ⟨k1, _⟩ | ⟨_, c, ec, ic⟩
          · rw [hk] at k1; cases k1
          · obtain ⟨c', hc'⟩ := mem_lookup_isSome (y := x) (l := cl) (by rw [hfr]; exact List.mem_of_getElem? hN')
            have : c' = c := by have := hcl x c' hc'; rw [ec] at this; exact (Option.some.inj this).symm
            subst this
            refine ⟨?_, c', hc', ?_⟩
            · show (relabel scope X.env).names.lookup x = some .cell ∨ (relabel scope X.env).names.lookup x = some .free
              exact .inl hkr
            · obtain ⟨oc, hoc, hd⟩ := ic
              exact ⟨oc, old _ _ hoc, hd⟩
    · intro x c e
      obtain ⟨v, oc, hoc, hd⟩ := I2.cell x c (hcl x c e)
      exact ⟨v, oc, old _ _ hoc, hd⟩
    · exact I2.hok.fresh (by show s2.heap.objs.size ≤ G.objs.size; omega)
    · exact fun x c e => I2.freeC x c (hcl x c e)
  have accfs : s2.heap.objs.size ∉ frs X.stack := fun hf => by
    rcases List.mem_cons.mp (I2.stkSub _ hf) with z | z
    · exact absurd (by rw [← z] ; exact Nat.le_refl _ : s2.heap.objs.size ≤ X.env.locals) (Nat.not_le.mpr I2.lt)
    · exact I2.nofs (Nat.le_refl _) z
  have acccell : ∀ x c, cl.lookup x = some c → c ≠ s2.heap.objs.size := fun x c e z => by
    obtain ⟨v, oc, hoc, _⟩ := I2.cell x c (hcl x c e)
    exact absurd (Heap.lt_size hoc) (by rw [z]; exact Nat.lt_irrefl _)
  have fpY : ∀ {H' : Hp} {pl : List (Addr × Obj)}, (∀ b ∈ fp, H' b = none) → (∀ p ∈ pl, p.1 = s2.heap.objs.size) → ∀ b ∈ fp, FpOk Y pl H' b := fun {H' pl} hn hp b hb =>
    ⟨hn b hb, (below b (fplt b hb)).1, okY.exfs b hb, .inl hb, fun x c e => (f2 b hb).2.2.2.2.1 x c (hcl x c e), fun p hpp => by
      have hpp' : p ∈ pl := by simpa [Y, blk] using hpp
      rw [hp p hpp']; exact Ne.symm (below b (fplt b hb)).2⟩
  have loop : ∀ s₃ : Shared, Inv Y [] (σ0 own.length js σ) H2 s₃ → tn 0 s₃.heap → s₃.heap.get? s2.heap.objs.size = some { cls := .type "list", data := .seq ([] : List Value).toArray 0 } →
      codeAny (model X.prog X.w) X.A (.compLoop (.ListComp elt [⟨tg, iter, [cnd], 0⟩] scope pos) 0 (.ref it) (.ref s2.heap.objs.size) (compEnvC scope cl G.objs.size X.env))
        (compPost (model X.prog X.w) X.A X.xe use Post (.ref s2.heap.objs.size) G.objs.size) s₃ := by
    intro s₃ I3 st3 ha3
    refine compLoop_if (fun n s' => ∃ i ys τ H' its k, Inv Y [(s2.heap.objs.size, { cls := .type "list", data := .seq its.toArray k })] τ H' s' ∧ tn i s'.heap ∧ (∀ b ∈ fp, H' b = none) ∧ Vals ys its ∧ ys.length ≤ sizeLine ∧ W i n ys τ H') ?_ m0 ?_
    · rintro n s4 ⟨i, ys, τ, H4, its, k, I4, st4, fr4, vl, hz, w4⟩
      have pin4 := I4.pin (s2.heap.objs.size, { cls := .type "list", data := .seq its.toArray k }) (by simp [Y, blk])
      rcases turn i n ys τ H4 w4 with ⟨stop, qn⟩ | ⟨go, hlt, step⟩
      · refine thn (T.done Y rfl rfl rfl hc i _ s4 τ H4 _ I4 (fpY fr4 (by simp)) st4 stop) fun r s5 ⟨hr, I5⟩ => ?_
        subst hr
        show compPost _ _ _ _ _ _ _ _ _
        obtain ⟨m5, hn5, _⟩ := I5.loc
        have pin5 := I5.pin (s2.heap.objs.size, { cls := .type "list", data := .seq its.toArray k }) (by simp [Y, blk])
        have nacc : H4 s2.heap.objs.size = none := pin5.2.1
        have B := I5.base
        have nC : H4 G.objs.size = none := I5.free
        refine hfin s2.heap.objs.size G.objs.size s5 (upd H4 s2.heap.objs.size (.lst ys)) m5 ?_ hn5 ?_ (qn _ nacc)
        · refine I2.call' (s' := s5) (ch := fp) I5.os ⟨B.keep, B.slot, fun b o e n hx => ?_, B.there, fun b xs e => ?_, fun b o u e => ?_, fun b ps e => ?_⟩ ?_ I5.bare ?_
          · rw [upd_ne (below b (Heap.lt_size e)).2]; exact B.free b o e n hx
          · have e1 := B.tups b xs e
            rw [upd_ne (ne_of_none e1 nacc)]; exact e1
          · have e1 := B.frzs b o u e
            rw [upd_ne (ne_of_none e1 nacc)]; exact e1
          · obtain ⟨more, e1⟩ := B.tbls b ps e
            exact ⟨more, by rw [upd_ne (ne_of_none e1 nacc)]; exact e1⟩
          · intro b u e
            by_cases hb : b = s2.heap.objs.size
            · subst hb
              rw [upd_same] at e; cases e
              exact ⟨hz, its, k, vl, pin5.1⟩
            · rw [upd_ne hb] at e
              exact (I5.hok b u e).stay (fun c v _ q => q) (fun c q => by rw [upd_ne (ne_of_none q nacc)]; exact q) fun c xs q => by rw [upd_ne (ne_of_none q nacc)]; exact q
          · exact fun b hb => ⟨(f2 b hb).2.2.2.1, (f2 b hb).2.1, (f2 b hb).2.2.2.2.1, (f2 b hb).2.2.2.2.2⟩
        · have hge : s2.heap.objs.size ≤ G.objs.size := by omega
          refine ⟨by rw [upd_ne (Ne.symm hDC)]; exact nC, ?_, Nat.le_trans I2.sz hge, fun x c e z => ?_, fun p hp z => ?_⟩
          · exact Nat.ne_of_gt (Nat.lt_of_lt_of_le I2.lt hge)
          · obtain ⟨v, oc, hoc, _⟩ := I2.cell x c e
            exact absurd (Nat.lt_of_lt_of_le (Heap.lt_size hoc) hge) (by rw [z]; exact Nat.lt_irrefl _)
          · exact absurd (Nat.lt_of_lt_of_le (Heap.lt_size (I2.pin p hp).1) hge) (by rw [z]; exact Nat.lt_irrefl _)
      · refine thn (T.item Y rfl rfl rfl hc i _ s4 τ H4 _ I4 (fpY fr4 (by simp)) st4 go) fun r s5 ⟨u, hr, h5⟩ => ?_
        subst hr
        refine thn h5 fun _ s6 ⟨x, H6, I6, r6, y6, st6, fr6⟩ => ?_
        have I6' := I6.pinned (fpY fr6 (by simp)) (T.obj _ _ st6)
        refine thn (hg _ _ _ _ _ s6 τ H6 x u _ I6' r6 (step x H6 y6)) fun _ s7 ⟨τ7, H7, I7, N, N0, hN, hN0, q7⟩ => ?_
        refine thn (ht _ _ _ _ _ s7 τ7 H7 _ I7 q7) fun ok s7' ⟨H7', I7', q7'⟩ => ?_
        cases ok with
        | false =>
          obtain ⟨m', hm', w8⟩ := hN0 _ q7'
          have pin8 := I7'.pin (s2.heap.objs.size, { cls := .type "list", data := .seq its.toArray k }) (by simp [blk])
          have pinfp : ∀ b ∈ fp, ∀ o, s6.heap.get? b = some o → s7'.heap.get? b = some o ∧ H7' b = none := fun b hb o e => by
            have := I7'.pin (b, o) (List.mem_append_right _ (List.mem_append_right _ (mem_pinsAt hb e)))
            exact ⟨this.1, this.2.1⟩
          refine ⟨m', hm', i + 1, ys, τ7, H7', its, k, I7'.pins_of ?_, T.keep _ _ _ st6 fun b hb o e => (pinfp b hb o e).1, fun b hb => ?_, vl, by omega, w8⟩
          · intro p hp
            rw [List.mem_singleton.mp hp]
            exact pin8
          · obtain ⟨o, e, _⟩ := T.obj _ _ st6 b hb
            exact (pinfp b hb o e).2
        | true =>
        refine thn (he _ _ _ _ _ s7' τ7 H7' _ I7' q7') fun v' s8 ⟨y, H8, I8, r8, n8⟩ => ?_
        obtain ⟨m', hm', w8⟩ := hN _ _ n8
        have pin8 := I8.pin (s2.heap.objs.size, { cls := .type "list", data := .seq its.toArray k }) (by simp [blk])
        have pinfp : ∀ b ∈ fp, ∀ o, s6.heap.get? b = some o → s8.heap.get? b = some o ∧ H8 b = none := fun b hb o e => by
          have := I8.pin (b, o) (List.mem_append_right _ (List.mem_append_right _ (mem_pinsAt hb e)))
          exact ⟨this.1, this.2.1⟩
        refine wpAny_list_append_plain (items := its.toArray) ⟨k, pin8.1⟩ (fun h' ha' hs' => ?_) (by have := vl.length; simp; omega)
        obtain ⟨k', ha'⟩ := ha'
        have I9 : Inv Y [] τ7 H8 { s8 with heap := h' } := by
          refine (I8.pins_of (pins' := []) (by simp)).turned (t' := s8.toks) (it := s2.heap.objs.size) (fun b o hb e => (hs'.2 b hb).trans e) pin8.2.1 ?_ (.inr (Nat.le_refl _)) (fun x c e => acccell x c e) (fun p hp => absurd (show p ∈ ([] : List (Addr × Obj)) from by simpa [Y, blk] using hp) (by simp))
          exact hDC
        have ea : (its.toArray.push v') = (its ++ [v']).toArray := by simp
        rw [ea] at ha'
        refine ⟨m', hm', i + 1, ys ++ [y], τ7, H8, its ++ [v'], k', I9.pins_of ?_, T.keep _ _ _ st6 fun b hb o e => (hs'.2 b (below b (fplt b hb)).2).trans (pinfp b hb o e).1, fun b hb => ?_, vl.append (.cons r8 .nil), ?_, w8⟩
        · intro p hp
          rw [List.mem_singleton.mp hp]
          exact ⟨ha', pin8.2.1, hDC, accfs, fun v z => by cases z⟩
        · obtain ⟨o, e, _⟩ := T.obj _ _ st6 b hb
          exact (pinfp b hb o e).2
        · rw [List.length_append, List.length_singleton]; omega
    · refine ⟨0, [], σ0 own.length js σ, H2, [], 0, I3.pins_of ?_, st3, fun b hb => (f2 b hb).1, .nil, Nat.zero_le _, w0⟩
      intro p hp
      rw [List.mem_singleton.mp hp]
      exact ⟨ha3, I2.hok.fresh (Nat.le_refl _), hDC, accfs, fun v z => by cases z⟩
  have st1 : tn 0 h₁ := T.keep _ _ _ st2 fun b _ o e => old b o e
  exact codeAny_compStart_list (loop _ IY st1 hacc) (T.self _ 0 _ _ _ st1 (loop _ IY st1 hacc))
theorem pe_compF {elt tg iter cnd : Expr} {scope : Scope} {cl : List (Str × Addr)} {pos : Pos} {fr own : List Str} {js : List Nat} {wi : TI} {g : TG} {tc : TT} {te : TE}
    (hc : X.calm = true) (hi : PI X tg iter wi) (hclos : closureFor scope X.env = pure cl) (hcl : ∀ y c, cl.lookup y = some c → X.env.cells.lookup y = some c) (hfr : cl.map (·.1) = fr)
    (S : BScope X scope fr js)
    (hg : ∀ C s H fp, PG (blk X (own ++ fr) scope cl C s H fp) tg g) (ht : ∀ C s H fp, PT (blk X (own ++ fr) scope cl C s H fp) cnd tc) (he : ∀ C s H fp, PE (blk X (own ++ fr) scope cl C s H fp) elt te)
    (hs : ∀ x, foldedSetIterable iter X.env x = pure x := by intro _; rfl) :
    PE X (.ListComp elt [⟨tg, iter, [cnd], 0⟩] scope pos) (tCompF own.length js wi g tc te) := by
  intro pins s σ H Q I h
  rw [eval_ListComp]
  refine comp_runF (use := none) hc hi hclos hcl hfr S hg ht he hs I h fun acc C s5 H' m I5 hn aw q => ?_
  exact ⟨m, hn, fun h' hs' => ⟨.ref acc, H', I5.turned (t' := s5.toks) (fun b o hb e => (hs'.2 b hb).trans e) aw.free aw.loc (.inr aw.new) aw.cell aw.pin, rfl, q⟩⟩
theorem qe_compF {elt tg iter cnd : Expr} {scope : Scope} {cl : List (Str × Addr)} {pos : Pos} {fr own : List Str} {js : List Nat} {wi : TI} {g : TG} {tc : TT} {te : TE}
    (hc : X.calm = true) (hi : QI X tg iter wi) (hclos : closureFor scope X.env = pure cl) (hcl : ∀ y c, cl.lookup y = some c → X.env.cells.lookup y = some c) (hfr : cl.map (·.1) = fr)
    (S : BScope X scope fr js)
    (hg : ∀ C s H fp, QG (blk X (own ++ fr) scope cl C s H fp) tg g) (ht : ∀ C s H fp, QT (blk X (own ++ fr) scope cl C s H fp) cnd tc) (he : ∀ C s H fp, QE (blk X (own ++ fr) scope cl C s H fp) elt te)
    (hs : ∀ x, foldedSetIterable iter X.env x = pure x := by intro _; rfl) :
    QE X (.ListComp elt [⟨tg, iter, [cnd], 0⟩] scope pos) (tCompF own.length js wi g tc te) := ⟨pe_compF hc hi.h hclos hcl hfr S (fun C s H fp => (hg C s H fp).h) (fun C s H fp => (ht C s H fp).h) (fun C s H fp => (he C s H fp).h) hs⟩
section
variable {js : List Nat} {tc : TT} {te : TE} {σ : L2.St} {H : Hp} {Q : VK} {K : PySem.W.Frag}
abbrev CompWF (J : It) (js : List Nat) (tc : TT) (te : TE) (σ : L2.St) (H1 : Hp) (Q : VK) : Prop := CompGF 1 js (gName 0) tc te σ Q J H1
theorem compF_gen {J : It} {n : Nat} (hn : n ≤ sizeLine) (item : Nat → V → Prop) (Pv : Nat → List V → Hp → Prop) (h0 : Pv 0 [] H) (hgo : ∀ i ys H, i < n → Pv i ys H → J.go i H) (hst : ∀ ys H, Pv n ys H → J.stop n H)
    (hy : ∀ i ys H x H', i < n → Pv i ys H → J.yld i H x H' → H' = H ∧ item i x)
    (hs : ∀ i ys H x, i < n → Pv i ys H → item i x → tc (some x :: frees js σ) H fun c H3 => if c = true then te (some x :: frees js σ) H3 (fun v H4 => Pv (i + 1) (ys ++ [v]) H4) else Pv (i + 1) ys H3)
    (hd : ∀ ys H, Pv n ys H → ∀ p, H p = none → Q (.ref p) (upd H p (.lst ys))) : CompWF J js tc te σ H Q := by
  refine ⟨fun i m ys τ H => m = n - i ∧ i ≤ n ∧ ys.length ≤ i ∧ Pv i ys H ∧ ∃ o, τ = o :: frees js σ, ⟨n, by simp, Nat.zero_le _, Nat.le_refl _, h0, none, rfl⟩, ?_⟩
  rintro i m ys τ H ⟨rfl, hi, hl, p, o, rfl⟩
  by_cases hlt : i < n
  · refine .inr ⟨hgo i ys H hlt p, by omega, fun x H' y => ?_⟩
    obtain ⟨e, hx⟩ := hy i ys H x H' hlt p y
    subst e
    exact ⟨fun v H3 => Pv (i + 1) (ys ++ [v]) H3, fun H3 => Pv (i + 1) ys H3, fun v H3 p3 => ⟨n - (i + 1), by omega, rfl, hlt, by simp; omega, p3, _, rfl⟩, fun H3 p3 => ⟨n - (i + 1), by omega, rfl, hlt, by omega, p3, _, rfl⟩, hs i ys _ x hlt p hx⟩
  · have e : i = n := by omega
    subst e
    exact .inl ⟨hst ys H p, hd ys H p⟩
theorem compF_list {a : Addr} {xs : List V} (hn : xs.length ≤ sizeLine) (Pv : Nat → List V → Hp → Prop) (h0 : Pv 0 [] H) (hl : ∀ i ys H, Pv i ys H → SqL K H a xs)
    (hs : ∀ i ys H x, xs[i]? = some x → Pv i ys H → tc (some x :: frees js σ) H fun c H3 => if c = true then te (some x :: frees js σ) H3 (fun v H4 => Pv (i + 1) (ys ++ [v]) H4) else Pv (i + 1) ys H3)
    (hd : ∀ ys H, Pv xs.length ys H → ∀ p, H p = none → Q (.ref p) (upd H p (.lst ys))) : CompWF (Itl K a) js tc te σ H Q :=
  compF_gen hn (fun i x => xs[i]? = some x) Pv h0 (fun i ys H hi p => ⟨xs, xs[i], hl _ _ _ p, by simp [hi]⟩) (fun ys H p => ⟨xs, hl _ _ _ p, Nat.le_refl _⟩) (fun i ys H x H' _ p y => ⟨y.1, y.2 xs (hl _ _ _ p)⟩) (fun i ys H x _ p hx => hs i ys H x hx p) hd
end
def okC (x y : Option Int) : List Int := (match x with | some i => [i] | none => []) ++ (match y with | some i => [i] | none => [])
theorem call_maxL (hc : X.calm = true) : CallR X (.builtin "max") (fun xs H Q => ∃ (p : Addr) (ns : List Int), xs = [.ref p] ∧ H p = some (.lst (ns.map V.int)) ∧ 0 < ns.length ∧ ∀ M, M ∈ ns → (∀ a ∈ ns, a ≤ M) → Q (.int M) H) := by
  intro pins s σ H xs us Q I r h
  obtain ⟨p, ns, rfl, hH, hne, q⟩ := h
  obtain ⟨u, rfl, ru⟩ := vals1 r
  cases ru
  obtain ⟨z, its, n, rv, hl, e⟩ := I.lstM hH
  have hi : IntsAre its ns := intsAre_of rv
  obtain ⟨ys, ey⟩ := hi.allInts.items
  have hns : ns = ys.toList.map (·.1) := by rw [← hi.numsOf, ← nums_intItems, ← ey]
  have hsz : 0 < ys.size := by
    have h3 := hne; rw [hns, List.length_map, Array.length_toList] at h3; exact h3
  have hL : s.heap.IsList p (intItems ys) := by
    rw [← ey]
    exact ⟨_, e, rfl, ⟨n, rfl⟩⟩
  refine max_intList (I.ok.hd hc) hL hsz fun v h' tk hv hk => ?_
  obtain ⟨t, rfl⟩ := intItems_at hv
  obtain ⟨h1, h2⟩ := argBest_gt (numAt ys) (ys.size - 1)
  refine ⟨.int (numAt ys (argBest (fun i j => decide (numAt ys i > numAt ys j)) (ys.size - 1))), H, I.kept (t' := tk) hk, ⟨_, rfl⟩, q _ ?_ fun a ha => ?_⟩
  · rw [hns, numAt_eq]; exact PySem.getD_mem (by rw [List.length_map, Array.length_toList]; omega)
  · rw [hns] at ha
    obtain ⟨j, hj, rfl⟩ := mem_getD ha
    rw [List.length_map, Array.length_toList] at hj
    rw [← numAt_eq]; exact h2 j (by omega)
section
variable {o i e value : Expr} {pos pos' tpos : Pos} {td ty tv : TE}
theorem qe_dget {k : Nat} (hr : Room k X.A) (ho : QE X o td) (hi : QE X i ty) (hs : NoSl i := by exact fun _ _ => rfl) : QE X (.Subscript o i pos) (tDGet td ty) := ⟨pe_dget (by have := hr.un; omega) ho.h hi.h hs⟩
theorem qs_dputK {k : Nat} (hr : Room k X.A) (ho : QE X o td) (hi : QE X i ty) (hv : QE X value tv) (hs : swapsWith value (some (.Subscript o i pos')) pos.line X.env = pure false := by rfl) :
    QS X (.Assign [.Subscript o i pos'] value pos) (sDPut td ty tv) := ⟨ps_dput (by have := hr.un; omega) ho.h hi.h hv.h hs⟩
structure QPs (X : Cx) (pos : Pos) (keys : List (Option Expr)) (values : List Expr) (trs : List (TE × TE)) : Prop where
  h : PPs X pos keys values trs
theorem qps_nil : QPs X pos [] [] [] := ⟨pps_nil⟩
theorem qps_cons {k v : Expr} {ks : List (Option Expr)} {vs : List Expr} {tk tv : TE} {trs : List (TE × TE)} (hk : QE X k tk) (hv : QE X v tv) (hr : QPs X pos ks vs trs) : QPs X pos (some k :: ks) (v :: vs) ((tk, tv) :: trs) := ⟨pps_cons hk.h hv.h hr.h⟩
theorem qe_disp {keys : List (Option Expr)} {values : List Expr} {trs : List (TE × TE)} (h : QPs X pos keys values trs) (hall : keys.all (·.isSome) = true := by rfl) (hl : keys.length = values.length := by rfl) (h0 : keys ≠ [] := by (intro z; cases z))
    (h15 : keys.length ≤ 15 := by decide) : QE X (.Dict keys values pos) (tDisp trs) := ⟨pe_disp h.h hall hl h0 h15⟩
end
theorem valV_at {k : Key} {v : V} : ∀ {kvs : List (Key × V)} (i : Nat), kvs[i]? = some (k, v) → (kvs.map (·.1)).Nodup → valV kvs k = some v
  | [], i, h, _ => by cases h
  | p :: r, 0, h, _ => by
    cases Option.some.inj h
    exact valV_pos rfl
  | p :: r, i + 1, h, nd => by
    have h' : r[i]? = some (k, v) := h
    have nd' : p.1 ∉ r.map (·.1) ∧ (r.map (·.1)).Nodup := List.nodup_cons.mp nd
    have hm : k ∈ r.map (·.1) := List.mem_map.mpr ⟨(k, v), List.mem_of_getElem? h', rfl⟩
    have ne : p.1 ≠ k := fun z => nd'.1 (z ▸ hm)
    rw [valV_neg ne]
    exact valV_at i h' nd'.2
theorem putK_set {k : Key} {v u : V} {kvs : List (Key × V)} (i : Nat) (h : kvs[i]? = some (k, u)) (nd : (kvs.map (·.1)).Nodup) : putK kvs k v = kvs.set i (k, v) := by
  have hil : i < kvs.length := (List.getElem?_eq_some_iff.mp h).1
  have hik := (List.getElem?_eq_some_iff.mp h).2
  unfold putK
  rw [if_pos]
  · refine List.ext_getElem (by simp) fun j h1 h2 => ?_
    rw [List.getElem_map, List.getElem_set]
    have hj : j < kvs.length := by simpa using h1
    by_cases e : i = j
    · subst e
      rw [if_pos (by rw [hik]), if_pos rfl, hik]
    · rw [if_neg e, if_neg]
      intro z
      have h3 : (kvs.map (·.1))[i]'(by simpa using hil) = (kvs.map (·.1))[j]'(by simpa using hj) := by rw [List.getElem_map, List.getElem_map, hik, z]
      exact e ((List.getElem_inj nd).mp h3)
  · rw [List.any_eq_true]
    exact ⟨kvs[i], List.getElem_mem hil, by rw [hik]; exact decide_eq_true rfl⟩
theorem putK_no {k : Key} {v : V} {kvs : List (Key × V)} (h : k ∉ kvs.map (·.1)) : putK kvs k v = kvs ++ [(k, v)] := by
  unfold putK
  rw [if_neg]
  intro z
  obtain ⟨p, hp, e⟩ := List.any_eq_true.mp z
  exact h (List.mem_map.mpr ⟨p, hp, of_decide_eq_true e⟩)
end L3
namespace L3
open PySem PySem.Spec PyProof.Rows L2
open PySem.W (kdl_dict kdl_extend)
section
variable {prog : Program} {w : World} {A : Around} {E : Value → Shared → Prop} {s : Shared}
end
end L3
namespace L3
open PySem PySem.Spec PyProof.Rows L2
section
variable {X : Cx} {o e f : Expr} {apos cpos pos : Pos} {td ty tx : TE}
end
section
variable {K : PySem.W.Frag} {C : Addr} {H H' : Hp} {p ta hk bd lg dx : Addr} {n : Nat} {D : Dr}
end
end L3
namespace L3
open PySem PySem.Spec PyProof.Rows L2
section
variable (K : PySem.W.Frag) (C : Addr)
end
theorem iteD {c : Bool} {a b : Prop} (h : c = true) (x : a) : if c = true then a else b := by rw [if_pos h]; exact x
theorem iteE {c : Bool} {a b : Prop} (h : c = false) (x : b) : if c = true then a else b := by rw [if_neg (by rw [h]; intro z; cases z)]; exact x
section
variable (K : PySem.W.Frag) (C : Addr)
end
end L3
namespace L3
open PySem PySem.Spec PyProof.Rows L2
end L3
namespace L3
open PySem PySem.Spec PyProof.Rows L2
section
variable {K : PySem.W.Frag} {H H' : Hp} {m mt mk kd : Addr} {D : Dr}
end
end L3
namespace L3
open PySem PySem.Spec PyProof.Rows L2
end L3
namespace L3
open PySem PySem.Spec PyProof.Rows L2
section
variable {K : PySem.W.Frag} {C : Addr} {H H' : Hp} {a : Ad} {n : Nat} {D : Dr}
end
section
variable {K : PySem.W.Frag} {C : Addr} {H H' : Hp} {a : Ad} {n : Nat} {D : Dr} {kl : Kw}
end
end L3
namespace L3
open PySem PySem.Spec PyProof.Rows L2
section
variable {K : PySem.W.Frag} {C : Addr} {H0 H H' : Hp} {b nl : Addr} {ns : List Str} {a : Ad} {D : Dr} {nb nb' i : Nat} {kn : Kw}
end
end L3
namespace L3
open PySem PySem.Spec PyProof.Rows L2
end L3
namespace L3
open PySem PySem.Spec PyProof.Rows L2
end L3
namespace L3
open PySem PySem.Spec PyProof.Rows L2
section
variable {K : PySem.W.Frag} {H H' : Hp} {m mt mk kd : Addr} {D : Dr}
end
end L3
namespace L3
open PySem PySem.Spec PyProof.Rows L2
section
variable {js : List Nat} {tc : TT} {te : TE} {σ : L2.St} {H : Hp} {Q : VK} {K : PySem.W.Frag}
end
end L3
namespace L3
open PySem PySem.Spec PyProof.Rows L2
end L3
namespace L3
open PySem PySem.Spec PyProof.Rows L2
section
variable {K : PySem.W.Frag} {C : Addr} {H : Hp} {p ta hk bd lg dx : Addr} {D : Dr}
end
end L3
namespace L3
open PySem PySem.Spec PyProof.Rows L2
end L3
namespace L3
open PySem PySem.Spec PyProof.Rows L2
theorem if_key {tt : TT} {tb te : TS} {u : TS} {D : Ends} {σ : L2.St} {H : Hp} (R : L2.St → Hp → Prop) (k : ∀ D' : Ends, (∀ σ' H', R σ' H' → D'.nx σ' H') → tIfS tt tb te D' σ H) (r : ∀ σ' H', R σ' H' → u D σ' H') : tSeq (tIfS tt tb te) u D σ H := k { D with nx := u D } r
end L3
namespace L3
open PySem PySem.Spec PyProof.Rows L2
end L3
namespace L3
open PySem PySem.Spec PyProof.Rows L2
section
variable {K : PySem.W.Frag} {C : Addr} {H H' : Hp} {a : Ad} {n : Nat} {D : Dr} {kl : Kw}
end
section
variable {K : PySem.W.Frag} {C : Addr} {H0 H H' : Hp} {b nl nd : Addr} {nms : List Str} {a : Ad} {nb n L : Nat} {D : Dr} {kl : Kw} {g : Str → Option (Int × Int)}
end
end L3
namespace L3
open PySem PySem.Spec PyProof.Rows L2
section
variable {X : Cx} {o e : Expr} {apos cpos pos : Pos} {td ty : TE}
theorem qs_while {c : Expr} {body : List Stmt} {tc : TT} {tb : TS} (hp : PassesOwn (model X.prog X.w) X.A X.env X.xe) (hc : QT X c tc) (hb : QSs X body tb) : QS X (.While c body [] pos) (tWhile tc tb) := ⟨ps_while hp hc.h hb.h⟩
end
end L3
namespace L3
open PySem PySem.Spec PyProof.Rows L2
section
variable {K : PySem.W.Frag} {C : Addr} {H H' : Hp} {b lf gn lr pl : Addr} {a : Ad} {nb n : Nat} {D : Dr} {kn kl kn1 : Kw} {ps : List Pp} {left gone : List Str}
end
end L3
namespace L3
open PySem PySem.Spec PyProof.Rows L2
section
variable {K : PySem.W.Frag} {C : Addr} {H0 H H' : Hp} {nl lr pl b : Addr} {nms : List Str} {a : Ad} {n nb nb' : Nat} {D : Dr} {kn kn1 : Kw} {ps : List Pp}
end
end L3
namespace L3
open PySem PySem.Spec PyProof.Rows L2
end L3
namespace L3
open PySem PySem.Spec PyProof.Rows L2
section
variable {K : PySem.W.Frag} {C : Addr} {H H' : Hp} {a : Ad} {n : Nat} {D : Dr} {bx nl : Addr} {nb : Nat} {nms : List Str}
end
end L3
namespace L3
open PySem PySem.Spec PyProof.Rows L2
section
variable {K : PySem.W.Frag} {C : Addr} {H0 H H' : Hp} {b nl : Addr} {nms : List Str} {a : Ad} {nb nb' n n' : Nat} {D D' : Dr}
end
end L3
namespace PySem
open Sem (wp)
end PySem
namespace PyProof.Rows
open PySem PySem.Spec
section
variable {prog : Program} {w : World} {A : Around} {R : Result → Shared → Prop} {I : Addr} {fp wr : List Addr} {G : Array GenState → Array GenState → Prop} {n : Nat} {P : Nat → Value → Prop} {St : Nat → Shared → Prop}
end
end PyProof.Rows
namespace PySem
open PyProof.Rows
section
variable {prog : Program} {w : World} {K : Type} [DecidableEq K] {knd : PySem.KeyKind prog w K} {A : Around} {E : Value → Shared → Prop} {s : Shared}
end
end PySem
namespace L3
open PySem PySem.Spec PyProof.Rows L2
end L3
namespace L3
open PySem PySem.Spec PyProof.Rows L2
section
variable {js : List Nat} {te : TE} {σ : L2.St} {H : Hp} {Q : VK}
end
end L3
namespace L3
open PySem PySem.Spec PyProof.Rows L2
end L3
namespace L3
open PySem PySem.Spec PyProof.Rows L2
end L3
namespace L3
open PySem PySem.Spec PyProof.Rows L2
section
variable {K : PySem.W.Frag} {C : Addr} {H0 H H' : Hp} {a : Ad} {n n' : Nat} {D D' : Dr} {kl : Kw} {hd kp b : Addr} {as : List Addr} {ps : List Pp} {nb nb' : Nat}
end
end L3
namespace L3
open PySem PySem.Spec PyProof.Rows L2
end L3
namespace L3
open PySem PySem.Spec PyProof.Rows L2
section
variable {K : PySem.W.Frag} {C : Addr} {H0 H H' : Hp} {a : Ad} {n n' : Nat} {D D' : Dr} {kl : Kw} {hd kp b nl : Addr} {as : List Addr} {ps : List Pp} {nb nb' : Nat} {nn : List Str}
end
end L3
namespace L3
open PySem PySem.Spec PyProof.Rows L2
def freeO (o : Obj) : Obj := { o with data := .freed }
def strip (h : Heap) : List Addr → Heap
  | [] => h
  | a :: S => (strip h S).update a freeO
theorem get_free (h : Heap) (a : Addr) : (h.update a freeO).get? a = none := by
  obtain ⟨objs, l⟩ := h
  show (match (objs.modify a freeO)[a]? with | some ⟨_, _, .freed, _⟩ => none | o => o) = none
  rw [Array.getElem?_modify]
  simp only [if_true]
  cases objs[a]? with
  | none => rfl
  | some o => rfl
theorem strip_in {h : Heap} {b : Addr} : ∀ {S : List Addr}, b ∈ S → (strip h S).get? b = none
  | a :: S, m => by
    show ((strip h S).update a freeO).get? b = none
    by_cases e : a = b
    · subst e; exact get_free _ _
    · rw [Heap.get?_update_other _ _ e]
      rcases List.mem_cons.mp m with z | z
      · exact absurd z.symm e
      · exact strip_in z
theorem strip_out {h : Heap} {b : Addr} : ∀ {S : List Addr}, b ∉ S → (strip h S).get? b = h.get? b
  | [], _ => rfl
  | a :: S, m => by
    show ((strip h S).update a freeO).get? b = h.get? b
    rw [Heap.get?_update_other _ _ (fun e => m (by rw [e]; exact List.mem_cons_self ..))]
    exact strip_out fun z => m (List.mem_cons_of_mem _ z)
theorem strip_some {h : Heap} {b : Addr} {o : Obj} {S : List Addr} (e : (strip h S).get? b = some o) : b ∉ S ∧ h.get? b = some o := by
  by_cases z : b ∈ S
  · rw [strip_in z] at e; cases e
  · rw [strip_out z] at e; exact ⟨z, e⟩
theorem funFrames_on {h B B' : Heap} : ∀ {l : List Env}, h.FunFrames B l → (∀ b ∈ frs l, B'.get? b = none) → h.FunFrames B' l
  | [], _, _ => trivial
  | env :: r, ⟨k, ⟨L, o, hf, hb, ho, hn⟩, t⟩, q => by
    have e : frs (env :: r) = L :: frs r := by unfold frs; rw [List.filterMap_cons_some hf]
    rw [e] at q
    exact ⟨k, ⟨L, o, hf, q L (List.mem_cons_self ..), ho, hn⟩, funFrames_on t fun b hb => q b (List.mem_cons_of_mem _ hb)⟩
end L3
namespace L3
open PySem PySem.Spec PyProof.Rows L2
def Tr (h : Heap) (e : Addr) (cls : Value) (T : Addr) : Prop :=
  ∃ oe vs oT ts a0, h.get? e = some oe ∧ oe.cls = cls ∧ oe.data = .fields vs ∧ vs[0]? = some a0 ∧ vs[1]? = some (.ref T) ∧ T ≠ e ∧ h.get? T = some oT ∧ oT.data = .fields ts ∧ ts[3]? = some .none
theorem leave_exact {M : Model} {A : Around} {E : Value → Shared → Prop} {s : Shared} {env : Env} {outer : List Env} {L e : Addr} {cls : Value} {args : List Value} {h B : Heap} {Q : Unit → Shared → Prop}
    (hfr : A.frames = some (env :: outer)) (hf : env.frame = some L) (hl : h.FunFrames B (env :: outer)) (hx : Heap.MadeExcOf h s.heap e cls args)
    (hQ : ∀ h' T, (∀ b o, b ∉ frs (env :: outer) → h.get? b = some o → h'.get? b = some o) → (∀ b o, h.get? b = some o → b ∈ frs (env :: outer) → ∃ sl, h'.get? b = some { o with slots := sl }) → h.get? T = none → Tr h' e cls T → Q () { s with heap := h' }) :
    wpAny M A (leaving env (.ref e)) Q E s := by
  have hl' : h.FunFrames (strip h (frs (env :: outer))) (env :: outer) := funFrames_on hl fun b hb => strip_in hb
  refine wpAny_leaves_madeW (base := strip h (frs (env :: outer))) hfr hf (fun b o q => (strip_some q).2) hl' hx fun h' t fl tu tn up => ?_
  obtain ⟨k1, k2, k3, oe, vs, T, oT, ts, he, ⟨hc, h0⟩, hd, h1, hnT, hTe, hT, hdT, h3⟩ := fl
  have sl : ∀ b o, h.get? b = some o → b ∈ frs (env :: outer) → ∃ sl, h'.get? b = some { o with slots := sl } := fun b o hb hm => by
    obtain ⟨_, o', ho', hnf⟩ := hl.mem hm
    rw [hb] at ho'; cases ho'
    exact up b o (hx.keeps b o hb) hnf
  refine hQ h' T (fun b o hb q => k1 b o (by rw [strip_out hb]; exact q)) sl ?_ ⟨oe, vs, oT, ts, _, he, hc, hd, h0, h1, hTe, hT, hdT, h3⟩
  by_cases hm : T ∈ frs (env :: outer)
  · obtain ⟨_, o', ho', hnf⟩ := hl.mem hm
    obtain ⟨s1, e1⟩ := sl T o' ho' hm
    rw [hT] at e1; cases e1
    exact absurd hdT (hnf ts)
  · rw [strip_out hm] at hnT; exact hnT
theorem ObjOk.got {P : Program} {w : World} {H : Hp} {h : Heap} {a : Addr} {o : HO} (x : ObjOk P w H h a o) : ∃ u, h.get? a = some u := by
  cases o with
  | lst xs => obtain ⟨_, _, _, _, e⟩ := x; exact ⟨_, e⟩
  | tup xs => obtain ⟨_, _, _, ob, e, _⟩ := x; exact ⟨_, e⟩
  | dK kvs => obtain ⟨_, _, _, _, o, _, _, e, _⟩ := x; exact ⟨_, e⟩
  | dT kvs => obtain ⟨_, _, _, _, o, _, _, e, _⟩ := x; exact ⟨_, e⟩
  | set S n => obtain ⟨o, _, _, _, e, _⟩ := x; exact ⟨_, e⟩
  | ins C dx fs => obtain ⟨_, _, _, e, _⟩ := x; exact ⟨_, e⟩
  | own y => exact x
  | xd fs => obtain ⟨_, ⟨_, _, _, e, _⟩, _⟩ := x; exact ⟨_, e⟩
  | rng lo hi => obtain ⟨_, _, _, e⟩ := x; exact ⟨_, e⟩
  | frz ob u => obtain ⟨e, _⟩ := x; exact ⟨_, e⟩
  | tbl ps => exact ⟨_, x⟩
  | met f y => exact ⟨_, x⟩
  | ext φ => obtain ⟨_, e, _⟩ := x; exact e
def ExcO (a : Addr) (cls : Value) : HO := .ext fun h => ∃ o vs, h.get? a = some o ∧ o.cls = cls ∧ o.data = .fields vs
theorem ExcO.ok {P : Program} {w : World} {H : Hp} {h : Heap} {a : Addr} {cls : Value} {o : Obj} {vs : Array Value} (e : h.get? a = some o) (c : o.cls = cls) (d : o.data = .fields vs) : ObjOk P w H h a (ExcO a cls) :=
  ⟨⟨o, vs, e, c, d⟩, ⟨o, e⟩, fun h1 h2 ⟨o, vs, e, c, d⟩ k => ⟨o, vs, k o e, c, d⟩⟩
def CX1 (P : Program) (w : World) : CXT := fun outer H s E e s' => ∃ a cls T H', e = .ref a ∧ s'.os = s.os ∧ AllBare s'.gens ∧ Un (frs outer) [] H H' s.heap s'.heap ∧ HOk P w H' s'.heap ∧
  H' a = some (ExcO a cls) ∧ s.heap.get? a = none ∧ s.heap.get? T = none ∧ H' T = none ∧ Tr s'.heap a cls T ∧ E (.ref a) none H'
end L3
namespace L3
open PySem PySem.Spec PyProof.Rows L2
theorem HOk.none {P : Program} {w : World} {H : Hp} {h : Heap} {a : Addr} (x : HOk P w H h) (e : h.get? a = none) : H a = none := by
  cases q : H a with
  | none => rfl
  | some u =>
    obtain ⟨v, hv⟩ := ObjOk.got (x a u q)
    rw [e] at hv; cases hv
theorem cx1_throws {P : Program} {w : World} {K : PySem.W.Frag} {mg : Str → Option Value} {base : Heap} {N : List Str} {qual : Str} {scope : Scope} {f : Addr} {cd : Value} {A : Around} {outer : List Env} {s0 : Shared} {H0 : Hp} {E : XK}
    {pins : List (Addr × Obj)} {σ : L2.St} {H : Hp} {s : Shared} (I : L2.Inv (cxOf (CX1 P w) P w K mg base N qual scope f cd A outer s0 H0 E) pins σ H s) {h' : Heap} {e : Addr} {cls : Value} {args : List Value}
    (hx : Heap.MadeExcOf s.heap h' e cls args) (q : E (.ref e) none (upd H e (ExcO e cls))) : (cxOf (CX1 P w) P w K mg base N qual scope f cd A outer s0 H0 E).xe (.ref e) { s with heap := h' } := by
  have hHe : H e = none := HOk.none I.hok hx.new
  refine leave_exact (h := s.heap) (L := s0.heap.objs.size) I.ok.frames rfl I.stack hx fun h'' T kp sl hT tr => ?_
  have ub : Un (frs outer) [] H0 H s0.heap s.heap := I.base
  have ab : ∀ b o, s0.heap.get? b = some o → b ≠ s0.heap.objs.size := fun b o e z => absurd (Heap.lt_size e) (by rw [z]; exact Nat.lt_irrefl _)
  have fe : frs ((cxOf (CX1 P w) P w K mg base N qual scope f cd A outer s0 H0 E).stack) = s0.heap.objs.size :: frs outer := rfl
  have noS : ∀ b o, s0.heap.get? b = some o → b ≠ e ∧ b ≠ T := fun b o hb => by
    obtain ⟨o', ho'⟩ := ub.there b o hb (by simp)
    exact ⟨fun z => by (rw [z, hx.new] at ho'; cases ho'), fun z => by (rw [z, hT] at ho'; cases ho')⟩
  have hHT : H T = none := HOk.none I.hok hT
  have hTe : T ≠ e := by obtain ⟨_, _, _, _, _, _, _, _, _, _, z, _⟩ := id tr; exact z
  have s0n : ∀ b, s.heap.get? b = none → s0.heap.get? b = none := fun b hb => by
    cases z : s0.heap.get? b with
    | none => rfl
    | some o =>
      obtain ⟨o', ho'⟩ := ub.there b o z (by simp)
      rw [hb] at ho'; cases ho'
  refine ⟨e, cls, T, upd H e (ExcO e cls), rfl, I.os, I.bare, ⟨fun b o hb hn hf _ => ?_, fun b o hb hn hf _ => ?_, fun b o hb hn _ => ?_, fun b o hb _ => ?_, fun b xs hb => ?_, fun b o u hb => ?_, fun b ps hb => ?_⟩, fun b u hb => ?_, upd_same, s0n e hx.new, s0n T hT, by rw [upd_ne hTe]; exact hHT, tr, q⟩
  · refine kp b o ?_ (ub.keep b o hb hn hf (by simp))
    show b ∉ s0.heap.objs.size :: frs outer
    intro z
    rcases List.mem_cons.mp z with z | z
    · exact ab b o hb z
    · exact hf z
  · obtain ⟨s1, e1⟩ := ub.slot b o hb hn hf (by simp)
    obtain ⟨s2, e2⟩ := sl b _ e1 (List.mem_cons_of_mem _ hf)
    exact ⟨s2, e2⟩
  · rw [upd_ne (noS b o hb).1]
    exact ub.free b o hb hn (by simp)
  · obtain ⟨o', ho'⟩ := ub.there b o hb (by simp)
    by_cases z : b ∈ s0.heap.objs.size :: frs outer
    · obtain ⟨s2, e2⟩ := sl b _ ho' z
      exact ⟨_, e2⟩
    · exact ⟨_, kp b _ z ho'⟩
  · have := ub.tups b xs hb
    rw [upd_ne (ne_of_none this hHe)]; exact this
  · have := ub.frzs b o u hb
    rw [upd_ne (ne_of_none this hHe)]; exact this
  · obtain ⟨more, e1⟩ := ub.tbls b ps hb
    exact ⟨more, by rw [upd_ne (ne_of_none e1 hHe)]; exact e1⟩
  · by_cases z : b = e
    · subst z
      rw [upd_same] at hb; cases hb
      obtain ⟨oe, vs, _, _, _, he, hc, hd, _⟩ := id tr
      exact ExcO.ok he hc hd
    · rw [upd_ne z] at hb
      have tk : ∀ c u, H c = some u → c ∉ s0.heap.objs.size :: frs outer := fun c u hc hm => by
        have := I.stkFree c hm
        rw [hc] at this; cases this
      refine (I.hok b u hb).stay (fun c v hc hv => kp c v ?_ hv) (fun c hc => by rw [upd_ne (ne_of_none hc hHe)]; exact hc) (fun c xs hc => by rw [upd_ne (ne_of_none hc hHe)]; exact hc)
      rcases hc with rfl | hc
      · exact tk _ _ hb
      · exact tk _ _ hc
end L3
namespace L3
open PySem PySem.Spec PyProof.Rows L2
def excB (K : PySem.W.Frag) (C : Addr) (bm bmB : List Value) (newId : String) : Bool := match K.lookup C with
  | some ⟨.type "type", _, .cls cd, sl⟩ => (match sl.toList with
    | [_, _, _, _, some (.builtin n), _] => cd.mro == .ref C :: bm && n == newId && !cd.hasDel && PySem.W.tailIn K bmB bm && PySem.W.nsOkIn K cd.ns && PySem.W.nsIn K cd.ns "__init__" == some none
    | _ => false)
  | _ => false
theorem exc_in {K : PySem.W.Frag} {h : Heap} {C : Addr} {bm bmB : List Value} {newId : String} (X : K.In h) (q : excB K C bm bmB newId = true) :
    ∃ N nm qn bs hdct sn sub ab col dd k0 k1 k2 k3 k5 mN, h.get? C = some (excClassObj nm qn C N bs bm hdct sn sub ab col dd k0 k1 k2 k3 k5 newId) ∧ h.Ns N mN ∧ mN "__init__" = none ∧ OwnTail h bmB bm := by
  unfold excB at q
  split at q
  · rename_i dd cd sl ho
    split at q
    · rename_i k0 k1 k2 k3 n k5 hs
      simp only [Bool.and_eq_true, beq_iff_eq, Bool.not_eq_true'] at q
      obtain ⟨⟨⟨⟨⟨hm, rfl⟩, hdel⟩, ht⟩, hok⟩, hni⟩ := q
      obtain ⟨nm, bs, mro, ns, qn, hd, sn, sub, ab, col, del⟩ := cd
      dsimp only at hm hdel hok hni
      subst hm hdel
      obtain ⟨l⟩ := sl
      simp only at hs
      subst hs
      exact ⟨ns, nm, qn, bs, hd, sn, sub, ab, col, dd, k0, k1, k2, k3, k5, _, X _ _ ho, .of_isNs (PySem.W.isNs_of_in X hok), PySem.W.nsMap_none_of_in X hok hni, PySem.W.tail_of_in X ht⟩
    · cases q
  · cases q
def Throws (X : Cx) (Ex : XK) : Prop := ∀ (pins : List (Addr × Obj)) (σ : L2.St) (H : Hp) (s : Shared) (h' : Heap) (e : Addr) (cls : Value) (args : List Value), L2.Inv X pins σ H s → Heap.MadeExcOf s.heap h' e cls args → Ex (.ref e) none (upd H e (ExcO e cls)) → X.xe (.ref e) { s with heap := h' }
def sRaise (Ex : XK) (C : Addr) (ta : TA) : TS := fun _ σ H => ta σ H fun vs H1 => vs.length ≤ sizeLine ∧ ∀ a, H1 a = none → Ex (.ref a) none (upd H1 a (ExcO a (.ref C)))
theorem qs_raise {X : Cx} {Ex : XK} {x : Str} {C : Addr} {bm bmB : List Value} {B newId initId : String} {np cpos pos : Pos} {e₀ : Expr} {es : List Expr} {ta : TA} (hT : Throws X Ex) (hcalm : X.calm = true) (F : ExcBaseFacts B newId initId bmB) (hg : Gl X x) (hm : X.mg x = some (.ref C)) (hK : excB X.K C bm bmB newId = true) (ha : QA X (e₀ :: es) ta)
    (hbase : bm.contains (.type "BaseException") = true) (hs : starEach (e₀ :: es) X.env = (false, eval e₀ X.env) :: starEach es X.env := by rfl) (hplain : (backTo cpos (starEach es X.env)).any (·.1) = false := by rfl) (hd : (x == ("__debug__" : Str)) = false := by decide) : QS X (.Raise (some (.Call (.Name x np) (e₀ :: es) [] cpos)) none pos) (sRaise Ex C ta) := ⟨by
  intro pins s σ H D I h
  obtain ⟨N, nm, qn, bs, hdct, sn, sub, ab, col, dd, k0, k1, k2, k3, k5, mN, hC, hN, hni, T⟩ := exc_in I.ok.mod.kin hK
  have hA := ha.h cpos pins s σ H _ I h
  rw [hs] at hA
  refine wpAny_Raise_call_subT F (nm := nm) (q := qn) (C := C) (N := N) (bs := bs) (bm := bm) (hdct := hdct) (sn := sn) (sub := sub) (ab := ab) (col := col) (dd := dd) (k0 := k0) (k1 := k1) (k2 := k2) (k3 := k3) (k5 := k5) hbase (I.ok.hd hcalm) (by rw [hs]; show (false || (backTo cpos (starEach es X.env)).any (·.1)) = false; rw [hplain]; rfl) hni (ld_glob I hg hm ⟨rfl, ?_⟩ hd)
  rw [hs]
  refine Calls.evalArgs_plain (thn hA fun us s1 ⟨vs, H1, I1, r, hl, q⟩ => ?_)
  have kp : ∀ b o, X.base.get? b = some o → s1.heap.get? b = some o := fun b o e => (I1.bs b o e).1
  refine ⟨rfl, by show us.length ≤ sizeLine; rw [← r.length]; exact hl, kp _ _ hC, hN.keeps kp, T.keeps kp, fun h' e hx => ?_⟩
  exact hT pins σ H1 s1 h' e _ _ I1 hx (q e (HOk.none I1.hok hx.new))⟩
theorem throws_cx1 {P : Program} {w : World} {K : PySem.W.Frag} {mg : Str → Option Value} {base : Heap} {N : List Str} {qual : Str} {scope : Scope} {f : Addr} {cd : Value} {A : Around} {outer : List Env} {s0 : Shared} {H0 : Hp} {E : XK} :
    Throws (cxOf (CX1 P w) P w K mg base N qual scope f cd A outer s0 H0 E) E := fun _ _ _ _ _ _ _ _ I hx q => cx1_throws I hx q
end L3
namespace L3
open PySem PySem.Spec PyProof.Rows L2
structure Mx (P : Program) (w : World) (K : PySem.W.Frag) (mg : Str → Option Value) (base : Heap) (C : Addr) (m : Str) (ps : List Str) (k : Nat) (sp : Sp) : Prop where
  ex : ∃ (f : Addr) (fd : FuncData), FnOk P w K mg base (CX1 P w) k f fd ps sp ∧ Meth K C m f ∧ Binds K fd ps []
theorem AtM.mx {P : Program} {w : World} {K : PySem.W.Frag} {mg : Str → Option Value} {base : Heap} {C : Addr} {m qual : Str} {st : Stmt} {ps N : List Str} {k : Nat} {sp : Sp} (a : AtM K C m qual st ps) (S : FnScope N ps (defScope st)) (len : ∀ vs H Q E, sp vs H Q E → vs.length = ps.length)
    (hbody : ∀ (f : Addr) (cdv : Value) (A : Around) (outer : List Env) (s : Shared) (H : Hp) (vs : List V) (Q : VK) (E : XK), Room k (A.deeper (envOfC qual (defScope st) s.heap.objs.size f cdv)) → sp vs H Q E →
      ∃ t, QSs (cxOf (CX1 P w) P w K mg base N qual (defScope st) f cdv A outer s H E) (defBody st) t ∧ t { nx := fun _ H' => Q .non H', rt := Q } (start N vs) H) : Mx P w K mg base C m ps (k + 1) sp := by
  obtain ⟨f, fd, F, m, bd⟩ := a.ex
  refine ⟨f, fd, ?_, m, bd⟩
  obtain ⟨oc, od, kV, doc, pm, an, cdv, ct, osl, rfl, lk, hcd⟩ := F.ex
  refine fn_of lk hcd S len fun A outer s H vs Q E hr hsp => ?_
  obtain ⟨t, h, q⟩ := hbody f cdv A outer s H vs Q E hr hsp
  exact ⟨t, h.h, q⟩
def Thr (X : Cx) (pins : List (Addr × Obj)) (σ : L2.St) (EX : L2.St → Addr → Hp → Prop) (e : Value) (s' : Shared) : Prop :=
  ∃ H s0, L2.Inv X pins σ H s0 ∧ CX1 X.prog X.w X.stack H s0 (fun v _ H' => ∃ a, v = .ref a ∧ EX σ a H') e s'
abbrev TX := Ends → (L2.St → Addr → Hp → Prop) → L2.St → Hp → Prop
structure QX (X : Cx) (st : List Stmt) (t : TX) : Prop where
  h : ∀ (pins : List (Addr × Obj)) (s : Shared) (σ : L2.St) (H : Hp) (D : Ends) (EX : L2.St → Addr → Hp → Prop) (R : Value → Shared → Prop), L2.Inv X pins σ H s → t D EX σ H → (∀ σ' e s', Thr X pins σ' EX e s' → R e s') → wpAny (model X.prog X.w) X.A (execs st X.env) (SP X pins D) R s
def xIf (tc : TT) (t u : TX) : TX := fun D EX σ H => tc σ H fun b H1 => if b = true then t D EX σ H1 else u D EX σ H1
theorem qx_if {X : Cx} {c : Expr} {a b : List Stmt} {pos : Pos} {tc : TT} {t u : TX} (hc : QT X.nox c tc) (ha : QX X a t) (hb : QX X b u) : QX X [.If c a b pos] (xIf tc t u) := ⟨by
  intro pins s σ H D EX R I h hR
  refine wpAny_execs_cons (thn (Q := SP X pins D) (wpAny_If (Q := SP X pins D) (wpAny_mono (hc.h pins s σ H _ (I.wish _) h) (fun d s1 ⟨H1, I1, q1⟩ => ?_) fun _ _ z => z.elim)) fun f s1 q => ?_)
  · cases d with
    | true => exact ha.h pins s1 σ H1 D EX R I1.unwish q1 hR
    | false => exact hb.h pins s1 σ H1 D EX R I1.unwish q1 hR
  · cases f with
    | next => exact wpAny_execs_nil q
    | ret v => exact q
    | brk => exact q
    | cont => exact q⟩
end L3
namespace L3
open PySem PySem.Spec PyProof.Rows L2
theorem inv_gone {X : Cx} {pins : List (Addr × Obj)} {σ : L2.St} {H : Hp} {s : Shared} {M : Model} {A : Around} {E : Value → Shared → Prop} {i : Nat} {x : Str} {pos : Pos} {Q : Unit → Shared → Prop} (I : L2.Inv X pins σ H s) (hN : X.N.Nodup) (hi : X.N[i]? = some x) (hk : X.env.kindOf x = some .local)
    (h : ∀ s', L2.Inv X pins (σ.set i none) H s' → Q () s') : wpAny M A (do bindName X.env x .none; unbindBehindTheSuite X.env x pos) Q E s := by
  obtain ⟨m, hn, hl⟩ := id I.loc
  have hcls : (X.env.scope.kind == .class || (X.env.scope.kind == .module && X.env.locals != X.env.globals)) = false := by rw [I.ok.kind]; rfl
  have hiσ : i < σ.length := by rw [I.len]; exact (List.getElem?_eq_some_iff.mp hi).1
  have cne := I.cne
  have tracked : ∀ {a : Addr} {h' : Heap}, H a = none → Heap.SameBut a s.heap h' → HOk X.prog X.w H h' := fun {a h'} hfree hs b ob e => by
    refine (I.hok b ob e).stay (fun c w' hc q => (hs.2 c ?_).trans q) (fun _ q => q) fun _ _ q => q
    rintro rfl
    rcases hc with rfl | hc
    · rw [hfree] at e; cases e
    · rw [hfree] at hc; cases hc
  refine wpAny_nameGoes_keeps hk hn hcls fun h' v hn' hs => ?_
  have lo : ∀ b o, X.s₀.heap.get? b = some o → b ≠ X.env.locals := fun b o e => Nat.ne_of_lt (Nat.lt_of_lt_of_le (Heap.lt_size e) I.ok.above)
  refine h _ ⟨I.ok, I.os, I.bare, ⟨fun b o e n hb hx => (hs.2 b (lo b o e)).trans (I.base.keep b o e n hb hx), fun b o e n hb hx => ?_, I.base.free, fun b o e hx => ?_, I.base.tups, I.base.frzs, I.base.tbls⟩, ⟨_, hn', fun j y v' e1 e2 e3 => ?_⟩, fun y c e => ?_, I.free, I.freeC, fun p hp => ?_, tracked I.free hs, by simpa using I.len⟩
  · obtain ⟨sl, e1⟩ := I.base.slot b o e n hb hx
    exact ⟨sl, (hs.2 b (lo b o e)).trans e1⟩
  · obtain ⟨o', e1⟩ := I.base.there b o e hx
    exact ⟨o', (hs.2 b (lo b o e)).trans e1⟩
  · by_cases hj : j = i
    · subst hj
      rw [List.getElem?_set_self hiσ] at e2
      cases e2
    · rw [List.getElem?_set_ne (Ne.symm hj)] at e2
      obtain ⟨u', r', q⟩ := hl j y v' e1 e2 e3
      refine ⟨u', r', ?_⟩
      rcases q with ⟨k, e⟩ | ⟨k, c, e, z⟩
      · refine .inl ⟨k, ?_⟩
        have : y ≠ x := fun e => hj (nodup_ix hN e1 (e ▸ hi))
        simp [this, e]
      · exact .inr ⟨k, c, e, z.sameBut hs (cne y c e)⟩
  · obtain ⟨v', z⟩ := I.cell y c e
    exact ⟨v', z.sameBut hs (cne y c e)⟩
  · obtain ⟨p1, p2, p3, p4, p5⟩ := I.pin p hp
    exact ⟨(hs.2 _ p3).trans p1, p2, p3, p4, p5⟩
end L3
namespace L3
open PySem PySem.Spec PyProof.Rows L2
theorem thr_inv {X : Cx} {pins : List (Addr × Obj)} {σ : L2.St} {H H' : Hp} {s0 s' : Shared} {a T : Addr} {cls : Value} {h5 : Heap} {t5 : Nat} (I : L2.Inv X pins σ H s0) (os : s'.os = s0.os) (bare : AllBare s'.gens) (un : Un (frs X.stack) [] H H' s0.heap s'.heap) (hok : HOk X.prog X.w H' s'.heap) (ha : H' a = some (ExcO a cls)) (ha0 : s0.heap.get? a = none) (hT0 : s0.heap.get? T = none) (hHT : H' T = none)
    (st : (strip s'.heap (a :: T :: frs X.stack)).StaysIn h5) (up : s'.heap.UpToSlots h5) {oe : Obj} {vs : Array Value} (he : h5.get? a = some oe) (hc : oe.cls = cls) (hd : oe.data = .fields vs) : L2.Inv X pins σ H' { s' with heap := h5, toks := t5 } := by
  have noS : ∀ b o, s0.heap.get? b = some o → b ≠ a ∧ b ≠ T := fun b o hb => ⟨fun z => by (rw [z, ha0] at hb; cases hb), fun z => by (rw [z, hT0] at hb; cases hb)⟩
  have kp : ∀ b o, b ≠ a → b ≠ T → b ∉ frs X.stack → s'.heap.get? b = some o → h5.get? b = some o := fun b o h1 h2 h3 hb => st b o (by
    rw [strip_out]
    · exact hb
    · intro z
      rcases List.mem_cons.mp z with z | z
      · exact h1 z
      · rcases List.mem_cons.mp z with z | z
        · exact h2 z
        · exact h3 z)
  have sl : ∀ b o, b ∈ frs X.stack → s0.heap.get? b = some o → ∀ o', s'.heap.get? b = some o' → ∃ sl, h5.get? b = some { o' with slots := sl } := fun b o hb ho o' ho' => by
    obtain ⟨_, u, hu, hnf⟩ := I.stack.mem hb
    rw [ho] at hu; cases hu
    obtain ⟨s1, e1⟩ := un.slot b o ho (I.stkFree b hb) hb (by simp)
    rw [ho'] at e1; cases e1
    exact up b _ ho' hnf
  refine I.call' (s' := { s' with heap := h5, toks := t5 }) os ⟨fun b o hb hn hf _ => ?_, fun b o hb hn hf _ => ?_, fun b o hb hn hx => un.free b o hb hn hx, fun b o hb hx => ?_, un.tups, un.frzs, un.tbls⟩ (fun b u hb => ?_) bare (fun b z => absurd z (by simp))
  · exact kp b o (noS b o hb).1 (noS b o hb).2 hf (un.keep b o hb hn hf (by simp))
  · obtain ⟨s1, e1⟩ := un.slot b o hb hn hf (by simp)
    obtain ⟨s2, e2⟩ := sl b o hf hb _ e1
    exact ⟨s2, e2⟩
  · obtain ⟨o', e1⟩ := un.there b o hb hx
    by_cases z : b ∈ frs X.stack
    · obtain ⟨s2, e2⟩ := sl b o z hb _ e1
      exact ⟨_, e2⟩
    · exact ⟨_, kp b _ (noS b o hb).1 (noS b o hb).2 z e1⟩
  · by_cases z : b = a
    · subst z
      rw [ha] at hb; cases hb
      exact ExcO.ok he hc hd
    · have tk : ∀ c u, H' c = some u → c ∉ frs X.stack ∧ c ≠ T := fun c u hcu => by
        refine ⟨fun hm => ?_, fun z => by (rw [z, hHT] at hcu; cases hcu)⟩
        obtain ⟨_, o, ho, _⟩ := I.stack.mem hm
        have := un.free c o ho (I.stkFree c hm) (by simp)
        rw [hcu] at this; cases this
      refine (hok b u hb).stay (fun c v hcc hv => ?_) (fun _ q => q) (fun _ _ q => q)
      rcases hcc with rfl | hcc
      · exact kp c v z (tk _ _ hb).2 (tk _ _ hb).1 hv
      · exact kp c v (fun e => by (rw [e, ha] at hcc; cases hcc)) (tk _ _ hcc).2 (tk _ _ hcc).1 hv
theorem excMatches_own {M : Model} {A : Around} {E : Value → Shared → Prop} {nm q nm2 q2 : Str} {C N C2 N2 : Addr} {bs bm bs2 bm2 : List Value} {hdct hdct2 : Bool} {sn sn2 : List Str} {sub sub2 : List Value} {ab ab2 : Bool} {col col2 : Option Bool} {dd dd2 : Option Addr} {k0 k1 k2 k3 k5 j0 j1 j2 j3 j5 : Option Value} {newId newId2 : String}
    {h : Heap} {g : Array GenState} {d : Drawn} {t : Nat} {os : OsState} {e : Addr} {oe : Obj} {Q : Bool → Shared → Prop}
    (hC : h.get? C = some (excClassObj nm q C N bs bm hdct sn sub ab col dd k0 k1 k2 k3 k5 newId)) (hE : h.get? C2 = some (excClassObj nm2 q2 C2 N2 bs2 bm2 hdct2 sn2 sub2 ab2 col2 dd2 j0 j1 j2 j3 j5 newId2)) (he : h.get? e = some oe) (hcls : oe.cls = .ref C) (hb2 : bm2.contains (.type "BaseException") = true) (hin : bm.contains (.ref C2) = true)
    (hq : Q true ⟨h, g, d, t, os⟩) : wpAny M A (excMatches (.ref e) (.ref C2)) Q E ⟨h, g, d, t, os⟩ := by
  have hcB : (Value.ref C2 :: bm2).contains (.type "BaseException") = true := by rw [List.contains_cons, hb2, Bool.or_true]
  have hcC : (Value.ref C :: bm).contains (.ref C2) = true := by rw [List.contains_cons, hin, Bool.or_true]
  have f := tc_notTuple
  unfold excMatches
  repeat (first | (with_reducible refine wpAny_loadPart_at he ?_; rw [hcls]) | with_reducible refine wpAny_loadPart_at hE ?_ | (with_reducible refine wpAny_isSubtype_exc hE ?_; rw [hcB]) | (with_reducible refine wpAny_isSubtype_exc hC ?_; rw [hcC]) | wp_step)
  exact hq
end L3
namespace L3
open PySem PySem.Spec PyProof.Rows L2
abbrev held (X : Cx) (a : Addr) : Cx := { X with A := X.A.mark (some (.ref a)), calm := false, xe := fun _ _ => False }
theorem inv_held {X : Cx} {pins : List (Addr × Obj)} {σ : L2.St} {H : Hp} {s : Shared} {a : Addr} (I : L2.Inv X pins σ H s) : L2.Inv (held X a) pins σ H s := by
  have ok := I.ok
  exact ⟨⟨ok.mod, ok.kind, ok.glob, ok.blt, ok.above, ok.inj, ok.has, ok.cab, fun z => (by cases z), ok.frames, ok.stk, ok.exf, ok.bs, ok.bsz, ok.noex, ok.exfs, ok.funs, ok.frf⟩, I.os, I.bare, I.base, I.loc, I.cell, I.free, I.freeC, I.pin, I.hok, I.len⟩
theorem inv_let {X : Cx} {pins : List (Addr × Obj)} {σ : L2.St} {H : Hp} {s : Shared} {a : Addr} (ok : X.Ok) (I : L2.Inv (held X a) pins σ H s) : L2.Inv X pins σ H s :=
  ⟨ok, I.os, I.bare, I.base, I.loc, I.cell, I.free, I.freeC, I.pin, I.hok, I.len⟩
def SubX (K : PySem.W.Frag) (CE : Addr) (cls : Value) : Prop := ∃ C bm bmB newId, cls = .ref C ∧ excB K C bm bmB newId = true ∧ bm.contains (.ref CE) = true
def goneD (D : Ends) (i : Nat) : Ends := { nx := fun σ H => D.nx (σ.set i none) H, rt := D.rt, bk := fun σ H => D.bk (σ.set i none) H, ct := fun σ H => D.ct (σ.set i none) H }
def sTry (K : PySem.W.Frag) (CE : Addr) (i : Nat) (tb : TX) (ts : TS) : TS := fun D σ H => tb D (fun σ' a H' => (∀ cls, H' a = some (ExcO a cls) → SubX K CE cls) ∧ ts (goneD D i) (σ'.set i (some (.ref a))) H') σ H
theorem qs_try {X : Cx} {body suite : List Stmt} {b₀ : Stmt} {x n : Str} {CE : Addr} {bmE bmB : List Value} {newE : String} {i : Nat} {np hpos pos : Pos} {tb : TX} {ts : TS} (hb : QX X body tb) (hs : ∀ a, QSs (held X a) (b₀ :: suite) ts) (hstk : X.stack = X.env :: X.outer) (hfr : X.env.frame = some X.env.locals) (hg : Gl X x) (hm : X.mg x = some (.ref CE)) (hE : excB X.K CE bmE bmB newE = true) (hbase : bmE.contains (.type "BaseException") = true)
    (hN : X.N.Nodup) (hi : X.N[i]? = some n) (hk : X.env.kindOf n = some .local) (hd : (x == ("__debug__" : Str)) = false := by decide) :
    QS X (.Try body [.ExceptHandler (some (.Name x np)) (some n) (b₀ :: suite) hpos] [] [] pos) (sTry X.K CE i tb ts) := ⟨by
  intro pins s σ H D I h
  refine wpAny_Try_except (wpAny_mono (hb.h pins s σ H D _ _ I h ?_) (fun f s1 q => ?_) fun _ _ z => z)
  · rintro σ' e s' ⟨H1, s0, I1, a, cls, T, H2, rfl, os, bare, un, hok, ha, ha0, hT0, hHT, tr, a', ea, sub, hts⟩
    obtain rfl : a = a' := by injection ea
    obtain ⟨oe, vs, oT, ts', a0, he, hc, hdd, h0, h1, hTa, hT, hdT, h3⟩ := id tr
    have I2 : L2.Inv X pins σ' H2 s' := I1.call' os un hok bare (fun b z => absurd z (by simp))
    have fly : Heap.FlyingW (strip s'.heap (a :: T :: frs X.stack)) X.stack a cls a0 s'.heap :=
      ⟨fun b o q => (strip_some q).2, strip_in (List.mem_cons_self ..), funFrames_on I2.stack (fun b hb => strip_in (List.mem_cons_of_mem _ (List.mem_cons_of_mem _ hb))), oe, vs, T, oT, ts', he, ⟨hc, h0⟩, hdd, h1, strip_in (List.mem_cons_of_mem _ (List.mem_cons_self ..)), hTa, hT, hdT, h3⟩
    have fr : X.A.frames = some (X.env :: X.outer) := by rw [← hstk]; exact I.ok.frames
    rw [hstk] at fly
    refine wpAny_looks_onW fr hfr fly fun h4 held4 up4 => ?_
    refine wpAny_landsW held4 fun h5 fl5 up5 => ?_
    have up := up4.trans up5
    obtain ⟨C, bm, bmB', newId, rfl, hex, hin⟩ := sub cls ha
    obtain ⟨o5, vs5, e5, c5, d5, _⟩ := fl5.first
    have st5 := fl5.1
    rw [← hstk] at st5
    have I5 : L2.Inv X pins σ' H2 { s' with heap := h5, toks := s'.toks } := thr_inv I1 os bare un hok ha ha0 hT0 hHT st5 up e5 c5 d5
    obtain ⟨N1, nm, qn, bs, hdct, sn, sb, ab, col, dd, k0, k1, k2, k3, k5, mN, hC, _, _, _⟩ := exc_in I5.kIn hex
    obtain ⟨N2, nm2, qn2, bs2, hdct2, sn2, sb2, ab2, col2, dd2, j0, j1, j2, j3, j5, mN2, hC2, _, _, _⟩ := exc_in I5.kIn hE
    refine wpAny_handleBy_cons (codeAny_handlers_test (ld_glob (inv_held (a := a) I5) hg hm ?_ hd)) (by intro z; cases z)
    refine excMatches_own hC hC2 e5 c5 hbase hin ?_
    refine codeAny_handlers_suite_as ?_
    refine lands_againW fl5 fun h6 fl6 up6 => ?_
    obtain ⟨o6, vs6, e6, c6, d6, _⟩ := fl6.first
    have st6 := fl6.1
    rw [← hstk] at st6
    have I6 : L2.Inv X pins σ' H2 { s' with heap := h6, toks := s'.toks } := thr_inv I1 os bare un hok ha ha0 hT0 hHT st6 (up.trans up6) e6 c6 d6
    refine store_ok (v := .ref a) I6 hN hi (.inl hk) rfl (fun s7 I7 => ?_) (.inr hk)
    refine wpAny_mono ((hs a).h pins s7 _ H2 (goneD D i) (inv_held I7) hts) (fun f s8 q8 => ?_) fun _ _ z => z.elim
    cases f with
    | next => obtain ⟨σ9, H9, I9, q9⟩ := q8; exact inv_gone (inv_let I.ok I9) hN hi hk fun s' I' => ⟨_, _, I', q9⟩
    | brk => obtain ⟨σ9, H9, I9, q9⟩ := q8; exact inv_gone (inv_let I.ok I9) hN hi hk fun s' I' => ⟨_, _, I', q9⟩
    | cont => obtain ⟨σ9, H9, I9, q9⟩ := q8; exact inv_gone (inv_let I.ok I9) hN hi hk fun s' I' => ⟨_, _, I', q9⟩
    | ret u => obtain ⟨v, σ9, H9, I9, r9, q9⟩ := q8; exact inv_gone (inv_let I.ok I9) hN hi hk fun s' I' => ⟨_, _, _, I', r9, q9⟩
  · cases f with
    | next => exact wpAny_execs_nil q
    | ret v => exact q
    | brk => exact q
    | cont => exact q⟩
end L3
namespace L3
open PySem PySem.Spec PySem.Calls PySem.W PyProof.Rows Builtin Builtin.ObjectAttr Builtin.Getset_descriptor
section
variable {prog : Program} {w : World} {A : Around} {E : Value → Shared → Prop} {K : PySem.W.Frag} {h : Heap} {g : Array GenState} {d : Drawn} {t : Nat} {os : OsState} {a C : Addr} {o : Obj}
theorem class_get_exc {R : Result → Shared → Prop} {tp : Value} (X : K.In h) (hx : h.get? a = some o) (hc : o.cls = .ref C) (hm : mroIn K C (.type "object") = some true) (hq : R (.ok (.ret (.ref C))) ⟨h, g, d, t, os⟩) :
    codeAny (model prog w) A (.call (.builtin "getset_descriptor.__get__") ⟨[.builtin "object.__class__", .ref a, tp], []⟩) R ⟨h, g, d, t, os⟩ := by
  have L0 : Looks (model prog w) h (typeOf (.ref a)) (.ref C) := hc ▸ (Looks.ld hx).andThen .now
  have L1 := looks_mroIn (M := model prog w) X hm
  refine codeAny_call_builtin KF.slot_gs.plain KF.entry_gs (KF.slot_gs.check _ _ _ _ _ _ _ _ KF.type_class (KF.args_gs _ _ _) ?_)
  unfold Builtin.«getset_descriptor.__get__» descrGet
  rw [dga_obj]
  refine wpAny_bind (wpAny_pure ?_)
  unfold descrGetter descrCheckInstance descrNameAndClass isInstance
  simp only [KF.owner_class]
  repeat lk
  refine ⟨Code.quiet_builtin _ (by decide +kernel), codeAny_builtin KF.entry_class ?_⟩
  unfold Builtin.«object.__class__» shownTypeOf
  repeat lk
  exact hq
theorem class_entry_exc {tk : Tok} {Q : Fin → Shared → Prop} (X : K.In h) (hx : h.get? a = some o) (hc : o.cls = .ref C) (hm : mroIn K C (.type "object") = some true) (hcl : findIn K (.ref C) "__class__" = some (some (.builtin "object.__class__"))) (hq : Q (.done (.ret (.ref C))) ⟨h, g, d, t, os⟩) :
    wpAny (model prog w) A (Builtin.«object.__getattribute__» ⟨[.ref a, .str "__class__" tk], []⟩) Q E ⟨h, g, d, t, os⟩ := by
  have hT5 : (⟨h, g, d, t, os⟩ : Shared).TypeIs (.builtin "object.__class__") "getset_descriptor" := F.typeOf_object_class
  have f5 := F.typeOf_object_class
  have f6 := F.slot_gs_get.lookup
  have f7 := F.slot_gs_set.lookup
  have L1 := looks_findIn (M := model prog w) X hcl
  repeat (any_goals (first | assumption | (with_reducible refine wpAny_loadPart_at hx ?_; rw [hc]) | with_reducible refine L1.at ?_ | wp_step))
  refine class_get_exc X hx hc hm ?_
  repeat (any_goals (first | assumption | wp_step))
theorem check_ga_exc {M : Model} {nameV : Value} {Q : Unit → Shared → Prop} (X : K.In h) (hx : h.get? a = some o) (hc : o.cls = .ref C) (hmB : mroIn K C (.type "BaseException") = some true) (hq : Q () ⟨h, g, d, t, os⟩) : wpAny M A (checkBuiltinCall "BaseException.__getattribute__" ⟨[.ref a, nameV], []⟩) Q E ⟨h, g, d, t, os⟩ := by
  have hk : builtinKind "BaseException.__getattribute__" = some .slot := by decide +kernel
  have hsplit : splitId "BaseException.__getattribute__" = some ("BaseException", "__getattribute__") := by decide +kernel
  have L1 := looks_mroIn (M := M) X hmB
  have ha := F.args_bexc_ga (.ref a) nameV
  simp only [checkBuiltinCall, hk, hsplit]
  refine wpAny_bind ?_
  · unfold isInstance
    repeat (first | (with_reducible refine wpAny_loadPart_at hx ?_; rw [hc]) | with_reducible refine L1.at ?_ | wp_step)
    exact hq
theorem class_call_exc {tk : Tok} {R : Result → Shared → Prop} (X : K.In h) (hx : h.get? a = some o) (hc : o.cls = .ref C) (hm : mroIn K C (.type "object") = some true) (hmB : mroIn K C (.type "BaseException") = some true) (hcl : findIn K (.ref C) "__class__" = some (some (.builtin "object.__class__"))) (hq : R (.ok (.ret (.ref C))) ⟨h, g, d, t, os⟩) :
    codeAny (model prog w) A (.call (.builtin "BaseException.__getattribute__") ⟨[.ref a, .str "__class__" tk], []⟩) R ⟨h, g, d, t, os⟩ :=
  codeAny_call_builtin PySem.F.attr_ValueError.ga.plain F.entry_bexc_ga (check_ga_exc X hx hc hmB (class_entry_exc X hx hc hm hcl hq))
theorem class_by_exc {tk : Tok} {Q : Value → Shared → Prop} (X : K.In h) (hx : h.get? a = some o) (hc : o.cls = .ref C) (hm : mroIn K C (.type "object") = some true) (hmB : mroIn K C (.type "BaseException") = some true) (hcl : findIn K (.ref C) "__class__" = some (some (.builtin "object.__class__")))
    (hga : findIn K (.ref C) "__getattribute__" = some (some (.builtin "BaseException.__getattribute__"))) (hgt : findIn K (.ref C) "__getattr__" = some none) (hq : Q (.ref C) ⟨h, g, d, t, os⟩) :
    wpAny (model prog w) A (getAttrBy (.ref a) (.str "__class__" tk) false) Q E ⟨h, g, d, t, os⟩ := by
  have f3 := PySem.F.attr_ValueError.ga.bind (.ref a)
  have hx2 : (Value.builtin "BaseException.__getattribute__" == Value.builtin "object.__getattribute__") = false := by decide +kernel
  have hx1 : (onTheHeap (Value.ref C) && Value.builtin "BaseException.__getattribute__" == Value.builtin "object.__getattribute__") = false := by rw [hx2]; rfl
  have L1 := looks_findIn (M := model prog w) X hga
  have L2 := looks_findIn (M := model prog w) X hgt
  repeat (any_goals (first | assumption | (with_reducible refine wpAny_loadPart_at hx ?_; rw [hc]) | with_reducible refine L1.at ?_ | with_reducible refine L2.at ?_ | wp_step))
  refine class_call_exc X hx hc hm hmB hcl ?_
  repeat (any_goals (first | assumption | wp_step))
theorem class_attr_exc {Q : Option Value → Shared → Prop} (X : K.In h) (hx : h.get? a = some o) (hc : o.cls = .ref C) (hm : mroIn K C (.type "object") = some true) (hmB : mroIn K C (.type "BaseException") = some true) (hcl : findIn K (.ref C) "__class__" = some (some (.builtin "object.__class__")))
    (hga : findIn K (.ref C) "__getattribute__" = some (some (.builtin "BaseException.__getattribute__"))) (hgt : findIn K (.ref C) "__getattr__" = some none) (hq : Q (some (.ref C)) ⟨h, g, d, t + 1, os⟩) :
    wpAny (model prog w) A (getAttr? (.ref a) "__class__") Q E ⟨h, g, d, t, os⟩ := by
  unfold getAttr? getAttrBy?
  repeat (any_goals (first | assumption | with_reducible apply class_by_exc X hx hc hm hmB hcl hga hgt | wp_step))
end
end L3
namespace L3
open PySem PySem.Spec PyProof.Rows L2
structure ExcCl (K : PySem.W.Frag) (C : Addr) : Prop where
  m : PySem.W.mroIn K C (.type "object") = some true
  b : PySem.W.mroIn K C (.type "BaseException") = some true
  cl : PySem.W.findIn K (.ref C) "__class__" = some (some (.builtin "object.__class__"))
  ga : PySem.W.findIn K (.ref C) "__getattribute__" = some (some (.builtin "BaseException.__getattribute__"))
  gt : PySem.W.findIn K (.ref C) "__getattr__" = some none
  cd : (PySem.W.clsIn K C).isSome = true
theorem kitx_exc {K : PySem.W.Frag} {a C : Addr} (c : ExcCl K C) : PySem.W.KitX K (.ref a) (.ref C) (fun h => ∃ o, h.get? a = some o ∧ o.cls = .ref C) where
  ty := fun M h _ ⟨o, e, hc⟩ => hc ▸ (PySem.W.Looks.ld e).andThen .now
  it := fun _ _ X _ => by
    obtain ⟨cdD, hcD⟩ := Option.isSome_iff_exists.mp c.cd
    unfold PySem.W.clsIn at hcD
    split at hcD
    · rename_i c' d' cd' sl' ho
      intro A' Q' E' s' k q
      unfold isType loadHead
      exact wpAny_bind (wpAny_loadPart (k _ _ (X _ _ ho)) (wpAny_pure q))
    · cases hcD
  ne := fun h tp dd its n sl X htp => by
    obtain ⟨cdD, hcD⟩ := Option.isSome_iff_exists.mp c.cd
    refine Bool.eq_false_iff.mpr fun q => ?_
    have e : C = tp := Value.ref.inj (beq_iff_eq.mp q)
    subst e
    unfold PySem.W.clsIn at hcD
    split at hcD
    · rename_i c' d' cd' sl' ho
      have z := (X _ _ ho).symm.trans htp
      cases z
    · cases hcD
  ca := fun {prog w A E Q s} X ⟨o, e, hc⟩ k => by
    obtain ⟨h, g, d, t, os⟩ := s
    exact class_attr_exc X e hc c.m c.b c.cl c.ga c.gt k
theorem call_isiX {X : Cx} : CallR X (.builtin "isinstance") (fun xs H Q => ∃ (a C : Addr) (c : V) (cv : Value) (b : Bool), xs = [.ref a, c] ∧ H a = some (ExcO a (.ref C)) ∧ ExcCl X.K C ∧ ((∃ D, c = .ref D ∧ cv = .ref D) ∨ ∃ T, c = .ty T ∧ cv = .type T) ∧ PySem.W.kitOne X.K (.ref C) cv = some b ∧ Q (.bl b) H) := by
  intro pins s σ H xs us Q I r h
  obtain ⟨a, C, c, cv, b, rfl, ha, ec, hc, hk, q⟩ := h
  obtain ⟨u, v, rfl, ru, rv⟩ := vals2 r
  cases ru
  obtain rfl : v = cv := by
    rcases hc with ⟨D, rfl, rfl⟩ | ⟨T, rfl, rfl⟩
    · exact rv
    · exact rv
  obtain ⟨⟨o, vs, e, hcl, _⟩, _⟩ := I.hok a _ ha
  exact PySem.W.kia_one (kitx_exc ec) I.kIn ⟨o, e, hcl⟩ hk (fun z => nomatch z) fun tk => ⟨.bl _, H, I.tok tk, rfl, q⟩
end L3
namespace L3
open PySem PySem.Spec PyProof.Rows L2 SeqAt
end L3
namespace L3
open PySem PySem.Spec PyProof.Rows L2
abbrev baseX : List Value := [.type "ValueError", .type "Exception", .type "BaseException", .type "object"]
structure Xa where
  e : Addr
  k : Addr
  f : Addr
  u : Addr
  t : Addr
  b : Addr
  w : Addr
  l : Addr
  r : Addr
def Xa.all (x : Xa) : List Addr := [x.b, x.k, x.f, x.u, x.t, x.w, x.l, x.r]
theorem Mx.mf {P : Program} {w : World} {K : PySem.W.Frag} {mg : Str → Option Value} {base : Heap} {C : Addr} {m : Str} {ps : List Str} {k : Nat} {sp sp' : Sp} (M : Mx P w K mg base C m ps k sp) (h : ∀ vs H Q E, sp' vs H Q E → sp vs H Q E0) : Mf P w K mg base C m ps k sp' := by
  obtain ⟨f, fd, F, hm, hb⟩ := M.ex
  refine ⟨f, fd, ⟨fun vs H Q E q => F.len vs H Q E0 (h vs H Q E q), fun A outer s H args us vs Q E hr e0 hb hv hs => ?_⟩, hm, hb⟩
  refine codeAny_mono (F.run A outer s H args us vs Q E0 hr e0 hb hv (h _ _ _ _ hs)) fun r s' q => ?_
  cases r with
  | ok fl => cases fl <;> exact q
  | error e => obtain ⟨_, _, _, _, _, _, _, _, _, _, _, _, _, _, z⟩ := q; exact z.elim
def Thrown (E : XK) (H : Hp) (C : Addr) : Prop := ∀ H1 a, Same H H1 → H1 a = none → E (.ref a) none (upd H1 a (ExcO a (.ref C)))
section
variable (K : PySem.W.Frag) (C : Addr) (x : Xa)
end
end L3
namespace L3
open PySem PySem.Spec PyProof.Rows L2
theorem asgC {i : Nat} {v : V} {u : TS} {D : Ends} {σ : L2.St} {H : Hp} (h : u D (σ.set i (some v)) H) : tSeq (tAsg (tC v) (gName i)) u D σ H := h
end L3
namespace L3
open PySem PySem.Spec PyProof.Rows L2
theorem ExcO.inj {a : Addr} {c1 c2 : Value} (h : ExcO a c1 = ExcO a c2) : c1 = c2 := by
  unfold ExcO at h
  injection h with h
  obtain ⟨h0, hs⟩ : ∃ h0 : Heap, h0.objs.size = a := ⟨{ objs := Array.replicate a default }, Array.size_replicate⟩
  have e : (h0.push ⟨c1, none, .fields #[], #[]⟩).get? a = some ⟨c1, none, .fields #[], #[]⟩ := by rw [← hs]; exact Heap.get?_push_size _ rfl
  have z : (fun h : Heap => ∃ o vs, h.get? a = some o ∧ o.cls = c1 ∧ o.data = .fields vs) (h0.push ⟨c1, none, .fields #[], #[]⟩) := ⟨_, _, e, rfl, rfl⟩
  rw [h] at z
  obtain ⟨o, vs, e2, hc, _⟩ := z
  rw [e] at e2; cases e2
  exact hc
end L3
namespace L3
open PySem PySem.Spec PyProof.Rows L2
end L3
namespace L3
open PySem PySem.Spec PyProof.Rows L2
end L3
namespace L3
open PySem PySem.Spec PyProof.Rows L2
theorem all_kits {K : PySem.W.Frag} {x : Xa} {C : Addr} (h1 : PySem.W.kitOne K (.ref C) (.ref x.b) = some (decide (C = x.b))) (h2 : PySem.W.kitOne K (.ref C) (.ref x.k) = some (decide (C = x.k))) (h3 : PySem.W.kitOne K (.ref C) (.ref x.f) = some (decide (C = x.f))) (h4 : PySem.W.kitOne K (.ref C) (.ref x.u) = some (decide (C = x.u)))
    (h5 : PySem.W.kitOne K (.ref C) (.ref x.t) = some (decide (C = x.t))) (h6 : PySem.W.kitOne K (.ref C) (.ref x.w) = some (decide (C = x.w))) (h7 : PySem.W.kitOne K (.ref C) (.ref x.l) = some (decide (C = x.l))) (h8 : PySem.W.kitOne K (.ref C) (.ref x.r) = some (decide (C = x.r))) : ∀ D ∈ x.all, PySem.W.kitOne K (.ref C) (.ref D) = some (decide (C = D)) := by
  intro D hD
  simp only [Xa.all, List.mem_cons, List.not_mem_nil, or_false] at hD
  rcases hD with rfl | rfl | rfl | rfl | rfl | rfl | rfl | rfl
  · exact h1
  · exact h2
  · exact h3
  · exact h4
  · exact h5
  · exact h6
  · exact h7
  · exact h8
end L3
namespace L3
open PySem PySem.Spec PyProof.Rows L2
section
open SeqAt
variable {X : Cx} {pins : List (Addr × Obj)} {σ : L2.St} {H : Hp} {s : Shared}
end
structure XGx (K : PySem.W.Frag) (mg : Str → Option Value) (x : Xa) : Prop where
  g_CodeError : mg "CodeError" = some (.ref x.e)
  g_Known : mg "Known" = some (.ref x.k)
  g_Full : mg "Full" = some (.ref x.f)
  g_Unknown : mg "Unknown" = some (.ref x.u)
  g_TooMany : mg "TooMany" = some (.ref x.t)
  g_BadPress : mg "BadPress" = some (.ref x.b)
  g_Worn : mg "Worn" = some (.ref x.w)
  g_BadLog : mg "BadLog" = some (.ref x.l)
  g_BadRow : mg "BadRow" = some (.ref x.r)
  e_CodeError : excB K x.e baseX baseX "ValueError.__new__" = true
  nd : x.all.Nodup
  b_ValueError : mg "ValueError" = none
structure XOne (K : PySem.W.Frag) (x : Xa) (C : Addr) : Prop where
  e : excB K C (.ref x.e :: baseX) baseX "ValueError.__new__" = true
  c : ExcCl K C
  i : ∀ D ∈ x.all, PySem.W.kitOne K (.ref C) (.ref D) = some (decide (C = D))
  v : PySem.W.kitOne K (.ref C) (.type "ValueError") = some true
section
variable (K : PySem.W.Frag) (C : Addr) (x : Xa)
end
end L3
namespace L3
open PySem PySem.Spec PyProof.Rows L2
end L3
namespace L3
open PySem PySem.Spec PyProof.Rows L2
def lawD (B : Bt) (lc : Addr) : List (Key × V) := [(.inr "count", .int B.cnt), (.inr "bound", .int B.bnd), (.inr "cells", .ref lc), (.inr "step", .int B.step)]
def lawK : List Key := [.inr "count", .inr "bound", .inr "cells", .inr "step"]
theorem lawK_nd : lawK.Nodup := by decide +kernel
theorem lawD_nd (B : Bt) (lc : Addr) : ((lawD B lc).map (·.1)).Nodup := lawK_nd
structure LawAt (H : Hp) (d lc : Addr) (B : Bt) : Prop where
  di : H d = some (.dK (lawD B lc))
  cs : H lc = some (.lst [oV B.x, oV B.y])
section
variable {H H' : Hp} {d lc : Addr} {B : Bt}
theorem LawAt.get (a : LawAt H d lc B) (i : Nat) {k : Key} {v : V} (h : (lawD B lc)[i]? = some (k, v)) : DGet H d (kV k) (some v) := by
  have := DGet.k (k := k) a.di
  rw [valV_at i h (lawD_nd ..)] at this
  exact this
theorem LawAt.g_count (a : LawAt H d lc B) : DGet H d (.str "count") (some (.int B.cnt)) := a.get (k := .inr "count") 0 rfl
theorem LawAt.g_bound (a : LawAt H d lc B) : DGet H d (.str "bound") (some (.int B.bnd)) := a.get (k := .inr "bound") 1 rfl
theorem LawAt.g_cells (a : LawAt H d lc B) : DGet H d (.str "cells") (some (.ref lc)) := a.get (k := .inr "cells") 2 rfl
theorem LawAt.g_step (a : LawAt H d lc B) : DGet H d (.str "step") (some (.int B.step)) := a.get (k := .inr "step") 3 rfl
theorem LawAt.p_count (a : LawAt H d lc B) (z : Int) : DPut H d (.str "count") (.int z) (upd H d (.dK (lawD { B with cnt := z } lc))) := by
  have := DPut.k (k := .inr "count") (v := .int z) a.di (Nat.lt_of_le_of_lt (show 4 ≤ 100 by decide) (by decide))
  rw [putK_set 0 rfl (lawD_nd ..)] at this
  exact this
theorem LawAt.p_bound (a : LawAt H d lc B) (z : Int) : DPut H d (.str "bound") (.int z) (upd H d (.dK (lawD { B with bnd := z } lc))) := by
  have := DPut.k (k := .inr "bound") (v := .int z) a.di (Nat.lt_of_le_of_lt (show 4 ≤ 100 by decide) (by decide))
  rw [putK_set 1 rfl (lawD_nd ..)] at this
  exact this
theorem LawAt.ne (a : LawAt H d lc B) : d ≠ lc := ne_of a.di a.cs (by intro z; cases z)
theorem LawAt.upd_d (a : LawAt H d lc B) (B' : Bt) (hx : B'.x = B.x) (hy : B'.y = B.y) : LawAt (upd H d (.dK (lawD B' lc))) d lc B' := ⟨upd_same, by rw [upd_ne a.ne.symm, hx, hy]; exact a.cs⟩
theorem LawAt.mv {S : List Addr} (a : LawAt H d lc B) (m : Mv S H H') (hd : d ∉ S) (hc : lc ∉ S) : LawAt H' d lc B := ⟨m _ _ hd a.di, m _ _ hc a.cs⟩
theorem LawAt.same (a : LawAt H d lc B) (s : Same H H') : LawAt H' d lc B := ⟨s _ _ a.di, s _ _ a.cs⟩
end
theorem merge_law (B : Bt) (lc : Addr) : mergeK [] (lawD B lc) = lawD B lc := by
  show putK (putK (putK (putK ([] : List (Key × V)) (Sum.inr "count") (.int B.cnt)) (Sum.inr "bound") (.int B.bnd)) (Sum.inr "cells") (.ref lc)) (Sum.inr "step") (.int B.step) = _
  rw [putK_no (k := .inr "count") (kvs := []) (by intro z; cases z), putK_no (k := .inr "bound") (fun z => (by decide +kernel : ∀ k ∈ lawK.take 1, k ≠ (Sum.inr "bound" : Key)) _ z rfl), putK_no (k := .inr "cells") (fun z => (by decide +kernel : ∀ k ∈ lawK.take 2, k ≠ (Sum.inr "cells" : Key)) _ z rfl), putK_no (k := .inr "step") (fun z => (by decide +kernel : ∀ k ∈ lawK.take 3, k ≠ (Sum.inr "step" : Key)) _ z rfl)]
  rfl
def zB (st : Int) : Bt := ⟨"", [], [], 0, st, 0, 0, some 0, none⟩
def spBegun : Sp := fun vs H Q _ => ∃ st : Int, vs = [.int st] ∧ ∀ d lc H', H d = none → H lc = none → Same H H' → LawAt H' d lc (zB st) → Q (.ref d) H'
theorem LawAt.eqv {H : Hp} {d lc : Addr} {B B' : Bt} (a : LawAt H d lc B) (h1 : B'.cnt = B.cnt) (h2 : B'.bnd = B.bnd) (h3 : B'.step = B.step) (h4 : B'.x = B.x) (h5 : B'.y = B.y) : LawAt H d lc B' :=
  ⟨by unfold lawD; rw [h1, h2, h3]; exact a.di, by rw [h4, h5]; exact a.cs⟩
structure BtOk (B : Bt) : Prop where
  c0 : 0 ≤ B.cnt
  cb : B.cnt ≤ B.bnd
  bm : B.bnd ≤ 4096
  s1 : 1 ≤ B.step
  eq : B.x = some B.bnd ∨ B.y = some B.bnd
  hx : ∀ v, B.x = some v → 0 ≤ v ∧ v ≤ B.bnd
  hy : ∀ v, B.y = some v → 0 ≤ v ∧ v ≤ B.bnd
theorem BtOk.new {nm : Str} {t ks : List Int} {age step : Int} (h : 1 ≤ step) : BtOk ⟨nm, t, ks, age, step, 0, 0, some 0, none⟩ :=
  ⟨Int.le_refl _, Int.le_refl _, by show (0 : Int) ≤ 4096; decide, h, .inl rfl, fun v e => by cases e; exact ⟨Int.le_refl _, Int.le_refl _⟩, fun v e => by cases e⟩
theorem BtOk.pr {B : Bt} (h : BtOk B) (hc : B.cnt < 4096) : BtOk B.pr := by
  obtain ⟨c0, cb, bm, s1, eq, hx, hy⟩ := h
  unfold Bt.pr
  by_cases m : B.mw = true
  · rw [if_pos m]
    have hm : B.cnt = B.bnd := by
      unfold Bt.mw at m
      rw [Bool.and_eq_true] at m
      exact of_decide_eq_true m.1
    have n1 : B.bnd + 1 ≤ B.nb := by unfold Bt.nb; split <;> omega
    have n2 : B.nb ≤ 4096 := by unfold Bt.nb; split <;> omega
    unfold Bt.wr
    by_cases e : B.x = some B.bnd
    · rw [if_pos e]
      refine ⟨by show 0 ≤ B.cnt + 1; omega, by show B.cnt + 1 ≤ B.nb; omega, n2, s1, .inr rfl, fun v q => ?_, fun v q => ?_⟩
      · have := hx v q; show 0 ≤ v ∧ v ≤ B.nb; omega
      · have q' : some B.nb = some v := q
        cases q'; show 0 ≤ B.nb ∧ B.nb ≤ B.nb; omega
    · rw [if_neg e]
      refine ⟨by show 0 ≤ B.cnt + 1; omega, by show B.cnt + 1 ≤ B.nb; omega, n2, s1, .inl rfl, fun v q => ?_, fun v q => ?_⟩
      · have q' : some B.nb = some v := q
        cases q'; show 0 ≤ B.nb ∧ B.nb ≤ B.nb; omega
      · have := hy v q; show 0 ≤ v ∧ v ≤ B.nb; omega
  · rw [if_neg m]
    have hm : B.cnt ≠ B.bnd := fun z => m (by unfold Bt.mw; rw [decide_eq_true z, decide_eq_false (by omega : ¬ 4096 ≤ B.cnt)]; rfl)
    exact ⟨by show 0 ≤ B.cnt + 1; omega, by show B.cnt + 1 ≤ B.bnd; omega, bm, s1, eq, hx, hy⟩
theorem BtOk.ok {B : Bt} (h : BtOk B) : B.bnd ∈ okC B.x B.y ∧ 0 < (okC B.x B.y).length ∧ ∀ a ∈ okC B.x B.y, a ≤ B.bnd := by
  obtain ⟨c0, cb, bm, s1, eq, hx, hy⟩ := h
  have hm : B.bnd ∈ okC B.x B.y := by
    unfold okC
    rcases eq with e | e
    · rw [e]; exact List.mem_append_left _ (List.mem_singleton.mpr rfl)
    · rw [e]; exact List.mem_append_right _ (List.mem_singleton.mpr rfl)
  refine ⟨hm, List.length_pos_of_mem hm, fun a ha => ?_⟩
  unfold okC at ha
  rcases List.mem_append.mp ha with z | z
  · cases e : B.x with
    | none => rw [e] at z; cases z
    | some v => rw [e] at z; rw [List.mem_singleton.mp z]; exact (hx v e).2
  · cases e : B.y with
    | none => rw [e] at z; cases z
    | some v => rw [e] at z; rw [List.mem_singleton.mp z]; exact (hy v e).2
section
variable {E : Hp → O2 → Prop} {K : PySem.W.Frag} {C : Addr} {H H' : Hp} {b L : Addr} {n n' : Nat} {os : List O2}
end
def notN (v : V) : Bool := !decide (v = .non)
theorem notN_cells (x y : Option Int) : [oV x, oV y].filter notN = (okC x y).map V.int := by
  cases x <;> cases y <;> rfl
theorem filt_step {xs : List V} {i : Nat} {x : V} (h : xs[i]? = some x) : (xs.take (i + 1)).filter notN = if notN x = true then (xs.take i).filter notN ++ [x] else (xs.take i).filter notN := by
  rw [List.take_add_one, h, Option.toList_some, List.filter_append]
  by_cases e : notN x = true
  · rw [if_pos e, List.filter_cons_of_pos e]; rfl
  · rw [if_neg e, List.filter_cons_of_neg e]; simp
end L3
namespace L3
open PySem PySem.Spec PyProof.Rows L2
open Sem (wp)
section
variable {X : Cx} {pins : List (Addr × Obj)} {σ : L2.St} {H : Hp} {s : Shared}
def ItzL (a1 a2 : Addr) : It :=
  ⟨fun i H => ∃ xs ys x y, Rd H a1 (.lst xs) ∧ Rd H a2 (.lst ys) ∧ xs[i]? = some x ∧ ys[i]? = some y,
   fun i H v H' => ∃ p x y, H p = none ∧ v = .ref p ∧ (∀ xs, Rd H a1 (.lst xs) → xs[i]? = some x) ∧ (∀ ys, Rd H a2 (.lst ys) → ys[i]? = some y) ∧ H' = upd H p (.tup [x, y]),
   fun i H => ∃ xs, Rd H a1 (.lst xs) ∧ xs.length = i⟩
theorem turn_zipL {P : Program} {w : World} {K : PySem.W.Frag} {elts : List Expr} {x1} {pos : Pos} (a1 a2 z TI TO i1 i2 : Addr) (d1 : TI ≠ z) (d2 : TO ≠ z) (d3 : i1 ≠ z) (d4 : i2 ≠ z) (d5 : TI ≠ TO) (d6 : TI ≠ i1) (d7 : TI ≠ i2) (d8 : TO ≠ i1) (d9 : TO ≠ i2) (d10 : i1 ≠ i2) :
    Turn P w K (.Tuple elts x1 pos) (ItzL a1 a2) [z, TI, TO, i1, i2] z (fun i h => IsZip h z TI TO .none ∧ IsPair h TI (.ref i1) (.ref i2) ∧ (∃ a b, IsPair h TO a b) ∧ h.IsListIter i1 a1 i ∧ h.IsListIter i2 a2 i) where
  mem := by simp
  obj := fun i h st b hb => by
    obtain ⟨hz, hTI, ⟨a, b', hTO⟩, ⟨o1, ho1, _, hd1⟩, ⟨o2, ho2, _, hd2⟩⟩ := st
    simp only [List.mem_cons, List.not_mem_nil, or_false] at hb
    rcases hb with rfl | rfl | rfl | rfl | rfl
    · exact ⟨_, hz, fun v y => by have y' : Data.fields _ = Data.cell v := y; cases y'⟩
    · exact ⟨_, hTI, fun v y => by have y' : Data.seq _ _ = Data.cell v := y; cases y'⟩
    · exact ⟨_, hTO, fun v y => by have y' : Data.seq _ _ = Data.cell v := y; cases y'⟩
    · exact ⟨_, ho1, fun v y => by rw [hd1] at y; cases y⟩
    · exact ⟨_, ho2, fun v y => by rw [hd2] at y; cases y⟩
  keep := fun i h h' st k => by
    obtain ⟨hz, hTI, ⟨a, b', hTO⟩, h1, h2⟩ := st
    exact ⟨k z (by simp) _ hz, k TI (by simp) _ hTI, ⟨a, b', k TO (by simp) _ hTO⟩, h1.at fun o e => k i1 (by simp) o e, h2.at fun o e => k i2 (by simp) o e⟩
  item := by
    intro X hP hw hK hc i pins s σ H E I hf st hg
    subst hP hw hK
    obtain ⟨xs, ys, x, y, ha1, ha2, hx, hy⟩ := hg
    obtain ⟨its, rv, p, hz0⟩ := I.list (.inl ha1)
    obtain ⟨its2, rv2, p2, hz2⟩ := I.list (.inl ha2)
    obtain ⟨u, hu, ru⟩ := rv.get hx
    obtain ⟨u2, hu2, ru2⟩ := rv2.get hy
    obtain ⟨hz, hTI, ⟨a, b', hTO⟩, h1, h2⟩ := st
    have n1 : ∀ c ∈ [z, TI, TO, i1, i2], a1 ≠ c := fun c hc => rd_ne ha1 (hf c hc).1
    have n2 : ∀ c ∈ [z, TI, TO, i1, i2], a2 ≠ c := fun c hc => rd_ne ha2 (hf c hc).1
    have Z : ZApart z TI TO i1 i2 [i1, a1] [i2, a2] := ⟨d1, d2, d3, d4, d5, d6, d7, d8, d9, d10, by simp [Ne.symm d3, Ne.symm (n1 z (by simp))], by simp [Ne.symm d4, Ne.symm (n2 z (by simp))], by simp [d8, Ne.symm (n1 TO (by simp))], by simp [d9, Ne.symm (n2 TO (by simp))], by simp [Ne.symm d10, Ne.symm (n1 i2 (by simp))], by simp [d10, Ne.symm (n2 i1 (by simp))]⟩
    have hil : i < its.toArray.size := by have := (List.getElem?_eq_some_iff.mp hu).1; simpa using this
    have hil2 : i < its2.toArray.size := by have := (List.getElem?_eq_some_iff.mp hu2).1; simpa using this
    have hT : s.TypeIs (.ref z) "zip" := ⟨_, hz, rfl⟩
    unfold pyNext
    refine wpAny_bind (wpAny_attempt (wpAny_callSpecial?_slot (name := Str.ofString "__next__") hT F.slot_zip_next
      (wpAny_call_entry F.slot_zip_next hT F.entry_zip_next
        (zipD_item (Draws.list (A := X.A.in1) (I.ok.hd hc) i1 a1 (n1 i1 (by simp)) its.toArray) (Draws.list (A := X.A.in1) (I.ok.hd hc) i2 a2 (n2 i2 (by simp)) its2.toArray) Z hz hTI hTO ⟨h1, p.isList⟩ ⟨h2, p2.isList⟩ hil hil2
          fun v v2 h' tk hv hv2 ho hTO' q1 q2 ht hk => wpAny_pure ⟨_, rfl, ?_⟩) (F.args_zip_next_1 _))))
    have ev : v = u := by
      have hv' : its[i]? = some v := by simpa using hv
      rw [hu] at hv'; exact (Option.some.inj hv').symm
    have ev2 : v2 = u2 := by
      have hv' : its2[i]? = some v2 := by simpa using hv2
      rw [hu2] at hv'; exact (Option.some.inj hv').symm
    subst ev ev2
    refine wpAny_letOwnedTupleGo_zip ho fun h'' hz'' hs'' => ?_
    have lt : ∀ c ∈ [z, TI, TO, i1, i2], c < s.heap.objs.size := fun c hc => by
      simp only [List.mem_cons, List.not_mem_nil, or_false] at hc
      rcases hc with rfl | rfl | rfl | rfl | rfl
      · exact Heap.lt_size hz
      · exact Heap.lt_size hTI
      · exact Heap.lt_size hTO
      · obtain ⟨_, e, _⟩ := h1; exact Heap.lt_size e
      · obtain ⟨_, e, _⟩ := h2; exact Heap.lt_size e
    have hTI' : IsPair h'' TI (.ref i1) (.ref i2) := hs''.extBut _ _ d1 (hk _ _ d1 d5 d6 d7 hTI)
    have hTO'' : IsPair h'' TO v v2 := hs''.extBut _ _ d2 hTO'
    have h1' : h''.IsListIter i1 a1 (i + 1) := q1.1.extBut hs''.extBut d3
    have h2' : h''.IsListIter i2 a2 (i + 1) := q2.1.extBut hs''.extBut d4
    refine ⟨.ref s.heap.objs.size, upd H s.heap.objs.size (.tup [x, y]), ?_, rfl, ⟨_, x, y, I.hok.fresh (Nat.le_refl _), rfl, fun zs hy' => by rw [I.list_inj (.inl hy') (.inl ha1)]; exact hx, fun zs hy' => by rw [I.list_inj (.inl hy') (.inl ha2)]; exact hy, rfl⟩, ⟨hz'', hTI', ⟨_, _, hTO''⟩, h1', h2'⟩, ?_⟩
    · show L2.Inv X pins σ _ { s with heap := h'', toks := tk }
      refine turnedT (s := s) (its := [v, v2]) I (ch := [z, TI, TO, i1, i2]) (fun b o hb q => ?_) hf (fun b hb => ?_) (Nat.le_refl _) (by show 2 ≤ sizeLine; decide) (.cons ru (.cons ru2 .nil)) ?_
      · simp only [List.mem_cons, List.not_mem_nil, or_false, not_or] at hb
        exact hs''.extBut b o hb.1 (hk b o hb.1 hb.2.2.1 hb.2.2.2.1 hb.2.2.2.2 q)
      · simp only [List.mem_cons, List.not_mem_nil, or_false] at hb
        rcases hb with rfl | rfl | rfl | rfl | rfl
        · exact ⟨_, hz''⟩
        · exact ⟨_, hTI'⟩
        · exact ⟨_, hTO''⟩
        · obtain ⟨o, e, _⟩ := h1'; exact ⟨o, e⟩
        · obtain ⟨o, e, _⟩ := h2'; exact ⟨o, e⟩
      · exact ⟨_, hs''.extBut _ _ (Nat.ne_of_gt (lt z (by simp))) ht, rfl, _, rfl⟩
    · intro b hb
      rw [upd_ne (Nat.ne_of_lt (lt b hb))]
      exact (hf b hb).1
  done := by
    intro X hP hw hK hc i pins s σ H E I hf st hg
    subst hP hw hK
    obtain ⟨xs, ha1, hx⟩ := hg
    obtain ⟨its, rv, p, hz0⟩ := I.list (.inl ha1)
    obtain ⟨hz, hTI, ⟨a, b', hTO⟩, h1, h2⟩ := st
    have n1 : ∀ c ∈ [z, TI, TO, i1, i2], a1 ≠ c := fun c hc => rd_ne ha1 (hf c hc).1
    have Z : ZApart z TI TO i1 i2 [i1, a1] [i2] := ⟨d1, d2, d3, d4, d5, d6, d7, d8, d9, d10, by simp [Ne.symm d3, Ne.symm (n1 z (by simp))], by simp [Ne.symm d4], by simp [d8, Ne.symm (n1 TO (by simp))], by simp [d9], by simp [Ne.symm d10, Ne.symm (n1 i2 (by simp))], by simp [d10]⟩
    have hl : its.toArray.size = i := by rw [List.size_toArray, ← rv.length]; exact hx
    have hT : s.TypeIs (.ref z) "zip" := ⟨_, hz, rfl⟩
    unfold pyNext
    refine wpAny_bind (wpAny_attempt (wpAny_callSpecial?_slot (name := Str.ofString "__next__") hT F.slot_zip_next
      (wpAny_call_entry F.slot_zip_next hT F.entry_zip_next
        (zipD_end (Draws.list (A := X.A.in1) (I.ok.hd hc) i1 a1 (n1 i1 (by simp)) its.toArray) Z hz hTI ⟨by rw [hl]; exact h1, p.isList⟩ fun h' e hk he => ?_) (F.args_zip_next_1 _))))
    obtain ⟨o, ho, hcl⟩ := he
    refine wpAny_bind (wpAny_isInstance (T := "StopIteration") (b := true) ⟨o, ho, hcl⟩ isSubtype_stop ?_)
    refine wpAny_pure ⟨rfl, turnedC (t' := s.toks) I (ch := [z, i1]) (fun b o hb e => ?_) (fun b hb => hf b ?_)⟩
    · simp only [List.mem_cons, List.not_mem_nil, or_false, not_or] at hb
      exact hk b o hb.1 hb.2 e
    · simp only [List.mem_cons, List.not_mem_nil, or_false] at hb
      rcases hb with rfl | rfl <;> simp
  self := fun _ _ _ _ _ st h => wpAny_pyIter_zip st.1 h
def iZipL (ta : TA) : TI := fun σ H R => ta σ H fun vs H1 => ∃ a1 a2 xs ys, vs = [.ref a1, .ref a2] ∧ Rd H1 a1 (.lst xs) ∧ Rd H1 a2 (.lst ys) ∧ R (ItzL a1 a2) H1
theorem pi_zipL {a b : Expr} {ta : TA} {p pos : Pos} {elts : List Expr} {x1} {tpos : Pos} (hg : Gl X "zip") (hm : X.mg "zip" = none) (ha : PA X [a, b] ta) (h1 : notStar a = true := by rfl) (h2 : notStar b = true := by rfl) :
    PI X (.Tuple elts x1 tpos) (.Call (.Name "zip" p) [a, b] [] pos) (iZipL ta) := by
  intro pins s σ H R I h
  have hs2 : starEach [b] X.env = [(false, eval b X.env)] := star_cons h2
  refine Call_ (ld_blt I hg hm PyProof.Rows.boot_zip (PyProof.Rows.callWith_type1 (thn (ha pos pins s σ H _ I h) fun us s1 ⟨vs, H1, I1, r1, q1⟩ => ?_) (by rw [star_cons h1, hs2]) (by rw [hs2]; rfl)))
  obtain ⟨a1, a2, xs, ys, e, e1, e2, q⟩ := q1
  subst e
  obtain ⟨u, v, rfl, ru, rv⟩ := r1.two
  cases ru
  cases rv
  obtain ⟨its, r1', p1, hz⟩ := I1.list (.inl e1)
  obtain ⟨its2, r2', p2, hz2⟩ := I1.list (.inl e2)
  have ad : ∀ (n i j : Nat), i ≠ j → n + i ≠ n + j := fun n i j h => by omega
  refine call_zip_2 p1.isList p2.isList fun h' hz hTI hTO h1 h2 _ hk => wpAny_pyIter_zip hz ?_
  refine ⟨s1.heap.objs.size + 4, [s1.heap.objs.size + 4, s1.heap.objs.size + 2, s1.heap.objs.size + 3, s1.heap.objs.size, s1.heap.objs.size + 1], _, _, H1, rfl, I1.kept (t' := s1.toks) hk,
    turn_zipL a1 a2 (s1.heap.objs.size + 4) (s1.heap.objs.size + 2) (s1.heap.objs.size + 3) s1.heap.objs.size (s1.heap.objs.size + 1) (ad _ 2 4 (by decide)) (ad _ 3 4 (by decide)) (ad _ 0 4 (by decide)) (ad _ 1 4 (by decide)) (ad _ 2 3 (by decide)) (ad _ 2 0 (by decide)) (ad _ 2 1 (by decide)) (ad _ 3 0 (by decide)) (ad _ 3 1 (by decide)) (ad _ 0 1 (by decide)), ⟨hz, hTI, ⟨_, _, hTO⟩, h1, h2⟩, fun b hb => ?_, q⟩
  have hb' : s1.heap.objs.size ≤ b := by
    simp only [List.mem_cons, List.not_mem_nil, or_false] at hb
    rcases hb with rfl | rfl | rfl | rfl | rfl
    · exact Nat.le_add_right _ 4
    · exact Nat.le_add_right _ 2
    · exact Nat.le_add_right _ 3
    · exact Nat.le_refl _
    · exact Nat.le_add_right _ 1
  exact I1.fpOk hb' (I1.hok.fresh hb')
end
theorem comp_zipL {K : PySem.W.Frag} {js : List Nat} {te : TE} {σ : L2.St} {H : Hp} {Q : VK} {a1 a2 : Addr} {xs ys : List V} (hl : xs.length = ys.length) (hn : xs.length ≤ sizeLine) (Pv : Nat → List V → Hp → Prop) (h0 : Pv 0 [] H)
    (hk : ∀ i zs H, Pv i zs H → Rd H a1 (.lst xs) ∧ Rd H a2 (.lst ys))
    (hs : ∀ i zs H p x y, xs[i]? = some x → ys[i]? = some y → zs.length = i → Pv i zs H → H p = none → te (some x :: some y :: frees js σ) (upd H p (.tup [x, y])) fun v H3 => Pv (i + 1) (zs ++ [v]) H3)
    (hd : ∀ zs H, zs.length = xs.length → Pv xs.length zs H → ∀ p, H p = none → Q (.ref p) (upd H p (.lst zs))) :
    CompG 2 js (gTup K 2 (gCons (gName 0) (gCons (gName 1) gNil))) te σ Q (ItzL a1 a2) H := by
  refine ⟨fun i m zs τ H => m = xs.length - i ∧ i ≤ xs.length ∧ zs.length = i ∧ Pv i zs H ∧ ∃ o o', τ = o :: o' :: frees js σ, ⟨xs.length, by simp, Nat.zero_le _, rfl, h0, none, none, rfl⟩, ?_⟩
  rintro i m zs τ H ⟨rfl, hi, hzl, p, o, o', rfl⟩
  obtain ⟨e1, e2⟩ := hk i zs H p
  by_cases hlt : i < xs.length
  · have hlt2 : i < ys.length := by omega
    refine .inr ⟨⟨xs, ys, xs[i], ys[i], e1, e2, by simp [hlt], by simp [hlt2]⟩, by omega, fun v H' y => ?_⟩
    obtain ⟨pp, x, y, hp, rfl, hx, hy, rfl⟩ := y
    refine ⟨pp, _, rfl, SqT.of upd_same, rfl, _, _, rfl, _, _, rfl, rfl, ?_⟩
    exact ⟨fun v H3 => Pv (i + 1) (zs ++ [v]) H3, fun v H3 p3 => ⟨xs.length - (i + 1), by omega, rfl, hlt, by simp [hzl], p3, _, _, rfl⟩, hs i zs _ pp x y (hx xs e1) (hy ys e2) hzl p hp⟩
  · have e : i = xs.length := by omega
    subst e
    exact .inl ⟨⟨xs, e1, rfl⟩, hd zs H hzl p⟩
theorem qi_zipL {X : Cx} {a b : Expr} {ta : TA} {p pos : Pos} {elts : List Expr} {x1} {tpos : Pos} (hg : Gl X "zip") (hm : X.mg "zip" = none) (ha : QA X [a, b] ta) (h1 : notStar a = true := by rfl) (h2 : notStar b = true := by rfl) :
    QI X (.Tuple elts x1 tpos) (.Call (.Name "zip" p) [a, b] [] pos) (iZipL ta) := ⟨pi_zipL hg hm ha.h h1 h2⟩
inductive Eqw (H : Hp) : Nat → V → V → Prop where
  | int (n : Nat) (i : Int) : Eqw H n (.int i) (.int i)
  | str (n : Nat) (x : Str) : Eqw H n (.str x) (.str x)
  | non (n : Nat) : Eqw H n .non .non
  | tup {n : Nat} {a b : Addr} {xs ys : List V} (h1 : Rd H a (.tup xs)) (h2 : Rd H b (.tup ys)) (hl : xs.length = ys.length) (hz : xs.length ≤ sizeLine)
      (hi : ∀ (i : Nat) (x y : V), xs[i]? = some x → ys[i]? = some y → Eqw H n x y) : Eqw H (n + 1) (.ref a) (.ref b)
  | lst {n : Nat} {a b : Addr} {xs ys : List V} (h1 : H a = some (.lst xs)) (h2 : H b = some (.lst ys)) (hl : xs.length = ys.length) (hz : xs.length ≤ sizeLine)
      (hi : ∀ (i : Nat) (x y : V), xs[i]? = some x → ys[i]? = some y → Eqw H n x y) : Eqw H (n + 1) (.ref a) (.ref b)
theorem Eqw.same {H H' : Hp} (s : Same H H') : ∀ {n : Nat} {x y : V}, Eqw H n x y → Eqw H' n x y := fun h => by
  induction h with
  | int n i => exact .int n i
  | str n x => exact .str n x
  | non n => exact .non n
  | tup h1 h2 hl hz _ ih => exact .tup (Rd.same s h1) (Rd.same s h2) hl hz ih
  | lst h1 h2 hl hz _ ih => exact .lst (s _ _ h1) (s _ _ h2) hl hz ih
theorem Eqw.ints {H : Hp} {n : Nat} {a b : Addr} {ns : List Int} (h1 : Rd H a (.tup (ns.map V.int))) (h2 : Rd H b (.tup (ns.map V.int))) (hz : ns.length ≤ sizeLine) : Eqw H (n + 1) (.ref a) (.ref b) :=
  .tup h1 h2 rfl (by rw [List.length_map]; exact hz) fun i x y e1 e2 => by
    rw [e1] at e2
    cases e2
    obtain ⟨z, rfl, _⟩ := ints_get e1
    exact .int _ _
theorem Eqw.three {H : Hp} {n : Nat} {a b : Addr} {x1 x2 x3 y1 y2 y3 : V} (h1 : Rd H a (.tup [x1, x2, x3])) (h2 : Rd H b (.tup [y1, y2, y3])) (e1 : Eqw H n x1 y1) (e2 : Eqw H n x2 y2) (e3 : Eqw H n x3 y3) : Eqw H (n + 1) (.ref a) (.ref b) :=
  .tup h1 h2 rfl (by show 3 ≤ sizeLine; decide) fun i x y ex ey => by
    match i, ex, ey with
    | 0, ex, ey => cases ex; cases ey; exact e1
    | 1, ex, ey => cases ex; cases ey; exact e2
    | 2, ex, ey => cases ex; cases ey; exact e3
    | i + 3, ex, ey => cases ex
theorem Eqw.cell {H : Hp} {n : Nat} (x : Option Int) : Eqw H n (oV x) (oV x) := by
  cases x with
  | none => exact .non _
  | some i => exact .int _ _
theorem Eqw.two {H : Hp} {n : Nat} {a b : Addr} {x1 x2 y1 y2 : V} (h1 : Rd H a (.tup [x1, x2])) (h2 : Rd H b (.tup [y1, y2])) (e1 : Eqw H n x1 y1) (e2 : Eqw H n x2 y2) : Eqw H (n + 1) (.ref a) (.ref b) :=
  .tup h1 h2 rfl (by show 2 ≤ sizeLine; decide) fun i x y ex ey => by
    match i, ex, ey with
    | 0, ex, ey => cases ex; cases ey; exact e1
    | 1, ex, ey => cases ex; cases ey; exact e2
    | i + 2, ex, ey => cases ex
def spAl (n : Nat) : Sp := fun vs H Q _ => ∃ x y, vs = [x, y] ∧ Eqw H n x y ∧ ∀ H', Same H H' → Q (.bl true) H'
def Bt.ou (B : Bt) : Bt := { B with cnt := B.bnd }
theorem BtOk.ou {B : Bt} (h : BtOk B) : BtOk B.ou := ⟨by show 0 ≤ B.bnd; have := h.c0; have := h.cb; omega, Int.le_refl _, h.bm, h.s1, h.eq, h.hx, h.hy⟩
def spBOut (K : PySem.W.Frag) (C : Addr) : Sp := fun vs H Q _ => ∃ (p ta ka ce : Addr) (B : Bt), vs = [.ref p] ∧ BtnAt K C H p ta ka ce B ∧ BtOk B ∧ ∀ H', Mv [p, ce] H H' → BtnAt K C H' p ta ka ce B.ou → Q .non H'
def spOut : Sp := fun vs H Q _ => ∃ (d lc : Addr) (B : Bt), vs = [.ref d] ∧ LawAt H d lc B ∧ BtOk B ∧ ∀ H', Mv [d, lc] H H' → LawAt H' d lc B.ou → Q .non H'
end L3
namespace L3
open PySem PySem.Spec PyProof.Rows L2
theorem vals_refs {Ds : List Addr} : ∀ {its : List Value}, Vals (Ds.map V.ref) its → its = Ds.map Value.ref := by
  induction Ds with
  | nil => intro its h; cases h; rfl
  | cons D r ih =>
    intro its h
    cases h with
    | cons p q => cases (show _ = Value.ref D from p); rw [ih q]; rfl
theorem call_isiXT {X : Cx} : CallR X (.builtin "isinstance") (fun xs H Q => ∃ (a C tp : Addr) (Ds : List Addr) (b : Bool), xs = [.ref a, .ref tp] ∧ H a = some (ExcO a (.ref C)) ∧ ExcCl X.K C ∧ H tp = some (.tup (Ds.map V.ref)) ∧ PySem.W.kitAny X.K (.ref C) (Ds.map Value.ref) = some b ∧ Q (.bl b) H) := by
  intro pins s σ H xs us Q I r h
  obtain ⟨a, C, tp, Ds, b, rfl, ha, ec, hp, hk, q⟩ := h
  obtain ⟨u, v, rfl, ru, rv⟩ := vals2 r
  cases ru
  cases (show v = Value.ref tp from rv)
  obtain ⟨⟨o, vs, e, hcl, _⟩, _⟩ := I.hok a _ ha
  obtain ⟨its, rvs, ⟨⟨cl, dd, dt, sl⟩, ho, hcl', n, hdt⟩, _⟩ := I.tuple (SqT.of hp)
  replace hcl' : cl = .type "tuple" := hcl'
  replace hdt : dt = .seq its.toArray n := hdt
  subst hcl' hdt
  rw [← vals_refs rvs] at hk
  exact PySem.W.kia_tup (kitx_exc ec) I.kIn ⟨o, e, hcl⟩ ho hk (fun z => nomatch z) fun tk => ⟨.bl _, H, I.tok tk, rfl, q⟩
theorem kit_none {K : PySem.W.Frag} {C : Addr} : ∀ {Ds : List Addr}, (∀ D ∈ Ds, PySem.W.kitOne K (.ref C) (.ref D) = some (decide (C = D))) → C ∉ Ds → PySem.W.kitAny K (.ref C) (Ds.map Value.ref) = some false
  | [], _, _ => rfl
  | D :: r, h, hn => by
    have e := h D (List.mem_cons_self ..)
    rw [decide_eq_false (fun z : C = D => hn (by rw [z]; exact List.mem_cons_self ..))] at e
    simp only [List.map_cons, PySem.W.kitAny, e]
    exact kit_none (fun D hD => h D (List.mem_cons_of_mem _ hD)) (fun z => hn (List.mem_cons_of_mem _ z))
def xMethE (C : Addr) (m : Str) (sp : Sp) (ta : TE) (t : TA) : TX := fun D EX σ H => ta σ H fun x H1 => ∃ a, x = .ref a ∧ NoF C H1 a m ∧ t σ H1 fun vs H2 => sp (x :: (vs ++ [])) H2 (fun _ H3 => D.nx σ H3) (fun v _ H' => ∃ b, v = .ref b ∧ EX σ b H')
theorem qx_methE {X : Cx} {C : Addr} {m : Str} {ps : List Str} {k : Nat} {sp : Sp} {o e : Expr} {es : List Expr} {pos apos pos2 : Pos} {ta : TE} {t : TA} {pl : Sem Bool} (M : Mx X.prog X.w X.K X.mg X.base C m ps k sp) (c : Cls X.K C) (hr : Room k X.A) (he : QE X.nox o ta) (ha : QA X.nox (e :: es) t)
    (hst : starEach (e :: es) X.env = (false, eval e X.env) :: starEach es X.env := by rfl) (hpl : (backTo pos (starEach es X.env)).any (·.1) = false := by rfl)
    (ht : eval (.Call (.Attribute o m apos) (e :: es) [] pos) X.env = (do
      let ov ← eval o X.env
      standAt apos.atName
      let (f, first) ← holding [ov] (getMethod ov m pl)
      callWith pos f first (backTo pos (starEach (e :: es) X.env)) (backToKw pos (keywordEach [] X.env))) := by rfl)
    (hs : swapsWith (.Call (.Attribute o m apos) (e :: es) [] pos) none pos2.line X.env = pure false := by rfl) :
    QX X [.Expr (.Call (.Attribute o m apos) (e :: es) [] pos) pos2] (xMethE C m sp ta t) := ⟨by
  obtain ⟨f, fd, F, hm, hb⟩ := M.ex
  intro pins s σ H D EX R I h hR
  refine wpAny_execs_cons (thn (Q := SP X pins D) (wpAny_Expr_any (Q := SP X pins D) (thn (Q := EP X pins σ fun _ H3 => D.nx σ H3) ?_ fun v s1 ⟨y, H1, I1, r1, q1⟩ => ⟨σ, H1, I1, q1⟩) I.quiet hs) fun f s1 q => ?_)
  · refine PySem.W.methodCall_KW (pl := pl) (wpAny_mono (he.h pins s σ H _ (I.wish _) h) (fun u s1 ⟨x, H1, I1', rx, a, ex, ⟨dx, fs, ea, l⟩, q⟩ => ?_) fun _ _ z => z.elim) ht
    have I1 := I1'.unwish
    subst ex
    obtain rfl : u = Value.ref a := rx
    refine getmeth_ok I1 ea c hm l ?_
    refine PySem.W.callWith_K (first := [.ref a]) (h₀ := X.base) I.ok.mod.kin hm.kp (wpAny_mono (ha.h pos pins s1 σ H1 _ (I1.wish _) q) (fun us s2 ⟨vs, H2, I2', r, q2⟩ => ⟨I2'.unwish.kIn, ?_⟩) fun _ _ z => z.elim) hst hpl
    have I2 := I2'.unwish
    have r2 : Vals (.ref a :: (vs ++ [])) ((Value.ref a :: us) ++ []) := by rw [List.append_nil, List.append_nil]; exact .cons rfl r
    have hl : ((Value.ref a :: us) ++ []).length = ps.length := by rw [← r2.length]; exact F.len _ _ _ _ q2
    refine wpAny_call (codeAny_mono (F.run X.A X.stack s2 H2 ⟨.ref a :: us, []⟩ ((Value.ref a :: us) ++ []) (.ref a :: (vs ++ [])) _ _ hr I2.env0 (hb s2 _ I2.kIn hl) r2 q2) fun r s' hq => ?_)
    cases r with
    | error e => exact hR σ e s' ⟨H2, s2, I2, hq⟩
    | ok fl =>
      cases fl with
      | ret u => exact I2.after hq
      | next => exact False.elim hq
      | brk => exact False.elim hq
      | cont => exact False.elim hq
  · cases f with
    | next => exact wpAny_execs_nil q
    | ret v => exact q
    | brk => exact q
    | cont => exact q⟩
structure X13 (K : PySem.W.Frag) (mg : Str → Option Value) (x : Xa) : Prop extends XGx K mg x where
  o_Worn : XOne K x x.w
theorem X13.e_Worn {K : PySem.W.Frag} {mg : Str → Option Value} {x : Xa} (X : X13 K mg x) : excB K x.w (.ref x.e :: baseX) baseX "ValueError.__new__" = true := X.o_Worn.e
theorem X13.sub {K : PySem.W.Frag} {mg : Str → Option Value} {x : Xa} (X : X13 K mg x) : SubX K x.e (.ref x.w) := ⟨_, _, _, _, rfl, X.o_Worn.e, by rw [List.contains_cons]; simp⟩
def Bt.tn (B : Bt) : Bt := if B.mw then (if B.x = some B.bnd then { B with y := none } else { B with x := none }).ou else B.ou
theorem BtOk.tn {B : Bt} (h : BtOk B) : BtOk B.tn := by
  unfold Bt.tn
  by_cases m : B.mw = true
  · rw [if_pos m]
    by_cases e : B.x = some B.bnd
    · rw [if_pos e]
      exact BtOk.ou ⟨h.c0, h.cb, h.bm, h.s1, .inl e, h.hx, fun v q => by cases q⟩
    · rw [if_neg e]
      exact BtOk.ou ⟨h.c0, h.cb, h.bm, h.s1, .inr (h.eq.resolve_left e), (fun v q => by cases q), h.hy⟩
  · rw [if_neg m]; exact h.ou
theorem tn_cnt (B : Bt) : B.tn.cnt = B.bnd := by unfold Bt.tn; split <;> (try split) <;> rfl
theorem tn_nm (B : Bt) : B.tn.nm = B.nm := by unfold Bt.tn; split <;> (try split) <;> rfl
theorem tn_t (B : Bt) : B.tn.t = B.t := by unfold Bt.tn; split <;> (try split) <;> rfl
theorem tn_age (B : Bt) : B.tn.age = B.age := by unfold Bt.tn; split <;> (try split) <;> rfl
section
variable (K : PySem.W.Frag) (C : Addr) (x : Xa)
def spBPressX : Sp := fun vs H Q E => ∃ (p ta ka ce : Addr) (B : Bt) (d : Int), vs = [.ref p, .int d] ∧ BtnAt K C H p ta ka ce B ∧ isNm B.nm ∧ B.t.length = 16 ∧ 0 ≤ B.cnt ∧ dig d ∧ (4096 ≤ B.cnt → Thrown E H x.w) ∧
  (B.cnt < 4096 → ∀ q pc H', Mv [p, ce] H H' → BtnAt K C H' p ta ka ce B.pr → H' q = some (.tup [.str B.nm, .int B.age, .ref pc]) → H' pc = some (.tup ((codeI B.t B.ks B.nm B.cnt d).map V.int)) → Q (.ref q) H')
def spBTurnX : Sp := fun vs H Q E => ∃ (p ta ka ce kt : Addr) (B : Bt) (ks : List Int), vs = [.ref p, .ref kt] ∧ BtnAt K C H p ta ka ce B ∧ Sq K H kt (ks.map V.int) ∧ (7 ≤ B.age → Thrown E H x.w) ∧
  (B.age < 7 → ∀ ka' H', Mv [p] H H' → BtnAt K C H' p ta ka' ce { B with ks := ks, age := B.age + 1 } → Q .non H')
def spBTorn : Sp := fun vs H Q _ => ∃ (p ta ka ce : Addr) (B : Bt), vs = [.ref p] ∧ BtnAt K C H p ta ka ce B ∧ BtOk B ∧ ∀ H', Mv [p, ce] H H' → BtnAt K C H' p ta ka ce B.tn → Q .non H'
end
def spTorn : Sp := fun vs H Q _ => ∃ (d lc : Addr) (B : Bt), vs = [.ref d] ∧ LawAt H d lc B ∧ BtOk B ∧ ∀ H', Mv [d, lc] H H' → LawAt H' d lc B.tn → Q .non H'
def spPressedX : Sp := fun vs H Q _ => ∃ (d lc : Addr) (B : Bt), vs = [.ref d] ∧ LawAt H d lc B ∧ B.cnt ≤ 4096 ∧ (B.cnt < 4096 → ∀ H', Mv [d, lc] H H' → LawAt H' d lc B.pr → Q (.int B.cnt) H') ∧ (B.cnt = 4096 → Q .non H)
theorem press_mf {K : PySem.W.Frag} {C : Addr} {x : Xa} : ∀ vs H Q E, spBPress K C vs H Q E → spBPressX K C x vs H Q E0 := by
  rintro vs H Q E ⟨p, ta, ka, ce, B, d, rfl, b, hn, hl, c0, c1, hd, q⟩
  exact ⟨p, ta, ka, ce, B, d, rfl, b, hn, hl, c0, hd, fun z => absurd z (by omega), fun _ => q⟩
structure O3 where
  p : Addr
  ta : Addr
  ka : Addr
  ce : Addr
  d : Addr
  lc : Addr
structure On3 (K : PySem.W.Frag) (C : Addr) (H : Hp) (o : O3) (B : Bt) : Prop where
  bt : BtnAt K C H o.p o.ta o.ka o.ce B
  la : LawAt H o.d o.lc B
  nm : isNm B.nm
  tl : B.t.length = 16
  ok : BtOk B
  ne : o.ce ≠ o.lc
def O3.as (o : O3) : List Addr := [o.p, o.ce, o.d, o.lc]
section
variable {K : PySem.W.Frag} {C : Addr} {H H' : Hp} {o : O3} {B : Bt} {bx : Addr} {n : Nat}
theorem On3.apart (h : On3 K C H o B) : o.d ≠ o.p ∧ o.d ≠ o.ce ∧ o.lc ≠ o.p ∧ o.lc ≠ o.ce ∧ o.p ≠ o.ce ∧ o.d ≠ o.lc := by
  obtain ⟨dx, ep⟩ := h.bt.ob
  exact ⟨ne_of h.la.di ep (by intro z; cases z), ne_of h.la.di h.bt.cs (by intro z; cases z), ne_of h.la.cs ep (by intro z; cases z), h.ne.symm, h.bt.ne, ne_of h.la.di h.la.cs (by intro z; cases z)⟩
theorem On3.nt (h : On3 K C H o B) : NT o.as H := fun c hc => by
  obtain ⟨dx, ep⟩ := h.bt.ob
  simp only [O3.as, List.mem_cons, List.not_mem_nil, or_false] at hc
  rcases hc with rfl | rfl | rfl | rfl
  · exact ⟨_, ep, trivial⟩
  · exact ⟨_, h.bt.cs, trivial⟩
  · exact ⟨_, h.la.di, trivial⟩
  · exact ⟨_, h.la.cs, trivial⟩
theorem On3.ntd (h : On3 K C H o B) : NT [o.d, o.lc] H := fun c hc => h.nt c (by
  simp only [List.mem_cons, List.not_mem_nil, or_false] at hc
  rcases hc with rfl | rfl <;> simp [O3.as])
theorem On3.nbx (h : On3 K C H o B) (hb : BoxC H bx n) : bx ∉ o.as := fun hc => by
  obtain ⟨_, _, _, e, _⟩ := hb
  obtain ⟨dx, ep⟩ := h.bt.ob
  simp only [O3.as, List.mem_cons, List.not_mem_nil, or_false] at hc
  rcases hc with z | z | z | z
  · exact ne_of e ep (by intro z; cases z) z
  · exact ne_of e h.bt.cs (lne_len (by show 3 ≠ 2; decide)) z
  · exact ne_of e h.la.di (by intro z; cases z) z
  · exact ne_of e h.la.cs (lne_len (by show 3 ≠ 2; decide)) z
theorem On3.mv {S : List Addr} (h : On3 K C H o B) (m : Mv S H H') (n : NT S H) (hp : o.p ∉ S) (hc : o.ce ∉ S) (hd : o.d ∉ S) (hl : o.lc ∉ S) : On3 K C H' o B := ⟨h.bt.mv m n hp hc, h.la.mv m hd hl, h.nm, h.tl, h.ok, h.ne⟩
theorem On3.same (h : On3 K C H o B) (s : Same H H') : On3 K C H' o B := h.mv (S := []) s.mv (fun c h => nomatch h) (fun h => nomatch h) (fun h => nomatch h) (fun h => nomatch h) (fun h => nomatch h)
theorem On3.grc {n' : Nat} (h : On3 K C H o B) (hb : BoxC H bx n) (g : GrC bx n' H H') : On3 K C H' o B := by
  have nb := h.nbx hb
  obtain ⟨_, _, _, e, _⟩ := hb
  have ne : ∀ c ∈ o.as, c ∉ [bx] := fun c hc z => nb (List.mem_singleton.mp z ▸ hc)
  exact h.mv g.mv (NT.one e trivial) (ne _ (by simp [O3.as])) (ne _ (by simp [O3.as])) (ne _ (by simp [O3.as])) (ne _ (by simp [O3.as]))
theorem Mv.o3p (m : Mv [o.p, o.ce] H H') : Mv o.as H H' := m.mono fun c h z => h (by
  simp only [List.mem_cons, List.not_mem_nil, or_false] at z
  rcases z with rfl | rfl <;> simp [O3.as])
theorem Mv.o3d (m : Mv [o.d, o.lc] H H') : Mv o.as H H' := m.mono fun c h z => h (by
  simp only [List.mem_cons, List.not_mem_nil, or_false] at z
  rcases z with rfl | rfl <;> simp [O3.as])
theorem BoxC.o3 (hb : BoxC H bx n) (m : Mv o.as H H') (h : bx ∉ o.as) : BoxC H' bx n := let ⟨x1, x2, x3, e, r⟩ := hb; ⟨x1, x2, x3, m _ _ h e, r⟩
theorem On3.two {H1 H2 : Hp} {B' : Bt} (h : On3 K C H o B) (m1 : Mv [o.d, o.lc] H H1) (l1 : LawAt H1 o.d o.lc B') (m2 : Mv [o.p, o.ce] H1 H2) (b2 : BtnAt K C H2 o.p o.ta o.ka o.ce B') (hn : B'.nm = B.nm) (ht : B'.t = B.t) (ok : BtOk B') : On3 K C H2 o B' := by
  obtain ⟨a1, a2, a3, a4, a5, a6⟩ := h.apart
  exact ⟨b2, l1.mv m2 (nin2 a1 a2) (nin2 a3 a4), by rw [hn]; exact h.nm, by rw [ht]; exact h.tl, ok, h.ne⟩
theorem On3.btn {H1 : Hp} (h : On3 K C H o B) (m1 : Mv [o.d, o.lc] H H1) : BtnAt K C H1 o.p o.ta o.ka o.ce B := by
  obtain ⟨a1, a2, a3, a4, a5, a6⟩ := h.apart
  exact h.bt.mv m1 h.ntd (nin2 a1.symm a3.symm) (nin2 a2.symm a4.symm)
end
section
variable (K : PySem.W.Frag) (C : Addr)
def spStands : Sp := fun vs H Q _ => ∃ (o : O3) (B : Bt), vs = [.ref o.p, .ref o.d, .int B.age] ∧ On3 K C H o B ∧ ∀ H', Same H H' → Q (.bl true) H'
def spLost : Sp := fun vs H Q _ => ∃ (o : O3) (B : Bt) (b : Bool), vs = [.ref o.p, .ref o.d, .bl b] ∧ On3 K C H o B ∧ ∀ H', Mv o.as H H' → On3 K C H' o (if b then B.tn else B.ou) → Q .non H'
def spRefused : Sp := fun vs H Q _ => (∃ (o : O3) (B : Bt) (d : Int), vs = [.ref o.p, .str "press", .int d] ∧ On3 K C H o B ∧ dig d ∧ B.cnt = 4096 ∧ ∀ H', Same H H' → Q (.str "Worn") H') ∨
  ∃ (o : O3) (B : Bt) (kt : Addr) (ks : List Int), vs = [.ref o.p, .str "turn", .ref kt] ∧ On3 K C H o B ∧ H kt = some (.lst (ks.map V.int)) ∧ (7 ≤ B.age → ∀ H', Same H H' → Q (.str "Worn") H') ∧ (B.age < 7 → ∀ ka' H', Mv [o.p] H H' → On3 K C H' { o with ka := ka' } { B with ks := ks, age := B.age + 1 } → Q (.str "") H')
def spWornL : Sp := fun vs H Q _ => ∃ (bx : Addr) (n : Nat) (o : O3) (B : Bt), vs = [.ref bx, .ref o.p, .ref o.d, .int B.age] ∧ BoxC H bx n ∧ n ≤ 1000 ∧ On3 K C H o B ∧ ∀ H', Mv (bx :: o.as) H H' → Q (.bl true) H'
end
end L3
namespace L3
open PySem PySem.Spec PyProof.Rows L2
theorem try_key2 {K : PySem.W.Frag} {CE : Addr} {i : Nat} {tb : TX} {ts u : TS} {D : Ends} {σ : L2.St} {H : Hp} (G : L2.St → Hp → Prop) (EXg : L2.St → Addr → Hp → Prop)
    (h : ∀ (D' : Ends) (EX : L2.St → Addr → Hp → Prop), (∀ σ' H', G σ' H' → D'.nx σ' H') → (∀ σ' a H', EXg σ' a H' → EX σ' a H') → tb D' EX σ H)
    (hx : ∀ (D' : Ends) σ' a H', (∀ σ' H', G σ' H' → D'.nx σ' H') → EXg σ' a H' → (∀ cls, H' a = some (ExcO a cls) → SubX K CE cls) ∧ ts (goneD D' i) (σ'.set i (some (.ref a))) H')
    (hG : ∀ σ' H', G σ' H' → u D σ' H') : tSeq (sTry K CE i tb ts) u D σ H := h { D with nx := u D } _ hG fun σ' a H' e => hx { D with nx := u D } σ' a H' hG e
theorem Eqw.l3 {H : Hp} {n : Nat} {a b : Addr} {x1 x2 x3 y1 y2 y3 : V} (h1 : H a = some (.lst [x1, x2, x3])) (h2 : H b = some (.lst [y1, y2, y3])) (e1 : Eqw H n x1 y1) (e2 : Eqw H n x2 y2) (e3 : Eqw H n x3 y3) : Eqw H (n + 1) (.ref a) (.ref b) :=
  .lst h1 h2 rfl (by show 3 ≤ sizeLine; decide) fun i x y ex ey => by
    match i, ex, ey with
    | 0, ex, ey => cases ex; cases ey; exact e1
    | 1, ex, ey => cases ex; cases ey; exact e2
    | 2, ex, ey => cases ex; cases ey; exact e3
    | i + 3, ex, ey => cases ex
theorem neq_self {v : V} : (!decide (v = v)) = false := by rw [decide_eq_true rfl]; rfl
theorem call_isiXK {X : Cx} {K : PySem.W.Frag} (hK : X.K = K) : CallR X (.builtin "isinstance") (fun xs H Q => ∃ (a C : Addr) (c : V) (cv : Value) (b : Bool), xs = [.ref a, c] ∧ H a = some (ExcO a (.ref C)) ∧ ExcCl K C ∧ ((∃ D, c = .ref D ∧ cv = .ref D) ∨ ∃ T, c = .ty T ∧ cv = .type T) ∧ PySem.W.kitOne K (.ref C) cv = some b ∧ Q (.bl b) H) := by
  subst hK
  exact call_isiX
theorem call_isiXTK {X : Cx} {K : PySem.W.Frag} (hK : X.K = K) : CallR X (.builtin "isinstance") (fun xs H Q => ∃ (a C tp : Addr) (Ds : List Addr) (b : Bool), xs = [.ref a, .ref tp] ∧ H a = some (ExcO a (.ref C)) ∧ ExcCl K C ∧ H tp = some (.tup (Ds.map V.ref)) ∧ PySem.W.kitAny K (.ref C) (Ds.map Value.ref) = some b ∧ Q (.bl b) H) := by
  subst hK
  exact call_isiXT
end L3
namespace L3
open PySem PySem.Spec PyProof.Rows L2
structure W13 (K : PySem.W.Frag) (C : Addr) (H0 H : Hp) (b rt kk : Addr) (o : O3) (n : Nat) (B : Bt) : Prop where
  s : Same H0 H
  bx : BoxC H b n
  on : On3 K C H o B
  tt : SqT K H rt (B.t.map V.int)
  kt : SqT K H kk (B.ks.map V.int)
  fr : ∀ c ∈ b :: o.as, H0 c = none
section
variable {K : PySem.W.Frag} {C : Addr} {H0 H H' : Hp} {b rt kk : Addr} {o : O3} {n n' : Nat} {B B' : Bt}
theorem W13.nt (w : W13 K C H0 H b rt kk o n B) : NT (b :: o.as) H := fun c hc => by
  rcases List.mem_cons.mp hc with rfl | hc
  · obtain ⟨_, _, _, e, _⟩ := w.bx
    exact ⟨_, e, trivial⟩
  · exact w.on.nt c hc
theorem W13.same (w : W13 K C H0 H b rt kk o n B) (s : Same H H') : W13 K C H0 H' b rt kk o n B := ⟨w.s.trans s, (s.grc w.bx).bx, w.on.same s, Same.sqt s w.tt, Same.sqt s w.kt, w.fr⟩
theorem W13.moved (w : W13 K C H0 H b rt kk o n B) (m : Mv (b :: o.as) H H') (bx : BoxC H' b n') (on : On3 K C H' o B') (ht : B'.t = B.t) (hk : B'.ks = B.ks) : W13 K C H0 H' b rt kk o n' B' :=
  ⟨Same.mv_of w.s m w.fr, bx, on, by rw [ht]; exact m.sqt w.nt w.tt, by rw [hk]; exact m.sqt w.nt w.kt, w.fr⟩
theorem W13.grc (w : W13 K C H0 H b rt kk o n B) (g : GrC b n' H H') : W13 K C H0 H' b rt kk o n' B :=
  w.moved (g.mv.mono fun c h z => h (by rw [List.mem_singleton.mp z]; exact List.mem_cons_self ..)) g.bx (w.on.grc w.bx g) rfl rfl
theorem W13.nb (w : W13 K C H0 H b rt kk o n B) : b ∉ o.as := w.on.nbx w.bx
theorem W13.own {l : Addr} {xs ys : List V} (w : W13 K C H0 H b rt kk o n B) (hl : H l = some (.lst xs)) (h0 : H0 l = none) (hn : l ∉ b :: o.as) : W13 K C H0 (upd H l (.lst ys)) b rt kk o n B := by
  have m : Mv [l] H (upd H l (.lst ys)) := Mv.upd1
  have nt : NT [l] H := NT.one hl trivial
  have ne : ∀ c ∈ b :: o.as, c ∉ [l] := fun c hc z => hn (List.mem_singleton.mp z ▸ hc)
  obtain ⟨x1, x2, x3, e, r⟩ := w.bx
  exact ⟨Same.mv_of w.s m (fun c hc => by rw [List.mem_singleton.mp hc]; exact h0), ⟨x1, x2, x3, m _ _ (ne _ (List.mem_cons_self ..)) e, r⟩, w.on.mv m nt (ne _ (by simp [O3.as])) (ne _ (by simp [O3.as])) (ne _ (by simp [O3.as])) (ne _ (by simp [O3.as])), m.sqt nt w.tt, m.sqt nt w.kt, w.fr⟩
theorem W13.fresh {l : Addr} (w : W13 K C H0 H b rt kk o n B) (hl : H l = none) : l ∉ b :: o.as ∧ H0 l = none := by
  refine ⟨fun z => ?_, s2n hl w.s⟩
  obtain ⟨o', e, _⟩ := w.nt l z
  rw [hl] at e; cases e
end
end L3
namespace Lw
open PySem L2 L3
def top (i : Nat) : Stmt := PySem.Challenge.pw_rollcode_k13_keys_turned_and_worn.main.body.getD i (.Pass ⟨0, 0, 0, 0⟩)
abbrev s_coded : Stmt := top 13
abbrev s_letter_digits : Stmt := top 18
abbrev s_key_of : Stmt := top 19
abbrev s_count_digits : Stmt := top 20
abbrev s_press_of : Stmt := top 21
abbrev s_Button___init : Stmt := inClass (top 23) 0
abbrev s_Button_is_worn : Stmt := inClass (top 23) 2
abbrev s_Button_must_write : Stmt := inClass (top 23) 3
abbrev s_Button_spare_cell : Stmt := inClass (top 23) 4
abbrev s_Button_write_bound : Stmt := inClass (top 23) 5
abbrev s_Button_press_once : Stmt := inClass (top 23) 1
abbrev s_Button_cell_out : Stmt := inClass (top 23) 6
abbrev s_Button_cell_torn : Stmt := inClass (top 23) 7
abbrev s_Button_turn_key : Stmt := inClass (top 23) 8
abbrev s_Button_age_now : Stmt := inClass (top 23) 10
abbrev s_Button_count_now : Stmt := inClass (top 23) 11
abbrev s_Button_cells_now : Stmt := inClass (top 23) 12
abbrev s_law_box : Stmt := top 25
abbrev s_law_take : Stmt := top 26
abbrev s_law_table : Stmt := top 27
abbrev s_law_key : Stmt := top 28
abbrev s_law_name : Stmt := top 29
abbrev s_law_begun : Stmt := top 30
abbrev s_law_pressed : Stmt := top 31
abbrev s_law_out : Stmt := top 32
abbrev s_law_torn : Stmt := top 33
abbrev s_law_alike : Stmt := top 34
abbrev s_law_refused : Stmt := top 35
abbrev s_law_stands : Stmt := top 36
abbrev s_law_lost : Stmt := top 37
abbrev s_law_worn : Stmt := top 38
abbrev s_law : Stmt := top 39
theorem sc_coded : FnScope (["table", "key", "digits", "row", "shift", "place", "ahead"] : List Str) (["table", "key", "digits"] : List Str) (defScope s_coded) := ⟨rfl, rfl, rfl, by decide +kernel, rfl, by decide +kernel, by decide +kernel⟩
theorem sc_letter_digits : FnScope (["name", "digits", "letter", "place"] : List Str) (["name"] : List Str) (defScope s_letter_digits) := ⟨rfl, rfl, rfl, by decide +kernel, rfl, by decide +kernel, by decide +kernel⟩
theorem sc_key_of : FnScope (["table", "key", "name", "sums", "place", "digit"] : List Str) (["table", "key", "name"] : List Str) (defScope s_key_of) := ⟨rfl, rfl, rfl, by decide +kernel, rfl, by decide +kernel, by decide +kernel⟩
theorem sc_count_digits : FnScope (["count"] : List Str) (["count"] : List Str) (defScope s_count_digits) := ⟨rfl, rfl, rfl, by decide +kernel, rfl, by decide +kernel, by decide +kernel⟩
theorem sc_press_of : FnScope (["table", "key", "name", "age", "count", "deed", "four", "five"] : List Str) (["table", "key", "name", "age", "count", "deed"] : List Str) (defScope s_press_of) := ⟨rfl, rfl, rfl, by decide +kernel, rfl, by decide +kernel, by decide +kernel⟩
theorem sc_Button___init : FnScope (["self", "name", "table", "key", "age", "step"] : List Str) (["self", "name", "table", "key", "age", "step"] : List Str) (defScope s_Button___init) := ⟨rfl, rfl, rfl, by decide +kernel, rfl, by decide +kernel, by decide +kernel⟩
theorem sc_Button_is_worn : FnScope (["self"] : List Str) (["self"] : List Str) (defScope s_Button_is_worn) := ⟨rfl, rfl, rfl, by decide +kernel, rfl, by decide +kernel, by decide +kernel⟩
theorem sc_Button_must_write : FnScope (["self"] : List Str) (["self"] : List Str) (defScope s_Button_must_write) := ⟨rfl, rfl, rfl, by decide +kernel, rfl, by decide +kernel, by decide +kernel⟩
theorem sc_Button_spare_cell : FnScope (["self"] : List Str) (["self"] : List Str) (defScope s_Button_spare_cell) := ⟨rfl, rfl, rfl, by decide +kernel, rfl, by decide +kernel, by decide +kernel⟩
theorem sc_Button_write_bound : FnScope (["self", "spare"] : List Str) (["self"] : List Str) (defScope s_Button_write_bound) := ⟨rfl, rfl, rfl, by decide +kernel, rfl, by decide +kernel, by decide +kernel⟩
theorem sc_Button_press_once : FnScope (["self", "deed", "press"] : List Str) (["self", "deed"] : List Str) (defScope s_Button_press_once) := ⟨rfl, rfl, rfl, by decide +kernel, rfl, by decide +kernel, by decide +kernel⟩
theorem sc_Button_cell_out : FnScope (["self", "greatest"] : List Str) (["self"] : List Str) (defScope s_Button_cell_out) := ⟨rfl, rfl, rfl, by decide +kernel, rfl, by decide +kernel, by decide +kernel⟩
theorem sc_Button_cell_torn : FnScope (["self"] : List Str) (["self"] : List Str) (defScope s_Button_cell_torn) := ⟨rfl, rfl, rfl, by decide +kernel, rfl, by decide +kernel, by decide +kernel⟩
theorem sc_Button_turn_key : FnScope (["self", "key"] : List Str) (["self", "key"] : List Str) (defScope s_Button_turn_key) := ⟨rfl, rfl, rfl, by decide +kernel, rfl, by decide +kernel, by decide +kernel⟩
theorem sc_Button_age_now : FnScope (["self"] : List Str) (["self"] : List Str) (defScope s_Button_age_now) := ⟨rfl, rfl, rfl, by decide +kernel, rfl, by decide +kernel, by decide +kernel⟩
theorem sc_Button_count_now : FnScope (["self"] : List Str) (["self"] : List Str) (defScope s_Button_count_now) := ⟨rfl, rfl, rfl, by decide +kernel, rfl, by decide +kernel, by decide +kernel⟩
theorem sc_Button_cells_now : FnScope (["self"] : List Str) (["self"] : List Str) (defScope s_Button_cells_now) := ⟨rfl, rfl, rfl, by decide +kernel, rfl, by decide +kernel, by decide +kernel⟩
theorem sc_law_box : FnScope (["_law_script", "_law_k", "_law_cell", "_law_fold", "_law_one"] : List Str) (["_law_script", "_law_k"] : List Str) (defScope s_law_box) := ⟨rfl, rfl, rfl, by decide +kernel, rfl, by decide +kernel, by decide +kernel⟩
theorem sc_law_take : FnScope (["_law_box_here", "_law_many", "_law_digit", "_law_m", "_law_turn"] : List Str) (["_law_box_here", "_law_many"] : List Str) (defScope s_law_take) := ⟨rfl, rfl, rfl, by decide +kernel, rfl, by decide +kernel, by decide +kernel⟩
theorem sc_law_table : FnScope (["_law_box_here", "_law_rest"] : List Str) (["_law_box_here"] : List Str) (defScope s_law_table) := ⟨rfl, rfl, rfl, by decide +kernel, rfl, by decide +kernel, by decide +kernel⟩
theorem sc_law_key : FnScope (["_law_box_here"] : List Str) (["_law_box_here"] : List Str) (defScope s_law_key) := ⟨rfl, rfl, rfl, by decide +kernel, rfl, by decide +kernel, by decide +kernel⟩
theorem sc_law_name : FnScope (["_law_box_here", "_law_some"] : List Str) (["_law_box_here"] : List Str) (defScope s_law_name) := ⟨rfl, rfl, rfl, by decide +kernel, rfl, by decide +kernel, by decide +kernel⟩
theorem sc_law_begun : FnScope (["_law_step"] : List Str) (["_law_step"] : List Str) (defScope s_law_begun) := ⟨rfl, rfl, rfl, by decide +kernel, rfl, by decide +kernel, by decide +kernel⟩
theorem sc_law_pressed : FnScope (["_law_own", "_law_place"] : List Str) (["_law_own"] : List Str) (defScope s_law_pressed) := ⟨rfl, rfl, rfl, by decide +kernel, rfl, by decide +kernel, by decide +kernel⟩
theorem sc_law_out : FnScope (["_law_own"] : List Str) (["_law_own"] : List Str) (defScope s_law_out) := ⟨rfl, rfl, rfl, by decide +kernel, rfl, by decide +kernel, by decide +kernel⟩
theorem sc_law_torn : FnScope (["_law_own"] : List Str) (["_law_own"] : List Str) (defScope s_law_torn) := ⟨rfl, rfl, rfl, by decide +kernel, rfl, by decide +kernel, by decide +kernel⟩
theorem sc_law_alike : FnScope (["_law_found", "_law_due"] : List Str) (["_law_found", "_law_due"] : List Str) (defScope s_law_alike) := ⟨rfl, rfl, rfl, by decide +kernel, rfl, by decide +kernel, by decide +kernel⟩
theorem sc_law_refused : FnScope (["_law_button", "_law_deed", "_law_given", "_law_word", "error", "_law_others"] : List Str) (["_law_button", "_law_deed", "_law_given"] : List Str) (defScope s_law_refused) := ⟨rfl, rfl, rfl, by decide +kernel, rfl, by decide +kernel, by decide +kernel⟩
theorem sc_law_stands : FnScope (["_law_button", "_law_own", "_law_age", "_law_told"] : List Str) (["_law_button", "_law_own", "_law_age"] : List Str) (defScope s_law_stands) := ⟨rfl, rfl, rfl, by decide +kernel, rfl, by decide +kernel, by decide +kernel⟩
theorem sc_law_lost : FnScope (["_law_button", "_law_own", "_law_torn_here"] : List Str) (["_law_button", "_law_own", "_law_torn_here"] : List Str) (defScope s_law_lost) := ⟨rfl, rfl, rfl, by decide +kernel, rfl, by decide +kernel, by decide +kernel⟩
theorem sc_law_worn : FnScope (["_law_box_here", "_law_button", "_law_own", "_law_age", "_law_turn"] : List Str) (["_law_box_here", "_law_button", "_law_own", "_law_age"] : List Str) (defScope s_law_worn) := ⟨rfl, rfl, rfl, by decide +kernel, rfl, by decide +kernel, by decide +kernel⟩
theorem sc_law : FnScope (["_law_script", "_law_k", "_law_box_here", "_law_name_here", "_law_table_here", "_law_key_here", "_law_age", "_law_step", "_law_button", "_law_own", "_law_turn", "_law_more", "_law_due", "_law_deed"] : List Str) (["_law_script"] : List Str) (defScope s_law) := ⟨rfl, rfl, rfl, by decide +kernel, rfl, by decide +kernel, by decide +kernel⟩
structure Txt (K : PySem.W.Frag) (mg : Str → Option Value) (tk : Nat → Tok) : Prop where
  g_DIGITS : mg "DIGITS" = some (.int 16 (tk 0))
  g_KEY_PLACES : mg "KEY_PLACES" = some (.int 4 (tk 1))
  g_AGES : mg "AGES" = some (.int 8 (tk 2))
  g_COUNTS : mg "COUNTS" = some (.int 4096 (tk 3))
  b_isinstance : mg "isinstance" = none
  b_bool : mg "bool" = none
  b_int : mg "int" = none
  b_tuple : mg "tuple" = none
  b_all : mg "all" = none
  b_len : mg "len" = none
  b_abs : mg "abs" = none
  b_list : mg "list" = none
  b_range : mg "range" = none
  b_str : mg "str" = none
  b_zip : mg "zip" = none
  b_ord : mg "ord" = none
  b_sum : mg "sum" = none
  b_min : mg "min" = none
  b_enumerate : mg "enumerate" = none
  b_max : mg "max" = none
section
variable {P : Program} {w : World} {K : PySem.W.Frag} {mg : Str → Option Value} {base : Heap} {tk : Nat → Tok}
theorem ok_law_take (a : At K mg "_law_take" s_law_take ["_law_box_here", "_law_many"]) (T : Txt K mg tk) : Df P w K mg base "_law_take" ["_law_box_here", "_law_many"] 1 spTake2 := by
  refine a.dq sc_law_take (fun vs H Q E h => ?_) (fun f cdv A outer s H vs Q E hr h => ?_)
  · obtain ⟨b, many, c, rfl, _⟩ := h
    rfl
  · obtain ⟨b, many, c, rfl, ⟨n, m, k, hb, m0, m1, k0, k1⟩, hc, h0, h1, q⟩ := h
    refine ⟨_, (qss_cons (qs_if (qt_cmpR op_gt (qe_ix ix_list (qv 0) qe_int (fun _ _ => rfl)) qe_int (nomark _)) (qss_cons (qs_set (i := 2) sc_law_take.nd rfl (Or.inl rfl) (qe_op op_mod (qe_ix ix_list (qv 0) qe_int (fun _ _ => rfl)) (qv 1)))
      (qss_cons (qs_asg (qe_op op_fdiv (qe_ix ix_list (qv 0) qe_int (fun _ _ => rfl)) (qv 1)) (qg_sub (qv 0) qe_int set_list))
      (qss_one (qs_ret (qv 2))))) qss_nil)
      (qss_cons (qs_asg (qe_op op_add (qe_ix ix_list (qv 0) qe_int (fun _ _ => rfl)) qe_int) (qg_sub (qv 0) qe_int set_list))
      (qss_cons (qs_set (i := 3) sc_law_take.nd rfl (Or.inl rfl) (qe_op op_add (qe_ix ix_list (qv 0) qe_int (fun _ _ => rfl)) (qe_op op_mul qe_int (qe_ix ix_list (qv 0) qe_int (fun _ _ => rfl)))))
      (qss_cons (qs_for PassesOwn.never rfl (qi_range1 rfl T.b_range (qac qe_int qa_nil)) (qg_name (i := 4) sc_law_take.nd rfl (Or.inl rfl))
      (qss_one (qs_set (i := 3) sc_law_take.nd rfl (Or.inl rfl) (qe_op op_mod (qe_op op_add (qe_op op_add (qe_op op_mul (qv 3) (qv 3)) (qe_op op_mul qe_int (qe_ix ix_list (qv 0) qe_int (fun _ _ => rfl)))) qe_int) qe_int))))
      (qss_one (qs_ret (qe_op op_mod (qe_op op_fdiv (qv 3) qe_int) (qv 1)))))))), ?_⟩
    refine ⟨_, rfl, b, _, _, _, rfl, rfl, SqL.of hb, rfl, _, _, rfl, rfl, _, rfl, ?_⟩
    refine ite2 (fun _ => ?_) (fun _ => ?_)
    · refine ⟨_, rfl, b, _, _, _, rfl, rfl, SqL.of hb, rfl, _, rfl, _, _, rfl, rfl, h0, ?_⟩
      refine ⟨_, rfl, b, _, _, _, rfl, rfl, SqL.of hb, rfl, _, rfl, _, _, rfl, rfl, ⟨h0, h1⟩, _, rfl, b, _, _, 0, rfl, rfl, hb, rfl, ?_⟩
      refine ⟨_, rfl, ?_⟩
      refine q _ _ (Int.emod_nonneg _ (by omega)) (Int.emod_lt_of_pos _ h0) ⟨fun c o hc e => ?_, _, _, _, upd_same, m0, m1, k0, by omega⟩
      rw [upd_ne hc]
      exact e
    · refine ⟨_, rfl, b, _, _, _, rfl, rfl, SqL.of hb, rfl, _, _, rfl, rfl, _, rfl, b, _, _, 2, rfl, rfl, hb, rfl, ?_⟩
      have hb2 : (upd H b (BoxL n m (k + 1))) b = some (BoxL n m (k + 1)) := upd_same
      refine ⟨_, rfl, b, _, _, _, rfl, rfl, SqL.of hb2, rfl, _, rfl, b, _, _, _, rfl, rfl, SqL.of hb2, rfl, _, _, rfl, rfl, .inl ⟨by decide, by decide⟩, _, _, rfl, rfl, ?_⟩
      refine ⟨3, rfl, by decide, by decide, for_range (n := 3) (Pv := fun i σ H2 => H2 = upd H b (BoxL n m (k + 1)) ∧ ∃ (z : Int) (o : Option V), σ = [some (.ref b), some (.int many), none, some (.int z), o] ∧ 0 ≤ z ∧ z < 2 ^ 64) ⟨rfl, _, _, rfl, by omega, by omega⟩ ?_ ?_⟩
      · rintro i σ H2 hi ⟨rfl, z, o, rfl, z0, z1⟩
        refine ⟨_, rfl, _, rfl, _, _, rfl, rfl, .inl ⟨by omega, by omega⟩, _, rfl, b, _, _, _, rfl, rfl, SqL.of hb2, rfl, _, _, rfl, rfl, .inl ⟨by decide, by decide⟩, _, _, rfl, rfl, _, _, rfl, rfl, _, _, rfl, rfl, (by decide : (0 : Int) < 2305843009213693951), rfl, _, _, rfl, ?_, ?_⟩
        · exact Int.emod_nonneg _ (by decide)
        · exact Int.lt_trans (Int.emod_lt_of_pos _ (by decide)) (by decide)
      · rintro σ H2 ⟨rfl, z, o, rfl, z0, z1⟩
        refine ⟨_, rfl, _, _, rfl, rfl, ⟨by decide, by decide⟩, _, rfl, _, _, rfl, rfl, h0, ?_⟩
        refine q _ _ (Int.emod_nonneg _ (by omega)) (Int.emod_lt_of_pos _ h0) ⟨fun c o hc e => ?_, _, _, _, upd_same, m0, m1, by omega, by omega⟩
        rw [upd_ne hc]
        exact e
theorem ok_law_box (a : At K mg "_law_box" s_law_box ["_law_script", "_law_k"]) (T : Txt K mg tk) : Df P w K mg base "_law_box" ["_law_script", "_law_k"] 1 (spBox2 K) := by
  refine a.dq sc_law_box (fun vs H Q E h => ?_) (fun f cdv A outer s H vs Q E hr h => ?_)
  · obtain ⟨b, ns, k, rfl, _⟩ := h
    rfl
  · obtain ⟨b, ns, k, rfl, hS, q⟩ := h
    refine ⟨_, (qss_cons (qs_asg (qe_tup (qac qe_int (qac qe_int qa_nil))) (qg_tup rfl (qgs_cons (qg_name (i := 2) sc_law_box.nd rfl (Or.inl rfl)) (qgs_cons (qg_name (i := 3) sc_law_box.nd rfl (Or.inl rfl)) qgs_nil))))
      (qss_cons (qs_if (qt_cmpR op_lt (qv 1) (qe_callB call_len_seq (by rfl) T.b_len PySem.boot_len (qac (qv 0) qa_nil)) (nomark _)) (qss_one (qs_set (i := 2) sc_law_box.nd rfl (Or.inl rfl) (qe_ix ix_list (qv 0) (qv 1) (fun _ _ => rfl)))) qss_nil)
      (qss_cons (qs_for PassesOwn.never rfl (qi_list (qe_slice sl_list (qv 0) qo_none (qo_some qe_int))) (qg_name (i := 4) sc_law_box.nd rfl (Or.inl rfl))
      (qss_one (qs_set (i := 3) sc_law_box.nd rfl (Or.inl rfl) (qe_op op_mod (qe_op op_add (qe_op op_mul (qv 3) qe_int) (qv 4)) qe_int))))
      (qss_one (qs_ret (qe_lst (qac (qe_op op_mul (qe_callB call_abs (by rfl) T.b_abs PyProof.Rows.boot_abs (qac (qv 2) qa_nil)) (qe_callTy call_int1 (by rfl) T.b_int PyProof.Rows.boot_int (qac (qe_cmpR op_ge (qe_callB call_abs (by rfl) T.b_abs PyProof.Rows.boot_abs (qac (qv 2) qa_nil)) (qe_op op_pow qe_int qe_int) (nomark _)) qa_nil))) (qac (qe_op op_mod (qe_op op_add (qe_op op_add (qe_op op_mul (qv 3) qe_int) (qv 2)) (qe_op op_mul qe_int (qv 1))) qe_int) (qac qe_int qa_nil))))))))), ?_⟩
    refine ⟨by show 2 ≤ sizeLine; decide, fun tp htp => ⟨tp, _, rfl, SqT.of upd_same, rfl, _, _, rfl, _, _, rfl, rfl, ?_⟩⟩
    have s1 := Same.upd (o := .tup [.int 0, .int 7]) htp
    refine ⟨_, rfl, _, rfl, b, _, rfl, .inl (s1.seq hS), _, _, rfl, rfl, _, rfl, ?_⟩
    refine ite2 (fun hk => ?_) (fun _ => ?_)
    · have hk' : k < ns.length := by have := of_decide_eq_true hk; rw [List.length_map] at this; omega
      refine ⟨_, rfl, _, rfl, b, _, _, .int ns[k], rfl, rfl, s1.seq hS, atI_nat (by rw [List.getElem?_map, List.getElem?_eq_getElem hk']; rfl), ?_⟩
      refine ⟨_, rfl, _, rfl, b, _, rfl, s1.seq hS, fun l hl => ⟨l, rfl, ⟨_, SqL.of upd_same⟩, ?_⟩⟩
      rw [cut_ints]
      have s2 := s1.trans (Same.upd (o := .lst ((cutI ns none (some 63)).map V.int)) hl)
      refine for_list (K := K) (a := l) (xs := (cutI ns none (some 63)).map V.int) (fun i σ H2 => H2 = upd (upd H tp (.tup [.int 0, .int 7])) l (.lst ((cutI ns none (some 63)).map V.int)) ∧ ∃ (z : Int) (o : Option V), σ = [some (.ref b), some (.int (k : Int)), some (.int ns[k]), some (.int z), o] ∧ 0 ≤ z ∧ z < 2147483647) ⟨rfl, _, _, rfl, by decide, by decide⟩ (fun i σ H2 _ ⟨e, _⟩ => by subst e; exact SqL.of upd_same) ?_ ?_
      · rintro i x σ H2 hx ⟨rfl, z, o, rfl, z0, z1⟩
        obtain ⟨y, rfl, hy⟩ := ints_get hx
        refine ⟨_, rfl, _, _, rfl, rfl, .inr ⟨by decide, by decide⟩, _, rfl, _, _, rfl, rfl, _, _, rfl, rfl, (by decide : (0 : Int) < 2147483647), rfl, _, _, rfl, Int.emod_nonneg _ (by decide), Int.emod_lt_of_pos _ (by decide)⟩
      · rintro σ H2 ⟨rfl, z, o, rfl, z0, z1⟩
        refine ⟨_, rfl, _, rfl, _, rfl, _, rfl, _, _, rfl, rfl, ⟨by decide, by decide, by decide⟩, _, _, rfl, rfl, .inr ⟨_, rfl, ?_⟩⟩
        refine ⟨_, _, rfl, rfl, .inr ⟨b01_lo _, b01_hi _⟩, _, rfl, _, _, rfl, rfl, .inr ⟨by decide, by decide⟩, _, rfl, _, _, rfl, rfl, _, rfl, _, _, rfl, rfl, .inl ⟨by decide, by decide⟩, _, _, rfl, rfl, _, _, rfl, rfl, (by decide : (0 : Int) < 2305843009213693951), ?_⟩
        exact ⟨by show 3 ≤ sizeLine; decide, fun p hp => q _ _ (s2n hp s2) (s2.trans (Same.upd hp)) ⟨_, _, _, upd_same, Int.emod_nonneg _ (by decide), Int.lt_trans (Int.emod_lt_of_pos _ (by decide)) (by decide), by decide, by decide⟩⟩
    · refine ⟨_, rfl, _, rfl, b, _, rfl, s1.seq hS, fun l hl => ⟨l, rfl, ⟨_, SqL.of upd_same⟩, ?_⟩⟩
      rw [cut_ints]
      have s2 := s1.trans (Same.upd (o := .lst ((cutI ns none (some 63)).map V.int)) hl)
      refine for_list (K := K) (a := l) (xs := (cutI ns none (some 63)).map V.int) (fun i σ H2 => H2 = upd (upd H tp (.tup [.int 0, .int 7])) l (.lst ((cutI ns none (some 63)).map V.int)) ∧ ∃ (z : Int) (o : Option V), σ = [some (.ref b), some (.int (k : Int)), some (.int 0), some (.int z), o] ∧ 0 ≤ z ∧ z < 2147483647) ⟨rfl, _, _, rfl, by decide, by decide⟩ (fun i σ H2 _ ⟨e, _⟩ => by subst e; exact SqL.of upd_same) ?_ ?_
      · rintro i x σ H2 hx ⟨rfl, z, o, rfl, z0, z1⟩
        obtain ⟨y, rfl, hy⟩ := ints_get hx
        refine ⟨_, rfl, _, _, rfl, rfl, .inr ⟨by decide, by decide⟩, _, rfl, _, _, rfl, rfl, _, _, rfl, rfl, (by decide : (0 : Int) < 2147483647), rfl, _, _, rfl, Int.emod_nonneg _ (by decide), Int.emod_lt_of_pos _ (by decide)⟩
      · rintro σ H2 ⟨rfl, z, o, rfl, z0, z1⟩
        refine ⟨_, rfl, _, rfl, _, rfl, _, rfl, _, _, rfl, rfl, ⟨by decide, by decide, by decide⟩, _, _, rfl, rfl, .inr ⟨_, rfl, ?_⟩⟩
        refine ⟨_, _, rfl, rfl, .inr ⟨b01_lo _, b01_hi _⟩, _, rfl, _, _, rfl, rfl, .inr ⟨by decide, by decide⟩, _, rfl, _, _, rfl, rfl, _, rfl, _, _, rfl, rfl, .inl ⟨by decide, by decide⟩, _, _, rfl, rfl, _, _, rfl, rfl, (by decide : (0 : Int) < 2305843009213693951), ?_⟩
        exact ⟨by show 3 ≤ sizeLine; decide, fun p hp => q _ _ (s2n hp s2) (s2.trans (Same.upd hp)) ⟨_, _, _, upd_same, Int.emod_nonneg _ (by decide), Int.lt_trans (Int.emod_lt_of_pos _ (by decide)) (by decide), by decide, by decide⟩⟩
end
section
variable {P : Program} {w : World} {K : PySem.W.Frag} {mg : Str → Option Value} {base : Heap} {tk : Nat → Tok}
theorem ok_coded (a : At K mg "coded" s_coded ["table", "key", "digits"]) (T : Txt K mg tk) : Df P w K mg base "coded" ["table", "key", "digits"] 1 (spCoded K) := by
  refine a.dq sc_coded (fun vs H Q E h => ?_) (fun f cdv A outer s H vs Q E hr h => ?_)
  · obtain ⟨a, b, c, t, ks, ds, rfl, _⟩ := h
    rfl
  · obtain ⟨a, b, c, t, ks, ds, rfl, ha, hb, hc, lt, l1, l64, q⟩ := h
    refine ⟨_, (qss_cons (qs_set (i := 3) sc_coded.nd rfl (Or.inl rfl) (qe_callTy call_list_of (by rfl) T.b_list PyProof.Rows.boot_list (qac (qv 2) qa_nil)))
      (qss_cons (qs_for PassesOwn.never rfl (qi_seq (qv 1)) (qg_name (i := 4) sc_coded.nd rfl (Or.inl rfl))
      (qss_one (qs_for PassesOwn.never rfl (qi_range1 rfl T.b_range (qac (qe_callB call_len_seq (by rfl) T.b_len PySem.boot_len (qac (qv 2) qa_nil)) qa_nil)) (qg_name (i := 5) sc_coded.nd rfl (Or.inl rfl))
      (qss_cons (qs_set (i := 6) sc_coded.nd rfl (Or.inl rfl) (qe_ix ix_list (qv 3) (qe_op op_sub (qv 5) qe_int) (fun _ _ => rfl)))
      (qss_one (qs_asg (qe_ix (IxR.or ix_list ix_tup) (qv 0) (qe_op op_mod (qe_op op_add (qe_op op_add (qe_op op_add (qe_ix ix_list (qv 3) (qv 5) (fun _ _ => rfl)) (qv 4)) (qv 5)) (qv 6)) (qe_glob (v := .int 16) rfl T.g_DIGITS ⟨_, rfl⟩)) (fun _ _ => rfl)) (qg_sub (qv 3) (qv 5) set_list)))))))
      (qss_one (qs_ret (qe_callTy call_tuple_of (by rfl) T.b_tuple PyProof.Rows.boot_tuple (qac (qv 3) qa_nil)))))), ?_⟩
    refine ⟨_, rfl, c, _, rfl, hc, fun l hl => ?_⟩
    have s1 : Same H _ := Same.upd (o := .lst (ds.map V.int)) hl
    refine ⟨_, rfl, b, rfl, for_seq (K := K) (H0 := H) hb (fun j σ H2 => Same H H2 ∧ ∃ o4 o5 o6, σ = [some (.ref a), some (.ref b), some (.ref c), some (.ref l), o4, o5, o6] ∧ H2 l = some (.lst ((encK t (ks.take j) ds).map V.int))) ⟨s1, _, _, _, rfl, upd_same⟩ (fun j σ' H' h => h.1) ?_ ?_⟩
    · rintro j x σ H2 hx ⟨s2, o4, o5, o6, rfl, hm⟩
      obtain ⟨shift, rfl, hks⟩ := ints_get hx
      rw [take_succ_ints hks, encK_app]
      have hrl : (encK t (ks.take j) ds).length = ds.length := encK_len
      generalize encK t (ks.take j) ds = r at hm hrl
      refine ⟨_, rfl, c, _, rfl, hc.same s2, _, rfl, ?_, ?_, ?_⟩
      · omega
      · rw [List.length_map]; omega
      rw [show ((((ds.map V.int).length : Nat) : Int)).toNat = ds.length by rw [List.length_map]; rfl]
      refine for_range (n := ds.length) (Pv := fun i σ H3 => Same H H3 ∧ ∃ o5 o6, σ = [some (.ref a), some (.ref b), some (.ref c), some (.ref l), some (.int shift), o5, o6] ∧ H3 l = some (.lst ((encR t shift r i).map V.int))) ⟨s2, _, _, rfl, hm⟩ ?_ ?_
      · rintro i σ H3 hi ⟨s3, o5, o6, rfl, hm3⟩
        have hrl3 : (encR t shift r i).length = ds.length := by rw [encR_len, hrl]
        generalize hr' : encR t shift r i = r' at hm3 hrl3
        have hi' : i < r'.length := by omega
        refine ⟨_, rfl, _, rfl, _, _, rfl, rfl, l, _, _, _, rfl, rfl, SqL.of hm3, atI_ah (i := i) (by omega) hi', ?_⟩
        refine ⟨_, rfl, _, rfl, _, rfl, l, _, _, _, rfl, rfl, SqL.of hm3, atI_getD (i := i) (by omega) hi', _, rfl, _, _, rfl, rfl, _, rfl, _, _, rfl, rfl, _, rfl, _, _, rfl, rfl, _, _, rfl, rfl, (by decide : (0 : Int) < 16), ?_⟩
        have dm := dig_mod (r'.getD i 0 + shift + (0 + (i : Int)) + ah r' i)
        refine (ha.same s3).ix (atI_getD (i := ((r'.getD i 0 + shift + (0 + (i : Int)) + ah r' i) % 16).toNat) (by have := dm.1; omega) (by rw [lt]; have := dm.1; have := dm.2; omega)) ?_
        refine ⟨_, rfl, _, rfl, l, _, _, i, rfl, rfl, hm3, ixN_int (by omega) (by rw [List.length_map]; exact hi'), same_write s3 hl, _, _, rfl, ?_⟩
        rw [upd_same, ints_set, encR, hr', enc1, Int.zero_add]
      · rintro σ H3 ⟨s3, o5, o6, rfl, hm3⟩
        exact ⟨s3, _, _, _, rfl, hm3⟩
    · rintro σ H2 ⟨s2, o4, o5, o6, rfl, hm⟩
      rw [List.length_map, List.take_length] at hm
      exact ⟨_, rfl, l, _, rfl, .inl ⟨SqL.of hm, fun p hp => q p _ (s2.trans (Same.upd hp)) (s2n hp s2) upd_same⟩⟩
end
section
variable {P : Program} {w : World} {K : PySem.W.Frag} {mg : Str → Option Value} {base : Heap} {tk : Nat → Tok}
theorem ok_letter_digits (a : At K mg "letter_digits" s_letter_digits ["name"]) (T : Txt K mg tk) : Df P w K mg base "letter_digits" ["name"] 1 spLetters := by
  refine a.dq sc_letter_digits (fun vs H Q E h => ?_) (fun f cdv A outer s H vs Q E hr h => ?_)
  · obtain ⟨z, rfl, _⟩ := h
    rfl
  · obtain ⟨z, rfl, hz, q⟩ := h
    refine ⟨_, (qss_cons (qs_set (i := 1) sc_letter_digits.nd rfl (Or.inl rfl) (qe_lst qa_nil))
      (qss_cons (qs_for PassesOwn.never rfl (qi_str (qv 0)) (qg_name (i := 2) sc_letter_digits.nd rfl (Or.inl rfl))
      (qss_cons (qs_set (i := 3) sc_letter_digits.nd rfl (Or.inl rfl) (qe_op op_sub (qe_callB call_ord (by rfl) T.b_ord PyProof.Rows.boot_ord (qac (qv 2) qa_nil)) (qe_callB call_ord (by rfl) T.b_ord PyProof.Rows.boot_ord (qac qe_str qa_nil))))
      (qss_cons (qs_expr (qe_bm PySem.F.plainAttrs_list PySem.F.slot_list_append PySem.F.type_list_append mr_append (qv 1) (qac (qe_op op_mod (qv 3) (qe_glob (v := .int 16) rfl T.g_DIGITS ⟨_, rfl⟩)) qa_nil)))
      (qss_one (qs_expr (qe_bm PySem.F.plainAttrs_list PySem.F.slot_list_append PySem.F.type_list_append mr_append (qv 1) (qac (qe_op op_fdiv (qv 3) (qe_glob (v := .int 16) rfl T.g_DIGITS ⟨_, rfl⟩)) qa_nil)))))))
      (qss_one (qs_ret (qv 1))))), ?_⟩
    refine ⟨by show 0 ≤ sizeLine; decide, fun l hl => ?_⟩
    refine ⟨_, rfl, z, rfl, nm_ascii hz, for_str (fun i σ H2 => Same H H2 ∧ ∃ o2 o3, σ = [some (.str z), some (.ref l), o2, o3] ∧ H2 l = some (.lst ((letDs (z.cps.toList.take i)).map V.int))) ⟨Same.upd hl, _, _, rfl, upd_same⟩ ?_ ?_⟩
    · rintro i c σ H2 hc ⟨s2, o2, o3, rfl, hm⟩
      have hc' := cps_get hc
      rw [take_cs hc', letDs_app]
      have hln : (letDs (z.cps.toList.take i)).length ≤ 16 := by rw [letDs_len, List.length_take]; have := hz.2.2; omega
      generalize letDs (z.cps.toList.take i) = ds at hm hln
      have eX : ((((⟨#[c]⟩ : Str).cps.getD 0 0 : Nat) : Int) - ((("a" : Str).cps.getD 0 0 : Nat) : Int)) = (c : Int) - 97 := rfl
      have big : (100 : Nat) < sizeLine := by decide
      refine ⟨_, rfl, _, rfl, rfl, _, rfl, rfl, _, _, rfl, rfl, ?_⟩
      show tSeq _ _ _ [some (V.str z), some (V.ref l), some (V.str ⟨#[c]⟩), some (V.int ((c : Int) - 97))] H2
      refine ⟨_, rfl, .inl ⟨rfl, _, SqL.of hm⟩, _, rfl, _, _, rfl, rfl, (by decide : (0 : Int) < 16), l, _, _, rfl, rfl, hm, by rw [List.length_map]; omega, ?_⟩
      have w1 : Same H (upd H2 l (.lst (ds.map V.int ++ [V.int (((c : Int) - 97) % 16)]))) := same_write s2 hl
      refine ⟨_, rfl, .inl ⟨rfl, _, SqL.of upd_same⟩, _, rfl, _, _, rfl, rfl, ⟨by decide, by decide⟩, l, _, _, rfl, rfl, upd_same, by rw [List.length_append, List.length_map, List.length_singleton]; omega, same_write w1 hl, _, _, rfl, ?_⟩
      rw [upd_same, List.map_append, List.append_assoc]
      rfl
    · rintro σ H2 ⟨s2, o2, o3, rfl, hm⟩
      rw [show z.cps.size = z.cps.toList.length from rfl, List.take_length] at hm
      exact ⟨_, rfl, q l H2 s2 hl hm⟩
theorem ok_key_of (a : At K mg "key_of" s_key_of ["table", "key", "name"]) (T : Txt K mg tk) (D_letter_digits : Df P w K mg base "letter_digits" ["name"] 1 spLetters) (D_coded : Df P w K mg base "coded" ["table", "key", "digits"] 1 (spCoded K)) : Df P w K mg base "key_of" ["table", "key", "name"] 2 (spKeyOf K) := by
  refine a.dq sc_key_of (fun vs H Q E h => ?_) (fun f cdv A outer s H vs Q E hr h => ?_)
  · obtain ⟨a, b, z, t, ks, rfl, _⟩ := h
    rfl
  · obtain ⟨a, b, z, t, ks, rfl, ha, hb, hz, lt, q⟩ := h
    refine ⟨_, (qss_cons (qs_set (i := 3) sc_key_of.nd rfl (Or.inl rfl) (qe_op op_rep (qe_lst (qac qe_int qa_nil)) (qe_glob (v := .int 4) rfl T.g_KEY_PLACES ⟨_, rfl⟩)))
      (qss_cons (qs_for PassesOwn.never rfl (qi_enum rfl T.b_enumerate (qac (qe_def D_letter_digits (hr.mono (by first | decide | omega)) (qac (qv 2) qa_nil)) qa_nil)) (qg_tup rfl (qgs_cons (qg_name (i := 4) sc_key_of.nd rfl (Or.inl rfl)) (qgs_cons (qg_name (i := 5) sc_key_of.nd rfl (Or.inl rfl)) qgs_nil)))
      (qss_one (qs_augS (qv 3) (qe_op op_mod (qv 4) (qe_glob (v := .int 4) rfl T.g_KEY_PLACES ⟨_, rfl⟩)) get_list (qv 5) ip_add set_list)))
      (qss_one (qs_ret (qe_def D_coded (hr.mono (by first | decide | omega)) (qac (qv 0) (qac (qv 1) (qac (qe_comp (own := ["total"]) (fr := []) (js := []) rfl (qi_list (qv 3)) rfl (fun _ _ h => nomatch h) rfl (bsc0 rfl (by decide +kernel) (by decide +kernel) (by decide +kernel)) (fun _ _ _ _ => qg_name (i := 0) (show List.Nodup (["total"] : List Str) from by decide +kernel) rfl (Or.inl rfl) (.inr rfl)) (fun _ _ _ _ => (qe_op op_mod (qv 0) (qe_glob (v := .int 16) rfl T.g_DIGITS ⟨_, rfl⟩)))) qa_nil)))))))), ?_⟩
    refine ⟨by show 1 ≤ sizeLine; decide, fun p0 hp0 => ⟨p0, 4, _, rfl, rfl, upd_same, by decide, by decide, by show 4 ≤ sizeLine; decide, fun l hl => ?_⟩⟩
    have s1 := (Same.upd (o := .lst [V.int 0]) hp0)
    have s2 := s1.trans (Same.upd (o := .lst (List.replicate (4 : Int).toNat [V.int 0]).flatten) hl)
    have hlH : H l = none := s2n hl s1
    refine ⟨_, rfl, z, rfl, hz, fun ld H1 s3 hldn hld => ?_⟩
    have hm1 := s3 _ _ (upd_same (H := upd H p0 (.lst [V.int 0])) (a := l) (o := .lst (List.replicate (4 : Int).toNat [V.int 0]).flatten))
    have ndl : ld ≠ l := fun y => by rw [y, upd_same] at hldn; cases hldn
    generalize hds : letDs z.cps.toList = ds at hld q
    have hdl : ds.length ≤ 16 := by rw [← hds, letDs_len]; have := hz.2.2; omega
    refine ⟨ld, rfl, ⟨_, SqL.of hld⟩, for_enum (K := K) (a := ld) (xs := ds.map V.int) (fun i σ H2 => ∃ (o4 o5 : Option V), σ = [some (.ref a), some (.ref b), some (.str z), some (.ref l), o4, o5] ∧ H2 l = some (.lst ((sumsL ds i).map V.int)) ∧ H2 ld = some (.lst (ds.map V.int)) ∧ Same H H2)
      ⟨none, none, rfl, hm1, hld, s2.trans s3⟩ (fun i σ H2 _ ⟨_, _, _, _, hd, _⟩ => SqL.of hd) ?_ ?_⟩
    · rintro i x σ H2 pp hx ⟨o4, o5, rfl, hm, hd2, sm⟩ hpp
      obtain ⟨dg, rfl, hz'⟩ := ints_get hx
      have hi : i < ds.length := (List.getElem?_eq_some_iff.mp hz').1
      have eg : ds.getD i 0 = dg := by rw [List.getD_eq_getElem?_getD, hz']; rfl
      have sp2 := Same.upd (o := .tup [.int i, .int dg]) hpp
      have hm' := sp2 _ _ hm
      have h4 : i % 4 < (sumsL ds i).length := Nat.mod_lt i (by decide)
      have e4 : (i : Int) % 4 = ((i % 4 : Nat) : Int) := by omega
      refine ⟨pp, _, rfl, SqT.of upd_same, rfl, _, _, rfl, _, _, rfl, rfl, ?_⟩
      refine ⟨_, rfl, _, rfl, _, _, rfl, rfl, (by decide : (0 : Int) < 4), l, _, i % 4, .int ((sumsL ds i).getD (i % 4) 0), rfl, (by show V.int ((i : Int) % 4) = _; rw [e4]), hm', ?_, _, rfl, _, _, rfl, rfl, l, _, _, i % 4, rfl, rfl, hm', ixN_int e4 (by rw [List.length_map]; exact h4), _, _, rfl, ?_, ?_, ?_⟩
      · rw [ints_at h4, List.getD_eq_getElem?_getD, List.getElem?_eq_getElem h4]; rfl
      · rw [upd_same, ints_set, ← eg, sums_step]
      · rw [upd_ne ndl]; exact sp2 _ _ hd2
      · exact same_write (sm.trans sp2) hlH
    · rintro σ H2 ⟨o4, o5, rfl, hm, hd2, sm⟩
      rw [List.length_map] at hm
      refine ⟨_, rfl, _, rfl, _, rfl, l, rfl, ⟨_, SqL.of hm⟩, comp_list (xs := (sumsL ds ds.length).map V.int) (by show 4 ≤ sizeLine; decide) (fun i ys H3 => ys = ((ownK ds).take i).map V.int ∧ H3 = H2) ⟨by simp, rfl⟩ (fun i ys H3 ⟨_, e⟩ => by rw [e]; exact SqL.of hm) ?_ ?_⟩
      · rintro i ys H3 x hx _ ⟨rfl, rfl⟩
        obtain ⟨y, rfl, hy⟩ := ints_get hx
        refine ⟨_, rfl, _, _, rfl, rfl, (by decide : (0 : Int) < 16), ?_, rfl⟩
        have : (ownK ds)[i]? = some (y % 16) := by unfold ownK; rw [List.getElem?_map, hy]; rfl
        rw [List.take_add_one, this]; simp
      · rintro ys H3 hyl ⟨rfl, rfl⟩ p hp
        rw [show (ownK ds).take ((sumsL ds ds.length).map V.int).length = ownK ds from rfl]
        have su := Same.upd (o := .lst ((ownK ds).map V.int)) hp
        exact ⟨a, b, p, t, ks, ownK ds, rfl, (ha.same sm).same su, (hb.same sm).same su, .lst upd_same, lt, by rw [ownK_len]; decide, by rw [ownK_len]; decide, fun p' H' s' hn' hp' => q p' H' ((sm.trans su).trans s') (s2n hn' (sm.trans su)) hp'⟩
end
section
variable {P : Program} {w : World} {K : PySem.W.Frag} {mg : Str → Option Value} {base : Heap} {tk : Nat → Tok}
theorem ok_count_digits (a : At K mg "count_digits" s_count_digits ["count"]) (T : Txt K mg tk) : Df P w K mg base "count_digits" ["count"] 1 spCD := by
  refine a.dq sc_count_digits (fun vs H Q E h => ?_) (fun f cdv A outer s H vs Q E hr h => ?_)
  · obtain ⟨c, rfl, _⟩ := h
    rfl
  · obtain ⟨c, rfl, q⟩ := h
    refine ⟨_, (qss_one (qs_ret (qe_tup (qac (qe_op op_mod (qv 0) (qe_glob (v := .int 16) rfl T.g_DIGITS ⟨_, rfl⟩)) (qac (qe_op op_mod (qe_op op_fdiv (qv 0) (qe_glob (v := .int 16) rfl T.g_DIGITS ⟨_, rfl⟩)) (qe_glob (v := .int 16) rfl T.g_DIGITS ⟨_, rfl⟩)) (qac (qe_op op_fdiv (qv 0) qe_int) qa_nil)))))), ?_⟩
    exact ⟨_, rfl, _, _, rfl, rfl, (by decide : (0 : Int) < 16), _, rfl, _, _, rfl, rfl, ⟨by decide, by decide⟩, _, _, rfl, rfl, (by decide : (0 : Int) < 16), _, rfl, _, _, rfl, rfl, ⟨by decide, by decide⟩, by show 3 ≤ sizeLine; decide, fun p hp => q p _ (Same.upd hp) upd_same⟩
theorem four_bd {c d : Int} (h0 : 0 ≤ c) (h1 : c < 4096) (hd : dig d) : ∀ z ∈ fourI c d, 0 ≤ z ∧ z ≤ 1000000 := fun z hz => by
  have := five_dig h0 h1 hd z (List.mem_append_left _ hz)
  exact ⟨this.1, Int.le_trans (Int.le_of_lt this.2) (by decide)⟩
theorem ok_press_of (a : At K mg "press_of" s_press_of ["table", "key", "name", "age", "count", "deed"]) (T : Txt K mg tk) (D_count_digits : Df P w K mg base "count_digits" ["count"] 1 spCD) (D_key_of : Df P w K mg base "key_of" ["table", "key", "name"] 2 (spKeyOf K)) (D_coded : Df P w K mg base "coded" ["table", "key", "digits"] 1 (spCoded K)) : Df P w K mg base "press_of" ["table", "key", "name", "age", "count", "deed"] 3 (spPress K) := by
  refine a.dq sc_press_of (fun vs H Q E h => ?_) (fun f cdv A outer s H vs Q E hr h => ?_)
  · obtain ⟨a, b, z, age, c, d, t, ks, rfl, _⟩ := h
    rfl
  · obtain ⟨a, b, z, age, c, d, t, ks, rfl, ha, hb, hz, lt, c0, c1, hd, q⟩ := h
    refine ⟨_, (qss_cons (qs_set (i := 6) sc_press_of.nd rfl (Or.inl rfl) (qe_op op_catW (qe_def D_count_digits (hr.mono (by first | decide | omega)) (qac (qv 4) qa_nil)) (qe_tup (qac (qv 5) qa_nil))))
      (qss_cons (qs_set (i := 7) sc_press_of.nd rfl (Or.inl rfl) (qe_op op_catW (qv 6) (qe_tup (qac (qe_op op_mod (qe_callB (call_sumI rfl) (by rfl) T.b_sum PyProof.Rows.boot_sum (qac (qv 6) qa_nil)) (qe_glob (v := .int 16) rfl T.g_DIGITS ⟨_, rfl⟩)) qa_nil))))
      (qss_one (qs_ret (qe_tup (qac (qv 2) (qac (qv 3) (qac (qe_def D_coded (hr.mono (by first | decide | omega)) (qac (qv 0) (qac (qe_def D_key_of (hr.mono (by first | decide | omega)) (qac (qv 0) (qac (qv 1) (qac (qv 2) qa_nil)))) (qac (qv 7) qa_nil)))) qa_nil)))))))), ?_⟩
    refine ⟨_, rfl, c, rfl, fun p1 H1 s1 hp1 => ?_⟩
    refine ⟨_, rfl, by show 1 ≤ sizeLine; decide, fun p2 hp2 => ?_⟩
    have u2 := Same.upd (o := .tup [V.int d]) hp2
    refine ⟨p1, p2, _, _, rfl, rfl, u2 _ _ hp1, upd_same, by show 4 ≤ sizeLine; decide, fun p3 H3 s3 hp3 => ?_⟩
    have hp3' : H3 p3 = some (.tup ((fourI c d).map V.int)) := hp3
    have S3 := (s1.trans u2).trans s3
    refine ⟨_, rfl, _, rfl, p3, fourI c d, rfl, .tup hp3', by show 4 ≤ 1000; decide, four_bd c0 c1 hd, _, _, rfl, rfl, (by decide : (0 : Int) < 16), by show 1 ≤ sizeLine; decide, fun p4 hp4 => ?_⟩
    have u4 := Same.upd (o := .tup [V.int ((fourI c d).sum % 16)]) hp4
    refine ⟨p3, p4, _, _, rfl, rfl, u4 _ _ hp3', upd_same, by show 5 ≤ sizeLine; decide, fun p5 H5 s5 hp5 => ?_⟩
    have hp5' : H5 p5 = some (.tup ((fiveI c d).map V.int)) := hp5
    have S5 := (S3.trans u4).trans s5
    refine ⟨_, rfl, _, rfl, _, rfl, _, rfl, _, rfl, _, rfl, a, b, z, t, ks, rfl, ha.same S5, hb.same S5, hz, lt, fun pk H6 s6 _ hpk => ?_⟩
    refine ⟨_, rfl, a, pk, p5, t, keyZ t ks z, fiveI c d, rfl, (ha.same S5).same s6, .tup hpk, .tup (s6 _ _ hp5'), lt, by rw [five_len]; decide, by rw [five_len]; decide, fun pc H7 s7 _ hpc => ?_⟩
    refine ⟨by show 3 ≤ sizeLine; decide, fun p hp => ?_⟩
    have u8 := Same.upd (o := .tup [V.str z, .int age, .ref pc]) hp
    exact q p pc _ (((S5.trans s6).trans s7).trans u8) upd_same (u8 _ _ hpc)
end
section
variable {P : Program} {w : World} {K : PySem.W.Frag} {mg : Str → Option Value} {base : Heap} {tk : Nat → Tok}
theorem ok_law_table (a : At K mg "_law_table" s_law_table ["_law_box_here"]) (T : Txt K mg tk) (D_law_take : Df P w K mg base "_law_take" ["_law_box_here", "_law_many"] 1 spTake2) : Df P w K mg base "_law_table" ["_law_box_here"] 2 spTable2 := by
  refine a.dq sc_law_table (fun vs H Q E h => ?_) (fun f cdv A outer s H vs Q E hr h => ?_)
  · obtain ⟨x, c, rfl, _⟩ := h
    rfl
  · obtain ⟨b, c, rfl, hb, hc, q⟩ := h
    refine ⟨_, (qss_cons (qs_set (i := 1) sc_law_table.nd rfl (Or.inr rfl) (qe_callTy (call_listR rfl) (by rfl) T.b_list PyProof.Rows.boot_list (qac (qe_callTy call_rng1 (by rfl) T.b_range PyProof.Rows.boot_range (qac qe_int qa_nil)) qa_nil)))
      (qss_one (qs_ret (qe_callTy call_tuple_of (by rfl) T.b_tuple PyProof.Rows.boot_tuple (qac (qe_comp (own := ["_law_k"]) (fr := ["_law_rest", "_law_box_here"]) (js := [1, 0]) rfl (qi_range1 rfl T.b_range (qac qe_int qa_nil)) rfl (clo2 rfl rfl) rfl (bsc2 rfl (by decide +kernel) (by decide +kernel) (by decide +kernel) rfl rfl rfl rfl rfl rfl) (fun _ _ _ _ => qg_name (i := 0) (show List.Nodup (["_law_k", "_law_rest", "_law_box_here"] : List Str) from by decide +kernel) rfl (Or.inl rfl) (.inr rfl)) (fun _ _ _ _ => (qe_bmK (K := K) rfl PySem.F.plainAttrs_list PySem.F.slot_list_pop PySem.F.type_list_pop mr_popAt (qv 1) (qac (qe_def D_law_take (hr.mono (by first | decide | omega)) (qac (qv 2) (qac (qe_callB (call_len_seqK (K := K) rfl) (by rfl) T.b_len PySem.boot_len (qac (qv 1) qa_nil)) qa_nil))) qa_nil)))) qa_nil))))), ?_⟩
    refine ⟨_, rfl, fun r hr0 => ⟨r, 16, rfl, upd_same, by decide, fun l hl => ?_⟩⟩
    rw [digs_V]
    have s1 := (Same.upd (o := .rng 0 16) hr0).trans (Same.upd (o := .lst (digs.map V.int)) hl)
    have nlb : l ≠ b := boxc_fresh ((Same.upd hr0).grc hb).bx hl
    refine ⟨_, rfl, by decide, by decide, comp_range (n := 16) (by decide) (fun i ys H2 => GrC b (c + i) H H2 ∧ ∃ ms zs : List Int, H2 l = some (.lst (ms.map V.int)) ∧ ys = zs.map V.int ∧ ms.length + i = 16 ∧ (zs ++ ms).Perm digs) ⟨s1.grc hb, digs, [], upd_same, rfl, by rw [digs_len], .refl _⟩ ?_ ?_⟩
    · rintro i ys H2 hi hl2 ⟨G2, ms, zs, hm, rfl, hml, pm⟩
      refine ⟨_, rfl, .inl ⟨rfl, _, SqL.of hm⟩, ?_⟩
      refine ⟨_, rfl, _, rfl, l, _, rfl, .inl (SqL.of hm), b, _, _, rfl, G2.bx, by omega, by rw [List.length_map]; omega, by rw [List.length_map]; omega, fun x H3 x0 x1 g3 => ?_⟩
      rw [List.length_map] at x1
      obtain ⟨k, rfl⟩ : ∃ k : Nat, x = (k : Int) := ⟨x.toNat, by omega⟩
      have hk : k < ms.length := by omega
      have hm3 := g3.kp _ _ nlb hm
      refine ⟨l, _, _, k, .int ms[k], rfl, rfl, hm3, by omega, by omega, ?_, ?_, ?_⟩
      · rw [List.length_map]; exact seqIndex_nat hk
      · rw [List.getElem?_map, List.getElem?_eq_getElem hk]; rfl
      · refine ⟨⟨fun c o hcb e => ?_, ?_⟩, ms.eraseIdx k, zs ++ [ms[k]], ?_, by simp, ?_, ?_⟩
        · by_cases z : c = l
          · subst z
            rw [Same.upd hr0 _ _ e] at hl; cases hl
          · rw [upd_ne z]; exact g3.kp _ _ hcb (G2.kp _ _ hcb e)
        · obtain ⟨n, m, k', e, r⟩ := g3.bx
          exact ⟨n, m, k', by rw [upd_ne nlb.symm]; exact e, r⟩
        · rw [upd_same, erase_ints]
        · rw [List.length_eraseIdx_of_lt hk]; omega
        · exact (perm_pop hk).trans pm
    · rintro ys H2 hyl ⟨G2, ms, zs, hm, rfl, hml, pm⟩ p hp
      have e0 : ms = [] := List.eq_nil_of_length_eq_zero (by omega)
      subst e0
      rw [List.append_nil] at pm
      refine ⟨p, _, rfl, .inl ⟨SqL.of upd_same, fun t ht => ?_⟩⟩
      have G3 := G2.same (Same.upd (o := .lst (zs.map V.int)) hp)
      exact q t zs _ (G3.same (Same.upd ht)) (G3.fresh (hb.mono (by omega)) ht) upd_same pm
theorem ok_law_key (a : At K mg "_law_key" s_law_key ["_law_box_here"]) (T : Txt K mg tk) (D_law_take : Df P w K mg base "_law_take" ["_law_box_here", "_law_many"] 1 spTake2) : Df P w K mg base "_law_key" ["_law_box_here"] 2 spKeyT2 := by
  refine a.dq sc_law_key (fun vs H Q E h => ?_) (fun f cdv A outer s H vs Q E hr h => ?_)
  · obtain ⟨x, c, rfl, _⟩ := h
    rfl
  · obtain ⟨b, c, rfl, hb, hc, q⟩ := h
    refine ⟨_, (qss_one (qs_ret (qe_callTy call_tuple_of (by rfl) T.b_tuple PyProof.Rows.boot_tuple (qac (qe_comp (own := ["_law_k"]) (fr := ["_law_box_here"]) (js := [0]) rfl (qi_range1 rfl T.b_range (qac (qe_op op_add qe_int (qe_def D_law_take (hr.mono (by first | decide | omega)) (qac (qv 0) (qac qe_int qa_nil)))) qa_nil)) rfl (clo1 rfl) rfl (bsc1 rfl (by decide +kernel) (by decide +kernel) (by decide +kernel) rfl rfl rfl) (fun _ _ _ _ => qg_name (i := 0) (show List.Nodup (["_law_k", "_law_box_here"] : List Str) from by decide +kernel) rfl (Or.inl rfl) (.inr rfl)) (fun _ _ _ _ => (qe_def D_law_take (hr.mono (by first | decide | omega)) (qac (qv 1) (qac qe_int qa_nil))))) qa_nil)))), ?_⟩
    refine ⟨_, rfl, b, _, _, rfl, hb, by omega, by decide, by decide, fun r H1 r0 r1 g1 => ⟨_, _, rfl, rfl, _, rfl, by omega, by omega, ?_⟩⟩
    obtain ⟨n, rfl, n8⟩ : ∃ n : Nat, r = (n : Int) ∧ n < 8 := ⟨r.toNat, by omega, by omega⟩
    have en : (1 + (n : Int)).toNat = n + 1 := by omega
    rw [en]
    refine comp_range (n := n + 1) (Nat.le_trans (by omega : n + 1 ≤ 8) (by decide)) (fun i ys H2 => GrC b (c + 1 + i) H H2 ∧ ∃ ks : List Int, ys = ks.map V.int ∧ digR ks) ⟨g1, [], rfl, fun _ h => nomatch h⟩ ?_ ?_
    · rintro i ys H2 hi hl2 ⟨G2, ks, rfl, hk⟩
      refine ⟨_, rfl, b, _, _, rfl, G2.bx, by omega, by decide, by decide, fun x H3 x0 x1 g3 => ⟨G2.trans g3, ks ++ [x], by simp, fun z hz => ?_⟩⟩
      rcases List.mem_append.mp hz with y | y
      · exact hk z y
      · rw [List.mem_singleton.mp y]; exact ⟨x0, x1⟩
    · rintro ys H2 hyl ⟨G2, ks, rfl, hk⟩ p hp
      rw [List.length_map] at hyl
      refine ⟨p, _, rfl, .inl ⟨SqL.of upd_same, fun t ht => ?_⟩⟩
      have G3 := G2.same (Same.upd (o := .lst (ks.map V.int)) hp)
      exact q t ks _ ((G3.same (Same.upd ht)).mono (by omega)) (G3.fresh (hb.mono (by omega)) ht) upd_same hk (by omega) (by omega)
theorem ok_law_name (a : At K mg "_law_name" s_law_name ["_law_box_here"]) (T : Txt K mg tk) (D_law_take : Df P w K mg base "_law_take" ["_law_box_here", "_law_many"] 1 spTake2) : Df P w K mg base "_law_name" ["_law_box_here"] 2 spName2 := by
  refine a.dq sc_law_name (fun vs H Q E h => ?_) (fun f cdv A outer s H vs Q E hr h => ?_)
  · obtain ⟨x, c, rfl, _⟩ := h
    rfl
  · obtain ⟨b, c, rfl, hb, hc, q⟩ := h
    refine ⟨_, (qss_cons (qs_set (i := 1) sc_law_name.nd rfl (Or.inl rfl) (qe_lst (qac qe_str (qac qe_str (qac qe_str (qac qe_str (qac qe_str (qac qe_str (qac qe_str (qac qe_str (qac qe_str (qac qe_str (qac qe_str (qac qe_str qa_nil))))))))))))))
      (qss_one (qs_ret (qe_ix ix_list (qv 1) (qe_def D_law_take (hr.mono (by first | decide | omega)) (qac (qv 0) (qac qe_int qa_nil))) (fun _ _ => rfl))))), ?_⟩
    refine ⟨by show 12 ≤ sizeLine; decide, fun l hl => ⟨_, rfl, _, rfl, b, _, _, rfl, ((Same.upd hl).grc hb).bx, by omega, by decide, by decide, fun r H2 r0 r1 g2 => ?_⟩⟩
    obtain ⟨v, hv, hvm⟩ := draw_at (xs := [V.str "a", .str "b", .str "ab", .str "ba", .str "aaaaaaaa", .str "aaaaaaab", .str "door", .str "gate", .str "x", .str "xy", .str "yx", .str "zz"]) r0 r1
    refine ⟨l, _, r, v, rfl, rfl, SqL.of (g2.kp l _ (boxc_fresh hb hl) upd_same), hv, ?_⟩
    have G := ((Same.upd (o := .lst [V.str "a", .str "b", .str "ab", .str "ba", .str "aaaaaaaa", .str "aaaaaaab", .str "door", .str "gate", .str "x", .str "xy", .str "yx", .str "zz"]) hl).grc hb).trans g2
    simp only [List.mem_cons, List.not_mem_nil, or_false] at hvm
    rcases hvm with rfl | rfl | rfl | rfl | rfl | rfl | rfl | rfl | rfl | rfl | rfl | rfl
    all_goals exact q _ _ G ⟨by decide +kernel, by decide +kernel, by decide +kernel⟩
end
section
variable {P : Program} {w : World} {K : PySem.W.Frag} {mg : Str → Option Value} {base : Heap} {tk : Nat → Tok}
theorem ok_law_alike (a : At K mg "_law_alike" s_law_alike ["_law_found", "_law_due"]) (T : Txt K mg tk) : ∀ n : Nat, n ≤ 8 → Df P w K mg base "_law_alike" ["_law_found", "_law_due"] (n + 1) (spAl n)
  | 0, _ => by
    refine a.dq sc_law_alike (fun vs H Q E h => ?_) (fun f cdv A outer s H vs Q E hr h => ?_)
    · obtain ⟨x, y, rfl, _⟩ := h
      rfl
    · obtain ⟨x, y, rfl, e, q⟩ := h
      refine ⟨_, (qss_cons (qs_if (qt_val (qe_callB call_isiB (by rfl) T.b_isinstance PyProof.Rows.boot_isinstance (qac (qv 1) (qac (qe_tup (qac (qe_bltn (v := .ty "list") rfl T.b_list PyProof.Rows.boot_list rfl) (qac (qe_bltn (v := .ty "tuple") rfl T.b_tuple PyProof.Rows.boot_tuple rfl) qa_nil))) qa_nil)))) qss_never qss_nil)
      (qss_cons (qs_if (QW.pt (qw_or (qt_val (qe_callB call_isiA (by rfl) T.b_isinstance PyProof.Rows.boot_isinstance (qac (qv 1) (qac (qe_bltn (v := .ty "str") rfl T.b_str PyProof.Rows.boot_str rfl) qa_nil)))) (qw_or1 (qt_cmpR op_isN (qv 1) qe_non (nomark _))))) (qss_one (qs_ret (qe_cmpR op_eq (qv 0) (qv 1) (nomark _)))) qss_nil)
      (qss_one (qs_ret (qe_and (qe_callB call_isiA (by rfl) T.b_isinstance PyProof.Rows.boot_isinstance (qac (qv 0) (qac (qe_bltn (v := .ty "int") rfl T.b_int PyProof.Rows.boot_int rfl) qa_nil))) (qe_and (qe_not (qe_callB call_isiA (by rfl) T.b_isinstance PyProof.Rows.boot_isinstance (qac (qv 0) (qac (qe_bltn (v := .ty "bool") rfl T.b_bool PyProof.Rows.boot_bool rfl) qa_nil)))) (qe_one (qe_cmpR op_eq (qv 0) (qv 1) (nomark _))))))))), ?_⟩
      cases e with
      | int _ i =>
        refine ⟨_, rfl, by show 2 ≤ sizeLine; decide, fun p hp => ⟨_, p, ["list", "tuple"], "int", rfl, upd_same, .int i, by simp, _, rfl, ?_⟩⟩
        rw [show (["list", "tuple"].any (subT "int")) = false from by decide]
        refine iteF ⟨_, rfl, _, "str", "int", rfl, .int i, by simp, _, rfl, ?_⟩
        rw [show subT "int" "str" = false from by decide]
        refine iteF ⟨_, rfl, rfl, _, rfl, ?_⟩
        refine ite2 (fun z => nomatch (of_decide_eq_true z)) (fun _ => ⟨_, rfl, _, "int", "int", rfl, .int i, by simp, _, rfl, ?_⟩)
        rw [show subT "int" "int" = true from by decide]
        refine iteT ⟨_, rfl, _, "bool", "int", rfl, .int i, by simp, _, rfl, ?_⟩
        rw [show subT "int" "bool" = false from by decide]
        refine ⟨_, rfl, iteT ⟨_, rfl, _, rfl, rfl, ?_⟩⟩
        rw [decide_eq_true rfl]
        exact q _ (Same.upd hp)
      | str _ z =>
        refine ⟨_, rfl, by show 2 ≤ sizeLine; decide, fun p hp => ⟨_, p, ["list", "tuple"], "str", rfl, upd_same, .str z, by simp, _, rfl, ?_⟩⟩
        rw [show (["list", "tuple"].any (subT "str")) = false from by decide]
        refine iteF ⟨_, rfl, _, "str", "str", rfl, .str z, by simp, _, rfl, ?_⟩
        rw [show subT "str" "str" = true from by decide]
        refine iteT (iteT ⟨_, rfl, _, rfl, rfl, ?_⟩)
        rw [decide_eq_true rfl]
        exact q _ (Same.upd hp)
      | non _ =>
        refine ⟨_, rfl, by show 2 ≤ sizeLine; decide, fun p hp => ⟨_, p, ["list", "tuple"], "NoneType", rfl, upd_same, .non, by simp, _, rfl, ?_⟩⟩
        rw [show (["list", "tuple"].any (subT "NoneType")) = false from by decide]
        refine iteF ⟨_, rfl, _, "str", "NoneType", rfl, .non, by simp, _, rfl, ?_⟩
        rw [show subT "NoneType" "str" = false from by decide]
        refine iteF ⟨_, rfl, rfl, _, rfl, ?_⟩
        refine ite2 (fun _ => ⟨_, rfl, _, rfl, rfl, ?_⟩) (fun z => absurd (decide_eq_true rfl) z)
        rw [decide_eq_true rfl]
        exact q _ (Same.upd hp)
  | n + 1, hn => by
    have D_law_alike := ok_law_alike a T n (by omega)
    refine a.dq sc_law_alike (fun vs H Q E h => ?_) (fun f cdv A outer s H vs Q E hr h => ?_)
    · obtain ⟨x, y, rfl, _⟩ := h
      rfl
    · obtain ⟨x, y, rfl, e, q⟩ := h
      cases e with
      | int _ i =>
        refine ⟨_, (qss_cons (qs_if (qt_val (qe_callB call_isiB (by rfl) T.b_isinstance PyProof.Rows.boot_isinstance (qac (qv 1) (qac (qe_tup (qac (qe_bltn (v := .ty "list") rfl T.b_list PyProof.Rows.boot_list rfl) (qac (qe_bltn (v := .ty "tuple") rfl T.b_tuple PyProof.Rows.boot_tuple rfl) qa_nil))) qa_nil)))) qss_never qss_nil)
      (qss_cons (qs_if (QW.pt (qw_or (qt_val (qe_callB call_isiA (by rfl) T.b_isinstance PyProof.Rows.boot_isinstance (qac (qv 1) (qac (qe_bltn (v := .ty "str") rfl T.b_str PyProof.Rows.boot_str rfl) qa_nil)))) (qw_or1 (qt_cmpR op_isN (qv 1) qe_non (nomark _))))) (qss_one (qs_ret (qe_cmpR op_eq (qv 0) (qv 1) (nomark _)))) qss_nil)
      (qss_one (qs_ret (qe_and (qe_callB call_isiA (by rfl) T.b_isinstance PyProof.Rows.boot_isinstance (qac (qv 0) (qac (qe_bltn (v := .ty "int") rfl T.b_int PyProof.Rows.boot_int rfl) qa_nil))) (qe_and (qe_not (qe_callB call_isiA (by rfl) T.b_isinstance PyProof.Rows.boot_isinstance (qac (qv 0) (qac (qe_bltn (v := .ty "bool") rfl T.b_bool PyProof.Rows.boot_bool rfl) qa_nil)))) (qe_one (qe_cmpR op_eq (qv 0) (qv 1) (nomark _))))))))), ?_⟩
        refine ⟨_, rfl, by show 2 ≤ sizeLine; decide, fun p hp => ⟨_, p, ["list", "tuple"], "int", rfl, upd_same, .int i, by simp, _, rfl, ?_⟩⟩
        rw [show (["list", "tuple"].any (subT "int")) = false from by decide]
        refine iteF ⟨_, rfl, _, "str", "int", rfl, .int i, by simp, _, rfl, ?_⟩
        rw [show subT "int" "str" = false from by decide]
        refine iteF ⟨_, rfl, rfl, _, rfl, ?_⟩
        refine ite2 (fun z => nomatch (of_decide_eq_true z)) (fun _ => ⟨_, rfl, _, "int", "int", rfl, .int i, by simp, _, rfl, ?_⟩)
        rw [show subT "int" "int" = true from by decide]
        refine iteT ⟨_, rfl, _, "bool", "int", rfl, .int i, by simp, _, rfl, ?_⟩
        rw [show subT "int" "bool" = false from by decide]
        refine ⟨_, rfl, iteT ⟨_, rfl, _, rfl, rfl, ?_⟩⟩
        rw [decide_eq_true rfl]
        exact q _ (Same.upd hp)
      | str _ z =>
        refine ⟨_, (qss_cons (qs_if (qt_val (qe_callB call_isiB (by rfl) T.b_isinstance PyProof.Rows.boot_isinstance (qac (qv 1) (qac (qe_tup (qac (qe_bltn (v := .ty "list") rfl T.b_list PyProof.Rows.boot_list rfl) (qac (qe_bltn (v := .ty "tuple") rfl T.b_tuple PyProof.Rows.boot_tuple rfl) qa_nil))) qa_nil)))) qss_never qss_nil)
      (qss_cons (qs_if (QW.pt (qw_or (qt_val (qe_callB call_isiA (by rfl) T.b_isinstance PyProof.Rows.boot_isinstance (qac (qv 1) (qac (qe_bltn (v := .ty "str") rfl T.b_str PyProof.Rows.boot_str rfl) qa_nil)))) (qw_or1 (qt_cmpR op_isN (qv 1) qe_non (nomark _))))) (qss_one (qs_ret (qe_cmpR op_eq (qv 0) (qv 1) (nomark _)))) qss_nil)
      (qss_one (qs_ret (qe_and (qe_callB call_isiA (by rfl) T.b_isinstance PyProof.Rows.boot_isinstance (qac (qv 0) (qac (qe_bltn (v := .ty "int") rfl T.b_int PyProof.Rows.boot_int rfl) qa_nil))) (qe_and (qe_not (qe_callB call_isiA (by rfl) T.b_isinstance PyProof.Rows.boot_isinstance (qac (qv 0) (qac (qe_bltn (v := .ty "bool") rfl T.b_bool PyProof.Rows.boot_bool rfl) qa_nil)))) (qe_one (qe_cmpR op_eq (qv 0) (qv 1) (nomark _))))))))), ?_⟩
        refine ⟨_, rfl, by show 2 ≤ sizeLine; decide, fun p hp => ⟨_, p, ["list", "tuple"], "str", rfl, upd_same, .str z, by simp, _, rfl, ?_⟩⟩
        rw [show (["list", "tuple"].any (subT "str")) = false from by decide]
        refine iteF ⟨_, rfl, _, "str", "str", rfl, .str z, by simp, _, rfl, ?_⟩
        rw [show subT "str" "str" = true from by decide]
        refine iteT (iteT ⟨_, rfl, _, rfl, rfl, ?_⟩)
        rw [decide_eq_true rfl]
        exact q _ (Same.upd hp)
      | non _ =>
        refine ⟨_, (qss_cons (qs_if (qt_val (qe_callB call_isiB (by rfl) T.b_isinstance PyProof.Rows.boot_isinstance (qac (qv 1) (qac (qe_tup (qac (qe_bltn (v := .ty "list") rfl T.b_list PyProof.Rows.boot_list rfl) (qac (qe_bltn (v := .ty "tuple") rfl T.b_tuple PyProof.Rows.boot_tuple rfl) qa_nil))) qa_nil)))) qss_never qss_nil)
      (qss_cons (qs_if (QW.pt (qw_or (qt_val (qe_callB call_isiA (by rfl) T.b_isinstance PyProof.Rows.boot_isinstance (qac (qv 1) (qac (qe_bltn (v := .ty "str") rfl T.b_str PyProof.Rows.boot_str rfl) qa_nil)))) (qw_or1 (qt_cmpR op_isN (qv 1) qe_non (nomark _))))) (qss_one (qs_ret (qe_cmpR op_eq (qv 0) (qv 1) (nomark _)))) qss_nil)
      (qss_one (qs_ret (qe_and (qe_callB call_isiA (by rfl) T.b_isinstance PyProof.Rows.boot_isinstance (qac (qv 0) (qac (qe_bltn (v := .ty "int") rfl T.b_int PyProof.Rows.boot_int rfl) qa_nil))) (qe_and (qe_not (qe_callB call_isiA (by rfl) T.b_isinstance PyProof.Rows.boot_isinstance (qac (qv 0) (qac (qe_bltn (v := .ty "bool") rfl T.b_bool PyProof.Rows.boot_bool rfl) qa_nil)))) (qe_one (qe_cmpR op_eq (qv 0) (qv 1) (nomark _))))))))), ?_⟩
        refine ⟨_, rfl, by show 2 ≤ sizeLine; decide, fun p hp => ⟨_, p, ["list", "tuple"], "NoneType", rfl, upd_same, .non, by simp, _, rfl, ?_⟩⟩
        rw [show (["list", "tuple"].any (subT "NoneType")) = false from by decide]
        refine iteF ⟨_, rfl, _, "str", "NoneType", rfl, .non, by simp, _, rfl, ?_⟩
        rw [show subT "NoneType" "str" = false from by decide]
        refine iteF ⟨_, rfl, rfl, _, rfl, ?_⟩
        refine ite2 (fun _ => ⟨_, rfl, _, rfl, rfl, ?_⟩) (fun z => absurd (decide_eq_true rfl) z)
        rw [decide_eq_true rfl]
        exact q _ (Same.upd hp)
      | @tup _ c d xs ys h1 h2 hl hz hi =>
        refine ⟨_, (qss_cons (qs_if (qt_val (qe_callB call_isiB (by rfl) T.b_isinstance PyProof.Rows.boot_isinstance (qac (qv 1) (qac (qe_tup (qac (qe_bltn (v := .ty "list") rfl T.b_list PyProof.Rows.boot_list rfl) (qac (qe_bltn (v := .ty "tuple") rfl T.b_tuple PyProof.Rows.boot_tuple rfl) qa_nil))) qa_nil)))) (qss_cons (qs_if (QW.pt (qw_or (qt_cmpR op_ne (qe_callB call_isiA (by rfl) T.b_isinstance PyProof.Rows.boot_isinstance (qac (qv 0) (qac (qe_bltn (v := .ty "list") rfl T.b_list PyProof.Rows.boot_list rfl) qa_nil))) (qe_callB call_isiA (by rfl) T.b_isinstance PyProof.Rows.boot_isinstance (qac (qv 1) (qac (qe_bltn (v := .ty "list") rfl T.b_list PyProof.Rows.boot_list rfl) qa_nil))) (nomark _)) (qw_or1 (qt_cmpR op_ne (qe_callB call_isiA (by rfl) T.b_isinstance PyProof.Rows.boot_isinstance (qac (qv 0) (qac (qe_bltn (v := .ty "tuple") rfl T.b_tuple PyProof.Rows.boot_tuple rfl) qa_nil))) (qe_callB call_isiA (by rfl) T.b_isinstance PyProof.Rows.boot_isinstance (qac (qv 1) (qac (qe_bltn (v := .ty "tuple") rfl T.b_tuple PyProof.Rows.boot_tuple rfl) qa_nil))) (nomark _))))) (qss_one (qs_ret qe_bl)) qss_nil)
      (qss_cons (qs_if (qt_cmpR op_ne (qe_callB call_len_seq (by rfl) T.b_len PySem.boot_len (qac (qv 0) qa_nil)) (qe_callB call_len_seq (by rfl) T.b_len PySem.boot_len (qac (qv 1) qa_nil)) (nomark _)) (qss_one (qs_ret qe_bl)) qss_nil)
      (qss_one (qs_ret (qe_callB (call_allB rfl) (by rfl) T.b_all PyProof.Rows.boot_all (qac (qe_comp (own := ["_law_part", "_law_more"]) (fr := []) (js := []) rfl (qi_zip rfl T.b_zip (qac (qv 0) (qac (qv 1) qa_nil))) rfl (fun _ _ h => nomatch h) rfl (bsc0 rfl (by decide +kernel) (by decide +kernel) (by decide +kernel)) (fun _ _ _ _ => qg_tupK (K := K) rfl 2 rfl (qgs_cons (qg_name (i := 0) (show List.Nodup (["_law_part", "_law_more"] : List Str) from by decide +kernel) rfl (Or.inl rfl) (.inr rfl)) (qgs_cons (qg_name (i := 1) (show List.Nodup (["_law_part", "_law_more"] : List Str) from by decide +kernel) rfl (Or.inl rfl) (.inr rfl)) qgs_nil))) (fun _ _ _ _ => (qe_def D_law_alike (hr.mono (by first | decide | omega)) (qac (qv 0) (qac (qv 1) qa_nil))))) qa_nil)))))) qss_nil)
      (qss_cons (qs_if (QW.pt (qw_or (qt_val (qe_callB call_isiA (by rfl) T.b_isinstance PyProof.Rows.boot_isinstance (qac (qv 1) (qac (qe_bltn (v := .ty "str") rfl T.b_str PyProof.Rows.boot_str rfl) qa_nil)))) (qw_or1 (qt_cmpR op_isN (qv 1) qe_non (nomark _))))) (qss_one (qs_ret (qe_cmpR op_eq (qv 0) (qv 1) (nomark _)))) qss_nil)
      (qss_one (qs_ret (qe_and (qe_callB call_isiA (by rfl) T.b_isinstance PyProof.Rows.boot_isinstance (qac (qv 0) (qac (qe_bltn (v := .ty "int") rfl T.b_int PyProof.Rows.boot_int rfl) qa_nil))) (qe_and (qe_not (qe_callB call_isiA (by rfl) T.b_isinstance PyProof.Rows.boot_isinstance (qac (qv 0) (qac (qe_bltn (v := .ty "bool") rfl T.b_bool PyProof.Rows.boot_bool rfl) qa_nil)))) (qe_one (qe_cmpR op_eq (qv 0) (qv 1) (nomark _))))))))), ?_⟩
        refine ⟨_, rfl, by show 2 ≤ sizeLine; decide, fun p hp => ⟨_, p, ["list", "tuple"], "tuple", rfl, upd_same, .tup (Rd.same (Same.upd hp) h2), by simp, _, rfl, ?_⟩⟩
        rw [show (["list", "tuple"].any (subT "tuple")) = true from by decide]
        have s1 : Same H _ := Same.upd (o := .tup (["list", "tuple"].map V.ty)) hp
        have k1 := Rd.same s1 h1
        have k2 := Rd.same s1 h2
        refine iteT ⟨_, rfl, _, "list", "tuple", rfl, .tup k1, by simp, _, rfl, _, "list", "tuple", rfl, .tup k2, by simp, rfl, _, rfl, ?_⟩
        refine iteNS rfl ⟨_, rfl, _, "tuple", "tuple", rfl, .tup k1, by simp, _, rfl, _, "tuple", "tuple", rfl, .tup k2, by simp, rfl, _, rfl, ?_⟩
        refine iteNS rfl ?_
        refine ⟨_, rfl, c, _, rfl, .inr (.inl k1), _, rfl, d, _, rfl, .inr (.inl k2), rfl, _, rfl, ?_⟩
        refine iteNS (by rw [hl]) ?_
        refine ⟨_, rfl, _, rfl, c, d, xs, ys, rfl, k1, k2, comp_zip hl hz (fun i zs H2 => zs = (List.replicate i true).map V.bl ∧ Same H H2) ⟨rfl, s1⟩ (fun i zs H2 ⟨_, s2⟩ => ⟨Rd.same s2 h1, Rd.same s2 h2⟩) ?_ ?_⟩
        · rintro i zs H2 pp x y hx hy hzl ⟨rfl, s2⟩ hpp
          have s3 := s2.trans (Same.upd (o := .tup [x, y]) hpp)
          refine ⟨_, rfl, _, rfl, x, y, rfl, (hi i x y hx hy).same s3, fun H4 s4 => ⟨?_, s3.trans s4⟩⟩
          rw [List.replicate_succ', List.map_append]; rfl
        · rintro zs H2 hzl ⟨rfl, s2⟩ p2 hp2
          refine ⟨p2, _, rfl, SqL.of upd_same, ?_⟩
          rw [show (List.replicate xs.length true).all id = true from by simp]
          exact q _ (s2.trans (Same.upd hp2))
      | @lst _ c d xs ys h1 h2 hl hz hi =>
        refine ⟨_, (qss_cons (qs_if (qt_val (qe_callB call_isiB (by rfl) T.b_isinstance PyProof.Rows.boot_isinstance (qac (qv 1) (qac (qe_tup (qac (qe_bltn (v := .ty "list") rfl T.b_list PyProof.Rows.boot_list rfl) (qac (qe_bltn (v := .ty "tuple") rfl T.b_tuple PyProof.Rows.boot_tuple rfl) qa_nil))) qa_nil)))) (qss_cons (qs_if (QW.pt (qw_or (qt_cmpR op_ne (qe_callB call_isiA (by rfl) T.b_isinstance PyProof.Rows.boot_isinstance (qac (qv 0) (qac (qe_bltn (v := .ty "list") rfl T.b_list PyProof.Rows.boot_list rfl) qa_nil))) (qe_callB call_isiA (by rfl) T.b_isinstance PyProof.Rows.boot_isinstance (qac (qv 1) (qac (qe_bltn (v := .ty "list") rfl T.b_list PyProof.Rows.boot_list rfl) qa_nil))) (nomark _)) (qw_or1 (qt_cmpR op_ne (qe_callB call_isiA (by rfl) T.b_isinstance PyProof.Rows.boot_isinstance (qac (qv 0) (qac (qe_bltn (v := .ty "tuple") rfl T.b_tuple PyProof.Rows.boot_tuple rfl) qa_nil))) (qe_callB call_isiA (by rfl) T.b_isinstance PyProof.Rows.boot_isinstance (qac (qv 1) (qac (qe_bltn (v := .ty "tuple") rfl T.b_tuple PyProof.Rows.boot_tuple rfl) qa_nil))) (nomark _))))) (qss_one (qs_ret qe_bl)) qss_nil)
      (qss_cons (qs_if (qt_cmpR op_ne (qe_callB call_len_seq (by rfl) T.b_len PySem.boot_len (qac (qv 0) qa_nil)) (qe_callB call_len_seq (by rfl) T.b_len PySem.boot_len (qac (qv 1) qa_nil)) (nomark _)) (qss_one (qs_ret qe_bl)) qss_nil)
      (qss_one (qs_ret (qe_callB (call_allB rfl) (by rfl) T.b_all PyProof.Rows.boot_all (qac (qe_comp (own := ["_law_part", "_law_more"]) (fr := []) (js := []) rfl (qi_zipL rfl T.b_zip (qac (qv 0) (qac (qv 1) qa_nil))) rfl (fun _ _ h => nomatch h) rfl (bsc0 rfl (by decide +kernel) (by decide +kernel) (by decide +kernel)) (fun _ _ _ _ => qg_tupK (K := K) rfl 2 rfl (qgs_cons (qg_name (i := 0) (show List.Nodup (["_law_part", "_law_more"] : List Str) from by decide +kernel) rfl (Or.inl rfl) (.inr rfl)) (qgs_cons (qg_name (i := 1) (show List.Nodup (["_law_part", "_law_more"] : List Str) from by decide +kernel) rfl (Or.inl rfl) (.inr rfl)) qgs_nil))) (fun _ _ _ _ => (qe_def D_law_alike (hr.mono (by first | decide | omega)) (qac (qv 0) (qac (qv 1) qa_nil))))) qa_nil)))))) qss_nil)
      (qss_cons (qs_if (QW.pt (qw_or (qt_val (qe_callB call_isiA (by rfl) T.b_isinstance PyProof.Rows.boot_isinstance (qac (qv 1) (qac (qe_bltn (v := .ty "str") rfl T.b_str PyProof.Rows.boot_str rfl) qa_nil)))) (qw_or1 (qt_cmpR op_isN (qv 1) qe_non (nomark _))))) (qss_one (qs_ret (qe_cmpR op_eq (qv 0) (qv 1) (nomark _)))) qss_nil)
      (qss_one (qs_ret (qe_and (qe_callB call_isiA (by rfl) T.b_isinstance PyProof.Rows.boot_isinstance (qac (qv 0) (qac (qe_bltn (v := .ty "int") rfl T.b_int PyProof.Rows.boot_int rfl) qa_nil))) (qe_and (qe_not (qe_callB call_isiA (by rfl) T.b_isinstance PyProof.Rows.boot_isinstance (qac (qv 0) (qac (qe_bltn (v := .ty "bool") rfl T.b_bool PyProof.Rows.boot_bool rfl) qa_nil)))) (qe_one (qe_cmpR op_eq (qv 0) (qv 1) (nomark _))))))))), ?_⟩
        refine ⟨_, rfl, by show 2 ≤ sizeLine; decide, fun p hp => ⟨_, p, ["list", "tuple"], "list", rfl, upd_same, .lst (Same.upd hp _ _ h2), by simp, _, rfl, ?_⟩⟩
        rw [show (["list", "tuple"].any (subT "list")) = true from by decide]
        have s1 : Same H _ := Same.upd (o := .tup (["list", "tuple"].map V.ty)) hp
        have k1 := s1 _ _ h1
        have k2 := s1 _ _ h2
        refine iteT ⟨_, rfl, _, "list", "list", rfl, .lst k1, by simp, _, rfl, _, "list", "list", rfl, .lst k2, by simp, rfl, _, rfl, ?_⟩
        refine iteNS rfl ⟨_, rfl, _, "tuple", "list", rfl, .lst k1, by simp, _, rfl, _, "tuple", "list", rfl, .lst k2, by simp, rfl, _, rfl, ?_⟩
        refine iteNS rfl ?_
        refine ⟨_, rfl, c, _, rfl, .inl (SqL.of k1), _, rfl, d, _, rfl, .inl (SqL.of k2), rfl, _, rfl, ?_⟩
        refine iteNS (by rw [hl]) ?_
        refine ⟨_, rfl, _, rfl, c, d, xs, ys, rfl, .inl k1, .inl k2, comp_zipL hl hz (fun i zs H2 => zs = (List.replicate i true).map V.bl ∧ Same H H2) ⟨rfl, s1⟩ (fun i zs H2 ⟨_, s2⟩ => ⟨.inl (s2 _ _ h1), .inl (s2 _ _ h2)⟩) ?_ ?_⟩
        · rintro i zs H2 pp x y hx hy hzl ⟨rfl, s2⟩ hpp
          have s3 := s2.trans (Same.upd (o := .tup [x, y]) hpp)
          refine ⟨_, rfl, _, rfl, x, y, rfl, (hi i x y hx hy).same s3, fun H4 s4 => ⟨?_, s3.trans s4⟩⟩
          rw [List.replicate_succ', List.map_append]; rfl
        · rintro zs H2 hzl ⟨rfl, s2⟩ p2 hp2
          refine ⟨p2, _, rfl, SqL.of upd_same, ?_⟩
          rw [show (List.replicate xs.length true).all id = true from by simp]
          exact q _ (s2.trans (Same.upd hp2))
end
end Lw
namespace Lw
open PySem L2 L3
section
variable {P : Program} {w : World} {K : PySem.W.Frag} {mg : Str → Option Value} {base : Heap} {tk : Nat → Tok} {C : Addr} {x : Xa}
theorem ok_Button___init (a : AtM K C "__init__" "Button.__init__" s_Button___init ["self", "name", "table", "key", "age", "step"]) (T : Txt K mg tk) (U : BCx K C) : Mf P w K mg base C "__init__" ["self", "name", "table", "key", "age", "step"] 1 (spBInit K C) := by
  refine a.mq sc_Button___init (fun vs H Q E h => ?_) (fun f cdv A outer s H vs Q E hr h => ?_)
  · obtain ⟨_, _, _, _, _, _, _, _, _, rfl, _⟩ := h
    rfl
  · obtain ⟨p, a, b, dx, nm, age, step, t, ks, rfl, hp, ha, hb, q⟩ := h
    refine ⟨_, (qss_cons (qs_fld (qv 0) (qv 1))
      (qss_cons (qs_fld (qv 0) (qe_callTy call_tupleQ (by rfl) T.b_tuple PyProof.Rows.boot_tuple (qac (qv 2) qa_nil)))
      (qss_cons (qs_fld (qv 0) (qe_callTy call_tupleQ (by rfl) T.b_tuple PyProof.Rows.boot_tuple (qac (qv 3) qa_nil)))
      (qss_cons (qs_fld (qv 0) (qv 4))
      (qss_cons (qs_fld (qv 0) (qv 5))
      (qss_cons (qs_fld (qv 0) qe_int)
      (qss_cons (qs_fld (qv 0) qe_int)
      (qss_one (qs_fld (qv 0) (qe_lst (qac qe_int (qac qe_non qa_nil)))))))))))), ?_⟩
    refine ⟨_, rfl, _, rfl, p, _, rfl, put_new U.cl hp U.n_name 0, ?_⟩
    refine ⟨_, rfl, a, _, rfl, sq_upd hp ha, fun ta H2 s2 ht => ⟨_, rfl, p, _, rfl, put_new U.cl (s2 _ _ upd_same) U.n_table 1, ?_⟩⟩
    have e2 := s2 _ _ upd_same
    refine ⟨_, rfl, b, _, rfl, sq_upd e2 ((sq_upd hp hb).same s2), fun ka H3 s3 hk => ⟨_, rfl, p, _, rfl, put_new U.cl (s3 _ _ upd_same) U.n_key 2, ?_⟩⟩
    have e3 := s3 _ _ upd_same
    have ht3 := sqt_upd (o := .ins C dx [("name", .str nm), ("table", .ref ta), ("key", .ref ka)]) e3 (Same.sqt s3 (sqt_upd e2 ht))
    have hk3 := sqt_upd (o := .ins C dx [("name", .str nm), ("table", .ref ta), ("key", .ref ka)]) e3 hk
    refine ⟨_, rfl, _, rfl, p, _, rfl, put_new U.cl upd_same U.n_age 3, ?_⟩
    refine ⟨_, rfl, _, rfl, p, _, rfl, put_new U.cl upd_same U.n_step 4, ?_⟩
    refine ⟨_, rfl, p, _, rfl, put_new U.cl upd_same U.n_next_count 5, ?_⟩
    refine ⟨_, rfl, p, _, rfl, put_new U.cl upd_same U.n_bound 6, ?_⟩
    refine ⟨by show 2 ≤ sizeLine; decide, fun ce hce => ⟨_, rfl, p, _, rfl, put_new U.cl (by rw [upd_ne (ne_of_none upd_same hce)]; exact upd_same) U.n_cells 7, ?_⟩⟩
    have nce := ne_of_none upd_same hce
    have m2 : Mv [p] H H2 := Mv.upd1.trans s2.mv
    have m3 : Mv [p] H H3 := (m2.trans Mv.upd1).trans s3.mv
    have m8 : ∀ o4 o5 o6 o7 o8, Mv [p] H (upd (upd (upd (upd (upd H3 p o4) p o5) p o6) p o7) p o8) := fun o4 o5 o6 o7 o8 => ((((m3.trans Mv.upd1).trans Mv.upd1).trans Mv.upd1).trans Mv.upd1).trans Mv.upd1
    have hcH : H ce = none := by
      cases e : H ce with
      | none => rfl
      | some o => exact absurd (hce.symm.trans (m8 _ _ _ _ _ ce o (fun z => nce (List.mem_singleton.mp z).symm) e)) (by intro h; cases h)
    refine q ta ka ce _ hcH (((m8 _ _ _ _ _).trans (Same.upd hce).mv).trans Mv.upd1) ⟨⟨dx, upd_same⟩, ?_, ?_, ?_⟩
    · exact sqt_upd (by rw [upd_ne nce]; exact upd_same) (Same.sqt (Same.upd hce) (sqt_upd upd_same (sqt_upd upd_same (sqt_upd upd_same (sqt_upd upd_same ht3)))))
    · exact sqt_upd (by rw [upd_ne nce]; exact upd_same) (Same.sqt (Same.upd hce) (sqt_upd upd_same (sqt_upd upd_same (sqt_upd upd_same (sqt_upd upd_same hk3)))))
    · rw [upd_ne nce.symm]; exact upd_same
theorem ok_Button_is_worn (a : AtM K C "is_worn" "Button.is_worn" s_Button_is_worn ["self"]) (T : Txt K mg tk) (U : BCx K C) : Mf P w K mg base C "is_worn" ["self"] 1 (spBWorn K C) := by
  refine a.mq sc_Button_is_worn (fun vs H Q E h => ?_) (fun f cdv A outer s H vs Q E hr h => ?_)
  · obtain ⟨_, _, _, _, _, rfl, _⟩ := h
    rfl
  · obtain ⟨p, ta, ka, ce, B, rfl, b, q⟩ := h
    refine ⟨_, (qss_one (qs_ret (qe_cmpR op_ge (qe_fld (qv 0)) (qe_glob (v := .int 4096) rfl T.g_COUNTS ⟨_, rfl⟩) (nomark _)))), ?_⟩
    exact ⟨_, rfl, p, _, rfl, b.h_next_count U, _, _, rfl, rfl, q⟩
theorem ok_Button_must_write (a : AtM K C "must_write" "Button.must_write" s_Button_must_write ["self"]) (T : Txt K mg tk) (U : BCx K C) (D_Button_is_worn : Mf P w K mg base C "is_worn" ["self"] 1 (spBWorn K C)) : Mf P w K mg base C "must_write" ["self"] 2 (spBMust K C) := by
  refine a.mq sc_Button_must_write (fun vs H Q E h => ?_) (fun f cdv A outer s H vs Q E hr h => ?_)
  · obtain ⟨_, _, _, _, _, rfl, _⟩ := h
    rfl
  · obtain ⟨p, ta, ka, ce, B, rfl, b, q⟩ := h
    refine ⟨_, (qss_one (qs_ret (qe_and (qe_cmpR op_eq (qe_fld (qv 0)) (qe_fld (qv 0)) (nomark _)) (qe_one (qe_not (qe_meth0 D_Button_is_worn U.cl (hr.mono (by first | decide | omega)) (qv 0))))))), ?_⟩
    refine ⟨_, rfl, p, _, rfl, b.h_next_count U, _, rfl, p, _, rfl, b.h_bound U, rfl, _, rfl, ?_⟩
    unfold Bt.mw at q
    refine ite2 (fun z => ?_) (fun z => ?_)
    · refine ⟨_, rfl, p, rfl, b.no, p, ta, ka, ce, B, rfl, b, _, rfl, ?_⟩
      have z' : B.cnt = B.bnd := by have := of_decide_eq_true z; injection this
      rw [decide_eq_true z'] at q
      exact q
    · have z' : ¬ B.cnt = B.bnd := fun e => z (decide_eq_true (by rw [e]))
      rw [decide_eq_false z'] at q
      exact q
theorem ok_Button_spare_cell (a : AtM K C "spare_cell" "Button.spare_cell" s_Button_spare_cell ["self"]) (T : Txt K mg tk) (U : BCx K C) : Mf P w K mg base C "spare_cell" ["self"] 1 (spBSpare K C) := by
  refine a.mq sc_Button_spare_cell (fun vs H Q E h => ?_) (fun f cdv A outer s H vs Q E hr h => ?_)
  · obtain ⟨_, _, _, _, _, rfl, _⟩ := h
    rfl
  · obtain ⟨p, ta, ka, ce, B, rfl, b, q⟩ := h
    refine ⟨_, (qss_cons (qs_if (qt_cmpR op_eq (qe_ix ix_list (qe_fld (qv 0)) qe_int (fun _ _ => rfl)) (qe_fld (qv 0)) (nomark _)) (qss_one (qs_ret qe_int)) qss_nil)
      (qss_one (qs_ret qe_int))), ?_⟩
    refine ⟨_, rfl, p, _, rfl, b.h_cells U, ce, _, _, _, rfl, rfl, SqL.of b.cs, rfl, _, rfl, p, _, rfl, b.h_bound U, oV_scal _ _, _, rfl, ?_⟩
    rw [oV_dec]
    unfold Bt.sp at q
    refine ite2 (fun z => ?_) (fun z => ?_)
    · rw [if_pos (of_decide_eq_true z)] at q; exact q
    · rw [if_neg (fun e => z (decide_eq_true e))] at q; exact q
theorem ok_Button_write_bound (a : AtM K C "write_bound" "Button.write_bound" s_Button_write_bound ["self"]) (T : Txt K mg tk) (U : BCx K C) (D_Button_spare_cell : Mf P w K mg base C "spare_cell" ["self"] 1 (spBSpare K C)) : Mf P w K mg base C "write_bound" ["self"] 2 (spBWrite K C) := by
  refine a.mq sc_Button_write_bound (fun vs H Q E h => ?_) (fun f cdv A outer s H vs Q E hr h => ?_)
  · obtain ⟨_, _, _, _, _, rfl, _⟩ := h
    rfl
  · obtain ⟨p, ta, ka, ce, B, rfl, b, q⟩ := h
    obtain ⟨dx, ep⟩ := b.ob
    refine ⟨_, (qss_cons (qs_set (i := 1) sc_Button_write_bound.nd rfl (Or.inl rfl) (qe_meth0 D_Button_spare_cell U.cl (hr.mono (by first | decide | omega)) (qv 0)))
      (qss_cons (qs_fld (qv 0) (qe_callB (call_min2 rfl) (by rfl) T.b_min PyProof.Rows.boot_min (qac (qe_op op_add (qe_fld (qv 0)) (qe_fld (qv 0))) (qac (qe_glob (v := .int 4096) rfl T.g_COUNTS ⟨_, rfl⟩) qa_nil))))
      (qss_one (qs_asg (qe_fld (qv 0)) (qg_sub (qe_fld (qv 0)) (qv 1) set_list))))), ?_⟩
    refine ⟨_, rfl, p, rfl, b.no, p, ta, ka, ce, B, rfl, b, ?_⟩
    refine ⟨_, rfl, p, _, rfl, b.h_bound U, _, rfl, p, _, rfl, b.h_step U, _, _, rfl, rfl, _, _, rfl, _, rfl, p, _, rfl, BtnAt.put U ep 6 _ rfl U.n_bound, ?_⟩
    have b1 : BtnAt K C (upd H p (.ins C dx (bF { B with bnd := B.nb } ta ka ce))) p ta ka ce { B with bnd := B.nb } := b.to (B' := { B with bnd := B.nb }) (Mv.upd1.mono (fun c h z => h (by rw [List.mem_singleton.mp z]; exact List.mem_cons_self ..))) rfl rfl upd_same (by rw [upd_ne b.ne.symm]; exact b.cs)
    refine ⟨_, rfl, p, _, rfl, b1.h_bound U, _, rfl, p, _, rfl, b1.h_cells U, _, rfl, ?_⟩
    unfold Bt.sp Bt.wr at *
    have mv : ∀ o o', Mv [p, ce] H (upd (upd H p o) ce o') := fun o o' c u hc e => by
      rw [upd_ne (fun z => hc (by rw [z]; exact List.mem_cons_of_mem _ (List.mem_cons_self ..))), upd_ne (fun z => hc (by rw [z]; exact List.mem_cons_self ..))]; exact e
    by_cases hx : B.x = some B.bnd
    · rw [if_pos hx]
      rw [if_pos hx] at q
      refine ⟨ce, _, _, 1, rfl, rfl, b1.cs, rfl, ?_⟩
      exact q _ (mv _ _) (b.to (B' := { B with bnd := B.nb, y := some B.nb }) (mv _ _) rfl rfl (by rw [upd_ne b.ne]; exact upd_same) upd_same)
    · rw [if_neg hx]
      rw [if_neg hx] at q
      refine ⟨ce, _, _, 0, rfl, rfl, b1.cs, rfl, ?_⟩
      exact q _ (mv _ _) (b.to (B' := { B with bnd := B.nb, x := some B.nb }) (mv _ _) rfl rfl (by rw [upd_ne b.ne]; exact upd_same) upd_same)
theorem okx_Button_press_once (a : AtM K C "press_once" "Button.press_once" s_Button_press_once ["self", "deed"]) (T : Txt K mg tk) (U : BCx K C) (XC : X13 K mg x) (D_Button_is_worn : Mf P w K mg base C "is_worn" ["self"] 1 (spBWorn K C)) (D_Button_must_write : Mf P w K mg base C "must_write" ["self"] 2 (spBMust K C))
    (D_Button_write_bound : Mf P w K mg base C "write_bound" ["self"] 2 (spBWrite K C)) (D_press_of : Df P w K mg base "press_of" ["table", "key", "name", "age", "count", "deed"] 3 (spPress K)) : Mx P w K mg base C "press_once" ["self", "deed"] 4 (spBPressX K C x) := by
  refine a.mx sc_Button_press_once (fun vs H Q E h => ?_) (fun f cdv A outer s H vs Q E hr h => ?_)
  · obtain ⟨_, _, _, _, _, _, rfl, _⟩ := h
    rfl
  · obtain ⟨p, ta, ka, ce, B, d, rfl, b, hn, hl, c0, hd, tw, q⟩ := h
    refine ⟨_, (qss_cons (qs_if (qt_val (qe_meth0 D_Button_is_worn U.cl (hr.mono (by first | decide | omega)) (qv 0))) (qss_one (qs_raise throws_cx1 rfl PySem.F.excBase_ValueError rfl XC.g_Worn XC.e_Worn (qac qe_str qa_nil) rfl)) qss_nil)
      (qss_cons (qs_if (qt_val (qe_meth0 D_Button_must_write U.cl (hr.mono (by first | decide | omega)) (qv 0))) (qss_one (qs_expr (qe_meth0 D_Button_write_bound U.cl (hr.mono (by first | decide | omega)) (qv 0)))) qss_nil)
      (qss_cons (qs_set (i := 2) sc_Button_press_once.nd rfl (Or.inl rfl) (qe_def D_press_of (hr.mono (by first | decide | omega)) (qac (qe_fld (qv 0)) (qac (qe_fld (qv 0)) (qac (qe_fld (qv 0)) (qac (qe_fld (qv 0)) (qac (qe_fld (qv 0)) (qac (qv 1) qa_nil))))))))
      (qss_cons (qs_fldaug in_add (qv 0) qe_int)
      (qss_one (qs_ret (qv 2))))))), ?_⟩
    refine ⟨_, rfl, p, rfl, b.no, p, ta, ka, ce, B, rfl, b, _, rfl, ?_⟩
    refine ite2 (fun z => ⟨by show 1 ≤ sizeLine; decide, fun a ha => tw (of_decide_eq_true z) _ a (Same.refl _) ha⟩) (fun z => ?_)
    have c1 : B.cnt < 4096 := by have : ¬ 4096 ≤ B.cnt := fun y => z (decide_eq_true y); omega
    have q := q c1
    clear z
    refine ⟨_, rfl, p, rfl, b.no, p, ta, ka, ce, B, rfl, b, _, rfl, ?_⟩
    refine ite2 (fun z => ?_) (fun z => ?_)
    · refine ⟨_, rfl, p, rfl, b.no, p, ta, ka, ce, B, rfl, b, fun H1 m1 b1 => ?_⟩
      have e0 : ({ B.wr with cnt := B.wr.cnt + 1 } : Bt) = B.pr := by unfold Bt.pr; rw [if_pos z, wr_cnt]
      have e1 := wr_nm B
      have e2 := wr_t B
      have e3 := wr_ks B
      have e4 := wr_age B
      have e5 := wr_cnt B
      generalize B.wr = B1 at b1 e0 e1 e2 e3 e4 e5
      refine ⟨_, rfl, p, _, rfl, b1.h_table U, _, rfl, p, _, rfl, b1.h_key U, _, rfl, p, _, rfl, b1.h_name U, _, rfl, p, _, rfl, b1.h_age U, _, rfl, p, _, rfl, b1.h_next_count U, _, rfl, ta, ka, B1.nm, B1.age, B1.cnt, d, B1.t, B1.ks, rfl, .inr b1.tb, .inr b1.ky, by rw [e1]; exact hn, by rw [e2]; exact hl, by rw [e5]; exact c0, by rw [e5]; exact c1, hd, fun q1 pc H2 s2 h1 h2 => ?_⟩
      have b2 := b1.same s2
      obtain ⟨dx, ep⟩ := b2.ob
      refine ⟨_, rfl, p, _, rfl, b2.h_next_count U, _, _, rfl, rfl, (fun _ e => e), _, BtnAt.put U ep 5 _ rfl U.n_next_count, ?_⟩
      have n1 : q1 ≠ p := ne_of h1 ep (by intro z; cases z)
      have n2 : pc ≠ p := ne_of h2 ep (by intro z; cases z)
      have m3 : Mv [p, ce] H2 (upd H2 p (.ins C dx (bF { B1 with cnt := B1.cnt + 1 } ta ka ce))) := Mv.upd1.mono (fun c h z => h (by rw [List.mem_singleton.mp z]; exact List.mem_cons_self ..))
      have b3 : BtnAt K C (upd H2 p (.ins C dx (bF { B1 with cnt := B1.cnt + 1 } ta ka ce))) p ta ka ce B.pr := by
        have b3' := b2.to (B' := { B1 with cnt := B1.cnt + 1 }) m3 rfl rfl upd_same (by rw [upd_ne b2.ne.symm]; exact b2.cs)
        rw [e0] at b3' ⊢
        exact b3'
      refine ⟨_, rfl, q q1 pc _ ((m1.trans s2.mv).trans m3) b3 ?_ ?_⟩
      · rw [upd_ne n1, h1, e1, e4]
      · rw [upd_ne n2, h2, e1, e2, e3, e5]
    · have b1 := b
      have m1 : Mv [p, ce] H H := Mv.refl
      have e0 : ({ B with cnt := B.cnt + 1 } : Bt) = B.pr := by unfold Bt.pr; rw [if_neg z]
      obtain ⟨B1, hB⟩ : ∃ B1, B1 = B := ⟨B, rfl⟩
      have e1 : B1.nm = B.nm := by rw [hB]
      have e2 : B1.t = B.t := by rw [hB]
      have e3 : B1.ks = B.ks := by rw [hB]
      have e4 : B1.age = B.age := by rw [hB]
      have e5 : B1.cnt = B.cnt := by rw [hB]
      have e0 : ({ B1 with cnt := B1.cnt + 1 } : Bt) = B.pr := by rw [hB]; exact e0
      have b1 : BtnAt K C H p ta ka ce B1 := by rw [hB]; exact b
      refine ⟨_, rfl, p, _, rfl, b1.h_table U, _, rfl, p, _, rfl, b1.h_key U, _, rfl, p, _, rfl, b1.h_name U, _, rfl, p, _, rfl, b1.h_age U, _, rfl, p, _, rfl, b1.h_next_count U, _, rfl, ta, ka, B1.nm, B1.age, B1.cnt, d, B1.t, B1.ks, rfl, .inr b1.tb, .inr b1.ky, by rw [e1]; exact hn, by rw [e2]; exact hl, by rw [e5]; exact c0, by rw [e5]; exact c1, hd, fun q1 pc H2 s2 h1 h2 => ?_⟩
      have b2 := b1.same s2
      obtain ⟨dx, ep⟩ := b2.ob
      refine ⟨_, rfl, p, _, rfl, b2.h_next_count U, _, _, rfl, rfl, (fun _ e => e), _, BtnAt.put U ep 5 _ rfl U.n_next_count, ?_⟩
      have n1 : q1 ≠ p := ne_of h1 ep (by intro z; cases z)
      have n2 : pc ≠ p := ne_of h2 ep (by intro z; cases z)
      have m3 : Mv [p, ce] H2 (upd H2 p (.ins C dx (bF { B1 with cnt := B1.cnt + 1 } ta ka ce))) := Mv.upd1.mono (fun c h z => h (by rw [List.mem_singleton.mp z]; exact List.mem_cons_self ..))
      have b3 : BtnAt K C (upd H2 p (.ins C dx (bF { B1 with cnt := B1.cnt + 1 } ta ka ce))) p ta ka ce B.pr := by
        have b3' := b2.to (B' := { B1 with cnt := B1.cnt + 1 }) m3 rfl rfl upd_same (by rw [upd_ne b2.ne.symm]; exact b2.cs)
        rw [e0] at b3' ⊢
        exact b3'
      refine ⟨_, rfl, q q1 pc _ ((m1.trans s2.mv).trans m3) b3 ?_ ?_⟩
      · rw [upd_ne n1, h1, e1, e4]
      · rw [upd_ne n2, h2, e1, e2, e3, e5]
end
section
variable {P : Program} {w : World} {K : PySem.W.Frag} {mg : Str → Option Value} {base : Heap} {tk : Nat → Tok} {C : Addr}
theorem ok_Button_count_now (a : AtM K C "count_now" "Button.count_now" s_Button_count_now ["self"]) (T : Txt K mg tk) (U : BCx K C) : Mf P w K mg base C "count_now" ["self"] 1 (spBCount K C) := by
  refine a.mq sc_Button_count_now (fun vs H Q E h => ?_) (fun f cdv A outer s H vs Q E hr h => ?_)
  · obtain ⟨_, _, _, _, _, rfl, _⟩ := h
    rfl
  · obtain ⟨p, ta, ka, ce, B, rfl, b, q⟩ := h
    refine ⟨_, (qss_one (qs_ret (qe_fld (qv 0)))), ?_⟩
    exact ⟨_, rfl, p, _, rfl, b.h_next_count U, q⟩
end
section
variable {P : Program} {w : World} {K : PySem.W.Frag} {mg : Str → Option Value} {base : Heap} {tk : Nat → Tok} {C : Addr}
theorem ok_Button_cells_now (a : AtM K C "cells_now" "Button.cells_now" s_Button_cells_now ["self"]) (T : Txt K mg tk) (U : BCx K C) : Mf P w K mg base C "cells_now" ["self"] 1 (spBCells K C) := by
  refine a.mq sc_Button_cells_now (fun vs H Q E h => ?_) (fun f cdv A outer s H vs Q E hr h => ?_)
  · obtain ⟨_, _, _, _, _, rfl, _⟩ := h
    rfl
  · obtain ⟨p, ta, ka, ce, B, rfl, b, q⟩ := h
    refine ⟨_, (qss_one (qs_ret (qe_callTy call_tuple_of (by rfl) T.b_tuple PyProof.Rows.boot_tuple (qac (qe_fld (qv 0)) qa_nil)))), ?_⟩
    exact ⟨_, rfl, p, _, rfl, b.h_cells U, ce, _, rfl, .inl ⟨SqL.of b.cs, fun l hl => q l _ (Same.upd hl) upd_same⟩⟩
end
section
variable {P : Program} {w : World} {K : PySem.W.Frag} {mg : Str → Option Value} {base : Heap} {tk : Nat → Tok}
theorem ok_law_begun (a : At K mg "_law_begun" s_law_begun ["_law_step"]) (T : Txt K mg tk) : Df P w K mg base "_law_begun" ["_law_step"] 1 spBegun := by
  refine a.dq sc_law_begun (fun vs H Q E h => ?_) (fun f cdv A outer s H vs Q E hr h => ?_)
  · obtain ⟨_, rfl, _⟩ := h
    rfl
  · obtain ⟨st, rfl, q⟩ := h
    refine ⟨_, (qss_one (qs_ret (qe_disp (qps_cons qe_str qe_int (qps_cons qe_str qe_int (qps_cons qe_str (qe_lst (qac qe_int (qac qe_non qa_nil))) (qps_cons qe_str (qv 0) qps_nil))))))), ?_⟩
    refine fun d hd => ⟨by show 2 ≤ sizeLine; decide, fun lc hlc => ⟨_, rfl, ?_⟩⟩
    have nd : d ≠ lc := ne_of_none upd_same hlc
    refine ⟨(upd_ne nd).trans upd_same, lawD (zB st) lc, rfl, by show 4 ≤ 15; decide, ?_⟩
    rw [merge_law]
    have hl : H lc = none := by rw [upd_ne nd.symm] at hlc; exact hlc
    refine q d lc _ hd hl (fun c o e => ?_) ⟨upd_same, ?_⟩
    · rw [upd_ne (ne_of_none e hd), upd_ne (ne_of_none e hl), upd_ne (ne_of_none e hd)]; exact e
    · rw [upd_ne nd.symm]; exact upd_same
theorem ok_law_pressed (a : At K mg "_law_pressed" s_law_pressed ["_law_own"]) (T : Txt K mg tk) : Df P w K mg base "_law_pressed" ["_law_own"] 1 spPressedX := by
  refine a.dq sc_law_pressed (fun vs H Q E h => ?_) (fun f cdv A outer s H vs Q E hr h => ?_)
  · obtain ⟨_, _, _, rfl, _⟩ := h
    rfl
  · obtain ⟨d, lc, B, rfl, l, hc4, q, qn⟩ := h
    refine ⟨_, (qss_cons (qs_if (qt_cmpR op_eq (qe_dget hr (qv 0) qe_str) qe_int (nomark _)) (qss_one (qs_ret qe_non)) qss_nil)
      (qss_cons (qs_if (qt_cmpR op_eq (qe_dget hr (qv 0) qe_str) (qe_dget hr (qv 0) qe_str) (nomark _)) (qss_cons (qs_set (i := 1) sc_law_pressed.nd rfl (Or.inl rfl) (qe_ifExp (qt_cmpR op_eq (qe_ix ix_list (qe_dget hr (qv 0) qe_str) qe_int (fun _ _ => rfl)) (qe_dget hr (qv 0) qe_str) (nomark _)) qe_int qe_int))
      (qss_cons (qs_dputK hr (qv 0) qe_str (qe_callB (call_min2 rfl) (by rfl) T.b_min PyProof.Rows.boot_min (qac qe_int (qac (qe_op op_add (qe_dget hr (qv 0) qe_str) (qe_dget hr (qv 0) qe_str)) qa_nil))))
      (qss_one (qs_asg (qe_dget hr (qv 0) qe_str) (qg_sub (qe_dget hr (qv 0) qe_str) (qv 1) set_list))))) qss_nil)
      (qss_cons (qs_dputK hr (qv 0) qe_str (qe_op op_add (qe_dget hr (qv 0) qe_str) qe_int))
      (qss_one (qs_ret (qe_op op_sub (qe_dget hr (qv 0) qe_str) qe_int)))))), ?_⟩
    refine ⟨_, rfl, d, _, rfl, l.g_count, rfl, _, rfl, ?_⟩
    refine ite2 (fun z => qn (by have := of_decide_eq_true z; injection this)) (fun z0 => ?_)
    have hc : B.cnt < 4096 := by have : B.cnt ≠ 4096 := fun y => z0 (decide_eq_true (by rw [y])); omega
    have q := q hc
    refine ⟨_, rfl, d, _, rfl, l.g_count, _, rfl, d, _, rfl, l.g_bound, rfl, _, rfl, ?_⟩
    refine ite2 (fun z => ?_) (fun z => ?_)
    · have e : B.cnt = B.bnd := by have := of_decide_eq_true z; injection this
      have hm : B.mw = true := by unfold Bt.mw; rw [decide_eq_true e, decide_eq_false (by omega : ¬ 4096 ≤ B.cnt)]; rfl
      refine ⟨_, rfl, d, _, rfl, l.g_cells, lc, _, _, _, rfl, rfl, SqL.of l.cs, rfl, _, rfl, d, _, rfl, l.g_bound, oV_scal _ _, _, rfl, ?_⟩
      have nb' : (if B.bnd + B.step < 4096 then B.bnd + B.step else 4096) = B.nb := by unfold Bt.nb; split <;> split <;> omega
      have fin : ∀ (B2 : Bt), B2 = B.wr → ∀ H2, Mv [d, lc] H H2 → LawAt H2 d lc B2 → LawAt (upd H2 d (.dK (lawD { B2 with cnt := B2.cnt + 1 } lc))) d lc B.pr ∧ Mv [d, lc] H (upd H2 d (.dK (lawD { B2 with cnt := B2.cnt + 1 } lc))) ∧ B2.cnt = B.cnt := fun B2 e2 H2 m2 l2 => by
        subst e2
        have e3 : ({ B.wr with cnt := B.wr.cnt + 1 } : Bt) = B.pr := by unfold Bt.pr; rw [if_pos hm, wr_cnt]
        have l3 := l2.upd_d { B.wr with cnt := B.wr.cnt + 1 } rfl rfl
        refine ⟨?_, m2.trans (Mv.upd1.mono fun c h y => h (by rw [List.mem_singleton.mp y]; exact List.mem_cons_self ..)), wr_cnt B⟩
        rw [e3] at l3 ⊢
        exact l3
      have mset : ∀ o o', Mv [d, lc] H (upd (upd H d o) lc o') := fun o o' c u hc' e => by
        rw [upd_ne (fun y => hc' (by rw [y]; exact List.mem_cons_of_mem _ (List.mem_cons_self ..))), upd_ne (fun y => hc' (by rw [y]; exact List.mem_cons_self ..))]; exact e
      rw [oV_dec]
      by_cases hx : B.x = some B.bnd
      · refine iteD (decide_eq_true hx) ?_
        refine ⟨_, rfl, d, _, rfl, l.g_bound, _, rfl, d, _, rfl, l.g_step, _, _, rfl, rfl, _, _, rfl, _, rfl, d, _, rfl, l.p_bound _, ?_⟩
        rw [nb']
        have l1 := l.upd_d { B with bnd := B.nb } rfl rfl
        refine ⟨_, rfl, d, _, rfl, l1.g_bound, _, rfl, d, _, rfl, l1.g_cells, _, rfl, lc, _, _, 1, rfl, rfl, l1.cs, rfl, ?_⟩
        have l2 : LawAt (upd (upd H d (.dK (lawD { B with bnd := B.nb } lc))) lc (.lst [oV B.x, .int B.nb])) d lc { B with bnd := B.nb, y := some B.nb } := ⟨by rw [upd_ne l.ne]; exact upd_same, upd_same⟩
        refine ⟨_, rfl, d, _, rfl, l2.g_count, _, _, rfl, rfl, _, rfl, d, _, rfl, l2.p_count _, ?_⟩
        obtain ⟨f1, f2, f3⟩ := fin { B with bnd := B.nb, y := some B.nb } (by unfold Bt.wr; rw [if_pos hx]) _ (mset _ _) l2
        have l3 := l2.upd_d { B with bnd := B.nb, y := some B.nb, cnt := B.cnt + 1 } rfl rfl
        refine ⟨_, rfl, d, _, rfl, l3.g_count, _, _, rfl, rfl, ?_⟩
        show Q (.int (B.cnt + 1 - 1)) _
        rw [show B.cnt + 1 - 1 = B.cnt from by omega]
        exact q _ f2 f1
      · refine iteE (decide_eq_false hx) ?_
        refine ⟨_, rfl, d, _, rfl, l.g_bound, _, rfl, d, _, rfl, l.g_step, _, _, rfl, rfl, _, _, rfl, _, rfl, d, _, rfl, l.p_bound _, ?_⟩
        rw [nb']
        have l1 := l.upd_d { B with bnd := B.nb } rfl rfl
        refine ⟨_, rfl, d, _, rfl, l1.g_bound, _, rfl, d, _, rfl, l1.g_cells, _, rfl, lc, _, _, 0, rfl, rfl, l1.cs, rfl, ?_⟩
        have l2 : LawAt (upd (upd H d (.dK (lawD { B with bnd := B.nb } lc))) lc (.lst [.int B.nb, oV B.y])) d lc { B with bnd := B.nb, x := some B.nb } := ⟨by rw [upd_ne l.ne]; exact upd_same, upd_same⟩
        refine ⟨_, rfl, d, _, rfl, l2.g_count, _, _, rfl, rfl, _, rfl, d, _, rfl, l2.p_count _, ?_⟩
        obtain ⟨f1, f2, f3⟩ := fin { B with bnd := B.nb, x := some B.nb } (by unfold Bt.wr; rw [if_neg hx]) _ (mset _ _) l2
        have l3 := l2.upd_d { B with bnd := B.nb, x := some B.nb, cnt := B.cnt + 1 } rfl rfl
        refine ⟨_, rfl, d, _, rfl, l3.g_count, _, _, rfl, rfl, ?_⟩
        show Q (.int (B.cnt + 1 - 1)) _
        rw [show B.cnt + 1 - 1 = B.cnt from by omega]
        exact q _ f2 f1
    · have e : ¬ B.cnt = B.bnd := fun y => z (decide_eq_true (by rw [y]))
      have hm : ¬ B.mw = true := fun y => e (by unfold Bt.mw at y; rw [Bool.and_eq_true] at y; exact of_decide_eq_true y.1)
      refine ⟨_, rfl, d, _, rfl, l.g_count, _, _, rfl, rfl, _, rfl, d, _, rfl, l.p_count _, ?_⟩
      have l3 := l.upd_d { B with cnt := B.cnt + 1 } rfl rfl
      refine ⟨_, rfl, d, _, rfl, l3.g_count, _, _, rfl, rfl, ?_⟩
      show Q (.int (B.cnt + 1 - 1)) _
      rw [show B.cnt + 1 - 1 = B.cnt from by omega]
      have e3 : ({ B with cnt := B.cnt + 1 } : Bt) = B.pr := by unfold Bt.pr; rw [if_neg hm]
      refine q _ (Mv.upd1.mono fun c h y => h (by rw [List.mem_singleton.mp y]; exact List.mem_cons_self ..)) ?_
      rw [e3] at l3 ⊢
      exact l3
end
section
variable {P : Program} {w : World} {K : PySem.W.Frag} {mg : Str → Option Value} {base : Heap} {tk : Nat → Tok} {C : Addr}
theorem ok_Button_cell_out (a : AtM K C "cell_out" "Button.cell_out" s_Button_cell_out ["self"]) (T : Txt K mg tk) (U : BCx K C) : Mf P w K mg base C "cell_out" ["self"] 1 (spBOut K C) := by
  refine a.mq sc_Button_cell_out (fun vs H Q E h => ?_) (fun f cdv A outer s H vs Q E hr h => ?_)
  · obtain ⟨_, _, _, _, _, rfl, _⟩ := h
    rfl
  · obtain ⟨p, ta, ka, ce, B, rfl, b, ok, q⟩ := h
    refine ⟨_, (qss_cons (qs_set (i := 1) sc_Button_cell_out.nd rfl (Or.inl rfl) (qe_callB (call_maxL rfl) (by rfl) T.b_max PyProof.Rows.boot_max (qac (qe_compF (own := ["cell"]) (fr := []) (js := []) rfl (qi_list (qe_fld (qv 0))) rfl (fun _ _ h => nomatch h) rfl (bsc0 rfl (by decide +kernel) (by decide +kernel) (by decide +kernel)) (fun _ _ _ _ => qg_name (i := 0) (show List.Nodup (["cell"] : List Str) from by decide +kernel) rfl (Or.inl rfl) (.inr rfl)) (fun _ _ _ _ => (qt_cmpR op_notN (qv 0) qe_non (nomark _))) (fun _ _ _ _ => (qv 0))) qa_nil)))
      (qss_cons (qs_fld (qv 0) (qv 1))
      (qss_one (qs_fld (qv 0) (qv 1))))), ?_⟩
    refine ⟨_, rfl, p, _, rfl, b.h_cells U, ce, rfl, ⟨_, SqL.of b.cs⟩, compF_list (K := K) (xs := [oV B.x, oV B.y]) (by show 2 ≤ sizeLine; decide) (fun i ys H2 => H2 = H ∧ ys = ([oV B.x, oV B.y].take i).filter notN) ⟨rfl, rfl⟩ (fun i ys H2 ⟨e, _⟩ => by subst e; exact SqL.of b.cs) ?_ ?_⟩
    · rintro i ys H2 v hv ⟨rfl, rfl⟩
      refine ⟨_, rfl, rfl, _, rfl, ?_⟩
      rw [filt_step hv]
      by_cases e : notN v = true
      · exact iteD e ⟨_, rfl, rfl, by rw [if_pos e]⟩
      · exact iteE (Bool.eq_false_iff.mpr e) ⟨rfl, by rw [if_neg e]⟩
    · rintro ys H2 ⟨rfl, rfl⟩ pm hpm
      obtain ⟨k1, k2, k3⟩ := ok.ok
      refine ⟨pm, okC B.x B.y, rfl, ?_, k2, fun M hM1 hM2 => ?_⟩
      · show upd H2 pm (.lst ([oV B.x, oV B.y].filter notN)) pm = _
        rw [upd_same, notN_cells]
      · have hM : M = B.bnd := by have h1 := hM2 _ k1; have h2 := k3 _ hM1; omega
        subst hM
        have s1 : Same H2 _ := Same.upd (o := .lst ([oV B.x, oV B.y].filter notN)) hpm
        have b1 := b.same s1
        obtain ⟨dx, ep⟩ := b1.ob
        refine ⟨_, rfl, _, rfl, p, _, rfl, BtnAt.put U ep 5 _ rfl U.n_next_count, ?_⟩
        have mp : ∀ (H : Hp) (o : HO), Mv [p, ce] H (upd H p o) := fun H o => Mv.upd1.mono (fun c h z => h (by rw [List.mem_singleton.mp z]; exact List.mem_cons_self ..))
        have b2 := b1.to (B' := { B with cnt := B.bnd }) (mp _ (.ins C dx (bF { B with cnt := B.bnd } ta ka ce))) rfl rfl upd_same (by rw [upd_ne b1.ne.symm]; exact b1.cs)
        refine ⟨_, rfl, _, rfl, p, _, rfl, BtnAt.put (B := { B with cnt := B.bnd }) (ta := ta) (ka := ka) (ce := ce) (dx := dx) U upd_same 6 (.int B.bnd) rfl U.n_bound, ?_⟩
        have b3 := b2.to (B' := { B with cnt := B.bnd }) (mp _ (.ins C dx (bF { B with cnt := B.bnd } ta ka ce))) rfl rfl upd_same (by rw [upd_ne b1.ne.symm]; exact b2.cs)
        exact q _ ((s1.mv.trans (mp _ _)).trans (mp _ _)) b3
theorem ok_law_out (a : At K mg "_law_out" s_law_out ["_law_own"]) (T : Txt K mg tk) : Df P w K mg base "_law_out" ["_law_own"] 1 spOut := by
  refine a.dq sc_law_out (fun vs H Q E h => ?_) (fun f cdv A outer s H vs Q E hr h => ?_)
  · obtain ⟨_, _, _, rfl, _⟩ := h
    rfl
  · obtain ⟨d, lc, B, rfl, l, ok, q⟩ := h
    refine ⟨_, (qss_cons (qs_dputK hr (qv 0) qe_str (qe_callB (call_maxL rfl) (by rfl) T.b_max PyProof.Rows.boot_max (qac (qe_compF (own := ["_law_cell"]) (fr := []) (js := []) rfl (qi_list (qe_dget hr (qv 0) qe_str)) rfl (fun _ _ h => nomatch h) rfl (bsc0 rfl (by decide +kernel) (by decide +kernel) (by decide +kernel)) (fun _ _ _ _ => qg_name (i := 0) (show List.Nodup (["_law_cell"] : List Str) from by decide +kernel) rfl (Or.inl rfl) (.inr rfl)) (fun _ _ _ _ => (qt_cmpR op_notN (qv 0) qe_non (nomark _))) (fun _ _ _ _ => (qv 0))) qa_nil)))
      (qss_one (qs_dputK hr (qv 0) qe_str (qe_dget hr (qv 0) qe_str)))), ?_⟩
    refine ⟨_, rfl, d, _, rfl, l.g_cells, lc, rfl, ⟨_, SqL.of l.cs⟩, compF_list (K := K) (xs := [oV B.x, oV B.y]) (by show 2 ≤ sizeLine; decide) (fun i ys H2 => H2 = H ∧ ys = ([oV B.x, oV B.y].take i).filter notN) ⟨rfl, rfl⟩ (fun i ys H2 ⟨e, _⟩ => by subst e; exact SqL.of l.cs) ?_ ?_⟩
    · rintro i ys H2 v hv ⟨rfl, rfl⟩
      refine ⟨_, rfl, rfl, _, rfl, ?_⟩
      rw [filt_step hv]
      by_cases e : notN v = true
      · exact iteD e ⟨_, rfl, rfl, by rw [if_pos e]⟩
      · exact iteE (Bool.eq_false_iff.mpr e) ⟨rfl, by rw [if_neg e]⟩
    · rintro ys H2 ⟨rfl, rfl⟩ pm hpm
      obtain ⟨k1, k2, k3⟩ := ok.ok
      refine ⟨pm, okC B.x B.y, rfl, ?_, k2, fun M hM1 hM2 => ?_⟩
      · show upd H2 pm (.lst ([oV B.x, oV B.y].filter notN)) pm = _
        rw [upd_same, notN_cells]
      · have hM : M = B.bnd := by have h1 := hM2 _ k1; have h2 := k3 _ hM1; omega
        subst hM
        have s1 : Same H2 _ := Same.upd (o := .lst ([oV B.x, oV B.y].filter notN)) hpm
        have l1 := l.same s1
        refine ⟨_, rfl, d, _, rfl, l1.p_bound _, ?_⟩
        have l2 := l1.upd_d { B with bnd := B.bnd } rfl rfl
        have mp : ∀ (H : Hp) (o : HO), Mv [d, lc] H (upd H d o) := fun H o => Mv.upd1.mono (fun c h z => h (by rw [List.mem_singleton.mp z]; exact List.mem_cons_self ..))
        refine ⟨_, rfl, d, _, rfl, l2.g_bound, _, rfl, d, _, rfl, l2.p_count _, ?_⟩
        have l3 := l2.upd_d { B with cnt := B.bnd } rfl rfl
        exact q _ ((s1.mv.trans (mp _ _)).trans (mp _ _)) l3
end
end Lw
namespace Lw
open PySem L2 L3
section
variable {P : Program} {w : World} {K : PySem.W.Frag} {mg : Str → Option Value} {base : Heap} {tk : Nat → Tok} {C : Addr} {x : Xa}
theorem okx_Button_turn_key (a : AtM K C "turn_key" "Button.turn_key" s_Button_turn_key ["self", "key"]) (T : Txt K mg tk) (U : BCx K C) (XC : X13 K mg x) : Mx P w K mg base C "turn_key" ["self", "key"] 1 (spBTurnX K C x) := by
  refine a.mx sc_Button_turn_key (fun vs H Q E h => ?_) (fun f cdv A outer s H vs Q E hr h => ?_)
  · obtain ⟨_, _, _, _, _, _, _, rfl, _⟩ := h
    rfl
  · obtain ⟨p, ta, ka, ce, kt, B, ks, rfl, b, hkt, tw, q⟩ := h
    refine ⟨_, (qss_cons (qs_if (qt_cmpR op_ge (qe_fld (qv 0)) (qe_op op_sub (qe_glob (v := .int 8) rfl T.g_AGES ⟨_, rfl⟩) qe_int) (nomark _)) (qss_one (qs_raise throws_cx1 rfl PySem.F.excBase_ValueError rfl XC.g_Worn XC.e_Worn (qac qe_str qa_nil) rfl)) qss_nil)
      (qss_cons (qs_fld (qv 0) (qe_callTy call_tupleQ (by rfl) T.b_tuple PyProof.Rows.boot_tuple (qac (qv 1) qa_nil)))
      (qss_one (qs_fldaug in_add (qv 0) qe_int)))), ?_⟩
    refine ⟨_, rfl, p, _, rfl, b.h_age U, _, _, rfl, rfl, _, _, rfl, rfl, _, rfl, ?_⟩
    by_cases h7 : B.age < 7
    case neg =>
      refine iteD (decide_eq_true (by show (8 : Int) - 1 ≤ B.age; omega)) ?_
      exact ⟨by show 1 ≤ sizeLine; decide, fun a ha => tw (by omega) _ a (Same.refl _) ha⟩
    refine iteE (decide_eq_false (by show ¬ (8 : Int) - 1 ≤ B.age; omega)) ?_
    refine ⟨_, rfl, kt, _, rfl, hkt, fun ka' H1 s1 hka => ?_⟩
    have b1 := b.same s1
    obtain ⟨dx, ep⟩ := b1.ob
    refine ⟨_, rfl, p, _, rfl, BtnAt.put U ep 2 _ rfl U.n_key, ?_⟩
    have v2 : Mv [p] H1 (upd H1 p (.ins C dx (bF { B with ks := ks } ta ka' ce))) := Mv.upd1
    have nt : NT [p] H1 := NT.one ep trivial
    have b2 : BtnAt K C (upd H1 p (.ins C dx (bF { B with ks := ks } ta ka' ce))) p ta ka' ce { B with ks := ks } := ⟨⟨dx, upd_same⟩, v2.sqt nt b1.tb, v2.sqt nt hka, by rw [upd_ne b1.ne.symm]; exact b1.cs⟩
    refine ⟨_, rfl, p, _, rfl, b2.h_age U, _, _, rfl, rfl, (fun _ e => e), _, BtnAt.put (B := { B with ks := ks }) U upd_same 3 _ rfl U.n_age, ?_⟩
    have nt3 : NT [p] (upd H1 p (.ins C dx (bF { B with ks := ks } ta ka' ce))) := NT.one upd_same trivial
    have v3 : Mv [p] (upd H1 p (.ins C dx (bF { B with ks := ks } ta ka' ce))) (upd (upd H1 p (.ins C dx (bF { B with ks := ks } ta ka' ce))) p (.ins C dx (bF { B with ks := ks, age := B.age + 1 } ta ka' ce))) := Mv.upd1
    exact q h7 ka' _ ((s1.mv.trans v2).trans v3) ⟨⟨dx, upd_same⟩, v3.sqt nt3 b2.tb, v3.sqt nt3 b2.ky, by rw [upd_ne b1.ne.symm]; exact b2.cs⟩
theorem ok_Button_age_now (a : AtM K C "age_now" "Button.age_now" s_Button_age_now ["self"]) (T : Txt K mg tk) (U : BCx K C) : Mf P w K mg base C "age_now" ["self"] 1 (spBAge K C) := by
  refine a.mq sc_Button_age_now (fun vs H Q E h => ?_) (fun f cdv A outer s H vs Q E hr h => ?_)
  · obtain ⟨_, _, _, _, _, rfl, _⟩ := h
    rfl
  · obtain ⟨p, ta, ka, ce, B, rfl, b, q⟩ := h
    refine ⟨_, (qss_one (qs_ret (qe_fld (qv 0)))), ?_⟩
    exact ⟨_, rfl, p, _, rfl, b.h_age U, q⟩
theorem ok_Button_cell_torn (a : AtM K C "cell_torn" "Button.cell_torn" s_Button_cell_torn ["self"]) (T : Txt K mg tk) (U : BCx K C) (D_Button_must_write : Mf P w K mg base C "must_write" ["self"] 2 (spBMust K C)) (D_Button_spare_cell : Mf P w K mg base C "spare_cell" ["self"] 1 (spBSpare K C)) (D_Button_cell_out : Mf P w K mg base C "cell_out" ["self"] 1 (spBOut K C)) : Mf P w K mg base C "cell_torn" ["self"] 3 (spBTorn K C) := by
  refine a.mq sc_Button_cell_torn (fun vs H Q E h => ?_) (fun f cdv A outer s H vs Q E hr h => ?_)
  · obtain ⟨_, _, _, _, _, rfl, _⟩ := h
    rfl
  · obtain ⟨p, ta, ka, ce, B, rfl, b, ok, q⟩ := h
    refine ⟨_, (qss_cons (qs_if (qt_val (qe_meth0 D_Button_must_write U.cl (hr.mono (by first | decide | omega)) (qv 0))) (qss_one (qs_asg qe_non (qg_sub (qe_fld (qv 0)) (qe_meth0 D_Button_spare_cell U.cl (hr.mono (by first | decide | omega)) (qv 0)) set_list))) qss_nil)
      (qss_one (qs_expr (qe_meth0 D_Button_cell_out U.cl (hr.mono (by first | decide | omega)) (qv 0))))), ?_⟩
    refine ⟨_, rfl, p, rfl, b.no, p, ta, ka, ce, B, rfl, b, _, rfl, ?_⟩
    unfold Bt.tn at q
    refine ite2 (fun z => ?_) (fun z => ?_)
    · rw [if_pos z] at q
      obtain ⟨dx, ep⟩ := b.ob
      have mc : ∀ o, Mv [p, ce] H (upd H ce o) := fun o => Mv.upd1.mono (fun c h z => h (by rw [List.mem_singleton.mp z]; exact List.mem_cons_of_mem _ (List.mem_cons_self ..)))
      by_cases e : B.x = some B.bnd
      · rw [if_pos e] at q
        have hsp : B.sp = 1 := by unfold Bt.sp; rw [if_pos e]
        refine ⟨_, rfl, p, _, rfl, b.h_cells U, _, rfl, p, rfl, b.no, p, ta, ka, ce, B, rfl, b, ce, _, _, 1, rfl, rfl, b.cs, by rw [hsp]; rfl, ?_⟩
        have b1 : BtnAt K C (upd H ce (.lst [oV B.x, .non])) p ta ka ce { B with y := none } := b.to (dx := dx) (mc _) rfl rfl (by rw [upd_ne b.ne]; exact ep) upd_same
        refine ⟨_, rfl, p, rfl, b1.no, p, ta, ka, ce, _, rfl, b1, ⟨ok.c0, ok.cb, ok.bm, ok.s1, .inl e, ok.hx, fun v q => by cases q⟩, fun H2 m2 b2 => q H2 ((mc _).trans m2) b2⟩
      · rw [if_neg e] at q
        have hsp : B.sp = 0 := by unfold Bt.sp; rw [if_neg e]
        refine ⟨_, rfl, p, _, rfl, b.h_cells U, _, rfl, p, rfl, b.no, p, ta, ka, ce, B, rfl, b, ce, _, _, 0, rfl, rfl, b.cs, by rw [hsp]; rfl, ?_⟩
        have b1 : BtnAt K C (upd H ce (.lst [.non, oV B.y])) p ta ka ce { B with x := none } := b.to (dx := dx) (mc _) rfl rfl (by rw [upd_ne b.ne]; exact ep) upd_same
        refine ⟨_, rfl, p, rfl, b1.no, p, ta, ka, ce, _, rfl, b1, ⟨ok.c0, ok.cb, ok.bm, ok.s1, .inr (ok.eq.resolve_left e), (fun v q => by cases q), ok.hy⟩, fun H2 m2 b2 => q H2 ((mc _).trans m2) b2⟩
    · rw [if_neg z] at q
      exact ⟨_, rfl, p, rfl, b.no, p, ta, ka, ce, _, rfl, b, ok, q⟩
theorem ok_law_torn (a : At K mg "_law_torn" s_law_torn ["_law_own"]) (T : Txt K mg tk) (D_law_out : Df P w K mg base "_law_out" ["_law_own"] 1 spOut) : Df P w K mg base "_law_torn" ["_law_own"] 2 spTorn := by
  refine a.dq sc_law_torn (fun vs H Q E h => ?_) (fun f cdv A outer s H vs Q E hr h => ?_)
  · obtain ⟨_, _, _, rfl, _⟩ := h
    rfl
  · obtain ⟨d, lc, B, rfl, l, ok, q⟩ := h
    refine ⟨_, (qss_cons (qs_if (QW.pt (qw_and (qt_cmpR op_eq (qe_dget hr (qv 0) qe_str) (qe_dget hr (qv 0) qe_str) (nomark _)) (qw_and1 (qt_cmpR op_lt (qe_dget hr (qv 0) qe_str) qe_int (nomark _))))) (qss_one (qs_asg qe_non (qg_sub (qe_dget hr (qv 0) qe_str) (qe_ifExp (qt_cmpR op_eq (qe_ix ix_list (qe_dget hr (qv 0) qe_str) qe_int (fun _ _ => rfl)) (qe_dget hr (qv 0) qe_str) (nomark _)) qe_int qe_int) set_list))) qss_nil)
      (qss_one (qs_expr (qe_def D_law_out (hr.mono (by first | decide | omega)) (qac (qv 0) qa_nil))))), ?_⟩
    unfold Bt.tn at q
    refine ⟨_, rfl, d, _, rfl, l.g_count, _, rfl, d, _, rfl, l.g_bound, rfl, _, rfl, ?_⟩
    have no : B.mw = false → (∀ H', Mv [d, lc] H H' → LawAt H' d lc B.ou → Q .non H') := fun z => by
      rw [if_neg (by rw [z]; intro y; cases y)] at q
      exact q
    refine ite2 (fun z => ?_) (fun z => ?_)
    · have e0 : B.cnt = B.bnd := by have := of_decide_eq_true z; injection this
      refine ⟨_, rfl, d, _, rfl, l.g_count, _, _, rfl, rfl, _, rfl, ?_⟩
      refine ite2 (fun y => ?_) (fun y => ?_)
      · have hlt : B.cnt < 4096 := of_decide_eq_true y
        have hm : B.mw = true := by unfold Bt.mw; rw [decide_eq_true e0, decide_eq_false (by omega : ¬ 4096 ≤ B.cnt)]; rfl
        rw [if_pos hm] at q
        have mc : ∀ o, Mv [d, lc] H (upd H lc o) := fun o => Mv.upd1.mono (fun c h z => h (by rw [List.mem_singleton.mp z]; exact List.mem_cons_of_mem _ (List.mem_cons_self ..)))
        have ndl : d ≠ lc := ne_of l.di l.cs (by intro z; cases z)
        refine ⟨_, rfl, d, _, rfl, l.g_cells, _, rfl, d, _, rfl, l.g_cells, lc, _, _, _, rfl, rfl, SqL.of l.cs, rfl, _, rfl, d, _, rfl, l.g_bound, oV_scal _ _, _, rfl, ?_⟩
        rw [oV_dec]
        by_cases e : B.x = some B.bnd
        · rw [if_pos e] at q
          refine iteD (decide_eq_true e) ?_
          refine ⟨lc, _, _, 1, rfl, rfl, l.cs, rfl, ?_⟩
          have l1 : LawAt (upd H lc (.lst [oV B.x, .non])) d lc { B with y := none } := ⟨by rw [upd_ne ndl]; exact l.di, upd_same⟩
          exact ⟨_, rfl, d, lc, _, rfl, l1, ⟨ok.c0, ok.cb, ok.bm, ok.s1, .inl e, ok.hx, fun v q => by cases q⟩, fun H2 m2 l2 => q H2 ((mc _).trans m2) l2⟩
        · rw [if_neg e] at q
          refine iteE (decide_eq_false e) ?_
          refine ⟨lc, _, _, 0, rfl, rfl, l.cs, rfl, ?_⟩
          have l1 : LawAt (upd H lc (.lst [.non, oV B.y])) d lc { B with x := none } := ⟨by rw [upd_ne ndl]; exact l.di, upd_same⟩
          exact ⟨_, rfl, d, lc, _, rfl, l1, ⟨ok.c0, ok.cb, ok.bm, ok.s1, .inr (ok.eq.resolve_left e), (fun v q => by cases q), ok.hy⟩, fun H2 m2 l2 => q H2 ((mc _).trans m2) l2⟩
      · have hlt : 4096 ≤ B.cnt := by have : ¬ B.cnt < 4096 := fun w => y (decide_eq_true w); omega
        exact ⟨_, rfl, d, lc, B, rfl, l, ok, no (by unfold Bt.mw; rw [decide_eq_true hlt]; simp)⟩
    · have e0 : ¬ B.cnt = B.bnd := fun e => z (decide_eq_true (by rw [e]))
      exact ⟨_, rfl, d, lc, B, rfl, l, ok, no (by unfold Bt.mw; rw [decide_eq_false e0]; rfl)⟩
end
end Lw
namespace Lw
open PySem L2 L3
section
variable {P : Program} {w : World} {K : PySem.W.Frag} {mg : Str → Option Value} {base : Heap} {tk : Nat → Tok} {C : Addr} {x : Xa}
theorem ok_law_refused (a : At K mg "_law_refused" s_law_refused ["_law_button", "_law_deed", "_law_given"]) (T : Txt K mg tk) (U : BCx K C) (XC : X13 K mg x) (X_Button_press_once : Mx P w K mg base C "press_once" ["self", "deed"] 4 (spBPressX K C x)) (X_Button_turn_key : Mx P w K mg base C "turn_key" ["self", "key"] 1 (spBTurnX K C x)) : Df P w K mg base "_law_refused" ["_law_button", "_law_deed", "_law_given"] 5 (spRefused K C) := by
  refine a.dq sc_law_refused (fun vs H Q E h => ?_) (fun f cdv A outer s H vs Q E hr h => ?_)
  · rcases h with ⟨_, _, _, rfl, _⟩ | ⟨_, _, _, _, rfl, _⟩ <;> rfl
  · obtain ⟨p, dd, gv, rfl⟩ : ∃ (p : Addr) (dd : Str) (gv : V), vs = [.ref p, .str dd, gv] := by
      rcases h with ⟨_, _, _, rfl, _⟩ | ⟨_, _, _, _, rfl, _⟩ <;> exact ⟨_, _, _, rfl⟩
    refine ⟨_, (qss_cons (qs_set (i := 3) sc_law_refused.nd rfl (Or.inl rfl) qe_str)
      (qss_cons (qs_try (qx_if (qt_cmpR op_eq (qv 1) qe_str (nomark _)) (qx_methE X_Button_turn_key U.cl (hr.mono (by first | decide | omega)) (qv 0) (qac (qv 2) qa_nil)) (qx_methE X_Button_press_once U.cl (hr.mono (by first | decide | omega)) (qv 0) (qac (qv 2) qa_nil))) (fun _ => (qss_cons (qs_set (i := 5) sc_law_refused.nd rfl (Or.inl rfl) (qe_callB (call_isiXTK (K := K) rfl) (by rfl) T.b_isinstance PyProof.Rows.boot_isinstance (qac (qv 4) (qac (qe_tup (qac (qe_glob (v := .ref x.k) rfl XC.g_Known rfl) (qac (qe_glob (v := .ref x.f) rfl XC.g_Full rfl) (qac (qe_glob (v := .ref x.u) rfl XC.g_Unknown rfl) (qac (qe_glob (v := .ref x.t) rfl XC.g_TooMany rfl) (qac (qe_glob (v := .ref x.b) rfl XC.g_BadPress rfl) (qac (qe_glob (v := .ref x.l) rfl XC.g_BadLog rfl) (qac (qe_glob (v := .ref x.r) rfl XC.g_BadRow rfl) qa_nil)))))))) qa_nil))))
      (qss_cons (qs_set (i := 3) sc_law_refused.nd rfl (Or.inl rfl) qe_str)
      (qss_one (qs_if (QW.pt (qw_and (qt_val (qe_callB (call_isiXK (K := K) rfl) (by rfl) T.b_isinstance PyProof.Rows.boot_isinstance (qac (qv 4) (qac (qe_glob (v := .ref x.w) rfl XC.g_Worn rfl) qa_nil)))) (qw_and (qt_val (qe_callB (call_isiXK (K := K) rfl) (by rfl) T.b_isinstance PyProof.Rows.boot_isinstance (qac (qv 4) (qac (qe_bltn (v := .ty "ValueError") rfl XC.b_ValueError (by decide +kernel) rfl) qa_nil)))) (qw_and1 (qt_not (qt_val (qv 5))))))) (qss_one (qs_set (i := 3) sc_law_refused.nd rfl (Or.inl rfl) qe_str)) qss_nil))))) rfl rfl rfl XC.g_CodeError XC.e_CodeError rfl sc_law_refused.nd (i := 4) rfl rfl)
      (qss_one (qs_ret (qv 3))))), ?_⟩
    refine asgC ?_
    have hkw : PySem.W.kitOne K (.ref x.w) (.ref x.w) = some true := by have := XC.o_Worn.i x.w (by simp [Xa.all]); rwa [decide_eq_true rfl] at this
    refine try_key2 (fun σ' H' => ∃ (wd : Str) (o4 o5 : Option V), σ' = [some (.ref p), some (.str dd), some gv, some (.str wd), o4, o5] ∧ Q (.str wd) H') (fun σ' e H' => σ' = [some (.ref p), some (.str dd), some gv, some (.str ""), none, none] ∧ H' e = some (ExcO e (.ref x.w)) ∧ ∀ H'', Same H' H'' → Q (.str "Worn") H'') (fun D' EX hD hE => ?_) ?_ ?_
    · rcases h with ⟨o, B, d, e0, on, hd, hc, q⟩ | ⟨o, B, kt, ks, e0, on, hkt, q1, q2⟩
      · injection e0 with e1 e0
        injection e0 with e2 e0
        injection e0 with e3 e0
        cases e1
        cases e2
        cases e3
        refine ⟨_, rfl, rfl, _, rfl, iteF ?_⟩
        refine ⟨_, rfl, o.p, rfl, on.bt.no, _, rfl, o.p, o.ta, o.ka, o.ce, B, d, rfl, on.bt, on.nm, on.tl, on.ok.c0, hd, fun _ H1 e s1 he => ?_, fun z => absurd z (by omega)⟩
        exact ⟨e, rfl, hE _ _ _ ⟨rfl, upd_same, fun H'' s2 => q _ ((s1.trans (Same.upd he)).trans s2)⟩⟩
      · injection e0 with e1 e0
        injection e0 with e2 e0
        injection e0 with e3 e0
        cases e1
        cases e2
        cases e3
        refine ⟨_, rfl, rfl, _, rfl, iteT ?_⟩
        refine ⟨_, rfl, o.p, rfl, on.bt.no, _, rfl, o.p, o.ta, o.ka, o.ce, kt, B, ks, rfl, on.bt, Sq.lst hkt, fun z H1 e s1 he => ?_, fun z ka' H1 m1 b1 => ?_⟩
        · exact ⟨e, rfl, hE _ _ _ ⟨rfl, upd_same, fun H'' s2 => q1 z _ ((s1.trans (Same.upd he)).trans s2)⟩⟩
        · obtain ⟨a1, a2, a3, a4, a5, a6⟩ := on.apart
          obtain ⟨dx, ep⟩ := on.bt.ob
          exact hD _ _ ⟨_, _, _, rfl, q2 z ka' H1 m1 ⟨b1, (on.la.mv m1 (nin1 a1) (nin1 a3)).eqv rfl rfl rfl rfl rfl, on.nm, on.tl, ⟨on.ok.c0, on.ok.cb, on.ok.bm, on.ok.s1, on.ok.eq, on.ok.hx, on.ok.hy⟩, on.ne⟩⟩
    · rintro D' σ' e H' hD ⟨rfl, he, q⟩
      refine ⟨fun cls hc => ?_, ?_⟩
      · rw [he] at hc
        rw [← ExcO.inj (Option.some.inj hc)]
        exact XC.sub
      refine ⟨_, rfl, by show 7 ≤ sizeLine; decide, fun tp htp => ?_⟩
      have u1 := Same.upd (o := .tup [.ref x.k, .ref x.f, .ref x.u, .ref x.t, .ref x.b, .ref x.l, .ref x.r]) htp
      have he1 := u1 _ _ he
      have nd := XC.nd
      refine ⟨e, x.w, tp, [x.k, x.f, x.u, x.t, x.b, x.l, x.r], false, rfl, he1, XC.o_Worn.c, upd_same, kit_none (fun D hD => XC.o_Worn.i D ?_) ?_, ?_⟩
      · simp only [List.mem_cons, List.not_mem_nil, or_false] at hD
        rcases hD with rfl | rfl | rfl | rfl | rfl | rfl | rfl <;> simp [Xa.all]
      · simp only [Xa.all, List.nodup_cons, List.mem_cons, List.not_mem_nil, or_false, not_or] at nd
        simp only [List.mem_cons, List.not_mem_nil, or_false, not_or]
        obtain ⟨n1, n2, n3, n4, n5, n6, n7, _⟩ := nd
        exact ⟨fun z => n2.2.2.2.1 z.symm, fun z => n3.2.2.1 z.symm, fun z => n4.2.1 z.symm, fun z => n5.1 z.symm, fun z => n1.2.2.2.2.1 z.symm, n6.1, n6.2⟩
      refine asgC ?_
      refine ⟨_, rfl, e, x.w, _, _, true, rfl, he1, XC.o_Worn.c, .inl ⟨_, rfl, rfl⟩, hkw, _, rfl, iteT ?_⟩
      refine ⟨_, rfl, e, x.w, _, _, true, rfl, he1, XC.o_Worn.c, .inr ⟨_, rfl, rfl⟩, XC.o_Worn.v, _, rfl, iteT ?_⟩
      refine ⟨_, rfl, _, rfl, iteT ?_⟩
      exact hD _ _ ⟨_, _, _, rfl, q _ u1⟩
    · rintro σ' H' ⟨wd, o4, o5, rfl, q⟩
      exact ⟨_, rfl, q⟩
theorem ok_law_stands (a : At K mg "_law_stands" s_law_stands ["_law_button", "_law_own", "_law_age"]) (T : Txt K mg tk) (U : BCx K C) (D_Button_cells_now : Mf P w K mg base C "cells_now" ["self"] 1 (spBCells K C)) (D_Button_count_now : Mf P w K mg base C "count_now" ["self"] 1 (spBCount K C)) (D_Button_age_now : Mf P w K mg base C "age_now" ["self"] 1 (spBAge K C)) (D_all : ∀ n : Nat, n ≤ 8 → Df P w K mg base "_law_alike" ["_law_found", "_law_due"] (n + 1) (spAl n)) : Df P w K mg base "_law_stands" ["_law_button", "_law_own", "_law_age"] 4 (spStands K C) := by
  have D_law_alike := D_all 2 (by decide)
  refine a.dq sc_law_stands (fun vs H Q E h => ?_) (fun f cdv A outer s H vs Q E hr h => ?_)
  · obtain ⟨_, _, rfl, _⟩ := h
    rfl
  · obtain ⟨o, B, rfl, on, q⟩ := h
    refine ⟨_, (qss_cons (qs_set (i := 3) sc_law_stands.nd rfl (Or.inl rfl) (qe_lst (qac (qe_meth0 D_Button_cells_now U.cl (hr.mono (by first | decide | omega)) (qv 0)) (qac (qe_meth0 D_Button_count_now U.cl (hr.mono (by first | decide | omega)) (qv 0)) (qac (qe_meth0 D_Button_age_now U.cl (hr.mono (by first | decide | omega)) (qv 0)) qa_nil)))))
      (qss_one (qs_ret (qe_def D_law_alike (hr.mono (by first | decide | omega)) (qac (qv 3) (qac (qe_lst (qac (qe_callTy call_tuple_of (by rfl) T.b_tuple PyProof.Rows.boot_tuple (qac (qe_dget hr (qv 1) qe_str) qa_nil)) (qac (qe_dget hr (qv 1) qe_str) (qac (qv 2) qa_nil)))) qa_nil)))))), ?_⟩
    refine ⟨_, rfl, o.p, rfl, on.bt.no, o.p, o.ta, o.ka, o.ce, B, rfl, on.bt, fun t1 H1 s1 ht1 => ?_⟩
    have on1 := on.same s1
    refine ⟨_, rfl, o.p, rfl, on1.bt.no, o.p, o.ta, o.ka, o.ce, B, rfl, on1.bt, _, rfl, o.p, rfl, on1.bt.no, o.p, o.ta, o.ka, o.ce, B, rfl, on1.bt, by show 3 ≤ sizeLine; decide, fun l1 hl1 => ?_⟩
    have v1 := Same.upd (o := .lst [.ref t1, .int B.cnt, .int B.age]) hl1
    have on2 := on1.same v1
    refine ⟨_, rfl, _, rfl, o.d, _, rfl, on2.la.g_cells, o.lc, _, rfl, .inl ⟨SqL.of on2.la.cs, fun t2 ht2 => ?_⟩⟩
    have v2 := Same.upd (o := .tup [oV B.x, oV B.y]) ht2
    have on3 := on2.same v2
    refine ⟨_, rfl, o.d, _, rfl, on3.la.g_count, _, rfl, by show 3 ≤ sizeLine; decide, fun l2 hl2 => ?_⟩
    have v3 := Same.upd (o := .lst [.ref t2, .int B.cnt, .int B.age]) hl2
    exact ⟨_, _, rfl, Eqw.l3 (v3 _ _ (v2 _ _ upd_same)) upd_same (Eqw.two (.inl (v3 _ _ (v2 _ _ (v1 _ _ ht1)))) (.inl (v3 _ _ upd_same)) (Eqw.cell (n := 0) _) (Eqw.cell _)) (.int _ _) (.int _ _), fun H' s' => q _ ((((s1.trans v1).trans v2).trans v3).trans s')⟩
theorem ok_law_lost (a : At K mg "_law_lost" s_law_lost ["_law_button", "_law_own", "_law_torn_here"]) (T : Txt K mg tk) (U : BCx K C) (D_law_torn : Df P w K mg base "_law_torn" ["_law_own"] 2 spTorn) (D_law_out : Df P w K mg base "_law_out" ["_law_own"] 1 spOut) (D_Button_cell_torn : Mf P w K mg base C "cell_torn" ["self"] 3 (spBTorn K C)) (D_Button_cell_out : Mf P w K mg base C "cell_out" ["self"] 1 (spBOut K C)) : Df P w K mg base "_law_lost" ["_law_button", "_law_own", "_law_torn_here"] 4 (spLost K C) := by
  refine a.dq sc_law_lost (fun vs H Q E h => ?_) (fun f cdv A outer s H vs Q E hr h => ?_)
  · obtain ⟨_, _, _, rfl, _⟩ := h
    rfl
  · obtain ⟨o, B, b, rfl, on, q⟩ := h
    refine ⟨_, (qss_one (qs_if (qt_val (qv 2)) (qss_cons (qs_expr (qe_def D_law_torn (hr.mono (by first | decide | omega)) (qac (qv 1) qa_nil)))
      (qss_one (qs_expr (qe_meth0 D_Button_cell_torn U.cl (hr.mono (by first | decide | omega)) (qv 0))))) (qss_cons (qs_expr (qe_def D_law_out (hr.mono (by first | decide | omega)) (qac (qv 1) qa_nil)))
      (qss_one (qs_expr (qe_meth0 D_Button_cell_out U.cl (hr.mono (by first | decide | omega)) (qv 0))))))), ?_⟩
    refine ⟨_, rfl, _, rfl, ?_⟩
    refine ite2 (fun z => ?_) (fun z => ?_)
    · rw [if_pos z] at q
      refine ⟨_, rfl, o.d, o.lc, B, rfl, on.la, on.ok, fun H1 m1 l1 => ?_⟩
      have b1 := on.btn m1
      exact ⟨_, rfl, o.p, rfl, b1.no, o.p, o.ta, o.ka, o.ce, B, rfl, b1, on.ok, fun H2 m2 b2 => q _ (m1.o3d.trans m2.o3p) (on.two m1 l1 m2 b2 (tn_nm B) (tn_t B) on.ok.tn)⟩
    · rw [if_neg z] at q
      refine ⟨_, rfl, o.d, o.lc, B, rfl, on.la, on.ok, fun H1 m1 l1 => ?_⟩
      have b1 := on.btn m1
      exact ⟨_, rfl, o.p, rfl, b1.no, o.p, o.ta, o.ka, o.ce, B, rfl, b1, on.ok, fun H2 m2 b2 => q _ (m1.o3d.trans m2.o3p) (on.two m1 l1 m2 b2 rfl rfl on.ok.ou)⟩
end
end Lw
namespace Lw
open PySem L2 L3
section
variable {P : Program} {w : World} {K : PySem.W.Frag} {mg : Str → Option Value} {base : Heap} {tk : Nat → Tok} {C : Addr}
theorem ok_law_worn (a : At K mg "_law_worn" s_law_worn ["_law_box_here", "_law_button", "_law_own", "_law_age"]) (T : Txt K mg tk) (U : BCx K C) (D_law_take : Df P w K mg base "_law_take" ["_law_box_here", "_law_many"] 1 spTake2) (D_law_pressed : Df P w K mg base "_law_pressed" ["_law_own"] 1 spPressedX) (D_Button_press_once : Mf P w K mg base C "press_once" ["self", "deed"] 4 (spBPress K C)) (D_law_lost : Df P w K mg base "_law_lost" ["_law_button", "_law_own", "_law_torn_here"] 4 (spLost K C)) (D_law_stands : Df P w K mg base "_law_stands" ["_law_button", "_law_own", "_law_age"] 4 (spStands K C)) (D_law_refused : Df P w K mg base "_law_refused" ["_law_button", "_law_deed", "_law_given"] 5 (spRefused K C)) : Df P w K mg base "_law_worn" ["_law_box_here", "_law_button", "_law_own", "_law_age"] 6 (spWornL K C) := by
  refine a.dq sc_law_worn (fun vs H Q E h => ?_) (fun f cdv A outer s H vs Q E hr h => ?_)
  · obtain ⟨_, _, _, _, rfl, _⟩ := h
    rfl
  · obtain ⟨bx, n, o, B, rfl, hb, hn, on, q⟩ := h
    refine ⟨_, (qss_cons (qs_while PassesOwn.never (qt_cmpR op_lt (qe_dget hr (qv 2) qe_str) qe_int (nomark _))
      (qss_cons (qs_for PassesOwn.never rfl (qi_range1 rfl T.b_range (qac (qe_op op_add qe_int (qe_def D_law_take (hr.mono (by first | decide | omega)) (qac (qv 0) (qac qe_int qa_nil)))) qa_nil)) (qg_name (i := 4) sc_law_worn.nd rfl (Or.inl rfl))
      (qss_one (qs_if (qt_cmpR op_notN (qe_def D_law_pressed (hr.mono (by first | decide | omega)) (qac (qv 2) qa_nil)) qe_non (nomark _)) (qss_one (qs_expr (qe_meth D_Button_press_once U.cl (hr.mono (by first | decide | omega)) (qv 1) (qac (qe_def D_law_take (hr.mono (by first | decide | omega)) (qac (qv 0) (qac qe_int qa_nil))) qa_nil)))) qss_nil)))
      (qss_cons (qs_expr (qe_def D_law_lost (hr.mono (by first | decide | omega)) (qac (qv 1) (qac (qv 2) (qac (qe_cmpR op_eq (qe_def D_law_take (hr.mono (by first | decide | omega)) (qac (qv 0) (qac qe_int qa_nil))) qe_int (nomark _)) qa_nil)))))
      (qss_one (qs_if (qt_not (qt_val (qe_def D_law_stands (hr.mono (by first | decide | omega)) (qac (qv 1) (qac (qv 2) (qac (qv 3) qa_nil)))))) (qss_one (qs_ret qe_bl)) qss_nil)))))
      (qss_cons (qs_for PassesOwn.never rfl (qi_range1 rfl T.b_range (qac qe_int qa_nil)) (qg_name (i := 4) sc_law_worn.nd rfl (Or.inl rfl))
      (qss_cons (qs_if (qt_cmpR op_ne (qe_def D_law_refused (hr.mono (by first | decide | omega)) (qac (qv 1) (qac qe_str (qac (qe_def D_law_take (hr.mono (by first | decide | omega)) (qac (qv 0) (qac qe_int qa_nil))) qa_nil)))) qe_str (nomark _)) (qss_one (qs_ret qe_bl)) qss_nil)
      (qss_cons (qs_if (qt_not (qt_val (qe_def D_law_stands (hr.mono (by first | decide | omega)) (qac (qv 1) (qac (qv 2) (qac (qv 3) qa_nil)))))) (qss_one (qs_ret qe_bl)) qss_nil)
      (qss_one (qs_expr (qe_def D_law_lost (hr.mono (by first | decide | omega)) (qac (qv 1) (qac (qv 2) (qac (qe_cmpR op_eq (qe_def D_law_take (hr.mono (by first | decide | omega)) (qac (qv 0) (qac qe_int qa_nil))) qe_int (nomark _)) qa_nil)))))))))
      (qss_one (qs_ret (qe_def D_law_stands (hr.mono (by first | decide | omega)) (qac (qv 1) (qac (qv 2) (qac (qv 3) qa_nil)))))))), ?_⟩
    have mb : ∀ {n1 : Nat} {H1 H2 : Hp}, GrC bx n1 H1 H2 → Mv (bx :: o.as) H1 H2 := fun g => g.mv.mono fun c h z => h (by rw [List.mem_singleton.mp z]; exact List.mem_cons_self ..)
    have mo : ∀ {H1 H2 : Hp}, Mv o.as H1 H2 → Mv (bx :: o.as) H1 H2 := fun m => m.mono fun c h z => h (List.mem_cons_of_mem _ z)
    refine ⟨fun m σ Hx => ∃ (n' : Nat) (B' : Bt) (o4 : Option V), m = (4096 - B'.cnt).toNat ∧ BoxC Hx bx n' ∧ n' ≤ n + 8 * B'.cnt.toNat ∧ On3 K C Hx o B' ∧ B'.age = B.age ∧ Mv (bx :: o.as) H Hx ∧ σ = [some (.ref bx), some (.ref o.p), some (.ref o.d), some (.int B.age), o4], ⟨_, n, B, _, rfl, hb, by omega, on, rfl, Mv.refl, rfl⟩, ?_⟩
    rintro m σ Hx ⟨n', B', o4, rfl, bx', hn', on', ha, M, rfl⟩
    have okB := on'.ok
    obtain ⟨c0, cb, bm, s1, _⟩ := id okB
    refine ⟨_, rfl, o.d, _, rfl, on'.la.g_count, _, _, rfl, rfl, _, rfl, ?_⟩
    refine ite2 (fun z => ?_) (fun z => ?_)
    · have hlt : B'.cnt < 4096 := of_decide_eq_true z
      refine ⟨fun σ' H' => ∃ (n'' : Nat) (B'' : Bt) (o4 : Option V), B'.cnt < B''.cnt ∧ BoxC H' bx n'' ∧ n'' ≤ n' + 8 ∧ On3 K C H' o B'' ∧ B''.age = B.age ∧ Mv (bx :: o.as) H H' ∧ σ' = [some (.ref bx), some (.ref o.p), some (.ref o.d), some (.int B.age), o4], ?_, ?_⟩
      · rintro σ' H' ⟨n'', B'', o4', h1, h2, h3, h4, h5, h6, rfl⟩
        have := h4.ok.cb
        have := h4.ok.bm
        exact ⟨(4096 - B''.cnt).toNat, by omega, n'', B'', o4', rfl, h2, by omega, h4, h5, h6, rfl⟩
      · refine ⟨_, rfl, bx, _, _, rfl, bx', by omega, by decide, by decide, fun r H1 r0 r1 g1 => ⟨_, _, rfl, rfl, _, rfl, by omega, by omega, ?_⟩⟩
        have on1 := on'.grc bx' g1
        have M1 := M.trans (mb g1)
        have hrn : (1 + r).toNat ≤ 2 ∧ 1 ≤ (1 + r).toNat := by omega
        generalize (1 + r).toNat = rn at hrn
        refine for_range (n := rn) (Pv := fun i σ Hx => ∃ (n'' : Nat) (B'' : Bt) (o4 : Option V), B'.cnt ≤ B''.cnt ∧ (1 ≤ i → B'.cnt < B''.cnt) ∧ BoxC Hx bx n'' ∧ n'' ≤ n' + 1 + i ∧ On3 K C Hx o B'' ∧ B''.age = B.age ∧ Mv (bx :: o.as) H Hx ∧ σ = [some (.ref bx), some (.ref o.p), some (.ref o.d), some (.int B.age), o4]) ⟨_, B', _, Int.le_refl _, fun z => absurd z (by decide), g1.bx, by omega, on1, ha, M1, rfl⟩ ?_ ?_
        · rintro i σ Hy hi ⟨n'', B'', o4', h1, h1', h2, h3, h4, h5, h6, rfl⟩
          have ok2 := h4.ok
          obtain ⟨c02, cb2, bm2, _⟩ := id ok2
          refine ⟨_, rfl, o.d, o.lc, B'', rfl, h4.la, by omega, fun hl2 H2 m2 l2 => ?_, fun he2 => ?_⟩
          · refine ⟨rfl, _, rfl, iteT ?_⟩
            have b2 := h4.btn m2
            have nb2 := h4.nbx h2
            have bx2 := h2.o3 m2.o3d nb2
            have nbx : ∀ c ∈ o.as, c ∉ [bx] := fun c hc z => nb2 (List.mem_singleton.mp z ▸ hc)
            obtain ⟨a1, a2, a3, a4, a5, a6⟩ := h4.apart
            refine ⟨_, rfl, o.p, rfl, b2.no, _, rfl, bx, _, _, rfl, bx2, by omega, by decide, by decide, fun d H3 d0 d1 g3 => ?_⟩
            obtain ⟨_, _, _, eb, _⟩ := id bx2
            have ntb : NT [bx] H2 := NT.one eb trivial
            have b3 := b2.mv g3.mv ntb (nbx _ (by simp [O3.as])) (nbx _ (by simp [O3.as]))
            have l3 := l2.mv g3.mv (nbx _ (by simp [O3.as])) (nbx _ (by simp [O3.as]))
            refine ⟨o.p, o.ta, o.ka, o.ce, B'', d, rfl, b3, h4.nm, h4.tl, c02, hl2, ⟨d0, d1⟩, fun q1 pc H4 m4 b4 _ _ => ?_⟩
            have on4 : On3 K C H4 o B''.pr := ⟨b4, l3.mv m4 (nin2 a1 a2) (nin2 a3 a4), by rw [pr_nm]; exact h4.nm, by rw [pr_t]; exact h4.tl, ok2.pr hl2, h4.ne⟩
            exact ⟨_, B''.pr, _, by rw [pr_cnt]; omega, fun _ => by rw [pr_cnt]; omega, g3.bx.o3 m4.o3p nb2, by omega, on4, by rw [pr_age]; exact h5, ((h6.trans (mo m2.o3d)).trans (mb g3)).trans (mo m4.o3p), rfl⟩
          · refine ⟨rfl, _, rfl, iteF ?_⟩
            exact ⟨_, B'', _, h1, fun _ => by omega, h2, by omega, h4, h5, h6, rfl⟩
        · rintro σ Hy ⟨n'', B'', o4', h1, h1', h2, h3, h4, h5, h6, rfl⟩
          have h1 := h1' hrn.2
          refine ⟨_, rfl, _, rfl, _, rfl, bx, _, _, rfl, h2, by omega, by decide, by decide, fun r5 H6 _ _ g6 => ⟨rfl, o, B'', _, rfl, h4.grc h2 g6, fun H7 m7 on7 => ?_⟩⟩
          have nb6 := (h4.grc h2 g6).nbx g6.bx
          have bx7 := g6.bx.o3 m7 nb6
          have M7 := (h6.trans (mb g6)).trans (mo m7)
          obtain ⟨B7, hB7⟩ : ∃ B7 : Bt, B7 = if decide (V.int r5 = V.int 0) = true then B''.tn else B''.ou := ⟨_, rfl⟩
          rw [← hB7] at on7
          have hc7 : B7.cnt = B''.bnd ∧ B7.age = B''.age := by
            rw [hB7]
            split
            · exact ⟨tn_cnt _, tn_age _⟩
            · exact ⟨rfl, rfl⟩
          have ha7 : B7.age = B.age := hc7.2.trans h5
          have cb7 := h4.ok.cb
          refine ⟨_, rfl, _, rfl, _, rfl, o, B7, by rw [ha7]; rfl, on7, fun H8 s8 => ⟨_, rfl, iteF ?_⟩⟩
          exact ⟨_, B7, _, by omega, (s8.grc bx7).bx, by omega, on7.same s8, ha7, M7.trans s8.mv, rfl⟩
    · have hge : B'.cnt = 4096 := by have : ¬ B'.cnt < 4096 := fun y => z (decide_eq_true y); omega
      refine ⟨4, rfl, by decide, by decide, for_range (n := 4) (Pv := fun i σ Hx => ∃ (n'' : Nat) (B'' : Bt) (o4 : Option V), B''.cnt = 4096 ∧ BoxC Hx bx n'' ∧ n'' ≤ n' + 3 * i ∧ On3 K C Hx o B'' ∧ B''.age = B.age ∧ Mv (bx :: o.as) H Hx ∧ σ = [some (.ref bx), some (.ref o.p), some (.ref o.d), some (.int B.age), o4]) ⟨_, B', _, hge, bx', by omega, on', ha, M, rfl⟩ ?_ ?_⟩
      · rintro i σ Hy hi ⟨n'', B'', o4', h1, h2, h3, h4, h5, h6, rfl⟩
        refine ⟨_, rfl, _, rfl, bx, _, _, rfl, h2, by omega, by decide, by decide, fun d H1 d0 d1 g1 => .inl ⟨o, B'', d, rfl, h4.grc h2 g1, ⟨d0, d1⟩, h1, fun H2 s2 => ⟨rfl, _, rfl, iteE neq_self ?_⟩⟩⟩
        have on2 := (h4.grc h2 g1).same s2
        have bx2 := (s2.grc g1.bx).bx
        refine ⟨_, rfl, _, rfl, _, rfl, o, B'', by rw [h5]; rfl, on2, fun H3 s3 => ⟨_, rfl, iteF ?_⟩⟩
        have on3 := on2.same s3
        have bx3 := (s3.grc bx2).bx
        refine ⟨_, rfl, _, rfl, _, rfl, bx, _, _, rfl, bx3, by omega, by decide, by decide, fun r5 H6 _ _ g6 => ⟨rfl, o, B'', _, rfl, on3.grc bx3 g6, fun H7 m7 on7 => ?_⟩⟩
        have nb6 := (on3.grc bx3 g6).nbx g6.bx
        have bx7 := g6.bx.o3 m7 nb6
        have M7 := ((((h6.trans (mb g1)).trans s2.mv).trans s3.mv).trans (mb g6)).trans (mo m7)
        obtain ⟨B7, hB7⟩ : ∃ B7 : Bt, B7 = if decide (V.int r5 = V.int 0) = true then B''.tn else B''.ou := ⟨_, rfl⟩
        rw [← hB7] at on7
        have hc7 : B7.cnt = B''.bnd ∧ B7.age = B''.age := by
          rw [hB7]
          split
          · exact ⟨tn_cnt _, tn_age _⟩
          · exact ⟨rfl, rfl⟩
        have cb7 := h4.ok.cb
        have bm7 := h4.ok.bm
        exact ⟨_, B7, _, by omega, bx7, by omega, on7, hc7.2.trans h5, M7, rfl⟩
      · rintro σ Hy ⟨n'', B'', o4', h1, h2, h3, h4, h5, h6, rfl⟩
        exact ⟨_, rfl, _, rfl, _, rfl, o, B'', by rw [h5]; rfl, h4, fun H3 s3 => q _ (h6.trans s3.mv)⟩
end
end Lw
namespace Lw
open PySem L2 L3
section
variable {P : Program} {w : World} {K : PySem.W.Frag} {mg : Str → Option Value} {base : Heap} {tk : Nat → Tok} {C : Addr}
theorem ok_law {f : Addr} {fd : FuncData} (F : Fun K "law" "law" s_law f fd) (T : Txt K mg tk) (U : BCx K C) (I_Button : Mi P w K mg base C "Button" ["self", "name", "table", "key", "age", "step"] 1 (spBInit K C))
    (D_Button_press_once : Mf P w K mg base C "press_once" ["self", "deed"] 4 (spBPress K C)) (D_press_of : Df P w K mg base "press_of" ["table", "key", "name", "age", "count", "deed"] 3 (spPress K)) (D_law_box : Df P w K mg base "_law_box" ["_law_script", "_law_k"] 1 (spBox2 K)) (D_law_take : Df P w K mg base "_law_take" ["_law_box_here", "_law_many"] 1 spTake2)
    (D_law_table : Df P w K mg base "_law_table" ["_law_box_here"] 2 spTable2) (D_law_key : Df P w K mg base "_law_key" ["_law_box_here"] 2 spKeyT2) (D_law_name : Df P w K mg base "_law_name" ["_law_box_here"] 2 spName2)
    (D_law_begun : Df P w K mg base "_law_begun" ["_law_step"] 1 spBegun) (D_law_pressed : Df P w K mg base "_law_pressed" ["_law_own"] 1 spPressedX) (D_all : ∀ n : Nat, n ≤ 8 → Df P w K mg base "_law_alike" ["_law_found", "_law_due"] (n + 1) (spAl n))
    (D_law_refused : Df P w K mg base "_law_refused" ["_law_button", "_law_deed", "_law_given"] 5 (spRefused K C)) (D_law_stands : Df P w K mg base "_law_stands" ["_law_button", "_law_own", "_law_age"] 4 (spStands K C)) (D_law_worn : Df P w K mg base "_law_worn" ["_law_box_here", "_law_button", "_law_own", "_law_age"] 6 (spWornL K C)) : FnOk P w K mg base CX0 8 f fd ["_law_script"] (spLaw K) := by
  have D_law_alike := D_all 2 (by decide)
  refine F.dq sc_law (fun vs H Q E h => ?_) (fun cdv A outer s H vs Q E hr h => ?_)
  · obtain ⟨x, ns, rfl, _⟩ := h
    rfl
  · obtain ⟨sc, ns, rfl, hS, hlen, q⟩ := h
    refine ⟨_, (qss_cons (qs_for PassesOwn.never rfl (qi_range1 rfl T.b_range (qac (qe_op op_add qe_int (qe_callB call_len_seq (by rfl) T.b_len PySem.boot_len (qac (qe_slice sl_list (qv 0) qo_none (qo_some qe_int)) qa_nil))) qa_nil)) (qg_name (i := 1) sc_law.nd rfl (Or.inl rfl))
      (qss_cons (qs_set (i := 2) sc_law.nd rfl (Or.inl rfl) (qe_def D_law_box (hr.mono (by first | decide | omega)) (qac (qv 0) (qac (qv 1) qa_nil))))
      (qss_cons (qs_par (i := 3) (j := 4) rfl sc_law.nd rfl rfl (by decide) rfl rfl (qac (qe_def D_law_name (hr.mono (by first | decide | omega)) (qac (qv 2) qa_nil)) (qac (qe_def D_law_table (hr.mono (by first | decide | omega)) (qac (qv 2) qa_nil)) qa_nil)))
      (qss_cons (qs_par (i := 5) (j := 6) rfl sc_law.nd rfl rfl (by decide) rfl rfl (qac (qe_def D_law_key (hr.mono (by first | decide | omega)) (qac (qv 2) qa_nil)) (qac (qe_def D_law_take (hr.mono (by first | decide | omega)) (qac (qv 2) (qac qe_int qa_nil))) qa_nil)))
      (qss_cons (qs_set (i := 7) sc_law.nd rfl (Or.inl rfl) (qe_ix ix_list (qe_lst (qac qe_int (qac qe_int (qac qe_int (qac (qe_op op_add qe_int (qe_def D_law_take (hr.mono (by first | decide | omega)) (qac (qv 2) (qac qe_int qa_nil)))) qa_nil))))) (qe_def D_law_take (hr.mono (by first | decide | omega)) (qac (qv 2) (qac qe_int qa_nil))) (fun _ _ => rfl)))
      (qss_cons (qs_set (i := 8) sc_law.nd rfl (Or.inl rfl) (qe_make I_Button (hr.mono (by first | decide | omega)) (qac (qv 3) (qac (qv 4) (qac (qv 5) (qac (qv 6) (qac (qv 7) qa_nil)))))))
      (qss_cons (qs_set (i := 9) sc_law.nd rfl (Or.inl rfl) (qe_def D_law_begun (hr.mono (by first | decide | omega)) (qac (qv 7) qa_nil)))
      (qss_cons (qs_for PassesOwn.never rfl (qi_range1 rfl T.b_range (qac qe_int qa_nil)) (qg_name (i := 10) sc_law.nd rfl (Or.inl rfl))
      (qss_cons (qs_if (qt_cmpR op_eq (qe_def D_law_take (hr.mono (by first | decide | omega)) (qac (qv 2) (qac qe_int qa_nil))) qe_int (nomark _)) (qss_cons (qs_set (i := 11) sc_law.nd rfl (Or.inl rfl) (qe_callTy call_list_of (by rfl) T.b_list PyProof.Rows.boot_list (qac (qe_def D_law_key (hr.mono (by first | decide | omega)) (qac (qv 2) qa_nil)) qa_nil)))
      (qss_cons (qs_set (i := 12) sc_law.nd rfl (Or.inl rfl) (qe_ix ix_list (qe_lst (qac qe_str (qac qe_str qa_nil))) (qe_callTy call_int1 (by rfl) T.b_int PyProof.Rows.boot_int (qac (qe_cmpR op_eq (qv 6) qe_int (nomark _)) qa_nil)) (fun _ _ => rfl)))
      (qss_cons (qs_if (qt_cmpR op_ne (qe_def D_law_refused (hr.mono (by first | decide | omega)) (qac (qv 8) (qac qe_str (qac (qv 11) qa_nil)))) (qv 12) (nomark _)) (qss_one (qs_ret qe_bl)) qss_nil)
      (qss_cons (qs_if (qt_cmpR op_lt (qv 6) qe_int (nomark _)) (qss_one (qs_par (i := 5) (j := 6) rfl sc_law.nd rfl rfl (by decide) rfl rfl (qac (qe_callTy call_tupleQ (by rfl) T.b_tuple PyProof.Rows.boot_tuple (qac (qv 11) qa_nil)) (qac (qe_op op_add (qv 6) qe_int) qa_nil)))) qss_nil)
      (qss_cons (qs_expr (qe_bm0 PySem.F.plainAttrs_list PySem.F.slot_list_reverse PySem.F.type_list_reverse mr_reverse (qv 11)))
      (qss_one (qs_expr (qe_bm PySem.F.plainAttrs_list PySem.F.slot_list_append PySem.F.type_list_append mr_append (qv 11) (qac qe_int qa_nil))))))))) (qss_cons (qs_set (i := 13) sc_law.nd rfl (Or.inl rfl) (qe_def D_law_take (hr.mono (by first | decide | omega)) (qac (qv 2) (qac qe_int qa_nil))))
      (qss_cons (qs_set (i := 12) sc_law.nd rfl (Or.inl rfl) (qe_def D_press_of (hr.mono (by first | decide | omega)) (qac (qv 4) (qac (qv 5) (qac (qv 3) (qac (qv 6) (qac (qe_def D_law_pressed (hr.mono (by first | decide | omega)) (qac (qv 9) qa_nil)) (qac (qv 13) qa_nil))))))))
      (qss_one (qs_if (qt_not (qt_val (qe_def D_law_alike (hr.mono (by first | decide | omega)) (qac (qe_meth D_Button_press_once U.cl (hr.mono (by first | decide | omega)) (qv 8) (qac (qv 13) qa_nil)) (qac (qv 12) qa_nil))))) (qss_one (qs_ret qe_bl)) qss_nil)))))
      (qss_one (qs_if (qt_not (qt_val (qe_def D_law_stands (hr.mono (by first | decide | omega)) (qac (qv 8) (qac (qv 9) (qac (qv 6) qa_nil)))))) (qss_one (qs_ret qe_bl)) qss_nil))))
      (qss_one (qs_if (QW.pt (qw_and (qt_cmpR op_ge (qv 7) qe_int (nomark _)) (qw_and1 (qt_not (qt_val (qe_def D_law_worn (hr.mono (by first | decide | omega)) (qac (qv 2) (qac (qv 8) (qac (qv 9) (qac (qv 6) qa_nil)))))))))) (qss_one (qs_ret qe_bl)) qss_nil))))))))))
      (qss_one (qs_ret qe_bl))), ?_⟩
    refine ⟨_, rfl, _, rfl, sc, _, rfl, hS, fun p hp => ⟨p, _, rfl, .inl (SqL.of upd_same), _, _, rfl, rfl, _, rfl, ?_, ?_, ?_⟩⟩
    · omega
    · rw [cut_ints, List.length_map, cutI_len]; omega
    have s1 : Same H _ := Same.upd (o := .lst (cutV (ns.map V.int) none (some 1))) hp
    refine for_range (Pv := fun i σ H2 => Same H H2 ∧ ∃ o1 o2 o3 o4 o5 o6 o7 o8 o9 oa ob oc od, σ = [some (.ref sc), o1, o2, o3, o4, o5, o6, o7, o8, o9, oa, ob, oc, od]) ⟨s1, _, _, _, _, _, _, _, _, _, _, _, _, _, rfl⟩ ?_ ?_
    · rintro k σ H2 hk ⟨s2, o1, o2, o3, o4, o5, o6, o7, o8, o9, oa, ob, oc, od, rfl⟩
      refine ⟨_, rfl, _, rfl, sc, ns, k, (by simp), s2.seq hS, fun b H3 hb s3 bx => ?_⟩
      refine ⟨_, rfl, b, _, rfl, bx, by omega, fun nm Ha ga hnm => ⟨_, rfl, b, _, rfl, ga.bx, by omega, fun rt t Hb gb frt hrt pt => ⟨_, _, rfl, ?_⟩⟩⟩
      have lt : t.length = 16 := tab_len pt
      refine ⟨_, rfl, b, _, rfl, gb.bx, by omega, fun rk ks Hc gc frk hrk dk k1 k8 => ⟨_, rfl, b, _, _, rfl, gc.bx, by omega, by decide, by decide, fun age Hd a0 a1 gd => ⟨_, _, rfl, ?_⟩⟩⟩
      refine ⟨_, rfl, b, _, _, rfl, gd.bx, by omega, by decide, by decide, fun r1 He r10 r11 ge => ⟨_, _, rfl, rfl, by show 4 ≤ sizeLine; decide, fun l hl => ?_⟩⟩
      have ul := Same.upd (o := .lst [.int 1, .int 2, .int 64, .int (30 + r1)]) hl
      refine ⟨_, rfl, b, _, _, rfl, (ul.grc ge.bx).bx, by omega, by decide, by decide, fun r2 Hf r20 r21 gf => ?_⟩
      obtain ⟨v5, hv5, hm5⟩ := draw_at (xs := [V.int 1, .int 2, .int 64, .int (30 + r1)]) r20 r21
      obtain ⟨step, rfl, st1⟩ : ∃ z : Int, v5 = .int z ∧ 1 ≤ z := by
        simp only [List.mem_cons, List.not_mem_nil, or_false] at hm5
        rcases hm5 with rfl | rfl | rfl | rfl <;> exact ⟨_, rfl, by omega⟩
      refine ⟨l, _, _, _, rfl, rfl, SqL.of (gf.kp _ _ (boxc_fresh ge.bx hl) upd_same), hv5, ?_⟩
      have nrt : rt ≠ b := fun z => by obtain ⟨_, _, _, e, _⟩ := gb.bx; rw [← z, hrt] at e; cases e
      have nrk : rk ≠ b := fun z => by obtain ⟨_, _, _, e, _⟩ := gc.bx; rw [← z, hrk] at e; cases e
      have ert : Hf rt = some (.tup (t.map V.int)) := gf.kp _ _ nrt (ul _ _ (ge.kp _ _ nrt (gd.kp _ _ nrt (gc.kp _ _ nrt hrt))))
      have erk : Hf rk = some (.tup (ks.map V.int)) := gf.kp _ _ nrk (ul _ _ (ge.kp _ _ nrk (gd.kp _ _ nrk hrk)))
      have m3 : Mv [b] H2 Hf := (((((s3.mv.trans ga.mv).trans gb.mv).trans gc.mv).trans gd.mv).trans ge.mv).trans (ul.mv.trans gf.mv)
      have b3 := gf.bx
      refine ⟨_, rfl, _, rfl, _, rfl, _, rfl, _, rfl, fun x dx nx ndx nex => ?_⟩
      have sJ : Same Hf (upd (upd Hf dx (.own x)) x (.ins C dx [])) := (Same.upd ndx).trans (Same.upd (by rw [upd_ne nex.symm]; exact nx))
      refine ⟨x, rt, rk, dx, nm, age, step, t, ks, rfl, upd_same, .tup (sJ _ _ ert), .tup (sJ _ _ erk), fun ta ka ce Hk hce mk bk => ⟨rfl, ?_⟩⟩
      have sK : Same Hf Hk := fun c o e => mk c o (nin1 (ne_of_none e nx)) (sJ c o e)
      have fx : H2 x = none := m3.free b3 nx
      have fce : H2 ce = none := m3.free b3 (s2n hce sJ)
      have m4 := m3.trans sK.mv
      have b4 := (sK.grc b3).bx
      refine ⟨_, rfl, step, rfl, fun d lc Hl hd hlc sl la => ?_⟩
      have fd : H2 d = none := m4.free b4 hd
      have flc : H2 lc = none := m4.free b4 hlc
      obtain ⟨B0, hB0⟩ : ∃ B0 : Bt, B0 = ⟨nm, t, ks, age, step, 0, 0, some 0, none⟩ := ⟨_, rfl⟩
      have W0 : W13 K C H2 Hl b rt rk ⟨x, ta, ka, ce, d, lc⟩ 100 B0 := by
        subst hB0
        refine ⟨(Same.mv_of (Same.refl _) (m4.trans sl.mv) (fun c hc => by rw [List.mem_singleton.mp hc]; exact hb)), ((sl.grc b4).bx).mono (by omega), ⟨bk.same sl, la.eqv rfl rfl rfl rfl rfl, hnm, lt, BtOk.new st1, ne_of_none bk.cs hlc⟩, SqT.of (sl _ _ (sK _ _ ert)), SqT.of (sl _ _ (sK _ _ erk)), fun c hc => ?_⟩
        simp only [O3.as, List.mem_cons, List.not_mem_nil, or_false] at hc
        rcases hc with rfl | rfl | rfl | rfl | rfl
        · exact hb
        · exact fx
        · exact fce
        · exact fd
        · exact flc
      have hB1 : B0.nm = nm ∧ B0.cnt ≤ 0 ∧ B0.age = age ∧ B0.step = step := by subst hB0; exact ⟨rfl, Int.le_refl _, rfl, rfl⟩
      clear hB0 la bk mk ert erk b4 m4 m3 sK sJ
      refine ⟨12, rfl, by decide, by decide, for_range (n := 12) (Pv := fun i σ Hx => ∃ (n : Nat) (ka kk : Addr) (B : Bt) (oa ob oc od : Option V), W13 K C H2 Hx b rt kk ⟨x, ta, ka, ce, d, lc⟩ n B ∧ n ≤ 100 + 20 * i ∧ B.nm = nm ∧ B.cnt ≤ i ∧ 0 ≤ B.age ∧ B.age ≤ 7 ∧ σ = [some (.ref sc), some (.int (0 + (k : Int))), some (.ref b), some (.str nm), some (.ref rt), some (.ref kk), some (.int B.age), some (.int step), some (.ref x), some (.ref d), oa, ob, oc, od])
        ⟨100, ka, rk, B0, _, _, _, _, W0, Nat.le_refl _, hB1.1, hB1.2.1, by rw [hB1.2.2.1]; exact a0, by rw [hB1.2.2.1]; omega, by rw [hB1.2.2.1]; rfl⟩ ?_ ?_⟩
      · rintro i σ Hx hi ⟨n, ka, kk, B, oa, ob, oc, od, W, hn, hnmB, hcB, ag0, ag7, rfl⟩
        refine if_key (fun σ' H' => ∃ (n : Nat) (ka kk : Addr) (B : Bt) (oa ob oc od : Option V), W13 K C H2 H' b rt kk ⟨x, ta, ka, ce, d, lc⟩ n B ∧ n ≤ 100 + 20 * (i + 1) ∧ B.nm = nm ∧ B.cnt ≤ (i : Int) + 1 ∧ 0 ≤ B.age ∧ B.age ≤ 7 ∧ σ' = [some (.ref sc), some (.int (0 + (k : Int))), some (.ref b), some (.str nm), some (.ref rt), some (.ref kk), some (.int B.age), some (.int step), some (.ref x), some (.ref d), oa, ob, oc, od]) (fun DD hD => ?_) ?_
        · refine ⟨_, rfl, b, _, _, rfl, W.bx, by omega, by decide, by decide, fun r Ha r0 r1 ga => ⟨rfl, _, rfl, ?_⟩⟩
          have Wa := W.grc ga
          refine ite2 (fun _ => ?_) (fun _ => ?_)
          · -- a key is turned
            refine ⟨_, rfl, b, _, rfl, Wa.bx, by omega, fun kt ks Hb gb fk hkt dk k1 k8 => ⟨kt, _, rfl, .inr (SqT.of hkt), fun l hl => ?_⟩⟩
            have Wb := Wa.grc gb
            obtain ⟨fl1, fl2⟩ := Wb.fresh hl
            have ul := Same.upd (o := .lst (ks.map V.int)) hl
            have Wc := Wb.same ul
            have el : (upd Hb l (.lst (ks.map V.int))) l = some (.lst (ks.map V.int)) := upd_same
            generalize upd Hb l (.lst (ks.map V.int)) = Hc at Wc el ⊢
            refine ⟨by show 2 ≤ sizeLine; decide, fun l2 hl2 => ?_⟩
            have u2 := Same.upd (o := .lst [.str "", .str "Worn"]) hl2
            have Wd := Wc.same u2
            have el2 := u2 _ _ el
            have e2 : (upd Hc l2 (.lst [.str "", .str "Worn"])) l2 = some (.lst [.str "", .str "Worn"]) := upd_same
            generalize upd Hc l2 (.lst [.str "", .str "Worn"]) = Hd at Wd el2 e2 ⊢
            by_cases h7 : B.age = 7
            · refine ⟨_, rfl, rfl, .inr ⟨_, rfl, l2, _, _, .str "Worn", rfl, rfl, SqL.of e2, by rw [if_pos (decide_eq_true (by rw [h7]))]; rfl, ?_⟩⟩
              refine ⟨_, rfl, _, rfl, .inr ⟨⟨x, ta, ka, ce, d, lc⟩, B, l, ks, rfl, Wd.on, el2, fun _ He se => ?_, fun z => absurd z (by omega)⟩⟩
              refine ⟨_, rfl, rfl, _, rfl, iteE neq_self ?_⟩
              have We := Wd.same se
              refine ⟨_, rfl, _, _, rfl, rfl, _, rfl, iteE (decide_eq_false (by omega)) ?_⟩
              have ele := se _ _ el2
              refine ⟨_, rfl, .inl ⟨rfl, _, SqL.of ele⟩, l, _, rfl, rfl, ele, ?_⟩
              have Wf := We.own (ys := (ks.map V.int).reverse) ele fl2 fl1
              refine ⟨_, rfl, .inl ⟨rfl, _, SqL.of upd_same⟩, l, _, _, rfl, rfl, upd_same, by rw [List.length_reverse, List.length_map, sizeLine_eq]; omega, ?_⟩
              have Wg := Wf.own (ys := (ks.map V.int).reverse ++ [.int 3]) upd_same fl2 fl1
              exact hD _ _ ⟨_, ka, kk, B, _, _, _, _, Wg, by omega, hnmB, by omega, ag0, ag7, rfl⟩
            · refine ⟨_, rfl, rfl, .inr ⟨_, rfl, l2, _, _, .str "", rfl, rfl, SqL.of e2, by rw [if_neg (by rw [decide_eq_false (by intro z; injection z with z; exact h7 z)]; intro z; cases z)]; rfl, ?_⟩⟩
              refine ⟨_, rfl, _, rfl, .inr ⟨⟨x, ta, ka, ce, d, lc⟩, B, l, ks, rfl, Wd.on, el2, fun z => absurd z (by omega), fun _ ka' He me one => ?_⟩⟩
              refine ⟨_, rfl, rfl, _, rfl, iteE neq_self ?_⟩
              have me2 : Mv (b :: O3.as ⟨x, ta, ka, ce, d, lc⟩) Hd He := me.mono fun c h z => h (by rw [List.mem_singleton.mp z]; exact List.mem_cons_of_mem _ (List.mem_cons_self ..))
              have nlx : l ∉ [x] := fun z => fl1 (by rw [List.mem_singleton.mp z]; exact List.mem_cons_of_mem _ (List.mem_cons_self ..))
              have ele := me _ _ nlx el2
              have bxe := Wd.bx.mv me (fun z => Wd.nb (by rw [List.mem_singleton.mp z]; exact List.mem_cons_self ..))
              have tte := me2.sqt Wd.nt Wd.tt
              refine ⟨_, rfl, _, _, rfl, rfl, _, rfl, iteD (decide_eq_true (by omega)) ?_⟩
              refine ⟨_, rfl, l, _, rfl, Sq.lst ele, fun t2 Hf sf ht2 => ⟨_, rfl, _, _, rfl, rfl, _, _, rfl, ?_⟩⟩
              have Wf : W13 K C H2 Hf b rt t2 ⟨x, ta, ka', ce, d, lc⟩ _ { B with ks := ks, age := B.age + 1 } := ⟨(Same.mv_of Wd.s me2 Wd.fr).trans sf, (sf.grc bxe).bx, one.same sf, Same.sqt sf tte, ht2, Wd.fr⟩
              have elf := sf _ _ ele
              refine ⟨_, rfl, .inl ⟨rfl, _, SqL.of elf⟩, l, _, rfl, rfl, elf, ?_⟩
              have Wg := Wf.own (ys := (ks.map V.int).reverse) elf fl2 fl1
              refine ⟨_, rfl, .inl ⟨rfl, _, SqL.of upd_same⟩, l, _, _, rfl, rfl, upd_same, by rw [List.length_reverse, List.length_map, sizeLine_eq]; omega, ?_⟩
              have Wh := Wg.own (ys := (ks.map V.int).reverse ++ [.int 3]) upd_same fl2 fl1
              exact hD _ _ ⟨_, ka', t2, _, _, _, _, _, Wh, by omega, hnmB, by show B.cnt ≤ _; omega, by show 0 ≤ B.age + 1; omega, by show B.age + 1 ≤ 7; omega, rfl⟩
          · -- a press
            refine ⟨_, rfl, b, _, _, rfl, Wa.bx, by omega, by decide, by decide, fun dd Hb d0 d1 gb => ?_⟩
            have Wb := Wa.grc gb
            obtain ⟨c0, cb, bm, _⟩ := id Wb.on.ok
            have hlt : B.cnt < 4096 := by omega
            refine ⟨_, rfl, _, rfl, _, rfl, _, rfl, _, rfl, d, lc, B, rfl, Wb.on.la, by omega, fun _ Hc mc lc' => ?_, fun z => absurd z (by omega)⟩
            have ntd := Wb.on.ntd
            have ttc := mc.sqt ntd Wb.tt
            have ktc := mc.sqt ntd Wb.kt
            have lt2 := Wb.on.tl
            refine ⟨_, rfl, rt, kk, nm, B.age, B.cnt, dd, B.t, B.ks, rfl, .inr ttc, .inr ktc, hnm, lt2, c0, hlt, ⟨d0, d1⟩, fun q2 pc2 He se hq2 hpc2 => ?_⟩
            have bt := (Wb.on.btn mc).same se
            refine ⟨_, rfl, x, rfl, bt.no, _, rfl, x, ta, ka, ce, B, dd, rfl, bt, Wb.on.nm, lt2, c0, hlt, ⟨d0, d1⟩, fun q1 pc1 Hg mg' bg hq1 hpc1 => ?_⟩
            have cl : (codeI B.t B.ks B.nm B.cnt dd).length ≤ sizeLine := by unfold codeI; rw [encK_len, five_len]; decide
            rw [← hnmB] at hq2 hpc2
            refine ⟨_, rfl, _, _, rfl, Eqw.three (.inl hq1) (mg'.rd bt.nt (.inl hq2)) (.str _ _) (.int _ _) (Eqw.ints (n := 0) (.inl hpc1) (mg'.rd bt.nt (.inl hpc2)) cl), fun Hh sh => ⟨_, rfl, iteF ?_⟩⟩
            have onh := (Wb.on.two (H1 := He) (mc.trans se.mv) (lc'.same se) mg' bg (pr_nm B) (pr_t B) (Wb.on.ok.pr hlt)).same sh
            have M : Mv (O3.as ⟨x, ta, ka, ce, d, lc⟩) Hb Hh := (((Mv.o3d (o := ⟨x, ta, ka, ce, d, lc⟩) mc).trans se.mv).trans (Mv.o3p (o := ⟨x, ta, ka, ce, d, lc⟩) mg')).trans sh.mv
            have Wh := Wb.moved (M.mono fun c h z => h (List.mem_cons_of_mem _ z)) (Wb.bx.o3 M Wb.nb) onh (pr_t B) (pr_ks B)
            exact hD _ _ ⟨_, ka, kk, B.pr, _, _, _, _, Wh, by omega, (pr_nm B).trans hnmB, by rw [pr_cnt]; omega, by rw [pr_age]; exact ag0, by rw [pr_age]; exact ag7, by rw [pr_age]; rfl⟩
        · rintro σ' H' ⟨n, ka, kk, B, oa, ob, oc, od, W, hn, hnmB, hcB, ag0, ag7, rfl⟩
          refine ⟨_, rfl, _, rfl, _, rfl, ⟨x, ta, ka, ce, d, lc⟩, B, rfl, W.on, fun Hs ss => ⟨_, rfl, iteF ?_⟩⟩
          exact ⟨n, ka, kk, B, _, _, _, _, W.same ss, by omega, hnmB, by omega, ag0, ag7, rfl⟩
      · rintro σ Hx ⟨n, ka, kk, B, oa, ob, oc, od, W, hn, hnmB, hcB, ag0, ag7, rfl⟩
        refine ⟨_, rfl, _, _, rfl, rfl, _, rfl, ?_⟩
        refine ite2 (fun _ => ?_) (fun _ => ?_)
        · refine ⟨_, rfl, _, rfl, _, rfl, _, rfl, b, n, ⟨x, ta, ka, ce, d, lc⟩, B, rfl, W.bx, by omega, W.on, fun Hy my => ⟨_, rfl, iteF ?_⟩⟩
          exact ⟨s2.trans (Same.mv_of W.s my W.fr), _, _, _, _, _, _, _, _, _, _, _, _, _, rfl⟩
        · exact iteF ⟨s2.trans W.s, _, _, _, _, _, _, _, _, _, _, _, _, _, rfl⟩
    · rintro σ H2 ⟨s2, o1, o2, o3, o4, o5, o6, o7, o8, o9, oa, ob, oc, od, rfl⟩
      exact q _
end
theorem all_mk {l : PySem.W.OpenLaw} {w : World} {K : PySem.W.Frag} {h : Heap} {mg : Str → Option Value} {fa : Addr} (X : K.In h) (G : h.Ns mainGlobals mg) (hfa : mg "law" = some (.ref fa))
    {C : Addr}
    (aCB : PySem.W.nsIn K mainGlobals "Button" = some (some (.ref C)))
    (pgB : PySem.W.plainGet K C Str.empty = true)
    (hdB : PySem.W.hasDictIn K C = true)
    (poB : PySem.W.plainOver K C = true)
    (saB : PySem.W.findIn K (.ref C) "__setattr__" = some (some (.builtin "object.__setattr__")))
    (mkB : PySem.W.makesIn K C = true)
    (kcB : PySem.W.keepIn K (.ref C) = true)
    (n_B_name : PySem.W.findIn K (.ref C) "name" = some none)
    (n_B_table : PySem.W.findIn K (.ref C) "table" = some none)
    (n_B_key : PySem.W.findIn K (.ref C) "key" = some none)
    (n_B_age : PySem.W.findIn K (.ref C) "age" = some none)
    (n_B_step : PySem.W.findIn K (.ref C) "step" = some none)
    (n_B_next_count : PySem.W.findIn K (.ref C) "next_count" = some none)
    (n_B_bound : PySem.W.findIn K (.ref C) "bound" = some none)
    (n_B_cells : PySem.W.findIn K (.ref C) "cells" = some none)
    (A0 : Ac K mg "coded" s_coded)
    (A1 : Ac K mg "letter_digits" s_letter_digits)
    (A2 : Ac K mg "key_of" s_key_of)
    (A3 : Ac K mg "count_digits" s_count_digits)
    (A4 : Ac K mg "press_of" s_press_of)
    (A5 : Acm K C "__init__" "Button.__init__" s_Button___init)
    (A6 : Acm K C "is_worn" "Button.is_worn" s_Button_is_worn)
    (A7 : Acm K C "must_write" "Button.must_write" s_Button_must_write)
    (A8 : Acm K C "spare_cell" "Button.spare_cell" s_Button_spare_cell)
    (A9 : Acm K C "write_bound" "Button.write_bound" s_Button_write_bound)
    (A10 : Acm K C "press_once" "Button.press_once" s_Button_press_once)
    (A11 : Acm K C "cell_out" "Button.cell_out" s_Button_cell_out)
    (A12 : Acm K C "cell_torn" "Button.cell_torn" s_Button_cell_torn)
    (A13 : Acm K C "turn_key" "Button.turn_key" s_Button_turn_key)
    (A14 : Acm K C "age_now" "Button.age_now" s_Button_age_now)
    (A15 : Acm K C "count_now" "Button.count_now" s_Button_count_now)
    (A16 : Acm K C "cells_now" "Button.cells_now" s_Button_cells_now)
    (A17 : Ac K mg "_law_box" s_law_box)
    (A18 : Ac K mg "_law_take" s_law_take)
    (A19 : Ac K mg "_law_table" s_law_table)
    (A20 : Ac K mg "_law_key" s_law_key)
    (A21 : Ac K mg "_law_name" s_law_name)
    (A22 : Ac K mg "_law_begun" s_law_begun)
    (A23 : Ac K mg "_law_pressed" s_law_pressed)
    (A24 : Ac K mg "_law_out" s_law_out)
    (A25 : Ac K mg "_law_torn" s_law_torn)
    (A26 : Ac K mg "_law_alike" s_law_alike)
    (A27 : Ac K mg "_law_refused" s_law_refused)
    (A28 : Ac K mg "_law_stands" s_law_stands)
    (A29 : Ac K mg "_law_lost" s_law_lost)
    (A30 : Ac K mg "_law_worn" s_law_worn)
    {f31 : Addr} {od31 an31 : Option Addr} {sl31 : Array (Option Value)} {oc31 kV31 dc31 pm31 cd31 ct31 : Value}
    (a31 : PySem.W.nsIn K mainGlobals "law" = some (some (.ref f31)))
    (l31 : K.lookup f31 = some ⟨oc31, od31, .func (PySem.W.fnOf "law" "law" (defArgs s_law) (defBody s_law) (defScope s_law) .none kV31 dc31 pm31 an31 cd31 ct31), sl31⟩)
    (c31 : PySem.W.codeIn K cd31 "law" = true)
    (k31 : PySem.W.keepIn K (.ref f31) = true)
    {t0 : Tok}
    (yg0 : PySem.W.nsIn K mainGlobals "DIGITS" = some (some (.int 16 t0)))
    {t1 : Tok}
    (yg1 : PySem.W.nsIn K mainGlobals "KEY_PLACES" = some (some (.int 4 t1)))
    {t2 : Tok}
    (yg2 : PySem.W.nsIn K mainGlobals "AGES" = some (some (.int 8 t2)))
    {t3 : Tok}
    (yg3 : PySem.W.nsIn K mainGlobals "COUNTS" = some (some (.int 4096 t3)))
    (z0 : PySem.W.nsIn K mainGlobals "isinstance" = some none)
    (z1 : PySem.W.nsIn K mainGlobals "bool" = some none)
    (z2 : PySem.W.nsIn K mainGlobals "int" = some none)
    (z3 : PySem.W.nsIn K mainGlobals "tuple" = some none)
    (z4 : PySem.W.nsIn K mainGlobals "all" = some none)
    (z5 : PySem.W.nsIn K mainGlobals "len" = some none)
    (z6 : PySem.W.nsIn K mainGlobals "abs" = some none)
    (z7 : PySem.W.nsIn K mainGlobals "list" = some none)
    (z8 : PySem.W.nsIn K mainGlobals "range" = some none)
    (z9 : PySem.W.nsIn K mainGlobals "str" = some none)
    (z10 : PySem.W.nsIn K mainGlobals "zip" = some none)
    (z11 : PySem.W.nsIn K mainGlobals "ord" = some none)
    (z12 : PySem.W.nsIn K mainGlobals "sum" = some none)
    (z13 : PySem.W.nsIn K mainGlobals "min" = some none)
    (z14 : PySem.W.nsIn K mainGlobals "enumerate" = some none)
    (z15 : PySem.W.nsIn K mainGlobals "max" = some none)
    {xe xk xf xu xt xb xw xl xr : Addr}
    (xg0 : PySem.W.nsIn K mainGlobals "CodeError" = some (some (.ref xe)))
    (xg1 : PySem.W.nsIn K mainGlobals "Known" = some (some (.ref xk)))
    (xg2 : PySem.W.nsIn K mainGlobals "Full" = some (some (.ref xf)))
    (xg3 : PySem.W.nsIn K mainGlobals "Unknown" = some (some (.ref xu)))
    (xg4 : PySem.W.nsIn K mainGlobals "TooMany" = some (some (.ref xt)))
    (xg5 : PySem.W.nsIn K mainGlobals "BadPress" = some (some (.ref xb)))
    (xg6 : PySem.W.nsIn K mainGlobals "Worn" = some (some (.ref xw)))
    (xg7 : PySem.W.nsIn K mainGlobals "BadLog" = some (some (.ref xl)))
    (xg8 : PySem.W.nsIn K mainGlobals "BadRow" = some (some (.ref xr)))
    (xeE : excB K xe baseX baseX "ValueError.__new__" = true)
    (exw : excB K xw (.ref xe :: baseX) baseX "ValueError.__new__" = true)
    (mxw : PySem.W.mroIn K xw (.type "object") = some true)
    (bxw : PySem.W.mroIn K xw (.type "BaseException") = some true)
    (lxw : PySem.W.findIn K (.ref xw) "__class__" = some (some (.builtin "object.__class__")))
    (gxw : PySem.W.findIn K (.ref xw) "__getattribute__" = some (some (.builtin "BaseException.__getattribute__")))
    (txw : PySem.W.findIn K (.ref xw) "__getattr__" = some none)
    (cxw : (PySem.W.clsIn K xw).isSome = true)
    (ixwxb : PySem.W.kitOne K (.ref xw) (.ref xb) = some (decide (xw = xb)))
    (ixwxk : PySem.W.kitOne K (.ref xw) (.ref xk) = some (decide (xw = xk)))
    (ixwxf : PySem.W.kitOne K (.ref xw) (.ref xf) = some (decide (xw = xf)))
    (ixwxu : PySem.W.kitOne K (.ref xw) (.ref xu) = some (decide (xw = xu)))
    (ixwxt : PySem.W.kitOne K (.ref xw) (.ref xt) = some (decide (xw = xt)))
    (ixwxw : PySem.W.kitOne K (.ref xw) (.ref xw) = some (decide (xw = xw)))
    (ixwxl : PySem.W.kitOne K (.ref xw) (.ref xl) = some (decide (xw = xl)))
    (ixwxr : PySem.W.kitOne K (.ref xw) (.ref xr) = some (decide (xw = xr)))
    (vxw : PySem.W.kitOne K (.ref xw) (.type "ValueError") = some true)
    (xnd : ([xb, xk, xf, xu, xt, xw, xl, xr] : List Addr).Nodup)
    (xvb : PySem.W.nsIn K mainGlobals "ValueError" = some none) :
    ∃ fd : FuncData, (∀ (s : Shared) (v : Value), BindsTo s fd ⟨[v], []⟩ [("_law_script", v)]) ∧ ∀ base : Heap, K.In base → base.Ns mainGlobals mg → FnOk l.prog w K mg base CX0 8 fa fd ["_law_script"] (spLaw K) := by
  have e := hfa.symm.trans (PySem.W.mg_of X G a31)
  cases e
  have T : Txt K mg (fun i => if i = 0 then t0 else if i = 1 then t1 else if i = 2 then t2 else if i = 3 then t3 else 0) := ⟨PySem.W.mg_of X G yg0, PySem.W.mg_of X G yg1, PySem.W.mg_of X G yg2, PySem.W.mg_of X G yg3, PySem.W.mg_none_of X G z0, PySem.W.mg_none_of X G z1, PySem.W.mg_none_of X G z2, PySem.W.mg_none_of X G z3, PySem.W.mg_none_of X G z4, PySem.W.mg_none_of X G z5, PySem.W.mg_none_of X G z6, PySem.W.mg_none_of X G z7, PySem.W.mg_none_of X G z8, PySem.W.mg_none_of X G z9, PySem.W.mg_none_of X G z10, PySem.W.mg_none_of X G z11, PySem.W.mg_none_of X G z12, PySem.W.mg_none_of X G z13, PySem.W.mg_none_of X G z14, PySem.W.mg_none_of X G z15⟩
  refine ⟨PySem.W.fnOf "law" "law" (defArgs s_law) (defBody s_law) (defScope s_law) .none kV31 dc31 pm31 an31 cd31 ct31, fun s v => .of_eq rfl, fun base _ _ => ?_⟩
  have U : BCx K C := ⟨⟨pgB, hdB, poB, saB⟩, n_B_name, n_B_table, n_B_key, n_B_age, n_B_step, n_B_next_count, n_B_bound, n_B_cells⟩
  have XG : XGx K mg (⟨xe, xk, xf, xu, xt, xb, xw, xl, xr⟩ : Xa) := ⟨PySem.W.mg_of X G xg0, PySem.W.mg_of X G xg1, PySem.W.mg_of X G xg2, PySem.W.mg_of X G xg3, PySem.W.mg_of X G xg4, PySem.W.mg_of X G xg5, PySem.W.mg_of X G xg6, PySem.W.mg_of X G xg7, PySem.W.mg_of X G xg8, xeE, xnd, PySem.W.mg_none_of X G xvb⟩
  have o_xw : XOne K (⟨xe, xk, xf, xu, xt, xb, xw, xl, xr⟩ : Xa) xw := ⟨exw, ⟨mxw, bxw, lxw, gxw, txw, cxw⟩, all_kits (x := (⟨xe, xk, xf, xu, xt, xb, xw, xl, xr⟩ : Xa)) ixwxb ixwxk ixwxf ixwxu ixwxt ixwxw ixwxl ixwxr, vxw⟩
  have XC : X13 K mg (⟨xe, xk, xf, xu, xt, xb, xw, xl, xr⟩ : Xa) := ⟨XG, o_xw⟩
  have A0 := A0.at (ps := ["table", "key", "digits"]) fun _ _ _ _ _ _ us hl => match us, hl with | [_, _, _], _ => rfl
  have D_coded := ok_coded (P := l.prog) (w := w) (base := base) A0 T
  have A1 := A1.at (ps := ["name"]) fun _ _ _ _ _ _ us hl => match us, hl with | [_], _ => rfl
  have D_letter_digits := ok_letter_digits (P := l.prog) (w := w) (base := base) A1 T
  have A2 := A2.at (ps := ["table", "key", "name"]) fun _ _ _ _ _ _ us hl => match us, hl with | [_, _, _], _ => rfl
  have D_key_of := ok_key_of (P := l.prog) (w := w) (base := base) A2 T D_letter_digits D_coded
  have A3 := A3.at (ps := ["count"]) fun _ _ _ _ _ _ us hl => match us, hl with | [_], _ => rfl
  have D_count_digits := ok_count_digits (P := l.prog) (w := w) (base := base) A3 T
  have A4 := A4.at (ps := ["table", "key", "name", "age", "count", "deed"]) fun _ _ _ _ _ _ us hl => match us, hl with | [_, _, _, _, _, _], _ => rfl
  have D_press_of := ok_press_of (P := l.prog) (w := w) (base := base) A4 T D_count_digits D_key_of D_coded
  have A5 := A5.at (ps := ["self", "name", "table", "key", "age", "step"]) fun _ _ _ _ _ _ us hl => match us, hl with | [_, _, _, _, _, _], _ => rfl
  have D_Button___init := ok_Button___init (P := l.prog) (w := w) (base := base) A5 T U
  have I_Button := D_Button___init.mi mkB kcB (PySem.W.mg_of X G aCB)
  have A6 := A6.at (ps := ["self"]) fun _ _ _ _ _ _ us hl => match us, hl with | [_], _ => rfl
  have D_Button_is_worn := ok_Button_is_worn (P := l.prog) (w := w) (base := base) A6 T U
  have A7 := A7.at (ps := ["self"]) fun _ _ _ _ _ _ us hl => match us, hl with | [_], _ => rfl
  have D_Button_must_write := ok_Button_must_write (P := l.prog) (w := w) (base := base) A7 T U D_Button_is_worn
  have A8 := A8.at (ps := ["self"]) fun _ _ _ _ _ _ us hl => match us, hl with | [_], _ => rfl
  have D_Button_spare_cell := ok_Button_spare_cell (P := l.prog) (w := w) (base := base) A8 T U
  have A9 := A9.at (ps := ["self"]) fun _ _ _ _ _ _ us hl => match us, hl with | [_], _ => rfl
  have D_Button_write_bound := ok_Button_write_bound (P := l.prog) (w := w) (base := base) A9 T U D_Button_spare_cell
  have A10 := A10.at (ps := ["self", "deed"]) fun _ _ _ _ _ _ us hl => match us, hl with | [_, _], _ => rfl
  have X_Button_press_once := okx_Button_press_once (P := l.prog) (w := w) (base := base) A10 T U XC D_Button_is_worn D_Button_must_write D_Button_write_bound D_press_of
  have D_Button_press_once : Mf l.prog w K mg base C "press_once" ["self", "deed"] 4 (spBPress K C) := X_Button_press_once.mf press_mf
  have A11 := A11.at (ps := ["self"]) fun _ _ _ _ _ _ us hl => match us, hl with | [_], _ => rfl
  have D_Button_cell_out := ok_Button_cell_out (P := l.prog) (w := w) (base := base) A11 T U
  have A12 := A12.at (ps := ["self"]) fun _ _ _ _ _ _ us hl => match us, hl with | [_], _ => rfl
  have D_Button_cell_torn := ok_Button_cell_torn (P := l.prog) (w := w) (base := base) A12 T U D_Button_must_write D_Button_spare_cell D_Button_cell_out
  have A13 := A13.at (ps := ["self", "key"]) fun _ _ _ _ _ _ us hl => match us, hl with | [_, _], _ => rfl
  have X_Button_turn_key := okx_Button_turn_key (P := l.prog) (w := w) (base := base) A13 T U XC
  have A14 := A14.at (ps := ["self"]) fun _ _ _ _ _ _ us hl => match us, hl with | [_], _ => rfl
  have D_Button_age_now := ok_Button_age_now (P := l.prog) (w := w) (base := base) A14 T U
  have A15 := A15.at (ps := ["self"]) fun _ _ _ _ _ _ us hl => match us, hl with | [_], _ => rfl
  have D_Button_count_now := ok_Button_count_now (P := l.prog) (w := w) (base := base) A15 T U
  have A16 := A16.at (ps := ["self"]) fun _ _ _ _ _ _ us hl => match us, hl with | [_], _ => rfl
  have D_Button_cells_now := ok_Button_cells_now (P := l.prog) (w := w) (base := base) A16 T U
  have A17 := A17.at (ps := ["_law_script", "_law_k"]) fun _ _ _ _ _ _ us hl => match us, hl with | [_, _], _ => rfl
  have D_law_box := ok_law_box (P := l.prog) (w := w) (base := base) A17 T
  have A18 := A18.at (ps := ["_law_box_here", "_law_many"]) fun _ _ _ _ _ _ us hl => match us, hl with | [_, _], _ => rfl
  have D_law_take := ok_law_take (P := l.prog) (w := w) (base := base) A18 T
  have A19 := A19.at (ps := ["_law_box_here"]) fun _ _ _ _ _ _ us hl => match us, hl with | [_], _ => rfl
  have D_law_table := ok_law_table (P := l.prog) (w := w) (base := base) A19 T D_law_take
  have A20 := A20.at (ps := ["_law_box_here"]) fun _ _ _ _ _ _ us hl => match us, hl with | [_], _ => rfl
  have D_law_key := ok_law_key (P := l.prog) (w := w) (base := base) A20 T D_law_take
  have A21 := A21.at (ps := ["_law_box_here"]) fun _ _ _ _ _ _ us hl => match us, hl with | [_], _ => rfl
  have D_law_name := ok_law_name (P := l.prog) (w := w) (base := base) A21 T D_law_take
  have A22 := A22.at (ps := ["_law_step"]) fun _ _ _ _ _ _ us hl => match us, hl with | [_], _ => rfl
  have D_law_begun := ok_law_begun (P := l.prog) (w := w) (base := base) A22 T
  have A23 := A23.at (ps := ["_law_own"]) fun _ _ _ _ _ _ us hl => match us, hl with | [_], _ => rfl
  have D_law_pressed := ok_law_pressed (P := l.prog) (w := w) (base := base) A23 T
  have A24 := A24.at (ps := ["_law_own"]) fun _ _ _ _ _ _ us hl => match us, hl with | [_], _ => rfl
  have D_law_out := ok_law_out (P := l.prog) (w := w) (base := base) A24 T
  have A25 := A25.at (ps := ["_law_own"]) fun _ _ _ _ _ _ us hl => match us, hl with | [_], _ => rfl
  have D_law_torn := ok_law_torn (P := l.prog) (w := w) (base := base) A25 T D_law_out
  have A26 := A26.at (ps := ["_law_found", "_law_due"]) fun _ _ _ _ _ _ us hl => match us, hl with | [_, _], _ => rfl
  have D_law_alike := ok_law_alike (P := l.prog) (w := w) (base := base) A26 T
  have A27 := A27.at (ps := ["_law_button", "_law_deed", "_law_given"]) fun _ _ _ _ _ _ us hl => match us, hl with | [_, _, _], _ => rfl
  have D_law_refused := ok_law_refused (P := l.prog) (w := w) (base := base) A27 T U XC X_Button_press_once X_Button_turn_key
  have A28 := A28.at (ps := ["_law_button", "_law_own", "_law_age"]) fun _ _ _ _ _ _ us hl => match us, hl with | [_, _, _], _ => rfl
  have D_law_stands := ok_law_stands (P := l.prog) (w := w) (base := base) A28 T U D_Button_cells_now D_Button_count_now D_Button_age_now D_law_alike
  have A29 := A29.at (ps := ["_law_button", "_law_own", "_law_torn_here"]) fun _ _ _ _ _ _ us hl => match us, hl with | [_, _, _], _ => rfl
  have D_law_lost := ok_law_lost (P := l.prog) (w := w) (base := base) A29 T U D_law_torn D_law_out D_Button_cell_torn D_Button_cell_out
  have A30 := A30.at (ps := ["_law_box_here", "_law_button", "_law_own", "_law_age"]) fun _ _ _ _ _ _ us hl => match us, hl with | [_, _, _, _], _ => rfl
  have D_law_worn := ok_law_worn (P := l.prog) (w := w) (base := base) A30 T U D_law_take D_law_pressed D_Button_press_once D_law_lost D_law_stands D_law_refused
  exact ok_law (fun_mk (st := s_law) l31 c31 k31) T U I_Button D_Button_press_once D_press_of D_law_box D_law_take D_law_table D_law_key D_law_name D_law_begun D_law_pressed D_law_alike D_law_refused D_law_stands D_law_worn
theorem walk {l : PySem.W.OpenLaw} {q : Program} {loose : List Str} {XP : (Str → Option Value) → Heap → Prop} {YP : World → Heap → Prop} {d : DefRec} {K : Params → PySem.W.Frag} (hn : l.most = some 63) (hdf : d.params.defaults = [])
    (hY : ∀ (w : World) (h : Heap), YP w h → (K w.params).In h)
    (F : ∀ (w : World) (mg : Str → Option Value) (fa : Addr) (h : Heap), (K w.params).In h → h.Ns mainGlobals mg → mg d.name = some (.ref fa) →
      ∃ fd : FuncData, (∀ (s : Shared) (u : Value), BindsTo s fd ⟨[u], []⟩ [("_law_script", u)]) ∧ ∀ base : Heap, (K w.params).In base → base.Ns mainGlobals mg → FnOk l.prog w (K w.params) mg base CX0 8 fa fd ["_law_script"] (spLaw (K w.params))) :
    PySem.W.WalkO q loose XP YP l.row.toRowW d [] (fun f vs => PySem.call f vs) :=
  L2.walk_of (n := 63) (k := 8) (x := "_law_script") (CX := fun _ => CX0) (sp := fun w => spLaw (K w.params)) hn (by decide) hdf ⟨rfl, by decide, by decide⟩ hY F (fun _ _ a ns hl _ hS => ⟨a, ns, rfl, hS, hl, fun _ => rfl⟩) fun _ _ _ _ _ z => z
end Lw
namespace PySem.W.Fast
def tw14903529733369226093 := ()
def tw927326324520971631 := ()
def tw16705007245828623554 := ()
def tw16107685480032561519 := ()
def tw2036892364193726698 := ()
def tw4377811486973056882 := ()
def tw5415678909797280738 := ()
def tw14394251895975129552 := ()
def tw8457628727625386895 := ()
def tw17497348402807131757 := ()
def tw1996993068656579060 := ()
def tw15068811360876626604 := ()
def tw11264516041033216056 := ()
def tw12665196788224627021 := ()
def tw6781230842840095749 := ()
def tw15035620172130879555 := ()
def tw2688053846568092626 := ()
def tw12063825649913553050 := ()
def tw2980955518889855689 := ()
def tw5581604234663923261 := ()
def tw2436794330591569558 := ()
def tw16501123666937340895 := ()
def tw4407247775072610246 := ()
def tw17640312655260727955 := ()
def tw13249556725587500911 := ()
def tw12244899724172933334 := ()
def tw6968256586837795727 := ()
def tw9504833571535217469 := ()
def tw6421154019452359165 := ()
def tw17612680826836340959 := ()
def tw9291973956876694457 := ()
def tw14023130675120834736 := ()
def tw9703048220381591989 := ()
def tw8150472637797973533 := ()
def tw16067809916864753407 := ()
def tw1343407906730063115 := ()
def tw4829541452110372650 := ()
def tw8650290571379994056 := ()
def tw12327537854754856866 := ()
def tw11606934106632225371 := ()
def tw14811126031754763939 := ()
def tw9372133814247575685 := ()
def tw16182422586617293864 := ()
def tw13058074824757023163 := ()
def tw2203366062927225363 := ()
def tw2599777676331833887 := ()
def tw15091108658822525235 := ()
def tw17815951895176826314 := ()
def tw15741626862559938950 := ()
def tw15119725869572913924 := ()
def tw13732781373603052817 := ()
def tw6590009441249158638 := ()
def tw14910259091846329877 := ()
def tw5257916703883659372 := ()
def tw9531135746261607287 := ()
def tw16724242198269437393 := ()
def tw6487267635477288443 := ()
def tw13984024945302848240 := ()
def tw10722163606616794581 := ()
def tw7280920189609227609 := ()
def tw3047434912038300343 := ()
def tw6180697037615393999 := ()
def tw3531438923647210104 := ()
def tw8461706533067651829 := ()
def tw7609202297501424367 := ()
def tw18081408743258976936 := ()
def tw14812208850027649805 := ()
def tw7524310874551522894 := ()
def tw14044570638529937599 := ()
def tw8803636447434774821 := ()
def tw4129554339397624321 := ()
def tw7486733048139547522 := ()
def tw7061860149501222205 := ()
def tw476944153832663261 := ()
def tw4642126553431723722 := ()
def tw7227635316043554306 := ()
def tw5398260889377262083 := ()
def tw8436123321069655127 := ()
def tw15710081126676320972 := ()
def tw8859955776129850773 := ()
def tw5819649447825153202 := ()
def tw4616061250805082961 := ()
def tw5214819381561945845 := ()
def tw9619923666015815461 := ()
def tw9165253774144176858 := ()
def tw9590477411441764656 := ()
def tw4244310768733841939 := ()
def tw14746888792619378588 := ()
def tw7363469258091739145 := ()
def tw16053220521801252239 := ()
def tw13195226344703278586 := ()
def tw568988189568597747 := ()
def tw9241971033841006751 := ()
def tw4572538856663303463 := ()
def tw5848658470665074626 := ()
def tw17458264257689065507 := ()
def tw10626046238703822465 := ()
def tw8547001873568148698 := ()
def tw10702600211548028173 := ()
def tw16916937808102605230 := ()
def tw12283889023480804708 := ()
def tw9635496099947075162 := ()
def tw13845368843568527867 := ()
def tw17288354793718420175 := ()
def tw8255580201739887974 := ()
def tw2412062381237617332 := ()
def tw9294276398708757848 := ()
def tw14441895536234254873 := ()
def tw11437571773354331131 := ()
def tw16882238058925378295 := ()
def tw12156302444224685661 := ()
def tw7856750604859437411 := ()
def tw15411857570140150569 := ()
def tw5284658056647509371 := ()
def tw4758359514894744991 := ()
def tw14717881435783794154 := ()
def tw3080201257440971622 := ()
def tw12437873154407457912 := ()
def tw8961469180243022004 := ()
def tw3419242429509338106 := ()
def tw8315778314431496118 := ()
def tw18358710392386910147 := ()
def tw9116587767081624896 := ()
def tw2699964125785851484 := ()
def tw1976120803752934634 := ()
def tw5746732888217874202 := ()
def tw17534996584848092499 := ()
def tw207955435151451622 := ()
def tw4811608818312164680 := ()
def tw10302214410932313301 := ()
end PySem.W.Fast
open PySem PySem.W PyProof.Rows
set_option maxRecDepth 100000 in
set_option maxHeartbeats 0 in
theorem PySem.Challenge.cw_rollcode_k13_keys_turned_and_worn_holds : PySem.Challenge.rw_rollcode_k13_keys_turned_and_worn.Holds := by
  w_on; o_law; k_head; (case hw => w_witness2)
  k_fill
  refine Lw.walk (l := PySem.Challenge.rw_rollcode_k13_keys_turned_and_worn) rfl rfl (fun w h Y => PySem.W.kIn_of Y) ?F
  case F =>
    intro w mg fa h KX G hmg
    refine' Lw.all_mk KX G hmg ?aCB ?pgB ?hdB ?poB ?saB ?mkB ?kcB ?n_B_name ?n_B_table ?n_B_key ?n_B_age ?n_B_step ?n_B_next_count ?n_B_bound ?n_B_cells ?A0 ?A1 ?A2 ?A3 ?A4 ?A5 ?A6 ?A7 ?A8 ?A9 ?A10 ?A11 ?A12 ?A13 ?A14 ?A15 ?A16 ?A17 ?A18 ?A19 ?A20 ?A21 ?A22 ?A23 ?A24 ?A25 ?A26 ?A27 ?A28 ?A29 ?A30 ?a31 ?l31 ?c31 ?k31 ?yg0 ?yg1 ?yg2 ?yg3 ?z0 ?z1 ?z2 ?z3 ?z4 ?z5 ?z6 ?z7 ?z8 ?z9 ?z10 ?z11 ?z12 ?z13 ?z14 ?z15 ?xg0 ?xg1 ?xg2 ?xg3 ?xg4 ?xg5 ?xg6 ?xg7 ?xg8 ?xeE ?exw ?mxw ?bxw ?lxw ?gxw ?txw ?cxw ?ixwxb ?ixwxk ?ixwxf ?ixwxu ?ixwxt ?ixwxw ?ixwxl ?ixwxr ?vxw ?xnd ?xvb
    (case aCB => k_is)
    (case pgB => k_is)
    (case hdB => k_is)
    (case poB => k_is)
    (case saB => k_is)
    (case mkB => k_is)
    (case kcB => k_is)
    (case n_B_name => k_is)
    (case n_B_table => k_is)
    (case n_B_key => k_is)
    (case n_B_age => k_is)
    (case n_B_step => k_is)
    (case n_B_next_count => k_is)
    (case n_B_bound => k_is)
    (case n_B_cells => k_is)
    (case A0 => refine' L3.ac_mk KX G ?ya ?yl ?yc ?yk; (case ya => k_is); (case yl => k_is); (case yc => k_is); (case yk => k_is))
    (case A1 => refine' L3.ac_mk KX G ?ya ?yl ?yc ?yk; (case ya => k_is); (case yl => k_is); (case yc => k_is); (case yk => k_is))
    (case A2 => refine' L3.ac_mk KX G ?ya ?yl ?yc ?yk; (case ya => k_is); (case yl => k_is); (case yc => k_is); (case yk => k_is))
    (case A3 => refine' L3.ac_mk KX G ?ya ?yl ?yc ?yk; (case ya => k_is); (case yl => k_is); (case yc => k_is); (case yk => k_is))
    (case A4 => refine' L3.ac_mk KX G ?ya ?yl ?yc ?yk; (case ya => k_is); (case yl => k_is); (case yc => k_is); (case yk => k_is))
    (case A5 => refine' L3.acm_mk ?ya ?yi ?yl ?yc ?yk; (case ya => k_is); (case yi => k_is); (case yl => k_is); (case yc => k_is); (case yk => k_is))
    (case A6 => refine' L3.acm_mk ?ya ?yi ?yl ?yc ?yk; (case ya => k_is); (case yi => k_is); (case yl => k_is); (case yc => k_is); (case yk => k_is))
    (case A7 => refine' L3.acm_mk ?ya ?yi ?yl ?yc ?yk; (case ya => k_is); (case yi => k_is); (case yl => k_is); (case yc => k_is); (case yk => k_is))
    (case A8 => refine' L3.acm_mk ?ya ?yi ?yl ?yc ?yk; (case ya => k_is); (case yi => k_is); (case yl => k_is); (case yc => k_is); (case yk => k_is))
    (case A9 => refine' L3.acm_mk ?ya ?yi ?yl ?yc ?yk; (case ya => k_is); (case yi => k_is); (case yl => k_is); (case yc => k_is); (case yk => k_is))
    (case A10 => refine' L3.acm_mk ?ya ?yi ?yl ?yc ?yk; (case ya => k_is); (case yi => k_is); (case yl => k_is); (case yc => k_is); (case yk => k_is))
    (case A11 => refine' L3.acm_mk ?ya ?yi ?yl ?yc ?yk; (case ya => k_is); (case yi => k_is); (case yl => k_is); (case yc => k_is); (case yk => k_is))
    (case A12 => refine' L3.acm_mk ?ya ?yi ?yl ?yc ?yk; (case ya => k_is); (case yi => k_is); (case yl => k_is); (case yc => k_is); (case yk => k_is))
    (case A13 => refine' L3.acm_mk ?ya ?yi ?yl ?yc ?yk; (case ya => k_is); (case yi => k_is); (case yl => k_is); (case yc => k_is); (case yk => k_is))
    (case A14 => refine' L3.acm_mk ?ya ?yi ?yl ?yc ?yk; (case ya => k_is); (case yi => k_is); (case yl => k_is); (case yc => k_is); (case yk => k_is))
    (case A15 => refine' L3.acm_mk ?ya ?yi ?yl ?yc ?yk; (case ya => k_is); (case yi => k_is); (case yl => k_is); (case yc => k_is); (case yk => k_is))
    (case A16 => refine' L3.acm_mk ?ya ?yi ?yl ?yc ?yk; (case ya => k_is); (case yi => k_is); (case yl => k_is); (case yc => k_is); (case yk => k_is))
    (case A17 => refine' L3.ac_mk KX G ?ya ?yl ?yc ?yk; (case ya => k_is); (case yl => k_is); (case yc => k_is); (case yk => k_is))
    (case A18 => refine' L3.ac_mk KX G ?ya ?yl ?yc ?yk; (case ya => k_is); (case yl => k_is); (case yc => k_is); (case yk => k_is))
    (case A19 => refine' L3.ac_mk KX G ?ya ?yl ?yc ?yk; (case ya => k_is); (case yl => k_is); (case yc => k_is); (case yk => k_is))
    (case A20 => refine' L3.ac_mk KX G ?ya ?yl ?yc ?yk; (case ya => k_is); (case yl => k_is); (case yc => k_is); (case yk => k_is))
    (case A21 => refine' L3.ac_mk KX G ?ya ?yl ?yc ?yk; (case ya => k_is); (case yl => k_is); (case yc => k_is); (case yk => k_is))
    (case A22 => refine' L3.ac_mk KX G ?ya ?yl ?yc ?yk; (case ya => k_is); (case yl => k_is); (case yc => k_is); (case yk => k_is))
    (case A23 => refine' L3.ac_mk KX G ?ya ?yl ?yc ?yk; (case ya => k_is); (case yl => k_is); (case yc => k_is); (case yk => k_is))
    (case A24 => refine' L3.ac_mk KX G ?ya ?yl ?yc ?yk; (case ya => k_is); (case yl => k_is); (case yc => k_is); (case yk => k_is))
    (case A25 => refine' L3.ac_mk KX G ?ya ?yl ?yc ?yk; (case ya => k_is); (case yl => k_is); (case yc => k_is); (case yk => k_is))
    (case A26 => refine' L3.ac_mk KX G ?ya ?yl ?yc ?yk; (case ya => k_is); (case yl => k_is); (case yc => k_is); (case yk => k_is))
    (case A27 => refine' L3.ac_mk KX G ?ya ?yl ?yc ?yk; (case ya => k_is); (case yl => k_is); (case yc => k_is); (case yk => k_is))
    (case A28 => refine' L3.ac_mk KX G ?ya ?yl ?yc ?yk; (case ya => k_is); (case yl => k_is); (case yc => k_is); (case yk => k_is))
    (case A29 => refine' L3.ac_mk KX G ?ya ?yl ?yc ?yk; (case ya => k_is); (case yl => k_is); (case yc => k_is); (case yk => k_is))
    (case A30 => refine' L3.ac_mk KX G ?ya ?yl ?yc ?yk; (case ya => k_is); (case yl => k_is); (case yc => k_is); (case yk => k_is))
    (case a31 => k_is)
    (case l31 => k_is)
    (case c31 => k_is)
    (case k31 => k_is)
    (case yg0 => k_is)
    (case yg1 => k_is)
    (case yg2 => k_is)
    (case yg3 => k_is)
    (case z0 => k_is)
    (case z1 => k_is)
    (case z2 => k_is)
    (case z3 => k_is)
    (case z4 => k_is)
    (case z5 => k_is)
    (case z6 => k_is)
    (case z7 => k_is)
    (case z8 => k_is)
    (case z9 => k_is)
    (case z10 => k_is)
    (case z11 => k_is)
    (case z12 => k_is)
    (case z13 => k_is)
    (case z14 => k_is)
    (case z15 => k_is)
    (case xg0 => k_is)
    (case xg1 => k_is)
    (case xg2 => k_is)
    (case xg3 => k_is)
    (case xg4 => k_is)
    (case xg5 => k_is)
    (case xg6 => k_is)
    (case xg7 => k_is)
    (case xg8 => k_is)
    (case xeE => kernel_rfl)
    (case exw => kernel_rfl)
    (case mxw => kernel_rfl)
    (case bxw => kernel_rfl)
    (case lxw => kernel_rfl)
    (case gxw => kernel_rfl)
    (case txw => kernel_rfl)
    (case cxw => kernel_rfl)
    (case ixwxb => kernel_rfl)
    (case ixwxk => kernel_rfl)
    (case ixwxf => kernel_rfl)
    (case ixwxu => kernel_rfl)
    (case ixwxt => kernel_rfl)
    (case ixwxw => kernel_rfl)
    (case ixwxl => kernel_rfl)
    (case ixwxr => kernel_rfl)
    (case vxw => kernel_rfl)
    (case xnd => decide)
    (case xvb => k_is)
