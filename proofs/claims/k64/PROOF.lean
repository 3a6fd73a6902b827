import PyProof.Rows.All
import Wide.All
import OpenK.AllK
import Wide.FinOn
import Lean
import PyProof.EqAt
import PyProof.EqKinds
import PyProof.TupleCall
import PySem.Challenge.RW_rollcode_k64_whole_counts_only_rise
import PyProof.AttrMissHeap
import PyProof.Rows.SetFrom
import KE.KDictOf
import PyProof.DictWalks
import PyProof.Rows.DictUnroll
import PyProof.StationsW
import PyProof.ExcClass2
import OpenK.KOwn
import PyProof.ExcBaseAll.ValueError
import PyProof.RulesAs
import PyProof.NsDelKeeps
import PyProof.Rows.Catch
import KE.KIsAll
import PyProof.ExcArgsOwn
import PyProof.Rows.CatchOwn
import PyProof.ExcAttrAll.ValueError
set_option Elab.async false
set_option maxRecDepth 100000
set_option maxHeartbeats 4000000
set_option linter.unusedVariables false
set_option linter.all false
namespace L2
open PySem PySem.Spec PyProof.Rows
abbrev Key := Sum Int Str
def keyIs : Key → Value → Bool
  | .inl k, v => Value.isInt k v
  | .inr x, v => Value.isStrOf x v
def keyH (w : World) : Key → Int
  | .inl k => hashInt k
  | .inr x => hashStr w x
theorem keyIs_shape : ∀ {k : Key} {v : Value}, keyIs k v = true → (∃ i t, k = Sum.inl i ∧ v = Value.int i t) ∨ (∃ x t, k = Sum.inr x ∧ v = Value.str x t)
  | .inl i, v, h => by
    obtain ⟨t, e⟩ := Value.isInt_shape (k := i) (v := v) h
    exact .inl ⟨i, t, rfl, e⟩
  | .inr x, v, h => by
    obtain ⟨t, e⟩ := Value.isStrOf_shape (x := x) (v := v) h
    exact .inr ⟨x, t, rfl, e⟩
theorem keyIs_int (i : Int) (t : Tok) : keyIs (.inl i) (.int i t) = true := by simp [keyIs, Value.isInt]
theorem keyIs_str (x : Str) (t : Tok) : keyIs (.inr x) (.str x t) = true := by simp [keyIs, Value.isStrOf]
theorem key_ll (a b : Int) : decide ((Sum.inl a : Key) = Sum.inl b) = (a == b) := by
  by_cases e : a = b
  · subst e; simp
  · have h : ¬ (Sum.inl a : Key) = Sum.inl b := fun q => e (Sum.inl.inj q)
    rw [decide_eq_false h]
    exact (beq_eq_false_iff_ne.mpr e).symm
theorem key_rr (a b : Str) : decide ((Sum.inr a : Key) = Sum.inr b) = decide (a = b) := by
  by_cases e : a = b
  · subst e; simp
  · have h : ¬ (Sum.inr a : Key) = Sum.inr b := fun q => e (Sum.inr.inj q)
    rw [decide_eq_false h, decide_eq_false e]
theorem key_lr (a : Int) (b : Str) : decide ((Sum.inl a : Key) = Sum.inr b) = false := decide_eq_false (fun q => nomatch q)
theorem key_rl (a : Str) (b : Int) : decide ((Sum.inr a : Key) = Sum.inl b) = false := decide_eq_false (fun q => nomatch q)
def mixKind (prog : Program) (w : World) : PySem.KeyKind prog w Key where
  is := keyIs
  hash := keyH w
  inj := fun v a b ha hb => by
    rcases keyIs_shape ha with ⟨i, t, rfl, rfl⟩ | ⟨x, t, rfl, rfl⟩
    · rcases keyIs_shape hb with ⟨j, u, rfl, e⟩ | ⟨y, u, rfl, e⟩
      · injection e with e1 _; rw [e1]
      · exact nomatch e
    · rcases keyIs_shape hb with ⟨j, u, rfl, e⟩ | ⟨y, u, rfl, e⟩
      · exact nomatch e
      · injection e with e1 _; rw [e1]
  byValue := fun k v h => by
    rcases keyIs_shape h with ⟨i, t, rfl, rfl⟩ | ⟨x, t, rfl, rfl⟩ <;> rfl
  pyHash := fun hv h => by
    rcases keyIs_shape hv with ⟨i, t, rfl, rfl⟩ | ⟨x, t, rfl, rfl⟩
    · exact wpAny_pyHash_int h
    · exact wpAny_pyHash_str h
  eqBool := fun hu hv h => by
    rcases keyIs_shape hu with ⟨i, t, rfl, rfl⟩ | ⟨x, t, rfl, rfl⟩
    · rcases keyIs_shape hv with ⟨j, u, rfl, rfl⟩ | ⟨y, u, rfl, rfl⟩
      · rw [key_ll] at h; exact wpAny_eqBool_int h
      · rw [key_lr] at h; exact SeqAt.EqAt.int_str i t y u _ _ _ _ h
    · rcases keyIs_shape hv with ⟨j, u, rfl, rfl⟩ | ⟨y, u, rfl, rfl⟩
      · rw [key_rl] at h; exact SeqAt.EqAt.str_int x t j u _ _ _ _ h
      · rw [key_rr] at h; exact wpAny_eqBool_str h
  «strs» := fun k x t v h => by
    rcases keyIs_shape h with ⟨i, u, rfl, e⟩ | ⟨y, u, rfl, e⟩
    · exact nomatch e
    · injection e with e1 _
      subst e1
      cases v <;> rfl
theorem mixKind_int (prog : Program) (w : World) (i : Int) (t : Tok) : (mixKind prog w).is (.inl i) (.int i t) = true := keyIs_int i t
theorem mixKind_str (prog : Program) (w : World) (x : Str) (t : Tok) : (mixKind prog w).is (.inr x) (.str x t) = true := keyIs_str x t
end L2
namespace L2
open PySem PySem.Spec PyProof.Rows
inductive V where
  | non | bl (b : Bool) | int (i : Int) | str (x : Str) | byt (b : Array UInt8) | flt (b : UInt64) | ref (a : Addr) | ty (n : String)
  deriving DecidableEq
def RelV : V → Value → Prop
  | .non, u => u = Value.none
  | .bl b, u => u = Value.bool b
  | .int i, u => ∃ t, u = Value.int i t
  | .str x, u => ∃ t, u = Value.str x t
  | .byt b, u => ∃ t, u = Value.bytes b t
  | .flt b, u => ∃ t, u = Value.float b t
  | .ref a, u => u = Value.ref a
  | .ty n, u => u = Value.type n
abbrev Vals : List V → List Value → Prop := Paired RelV
theorem Vals.length {xs : List V} {us : List Value} (r : Vals xs us) : xs.length = us.length := Paired.length r
theorem Vals.get : ∀ {xs : List V} {us : List Value} {i : Nat} {x : V}, Vals xs us → xs[i]? = some x → ∃ u, us[i]? = some u ∧ RelV x u
  | _, _, _, _, .nil, e => by simp at e
  | _, _, 0, _, .cons r _, e => by simp at e; subst e; exact ⟨_, rfl, r⟩
  | _, _, i + 1, x, .cons _ t, e => by
    obtain ⟨u, h1, h2⟩ := Vals.get (i := i) (x := x) t (by simpa using e)
    exact ⟨u, by simpa using h1, h2⟩
theorem Vals.set {x : V} {u : Value} (r : RelV x u) : ∀ {xs : List V} {us : List Value} (i : Nat), Vals xs us → Vals (xs.set i x) (us.set i u)
  | _, _, _, .nil => .nil
  | _, _, 0, .cons _ t => .cons r t
  | _, _, i + 1, .cons q t => .cons q (Vals.set r i t)
theorem Vals.append : ∀ {xs ys : List V} {us ws : List Value}, Vals xs us → Vals ys ws → Vals (xs ++ ys) (us ++ ws)
  | _, _, _, _, .nil, s => s
  | _, _, _, _, .cons r t, s => .cons r (Vals.append t s)
theorem Vals.take : ∀ {xs : List V} {us : List Value} (n : Nat), Vals xs us → Vals (xs.take n) (us.take n)
  | _, _, 0, _ => .nil
  | _, _, _ + 1, .nil => .nil
  | _, _, n + 1, .cons r t => .cons r (Vals.take n t)
theorem Vals.drop : ∀ {xs : List V} {us : List Value} (n : Nat), Vals xs us → Vals (xs.drop n) (us.drop n)
  | _, _, 0, r => r
  | _, _, _ + 1, .nil => .nil
  | _, _, n + 1, .cons _ t => Vals.drop n t
def RelO : Option V → Option Value → Prop
  | some v, some u => RelV v u
  | none, none => True
  | _, _ => False
def KV {κ : Type} : List (κ × V) → List (κ × Value) → Prop := Paired fun (p : κ × V) (q : κ × Value) => p.1 = q.1 ∧ RelV p.2 q.2
def kV : Key → V
  | .inl i => .int i
  | .inr x => .str x
inductive HO where
  /-- a list -/
  | lst (xs : List V)
  /-- a tuple (never changes) -/
  | tup (xs : List V)
  /-- a dict whose keys are ints and texts; one whose keys are tuples of ints and texts (the empty one is both) -/
  | dK (kvs : List (Key × V)) | dT (kvs : List (List Key × V))
  /-- a set of ints: its members, its size -/
  | set (S : Int → Bool) (n : Nat)
  /-- an instance of the class at C, its dict at dx, its attributes -/
  | ins (C dx : Addr) (fs : List (Str × V))
  /-- the dict of the instance at x -/
  | own (x : Addr)
  /-- the dict of an exception -/
  | xd (fs : List (Str × V))
  /-- a bound method, f of x -/
  | met (f x : Addr)
  /-- a range object lo, lo + 1, .. below hi -/
  | rng (lo hi : Int)
  /-- a thing that is known to the object (the script; a dict while a loop walks it): read, never written while it is so -/
  | frz (o : Obj) (u : HO)
  /-- a code object's table -/
  | tbl (ps : Array Value)
  /-- any other thing, by what is true of its one object (a def of one's own: SetO a S n := HO.ext fun h => ..) -/
  | ext (φ : Heap → Prop)
abbrev Hp := Addr → Option HO
def upd (H : Hp) (a : Addr) (o : HO) : Hp := fun b => if b = a then some o else H b
theorem upd_same {H : Hp} {a : Addr} {o : HO} : upd H a o a = some o := by unfold upd; rw [if_pos rfl]
theorem upd_ne {H : Hp} {a b : Addr} {o : HO} (h : b ≠ a) : upd H a o b = H b := by unfold upd; rw [if_neg h]
theorem ne_of {H : Hp} {a b : Addr} {o u : HO} (h : H a = some o) (h' : H b = some u) (d : o ≠ u) : a ≠ b := by
  intro e; subst e; rw [h] at h'; exact d (Option.some.inj h')
theorem ne_of_none {H : Hp} {a b : Addr} {o : HO} (h : H a = some o) (h' : H b = none) : a ≠ b := by
  intro e; subst e; rw [h] at h'; cases h'
section
variable (P : Program) (w : World)
def ObjOk (H : Hp) (h : Heap) (a : Addr) : HO → Prop
  | .lst xs => xs.length ≤ sizeLine ∧ ∃ (its : List Value) (n : Nat), Vals xs its ∧ h.get? a = some { cls := .type "list", data := .seq its.toArray n }
  | .tup xs => xs.length ≤ sizeLine ∧ ∃ its : List Value, Vals xs its ∧ IsTup h a its.toArray
  | .dK kvs => kvs.length ≤ sizeLine ∧ (a == sysModules) = false ∧ ∃ vs, KV kvs vs ∧ h.DictOf (mixKind P w) a vs
  | .dT kvs => kvs.length ≤ sizeLine ∧ (a == sysModules) = false ∧ ∃ xs : List (List Key × Addr × Value),
      Paired (fun (p : List Key × V) (q : List Key × Addr × Value) => p.1 = q.1 ∧ H q.2.1 = some (.tup (p.1.map kV)) ∧ RelV p.2 q.2.2) kvs xs ∧
      ∃ o es ep, h.get? a = some o ∧ o.ExactDict ∧ o.data = .dict es ep ∧ es.toList = xs.map (entryOfKey (tupleKind (mixKind P w))) ∧ (xs.map (·.1)).Nodup
  | .set S n => h.SetOf (intKind P w) a S n
  | .ins C dx fs => H dx = some (.own a) ∧ fs.length ≤ 1000 ∧ dx ≠ a ∧ h.get? a = some (PySem.W.instObj C dx) ∧
      ∃ mA, h.Ns1 dx mA ∧ (∀ f, RelO (fs.lookup f) (mA f)) ∧ PySem.Within mA (fs.map (·.1))
  | .own _ => ∃ o, h.get? a = some o
  | .xd fs => ∃ mA, h.Ns1 a mA ∧ ∀ f, RelO (fs.lookup f) (mA f)
  | .rng lo hi => ∃ t u v, h.get? a = some { cls := .type "range", data := .fields #[.int lo t, .int hi u, .int 1 v] }
  | .frz o u => h.get? a = some o ∧ ObjOk H h a u
  | .tbl ps => h.get? a = some { cls := .none, data := .fields ps }
  | .met f x => h.get? a = some (PySem.W.methodObj (.ref f) (.ref x))
  | .ext φ => φ h ∧ (∃ o, h.get? a = some o) ∧ ∀ h1 h2 : Heap, φ h1 → (∀ o, h1.get? a = some o → h2.get? a = some o) → φ h2
def HOk (H : Hp) (h : Heap) : Prop := ∀ a o, H a = some o → ObjOk P w H h a o
end
section
variable {P : Program} {w : World} {H H' : Hp} {h h' : Heap} {a : Addr} {o : HO}
theorem ObjOk.lt (x : ObjOk P w H h a o) : a < h.objs.size := by
  cases o with
  | lst xs => obtain ⟨_, _, _, _, e⟩ := x; exact Heap.lt_size e
  | tup xs => obtain ⟨_, _, _, p⟩ := x; exact p.lt
  | dK kvs => obtain ⟨_, _, _, _, o, _, _, e, _⟩ := x; exact Heap.lt_size e
  | dT kvs => obtain ⟨_, _, _, _, o, _, _, e, _⟩ := x; exact Heap.lt_size e
  | set S n => obtain ⟨o, _, _, _, e, _⟩ := x; exact Heap.lt_size e
  | ins C dx fs => obtain ⟨_, _, _, e, _⟩ := x; exact Heap.lt_size e
  | own y => obtain ⟨_, e⟩ := x; exact Heap.lt_size e
  | xd fs => obtain ⟨_, ⟨_, _, _, e, _⟩, _⟩ := x; exact Heap.lt_size e
  | rng lo hi => obtain ⟨_, _, _, e⟩ := x; exact Heap.lt_size e
  | frz ob u => obtain ⟨e, _⟩ := x; exact Heap.lt_size e
  | tbl ps => exact Heap.lt_size (show h.get? a = some _ from x)
  | met f y => exact Heap.lt_size (show h.get? a = some _ from x)
  | ext φ => obtain ⟨_, ⟨_, e⟩, _⟩ := x; exact Heap.lt_size e
theorem Paired.mapP {α β : Type} {F G : α → β → Prop} : ∀ {l₁ : List α} {l₂ : List β}, Paired F l₁ l₂ → (∀ a b, F a b → G a b) → Paired G l₁ l₂
  | _, _, .nil, _ => .nil
  | _, _, .cons r t, f => .cons (f _ _ r) (Paired.mapP t f)
theorem ObjOk.stay (x : ObjOk P w H h a o) (k : ∀ b u, (b = a ∨ H b = some (.own a)) → h.get? b = some u → h'.get? b = some u)
    (ho : ∀ b, H b = some (.own a) → H' b = some (.own a)) (ht : ∀ b xs, H b = some (.tup xs) → H' b = some (.tup xs)) : ObjOk P w H' h' a o := by
  induction o with
  | lst xs => obtain ⟨z, its, n, r, e⟩ := x; exact ⟨z, its, n, r, k _ _ (.inl rfl) e⟩
  | tup xs => obtain ⟨z, its, r, ob, e, c⟩ := x; exact ⟨z, its, r, ob, k _ _ (.inl rfl) e, c⟩
  | dK kvs => obtain ⟨z, y, vs, r, ob, es, ep, e, c⟩ := x; exact ⟨z, y, vs, r, ob, es, ep, k _ _ (.inl rfl) e, c⟩
  | dT kvs =>
    obtain ⟨z, y, xs, r, ob, es, ep, e, c⟩ := x
    exact ⟨z, y, xs, Paired.mapP r fun p q z => ⟨z.1, ht _ _ z.2.1, z.2.2⟩, ob, es, ep, k _ _ (.inl rfl) e, c⟩
  | set S n => obtain ⟨ob, es, ep, t, e, c⟩ := x; exact ⟨ob, es, ep, t, k _ _ (.inl rfl) e, c⟩
  | ins C dx fs =>
    obtain ⟨d, z, ne, e, mA, ⟨od, es, ep, e2, c⟩, r⟩ := x
    exact ⟨ho _ d, z, ne, k _ _ (.inl rfl) e, mA, ⟨od, es, ep, k _ _ (.inr d) e2, c⟩, r⟩
  | own y => obtain ⟨ob, e⟩ := x; exact ⟨ob, k _ _ (.inl rfl) e⟩
  | xd fs => obtain ⟨mA, ⟨od, es, ep, e, c⟩, r⟩ := x; exact ⟨mA, ⟨od, es, ep, k _ _ (.inl rfl) e, c⟩, r⟩
  | rng lo hi => obtain ⟨t, u, v, e⟩ := x; exact ⟨t, u, v, k _ _ (.inl rfl) e⟩
  | frz ob u ih => obtain ⟨e, q⟩ := x; exact ⟨k _ _ (.inl rfl) e, ih q⟩
  | tbl ps =>
    have e : h.get? a = some { cls := .none, data := .fields ps } := x
    show h'.get? a = some { cls := .none, data := .fields ps }
    exact k a _ (.inl rfl) e
  | met f y =>
    have e : h.get? a = some (PySem.W.methodObj (.ref f) (.ref y)) := x
    show h'.get? a = some (PySem.W.methodObj (.ref f) (.ref y))
    exact k a _ (.inl rfl) e
  | ext φ => obtain ⟨p, ⟨o, e⟩, st⟩ := x; exact ⟨st _ _ p fun o q => k _ _ (.inl rfl) q, ⟨o, k _ _ (.inl rfl) e⟩, st⟩
theorem HOk.lt (x : HOk P w H h) (e : H a = some o) : a < h.objs.size := (x a o e).lt
theorem HOk.fresh (x : HOk P w H h) (e : h.objs.size ≤ a) : H a = none := by
  cases q : H a with
  | none => rfl
  | some u => exact absurd (Nat.lt_of_lt_of_le (x.lt q) e) (Nat.lt_irrefl _)
theorem HOk.kept (x : HOk P w H h) (k : ∀ b u, h.get? b = some u → h'.get? b = some u) : HOk P w H h' := fun a o e =>
  (x a o e).stay (fun b u _ q => k b u q) (fun _ q => q) fun _ _ q => q
theorem HOk.laid (x : HOk P w H h) (k : ∀ b u, h.get? b = some u → h'.get? b = some u) (hp : h.objs.size ≤ a) (new : ObjOk P w (upd H a o) h' a o) : HOk P w (upd H a o) h' := fun b u e => by
  have hn := x.fresh hp
  by_cases hb : b = a
  · subst hb; rw [upd_same] at e; cases e; exact new
  · rw [upd_ne hb] at e
    exact (x b u e).stay (fun c v _ q => k c v q) (fun c q => by rw [upd_ne (ne_of_none q hn)]; exact q) fun c xs q => by rw [upd_ne (ne_of_none q hn)]; exact q
end
def Rd (H : Hp) (a : Addr) (u : HO) : Prop := H a = some u ∨ ∃ o, H a = some (.frz o u)
theorem Rd.ok {P : Program} {w : World} {H : Hp} {h : Heap} {a : Addr} {u : HO} (r : Rd H a u) (x : HOk P w H h) : ObjOk P w H h a u := by
  rcases r with r | ⟨o, r⟩
  · exact x a u r
  · obtain ⟨_, q⟩ := x a _ r
    exact q
def Mut : Option HO → Prop
  | some (.lst _) => True
  | some (.dK _) => True
  | some (.dT _) => True
  | some (.set _ _) => True
  | some (.ins _ _ _) => True
  | some (.ext _) => True
  | _ => False
section
variable {P : Program} {w : World} {H : Hp} {h h' : Heap} {x e : Addr} {o' : HO}
theorem HOk.write (ok : HOk P w H h) (mu : Mut (H x)) (he : e = x ∨ H e = some (.own x)) (k : ∀ b u, b ≠ e → h.get? b = some u → h'.get? b = some u) (heo : ∃ u, h'.get? e = some u)
    (new : ObjOk P w (upd H x o') h' x o') : HOk P w (upd H x o') h' := fun b u q => by
  have nown : ∀ c y, H c = some (.own y) → c ≠ x := fun c y r z => by subst z; rw [r] at mu; exact mu
  have ntup : ∀ c xs, H c = some (.tup xs) → c ≠ x := fun c xs r z => by subst z; rw [r] at mu; exact mu
  by_cases hb : b = x
  · subst hb; rw [upd_same] at q; cases q; exact new
  · rw [upd_ne hb] at q
    by_cases hbe : b = e
    · have q' : H b = some (.own x) := by
        rcases he with z | z
        · exact absurd (hbe.trans z) hb
        · rw [hbe]; exact z
      rw [q] at q'; cases q'
      obtain ⟨v, hv⟩ := heo
      exact ⟨v, by rw [hbe]; exact hv⟩
    · refine (ok b u q).stay (fun c v hc r => k c v ?_ r) (fun c r => by rw [upd_ne (nown c b r)]; exact r) fun c xs r => by rw [upd_ne (ntup c xs r)]; exact r
      rcases hc with rfl | hc
      · exact hbe
      · rintro rfl
        rcases he with z | z
        · exact nown c b hc z
        · rw [hc] at z; cases z; exact hb rfl
end
structure Un (fs ex : List Addr) (H H' : Hp) (h h' : Heap) : Prop where
  keep : ∀ b o, h.get? b = some o → H b = none → b ∉ fs → b ∉ ex → h'.get? b = some o
  slot : ∀ b o, h.get? b = some o → H b = none → b ∈ fs → b ∉ ex → ∃ sl, h'.get? b = some { o with slots := sl }
  free : ∀ b o, h.get? b = some o → H b = none → b ∉ ex → H' b = none
  there : ∀ b o, h.get? b = some o → b ∉ ex → ∃ o', h'.get? b = some o'
  tups : ∀ b xs, H b = some (.tup xs) → H' b = some (.tup xs)
  frzs : ∀ b o u, H b = some (.frz o u) → H' b = some (.frz o u)
  tbls : ∀ b ps, H b = some (.tbl ps) → ∃ more, H' b = some (.tbl (ps ++ more))
section
variable {fs fs' ex ex' : List Addr} {H H1 H2 : Hp} {h h1 h2 h' : Heap} {a x e : Addr} {o : HO}
theorem Un.any (u : Un fs ex H H1 h h1) {b : Addr} {ob : Obj} (q : h.get? b = some ob) (n : H b = none) (hx : b ∉ ex) : ∃ sl, h1.get? b = some { ob with slots := sl } := by
  by_cases hb : b ∈ fs
  · exact u.slot b ob q n hb hx
  · exact ⟨ob.slots, u.keep b ob q n hb hx⟩
theorem Un.kept (k : ∀ b u, h.get? b = some u → h'.get? b = some u) : Un fs ex H H h h' :=
  ⟨fun b ob q _ _ _ => k b ob q, fun b ob q _ _ _ => ⟨ob.slots, k b ob q⟩, fun _ _ _ n _ => n, fun b ob q _ => ⟨ob, k b ob q⟩, fun _ _ q => q, fun _ _ _ q => q, fun _ ps q => ⟨#[], by rw [q]; simp⟩⟩
theorem Un.refl : Un fs ex H H h h := Un.kept fun _ _ q => q
theorem Un.laid (k : ∀ b u, h.get? b = some u → h'.get? b = some u) (hp : h.objs.size ≤ a) (hn : H a = none) : Un fs ex H (upd H a o) h h' where
  keep := fun b u q _ _ _ => k b u q
  slot := fun b u q _ _ _ => ⟨u.slots, k b u q⟩
  free := fun b u q n _ => by rw [upd_ne (Nat.ne_of_lt (Nat.lt_of_lt_of_le (Heap.lt_size q) hp))]; exact n
  there := fun b u q _ => ⟨u, k b u q⟩
  tups := fun b xs q => by rw [upd_ne (ne_of_none q hn)]; exact q
  frzs := fun b u xs q => by rw [upd_ne (ne_of_none q hn)]; exact q
  tbls := fun b ps q => ⟨#[], by rw [upd_ne (ne_of_none q hn), q]; simp⟩
theorem Un.write (mu : Mut (H x)) (he : e = x ∨ H e = some (.own x)) (k : ∀ b u, b ≠ e → h.get? b = some u → h'.get? b = some u) (heo : ∃ u, h'.get? e = some u) : Un fs ex H (upd H x o) h h' := by
  have hx : ∀ b, H b = none → b ≠ x := fun b n z => by subst z; rw [n] at mu; exact mu
  have hb : ∀ b, H b = none → b ≠ e := fun b n z => by
    subst z
    rcases he with r | r
    · exact hx b n r
    · rw [n] at r; cases r
  have hm : ∀ b u, H b = some u → ¬ Mut (some u) → b ≠ x := fun b u q nm z => by subst z; rw [q] at mu; exact nm mu
  refine ⟨fun b u q n _ _ => k b u (hb b n) q, fun b u q n _ _ => ⟨u.slots, k b u (hb b n) q⟩, fun b u q n _ => by rw [upd_ne (hx b n)]; exact n, fun b u q _ => ?_,
    fun b xs q => by rw [upd_ne (hm b _ q fun z => z)]; exact q, fun b u xs q => by rw [upd_ne (hm b _ q fun z => z)]; exact q, fun b ps q => ⟨#[], by rw [upd_ne (hm b _ q fun z => z), q]; simp⟩⟩
  by_cases hbe : b = e
  · subst hbe; exact heo
  · exact ⟨u, k b u hbe q⟩
end
def trk (h : Heap) (H : Hp) : List Addr := (List.range h.objs.size).filter fun a => (H a).isSome
def hidT (h : Heap) (H : Hp) : Heap := PySem.W.hideAll h (trk h H)
theorem hidT_size (h : Heap) (H : Hp) : (hidT h H).objs.size = h.objs.size := PySem.W.hideAll_size _ _
theorem hidT_get {h : Heap} {H : Hp} {b : Addr} {o : Obj} (e : h.get? b = some o) (n : H b = none) : (hidT h H).get? b = some o :=
  PySem.W.hideAll_get _ e fun hm => by
    have q : (H b).isSome = true := (List.mem_filter.mp hm).2
    rw [n] at q; simp at q
theorem of_hidT {h : Heap} {H : Hp} {b : Addr} {o : Obj} (e : (hidT h H).get? b = some o) : h.get? b = some o ∧ H b = none := by
  have e' : h.get? b = some o := PySem.W.of_hideAll (trk h H) e
  refine ⟨e', ?_⟩
  cases q : H b with
  | none => rfl
  | some x =>
    have hm : b ∈ trk h H := List.mem_filter.mpr ⟨List.mem_range.mpr (Heap.lt_size e'), by simp [q]⟩
    have z : (hidT h H).get? b = none := PySem.W.hideAll_none (trk h H) hm
    rw [z] at e; cases e
end L2
namespace L2
open PySem PySem.Spec PyProof.Rows
structure Mod (K : PySem.W.Frag) (mg : Str → Option Value) (base : Heap) : Prop where
  kin : K.In base
  glob : base.Ns mainGlobals mg
  blt : ∃ mb, base.Ns builtinsNs mb ∧ ∀ x : Str, x ≠ "__name__" → mb x = bootBuiltins x
  nolimit : base.NoLimit
structure Cx where
  prog : Program
  w : World
  K : PySem.W.Frag
  mg : Str → Option Value
  base : Heap
  A : Around
  N : List Str
  s₀ : Shared
  H₀ : Hp
  env : Env
  outer : List Env
  stack : List Env
  ex : List Addr
  fn : Str → Bool
  calm : Bool
  pn : List (Addr × Obj)
  xe : Value → Shared → Prop
def frs (l : List Env) : List Addr := l.filterMap (·.frame)
abbrev Cx.fs (X : Cx) : List Addr := frs X.outer
def Vis (sc : Scope) (x : Str) : Prop := sc.names.lookup x = some .local ∨ sc.names.lookup x = some .cell ∨ sc.names.lookup x = some .free
def Loc (sc : Scope) (x : Str) : Prop := sc.names.lookup x = some .local ∨ sc.names.lookup x = some .cell
def Look (env : Env) (h : Heap) (m : Str → Option Value) (x : Str) (u : Value) : Prop :=
  (env.kindOf x = some .local ∧ m x = some u) ∨ ((env.kindOf x = some .cell ∨ env.kindOf x = some .free) ∧ ∃ c, env.cells.lookup x = some c ∧ h.IsCell c (some u))
structure Cx.Ok (X : Cx) : Prop where
  mod : Mod X.K X.mg X.base
  kind : X.env.scope.kind = .function
  glob : X.env.globals = mainGlobals
  blt : X.env.builtins = builtinsNs
  above : X.s₀.heap.objs.size ≤ X.env.locals
  inj : ∀ x y c, X.env.cells.lookup x = some c → X.env.cells.lookup y = some c → x = y
  has : ∀ x, (X.env.kindOf x = some .cell ∨ X.env.kindOf x = some .free) → ∃ c, X.env.cells.lookup x = some c
  cab : ∀ x c, X.fn x = true → X.env.cells.lookup x = some c → X.s₀.heap.objs.size ≤ c
  hd : X.calm = true → X.A.handled = none
  frames : X.A.frames = some X.stack
  stk : X.stack = X.outer ∨ (X.stack = X.env :: X.outer ∧ X.env.frame = some X.env.locals)
  exf : ∀ b ∈ X.ex, b ≠ X.env.locals ∧ ∀ x c, X.env.cells.lookup x = some c → c ≠ b
  bs : ∀ b o, X.base.get? b = some o → X.s₀.heap.get? b = some o ∧ X.H₀ b = none
  bsz : X.base.objs.size ≤ X.s₀.heap.objs.size
  noex : ∀ b o, X.base.get? b = some o → b ∉ X.ex
  exfs : ∀ b ∈ X.ex, b ∉ X.fs
  funs : X.s₀.heap.FunFrames X.base X.outer
  frf : ∀ b ∈ X.fs, X.H₀ b = none
structure Inv (X : Cx) (pins : List (Addr × Obj)) (σ : List (Option V)) (H : Hp) (s : Shared) : Prop where
  ok : X.Ok
  os : s.os = X.s₀.os
  bare : AllBare s.gens
  base : Un X.fs X.ex X.H₀ H X.s₀.heap s.heap
  loc : ∃ m, s.heap.Ns X.env.locals m ∧ ∀ (i : Nat) (x : Str) (v : V), X.N[i]? = some x → σ[i]? = some (some v) → Vis X.env.scope x → ∃ u, RelV v u ∧ Look X.env s.heap m x u
  cell : ∀ x c, X.env.cells.lookup x = some c → ∃ v, s.heap.IsCell c v
  free : H X.env.locals = none
  freeC : ∀ x c, X.env.cells.lookup x = some c → H c = none
  pin : ∀ p ∈ X.pn ++ pins, s.heap.get? p.1 = some p.2 ∧ H p.1 = none ∧ p.1 ≠ X.env.locals ∧ p.1 ∉ X.fs ∧ ∀ v, p.2.data ≠ .cell v
  hok : HOk X.prog X.w H s.heap
  len : σ.length = X.N.length
section
variable {X : Cx} {pins : List (Addr × Obj)} {σ : List (Option V)} {H H' : Hp} {s : Shared} {h' : Heap}
theorem Cx.Ok.nofr (ok : X.Ok) {b : Addr} {o : Obj} (e : X.base.get? b = some o) : b ∉ X.fs := fun hb => by
  have := (ok.funs.mem hb).1
  rw [e] at this; cases this
theorem Inv.bs (I : Inv X pins σ H s) : ∀ b o, X.base.get? b = some o → s.heap.get? b = some o ∧ H b = none := fun b o e =>
  ⟨I.base.keep b o (I.ok.bs b o e).1 (I.ok.bs b o e).2 (I.ok.nofr e) (I.ok.noex b o e), I.base.free b o (I.ok.bs b o e).1 (I.ok.bs b o e).2 (I.ok.noex b o e)⟩
theorem Inv.bk (I : Inv X pins σ H s) : ∀ b o, X.base.get? b = some o → s.heap.get? b = some o := fun b o e => (I.bs b o e).1
theorem Inv.mod (I : Inv X pins σ H s) : Mod X.K X.mg X.base := I.ok.mod
theorem Inv.kIn (I : Inv X pins σ H s) : X.K.In s.heap := I.ok.mod.kin.keeps I.bk
theorem Inv.lt (I : Inv X pins σ H s) : X.env.locals < s.heap.objs.size := let ⟨_, hn, _⟩ := I.loc; hn.lt
theorem Inv.sz (I : Inv X pins σ H s) : X.s₀.heap.objs.size ≤ s.heap.objs.size := Nat.le_trans I.ok.above (Nat.le_of_lt I.lt)
theorem Inv.nofs (I : Inv X pins σ H s) {a : Addr} (h : s.heap.objs.size ≤ a) : a ∉ X.fs := fun hb => by
  obtain ⟨_, o, ho, _⟩ := I.ok.funs.mem hb
  exact absurd (Nat.lt_of_lt_of_le (Heap.lt_size ho) (Nat.le_trans I.sz h)) (Nat.lt_irrefl _)
theorem Inv.cne (I : Inv X pins σ H s) : ∀ x c, X.env.cells.lookup x = some c → c ≠ X.env.locals := fun x c e z => by
  obtain ⟨v, o, ho, hd⟩ := I.cell x c e
  obtain ⟨m, ⟨o', es, ep, ho', hd', _⟩, _⟩ := I.loc
  rw [z, ho'] at ho; cases ho; rw [hd'] at hd; cases hd
theorem Inv.funs (I : Inv X pins σ H s) : s.heap.FunFrames X.base X.outer := by
  have all : ∀ (l : List Env), (∀ b ∈ frs l, b ∈ X.fs) → X.s₀.heap.FunFrames X.base l → s.heap.FunFrames X.base l := by
    intro l
    induction l with
    | nil => intro _ _; trivial
    | cons env r ih =>
      intro hs hl
      obtain ⟨hk, ⟨L, o, hf, hn, ho, hd⟩, hr⟩ := hl
      have hL : L ∈ X.fs := hs L (by unfold frs; rw [List.filterMap_cons, hf]; exact List.mem_cons_self)
      obtain ⟨sl, e⟩ := I.base.slot L o ho (I.ok.frf L hL) hL fun z => I.ok.exfs L z hL
      exact ⟨hk, ⟨L, _, hf, hn, e, hd⟩, ih (fun b hb => hs b (by unfold frs; rw [List.filterMap_cons, hf]; exact List.mem_cons_of_mem _ hb)) hr⟩
  exact all X.outer (fun _ hb => hb) I.ok.funs
theorem Inv.stack (I : Inv X pins σ H s) : s.heap.FunFrames X.base X.stack := by
  rcases I.ok.stk with e | ⟨e, hf⟩
  · rw [e]; exact I.funs
  · rw [e]
    obtain ⟨m, hn, _⟩ := I.loc
    refine .cons (by rw [I.ok.kind]; decide) hf hn ?_ I.funs
    exact Heap.get?_none_of_le (Nat.le_trans I.ok.bsz I.ok.above)
theorem Inv.stkSub (I : Inv X pins σ H s) : ∀ b ∈ frs X.stack, b ∈ X.env.locals :: X.fs := fun b hb => by
  rcases I.ok.stk with e | ⟨e, hf⟩
  · rw [e] at hb; exact List.mem_cons_of_mem _ hb
  · rw [e] at hb
    unfold frs at hb
    rw [List.filterMap_cons, hf] at hb
    exact hb
theorem Inv.stkFree (I : Inv X pins σ H s) : ∀ b ∈ frs X.stack, H b = none := fun b hb => by
  rcases List.mem_cons.mp (I.stkSub b hb) with e | hb
  · rw [e]; exact I.free
  · obtain ⟨_, o, ho, _⟩ := I.ok.funs.mem hb
    exact I.base.free b o ho (I.ok.frf b hb) fun z => I.ok.exfs b z hb
theorem Inv.step {g' : Array GenState} {t' : Nat} {d' : Drawn} {ch : List Addr} (I : Inv X pins σ H s)
    (hch : ∀ b ∈ ch, (b ∈ X.ex ∨ X.s₀.heap.objs.size ≤ b) ∧ b ≠ X.env.locals ∧ (∀ x c, X.env.cells.lookup x = some c → c ≠ b) ∧ ∀ p ∈ X.pn ++ pins, p.1 ≠ b)
    (keep : ∀ b o, b ≠ X.env.locals → b ∉ X.fs → b ∉ ch → s.heap.get? b = some o → H b = none → h'.get? b = some o)
    (slot : ∀ b o, b ≠ X.env.locals → b ∈ X.fs → b ∉ ch → s.heap.get? b = some o → H b = none → ∃ sl, h'.get? b = some { o with slots := sl }) (free : ∀ b o, b ∉ ch → s.heap.get? b = some o → H b = none → H' b = none)
    (there : ∀ b o, b ∉ ch → s.heap.get? b = some o → ∃ o', h'.get? b = some o')
    (tups : ∀ b xs, H b = some (.tup xs) → H' b = some (.tup xs)) (frzs : ∀ b o u, H b = some (.frz o u) → H' b = some (.frz o u)) (tbls : ∀ b ps, H b = some (.tbl ps) → ∃ more, H' b = some (.tbl (ps ++ more)))
    (ns : ∀ m, s.heap.Ns X.env.locals m → h'.Ns X.env.locals m) (hok : HOk X.prog X.w H' h') (hg : AllBare g') :
    Inv X pins σ H' { s with heap := h', gens := g', drawn := d', toks := t' } := by
  have neL : ∀ b o, X.s₀.heap.get? b = some o → b ≠ X.env.locals := fun b o e => Nat.ne_of_lt (Nat.lt_of_lt_of_le (Heap.lt_size e) I.ok.above)
  have neC : ∀ b o, X.s₀.heap.get? b = some o → b ∉ X.ex → b ∉ ch := fun b o e hx hb => by
    rcases (hch b hb).1 with z | z
    · exact hx z
    · exact absurd (Nat.lt_of_lt_of_le (Heap.lt_size e) z) (Nat.lt_irrefl _)
  have cellK : ∀ x c, X.env.cells.lookup x = some c → ∀ v, s.heap.IsCell c v → h'.IsCell c v := fun x c e v ⟨o, ho, hd⟩ => by
    have nch : c ∉ ch := fun z => (hch c z).2.2.1 x c e rfl
    by_cases hc : c ∈ X.fs
    · obtain ⟨sl, q⟩ := slot c o (I.cne x c e) hc nch ho (I.freeC x c e)
      exact ⟨_, q, hd⟩
    · exact ⟨o, keep c o (I.cne x c e) hc nch ho (I.freeC x c e), hd⟩
  refine ⟨I.ok, I.os, hg, ⟨fun b o e n hb hx => ?_, fun b o e n hb hx => ?_, fun b o e n hx => ?_, fun b o e hx => ?_, fun b xs e => tups b xs (I.base.tups b xs e), fun b o xs e => frzs b o xs (I.base.frzs b o xs e), fun b ps e => ?_⟩, ?_, fun x c e => ?_, ?_, fun x c e => ?_, fun p hp => ?_, hok, I.len⟩
  · exact keep b o (neL b o e) hb (neC b o e hx) (I.base.keep b o e n hb hx) (I.base.free b o e n hx)
  · obtain ⟨sl, e1⟩ := I.base.slot b o e n hb hx
    obtain ⟨sl', e2⟩ := slot b _ (neL b o e) hb (neC b o e hx) e1 (I.base.free b o e n hx)
    exact ⟨sl', e2⟩
  · obtain ⟨o', e1⟩ := I.base.there b o e hx
    exact free b o' (neC b o e hx) e1 (I.base.free b o e n hx)
  · obtain ⟨o', e1⟩ := I.base.there b o e hx
    exact there b o' (neC b o e hx) e1
  · obtain ⟨m1, e1⟩ := I.base.tbls b ps e
    obtain ⟨m2, e2⟩ := tbls b _ e1
    exact ⟨m1 ++ m2, by rw [e2, Array.append_assoc]⟩
  · obtain ⟨m, hn, hl⟩ := I.loc
    refine ⟨m, ns m hn, fun i x v e1 e2 e3 => ?_⟩
    obtain ⟨u, r, l⟩ := hl i x v e1 e2 e3
    refine ⟨u, r, ?_⟩
    rcases l with l | ⟨k, c, e, z⟩
    · exact .inl l
    · exact .inr ⟨k, c, e, cellK x c e _ z⟩
  · obtain ⟨v, z⟩ := I.cell x c e
    exact ⟨v, cellK x c e v z⟩
  · obtain ⟨m, ⟨o, _, _, ho, _⟩, _⟩ := I.loc
    exact free _ o (fun z => (hch _ z).2.1 rfl) ho I.free
  · obtain ⟨v, o, ho, hd⟩ := I.cell x c e
    exact free c o (fun z => (hch c z).2.2.1 x c e rfl) ho (I.freeC x c e)
  · obtain ⟨e, n, ne, nf, d⟩ := I.pin p hp
    have nch : p.1 ∉ ch := fun z => (hch p.1 z).2.2.2 p hp rfl
    exact ⟨keep p.1 p.2 ne nf nch e n, free p.1 p.2 nch e n, ne, nf, d⟩
theorem Inv.un {t' : Nat} (I : Inv X pins σ H s) (u : Un X.fs [] H H' s.heap h') (hok : HOk X.prog X.w H' h') : Inv X pins σ H' { s with heap := h', toks := t' } := by
  obtain ⟨m, ⟨o, es, ep, ho, r⟩, _⟩ := id I.loc
  obtain ⟨sl, hL⟩ := u.any ho I.free (by simp)
  exact I.step (g' := s.gens) (d' := s.drawn) (ch := []) (fun _ z => nomatch z) (fun b o _ hb _ e n => u.keep b o e n hb (by simp)) (fun b o _ hb _ e n => u.slot b o e n hb (by simp)) (fun b o _ e n => u.free b o e n (by simp)) (fun b o _ e => u.there b o e (by simp)) u.tups u.frzs u.tbls (fun m' hm => by
    obtain ⟨o', es', ep', ho', r'⟩ := hm
    rw [ho] at ho'; cases ho'
    exact ⟨_, es', ep', hL, r'⟩) hok I.bare
theorem Inv.call {g' : Array GenState} {t' : Nat} {d' : Drawn} {ch : List Addr} (I : Inv X pins σ H s) (u : Un (frs X.stack) ch H H' s.heap h') (hok : HOk X.prog X.w H' h') (hg : AllBare g')
    (hch : ∀ b ∈ ch, (b ∈ X.ex ∨ X.s₀.heap.objs.size ≤ b) ∧ b ≠ X.env.locals ∧ (∀ x c, X.env.cells.lookup x = some c → c ≠ b) ∧ ∀ p ∈ X.pn ++ pins, p.1 ≠ b) :
    Inv X pins σ H' { s with heap := h', gens := g', drawn := d', toks := t' } := by
  obtain ⟨m, ⟨o, es, ep, ho, r⟩, _⟩ := id I.loc
  obtain ⟨sl, hL⟩ := u.any ho I.free fun z => (hch _ z).2.1 rfl
  exact I.step (ch := ch) hch (fun b o hL hb hc e n => u.keep b o e n (fun z => (List.mem_cons.mp (I.stkSub b z)).elim hL hb) hc) (fun b o _ _ hc e n => u.any e n hc) (fun b o hc e n => u.free b o e n hc) (fun b o hc e => u.there b o e hc) u.tups u.frzs u.tbls (fun m' hm => by
    obtain ⟨o', es', ep', ho', r'⟩ := hm
    rw [ho] at ho'; cases ho'
    exact ⟨_, es', ep', hL, r'⟩) hok hg
theorem Inv.turned {t' : Nat} {it : Addr} (I : Inv X pins σ H s) (k : ∀ b o, b ≠ it → s.heap.get? b = some o → h'.get? b = some o) (hn : H it = none) (hL : it ≠ X.env.locals)
    (h1 : it ∈ X.ex ∨ X.s₀.heap.objs.size ≤ it) (h2 : ∀ x c, X.env.cells.lookup x = some c → c ≠ it) (h3 : ∀ p ∈ X.pn ++ pins, p.1 ≠ it) : Inv X pins σ H { s with heap := h', toks := t' } := by
  have nit : ∀ b u, H b = some u → b ≠ it := fun b u e z => by rw [z, hn] at e; cases e
  refine I.step (g' := s.gens) (d' := s.drawn) (ch := [it]) (fun b hb => ?_) (fun b o _ _ hc e _ => k b o (fun z => hc (by simp [z])) e) (fun b o _ _ hc e _ => ⟨o.slots, k b o (fun z => hc (by simp [z])) e⟩) (fun _ _ _ _ n => n)
    (fun b o hc e => ⟨o, k b o (fun z => hc (by simp [z])) e⟩) (fun _ _ e => e) (fun _ _ _ e => e) (fun b ps e => ⟨#[], by rw [e]; simp⟩) (fun m hm => ?_) (fun b u e => ?_) I.bare
  · have e : b = it := by simpa using hb
    subst e
    exact ⟨h1, hL, h2, h3⟩
  · obtain ⟨o, es, ep, ho, r⟩ := hm
    exact ⟨o, es, ep, k _ o (Ne.symm hL) ho, r⟩
  · refine (I.hok b u e).stay (fun c v hc q => k c v ?_ q) (fun _ q => q) fun _ _ q => q
    rcases hc with z | z
    · rw [z]; exact nit b u e
    · exact nit c _ z
theorem Inv.tok (I : Inv X pins σ H s) (t : Nat) : Inv X pins σ H { s with toks := t } := I.un (h' := s.heap) (t' := t) Un.refl I.hok
theorem Inv.kept {t' : Nat} (I : Inv X pins σ H s) (k : ∀ b u, s.heap.get? b = some u → h'.get? b = some u) : Inv X pins σ H { s with heap := h', toks := t' } := I.un (Un.kept k) (I.hok.kept k)
theorem Inv.laid {a : Addr} {o : HO} {t' : Nat} (I : Inv X pins σ H s) (k : ∀ b u, s.heap.get? b = some u → h'.get? b = some u) (hp : s.heap.objs.size ≤ a) (new : ObjOk X.prog X.w (upd H a o) h' a o) :
    Inv X pins σ (upd H a o) { s with heap := h', toks := t' } := I.un (Un.laid k hp (I.hok.fresh hp)) (I.hok.laid k hp new)
theorem Inv.write {x e : Addr} {o : HO} {t' : Nat} (I : Inv X pins σ H s) (mu : Mut (H x)) (he : e = x ∨ H e = some (.own x)) (k : ∀ b u, b ≠ e → s.heap.get? b = some u → h'.get? b = some u) (heo : ∃ u, h'.get? e = some u)
    (new : ObjOk X.prog X.w (upd H x o) h' x o) : Inv X pins σ (upd H x o) { s with heap := h', toks := t' } := I.un (Un.write mu he k heo) (I.hok.write mu he k heo new)
theorem Inv.pins_of {pins' : List (Addr × Obj)} (I : Inv X pins σ H s) (h : ∀ p ∈ pins', s.heap.get? p.1 = some p.2 ∧ H p.1 = none ∧ p.1 ≠ X.env.locals ∧ p.1 ∉ X.fs ∧ ∀ v, p.2.data ≠ .cell v) : Inv X pins' σ H s :=
  ⟨I.ok, I.os, I.bare, I.base, I.loc, I.cell, I.free, I.freeC, fun p hp => (List.mem_append.mp hp).elim (fun z => I.pin p (List.mem_append_left _ z)) (h p), I.hok, I.len⟩
theorem nodup_ix {N : List Str} (hN : N.Nodup) {i j : Nat} {x : Str} (a : N[i]? = some x) (b : N[j]? = some x) : i = j := by
  obtain ⟨h1, e1⟩ := List.getElem?_eq_some_iff.mp a
  obtain ⟨h2, e2⟩ := List.getElem?_eq_some_iff.mp b
  exact (List.getElem_inj hN).mp (e1.trans e2.symm)
theorem store_ok2 {M : Model} {A : Around} {E : Value → Shared → Prop} {i : Nat} {x : Str} {v : V} {u : Value} {Q : Unit → Shared → Prop} (I : Inv X pins σ H s) (hN : X.N.Nodup) (hi : X.N[i]? = some x) (hx : Loc X.env.scope x) (r : RelV v u)
    (h : ∀ s', Inv X pins (σ.set i (some v)) H s' → (∃ a, Heap.SameBut a s.heap s'.heap ∧ (a = X.env.locals ∨ X.env.cells.lookup x = some a)) → Q () s') (hf : X.fn x = true ∨ X.env.scope.names.lookup x = some .local := by first | exact .inl rfl | exact .inr rfl | assumption) : wpAny M A (storeName X.env x u) Q E s := by
  obtain ⟨m, hn, hl⟩ := id I.loc
  have hcls : (X.env.scope.kind == .class || (X.env.scope.kind == .module && X.env.locals != X.env.globals)) = false := by rw [I.ok.kind]; rfl
  have hiσ : i < σ.length := by rw [I.len]; exact (List.getElem?_eq_some_iff.mp hi).1
  have cne := I.cne
  have tracked : ∀ {a : Addr} {h' : Heap}, (∃ o, s.heap.get? a = some o ∧ H a = none) → Heap.SameBut a s.heap h' → HOk X.prog X.w H h' := fun {a h'} ha hs b ob e => by
    obtain ⟨_, _, hfree⟩ := ha
    refine (I.hok b ob e).stay (fun c w' hc q => (hs.2 c ?_).trans q) (fun _ q => q) fun _ _ q => q
    rintro rfl
    rcases hc with rfl | hc
    · rw [hfree] at e; cases e
    · rw [hfree] at hc; cases hc
  rcases hx with hk | hk
  · refine wpAny_storeName_local hk hn (fun h' hn' hs => ?_) hcls
    obtain ⟨oL, _, _, hoL, _⟩ := id hn
    refine h _ ⟨I.ok, I.os, I.bare, ⟨fun b o e n hb hx => ?_, fun b o e n hb hx => ?_, I.base.free, fun b o e hx => ?_, I.base.tups, I.base.frzs, I.base.tbls⟩, ⟨_, hn', fun j y v' e1 e2 e3 => ?_⟩, fun y c e => ?_, I.free, I.freeC, fun p hp => ?_, tracked ⟨oL, hoL, I.free⟩ hs, by simpa using I.len⟩ ⟨_, hs, .inl rfl⟩
    · exact (hs.2 b (Nat.ne_of_lt (Nat.lt_of_lt_of_le (Heap.lt_size e) I.ok.above))).trans (I.base.keep b o e n hb hx)
    · obtain ⟨sl, e1⟩ := I.base.slot b o e n hb hx
      exact ⟨sl, (hs.2 b (Nat.ne_of_lt (Nat.lt_of_lt_of_le (Heap.lt_size e) I.ok.above))).trans e1⟩
    · obtain ⟨o', e1⟩ := I.base.there b o e hx
      exact ⟨o', (hs.2 b (Nat.ne_of_lt (Nat.lt_of_lt_of_le (Heap.lt_size e) I.ok.above))).trans e1⟩
    · by_cases hj : j = i
      · subst hj
        rw [hi] at e1; cases e1
        rw [List.getElem?_set_self hiσ] at e2
        cases e2
        exact ⟨u, r, .inl ⟨hk, by simp⟩⟩
      · rw [List.getElem?_set_ne (Ne.symm hj)] at e2
        obtain ⟨u', r', q⟩ := hl j y v' e1 e2 e3
        refine ⟨u', r', ?_⟩
        rcases q with ⟨k, e⟩ | ⟨k, c, e, z⟩
        · refine .inl ⟨k, ?_⟩
          have : y ≠ x := fun e => hj (nodup_ix hN e1 (e ▸ hi))
          simp [this, e]
        · exact .inr ⟨k, c, e, z.sameBut hs (cne y c e)⟩
    · obtain ⟨w', z⟩ := I.cell y c e
      exact ⟨w', z.sameBut hs (cne y c e)⟩
    · obtain ⟨e, n, ne, nf, d⟩ := I.pin p hp
      exact ⟨(hs.2 p.1 ne).trans e, n, ne, nf, d⟩
  · have hfn : X.fn x = true := by
      rcases hf with z | z
      · exact z
      · rw [z] at hk; cases hk
    obtain ⟨c, hc⟩ := I.ok.has x (.inl hk)
    obtain ⟨w', z⟩ := I.cell x c hc
    refine wpAny_storeName_cell I.ok.kind hk hc z (fun h' hc' hs => ?_)
    obtain ⟨oc, hoc, hocd⟩ := id z
    refine h { s with heap := h' } ⟨I.ok, I.os, I.bare, ⟨fun b o e n hb hx => ?_, fun b o e n hb hx => ?_, I.base.free, fun b o e hx => ?_, I.base.tups, I.base.frzs, I.base.tbls⟩, ⟨m, hn.sameBut hs (Ne.symm (cne x c hc)), fun j y v' e1 e2 e3 => ?_⟩, fun y c' e => ?_, I.free, I.freeC, fun p hp => ?_, tracked ⟨oc, hoc, I.freeC x c hc⟩ hs, by simpa using I.len⟩ ⟨c, hs, .inr hc⟩
    · exact (hs.2 b (Nat.ne_of_lt (Nat.lt_of_lt_of_le (Heap.lt_size e) (I.ok.cab x c hfn hc)))).trans (I.base.keep b o e n hb hx)
    · obtain ⟨sl, e1⟩ := I.base.slot b o e n hb hx
      exact ⟨sl, (hs.2 b (Nat.ne_of_lt (Nat.lt_of_lt_of_le (Heap.lt_size e) (I.ok.cab x c hfn hc)))).trans e1⟩
    · obtain ⟨o', e1⟩ := I.base.there b o e hx
      exact ⟨o', (hs.2 b (Nat.ne_of_lt (Nat.lt_of_lt_of_le (Heap.lt_size e) (I.ok.cab x c hfn hc)))).trans e1⟩
    · by_cases hj : j = i
      · subst hj
        rw [hi] at e1; cases e1
        rw [List.getElem?_set_self hiσ] at e2
        cases e2
        exact ⟨u, r, .inr ⟨.inl hk, c, hc, hc'⟩⟩
      · rw [List.getElem?_set_ne (Ne.symm hj)] at e2
        obtain ⟨u', r', q⟩ := hl j y v' e1 e2 e3
        refine ⟨u', r', ?_⟩
        rcases q with q | ⟨k, c', e, z'⟩
        · exact .inl q
        · refine .inr ⟨k, c', e, z'.sameBut hs ?_⟩
          rintro rfl
          exact hj (nodup_ix hN e1 (I.ok.inj _ _ _ e hc ▸ hi))
    · by_cases hcc : c' = c
      · subst hcc; exact ⟨_, hc'⟩
      · obtain ⟨w2, z2⟩ := I.cell y c' e
        exact ⟨w2, z2.sameBut hs hcc⟩
    · obtain ⟨e, n, ne, nf, d⟩ := I.pin p hp
      refine ⟨(hs.2 p.1 ?_).trans e, n, ne, nf, d⟩
      intro q
      rw [q, hoc] at e
      have q' : oc = p.2 := Option.some.inj e
      exact d w' (by rw [← q']; exact hocd)
theorem store_ok {M : Model} {A : Around} {E : Value → Shared → Prop} {i : Nat} {x : Str} {v : V} {u : Value} {Q : Unit → Shared → Prop} (I : Inv X pins σ H s) (hN : X.N.Nodup) (hi : X.N[i]? = some x) (hx : Loc X.env.scope x) (r : RelV v u)
    (h : ∀ s', Inv X pins (σ.set i (some v)) H s' → Q () s') (hf : X.fn x = true ∨ X.env.scope.names.lookup x = some .local := by first | exact .inl rfl | exact .inr rfl | assumption) : wpAny M A (storeName X.env x u) Q E s :=
  store_ok2 I hN hi hx r (fun s' I' _ => h s' I') hf
theorem Inv.call' {s' : Shared} {ch : List Addr} (I : Inv X pins σ H s) (ho : s'.os = s.os) (u : Un (frs X.stack) ch H H' s.heap s'.heap) (hok : HOk X.prog X.w H' s'.heap) (hg : AllBare s'.gens)
    (hch : ∀ b ∈ ch, (b ∈ X.ex ∨ X.s₀.heap.objs.size ≤ b) ∧ b ≠ X.env.locals ∧ (∀ x c, X.env.cells.lookup x = some c → c ≠ b) ∧ ∀ p ∈ X.pn ++ pins, p.1 ≠ b) : Inv X pins σ H' s' := by
  obtain ⟨h', g', d', t', o'⟩ := s'
  have e : o' = s.os := ho
  subst e
  exact I.call (g' := g') (t' := t') (d' := d') u hok hg hch
end
abbrev XK := Value → Option Addr → Hp → Prop
abbrev St := List (Option V)
abbrev VK := V → Hp → Prop
abbrev TE := St → Hp → VK → Prop
abbrev TT := St → Hp → (Bool → Hp → Prop) → Prop
abbrev TA := St → Hp → (List V → Hp → Prop) → Prop
structure Ends where
  nx : St → Hp → Prop
  rt : VK
  bk : St → Hp → Prop := fun _ _ => False
  ct : St → Hp → Prop := fun _ _ => False
abbrev TS := Ends → St → Hp → Prop
def EP (X : Cx) (pins : List (Addr × Obj)) (σ : St) (Q : VK) (u : Value) (s' : Shared) : Prop := ∃ v H', Inv X pins σ H' s' ∧ RelV v u ∧ Q v H'
def TP (X : Cx) (pins : List (Addr × Obj)) (σ : St) (Q : Bool → Hp → Prop) (b : Bool) (s' : Shared) : Prop := ∃ H', Inv X pins σ H' s' ∧ Q b H'
def AP (X : Cx) (pins : List (Addr × Obj)) (σ : St) (Q : List V → Hp → Prop) (us : List Value) (s' : Shared) : Prop := ∃ vs H', Inv X pins σ H' s' ∧ Vals vs us ∧ Q vs H'
def SP (X : Cx) (pins : List (Addr × Obj)) (D : Ends) (f : Flow) (s' : Shared) : Prop :=
  match f with
  | .next => ∃ σ' H', Inv X pins σ' H' s' ∧ D.nx σ' H'
  | .brk => ∃ σ' H', Inv X pins σ' H' s' ∧ D.bk σ' H'
  | .cont => ∃ σ' H', Inv X pins σ' H' s' ∧ D.ct σ' H'
  | .ret u => ∃ v σ' H', Inv X pins σ' H' s' ∧ RelV v u ∧ D.rt v H'
def PE (X : Cx) (e : Expr) (t : TE) : Prop :=
  ∀ (pins : List (Addr × Obj)) (s : Shared) (σ : St) (H : Hp) (Q : VK), Inv X pins σ H s → t σ H Q → wpAny (model X.prog X.w) X.A (eval e X.env) (EP X pins σ Q) X.xe s
def PT (X : Cx) (e : Expr) (t : TT) : Prop :=
  ∀ (pins : List (Addr × Obj)) (s : Shared) (σ : St) (H : Hp) (Q : Bool → Hp → Prop), Inv X pins σ H s → t σ H Q → wpAny (model X.prog X.w) X.A (isTrue e X.env (eval e X.env)) (TP X pins σ Q) X.xe s
def PW (X : Cx) (e : Expr) (t : TT) : Prop :=
  ∀ (whole : Sem Value) (pins : List (Addr × Obj)) (s : Shared) (σ : St) (H : Hp) (Q : Bool → Hp → Prop), Inv X pins σ H s → t σ H Q → wpAny (model X.prog X.w) X.A (isTrue e X.env whole) (TP X pins σ Q) X.xe s
theorem PW.pt {X : Cx} {e : Expr} {t : TT} (h : PW X e t) : PT X e t := h _
def PA (X : Cx) (es : List Expr) (t : TA) : Prop :=
  ∀ (pos : Pos) (pins : List (Addr × Obj)) (s : Shared) (σ : St) (H : Hp) (Q : List V → Hp → Prop), Inv X pins σ H s → t σ H Q → wpAny (model X.prog X.w) X.A (spliced (backTo pos (starEach es X.env))) (AP X pins σ Q) X.xe s
def PS (X : Cx) (st : Stmt) (t : TS) : Prop :=
  ∀ (pins : List (Addr × Obj)) (s : Shared) (σ : St) (H : Hp) (D : Ends), Inv X pins σ H s → t D σ H → wpAny (model X.prog X.w) X.A (exec st X.env) (SP X pins D) X.xe s
def PSs (X : Cx) (st : List Stmt) (t : TS) : Prop :=
  ∀ (pins : List (Addr × Obj)) (s : Shared) (σ : St) (H : Hp) (D : Ends), Inv X pins σ H s → t D σ H → wpAny (model X.prog X.w) X.A (execs st X.env) (SP X pins D) X.xe s
theorem thn {α : Type} {t : Sem α} {Q Q' : α → Shared → Prop} {M : Model} {A : Around} {E : Value → Shared → Prop} {s : Shared} (h : wpAny M A t Q E s) (hQ : ∀ a s, Q a s → Q' a s) : wpAny M A t Q' E s := wpAny_mono h hQ fun _ _ x => x
end L2
namespace L2
open PySem PySem.Spec PyProof.Rows
section
variable {X : Cx}
def tVar (i : Nat) : TE := fun σ H Q => ∃ v, σ[i]? = some (some v) ∧ Q v H
def tC (v : V) : TE := fun _ H Q => Q v H
theorem pe_var {i : Nat} {x : Str} {pos : Pos} (hN : X.N[i]? = some x) (hv : Vis X.env.scope x) (hd : (x == ("__debug__" : Str)) = false := by decide) (hcd : (x == ("__classdict__" : Str)) = false := by decide) : PE X (.Name x pos) (tVar i) := by
  intro pins s σ H Q I h
  obtain ⟨v, e, h⟩ := h
  obtain ⟨m, hn, hl⟩ := I.loc
  obtain ⟨u, r, l⟩ := hl i x v hN e hv
  have fin : EP X pins σ Q u s := ⟨v, H, I, r, h⟩
  rcases l with ⟨hk, hm⟩ | ⟨hk, c, hc, hcell⟩
  · exact wpAny_Name (wpAny_loadName_local I.ok.kind hk hn hm fin) hd
  · rcases hk with hk | hk
    · exact wpAny_Name (wpAny_loadName_cell I.ok.kind hk hc hcell fin) hd
    · exact wpAny_Name (wpAny_loadName_free I.ok.kind hk hc hcell fin hcd) hd
theorem pe_int {i j pos} : PE X (.Constant (.int i) j pos) (tC (.int i)) := fun _ _ _ H _ I h => wpAny_Constant_int ⟨.int i, H, I.tok _, ⟨_, rfl⟩, h⟩
theorem pe_bl {b j pos} : PE X (.Constant (.bool b) j pos) (tC (.bl b)) := fun _ _ _ H _ I h => Constant_bool ⟨.bl b, H, I, rfl, h⟩
theorem pe_non {j pos} : PE X (.Constant .none j pos) (tC .non) := fun _ _ _ H _ I h => Constant_none ⟨.non, H, I, rfl, h⟩
theorem pe_str {x j pos} : PE X (.Constant (.str x) j pos) (tC (.str x)) := fun _ _ _ H _ I h => Calls.Constant_str ⟨.str x, H, I.tok _, ⟨_, rfl⟩, h⟩
def Gl (X : Cx) (x : Str) : Prop := X.env.kindOf x = some .globalImplicit
theorem ld_glob {E : Value → Shared → Prop} {pins : List (Addr × Obj)} {s : Shared} {σ : St} {H : Hp} {x : Str} {u : Value} {pos : Pos} {Q : Value → Shared → Prop} (I : Inv X pins σ H s) (hg : Gl X x) (hm : X.mg x = some u) (h : Q u s)
    (hd : (x == ("__debug__" : Str)) = false := by decide) : wpAny (model X.prog X.w) X.A (eval (.Name x pos) X.env) Q E s :=
  Calls.Name_function_global I.ok.kind hg (Calls.loadGlobal_global (by rw [I.ok.glob]; exact I.mod.glob.keeps I.bk) hm h) hd
theorem ld_blt {E : Value → Shared → Prop} {pins : List (Addr × Obj)} {s : Shared} {σ : St} {H : Hp} {x : Str} {u : Value} {pos : Pos} {Q : Value → Shared → Prop} (I : Inv X pins σ H s) (hg : Gl X x) (hm : X.mg x = none) (hv : bootBuiltins x = some u) (h : Q u s)
    (hn : x ≠ "__name__" := by decide) (hd : (x == ("__debug__" : Str)) = false := by decide) : wpAny (model X.prog X.w) X.A (eval (.Name x pos) X.env) Q E s := by
  obtain ⟨mb, h1, h2⟩ := I.mod.blt
  exact Calls.Name_function_global I.ok.kind hg (Calls.loadGlobal_builtin (by rw [I.ok.glob]; exact I.mod.glob.keeps I.bk) hm (by rw [I.ok.blt]; exact h1.keeps I.bk) ((h2 x hn).trans hv) h) hd
theorem pe_glob {x : Str} {v : V} {u : Value} {pos : Pos} (hg : Gl X x) (hm : X.mg x = some u) (r : RelV v u) (hd : (x == ("__debug__" : Str)) = false := by decide) : PE X (.Name x pos) (tC v) :=
  fun _ _ _ H _ I h => ld_glob I hg hm ⟨v, H, I, r, h⟩ hd
theorem pe_bltn {x : Str} {v : V} {u : Value} {pos : Pos} (hg : Gl X x) (hm : X.mg x = none) (hv : bootBuiltins x = some u) (r : RelV v u) (hn : x ≠ "__name__" := by decide) (hd : (x == ("__debug__" : Str)) = false := by decide) : PE X (.Name x pos) (tC v) :=
  fun _ _ _ H _ I h => ld_blt I hg hm hv ⟨v, H, I, r, h⟩ hn hd
variable {a b : Expr} {ta tb : TE} {pos : Pos}
def PC (X : Cx) (op : CmpOp) (a b : Expr) (t : TE) : Prop :=
  ∀ (pins : List (Addr × Obj)) (s : Shared) (σ : St) (H : Hp) (Q : VK), Inv X pins σ H s → t σ H Q →
    wpAny (model X.prog X.w) X.A (eval a X.env) (fun v s₁ => wpAny (model X.prog X.w) X.A (eval b X.env) (fun u s₂ => wpAny (model X.prog X.w) X.A (compareOp op v u) (EP X pins σ Q) X.xe s₂) X.xe s₁) X.xe s
def tB (t : TE) : TT := fun σ H Q => t σ H fun x H1 => ∃ c, x = .bl c ∧ Q c H1
theorem pt_cmp {op : CmpOp} {t : TE} (h : PC X op a b t) (h1 : behindInMarks op b = false := by first | exact nobehind _ (by decide) (by decide) | rfl) : PT X (.Compare a [op] [b] pos) (tB t) := by
  intro pins s σ H Q I hw
  refine wpAny_isTrue_Compare1 (thn (h pins s σ H _ I hw) fun v s1 h1 => thn h1 fun u s2 h2 => thn h2 fun c s3 ⟨x, H1, I1, r1, q1⟩ => ?_) h1
  obtain ⟨d, rfl, q⟩ := q1
  cases r1
  exact wpAny_truthy_bool ⟨H1, I1, q⟩
theorem pt_val {e : Expr} {t : TE} (h : PE X e t) (he : ∀ whole, isTrue e X.env whole = (do let v ← whole; standAt e.pos; holding [v] (truthy v)) := by intro _; rfl) : PT X e (tB t) := by
  intro pins s σ H Q I hw
  refine isTrue_plain (thn (h pins s σ H _ I hw) fun v s1 ⟨x, H1, I1, r1, q1⟩ => ?_) (he _)
  obtain ⟨d, rfl, q⟩ := q1
  cases r1
  exact wpAny_truthy_bool ⟨H1, I1, q⟩
variable {tA tB' : TT} {rest : List Expr}
def tAnd (t u : TT) : TT := fun σ H Q => t σ H fun c H1 => if c = true then u σ H1 Q else Q false H1
def tOr (t u : TT) : TT := fun σ H Q => t σ H fun c H1 => if c = true then Q true H1 else u σ H1 Q
def tNot (t : TT) : TT := fun σ H Q => t σ H fun c H1 => Q (!c) H1
theorem pw_and1 (ha : PT X a tA) : PW X (.BoolOp .And [a] pos) tA := by
  intro wh pins s σ H Q I h
  refine isTrue_and (thn (ha pins s σ H Q I h) fun c s1 e => ?_)
  cases c with
  | true => exact isTrue_and_nil e
  | false => exact e
theorem pw_or1 (ha : PT X a tA) : PW X (.BoolOp .Or [a] pos) tA := by
  intro wh pins s σ H Q I h
  refine isTrue_or (thn (ha pins s σ H Q I h) fun c s1 e => ?_)
  cases c with
  | false => exact isTrue_or_nil e
  | true => exact e
theorem pw_and (ha : PT X a tA) (hb : PW X (.BoolOp .And (b :: rest) pos) tB') : PW X (.BoolOp .And (a :: b :: rest) pos) (tAnd tA tB') := by
  intro wh pins s σ H Q I h
  refine isTrue_and (thn (ha pins s σ H _ I h) fun c s1 ⟨H1, I1, q1⟩ => ?_)
  cases c with
  | true => exact hb wh pins s1 σ H1 Q I1 q1
  | false => exact ⟨H1, I1, q1⟩
theorem pw_or (ha : PT X a tA) (hb : PW X (.BoolOp .Or (b :: rest) pos) tB') : PW X (.BoolOp .Or (a :: b :: rest) pos) (tOr tA tB') := by
  intro wh pins s σ H Q I h
  refine isTrue_or (thn (ha pins s σ H _ I h) fun c s1 ⟨H1, I1, q1⟩ => ?_)
  cases c with
  | true => exact ⟨H1, I1, q1⟩
  | false => exact hb wh pins s1 σ H1 Q I1 q1
theorem pt_not (ha : PT X a tA) : PT X (.UnaryOp .Not a pos) (tNot tA) := by
  intro pins s σ H Q I h
  exact isTrue_not (ha pins s σ H (fun c H1 => Q (!c) H1) I h)
def tAndV (ta tb : TE) : TE := fun σ H Q => ta σ H fun x H1 => ∃ c, x = .bl c ∧ if c = true then tb σ H1 Q else Q (.bl false) H1
def tNotV (ta : TE) : TE := fun σ H Q => ta σ H fun x H1 => ∃ c, x = .bl c ∧ Q (.bl (!c)) H1
theorem pe_one {op} {t : TE} (h : PE X a t) : PE X (.BoolOp op [a] pos) t := fun pins s σ H Q I hw => BoolOp_one (h pins s σ H Q I hw)
theorem pe_and (ha : PE X a ta) (hb : PE X (.BoolOp .And (b :: rest) pos) tb) : PE X (.BoolOp .And (a :: b :: rest) pos) (tAndV ta tb) := by
  intro pins s σ H Q I h
  refine BoolOp_and (thn (ha pins s σ H _ I h) fun v s1 ⟨x, H1, I1, r1, q1⟩ => ?_)
  obtain ⟨c, rfl, q1⟩ := q1
  cases r1
  refine wpAny_truthy_bool ?_
  cases c with
  | true => exact hb pins s1 σ H1 Q I1 q1
  | false => exact ⟨.bl false, H1, I1, rfl, q1⟩
theorem pe_not (ha : PE X a ta) : PE X (.UnaryOp .Not a pos) (tNotV ta) := by
  intro pins s σ H Q I h
  refine UnaryOp_ (thn (ha pins s σ H _ I h) fun v s1 ⟨x, H1, I1, r1, q1⟩ => ?_)
  obtain ⟨c, rfl, q1⟩ := q1
  cases r1
  exact not_of (wpAny_truthy_bool ⟨.bl (!c), H1, I1, rfl, q1⟩)
end
end L2
namespace L2
open PySem PySem.Spec PyProof.Rows
def SqL (K : PySem.W.Frag) (H : Hp) (a : Addr) (xs : List V) : Prop :=
  Rd H a (.lst xs) ∨
    ∃ (o : Obj) (its : Array Value) (n : Nat), K.lookup a = some o ∧ o.cls = .type "list" ∧ o.dict = none ∧ o.data = .seq its n ∧ its.size ≤ sizeLine ∧ Vals xs its.toList
def SqT (K : PySem.W.Frag) (H : Hp) (a : Addr) (xs : List V) : Prop :=
  Rd H a (.tup xs) ∨
    ∃ (o : Obj) (its : Array Value) (n : Nat), K.lookup a = some o ∧ o.cls = .type "tuple" ∧ o.data = .seq its n ∧ its.size ≤ sizeLine ∧ Vals xs its.toList
def absV : Value → Option V
  | .none => some .non
  | .bool b => some (.bl b)
  | .int i _ => some (.int i)
  | .str x _ => some (.str x)
  | .bytes b _ => some (.byt b)
  | .float b _ => some (.flt b)
  | .ref a => some (.ref a)
  | .type n => some (.ty n)
  | _ => none
theorem RelV.abs {x : V} {u : Value} (r : RelV x u) : absV u = some x := by
  cases x with
  | non => cases r; rfl
  | bl _ => cases r; rfl
  | int _ => obtain ⟨t, rfl⟩ := r; rfl
  | str _ => obtain ⟨t, rfl⟩ := r; rfl
  | byt _ => obtain ⟨t, rfl⟩ := r; rfl
  | flt _ => obtain ⟨t, rfl⟩ := r; rfl
  | ref _ => cases r; rfl
  | ty _ => cases r; rfl
theorem RelV.inj {x y : V} {u : Value} (r : RelV x u) (q : RelV y u) : x = y := Option.some.inj (r.abs.symm.trans q.abs)
theorem Vals.inj : ∀ {xs ys : List V} {us : List Value}, Vals xs us → Vals ys us → xs = ys
  | _, _, _, .nil, .nil => rfl
  | _, _, _, .cons r t, .cons r' t' => by rw [r.inj r', Vals.inj t t']
section
variable {X : Cx} {pins : List (Addr × Obj)} {σ : St} {H : Hp} {s : Shared} {a : Addr} {xs ys : List V}
theorem SqL.of {K : PySem.W.Frag} (h : H a = some (.lst xs)) : SqL K H a xs := .inl (.inl h)
theorem SqT.of {K : PySem.W.Frag} (h : H a = some (.tup xs)) : SqT K H a xs := .inl (.inl h)
theorem Inv.list (I : Inv X pins σ H s) (h : SqL X.K H a xs) : ∃ its : List Value, Vals xs its ∧ PlainL s.heap a its.toArray ∧ xs.length ≤ sizeLine := by
  rcases h with h | ⟨o, its, n, hk, hc, hd, hs, hz, r⟩
  · obtain ⟨z, its, n, r, e⟩ := h.ok I.hok
    exact ⟨its, r, ⟨_, n, e, rfl, rfl, rfl⟩, z⟩
  · refine ⟨its.toList, r, ⟨o, n, I.kIn a o hk, hc, hd, by simpa using hs⟩, ?_⟩
    have e := r.length
    simp only [Array.length_toList] at e
    omega
theorem Inv.tuple (I : Inv X pins σ H s) (h : SqT X.K H a xs) : ∃ its : List Value, Vals xs its ∧ IsTup s.heap a its.toArray ∧ xs.length ≤ sizeLine := by
  rcases h with h | ⟨o, its, n, hk, hc, hs, hz, r⟩
  · obtain ⟨z, its, r, p⟩ := h.ok I.hok
    exact ⟨its, r, p, z⟩
  · refine ⟨its.toList, r, ⟨o, I.kIn a o hk, hc, n, by simpa using hs⟩, ?_⟩
    have e := r.length
    simp only [Array.length_toList] at e
    omega
theorem Inv.list_inj (I : Inv X pins σ H s) (h : SqL X.K H a xs) (h' : SqL X.K H a ys) : xs = ys := by
  obtain ⟨its, r, ⟨o, n, e, _, _, d⟩, _⟩ := I.list h
  obtain ⟨its', r', ⟨o', n', e', _, _, d'⟩, _⟩ := I.list h'
  rw [e] at e'; cases e'
  rw [d] at d'
  injection d' with d1 _
  have : its = its' := by simpa using congrArg Array.toList d1
  subst this
  exact r.inj r'
theorem Inv.tuple_inj (I : Inv X pins σ H s) (h : SqT X.K H a xs) (h' : SqT X.K H a ys) : xs = ys := by
  obtain ⟨its, r, ⟨o, e, _, n, d⟩, _⟩ := I.tuple h
  obtain ⟨its', r', ⟨o', e', _, n', d'⟩, _⟩ := I.tuple h'
  rw [e] at e'; cases e'
  rw [d] at d'
  injection d' with d1 _
  have : its = its' := by simpa using congrArg Array.toList d1
  subst this
  exact r.inj r'
end
abbrev Cx.wish (X : Cx) (E : Value → Shared → Prop) : Cx := { X with xe := E }
abbrev Cx.nox (X : Cx) : Cx := X.wish fun _ _ => False
theorem Cx.Ok.wish {X : Cx} (ok : X.Ok) (E : Value → Shared → Prop) : (X.wish E).Ok :=
  ⟨ok.mod, ok.kind, ok.glob, ok.blt, ok.above, ok.inj, ok.has, ok.cab, ok.hd, ok.frames, ok.stk, ok.exf, ok.bs, ok.bsz, ok.noex, ok.exfs, ok.funs, ok.frf⟩
theorem Cx.Ok.unwish {X : Cx} {E : Value → Shared → Prop} (ok : (X.wish E).Ok) : X.Ok :=
  ⟨ok.mod, ok.kind, ok.glob, ok.blt, ok.above, ok.inj, ok.has, ok.cab, ok.hd, ok.frames, ok.stk, ok.exf, ok.bs, ok.bsz, ok.noex, ok.exfs, ok.funs, ok.frf⟩
section
variable {X : Cx} {pins : List (Addr × Obj)} {σ : St} {H : Hp} {s : Shared} {E : Value → Shared → Prop}
theorem Inv.wish (I : Inv X pins σ H s) (E : Value → Shared → Prop) : Inv (X.wish E) pins σ H s := ⟨I.ok.wish E, I.os, I.bare, I.base, I.loc, I.cell, I.free, I.freeC, I.pin, I.hok, I.len⟩
theorem Inv.unwish (I : Inv (X.wish E) pins σ H s) : Inv X pins σ H s := ⟨I.ok.unwish, I.os, I.bare, I.base, I.loc, I.cell, I.free, I.freeC, I.pin, I.hok, I.len⟩
theorem SP.unwish {D : Ends} {f : Flow} {s' : Shared} (h : SP (X.wish E) pins D f s') : SP X pins D f s' := by
  cases f with
  | next => obtain ⟨σ', H', I, q⟩ := h; exact ⟨σ', H', I.unwish, q⟩
  | brk => obtain ⟨σ', H', I, q⟩ := h; exact ⟨σ', H', I.unwish, q⟩
  | cont => obtain ⟨σ', H', I, q⟩ := h; exact ⟨σ', H', I.unwish, q⟩
  | ret u => obtain ⟨v, σ', H', I, r, q⟩ := h; exact ⟨v, σ', H', I.unwish, r, q⟩
theorem PSs.nox {st : List Stmt} {t : TS} (h : PSs X.nox st t) : PSs X st t := fun pins s σ H D I hw =>
  wpAny_mono (h pins s σ H D (I.wish _) hw) (fun _ _ q => q.unwish) fun _ _ z => False.elim z
end
section
variable {X : Cx} {st : Stmt} {rest : List Stmt} {t u : TS} {e : Expr} {te : TE} {pos : Pos}
def tNext : TS := fun D σ H => D.nx σ H
def tSeq (t u : TS) : TS := fun D σ H => t { D with nx := u D } σ H
theorem pss_nil : PSs X [] tNext := fun _ _ σ H _ I h => wpAny_execs_nil ⟨σ, H, I, h⟩
theorem pss_cons (h1 : PS X st t) (h2 : PSs X rest u) : PSs X (st :: rest) (tSeq t u) := by
  intro pins s σ H D I h
  refine wpAny_execs_cons (thn (h1 pins s σ H { D with nx := u D } I h) fun f s1 q => ?_)
  cases f with
  | next =>
    obtain ⟨σ', H', I', q⟩ := q
    exact h2 pins s1 σ' H' D I' q
  | ret v => exact q
  | brk => exact q
  | cont => exact q
theorem pss_one (h1 : PS X st t) : PSs X [st] t := by
  intro pins s σ H D I h
  refine wpAny_execs_cons (thn (h1 pins s σ H D I h) fun f s1 q => ?_)
  cases f with
  | next => exact wpAny_execs_nil q
  | ret v => exact q
  | brk => exact q
  | cont => exact q
theorem Inv.quiet {pins : List (Addr × Obj)} {σ : St} {H : Hp} {s : Shared} (I : Inv X pins σ H s) : interactive X.env = false := by simp [interactive, I.ok.kind]
def tDrop (te : TE) : TS := fun D σ H => te σ H fun _ H1 => D.nx σ H1
theorem ps_expr (he : PE X e te) (hs : swapsWith e none pos.line X.env = pure false := by rfl) : PS X (.Expr e pos) (tDrop te) := by
  intro pins s σ H D I h
  exact wpAny_Expr_any (thn (he pins s σ H _ I h) fun v s1 ⟨x, H1, I1, r1, q1⟩ => ⟨σ, H1, I1, q1⟩) I.quiet hs
def tRet (te : TE) : TS := fun D σ H => te σ H D.rt
theorem ps_ret (he : PE X e te) : PS X (.Return (some e) pos) (tRet te) := by
  intro pins s σ H D I h
  exact wpAny_Return_some (thn (he pins s σ H _ I h) fun v s1 ⟨x, H1, I1, r1, q1⟩ => ⟨x, σ, H1, I1, r1, q1⟩)
def tIfS (c : TT) (t u : TS) : TS := fun D σ H => c σ H fun b H1 => if b = true then t D σ H1 else u D σ H1
theorem ps_if {c : Expr} {a b : List Stmt} {tc : TT} (hc : PT X c tc) (ha : PSs X a t) (hb : PSs X b u) : PS X (.If c a b pos) (tIfS tc t u) := by
  intro pins s σ H D I h
  refine wpAny_If (thn (hc pins s σ H _ I h) fun d s1 ⟨H1, I1, q1⟩ => ?_)
  cases d with
  | true => exact ha pins s1 σ H1 D I1 q1
  | false => exact hb pins s1 σ H1 D I1 q1
def tNever : TS := fun _ _ _ => False
theorem pss_never {sts : List Stmt} : PSs X sts tNever := fun _ _ _ _ _ _ h => h.elim
end
abbrev TG := V → St → Hp → (St → Hp → Prop) → Prop
abbrev TGs := List V → St → Hp → (St → Hp → Prop) → Prop
def PG (X : Cx) (target : Expr) (t : TG) : Prop :=
  ∀ (pins : List (Addr × Obj)) (s : Shared) (σ : St) (H : Hp) (v : V) (u : Value) (Q : St → Hp → Prop), Inv X pins σ H s → RelV v u → t v σ H Q →
    wpAny (model X.prog X.w) X.A (assign target X.env u) (fun _ s' => ∃ σ' H', Inv X pins σ' H' s' ∧ Q σ' H') X.xe s
def PGs (X : Cx) (ts : List Expr) (t : TGs) : Prop :=
  ∀ (pins : List (Addr × Obj)) (s : Shared) (σ : St) (H : Hp) (vs : List V) (us : List Value) (Q : St → Hp → Prop), Inv X pins σ H s → Vals vs us → t vs σ H Q →
    wpAny (model X.prog X.w) X.A (assignInOrder ((assignEach ts X.env).map (·.2)) us) (fun _ s' => ∃ σ' H', Inv X pins σ' H' s' ∧ Q σ' H') X.xe s
abbrev TSet := V → V → V → Hp → (Hp → Prop) → Prop
def PSet (X : Cx) (t : TSet) : Prop :=
  ∀ (pins : List (Addr × Obj)) (s : Shared) (σ : St) (H : Hp) (o i v : V) (ov iv u : Value) (Q : Hp → Prop), Inv X pins σ H s → RelV o ov → RelV i iv → RelV v u → t o i v H Q →
    wpAny (model X.prog X.w) X.A (setItem ov iv u) (fun _ s' => ∃ H', Inv X pins σ H' s' ∧ Q H') X.xe s
abbrev TIp := V → V → Hp → VK → Prop
def PIp (X : Cx) (op : Operator) (t : TIp) : Prop :=
  ∀ (pins : List (Addr × Obj)) (s : Shared) (σ : St) (H : Hp) (x y : V) (v u : Value) (Q : VK), Inv X pins σ H s → RelV x v → RelV y u → t x y H Q →
    wpAny (model X.prog X.w) X.A (inplaceOp op v u) (EP X pins σ Q) X.xe s
section
variable {X : Cx} {pos : Pos}
def gName (i : Nat) : TG := fun v σ H Q => Q (σ.set i (some v)) H
theorem pg_name {i : Nat} {x : Str} (hN : X.N.Nodup) (hi : X.N[i]? = some x) (hx : Loc X.env.scope x) (hf : X.fn x = true ∨ X.env.scope.names.lookup x = some .local := by first | exact .inl rfl | exact .inr rfl | assumption) : PG X (.Name x pos) (gName i) := by
  intro pins s σ H v u Q I r h
  exact wpAny_assign_Name (store_ok I hN hi hx r (fun s' I' => ⟨_, H, I', h⟩) hf)
def gNil : TGs := fun vs σ H Q => vs = [] ∧ Q σ H
def gCons (t : TG) (u : TGs) : TGs := fun vs σ H Q => ∃ v r, vs = v :: r ∧ t v σ H fun σ' H' => u r σ' H' Q
theorem pgs_nil : PGs X [] gNil := by
  intro pins s σ H vs us Q I r h
  obtain ⟨e, h⟩ := h
  subst e
  cases r
  exact assignInOrder_nil ⟨σ, H, I, h⟩
theorem pgs_cons {e : Expr} {es : List Expr} {t : TG} {u : TGs} (h1 : PG X e t) (h2 : PGs X es u)
    (hs : (assignEach (e :: es) X.env).map (·.2) = assign e X.env :: (assignEach es X.env).map (·.2) := by rfl) : PGs X (e :: es) (gCons t u) := by
  intro pins s σ H vs us Q I r h
  obtain ⟨v, vr, e1, h⟩ := h
  subst e1
  cases r with
  | cons r rr =>
    rw [hs]
    refine assignInOrder_cons (thn (h1 pins s σ H _ _ _ I r h) fun _ s1 ⟨σ1, H1, I1, q1⟩ => ?_)
    exact h2 pins s1 σ1 H1 _ _ Q I1 rr q1
def gTup (K : PySem.W.Frag) (n : Nat) (t : TGs) : TG := fun v σ H Q => ∃ a xs, v = .ref a ∧ SqT K H a xs ∧ xs.length = n ∧ t xs σ H Q
theorem pg_tup {es : List Expr} {k : Nat} {t : TGs} {n : Nat} (hc : X.calm = true) (h : PGs X es t)
    (hn : (assignEach es X.env).length = n := by rfl) (hst : (assignEach es X.env).findIdx? (·.1) = none := by rfl) : PG X (.Tuple es k pos) (gTup X.K n t) := by
  intro pins s σ H v u Q I r hw
  obtain ⟨a, xs, e1, hq, hl, hw⟩ := hw
  subst e1
  cases r
  obtain ⟨its, rv, ht, hz⟩ := I.tuple hq
  refine assign_Tuple_tuple (I.ok.hd hc) ht (by simp [hn, ← hl, rv.length]) hst fun h' hx => ?_
  have I1 : Inv X pins σ H { s with heap := h' } := I.kept (t' := s.toks) fun b o e => hx b o (Nat.ne_of_lt (Heap.lt_size e)) e
  exact h pins _ σ H xs _ Q I1 (by simpa using rv) hw
def gSub (to ti : TE) (t : TSet) : TG := fun v σ H Q => to σ H fun o H1 => ti σ H1 fun i H2 => t o i v H2 fun H3 => Q σ H3
theorem pg_sub {o i : Expr} {to ti : TE} {t : TSet} (ho : PE X o to) (hi : PE X i ti) (hs : PSet X t)
    (ha : ∀ v, assign (.Subscript o i pos) X.env v = (do
      let ov ← holding [v] (eval o X.env)
      let iv ← holding [v, ov] (eval i X.env)
      standAt pos
      holding [v, ov, iv] (setItem ov iv v)
      release [v, ov, iv] []) := by intro _; rfl) : PG X (.Subscript o i pos) (gSub to ti t) := by
  intro pins s σ H v u Q I r h
  rw [ha]
  refine wpAny_bind (wpAny_holding (thn (ho pins s σ H _ I h) fun ov s1 ⟨x, H1, I1, r1, q1⟩ => ?_))
  refine wpAny_bind (wpAny_holding (thn (hi pins s1 σ H1 _ I1 q1) fun iv s2 ⟨y, H2, I2, r2, q2⟩ => ?_))
  refine wpAny_bind (wpAny_standAt (wpAny_bind (wpAny_holding (thn (hs pins s2 σ H2 x y v ov iv u _ I2 r1 r2 r q2) fun _ s3 ⟨H3, I3, q3⟩ => ?_))))
  exact wpAny_release ⟨σ, H3, I3, q3⟩
def tAsg (te : TE) (g : TG) : TS := fun D σ H => te σ H fun x H1 => g x σ H1 D.nx
theorem ps_asg {tg e : Expr} {te : TE} {g : TG} (he : PE X e te) (hg : PG X tg g) (hs : swapsWithSole [tg] e pos.line X.env = pure false := by rfl) (hw : swappedStores [tg] e X.env = pure none := by rfl)
    (h1 : (assignEach [tg] X.env).map (·.2) = [assign tg X.env] := by rfl) : PS X (.Assign [tg] e pos) (tAsg te g) := by
  intro pins s σ H D I h
  refine wpAny_Assign_stores (thn (he pins s σ H _ I h) fun v s1 ⟨x, H1, I1, r1, q1⟩ => ?_) hs hw
  rw [h1]
  exact thn (hg pins s1 σ H1 x v _ I1 r1 q1) fun _ s2 q => q
theorem ps_set {i : Nat} {x : Str} {e : Expr} {te : TE} {pos' : Pos} (hN : X.N.Nodup) (hi : X.N[i]? = some x) (hx : Loc X.env.scope x) (he : PE X e te) (hs : swapsWith e (some (.Name x pos')) pos.line X.env = pure false := by rfl) (hf : X.fn x = true ∨ X.env.scope.names.lookup x = some .local := by first | exact .inl rfl | exact .inr rfl | assumption) :
    PS X (.Assign [.Name x pos'] e pos) (tAsg te (gName i)) := by
  intro pins s σ H D I h
  refine wpAny_Assign_Name (thn (he pins s σ H _ I h) fun v s1 ⟨y, H1, I1, r1, q1⟩ => ?_) hs
  exact store_ok I1 hN hi hx r1 (fun s2 I2 => ⟨_, H1, I2, q1⟩) hf
def tPar (i j : Nat) (ta : TA) : TS := fun D σ H => ta σ H fun vs H1 => ∃ v w, vs = [v, w] ∧ D.nx ((σ.set i (some v)).set j (some w)) H1
theorem ps_par {i j : Nat} {x y : Str} {a b : Expr} {ta : TA} {px py pt : Pos} {kt k2 pt2} (hc : X.calm = true) (hN : X.N.Nodup) (hi : X.N[i]? = some x) (hj : X.N[j]? = some y) (hij : i ≠ j)
    (hx : X.env.scope.names.lookup x = some .local) (hy : X.env.scope.names.lookup y = some .local) (ha : PA X [a, b] ta)
    (hw : swappedStores [.Tuple [.Name x px, .Name y py] kt pt] (.Tuple [a, b] k2 pt2) X.env = pure (some [x, y]))
    (hs : swapsWithSole [.Tuple [.Name x px, .Name y py] kt pt] (.Tuple [a, b] k2 pt2) pos.line X.env = pure false := by rfl) :
    PS X (.Assign [.Tuple [.Name x px, .Name y py] kt pt] (.Tuple [a, b] k2 pt2) pos) (tPar i j ta) := by
  intro pins s σ H D I h
  rw [exec_Assign_arm]
  refine wpAny_bind (wpAny_standAt ?_)
  rw [hs]
  refine wpAny_bind (wpAny_pure ?_)
  rw [if_neg (by decide)]
  refine wpAny_bind (Tuple_ (thn (ha _ pins s σ H _ I h) fun us s1 ⟨vs, H1, I1, r1, q1⟩ => ?_))
  obtain ⟨v, w, e1, q1⟩ := q1
  subst e1
  obtain ⟨u1, u2, rfl, rv, rw'⟩ : ∃ u1 u2, us = [u1, u2] ∧ RelV v u1 ∧ RelV w u2 := by
    cases r1 with
    | cons p q =>
      cases q with
      | cons p' q' =>
        cases q'
        exact ⟨_, _, rfl, p, p'⟩
  refine wpAny_newObj_type ?_ (by show 2 ≤ sizeLine; decide)
  have I2 : Inv X pins σ H1 { s1 with heap := s1.heap.push { cls := .type "tuple", data := .seq [u1, u2].toArray } } := I1.kept (t' := s1.toks) fun b o e => Heap.get?_push_of_some _ e
  rw [hw]
  refine wpAny_bind (wpAny_pure ?_)
  show wpAny (model X.prog X.w) X.A (do rule "assign.swapped-stores"; let items ← unpackItems (.ref s1.heap.objs.size) 2 none; assignInOrder [fun v => bindName X.env y v, fun v => bindName X.env x v] items.reverse; pure Flow.next) _ _ _
  refine wpAny_bind (wpAny_rule (wpAny_bind (unpackItems_tuple (items := #[u1, u2]) (I.ok.hd hc) (IsTup.new s1.heap _) fun h' hx' => ?_)))
  have I3 := I2.kept (h' := h') (t' := s1.toks) fun b o e => hx' b o (Nat.ne_of_lt (Heap.lt_size e)) e
  show wpAny _ _ (assignInOrder [fun v => bindName X.env y v, fun v => bindName X.env x v] [u2, u1] >>= fun _ => pure Flow.next) _ _ _
  refine wpAny_bind (assignInOrder_cons (wpAny_bindName (store_ok I3 hN hj (.inl hy) rw' (fun s2 I4 => ?_) (.inr hy))))
  refine assignInOrder_cons (wpAny_bindName (store_ok I4 hN hi (.inl hx) rv (fun s3 I5 => assignInOrder_nil (wpAny_pure ?_)) (.inr hx)))
  rw [List.set_comm _ _ (Ne.symm hij)] at I5
  exact ⟨_, H1, I5, q1⟩
def tAugS (to ti te : TE) (tget : V → V → Hp → VK → Prop) (tip : TIp) (tset : TSet) : TS := fun D σ H => to σ H fun o H1 => ti σ H1 fun i H2 => tget o i H2 fun x H3 => te σ H3 fun y H4 => tip x y H4 fun z H5 => tset o i z H5 fun H6 => D.nx σ H6
def PGet (X : Cx) (t : V → V → Hp → VK → Prop) : Prop :=
  ∀ (pins : List (Addr × Obj)) (s : Shared) (σ : St) (H : Hp) (o i : V) (ov iv : Value) (Q : VK), Inv X pins σ H s → RelV o ov → RelV i iv → t o i H Q →
    wpAny (model X.prog X.w) X.A (getItem ov iv) (EP X pins σ Q) X.xe s
theorem ps_augS {o i e : Expr} {to ti te : TE} {tget : V → V → Hp → VK → Prop} {tip : TIp} {tset : TSet} {op : Operator} {tpos : Pos} (ho : PE X o to) (hi : PE X i ti) (hg : PGet X tget) (he : PE X e te) (hp : PIp X op tip) (hs : PSet X tset)
    (ha : ∀ ov iv new, augStore i ov iv new = (do holding [new, ov, iv] (setItem ov iv new); release [new, ov, iv] []; pure .next) := by intros; rfl) : PS X (.AugAssign (.Subscript o i tpos) op e pos) (tAugS to ti te tget tip tset) := by
  intro pins s σ H D I h
  refine wpAny_AugAssign_SubscriptAny (thn (ho pins s σ H _ I h) fun ov s1 ⟨x1, H1, I1, r1, q1⟩ => ?_) ha
  refine thn (hi pins s1 σ H1 _ I1 q1) fun iv s2 ⟨x2, H2, I2, r2, q2⟩ => ?_
  refine thn (hg pins s2 σ H2 x1 x2 ov iv _ I2 r1 r2 q2) fun old s3 ⟨x3, H3, I3, r3, q3⟩ => ?_
  refine thn (he pins s3 σ H3 _ I3 q3) fun v s4 ⟨x4, H4, I4, r4, q4⟩ => ?_
  refine thn (hp pins s4 σ H4 x3 x4 old v _ I4 r3 r4 q4) fun new s5 ⟨x5, H5, I5, r5, q5⟩ => ?_
  exact thn (hs pins s5 σ H5 x1 x2 x5 ov iv new _ I5 r1 r2 r5 q5) fun _ s6 ⟨H6, I6, q6⟩ => ⟨σ, H6, I6, q6⟩
def ipI (f : Int → Int → Int) : TIp := fun x y H Q => ∃ i j, x = .int i ∧ y = .int j ∧ Q (.int (f i j)) H
theorem ip_add : PIp X .Add (ipI fun i j => i + j) := by
  intro pins s σ H x y v u Q I r1 r2 h
  obtain ⟨i, j, e1, e2, q⟩ := h
  subst e1; subst e2
  obtain ⟨t, rfl⟩ := r1
  obtain ⟨t', rfl⟩ := r2
  exact iadd_int ⟨.int _, H, I.tok _, ⟨_, rfl⟩, q⟩
end
section
variable {X : Cx} {pos : Pos}
end
structure It where
  go : Nat → Hp → Prop
  yld : Nat → Hp → V → Hp → Prop
  stop : Nat → Hp → Prop
def FpOk (X : Cx) (pins : List (Addr × Obj)) (H : Hp) (b : Addr) : Prop :=
  H b = none ∧ b ≠ X.env.locals ∧ b ∉ X.fs ∧ (b ∈ X.ex ∨ X.s₀.heap.objs.size ≤ b) ∧ (∀ x c, X.env.cells.lookup x = some c → c ≠ b) ∧ ∀ p ∈ X.pn ++ pins, p.1 ≠ b
theorem Inv.fpOk {X : Cx} {pins : List (Addr × Obj)} {σ : St} {H H' : Hp} {s : Shared} {b : Addr} (I : Inv X pins σ H s) (hb : s.heap.objs.size ≤ b) (hn : H' b = none) : FpOk X pins H' b := by
  refine ⟨hn, Nat.ne_of_gt (Nat.lt_of_lt_of_le I.lt hb), I.nofs hb, .inr (Nat.le_trans I.sz hb), fun x c e z => ?_, fun p hp z => ?_⟩
  · obtain ⟨v, q⟩ := I.cell x c e
    exact absurd (Nat.lt_of_lt_of_le q.lt (by rw [z]; exact hb)) (Nat.lt_irrefl _)
  · exact absurd (Nat.lt_of_lt_of_le (Heap.lt_size (I.pin p hp).1) (by rw [z]; exact hb)) (Nat.lt_irrefl _)
structure Turn (P : Program) (w : World) (K : PySem.W.Frag) (tg : Expr) (J : It) (fp : List Addr) (it : Addr) (tn : Nat → Heap → Prop) : Prop where
  mem : it ∈ fp
  obj : ∀ i h, tn i h → ∀ b ∈ fp, ∃ o, h.get? b = some o ∧ ∀ v, o.data ≠ .cell v
  keep : ∀ i h h', tn i h → (∀ b ∈ fp, ∀ o, h.get? b = some o → h'.get? b = some o) → tn i h'
  item : ∀ (X : Cx), X.prog = P → X.w = w → X.K = K → X.calm = true → ∀ (i : Nat) (pins : List (Addr × Obj)) (s : Shared) (σ : St) (H : Hp) (E : Value → Shared → Prop), Inv X pins σ H s → (∀ b ∈ fp, FpOk X pins H b) → tn i s.heap → J.go i H →
    wpAny (model P w) X.A (pyNext (.ref it)) (fun r s1 => ∃ u, r = some u ∧
      wpAny (model P w) X.A (letOwnedTupleGo tg (.ref it) u) (fun _ s2 => ∃ x H', Inv X pins σ H' s2 ∧ RelV x u ∧ J.yld i H x H' ∧ tn (i + 1) s2.heap ∧ ∀ b ∈ fp, H' b = none) E s1) E s
  done : ∀ (X : Cx), X.prog = P → X.w = w → X.K = K → X.calm = true → ∀ (i : Nat) (pins : List (Addr × Obj)) (s : Shared) (σ : St) (H : Hp) (E : Value → Shared → Prop), Inv X pins σ H s → (∀ b ∈ fp, FpOk X pins H b) → tn i s.heap → J.stop i H →
    wpAny (model P w) X.A (pyNext (.ref it)) (fun r s1 => r = none ∧ Inv X pins σ H s1) E s
  self : ∀ (A : Around) (i : Nat) (s : Shared) (Q : Value → Shared → Prop) (E : Value → Shared → Prop), tn i s.heap → Q (.ref it) s → wpAny (model P w) A (pyIter (.ref it)) Q E s
abbrev TI := St → Hp → (It → Hp → Prop) → Prop
def PIE (X : Cx) (pins : List (Addr × Obj)) (σ : St) (tg : Expr) (R : It → Hp → Prop) (itv : Value) (s2 : Shared) : Prop :=
  ∃ (it : Addr) (fp : List Addr) (tn : Nat → Heap → Prop) (J : It) (H' : Hp), itv = .ref it ∧ Inv X pins σ H' s2 ∧ Turn X.prog X.w X.K tg J fp it tn ∧ tn 0 s2.heap ∧ (∀ b ∈ fp, FpOk X pins H' b) ∧ R J H'
def PI (X : Cx) (tg iter : Expr) (wi : TI) : Prop :=
  ∀ (pins : List (Addr × Obj)) (s : Shared) (σ : St) (H : Hp) (R : It → Hp → Prop), Inv X pins σ H s → wi σ H R →
    wpAny (model X.prog X.w) X.A (eval iter X.env) (fun v s1 => wpAny (model X.prog X.w) X.A (pyIter v) (PIE X pins σ tg R) X.xe s1) X.xe s
theorem go_of {M : Model} {A : Around} {E : Value → Shared → Prop} {s : Shared} {tg : Expr} {it : Addr} {u : Value} {o : Obj} {n : String} {vs : Array Value} {Q : Unit → Shared → Prop} (ho : s.heap.get? it = some o) (hc : o.cls = .type n) (hd : o.data = .fields vs)
    (hn : ["enumerate", "zip", "dict_itemiterator", "dict_reverseitemiterator", "odict_iterator", "itertools.zip_longest", "itertools.pairwise"].contains n = false) (hQ : Q () s) : wpAny M A (letOwnedTupleGo tg (.ref it) u) Q E s := by
  unfold letOwnedTupleGo
  cases tg <;> first
    | exact wpAny_pure hQ
    | (cases u <;> first
        | exact wpAny_pure hQ
        | (refine wpAny_bind (wpAny_load ho ?_)
           rw [hc, hd]
           show wpAny M A (if (["enumerate", "zip", "dict_itemiterator", "dict_reverseitemiterator", "odict_iterator", "itertools.zip_longest", "itertools.pairwise"].contains n && vs[0]? == some (rawInt _)) = true then _ else _) Q E s
           rw [if_neg (by intro h; rw [hn, Bool.false_and] at h; cases h)]
           exact wpAny_pure hQ))
def Itl (K : PySem.W.Frag) (a : Addr) : It :=
  ⟨fun i H => ∃ xs x, SqL K H a xs ∧ xs[i]? = some x, fun i H x H' => H' = H ∧ ∀ xs, SqL K H a xs → xs[i]? = some x, fun i H => ∃ xs, SqL K H a xs ∧ xs.length ≤ i⟩
def Itt (K : PySem.W.Frag) (a : Addr) : It :=
  ⟨fun i H => ∃ xs x, SqT K H a xs ∧ xs[i]? = some x, fun i H x H' => H' = H ∧ ∀ xs, SqT K H a xs → xs[i]? = some x, fun i H => ∃ xs, SqT K H a xs ∧ xs.length ≤ i⟩
def Itr (lo : Int) (n : Nat) : It := ⟨fun i _ => i < n, fun i H x H' => H' = H ∧ x = .int (lo + i), fun i _ => n ≤ i⟩
theorem turn_list {P : Program} {w : World} {K : PySem.W.Frag} {tg : Expr} (a it : Addr) : Turn P w K tg (Itl K a) [it] it (fun i h => h.IsListIter it a i) where
  mem := by simp
  obj := fun i h st b hb => by
    have e : b = it := by simpa using hb
    subst e
    obtain ⟨o, e, c, d⟩ := st
    exact ⟨o, e, fun v z => by rw [d] at z; cases z⟩
  keep := fun i h h' st k => st.at fun o e => k it (by simp) o e
  item := by
    intro X hP hw hK hc i pins s σ H E I hf st hg
    subst hP hw hK
    obtain ⟨xs, x, hq, hx⟩ := hg
    obtain ⟨its, rv, p, hz⟩ := I.list hq
    obtain ⟨u, hu, ru⟩ := rv.get hx
    obtain ⟨f0, f1, f2, f3, f4, f5⟩ := hf it (by simp)
    refine wpAny_pyNext_list_item st p.isList (x := u) (by simpa using hu) fun h' st' sb => ?_
    have I1 : Inv X pins σ H { s with heap := h' } := I.turned (t' := s.toks) (fun b o hb e => (sb.2 b hb).trans e) f0 f1 f3 f4 f5
    obtain ⟨o, e, c, d⟩ := id st'
    exact ⟨u, rfl, go_of (s := { s with heap := h' }) e c d (by decide) ⟨x, H, I1, ru, ⟨rfl, fun ys hy => by rw [I.list_inj hy hq]; exact hx⟩, st', fun b hb => (hf b hb).1⟩⟩
  done := by
    intro X hP hw hK hc i pins s σ H E I hf st hg
    subst hP hw hK
    obtain ⟨xs, hq, hx⟩ := hg
    obtain ⟨its, rv, p, hz⟩ := I.list hq
    obtain ⟨f0, f1, f2, f3, f4, f5⟩ := hf it (by simp)
    have hl := rv.length
    exact wpAny_pyNext_list_end (I.ok.hd hc) st p.isList (by simp; omega) fun h' eb => ⟨rfl, I.turned (t' := s.toks) (fun b o hb e => eb b o hb e) f0 f1 f3 f4 f5⟩
  self := fun _ _ _ _ _ st h => wpAny_pyIter_listiter st h
theorem turn_tuple {P : Program} {w : World} {K : PySem.W.Frag} {tg : Expr} (a it : Addr) : Turn P w K tg (Itt K a) [it] it (fun i h => h.IsTupleIter it a i) where
  mem := by simp
  obj := fun i h st b hb => by
    have e : b = it := by simpa using hb
    subst e
    obtain ⟨o, e, c, d⟩ := st
    exact ⟨o, e, fun v z => by rw [d] at z; cases z⟩
  keep := fun i h h' st k => st.at fun o e => k it (by simp) o e
  item := by
    intro X hP hw hK hc i pins s σ H E I hf st hg
    subst hP hw hK
    obtain ⟨xs, x, hq, hx⟩ := hg
    obtain ⟨its, rv, p, hz⟩ := I.tuple hq
    obtain ⟨u, hu, ru⟩ := rv.get hx
    obtain ⟨f0, f1, f2, f3, f4, f5⟩ := hf it (by simp)
    refine wpAny_pyNext_tuple_item st (show s.heap.IsTuple a its.toArray from p) (x := u) (by simpa using hu) fun h' st' sb => ?_
    have I1 : Inv X pins σ H { s with heap := h' } := I.turned (t' := s.toks) (fun b o hb e => (sb.2 b hb).trans e) f0 f1 f3 f4 f5
    obtain ⟨o, e, c, d⟩ := id st'
    exact ⟨u, rfl, go_of (s := { s with heap := h' }) e c d (by decide) ⟨x, H, I1, ru, ⟨rfl, fun ys hy => by rw [I.tuple_inj hy hq]; exact hx⟩, st', fun b hb => (hf b hb).1⟩⟩
  done := by
    intro X hP hw hK hc i pins s σ H E I hf st hg
    subst hP hw hK
    obtain ⟨xs, hq, hx⟩ := hg
    obtain ⟨its, rv, p, hz⟩ := I.tuple hq
    obtain ⟨f0, f1, f2, f3, f4, f5⟩ := hf it (by simp)
    have hl := rv.length
    exact wpAny_pyNext_tuple_end (I.ok.hd hc) st (show s.heap.IsTuple a its.toArray from p) (by simp; omega) fun h' eb => ⟨rfl, I.turned (t' := s.toks) (fun b o hb e => eb b o hb e) f0 f1 f3 f4 f5⟩
  self := fun _ _ _ _ _ st h => wpAny_pyIter_tupleiter st h
theorem turn_range {P : Program} {w : World} {K : PySem.W.Frag} {tg : Expr} (it : Addr) (lo : Int) (n : Nat) : Turn P w K tg (Itr lo n) [it] it (fun i h => IsRangeIter h it (lo + (i : Nat) * 1) ((n : Int) - (i : Nat)) 1) where
  mem := by simp
  obj := fun i h st b hb => by
    have e : b = it := by simpa using hb
    subst e
    exact ⟨_, st, fun v z => by
      have z' : Data.fields _ = Data.cell v := z
      cases z'⟩
  keep := fun i h h' st k => k it (by simp) _ st
  item := by
    intro X hP hw hK hc i pins s σ H E I hf st hg
    subst hP hw hK
    obtain ⟨f0, f1, f2, f3, f4, f5⟩ := hf it (by simp)
    have W := Walks.range (prog := X.prog) (w := X.w) (I.ok.hd hc) it lo 1 n
    refine W.item i s _ _ hg st fun v h' tk hv st' kk => ?_
    obtain ⟨t, rfl⟩ := hv
    have I1 : Inv X pins σ H { s with heap := h', toks := tk } := I.turned (fun b o hb e => kk b o (by simpa using hb) e) f0 f1 f3 f4 f5
    refine ⟨_, rfl, go_of (s := { s with heap := h', toks := tk }) (n := "range_iterator") st' rfl rfl (by decide) ⟨.int (lo + i), H, I1, ⟨t, ?_⟩, ⟨rfl, rfl⟩, st', fun b hb => (hf b hb).1⟩⟩
    rw [Int.mul_one]
  done := by
    intro X hP hw hK hc i pins s σ H E I hf st hg
    subst hP hw hK
    obtain ⟨f0, f1, f2, f3, f4, f5⟩ := hf it (by simp)
    exact wpAny_pyNext_range_end (I.ok.hd hc) st (by have : n ≤ i := hg; omega) fun h' eb => ⟨rfl, I.turned (t' := s.toks) (fun b o hb e => eb b o hb e) f0 f1 f3 f4 f5⟩
  self := fun _ _ _ _ _ st h => wpAny_pyIter_rangeiter st h
end L2
namespace L2
open PySem PySem.Spec PyProof.Rows
section
variable {X : Cx} {tg : Expr}
def iList (K : PySem.W.Frag) (tl : TE) : TI := fun σ H R => tl σ H fun x H1 => ∃ a, x = .ref a ∧ (∃ xs, SqL K H1 a xs) ∧ R (Itl K a) H1
def iTup (K : PySem.W.Frag) (tl : TE) : TI := fun σ H R => tl σ H fun x H1 => ∃ a, x = .ref a ∧ (∃ xs, SqT K H1 a xs) ∧ R (Itt K a) H1
theorem pi_list {l : Expr} {tl : TE} (hl : PE X l tl) : PI X tg l (iList X.K tl) := by
  intro pins s σ H R I h
  refine thn (hl pins s σ H _ I h) fun v s1 ⟨x, H1, I1, r1, q1⟩ => ?_
  obtain ⟨a, e, ⟨xs, hq⟩, q⟩ := q1
  subst e
  cases r1
  obtain ⟨its, rv, p, hz⟩ := I1.list hq
  refine wpAny_pyIter_list p.isList ?_
  refine ⟨s1.heap.objs.size, [s1.heap.objs.size], _, _, H1, rfl, I1.kept (t' := s1.toks) fun b o e => Heap.get?_push_of_some _ e, turn_list a _, ⟨_, Heap.get?_push_size _ rfl, rfl, rfl⟩, fun b hb => ?_, q⟩
  have e : b = s1.heap.objs.size := by simpa using hb
  subst e
  exact I1.fpOk (Nat.le_refl _) (I1.hok.fresh (Nat.le_refl _))
theorem pi_tup {l : Expr} {tl : TE} (hl : PE X l tl) : PI X tg l (iTup X.K tl) := by
  intro pins s σ H R I h
  refine thn (hl pins s σ H _ I h) fun v s1 ⟨x, H1, I1, r1, q1⟩ => ?_
  obtain ⟨a, e, ⟨xs, hq⟩, q⟩ := q1
  subst e
  cases r1
  obtain ⟨its, rv, p, hz⟩ := I1.tuple hq
  refine wpAny_pyIter_tuple (show s1.heap.IsTuple a its.toArray from p) ?_
  refine ⟨s1.heap.objs.size, [s1.heap.objs.size], _, _, H1, rfl, I1.kept (t' := s1.toks) fun b o e => Heap.get?_push_of_some _ e, turn_tuple a _, ⟨_, Heap.get?_push_size _ rfl, rfl, rfl⟩, fun b hb => ?_, q⟩
  have e : b = s1.heap.objs.size := by simpa using hb
  subst e
  exact I1.fpOk (Nat.le_refl _) (I1.hok.fresh (Nat.le_refl _))
theorem range_it {pins : List (Addr × Obj)} {σ : St} {H : Hp} {s : Shared} {R : It → Hp → Prop} {E : Value → Shared → Prop} {lo hi : Int} {t u v : Tok} {tk : Nat} (I : Inv X pins σ H s) (h1 : -(2 ^ 62) ≤ lo) (h2 : lo < 2 ^ 62) (h3 : -(2 ^ 62) ≤ hi) (h4 : hi < 2 ^ 62)
    (q : R (Itr lo (hi - lo).toNat) H) : wpAny (model X.prog X.w) X.A (pyIter (.ref s.heap.objs.size)) (PIE X pins σ tg R) E { s with heap := s.heap.push { cls := .type "range", data := .fields #[.int lo t, .int hi u, .int 1 v] }, toks := tk } := by
  refine wpAny_pyIter_range (IsRange.new ..) (small_one h1 h2 h3 h4) ?_
  have I1 : Inv X pins σ H { s with heap := s.heap.push { cls := .type "range", data := .fields #[.int lo t, .int hi u, .int 1 v] }, toks := tk } := I.kept fun b o e => Heap.get?_push_of_some _ e
  refine ⟨(s.heap.push { cls := .type "range", data := .fields #[.int lo t, .int hi u, .int 1 v] }).objs.size, [(s.heap.push { cls := .type "range", data := .fields #[.int lo t, .int hi u, .int 1 v] }).objs.size], _, _, H, rfl,
    I1.kept (t' := tk) fun b o e => Heap.get?_push_of_some _ e, turn_range _ lo (hi - lo).toNat, ?_, fun b hb => ?_, q⟩
  · have e1 : lo + ((0 : Nat) : Int) * 1 = lo := by simp
    have e2 : (((hi - lo).toNat : Nat) : Int) - ((0 : Nat) : Int) = Builtin.Range.rangeSize lo hi 1 := by rw [rangeSize_one]; split <;> omega
    show IsRangeIter _ _ (lo + ((0 : Nat) : Int) * 1) ((((hi - lo).toNat : Nat) : Int) - ((0 : Nat) : Int)) 1
    rw [e1, e2]
    exact Heap.get?_push_size _ rfl
  · have e : b = (s.heap.push { cls := .type "range", data := .fields #[.int lo t, .int hi u, .int 1 v] }).objs.size := by simpa using hb
    subst e
    exact I1.fpOk (Nat.le_refl _) (I1.hok.fresh (Nat.le_refl _))
def iRng1 (ta : TA) : TI := fun σ H R => ta σ H fun vs H1 => ∃ j : Int, vs = [.int j] ∧ -(2 ^ 62) ≤ j ∧ j < 2 ^ 62 ∧ R (Itr 0 j.toNat) H1
theorem pi_range1 {a : Expr} {ta : TA} {p pos : Pos} (hg : Gl X "range") (hm : X.mg "range" = none) (ha : PA X [a] ta) (hs : starEach [a] X.env = [(false, eval a X.env)] := by rfl) : PI X tg (.Call (.Name "range" p) [a] [] pos) (iRng1 ta) := by
  intro pins s σ H R I h
  refine Call_ (ld_blt I hg hm boot_range (PyProof.Rows.callWith_type1 (thn (ha pos pins s σ H _ I h) fun us s1 ⟨vs, H1, I1, r1, q1⟩ => ?_) hs rfl))
  obtain ⟨j, e, q1, q2, q⟩ := q1
  subst e
  cases r1 with
  | cons r rr =>
    cases rr
    obtain ⟨t, rfl⟩ := r
    exact call_range_1 (range_it I1 (by omega) (by omega) q1 q2 (by simpa using q))
def tFor (wi : TI) (g : TG) (tb : TS) : TS := fun D σ H => wi σ H fun J H1 => ∃ W : Nat → Nat → St → Hp → Prop, (∃ m, W 0 m σ H1) ∧ ∀ i m σ H, W i m σ H →
  (J.stop i H ∧ D.nx σ H) ∨ (J.go i H ∧ ∃ N : St → Hp → Prop, (∀ σ' H', N σ' H' → ∃ m', m' < m ∧ W (i + 1) m' σ' H') ∧ ∀ x H', J.yld i H x H' → g x σ H' fun σ2 H2 => tb { D with nx := N, ct := N, bk := D.nx } σ2 H2)
def pinsAt (fp : List Addr) (h : Heap) : List (Addr × Obj) := fp.filterMap fun b => (h.get? b).map fun o => (b, o)
theorem mem_pinsAt {fp : List Addr} {h : Heap} {b : Addr} {o : Obj} (hb : b ∈ fp) (e : h.get? b = some o) : (b, o) ∈ pinsAt fp h := List.mem_filterMap.mpr ⟨b, hb, by rw [e]; rfl⟩
theorem of_pinsAt {fp : List Addr} {h : Heap} {p : Addr × Obj} (hp : p ∈ pinsAt fp h) : p.1 ∈ fp ∧ h.get? p.1 = some p.2 := by
  obtain ⟨b, hb, e⟩ := List.mem_filterMap.mp hp
  cases q : h.get? b with
  | none => rw [q] at e; cases e
  | some o =>
    rw [q] at e
    have e' : (b, o) = p := Option.some.inj e
    subst e'
    exact ⟨hb, q⟩
theorem Inv.pinned {pins : List (Addr × Obj)} {σ : St} {H : Hp} {s : Shared} {fp : List Addr} (I : Inv X pins σ H s) (hf : ∀ b ∈ fp, FpOk X pins H b) (ho : ∀ b ∈ fp, ∃ o, s.heap.get? b = some o ∧ ∀ v, o.data ≠ .cell v) : Inv X (pins ++ pinsAt fp s.heap) σ H s :=
  I.pins_of fun p hp => (List.mem_append.mp hp).elim (fun z => I.pin p (List.mem_append_right _ z)) fun z => by
    obtain ⟨hb, e⟩ := of_pinsAt z
    obtain ⟨f0, f1, f2, _⟩ := hf p.1 hb
    obtain ⟨o, e', d⟩ := ho p.1 hb
    rw [e] at e'; cases e'
    exact ⟨e, f0, f1, f2, d⟩
theorem Inv.unpinned {pins pl : List (Addr × Obj)} {σ : St} {H : Hp} {s : Shared} (I : Inv X (pins ++ pl) σ H s) : Inv X pins σ H s := I.pins_of fun p hp => I.pin p (List.mem_append_right _ (List.mem_append_left _ hp))
theorem ps_for {iter : Expr} {body : List Stmt} {wi : TI} {g : TG} {tb : TS} {pos : Pos} (hp : PassesOwn (model X.prog X.w) X.A X.env X.xe) (hc : X.calm = true) (hi : PI X tg iter wi) (hg : PG X tg g) (hb : PSs X body tb)
    (hs : ∀ x, foldedSetIterable iter X.env x = pure x := by intro _; rfl) : PS X (.For tg iter body [] pos) (tFor wi g tb) := by
  intro pins s σ H D I h
  refine wpAny_For (thn (hi pins s σ H _ I h) fun v s1 h1 => thn h1 fun itv s2 h2 => ?_) hs
  obtain ⟨it, fp, tn, J, H2, e, I2, T, st2, f2, W, ⟨m0, w0⟩, turn⟩ := h2
  subst e
  have stat : ∀ {H' : Hp}, (∀ b ∈ fp, H' b = none) → ∀ b ∈ fp, FpOk X pins H' b := fun hn b hb => ⟨hn b hb, (f2 b hb).2⟩
  refine codeAny_forLoop_any (fun n s' => ∃ i σ' H', Inv X pins σ' H' s' ∧ tn i s'.heap ∧ (∀ b ∈ fp, H' b = none) ∧ W i n σ' H') ?_ m0 ⟨0, σ, H2, I2, st2, fun b hb => (f2 b hb).1, w0⟩
  rintro n s3 ⟨i, σ3, H3, I3, st3, fr3, w3⟩
  rcases turn i n σ3 H3 w3 with ⟨stop, qn⟩ | ⟨go, N, hN, step⟩
  · refine wpAny_passesOwn hp (thn (T.done X rfl rfl rfl hc i pins s3 σ3 H3 X.xe I3 (stat fr3) st3 stop) fun r s4 ⟨hr, I4⟩ => ?_)
    subst hr
    exact wpAny_execs_nil ⟨σ3, H3, I4, qn⟩
  · refine wpAny_passesOwn hp (thn (T.item X rfl rfl rfl hc i pins s3 σ3 H3 X.xe I3 (stat fr3) st3 go) fun r s4 ⟨u, hr, h4⟩ => ?_)
    subst hr
    refine wpAny_passesOwn hp (thn h4 fun _ s5 ⟨x, H5, I5, r5, y5, st5, fr5⟩ => ?_)
    have I5' := I5.pinned (stat fr5) (T.obj _ _ st5)
    refine wpAny_passesOwn hp (thn (hg _ s5 σ3 H5 x u _ I5' r5 (step x H5 y5)) fun _ s6 ⟨σ6, H6, I6, q6⟩ => ?_)
    refine wpAny_passesOwn hp (thn (hb _ s6 σ6 H6 _ I6 q6) fun f s7 q7 => ?_)
    have again : ∀ {σ7 : St} {H7 : Hp}, Inv X (pins ++ pinsAt fp s5.heap) σ7 H7 s7 → N σ7 H7 → ∃ m, m < n ∧ ∃ i σ' H', Inv X pins σ' H' s7 ∧ tn i s7.heap ∧ (∀ b ∈ fp, H' b = none) ∧ W i m σ' H' := fun {σ7 H7} I7 n7 => by
      obtain ⟨m', hm, w7⟩ := hN σ7 H7 n7
      refine ⟨m', hm, i + 1, σ7, H7, I7.unpinned, T.keep _ _ _ st5 fun b hb o e => (I7.pin (b, o) (List.mem_append_right _ (List.mem_append_right _ (mem_pinsAt hb e)))).1, fun b hb => ?_, w7⟩
      obtain ⟨o, e, d⟩ := T.obj _ _ st5 b hb
      exact (I7.pin (b, o) (List.mem_append_right _ (List.mem_append_right _ (mem_pinsAt hb e)))).2.1
    cases f with
    | next => obtain ⟨σ7, H7, I7, n7⟩ := q7; exact again I7 n7
    | cont => obtain ⟨σ7, H7, I7, n7⟩ := q7; exact again I7 n7
    | brk => obtain ⟨σ7, H7, I7, q7⟩ := q7; exact ⟨σ7, H7, I7.unpinned, q7⟩
    | ret v => obtain ⟨x7, σ7, H7, I7, r7, q7⟩ := q7; exact ⟨x7, σ7, H7, I7.unpinned, r7, q7⟩
end
theorem for_list {K : PySem.W.Frag} {a : Addr} {xs : List V} {g : TG} {tb : TS} {D : Ends} {σ : St} {H : Hp} (Pv : Nat → St → Hp → Prop) (h0 : Pv 0 σ H) (hl : ∀ i σ H, i ≤ xs.length → Pv i σ H → SqL K H a xs)
    (hs : ∀ i x σ H, xs[i]? = some x → Pv i σ H → g x σ H fun σ2 H2 => tb { D with nx := Pv (i + 1), ct := Pv (i + 1), bk := D.nx } σ2 H2) (hd : ∀ σ H, Pv xs.length σ H → D.nx σ H) :
    ∃ W : Nat → Nat → St → Hp → Prop, (∃ m, W 0 m σ H) ∧ ∀ i m σ H, W i m σ H →
      ((Itl K a).stop i H ∧ D.nx σ H) ∨ ((Itl K a).go i H ∧ ∃ N : St → Hp → Prop, (∀ σ' H', N σ' H' → ∃ m', m' < m ∧ W (i + 1) m' σ' H') ∧ ∀ x H', (Itl K a).yld i H x H' → g x σ H' fun σ2 H2 => tb { D with nx := N, ct := N, bk := D.nx } σ2 H2) := by
  refine ⟨fun i m σ H => m = xs.length - i ∧ i ≤ xs.length ∧ Pv i σ H, ⟨xs.length, by simp, Nat.zero_le _, h0⟩, ?_⟩
  rintro i m σ H ⟨rfl, hi, p⟩
  have q := hl i σ H hi p
  by_cases hlt : i < xs.length
  · refine .inr ⟨⟨xs, xs[i], q, by simp [hlt]⟩, Pv (i + 1), fun σ' H' p' => ⟨xs.length - (i + 1), by omega, rfl, hlt, p'⟩, fun x H' y => ?_⟩
    obtain ⟨e, y⟩ := y
    subst e
    exact hs i x σ _ (y xs q) p
  · have e : i = xs.length := by omega
    subst e
    exact .inl ⟨⟨xs, q, Nat.le_refl _⟩, hd σ H p⟩
theorem for_tup {K : PySem.W.Frag} {a : Addr} {xs : List V} {g : TG} {tb : TS} {D : Ends} {σ : St} {H : Hp} (Pv : Nat → St → Hp → Prop) (h0 : Pv 0 σ H) (hl : ∀ i σ H, i ≤ xs.length → Pv i σ H → SqT K H a xs)
    (hs : ∀ i x σ H, xs[i]? = some x → Pv i σ H → g x σ H fun σ2 H2 => tb { D with nx := Pv (i + 1), ct := Pv (i + 1), bk := D.nx } σ2 H2) (hd : ∀ σ H, Pv xs.length σ H → D.nx σ H) :
    ∃ W : Nat → Nat → St → Hp → Prop, (∃ m, W 0 m σ H) ∧ ∀ i m σ H, W i m σ H →
      ((Itt K a).stop i H ∧ D.nx σ H) ∨ ((Itt K a).go i H ∧ ∃ N : St → Hp → Prop, (∀ σ' H', N σ' H' → ∃ m', m' < m ∧ W (i + 1) m' σ' H') ∧ ∀ x H', (Itt K a).yld i H x H' → g x σ H' fun σ2 H2 => tb { D with nx := N, ct := N, bk := D.nx } σ2 H2) := by
  refine ⟨fun i m σ H => m = xs.length - i ∧ i ≤ xs.length ∧ Pv i σ H, ⟨xs.length, by simp, Nat.zero_le _, h0⟩, ?_⟩
  rintro i m σ H ⟨rfl, hi, p⟩
  have q := hl i σ H hi p
  by_cases hlt : i < xs.length
  · refine .inr ⟨⟨xs, xs[i], q, by simp [hlt]⟩, Pv (i + 1), fun σ' H' p' => ⟨xs.length - (i + 1), by omega, rfl, hlt, p'⟩, fun x H' y => ?_⟩
    obtain ⟨e, y⟩ := y
    subst e
    exact hs i x σ _ (y xs q) p
  · have e : i = xs.length := by omega
    subst e
    exact .inl ⟨⟨xs, q, Nat.le_refl _⟩, hd σ H p⟩
theorem for_range {lo : Int} {n : Nat} {g : TG} {tb : TS} {D : Ends} {σ : St} {H : Hp} (Pv : Nat → St → Hp → Prop) (h0 : Pv 0 σ H)
    (hs : ∀ i σ H, i < n → Pv i σ H → g (.int (lo + i)) σ H fun σ2 H2 => tb { D with nx := Pv (i + 1), ct := Pv (i + 1), bk := D.nx } σ2 H2) (hd : ∀ σ H, Pv n σ H → D.nx σ H) :
    ∃ W : Nat → Nat → St → Hp → Prop, (∃ m, W 0 m σ H) ∧ ∀ i m σ H, W i m σ H →
      ((Itr lo n).stop i H ∧ D.nx σ H) ∨ ((Itr lo n).go i H ∧ ∃ N : St → Hp → Prop, (∀ σ' H', N σ' H' → ∃ m', m' < m ∧ W (i + 1) m' σ' H') ∧ ∀ x H', (Itr lo n).yld i H x H' → g x σ H' fun σ2 H2 => tb { D with nx := N, ct := N, bk := D.nx } σ2 H2) := by
  refine ⟨fun i m σ H => m = n - i ∧ i ≤ n ∧ Pv i σ H, ⟨n, by simp, Nat.zero_le _, h0⟩, ?_⟩
  rintro i m σ H ⟨rfl, hi, p⟩
  by_cases hlt : i < n
  · refine .inr ⟨hlt, Pv (i + 1), fun σ' H' p' => ⟨n - (i + 1), by omega, rfl, hlt, p'⟩, fun x H' y => ?_⟩
    obtain ⟨e, y⟩ := y
    subst e y
    exact hs i σ _ hlt p
  · have e : i = n := by omega
    subst e
    exact .inl ⟨Nat.le_refl _, hd σ H p⟩
end L2
namespace L2
open PySem PySem.Spec PyProof.Rows
abbrev R2 := V → V → Hp → VK → Prop
def OpR (X : Cx) (f : Value → Value → Sem Value) (r : R2) : Prop :=
  ∀ (pins : List (Addr × Obj)) (s : Shared) (σ : St) (H : Hp) (x y : V) (v u : Value) (Q : VK), Inv X pins σ H s → RelV x v → RelV y u → r x y H Q →
    wpAny (model X.prog X.w) X.A (f v u) (EP X pins σ Q) X.xe s
def UnR (X : Cx) (f : Value → Sem Value) (r : V → Hp → VK → Prop) : Prop :=
  ∀ (pins : List (Addr × Obj)) (s : Shared) (σ : St) (H : Hp) (x : V) (v : Value) (Q : VK), Inv X pins σ H s → RelV x v → r x H Q →
    wpAny (model X.prog X.w) X.A (f v) (EP X pins σ Q) X.xe s
def CallR (X : Cx) (f : Value) (r : List V → Hp → VK → Prop) : Prop :=
  ∀ (pins : List (Addr × Obj)) (s : Shared) (σ : St) (H : Hp) (xs : List V) (us : List Value) (Q : VK), Inv X pins σ H s → Vals xs us → r xs H Q →
    wpAny (model X.prog X.w) X.A (call f us) (EP X pins σ Q) X.xe s
def tOp (r : R2) (ta tb : TE) : TE := fun σ H Q => ta σ H fun x H1 => tb σ H1 fun y H2 => r x y H2 Q
def tUn (r : V → Hp → VK → Prop) (ta : TE) : TE := fun σ H Q => ta σ H fun x H1 => r x H1 Q
def rI (C : Int → Int → Prop) (g : Int → Int → V) : R2 := fun x y H Q => ∃ i j, x = .int i ∧ y = .int j ∧ C i j ∧ Q (g i j) H
def rI0 (g : Int → Int → V) : R2 := fun x y H Q => ∃ i j, x = .int i ∧ y = .int j ∧ Q (g i j) H
def rU (g : Int → V) : V → Hp → VK → Prop := fun x H Q => ∃ i, x = .int i ∧ Q (g i) H
section
variable {X : Cx} {a b c : Expr} {ta tb tc : TE} {pos : Pos}
theorem binT (ha : PE X a ta) (hb : PE X b tb) {pins : List (Addr × Obj)} {s : Shared} {σ : St} {H : Hp} {R : V → V → Hp → Prop} (I : Inv X pins σ H s)
    (h : ta σ H fun x H1 => tb σ H1 fun y H2 => R x y H2) {Q : Value → Shared → Prop} {f : Value → Value → Sem Value}
    (hf : ∀ v u s2 x y H2, Inv X pins σ H2 s2 → RelV x v → RelV y u → R x y H2 → wpAny (model X.prog X.w) X.A (f v u) Q X.xe s2) :
    wpAny (model X.prog X.w) X.A (eval a X.env) (fun v s₁ => wpAny (model X.prog X.w) X.A (eval b X.env) (fun u s₂ => wpAny (model X.prog X.w) X.A (f v u) Q X.xe s₂) X.xe s₁) X.xe s := by
  refine thn (ha pins s σ H _ I h) fun v s1 ⟨x, H1, I1, r1, q1⟩ => ?_
  refine thn (hb pins s1 σ H1 _ I1 q1) fun u s2 ⟨y, H2, I2, r2, q2⟩ => ?_
  exact hf v u s2 x y H2 I2 r1 r2 q2
theorem pe_op {op : Operator} {r : R2} (ho : OpR X (binaryOp op) r) (ha : PE X a ta) (hb : PE X b tb) : PE X (.BinOp a op b pos) (tOp r ta tb) := by
  intro pins s σ H Q I h
  exact wpAny_BinOp (binT ha hb I h fun v u s2 x y H2 I2 rx ry q => ho pins s2 σ H2 x y v u Q I2 rx ry q)
theorem pe_un {op : UnaryOp} {r : V → Hp → VK → Prop} (ho : UnR X (unaryOp op) r) (ha : PE X a ta) : PE X (.UnaryOp op a pos) (tUn r ta) := by
  intro pins s σ H Q I h
  exact UnaryOp_ (thn (ha pins s σ H _ I h) fun v s1 ⟨x, H1, I1, r1, q1⟩ => ho pins s1 σ H1 x v Q I1 r1 q1)
theorem opI {f : Value → Value → Sem Value} {C : Int → Int → Prop} {g : Int → Int → Int}
    (rule : ∀ (i j : Int) (t u : Tok) (s : Shared) (Q : Value → Shared → Prop) (E : Value → Shared → Prop), C i j → Q (.int (g i j) s.toks) { s with toks := s.toks + 1 } → wpAny (model X.prog X.w) X.A (f (.int i t) (.int j u)) Q E s) :
    OpR X f (rI C fun i j => .int (g i j)) := by
  intro pins s σ H x y v u Q I rx ry h
  obtain ⟨i, j, rfl, rfl, hc, q⟩ := h
  obtain ⟨t, rfl⟩ := rx
  obtain ⟨t', rfl⟩ := ry
  exact rule i j t t' s _ _ hc ⟨.int (g i j), H, I.tok _, ⟨_, rfl⟩, q⟩
theorem opI0 {f : Value → Value → Sem Value} {g : Int → Int → Int}
    (rule : ∀ (i j : Int) (t u : Tok) (s : Shared) (Q : Value → Shared → Prop) (E : Value → Shared → Prop), Q (.int (g i j) s.toks) { s with toks := s.toks + 1 } → wpAny (model X.prog X.w) X.A (f (.int i t) (.int j u)) Q E s) :
    OpR X f (rI0 fun i j => .int (g i j)) := by
  intro pins s σ H x y v u Q I rx ry h
  obtain ⟨i, j, rfl, rfl, q⟩ := h
  obtain ⟨t, rfl⟩ := rx
  obtain ⟨t', rfl⟩ := ry
  exact rule i j t t' s _ _ ⟨.int (g i j), H, I.tok _, ⟨_, rfl⟩, q⟩
theorem opB0 {f : Value → Value → Sem Value} {g : Int → Int → Bool}
    (rule : ∀ (i j : Int) (t u : Tok) (s : Shared) (Q : Value → Shared → Prop) (E : Value → Shared → Prop), Q (.bool (g i j)) s → wpAny (model X.prog X.w) X.A (f (.int i t) (.int j u)) Q E s) :
    OpR X f (rI0 fun i j => .bl (g i j)) := by
  intro pins s σ H x y v u Q I rx ry h
  obtain ⟨i, j, rfl, rfl, q⟩ := h
  obtain ⟨t, rfl⟩ := rx
  obtain ⟨t', rfl⟩ := ry
  exact rule i j t t' s _ _ ⟨.bl (g i j), H, I, rfl, q⟩
def CDiv (i j : Int) : Prop := 0 < j ∧ j < 1073741824
def CPow (i j : Int) : Prop := 0 ≤ j ∧ j ≤ 1000000 ∧ i.natAbs < 2 ^ 64
def CMul (i j : Int) : Prop := (-(2 ^ 64) < i ∧ i < 2 ^ 64) ∨ (-(2 ^ 64) < j ∧ j < 2 ^ 64)
theorem CMul.ok {i j : Int} (h : CMul i j) : IntMulOk i j := by
  rcases h with ⟨h1, h2⟩ | ⟨h1, h2⟩
  · exact .of_left (intBits_le_64 h1 h2)
  · exact .of_right (intBits_le_64 h1 h2)
theorem op_add : OpR X (binaryOp .Add) (rI0 fun i j => .int (i + j)) := opI0 fun _ _ _ _ _ _ _ q => add_int q
theorem op_sub : OpR X (binaryOp .Sub) (rI0 fun i j => .int (i - j)) := opI0 fun _ _ _ _ _ _ _ q => sub_int q
theorem op_mul : OpR X (binaryOp .Mult) (rI CMul fun i j => .int (i * j)) := opI fun _ _ _ _ _ _ _ hc q => mul_int q hc.ok
theorem op_fdiv : OpR X (binaryOp .FloorDiv) (rI CDiv fun i j => .int (i / j)) := opI fun i j _ _ _ _ _ hc q => by
  have h1 : (0 : Int) < j := hc.1
  have h2 : j < 1073741824 := hc.2
  exact floordiv_int (by omega) (by rw [Int.fdiv_eq_ediv_of_nonneg i (by omega)]; exact q) (.inl (PyProof.noPylong_small (by omega)))
theorem op_mod : OpR X (binaryOp .Mod) (rI (fun _ j => 0 < j) fun i j => .int (i % j)) := opI fun i j _ _ _ _ _ hc q => by
  have h1 : (0 : Int) < j := hc
  exact mod_int' (by omega) (by rw [Int.fmod_eq_emod_of_nonneg i (by omega)]; exact q)
theorem op_pow : OpR X (binaryOp .Pow) (rI CPow fun i j => .int (i ^ j.toNat)) := opI fun _ _ _ _ _ _ _ hc q => pow_int_small hc.1 hc.2.1 hc.2.2 q
theorem unI {f : Value → Sem Value} {g : Int → Int}
    (rule : ∀ (i : Int) (t : Tok) (s : Shared) (Q : Value → Shared → Prop) (E : Value → Shared → Prop), Q (.int (g i) s.toks) { s with toks := s.toks + 1 } → wpAny (model X.prog X.w) X.A (f (.int i t)) Q E s) :
    UnR X f (rU fun i => .int (g i)) := by
  intro pins s σ H x v Q I rx h
  obtain ⟨i, rfl, q⟩ := h
  obtain ⟨t, rfl⟩ := rx
  exact rule i t s _ _ ⟨.int (g i), H, I.tok _, ⟨_, rfl⟩, q⟩
theorem un_neg : UnR X (unaryOp .USub) (rU fun i => .int (-i)) := unI fun _ _ _ _ _ q => neg_int q
end
def scal : V → V → Bool
  | .non, .non => true | .non, .int _ => true | .int _, .non => true | .non, .bl _ => true | .bl _, .non => true | .non, .str _ => true | .str _, .non => true
  | .int _, .int _ => true | .bl _, .bl _ => true | .str _, .str _ => true | .byt _, .byt _ => true
  | .int _, .str _ => true | .str _, .int _ => true | .bl _, .str _ => true | .str _, .bl _ => true
  | _, _ => false
def rEq : R2 := fun x y H Q => scal x y = true ∧ Q (.bl (decide (x = y))) H
def rNe : R2 := fun x y H Q => scal x y = true ∧ Q (.bl (!decide (x = y))) H
theorem dec_int {i j : Int} : decide (V.int i = V.int j) = (i == j) := by
  rw [Bool.eq_iff_iff]
  simp
theorem dec_bl {i j : Bool} : decide (V.bl i = V.bl j) = (i == j) := by
  rw [Bool.eq_iff_iff]
  simp
theorem dec_str {i j : Str} : decide (V.str i = V.str j) = (i == j) := by
  rw [Bool.eq_iff_iff]
  simp
theorem dec_byt {i j : Array UInt8} : decide (V.byt i = V.byt j) = (i.toList == j.toList) := by
  rw [Bool.eq_iff_iff]
  cases i
  cases j
  simp
section
variable {X : Cx} {a b c : Expr} {ta tb tc : TE} {pos : Pos}
theorem fin_bl {pins : List (Addr × Obj)} {σ : St} {H : Hp} {s : Shared} {Q : VK} {k k' : Bool} (I : Inv X pins σ H s) (q : Q (.bl k) H) (e : k = k') : EP X pins σ Q (.bool k') s := by
  subst e
  exact ⟨.bl k, H, I, rfl, q⟩
theorem op_eq : OpR X (compareOp .Eq) rEq := by
  intro pins s σ H x y v u Q I rx ry h
  obtain ⟨hs, q⟩ := h
  cases x with
  | non =>
    cases rx
    cases y with
    | non => cases ry; exact PySem.EqNone.eq_none_none (fin_bl I q (by simp))
    | bl j => cases ry; exact PySem.EqNone.eq_none_bool (fin_bl I q (by simp))
    | int j => obtain ⟨t', rfl⟩ := ry; exact PySem.EqNone.eq_none_int (fin_bl I q (by simp))
    | str j => obtain ⟨t', rfl⟩ := ry; exact PySem.EqNone.eq_none_str (fin_bl I q (by simp))
    | _ => exact absurd (show false = true from hs) Bool.false_ne_true
  | bl i =>
    cases rx
    cases y with
    | non => cases ry; exact PySem.EqNone.eq_bool_none (fin_bl I q (by simp))
    | bl j => cases ry; exact eq_bool (fin_bl I q dec_bl)
    | str j => obtain ⟨t', rfl⟩ := ry; exact PySem.EqMixed.eq_bool_str (fin_bl I q (by simp))
    | _ => exact absurd (show false = true from hs) Bool.false_ne_true
  | int i =>
    obtain ⟨t, rfl⟩ := rx
    cases y with
    | non => cases ry; exact PySem.EqNone.eq_int_none (fin_bl I q (by simp))
    | int j => obtain ⟨t', rfl⟩ := ry; exact eq_int (fin_bl I q dec_int)
    | str j => obtain ⟨t', rfl⟩ := ry; exact PySem.EqMixed.eq_int_str (fin_bl I q (by simp))
    | _ => exact absurd (show false = true from hs) Bool.false_ne_true
  | str i =>
    obtain ⟨t, rfl⟩ := rx
    cases y with
    | non => cases ry; exact PySem.EqNone.eq_str_none (fin_bl I q (by simp))
    | bl j => cases ry; exact PySem.EqMixed.eq_str_bool (fin_bl I q (by simp))
    | int j => obtain ⟨t', rfl⟩ := ry; exact PySem.EqMixed.eq_str_int (fin_bl I q (by simp))
    | str j => obtain ⟨t', rfl⟩ := ry; exact eq_str (fin_bl I q dec_str)
    | _ => exact absurd (show false = true from hs) Bool.false_ne_true
  | byt i =>
    obtain ⟨t, rfl⟩ := rx
    cases y with
    | byt j => obtain ⟨t', rfl⟩ := ry; exact PySem.W.eq_bytes (fin_bl I q dec_byt)
    | _ => exact absurd (show false = true from hs) Bool.false_ne_true
  | _ => cases y <;> exact absurd (show false = true from hs) Bool.false_ne_true
theorem op_ne : OpR X (compareOp .NotEq) rNe := by
  intro pins s σ H x y v u Q I rx ry h
  obtain ⟨hs, q⟩ := h
  cases x with
  | non =>
    cases rx
    cases y with
    | non => cases ry; exact PySem.EqNone.ne_none_none (fin_bl I q (by simp))
    | bl j => cases ry; exact PySem.EqNone.ne_none_bool (fin_bl I q (by simp))
    | int j => obtain ⟨t', rfl⟩ := ry; exact PySem.EqNone.ne_none_int (fin_bl I q (by simp))
    | str j => obtain ⟨t', rfl⟩ := ry; exact PySem.EqNone.ne_none_str (fin_bl I q (by simp))
    | _ => exact absurd (show false = true from hs) Bool.false_ne_true
  | bl i =>
    cases rx
    cases y with
    | non => cases ry; exact PySem.EqNone.ne_bool_none (fin_bl I q (by simp))
    | bl j => cases ry; exact ne_bool (fin_bl I q (congrArg not dec_bl))
    | str j => obtain ⟨t', rfl⟩ := ry; exact PySem.EqMixed.ne_bool_str (fin_bl I q (by simp))
    | _ => exact absurd (show false = true from hs) Bool.false_ne_true
  | int i =>
    obtain ⟨t, rfl⟩ := rx
    cases y with
    | non => cases ry; exact PySem.EqNone.ne_int_none (fin_bl I q (by simp))
    | int j => obtain ⟨t', rfl⟩ := ry; exact ne_int (fin_bl I q (congrArg not dec_int))
    | str j => obtain ⟨t', rfl⟩ := ry; exact PySem.EqMixed.ne_int_str (fin_bl I q (by simp))
    | _ => exact absurd (show false = true from hs) Bool.false_ne_true
  | str i =>
    obtain ⟨t, rfl⟩ := rx
    cases y with
    | non => cases ry; exact PySem.EqNone.ne_str_none (fin_bl I q (by simp))
    | bl j => cases ry; exact PySem.EqMixed.ne_str_bool (fin_bl I q (by simp))
    | int j => obtain ⟨t', rfl⟩ := ry; exact PySem.EqMixed.ne_str_int (fin_bl I q (by simp))
    | str j => obtain ⟨t', rfl⟩ := ry; exact ne_str (fin_bl I q (congrArg not dec_str))
    | _ => exact absurd (show false = true from hs) Bool.false_ne_true
  | byt i =>
    obtain ⟨t, rfl⟩ := rx
    cases y with
    | byt j => obtain ⟨t', rfl⟩ := ry; exact PySem.W.ne_bytes (fin_bl I q (congrArg not dec_byt))
    | _ => exact absurd (show false = true from hs) Bool.false_ne_true
  | _ => cases y <;> exact absurd (show false = true from hs) Bool.false_ne_true
theorem op_lt : OpR X (compareOp .Lt) (rI0 fun i j => .bl (decide (i < j))) := opB0 fun _ _ _ _ _ _ _ q => lt_int q
theorem op_le : OpR X (compareOp .LtE) (rI0 fun i j => .bl (decide (i ≤ j))) := opB0 fun _ _ _ _ _ _ _ q => le_int q
theorem op_gt : OpR X (compareOp .Gt) (rI0 fun i j => .bl (decide (j < i))) := opB0 fun _ _ _ _ _ _ _ q => gt_int q
theorem op_ge : OpR X (compareOp .GtE) (rI0 fun i j => .bl (decide (j ≤ i))) := opB0 fun _ _ _ _ _ _ _ q => ge_int q
theorem op_isN : OpR X (compareOp .Is) (fun x y H Q => y = .non ∧ Q (.bl (decide (x = .non))) H) := by
  intro pins s σ H x y v u Q I rx ry h
  obtain ⟨rfl, q⟩ := h
  cases ry
  refine is_none_gen (fin_bl I q ?_)
  cases x <;> first
    | (cases rx; rfl)
    | (obtain ⟨t, rfl⟩ := rx; rfl)
theorem op_notN : OpR X (compareOp .IsNot) (fun x y H Q => y = .non ∧ Q (.bl (!decide (x = .non))) H) := by
  intro pins s σ H x y v u Q I rx ry h
  obtain ⟨rfl, q⟩ := h
  cases ry
  refine isnot_none_gen (fin_bl I q ?_)
  cases x <;> first
    | (cases rx; rfl)
    | (obtain ⟨t, rfl⟩ := rx; rfl)
theorem nomark (b : Expr) {op : CmpOp} (h : op ≠ .In := by decide) (h2 : op ≠ .NotIn := by decide) : behindInMarks op b = false := by
  have e1 : (op == CmpOp.In) = false := by cases op <;> first | rfl | exact absurd rfl h
  have e2 : (op == CmpOp.NotIn) = false := by cases op <;> first | rfl | exact absurd rfl h2
  cases b <;> simp [behindInMarks, e1, e2]
theorem pe_cmpR {op : CmpOp} {r : R2} (ho : OpR X (compareOp op) r) (ha : PE X a ta) (hb : PE X b tb) (hm : behindInMarks op b = false) : PE X (.Compare a [op] [b] pos) (tOp r ta tb) := by
  intro pins s σ H Q I h
  exact wpAny_Compare1 (binT ha hb I h fun v u s2 x y H2 I2 rx ry q => ho pins s2 σ H2 x y v u Q I2 rx ry q) hm
def tTest (t : TE) : TT := fun σ H Q => t σ H fun x H' => ∃ k, x = .bl k ∧ Q k H'
theorem pt_cmpR {op : CmpOp} {r : R2} (ho : OpR X (compareOp op) r) (ha : PE X a ta) (hb : PE X b tb) (hm : behindInMarks op b = false) : PT X (.Compare a [op] [b] pos) (tTest (tOp r ta tb)) := by
  intro pins s σ H Q I h
  refine wpAny_isTrue_Compare1 (thn (ha pins s σ H _ I h) fun v s1 ⟨x, H1, I1, r1, q1⟩ => thn (hb pins s1 σ H1 _ I1 q1) fun u s2 ⟨y, H2, I2, r2, q2⟩ =>
    thn (ho pins s2 σ H2 x y v u _ I2 r1 r2 q2) fun c s3 ⟨z, H3, I3, r3, k, e, q3⟩ => ?_) hm
  subst e
  cases r3
  exact wpAny_truthy_bool ⟨H3, I3, q3⟩
def tChain (r r' : R2) (ta tb tc : TE) : TE := fun σ H Q => ta σ H fun x H1 => tb σ H1 fun y H2 => r x y H2 fun z H3 => ∃ k, z = .bl k ∧
  (if k = true then tc σ H3 fun w' H4 => r' y w' H4 Q else Q (.bl false) H3)
theorem pe_chain {op op' : CmpOp} {r r' : R2} (ho : OpR X (compareOp op) r) (ho' : OpR X (compareOp op') r') (ha : PE X a ta) (hb : PE X b tb) (hc : PE X c tc)
    (hm : lastMarks [op, op'] [b, c] = false := by with_unfolding_all rfl) : PE X (.Compare a [op, op'] [b, c] pos) (tChain r r' ta tb tc) := by
  intro pins s σ H Q I h
  refine Compare_chain (thn (ha pins s σ H _ I h) fun v s1 ⟨x, H1, I1, r1, q1⟩ => chain_link (thn (hb pins s1 σ H1 _ I1 q1) fun u s2 ⟨y, H2, I2, r2, q2⟩ =>
    thn (ho pins s2 σ H2 x y v u _ I2 r1 r2 q2) fun d s3 ⟨z, H3, I3, r3, k, e, q3⟩ => ?_)) hm
  subst e
  cases r3
  refine wpAny_truthy_bool ?_
  cases k with
  | false => exact ite_ff ⟨.bl false, H3, I3, rfl, q3⟩
  | true => exact ite_tt (chain_last (thn (hc pins s3 σ H3 _ I3 q3) fun w' s4 ⟨z', H4, I4, r4, q4⟩ => ho' pins s4 σ H4 y z' u w' Q I4 r2 r4 q4))
theorem pt_chain {op op' : CmpOp} {r r' : R2} (ho : OpR X (compareOp op) r) (ho' : OpR X (compareOp op') r') (ha : PE X a ta) (hb : PE X b tb) (hc : PE X c tc)
    (hm : lastMarks [op, op'] [b, c] = false := by with_unfolding_all rfl) : PT X (.Compare a [op, op'] [b, c] pos) (tTest (tChain r r' ta tb tc)) := by
  intro pins s σ H Q I h
  refine isTrue_chain (thn (ha pins s σ H _ I h) fun v s1 ⟨x, H1, I1, r1, q1⟩ => test_link (thn (hb pins s1 σ H1 _ I1 q1) fun u s2 ⟨y, H2, I2, r2, q2⟩ =>
    thn (ho pins s2 σ H2 x y v u _ I2 r1 r2 q2) fun d s3 ⟨z, H3, I3, r3, k, e, q3⟩ => ?_)) hm
  subst e
  cases r3
  refine wpAny_truthy_bool ?_
  cases k with
  | false =>
    obtain ⟨k', e', q'⟩ := q3
    cases e'
    exact ite_ff ⟨H3, I3, q'⟩
  | true =>
    refine ite_tt (test_last (thn (hc pins s3 σ H3 _ I3 q3) fun w' s4 ⟨z', H4, I4, r4, q4⟩ => thn (ho' pins s4 σ H4 y z' u w' _ I4 r2 r4 q4) fun d' s5 ⟨z2, H5, I5, r5, k2, e2, q5⟩ => ?_))
    subst e2
    cases r5
    exact wpAny_truthy_bool ⟨H5, I5, q5⟩
theorem line63 : (sizeLine : Nat) < 2 ^ 63 := by rw [sizeLine_eq]; decide
theorem vals1 {x : V} {us : List Value} (r : Vals [x] us) : ∃ u, us = [u] ∧ RelV x u := by
  cases r with
  | cons r1 r2 => cases r2; exact ⟨_, rfl, r1⟩
theorem vals2 {x y : V} {us : List Value} (r : Vals [x, y] us) : ∃ u w', us = [u, w'] ∧ RelV x u ∧ RelV y w' := by
  cases r with
  | cons r1 r2 =>
    cases r2 with
    | cons r3 r4 => cases r4; exact ⟨_, _, rfl, r1, r3⟩
theorem call_abs : CallR X (.builtin "abs") (fun xs H Q => ∃ i, xs = [.int i] ∧ Q (.int (if i < 0 then -i else i)) H) := by
  intro pins s σ H xs us Q I r h
  obtain ⟨i, rfl, q⟩ := h
  obtain ⟨u, rfl, t, rfl⟩ := vals1 r
  exact call_abs_int fun u tk => ⟨.int (if i < 0 then -i else i), H, I.tok _, ⟨_, rfl⟩, q⟩
theorem call_min2 (hc : X.calm = true) : CallR X (.builtin "min") (fun xs H Q => ∃ i j, xs = [.int i, .int j] ∧ Q (.int (if j < i then j else i)) H) := by
  intro pins s σ H xs us Q I r h
  obtain ⟨i, j, rfl, q⟩ := h
  obtain ⟨u, w', rfl, ⟨t, rfl⟩, ⟨t', rfl⟩⟩ := vals2 r
  refine min_two_ints (I.ok.hd hc) fun h' tk k => ⟨_, H, I.kept k, ?_, q⟩
  by_cases hj : j < i
  · rw [if_pos hj, if_pos hj]; exact ⟨_, rfl⟩
  · rw [if_neg hj, if_neg hj]; exact ⟨_, rfl⟩
theorem call_int1 : CallR X (.type "int") (fun xs H Q => (∃ i, xs = [.int i] ∧ Q (.int i) H) ∨ ∃ k, xs = [.bl k] ∧ Q (.int (if k then 1 else 0)) H) := by
  intro pins s σ H xs us Q I r h
  rcases h with ⟨i, rfl, q⟩ | ⟨k, rfl, q⟩
  · obtain ⟨u, rfl, t, rfl⟩ := vals1 r
    exact call_int_int ⟨.int i, H, I, ⟨_, rfl⟩, q⟩
  · obtain ⟨u, rfl, r1⟩ := vals1 r
    cases r1
    exact call_int_bool ⟨.int (if k then 1 else 0), H, I.tok _, ⟨_, rfl⟩, q⟩
theorem call_ord : CallR X (.builtin "ord") (fun xs H Q => ∃ x, xs = [.str x] ∧ x.length = 1 ∧ Q (.int (x.cps.getD 0 0 : Nat)) H) := by
  intro pins s σ H xs us Q I r h
  obtain ⟨x, rfl, hz, q⟩ := h
  obtain ⟨u, rfl, t, rfl⟩ := vals1 r
  exact ord_of_one hz ⟨.int _, H, I.tok _, ⟨_, rfl⟩, q⟩
end
end L2
namespace L2
open PySem PySem.Spec PyProof.Rows
structure ObjM (h : Heap) (x dx C : Addr) (mA : Str → Option Value) : Prop where
  obj : h.get? x = some (PySem.W.instObj C dx)
  ns : h.Ns1 dx mA
  ne : dx ≠ x
theorem lookIn_ns {h : Heap} {dx : Addr} {mA : Str → Option Value} (n : h.Ns1 dx mA) : ∃ od, h.get? dx = some od ∧ ∀ name, PySem.W.lookIn name od = some (mA name) := by
  obtain ⟨o, es, ep, ho, hd, hk, _, hm⟩ := n
  refine ⟨o, ho, fun name => ?_⟩
  have e := hm name
  unfold nsFind findBy at e
  rw [← Array.find?_toList] at e
  unfold PySem.W.lookIn
  rw [hd]
  dsimp only
  split
  · rename_i y q
    rw [q] at e
    exact congrArg some e
  · rename_i q
    rw [q] at e
    have a : es.toList.any (·.refKey) = false := by
      rw [List.any_eq_false]
      intro y hy
      obtain ⟨z, t, hkey⟩ := hk y (Array.mem_toList_iff.mp hy)
      simp [DictEntry.refKey, hkey]
    have a' : ¬ es.toList.any (·.refKey) = true := by rw [a]; exact Bool.false_ne_true
    rw [if_neg a']
    exact congrArg some e
theorem ObjM.look {h : Heap} {x dx C : Addr} {mA : Str → Option Value} (I : ObjM h x dx C mA) : ∃ od, PySem.W.InstAt h x (PySem.W.instObj C dx) C (some od) ∧ ∀ name, PySem.W.lookIn name od = some (mA name) :=
  let ⟨od, ho, hl⟩ := lookIn_ns I.ns
  ⟨od, ⟨I.obj, rfl, rfl, ho⟩, hl⟩
section
variable {prog : Program} {w : World} {A : Around} {E : Value → Shared → Prop} {s : Shared} {K : PySem.W.Frag} {x dx C f : Addr} {mA : Str → Option Value} {name : Str} {v : Value}
theorem get_map {expr : Bool} {Q : Value → Shared → Prop} (X : K.In s.heap) (I : ObjM s.heap x dx C mA) (hg : PySem.W.plainGet K C name = true) (hh : PySem.W.hasDictIn K C = true)
    (ha : PySem.W.findIn K (.ref C) name = some none) (hv : mA name = some v) (hv' : PySem.W.handedIn v = true) (h : Q v { s with toks := s.toks + 1 }) :
    wpAny (model prog w) A (getAttr (.ref x) name expr) Q E s := by
  obtain ⟨od, J, hl⟩ := I.look
  exact PySem.W.get_value X J (PySem.W.plainGet_of hg).1 (PySem.W.findObj_own hh ha rfl (by rw [hl, hv])) hv' h
theorem get_meth {pl : Sem Bool} {Q : Value × List Value → Shared → Prop} (X : K.In s.heap) (I : ObjM s.heap x dx C mA) (hg : PySem.W.plainGet K C name = true)
    (hf : PySem.W.findIn K (.ref C) name = some (some (.ref f))) (ht : PySem.W.isFn K (.ref f) = true) (hv : mA name = none) (h : Q (.ref f, [.ref x]) s) :
    wpAny (model prog w) A (getMethod (.ref x) name pl) Q E s := by
  obtain ⟨od, J, hl⟩ := I.look
  exact PySem.W.method_fn X J (PySem.W.plainGet_of hg).1 (PySem.W.plainGet_of hg).2 hf (beq_iff_eq.mp ht) (by show (PySem.W.lookIn name od).map (·.isSome) = some false; rw [hl, hv]; rfl) h
theorem set_map {ns : List Str} {Q : Unit → Shared → Prop} (X : K.In s.heap) (I : ObjM s.heap x dx C mA)
    (hs : PySem.W.findIn K (.ref C) "__setattr__" = some (some (.builtin "object.__setattr__"))) (hp : PySem.W.plainOver K C = true) (ht : PySem.W.takerIn K C name = some none) (hh : PySem.W.hasDictIn K C = true)
    (hw : PySem.Within mA ns) (hsz : ns.length ≤ sizeLine)
    (h : ∀ h', ObjM h' x dx C (fun y => if y = name then some v else mA y) → Heap.SameBut dx s.heap h' → Q () { s with heap := h', toks := s.toks + 2 }) :
    wpAny (model prog w) A (setAttr (.ref x) name v) Q E s := by
  obtain ⟨od, J, hl⟩ := I.look
  refine PySem.W.set_plain X J hs (PySem.W.osa_open (s := { s with toks := s.toks + 1 }) (r := none) X J hp ht fun b => ?_)
  obtain ⟨cd, hc, hd'⟩ := PySem.W.any_some hh
  have hx : s.heap.get? x = some ⟨.ref C, some dx, .plain, #[]⟩ := I.obj
  refine wpAny_bind (wpAny_pure (wpAny_bind (wpAny_bind (wpAny_loadPart hx (wpAny_bind (PySem.W.Looks.here (s := { s with toks := s.toks + 1 }) (PySem.W.looks_clsIn X hc) ?_))))))
  rw [hd']
  refine wpAny_pure (a := some dx) (wpAny_bind (wpAny_pure (wpAny_bind ?_)))
  refine wpAny_nsSet1 (s := { s with toks := s.toks + 1 }) I.ns fun h' hn2 hs2 => ?_
  obtain ⟨oD, esD, epD, hoD, hdD, hcD⟩ := hn2.count (PySem.Within.cons name v hw)
  refine wpAny_bind (wpAny_lookBehind hoD (by rw [hdD]; exact pastItsLine_dict (Nat.le_trans hcD (by rw [List.length_cons]; omega))) ?_)
  exact wpAny_pure (h _ ⟨(hs2.2 _ (Ne.symm I.ne)).trans I.obj, hn2, I.ne⟩ hs2)
theorem make_map {R : Result → Shared → Prop} {vs : List Value} {kw : List (Str × Value)} (X : K.In s.heap) (hm : PySem.W.makesIn K C = true)
    (hi : PySem.W.findIn K (.ref C) "__init__" = some (some (.ref f))) (hf : PySem.W.typeIn K (.ref f) = some (.type "function"))
    (h : codeAny (model prog w) (A.under (.builtin "type.__call__" ⟨.ref C :: vs, kw⟩)) (.call (.ref f) ⟨.ref (s.heap.objs.size + 1) :: vs, kw⟩) (PySem.W.InitBack (s.heap.objs.size + 1) R)
      { s with heap := (s.heap.push PySem.W.emptyDict).push (PySem.W.instObj C s.heap.objs.size) }) :
    codeAny (model prog w) A (.call (.ref C) ⟨vs, kw⟩) R s := by
  obtain ⟨hh, g, d, t, os⟩ := s
  exact PySem.W.make_core (PySem.W.makes_of X hm) (PySem.W.looks_findIn X hi) (fun self => PySem.W.bind_fn X self hf) (.inl rfl) h
end
def putF (f : Str) (v : V) : List (Str × V) → List (Str × V)
  | [] => [(f, v)]
  | (g, x) :: r => if g = f then (g, v) :: r else (g, x) :: putF f v r
theorem lookup_putF (f g : Str) (v : V) : ∀ fs : List (Str × V), (putF f v fs).lookup g = if g = f then some v else fs.lookup g
  | [] => by
    show List.lookup g [(f, v)] = _
    by_cases h : g = f
    · have hb : (g == f) = true := beq_iff_eq.mpr h
      simp only [List.lookup, hb, if_pos h]
    · have hb : (g == f) = false := beq_eq_false_iff_ne.mpr h
      simp only [List.lookup, hb, if_neg h]
  | (k, x) :: r => by
    have ih := lookup_putF f g v r
    rw [show putF f v ((k, x) :: r) = (if k = f then (k, v) :: r else (k, x) :: putF f v r) from rfl]
    by_cases hk : k = f
    · rw [if_pos hk]
      by_cases h : g = k
      · have hb : (g == k) = true := beq_iff_eq.mpr h
        simp only [List.lookup, hb, if_pos (h.trans hk)]
      · have hb : (g == k) = false := beq_eq_false_iff_ne.mpr h
        simp only [List.lookup, hb, if_neg (fun e : g = f => h (e.trans hk.symm))]
    · rw [if_neg hk]
      by_cases h : g = k
      · have hb : (g == k) = true := beq_iff_eq.mpr h
        simp only [List.lookup, hb, if_neg (fun e : g = f => hk (h.symm.trans e))]
      · have hb : (g == k) = false := beq_eq_false_iff_ne.mpr h
        simp only [List.lookup, hb]
        exact ih
theorem keys_putF (f : Str) (v : V) : ∀ fs : List (Str × V), f ∈ (putF f v fs).map (·.1) ∧ ∀ g, g ∈ fs.map (·.1) → g ∈ (putF f v fs).map (·.1)
  | [] => ⟨by simp [putF], fun g h => by simp at h⟩
  | (k, x) :: r => by
    obtain ⟨i1, i2⟩ := keys_putF f v r
    rw [show putF f v ((k, x) :: r) = (if k = f then (k, v) :: r else (k, x) :: putF f v r) from rfl]
    by_cases hk : k = f
    · rw [if_pos hk]
      subst hk
      exact ⟨by simp, fun g h => by simpa using h⟩
    · rw [if_neg hk]
      refine ⟨?_, fun g h => ?_⟩
      · rw [List.map_cons]
        exact List.mem_cons_of_mem _ i1
      · rw [List.map_cons] at h ⊢
        rcases List.mem_cons.mp h with e | e
        · exact List.mem_cons.mpr (.inl e)
        · exact List.mem_cons_of_mem _ (i2 g e)
theorem length_putF (f : Str) (v : V) : ∀ fs : List (Str × V), (putF f v fs).length ≤ fs.length + 1
  | [] => by simp [putF]
  | (k, x) :: r => by
    have ih := length_putF f v r
    rw [show putF f v ((k, x) :: r) = (if k = f then (k, v) :: r else (k, x) :: putF f v r) from rfl]
    by_cases hk : k = f
    · rw [if_pos hk, List.length_cons, List.length_cons]; omega
    · rw [if_neg hk, List.length_cons, List.length_cons]; omega
theorem RelO.some_of {v : V} {o : Option Value} (r : RelO (some v) o) : ∃ u, o = some u ∧ RelV v u := by
  cases o with
  | none => exact (show False from r).elim
  | some u => exact ⟨u, rfl, r⟩
theorem RelO.none_of {o : Option Value} (r : RelO none o) : o = none := by
  cases o with
  | none => rfl
  | some u => exact (show False from r).elim
theorem handed_of {v : V} {u : Value} (r : RelV v u) : PySem.W.handedIn u = true := by
  cases v with
  | non => cases (show u = Value.none from r); rfl
  | bl b => cases (show u = Value.bool b from r); rfl
  | int i => obtain ⟨t, e⟩ := (show ∃ t, u = Value.int i t from r); cases e; rfl
  | str x => obtain ⟨t, e⟩ := (show ∃ t, u = Value.str x t from r); cases e; rfl
  | byt b => obtain ⟨t, e⟩ := (show ∃ t, u = Value.bytes b t from r); cases e; rfl
  | flt b => obtain ⟨t, e⟩ := (show ∃ t, u = Value.float b t from r); cases e; rfl
  | ref a => cases (show u = Value.ref a from r); rfl
  | ty n => cases (show u = Value.type n from r); rfl
section
variable {P : Program} {w : World} {H H' : Hp} {h h' : Heap} {a C dx : Addr} {fs fs' : List (Str × V)}
theorem ins_get (hok : HOk P w H h) (e : H a = some (.ins C dx fs)) : ∃ mA, ObjM h a dx C mA ∧ (∀ f, RelO (fs.lookup f) (mA f)) ∧ PySem.Within mA (fs.map (·.1)) ∧ fs.length ≤ 1000 ∧ H dx = some (.own a) := by
  obtain ⟨d, z, ne, ob, mA, n, r, q⟩ := (show ObjOk P w H h a (.ins C dx fs) from hok a _ e)
  exact ⟨mA, ⟨ob, n, ne⟩, r, q, z, d⟩
end
structure Cls (K : PySem.W.Frag) (C : Addr) : Prop where
  pg : PySem.W.plainGet K C Str.empty = true
  hd : PySem.W.hasDictIn K C = true
  po : PySem.W.plainOver K C = true
  sa : PySem.W.findIn K (.ref C) "__setattr__" = some (some (.builtin "object.__setattr__"))
theorem Cls.get {K : PySem.W.Frag} {C : Addr} (c : Cls K C) (f : Str) : PySem.W.plainGet K C f = true := c.pg
def NoAttr (K : PySem.W.Frag) (C : Addr) (f : Str) : Prop := PySem.W.findIn K (.ref C) f = some none
theorem NoAttr.taker {K : PySem.W.Frag} {C : Addr} {f : Str} (n : NoAttr K C f) : PySem.W.takerIn K C f = some none := by
  unfold PySem.W.takerIn
  rw [show PySem.W.findIn K (.ref C) f = some none from n]
  rfl
structure Meth (K : PySem.W.Frag) (C : Addr) (m : Str) (f : Addr) : Prop where
  at_ : PySem.W.findIn K (.ref C) m = some (some (.ref f))
  fn : PySem.W.isFn K (.ref f) = true
  kp : PySem.W.keepIn K (.ref f) = true
section
variable {X : Cx} {pins : List (Addr × Obj)} {σ : St} {H : Hp} {s : Shared} {a C dx : Addr} {fs : List (Str × V)} {f : Str} {v : V} {A : Around} {E : Value → Shared → Prop}
theorem getattr_ok {b : Bool} {Q : Value → Shared → Prop} (I : Inv X pins σ H s) (e : H a = some (.ins C dx fs)) (c : Cls X.K C) (n : NoAttr X.K C f) (l : fs.lookup f = some v)
    (h : ∀ u s', Inv X pins σ H s' → RelV v u → Q u s') : wpAny (model X.prog X.w) A (getAttr (.ref a) f b) Q E s := by
  obtain ⟨mA, O, r, _, _, _⟩ := ins_get I.hok e
  obtain ⟨u, hu, ru⟩ := RelO.some_of (v := v) (o := mA f) (by rw [← l]; exact r f)
  exact get_map I.kIn O (c.get f) c.hd n hu (handed_of ru) (h u _ (I.tok _) ru)
theorem getmeth_ok {m : Str} {g : Addr} {pl : Sem Bool} {Q : Value × List Value → Shared → Prop} (I : Inv X pins σ H s) (e : H a = some (.ins C dx fs)) (c : Cls X.K C) (k : Meth X.K C m g) (l : fs.lookup m = none)
    (h : Q (.ref g, [.ref a]) s) : wpAny (model X.prog X.w) A (getMethod (.ref a) m pl) Q E s := by
  obtain ⟨mA, O, r, _, _, _⟩ := ins_get I.hok e
  have hn : mA m = none := RelO.none_of (by rw [← l]; exact r m)
  exact get_meth I.kIn O (c.get m) k.at_ k.fn hn h
theorem setattr_ok {y : V} {u : Value} {Q : Unit → Shared → Prop} (I : Inv X pins σ H s) (e : H a = some (.ins C dx fs)) (c : Cls X.K C) (n : NoAttr X.K C f) (hl : fs.length < 1000) (ry : RelV y u)
    (h : ∀ s', Inv X pins σ (upd H a (.ins C dx (putF f y fs))) s' → Q () s') : wpAny (model X.prog X.w) A (setAttr (.ref a) f u) Q E s := by
  obtain ⟨mA, O, r, wi, _, ho⟩ := ins_get I.hok e
  have hz : (fs.map (·.1)).length ≤ sizeLine := by rw [List.length_map, sizeLine_eq]; omega
  refine set_map I.kIn O c.sa c.po n.taker c.hd wi hz fun h' O' sb => h _ ?_
  have hd : ∃ o, h'.get? dx = some o := let ⟨o, _, _, e', _⟩ := O'.ns; ⟨o, e'⟩
  refine I.write (x := a) (e := dx) (by rw [e]; exact True.intro) (.inr ho) (fun b q hb z => (sb.2 b hb).trans z) hd ?_
  refine ⟨by rw [upd_ne O.ne]; exact ho, ?_, O.ne, O'.obj, _, O'.ns, fun g => ?_, fun g hg => ?_⟩
  · have := length_putF f y fs; omega
  · show RelO ((putF f y fs).lookup g) (if g = f then some u else mA g)
    rw [lookup_putF]
    by_cases q : g = f
    · rw [if_pos q, if_pos q]; exact ry
    · rw [if_neg q, if_neg q]; exact r g
  · by_cases q : g = f
    · rw [q]; exact (keys_putF f y fs).1
    · refine (keys_putF f y fs).2 g (wi g fun z => hg ?_)
      show (if g = f then some u else mA g) = none
      rw [if_neg q]; exact z
theorem Inv.made (I : Inv X pins σ H s) : Inv X pins σ (upd (upd H s.heap.objs.size (.own (s.heap.objs.size + 1))) (s.heap.objs.size + 1) (.ins C s.heap.objs.size []))
    { s with heap := (s.heap.push PySem.W.emptyDict).push (PySem.W.instObj C s.heap.objs.size) } := by
  have e1 : (s.heap.push PySem.W.emptyDict).get? s.heap.objs.size = some PySem.W.emptyDict := Heap.get?_push_size s.heap rfl
  have e2 : ((s.heap.push PySem.W.emptyDict).push (PySem.W.instObj C s.heap.objs.size)).get? (s.heap.objs.size + 1) = some (PySem.W.instObj C s.heap.objs.size) := by
    have := Heap.get?_push_size (s.heap.push PySem.W.emptyDict) (o := PySem.W.instObj C s.heap.objs.size) rfl
    rwa [Heap.size_push] at this
  have e3 : (s.heap.push PySem.W.emptyDict).Ns s.heap.objs.size (fun _ => none) := ⟨PySem.W.emptyDict, #[], _, e1, rfl, (fun e he => absurd he (by simp)), fun _ => rfl⟩
  have I1 := I.laid (a := s.heap.objs.size) (o := .own (s.heap.objs.size + 1)) (h' := s.heap.push PySem.W.emptyDict) (t' := s.toks) (fun b u q => Heap.get?_push_of_some _ q) (Nat.le_refl _) ⟨_, e1⟩
  refine I1.laid (a := s.heap.objs.size + 1) (o := .ins C s.heap.objs.size []) (t' := s.toks) (fun b u q => Heap.get?_push_of_some _ q) (Nat.le_of_eq (Heap.size_push _ _)) ?_
  have ne : s.heap.objs.size ≠ s.heap.objs.size + 1 := Nat.ne_of_lt (Nat.lt_succ_self _)
  refine ⟨by rw [upd_ne ne, upd_same], Nat.zero_le _, ne, e2, fun _ => none, (Heap.Ns1.of_empty e3).at fun o q => Heap.get?_push_of_some _ q, fun _ => True.intro, fun y hy => absurd rfl hy⟩
theorem attr_of {prog : Program} {w : World} {env : Env} {e : Expr} {f : Str} {pos : Pos} {s : Shared} {Q : Value → Shared → Prop} (hb : attributeBase e f env (eval e env) = eval e env)
    (h : wpAny (model prog w) A (eval e env) (fun o s₁ => wpAny (model prog w) A (getAttr o f true) Q E s₁) E s) : wpAny (model prog w) A (eval (.Attribute e f pos) env) Q E s :=
  Attribute_any_ h (by rw [arm_eval_Attribute, hb])
end
def InOp (X : Cx) (op : Operator) (rd : V → V → Hp → VK → Prop) : Prop :=
  ∀ (pins : List (Addr × Obj)) (s : Shared) (σ : St) (H : Hp) (x y : V) (u v : Value) (Q : VK), Inv X pins σ H s → RelV x u → RelV y v → rd x y H Q → wpAny (model X.prog X.w) X.A (inplaceOp op u v) (EP X pins σ Q) X.xe s
section
variable {X : Cx} {o e value : Expr} {f : Str} {pos pos' tpos : Pos} {ta tv : TE}
def rAdd : V → V → Hp → VK → Prop := fun x y H Q => ∃ i j, x = .int i ∧ y = .int j ∧ Q (.int (i + j)) H
theorem in_add : InOp X .Add rAdd := by
  rintro pins s σ H x y u v Q I rx ry ⟨i, j, rfl, rfl, q⟩
  obtain ⟨t, rfl⟩ := (show ∃ t, u = Value.int i t from rx)
  obtain ⟨t', rfl⟩ := (show ∃ t', v = Value.int j t' from ry)
  exact PyProof.Rows.iadd_int ⟨.int (i + j), H, I.tok _, ⟨_, rfl⟩, q⟩
end
section
variable {X : Cx} {pins : List (Addr × Obj)} {σ : St} {H : Hp} {s : Shared} {A : Around} {E : Value → Shared → Prop} {Q : Value → Shared → Prop} {c : Value} {b : Bool}
inductive TyOf (K : PySem.W.Frag) (H : Hp) : V → Value → Prop where
  | non : TyOf K H .non (.type "NoneType")
  | bl (x : Bool) : TyOf K H (.bl x) (.type "bool")
  | int (i : Int) : TyOf K H (.int i) (.type "int")
  | str (x : Str) : TyOf K H (.str x) (.type "str")
  | flt (x : UInt64) : TyOf K H (.flt x) (.type "float")
  | lst {a : Addr} {xs : List V} (e : H a = some (.lst xs)) : TyOf K H (.ref a) (.type "list")
  | frz {a : Addr} {o : Obj} {xs : List V} (e : H a = some (.frz o (.lst xs))) : TyOf K H (.ref a) (.type "list")
  | tup {a : Addr} {xs : List V} (e : H a = some (.tup xs)) : TyOf K H (.ref a) (.type "tuple")
  | dK {a : Addr} {kvs : List (Key × V)} (e : H a = some (.dK kvs)) : TyOf K H (.ref a) (.type "dict")
  | dT {a : Addr} {kvs : List (List Key × V)} (e : H a = some (.dT kvs)) : TyOf K H (.ref a) (.type "dict")
  | ins {a C dx : Addr} {fs : List (Str × V)} (e : H a = some (.ins C dx fs)) (cl : Cls K C) (ha : PySem.W.findIn K (.ref C) "__class__" = some (some (.builtin "object.__class__")))
      (hn : PySem.W.specialIn K (.builtin "object.__class__") "__get__" = some (some (.builtin "getset_descriptor.__get__"))) (htk : PySem.W.takesIn K (.builtin "object.__class__") = some true)
      (hm : PySem.W.mroIn K C (.type "object") = some true) : TyOf K H (.ref a) (.ref C)
theorem isinst_ok {x : V} {u t : Value} (I : Inv X pins σ H s) (rx : RelV x u) (ty : TyOf X.K H x t) (e : PySem.W.kitOne X.K t c = some b) (h : ∀ tk, Q (.bool b) { s with toks := tk }) :
    wpAny (model X.prog X.w) A (call (.builtin "isinstance") [u, c]) Q E s := by
  cases ty with
  | non => cases (show u = Value.none from rx); exact PySem.W.kia_one PySem.W.kitx_none I.kIn True.intro e (fun z => nomatch z) h
  | bl y => cases (show u = Value.bool y from rx); exact PySem.W.kia_one PySem.W.kitx_bool I.kIn True.intro e (fun z => nomatch z) h
  | int i => obtain ⟨t, q⟩ := (show ∃ t, u = Value.int i t from rx); cases q; exact PySem.W.kia_one PySem.W.kitx_int I.kIn True.intro e (fun z => nomatch z) h
  | str y => obtain ⟨t, q⟩ := (show ∃ t, u = Value.str y t from rx); cases q; exact PySem.W.kia_one PySem.W.kitx_str I.kIn True.intro e (fun z => nomatch z) h
  | flt y => obtain ⟨t, q⟩ := (show ∃ t, u = Value.float y t from rx); cases q; exact PySem.W.kia_one PySem.W.kitx_float I.kIn True.intro e (fun z => nomatch z) h
  | @lst a xs ea =>
    cases (show u = Value.ref a from rx)
    obtain ⟨_, _, n, _, h1⟩ := (show ObjOk X.prog X.w H s.heap a (.lst xs) from I.hok a _ ea)
    exact PySem.W.kia_one PySem.W.kitx_list I.kIn ⟨_, h1, rfl⟩ e (fun z => nomatch z) h
  | @frz a ob xs ea =>
    cases (show u = Value.ref a from rx)
    obtain ⟨_, _, _, n, _, h1⟩ := (show ObjOk X.prog X.w H s.heap a (.frz ob (.lst xs)) from I.hok a _ ea)
    exact PySem.W.kia_one PySem.W.kitx_list I.kIn ⟨_, h1, rfl⟩ e (fun z => nomatch z) h
  | @tup a xs ea =>
    cases (show u = Value.ref a from rx)
    obtain ⟨_, _, _, p⟩ := (show ObjOk X.prog X.w H s.heap a (.tup xs) from I.hok a _ ea)
    obtain ⟨o, h1, h2, _⟩ := p
    exact PySem.W.kia_one PySem.W.kitx_tuple I.kIn ⟨o, h1, h2⟩ e (fun z => nomatch z) h
  | @dK a kvs ea =>
    cases (show u = Value.ref a from rx)
    obtain ⟨_, _, vs, _, p⟩ := (show ObjOk X.prog X.w H s.heap a (.dK kvs) from I.hok a _ ea)
    obtain ⟨o, es, ep, h1, h2, _⟩ := p
    exact PySem.W.kia_one PySem.W.kitx_dict I.kIn ⟨o, h1, h2.1⟩ e (fun z => nomatch z) h
  | @dT a kvs ea =>
    cases (show u = Value.ref a from rx)
    obtain ⟨_, _, xs, _, o, es, ep, h1, h2, _⟩ := (show ObjOk X.prog X.w H s.heap a (.dT kvs) from I.hok a _ ea)
    exact PySem.W.kia_one PySem.W.kitx_dict I.kIn ⟨o, h1, h2.1⟩ e (fun z => nomatch z) h
  | @ins a C dx fs ea cl ha hn htk hm =>
    cases (show u = Value.ref a from rx)
    obtain ⟨mA, O, _⟩ := ins_get I.hok ea
    obtain ⟨od, J, _⟩ := O.look
    exact PySem.W.kia_one (PySem.W.kitx_own (cl.get _) cl.hd ha hn htk hm) I.kIn J e (fun z => nomatch z) h
end
end L2
namespace L2
open PySem PySem.Spec PyProof.Rows
structure Room (k : Nat) (A : Around) : Prop where
  hd : A.handled = none
  dp : A.depth + 3 * k + 5 < recursionLimit
  un : A.units + 16 * k + 200 < cLine
theorem Room.mono {j k : Nat} {A : Around} (r : Room k A) (h : j ≤ k) : Room j A := ⟨r.hd, by have := r.dp; omega, by have := r.un; omega⟩
theorem Room.deeper {k : Nat} {A : Around} (r : Room (k + 1) A) (env : Env) : Room k (A.deeper env) :=
  ⟨r.hd, by have := r.dp; show A.depth + 1 + 3 * k + 5 < _; omega, by have := r.un; show A.units + 3 + 16 * k + 200 < _; omega⟩
theorem make_depth {A : Around} {C : Addr} {us : List Value} {kw : List (Str × Value)} : (A.under (.builtin "type.__call__" ⟨.ref C :: us, kw⟩)).depth = A.depth + 1 := by
  first | rfl | simp [Around.under, Code.weight, Code.isCreation, Code.isGuard, Code.isCaller, Code.frames, Code.isFrame, guardIds]
theorem make_units {A : Around} {C : Addr} {us : List Value} {kw : List (Str × Value)} : (A.under (.builtin "type.__call__" ⟨.ref C :: us, kw⟩)).units = A.units + 1 := by
  first | rfl | simp [Around.under, Code.cUnits, Code.frames, Code.isFrame]
theorem Room.make {k : Nat} {A : Around} (r : Room (k + 1) A) (C : Addr) (us : List Value) (kw : List (Str × Value)) : Room k (A.under (.builtin "type.__call__" ⟨.ref C :: us, kw⟩)) :=
  ⟨r.hd, by have := r.dp; rw [make_depth]; omega, by have := r.un; rw [make_units]; omega⟩
theorem Room.depth {k : Nat} {A : Around} (r : Room k A) : A.depth < recursionLimit := by have := r.dp; omega
def tNil : TA := fun _ H Q => Q [] H
def tCons (ta : TE) (tr : TA) : TA := fun σ H Q => ta σ H fun x H1 => tr σ H1 fun xs H2 => Q (x :: xs) H2
section
variable {X : Cx} {e : Expr} {es : List Expr} {te : TE} {t : TA} {pos : Pos}
theorem pa_nil : PA X [] tNil := fun _ _ _ _ H Q I h => Calls.spliced_nil ⟨[], H, I, .nil, h⟩
theorem pa_cons (ha : PE X e te) (hr : PA X es t) (hs : starEach (e :: es) X.env = (false, eval e X.env) :: starEach es X.env := by rfl) : PA X (e :: es) (tCons te t) := by
  intro pos pins s σ H Q I h
  rw [hs]
  show wpAny _ _ (spliced ((false, eval e X.env) :: backTo pos (starEach es X.env))) _ _ s
  refine Calls.spliced_cons (thn (ha pins s σ H _ I h) fun u s1 ⟨x, H1, I1, r1, q1⟩ => ?_)
  exact thn (hr pos pins s1 σ H1 _ I1 q1) fun us s2 ⟨xs, H2, I2, r2, q2⟩ => ⟨x :: xs, H2, I2, .cons r1 r2, q2⟩
def tTup (t : TA) : TE := fun σ H Q => t σ H fun xs H1 => xs.length ≤ sizeLine ∧ ∀ p, H1 p = none → Q (.ref p) (upd H1 p (.tup xs))
def tLst (t : TA) : TE := fun σ H Q => t σ H fun xs H1 => xs.length ≤ sizeLine ∧ ∀ p, H1 p = none → Q (.ref p) (upd H1 p (.lst xs))
theorem pe_tup {x1} (h : PA X es t) : PE X (.Tuple es x1 pos) (tTup t) := by
  intro pins s σ H Q I hq
  refine wpAny_Tuple_spliced (thn (h pos pins s σ H _ I hq) fun us s1 ⟨xs, H1, I1, r, z, q⟩ => ⟨by rw [← r.length]; exact z, ?_⟩)
  have hf : H1 s1.heap.objs.size = none := I1.hok.fresh (Nat.le_refl _)
  refine ⟨.ref s1.heap.objs.size, upd H1 s1.heap.objs.size (.tup xs), I1.laid (t' := s1.toks) (fun b u e => Heap.get?_push_of_some _ e) (Nat.le_refl _) ?_, rfl, q _ hf⟩
  exact ⟨z, us, r, ⟨_, Heap.get?_push_size _ rfl, rfl, _, rfl⟩⟩
theorem pe_lst (h : PA X es t) : PE X (.List es pos) (tLst t) := by
  intro pins s σ H Q I hq
  refine wpAny_List_spliced (thn (h pos pins s σ H _ I hq) fun us s1 ⟨xs, H1, I1, r, z, q⟩ => ⟨by rw [← r.length]; exact z, ?_⟩)
  have hf : H1 s1.heap.objs.size = none := I1.hok.fresh (Nat.le_refl _)
  refine ⟨.ref s1.heap.objs.size, upd H1 s1.heap.objs.size (.lst xs), I1.laid (t' := s1.toks) (fun b u e => Heap.get?_push_of_some _ e) (Nat.le_refl _) ?_, rfl, q _ hf⟩
  exact ⟨z, us, 0, r, Heap.get?_push_size _ rfl⟩
end
abbrev Sp := List V → Hp → VK → XK → Prop
abbrev CXT := List Env → Hp → Shared → XK → Value → Shared → Prop
structure Env0 (P : Program) (w : World) (K : PySem.W.Frag) (mg : Str → Option Value) (base : Heap) (A : Around) (outer : List Env) (s : Shared) (H : Hp) : Prop where
  frames : A.frames = some outer
  mod : Mod K mg base
  bs : ∀ b o, base.get? b = some o → s.heap.get? b = some o ∧ H b = none
  bsz : base.objs.size ≤ s.heap.objs.size
  funs : s.heap.FunFrames base outer
  frf : ∀ b ∈ frs outer, H b = none
  hok : HOk P w H s.heap
  bare : AllBare s.gens
def CE (outer : List Env) (P : Program) (w : World) (H : Hp) (s : Shared) (Q : VK) (u : Value) (s' : Shared) : Prop :=
  ∃ v H', s'.os = s.os ∧ AllBare s'.gens ∧ Un (frs outer) [] H H' s.heap s'.heap ∧ HOk P w H' s'.heap ∧ RelV v u ∧ Q v H'
def CR (CX : CXT) (outer : List Env) (P : Program) (w : World) (H : Hp) (s : Shared) (Q : VK) (E : XK) (r : Result) (s' : Shared) : Prop :=
  match r with
  | .ok (.ret u) => CE outer P w H s Q u s'
  | .ok _ => False
  | .error e => CX outer H s E e s'
structure FnOk (P : Program) (w : World) (K : PySem.W.Frag) (mg : Str → Option Value) (base : Heap) (CX : CXT) (k : Nat) (f : Addr) (fd : FuncData) (ps : List Str) (sp : Sp) : Prop where
  len : ∀ vs H Q E, sp vs H Q E → vs.length = ps.length
  run : ∀ (A : Around) (outer : List Env) (s : Shared) (H : Hp) (args : Args) (us : List Value) (vs : List V) (Q : VK) (E : XK), Room k A → Env0 P w K mg base A outer s H → BindsTo s fd args (ps.zip us) → Vals vs us → sp vs H Q E →
    codeAny (model P w) A (.call (.ref f) args) (CR CX outer P w H s Q E) s
theorem Env0.make {P : Program} {w : World} {K : PySem.W.Frag} {mg : Str → Option Value} {base : Heap} {A : Around} {outer : List Env} {s : Shared} {H : Hp} (e : Env0 P w K mg base A outer s H) (C : Addr) (us : List Value) (kw : List (Str × Value)) :
    Env0 P w K mg base (A.under (.builtin "type.__call__" ⟨.ref C :: us, kw⟩)) outer s H := ⟨by first | exact e.frames | (simpa [Around.under, Code.envs, Code.isFrame, pushEnvs] using e.frames), e.mod, e.bs, e.bsz, e.funs, e.frf, e.hok, e.bare⟩
section
variable {X : Cx} {pins : List (Addr × Obj)} {σ : St} {H : Hp} {s s' : Shared}
theorem Inv.env0 (I : Inv X pins σ H s) : Env0 X.prog X.w X.K X.mg X.base X.A X.stack s H :=
  ⟨I.ok.frames, I.ok.mod, I.bs, Nat.le_trans I.ok.bsz I.sz, I.stack, I.stkFree, I.hok, I.bare⟩
theorem Inv.after {Q : VK} {u : Value} (I : Inv X pins σ H s) (h : CE X.stack X.prog X.w H s Q u s') : EP X pins σ Q u s' := by
  obtain ⟨v, H', os, bare, un, hok, r, q⟩ := h
  obtain ⟨hh, g, d, t, os'⟩ := s'
  obtain rfl : os' = s.os := os
  exact ⟨v, H', I.call (h' := hh) (g' := g) (d' := d) (t' := t) (ch := []) un hok bare (fun b z => absurd z (by simp)), r, q⟩
end
def tCall (sp : Sp) (dvs : List V) (E : XK) (t : TA) : TE := fun σ H Q => t σ H fun vs H1 => sp (vs ++ dvs) H1 Q E
def tMake (C : Addr) (sp : Sp) (dvs : List V) (E : XK) (t : TA) : TE := fun σ H Q => t σ H fun vs H1 => ∀ x dx, H1 x = none → H1 dx = none → dx ≠ x →
  sp (.ref x :: (vs ++ dvs)) (upd (upd H1 dx (.own x)) x (.ins C dx [])) (fun v H2 => v = .non ∧ Q (.ref x) H2) E
def Binds (K : PySem.W.Frag) (fd : FuncData) (ps : List Str) (ds : List Value) : Prop :=
  ∀ (s : Shared) (us : List Value), K.In s.heap → (us ++ ds).length = ps.length → BindsTo s fd ⟨us, []⟩ (ps.zip (us ++ ds))
theorem Binds.all {K : PySem.W.Frag} {fd : FuncData} {ps : List Str} (h : ∀ us : List Value, us.length = ps.length → bindArgs fd ⟨us, []⟩ = pure (ps.zip us)) : Binds K fd ps [] := fun s us _ hl => by
  rw [List.append_nil] at hl ⊢
  exact .of_eq (h us hl)
def Passes (CX : CXT) (X : Cx) (E : XK) : Prop := ∀ (pins : List (Addr × Obj)) (σ : St) (H : Hp) (s : Shared) (e : Value) (s' : Shared), Inv X pins σ H s → CX X.stack H s E e s' → X.xe e s'
section
variable {X : Cx} {CX : CXT} {k : Nat} {f C : Addr} {fd : FuncData} {ps : List Str} {sp : Sp} {dvs : List V} {ds : List Value} {E : XK} {x m : Str} {p pos apos : Pos} {e o : Expr} {es : List Expr} {ta : TE} {t : TA}
theorem run_fn {pins : List (Addr × Obj)} {σ : St} {H : Hp} {s : Shared} {Q : VK} {us : List Value} {vs : List V} (F : FnOk X.prog X.w X.K X.mg X.base CX k f fd ps sp) (hr : Room k X.A) (hb : Binds X.K fd ps ds) (hd : Vals dvs ds) (hx : Passes CX X E)
    (I : Inv X pins σ H s) (r : Vals vs us) (h : sp (vs ++ dvs) H Q E) : wpAny (model X.prog X.w) X.A (call (.ref f) us) (EP X pins σ Q) X.xe s := by
  have r2 : Vals (vs ++ dvs) (us ++ ds) := r.append hd
  have hl : (us ++ ds).length = ps.length := by rw [← r2.length]; exact F.len _ _ _ _ h
  refine wpAny_call (codeAny_mono (F.run X.A X.stack s H ⟨us, []⟩ (us ++ ds) (vs ++ dvs) Q E hr I.env0 (hb s us I.kIn hl) r2 h) fun r s' hq => ?_)
  cases r with
  | error e => exact hx pins σ H s e s' I hq
  | ok fl =>
    cases fl with
    | ret u => exact I.after hq
    | next => exact False.elim hq
    | brk => exact False.elim hq
    | cont => exact False.elim hq
theorem pe_call (F : FnOk X.prog X.w X.K X.mg X.base CX k f fd ps sp) (hr : Room k X.A) (hg : Gl X x) (hm : X.mg x = some (.ref f)) (hk : PySem.W.keepIn X.K (.ref f) = true) (hb : Binds X.K fd ps ds) (hd : Vals dvs ds) (hx : Passes CX X E)
    (ha : PA X (e :: es) t) (hdb : (x == ("__debug__" : Str)) = false := by decide) (he : starEach (e :: es) X.env = (false, eval e X.env) :: starEach es X.env := by rfl) (hpl : (backTo pos (starEach es X.env)).any (·.1) = false := by rfl) :
    PE X (.Call (.Name x p) (e :: es) [] pos) (tCall sp dvs E t) := by
  intro pins s σ H Q I h
  refine wpAny_Call_Name_kw (ld_glob I hg hm ?_ hdb)
  refine PySem.W.callWith_K (h₀ := X.base) I.ok.mod.kin hk (thn (ha pos pins s σ H _ I h) fun us s1 ⟨vs, H1, I1, r, q⟩ => ⟨I1.kIn, ?_⟩) he hpl
  exact run_fn F hr hb hd hx I1 r q
structure Mk (K : PySem.W.Frag) (C f : Addr) : Prop where
  makes : PySem.W.makesIn K C = true
  init : PySem.W.findIn K (.ref C) "__init__" = some (some (.ref f))
  fn : PySem.W.isFn K (.ref f) = true
  kp : PySem.W.keepIn K (.ref C) = true
theorem run_make {pins : List (Addr × Obj)} {σ : St} {H : Hp} {s : Shared} {Q : VK} {us : List Value} {vs : List V} (M : Mk X.K C f) (F : FnOk X.prog X.w X.K X.mg X.base CX k f fd ps sp) (hr : Room (k + 1) X.A) (hb : Binds X.K fd ps ds) (hd : Vals dvs ds)
    (hx : Passes CX X E) (I : Inv X pins σ H s) (r : Vals vs us)
    (h : ∀ x dx, H x = none → H dx = none → dx ≠ x → sp (.ref x :: (vs ++ dvs)) (upd (upd H dx (.own x)) x (.ins C dx [])) (fun v H2 => v = .non ∧ Q (.ref x) H2) E) :
    wpAny (model X.prog X.w) X.A (call (.ref C) us) (EP X pins σ Q) X.xe s := by
  have hq := h (s.heap.objs.size + 1) s.heap.objs.size (I.hok.fresh (Nat.le_succ _)) (I.hok.fresh (Nat.le_refl _)) (Nat.ne_of_lt (Nat.lt_succ_self _))
  have I2 := Inv.made (C := C) I
  have r2 : Vals (V.ref (s.heap.objs.size + 1) :: (vs ++ dvs)) (Value.ref (s.heap.objs.size + 1) :: (us ++ ds)) := .cons rfl (r.append hd)
  have hl : (Value.ref (s.heap.objs.size + 1) :: us ++ ds).length = ps.length := by
    have e := r2.length
    rw [F.len _ _ _ _ hq] at e
    exact e.symm
  refine wpAny_call (make_map (f := f) I.kIn M.makes M.init (beq_iff_eq.mp M.fn) (codeAny_mono (F.run _ X.stack _ _ ⟨Value.ref (s.heap.objs.size + 1) :: us, []⟩ (Value.ref (s.heap.objs.size + 1) :: (us ++ ds)) _ _ E (hr.make C us [])
    (I2.env0.make C us []) (hb _ (Value.ref (s.heap.objs.size + 1) :: us) I2.kIn hl) r2 hq) fun r s' hq' => ?_))
  cases r with
  | error e => exact hx pins σ _ _ e s' I2 hq'
  | ok fl =>
    cases fl with
    | ret u =>
      obtain ⟨v, H', I3, rv, ev, q3⟩ := I2.after hq'
      subst ev
      exact ⟨rv, ⟨V.ref (s.heap.objs.size + 1), H', I3, rfl, q3⟩⟩
    | next => exact False.elim hq'
    | brk => exact False.elim hq'
    | cont => exact False.elim hq'
theorem pe_make (M : Mk X.K C f) (F : FnOk X.prog X.w X.K X.mg X.base CX k f fd ps sp) (hr : Room (k + 1) X.A) (hg : Gl X x) (hm : X.mg x = some (.ref C)) (hb : Binds X.K fd ps ds) (hd : Vals dvs ds) (hx : Passes CX X E)
    (ha : PA X (e :: es) t) (hdb : (x == ("__debug__" : Str)) = false := by decide) (he : starEach (e :: es) X.env = (false, eval e X.env) :: starEach es X.env := by rfl) (hpl : (backTo pos (starEach es X.env)).any (·.1) = false := by rfl) :
    PE X (.Call (.Name x p) (e :: es) [] pos) (tMake C sp dvs E t) := by
  intro pins s σ H Q I h
  refine wpAny_Call_Name_kw (ld_glob I hg hm ?_ hdb)
  refine PySem.W.callWith_K (h₀ := X.base) I.ok.mod.kin M.kp (thn (ha pos pins s σ H _ I h) fun us s1 ⟨vs, H1, I1, r, q⟩ => ⟨I1.kIn, ?_⟩) he hpl
  exact run_make M F hr hb hd hx I1 r q
end
section
variable {X : Cx} {CX : CXT} {k : Nat} {f C : Addr} {fd : FuncData} {ps ks : List Str} {sp : Sp} {E : XK} {x m : Str} {p pos apos kpos : Pos} {e o : Expr} {es : List Expr} {kws : List Keyword} {te ta : TE} {t tk : TA} {nm : Option Str}
variable {g : List Value → List Value → List Value} {gV : List V → List V → List V}
end
structure FnScope (N P : List Str) (sc : Scope) : Prop where
  kind : sc.kind = .function
  co : sc.isCoroutine = false
  gen : sc.isGenerator = false
  nd : N.Nodup
  pre : N.take P.length = P
  par : ∀ x ∈ P, sc.names.lookup x = some .local ∨ sc.names.lookup x = some .cell
  nofree : ∀ y ∈ sc.names, y.2 ≠ .free
theorem bindL_out {kindOf : Str → Option NameKind} {x : Str} : ∀ {binds : List (Str × Value)} {m : Str → Option Value}, (∀ v, (x, v) ∉ binds) → bindL kindOf binds m x = m x
  | [], _, _ => rfl
  | (n, v) :: r, m, h => by
    unfold bindL
    rw [bindL_out fun w hw => h w (List.mem_cons_of_mem _ hw)]
    split
    · have : x ≠ n := by rintro rfl; exact h v List.mem_cons_self
      simp [this]
    · rfl
theorem bindC_out {kindOf : Str → Option NameKind} {x : Str} : ∀ {binds : List (Str × Value)} {m : Str → Option Value}, (∀ v, (x, v) ∉ binds) → bindC kindOf binds m x = m x
  | [], _, _ => rfl
  | (n, v) :: r, m, h => by
    unfold bindC
    rw [bindC_out fun w hw => h w (List.mem_cons_of_mem _ hw)]
    split
    · rfl
    · have : x ≠ n := by rintro rfl; exact h v List.mem_cons_self
      simp [this]
theorem bindL_get {kindOf : Str → Option NameKind} {x : Str} {v : Value} : ∀ {P : List Str} {vs : List Value} {i : Nat} {m : Str → Option Value}, P.Nodup → P[i]? = some x → vs[i]? = some v → kindOf x = some .local →
    bindL kindOf (P.zip vs) m x = some v
  | [], _, _, _, _, h, _, _ => by simp at h
  | _ :: _, [], _, _, _, _, h, _ => by simp at h
  | p :: P, w :: vs, 0, m, nd, h1, h2, hk => by
    simp at h1 h2; subst h1; subst h2
    show bindL kindOf ((p, w) :: P.zip vs) m p = _
    unfold bindL
    rw [bindL_out fun v hv => (List.nodup_cons.mp nd).1 (List.of_mem_zip hv).1, if_pos hk]
    simp
  | p :: P, w :: vs, i + 1, m, nd, h1, h2, hk => by
    show bindL kindOf ((p, w) :: P.zip vs) m x = _
    unfold bindL
    exact bindL_get (i := i) (List.nodup_cons.mp nd).2 (by simpa using h1) (by simpa using h2) hk
theorem bindC_get {kindOf : Str → Option NameKind} {x : Str} {v : Value} : ∀ {P : List Str} {vs : List Value} {i : Nat} {m : Str → Option Value}, P.Nodup → P[i]? = some x → vs[i]? = some v → kindOf x ≠ some .local →
    bindC kindOf (P.zip vs) m x = some v
  | [], _, _, _, _, h, _, _ => by simp at h
  | _ :: _, [], _, _, _, _, h, _ => by simp at h
  | p :: P, w :: vs, 0, m, nd, h1, h2, hk => by
    simp at h1 h2; subst h1; subst h2
    show bindC kindOf ((p, w) :: P.zip vs) m p = _
    unfold bindC
    rw [bindC_out fun v hv => (List.nodup_cons.mp nd).1 (List.of_mem_zip hv).1, if_neg hk]
    simp
  | p :: P, w :: vs, i + 1, m, nd, h1, h2, hk => by
    show bindC kindOf ((p, w) :: P.zip vs) m x = _
    unfold bindC
    exact bindC_get (i := i) (List.nodup_cons.mp nd).2 (by simpa using h1) (by simpa using h2) hk
def start (N : List Str) (vs : List V) : St := vs.map some ++ List.replicate (N.length - vs.length) none
def cxOf (CX : CXT) (P : Program) (w : World) (K : PySem.W.Frag) (mg : Str → Option Value) (base : Heap) (N : List Str) (qual : Str) (scope : Scope) (f : Addr) (cd : Value) (A : Around) (outer : List Env) (s : Shared) (H : Hp) (E : XK) : Cx where
  prog := P
  w := w
  K := K
  mg := mg
  base := base
  A := A.deeper (envOfC qual scope s.heap.objs.size f cd)
  N := N
  s₀ := s
  H₀ := H
  env := envOfC qual scope s.heap.objs.size f cd
  outer := outer
  stack := envOfC qual scope s.heap.objs.size f cd :: outer
  ex := []
  calm := true
  fn := fun _ => true
  pn := []
  xe := fun e s' => wpAny (model P w) (A.deeper (envOfC qual scope s.heap.objs.size f cd)) (leaving (envOfC qual scope s.heap.objs.size f cd) e) (fun _ s'' => CX outer H s E e s'') (fun e' s'' => CX outer H s E e' s'') s'
theorem cell_has {sc : Scope} {n : Nat} {x : Str} (h : sc.names.lookup x = some .cell) : ∃ c, (cellsFrom n sc.names []).lookup x = some c := by
  have q := PySem.W.cellsFrom_some sc.names n [] (.inl h)
  exact Option.isSome_iff_exists.mp q
theorem inv_start {CX : CXT} {P : Program} {w : World} {K : PySem.W.Frag} {mg : Str → Option Value} {base : Heap} {N ps : List Str} {qual : Str} {scope : Scope} {f : Addr} {cd : Value} {A : Around} {outer : List Env} {s s1 : Shared} {H : Hp} {E : XK} {us : List Value} {vs : List V}
    (S : FnScope N ps scope) (hd : A.handled = none) (e0 : Env0 P w K mg base A outer s H) (hl : vs.length = ps.length) (r : Vals vs us)
    (x : InCallC s s.heap.objs.size (bindL (envOfC qual scope s.heap.objs.size f cd).kindOf (ps.zip us) fun _ => none) (cellsFrom (s.heap.objs.size + 1) scope.names []) (bindC (envOfC qual scope s.heap.objs.size f cd).kindOf (ps.zip us) fun _ => none) s1) :
    Inv (cxOf CX P w K mg base N qual scope f cd A outer s H E) [] (start N vs) H s1 := by
  have hpl : ps.length ≤ N.length := by have := congrArg List.length S.pre; rw [List.length_take] at this; omega
  obtain ⟨h1, tk, rfl, hk⟩ := x.done
  have noA : ∀ b : Addr, b ∉ (cxOf CX P w K mg base N qual scope f cd A outer s H E).ex := fun b z => absurd (show b ∈ ([] : List Addr) from z) (by simp)
  refine ⟨⟨e0.mod, S.kind, rfl, rfl, Nat.le_refl _, fun y z c h1 h2 => ?_, fun y hy => ?_, fun y c _ h => ?_, fun _ => hd, Around.frames_deeper e0.frames, .inr ⟨rfl, rfl⟩, fun b z => absurd z (noA b), e0.bs, e0.bsz, fun b _ _ => noA b, fun b z => absurd z (noA b), e0.funs, e0.frf⟩,
    rfl, e0.bare, Un.kept hk, ⟨_, x.toInCall.ns, fun i y v h1 h2 h3 => ?_⟩, fun y c h => ⟨_, x.cell y c h⟩, e0.hok.fresh (Nat.le_refl _), fun y c h => ?_, fun p hp => absurd (show p ∈ ([] : List (Addr × Obj)) from hp) (by simp), e0.hok.kept hk, ?_⟩
  · exact name_of_addr x.apart (PySem.mem_of_lookup h1) (PySem.mem_of_lookup h2)
  · have hy : scope.names.lookup y = some .cell ∨ scope.names.lookup y = some .free := hy
    rcases hy with hy | hy
    · exact cell_has hy
    · exact absurd rfl (S.nofree _ (PySem.mem_of_lookup hy))
  · exact Nat.le_of_lt (x.above y c (PySem.mem_of_lookup h))
  · have hi : i < vs.length := by
      unfold start at h2
      by_cases hi : i < vs.length
      · exact hi
      · rw [List.getElem?_append_right (by simpa using hi)] at h2
        rw [List.getElem?_replicate] at h2
        split at h2 <;> cases h2
    have ha : vs[i]? = some v := by
      unfold start at h2
      rw [List.getElem?_append_left (by simpa using hi), List.getElem?_map] at h2
      cases e : vs[i]? with
      | none => rw [e] at h2; cases h2
      | some a => rw [e] at h2; cases h2; rfl
    obtain ⟨u, hu, rv⟩ := r.get ha
    have hp : ps[i]? = some y := by
      rw [← S.pre, List.getElem?_take_of_lt (by omega)]; exact h1
    have ndP : ps.Nodup := by rw [← S.pre]; exact S.nd.sublist (List.take_sublist _ _)
    refine ⟨u, rv, ?_⟩
    rcases S.par y (List.mem_of_getElem? hp) with k | k
    · exact .inl ⟨k, bindL_get ndP hp hu k⟩
    · obtain ⟨c, e⟩ := cell_has (n := s.heap.objs.size + 1) k
      refine .inr ⟨.inl k, c, e, ?_⟩
      have q := x.cell y c e
      rw [bindC_get ndP hp hu (by show scope.names.lookup y ≠ _; rw [k]; decide)] at q
      exact q
  · exact e0.hok.fresh (Nat.le_of_lt (x.above y c (PySem.mem_of_lookup h)))
  · unfold start
    show _ = N.length
    rw [List.length_append, List.length_map, List.length_replicate]
    omega
theorem fn_of {CX : CXT} {P : Program} {w : World} {K : PySem.W.Frag} {mg : Str → Option Value} {base : Heap} {k : Nat} {f : Addr} {name qual : Str} {params : Arguments} {body : List Stmt} {scope : Scope} {dV kV doc pm cdv ct oc : Value} {an od : Option Addr}
    {osl : Array (Option Value)} {N ps : List Str} {sp : Sp} (lk : K.lookup f = some ⟨oc, od, .func (PySem.W.fnOf name qual params body scope dV kV doc pm an cdv ct), osl⟩) (hcd : PySem.W.codeIn K cdv qual = true) (S : FnScope N ps scope)
    (len : ∀ vs H Q E, sp vs H Q E → vs.length = ps.length)
    (hbody : ∀ (A : Around) (outer : List Env) (s : Shared) (H : Hp) (vs : List V) (Q : VK) (E : XK), Room k (A.deeper (envOfC qual scope s.heap.objs.size f cdv)) → sp vs H Q E →
      ∃ t, PSs (cxOf CX P w K mg base N qual scope f cdv A outer s H E) body t ∧ t { nx := fun _ H' => Q .non H', rt := Q } (start N vs) H) :
    FnOk P w K mg base CX (k + 1) f (PySem.W.fnOf name qual params body scope dV kV doc pm an cdv ct) ps sp := by
  refine ⟨len, fun A outer s H args us vs Q E hr e0 hb r hsp => ?_⟩
  have hl := len _ _ _ _ hsp
  have KX : K.In s.heap := e0.mod.kin.keeps fun b o e => (e0.bs b o e).1
  have lim : s.heap.NoLimit := e0.mod.nolimit.keeps fun b o e => (e0.bs b o e).1
  have hkind : ∀ y ∈ ps.zip us, scope.names.lookup y.1 = some .local ∨ (scope.names.lookup y.1 = some .cell ∧ ((cellsFrom (s.heap.objs.size + 1) scope.names []).lookup y.1).isSome = true) := fun ⟨n, v⟩ hy => by
    rcases S.par n (List.of_mem_zip hy).1 with q | q
    · exact .inl q
    · exact .inr ⟨q, PySem.W.cellsFrom_some _ _ _ (.inl q)⟩
  refine codeAny_call_function hr.depth (KX _ _ lk) rfl S.co S.gen rfl (PySem.W.codeRec_of KX hcd) (hb _ _ _ _ ?_)
  refine wpAny_newFunctionEnv_cells S.kind hkind fun env he s1 x => ?_
  subst he
  refine ⟨lim.keeps x.toInCall.keep, codeAny_func ?_⟩
  obtain ⟨t, ht, hq⟩ := hbody A outer s H vs Q E (hr.deeper _) hsp
  have I : Inv (cxOf CX P w K mg base N qual scope f cdv A outer s H E) [] (start N vs) H s1 := inv_start S hr.hd e0 hl r x
  refine wpAny_mono (ht [] s1 (start N vs) H _ I hq) (fun fl s' hs => ?_) fun e s' hs => hs
  have fin : ∀ {σ' : St} {H' : Hp} {v : V} {u : Value}, Inv (cxOf CX P w K mg base N qual scope f cdv A outer s H E) [] σ' H' s' → RelV v u → Q v H' → CE outer P w H s Q u s' :=
    fun {σ' H' v u} J rv q => ⟨v, H', J.os, J.bare, J.base, J.hok, rv, q⟩
  cases fl with
  | ret u =>
    obtain ⟨v, σ', H', J, rv, q⟩ := hs
    exact fin J rv q
  | next =>
    obtain ⟨σ', H', J, q⟩ := hs
    exact fin (v := V.non) (u := Value.none) J rfl q
  | brk =>
    obtain ⟨_, _, _, q⟩ := hs
    exact False.elim q
  | cont =>
    obtain ⟨_, _, _, q⟩ := hs
    exact False.elim q
end L2
namespace L2
open PySem PySem.Spec PyProof.Rows
section
variable {X : Cx} {x : Str} {p pos : Pos} {e : Expr} {es : List Expr} {t : TA} {id T : String} {r : List V → Hp → VK → Prop}
def tCB (r : List V → Hp → VK → Prop) (t : TA) : TE := fun σ H Q => t σ H fun vs H1 => r vs H1 Q
theorem pe_callB (hc : CallR X (.builtin id) r) (hg : Gl X x) (hm : X.mg x = none) (hv : bootBuiltins x = some (.builtin id)) (ha : PA X (e :: es) t) (hn : x ≠ "__name__" := by decide) (hdb : (x == ("__debug__" : Str)) = false := by decide)
    (he : starEach (e :: es) X.env = (false, eval e X.env) :: starEach es X.env := by rfl) (hpl : (backTo pos (starEach es X.env)).any (·.1) = false := by rfl) : PE X (.Call (.Name x p) (e :: es) [] pos) (tCB r t) := by
  intro pins s σ H Q I h
  refine wpAny_Call_Name_kw (ld_blt I hg hm hv ?_ hn hdb)
  exact PyProof.Rows.callWith_builtin1 (thn (ha pos pins s σ H _ I h) fun us s1 ⟨vs, H1, I1, r1, q1⟩ => hc pins s1 σ H1 vs us Q I1 r1 q1) he hpl
theorem pe_callTy (hc : CallR X (.type T) r) (hg : Gl X x) (hm : X.mg x = none) (hv : bootBuiltins x = some (.type T)) (ha : PA X (e :: es) t) (hn : x ≠ "__name__" := by decide) (hdb : (x == ("__debug__" : Str)) = false := by decide)
    (he : starEach (e :: es) X.env = (false, eval e X.env) :: starEach es X.env := by rfl) (hpl : (backTo pos (starEach es X.env)).any (·.1) = false := by rfl) : PE X (.Call (.Name x p) (e :: es) [] pos) (tCB r t) := by
  intro pins s σ H Q I h
  refine wpAny_Call_Name_kw (ld_blt I hg hm hv ?_ hn hdb)
  exact PyProof.Rows.callWith_type1 (thn (ha pos pins s σ H _ I h) fun us s1 ⟨vs, H1, I1, r1, q1⟩ => hc pins s1 σ H1 vs us Q I1 r1 q1) he hpl
end
end L2
namespace HT
open PySem PyProof.Rows
section
open PySem.SeqAt
open PySem.AutoSeq1 (wpAny_loadPart')
open PySem.MeetsSeq PySem.MeetsSeq2 PySem.MeetsSeq3
end
section
variable {prog : Program} {w : World} {A : Around} {E : Value → Shared → Prop} {s : Shared}
theorem cat_tup {t b : Addr} {vs ws : List Value} {Q : Value → Shared → Prop} (ht : IsTup s.heap t vs.toArray) (hb : IsTup s.heap b ws.toArray) (hv : vs ≠ [])
    (h1 : ws = [] → Q (.ref t) s) (h2 : ws ≠ [] → Q (.ref s.heap.objs.size) { s with heap := s.heap.push { cls := .type "tuple", data := .seq (vs ++ ws).toArray } })
    (hsz : vs.length + ws.length ≤ sizeLine) : wpAny (model prog w) A (binaryOp .Add (.ref t) (.ref b)) Q E s := by
  obtain ⟨⟨cls, dd, data, sl⟩, ho, hc, n, hd⟩ := id ht
  obtain ⟨⟨cls2, dd2, data2, sl2⟩, ho2, hc2, n2, hd2⟩ := id hb
  simp only at hc hd hc2 hd2
  subst hc hd hc2 hd2
  have e : vs.toArray ++ ws.toArray = (vs ++ ws).toArray := by simp
  by_cases hw : ws = []
  · exact concat_meets ⟨_, ho, rfl⟩ ⟨_, ho2, rfl⟩ noFill_tuple_add seq_tuple_add PySem.F.slot_tuple_add PySem.F.entry_tuple_add (PySem.F.args_tuple_add_2 _ _)
      (tuple_addW1 t b vs.toArray ws.toArray n n2 dd dd2 sl sl2 (by simpa using hv) (by simp [hw])) ⟨ho, ho2, h1 hw⟩
  · refine concat_meets ⟨_, ho, rfl⟩ ⟨_, ho2, rfl⟩ noFill_tuple_add seq_tuple_add PySem.F.slot_tuple_add PySem.F.entry_tuple_add (PySem.F.args_tuple_add_2 _ _)
      (tuple_addW2 t b vs.toArray ws.toArray n n2 dd dd2 sl sl2 (by simpa using hv) (by simpa using hw) (by rw [List.size_toArray, List.size_toArray]; exact hsz)) ⟨ho, ho2, ?_⟩
    rw [e]
    exact h2 hw
def sIx (n d : Nat) : Option Int → Nat
  | none => d
  | some v => if v < 0 then (v + (n : Int)).toNat else min v.toNat n
theorem sIx_le (n d : Nat) (hd : d ≤ n) (o : Option Int) : sIx n d o ≤ n := by
  cases o with
  | none => exact hd
  | some v =>
    show (if v < 0 then (v + (n : Int)).toNat else min v.toNat n) ≤ n
    by_cases hv : v < 0
    · rw [if_pos hv]; omega
    · rw [if_neg hv]; exact Nat.min_le_right _ _
theorem clip_eq (v : Int) (n d : Nat) : (if v < 0 then max (v + (n : Int)) 0 else min v (n : Int)) = ((sIx n d (some v) : Nat) : Int) := by
  show (if v < 0 then max (v + (n : Int)) 0 else min v (n : Int)) = (((if v < 0 then (v + (n : Int)).toNat else min v.toNat n) : Nat) : Int)
  by_cases hv : v < 0
  · simp only [if_pos hv]; omega
  · simp only [if_neg hv]; omega
theorem adjust_gen (lo hi : Option Int) (n : Nat) : Builtin.Slice.sliceAdjust lo hi 1 (n : Int) = (((sIx n 0 lo : Nat) : Int), ((sIx n n hi : Nat) : Int)) := by
  have h1 : ¬ ((1 : Int) < 0) := by omega
  unfold Builtin.Slice.sliceAdjust
  simp only [h1, if_false]
  refine Prod.ext ?_ ?_
  · cases lo with
    | none => rfl
    | some v => exact clip_eq v n 0
  · cases hi with
    | none => rfl
    | some v => exact clip_eq v n n
theorem places_gen (i j : Nat) : Builtin.Slice.slicePlaces (i : Int) (j : Int) 1 = j - i := by
  unfold Builtin.Slice.slicePlaces
  have h1 : (1 : Int) > 0 := by omega
  simp only [h1, if_true, Int.ediv_one]
  split <;> omega
theorem slicePart_ {v : Value} {o : Option Int} {Q : Option Int → Shared → Prop} (p : IsPart v o) (h : Q o s) : wpAny (model prog w) A (Builtin.Slice.slicePartIndex v) Q E s := by
  cases p with
  | none => exact slicePart_none h
  | int i t => exact slicePart_int h
theorem sliceApplied_gen {sl : Addr} {vl vu : Value} {lo hi : Option Int} {n : Nat} {Q : Int × Int × Nat → Shared → Prop} (hs : s.heap.IsSliceOf sl vl vu .none) (pl : IsPart vl lo) (pu : IsPart vu hi)
    (h : Q (((sIx n 0 lo : Nat) : Int), 1, sIx n n hi - sIx n 0 lo) s) : wpAny (model prog w) A (Builtin.Slice.sliceApplied (.ref sl) (pure (n : Int))) Q E s := by
  obtain ⟨os, hos, hcs, hds⟩ := id hs
  unfold Builtin.Slice.sliceApplied Builtin.Slice.sliceFields
  refine wpAny_bind (wpAny_bind (wpAny_field hos hds (x := vl) rfl (wpAny_bind (wpAny_field hos hds (x := vu) rfl (wpAny_bind (wpAny_field hos hds (x := .none) rfl (wpAny_pure ?_)))))))
  refine wpAny_bind (slicePart_none ?_)
  show wpAny _ _ (if ((1 : Int) == 0) = true then _ else _) _ _ s
  rw [if_neg (by decide)]
  refine wpAny_bind (slicePart_ pl (wpAny_bind (slicePart_ pu (wpAny_bind (wpAny_pure ?_)))))
  show wpAny _ _ (match Builtin.Slice.sliceAdjust lo hi 1 (n : Int) with | (lo, hi) => pure (lo, (1 : Int), Builtin.Slice.slicePlaces lo hi 1)) _ _ s
  rw [adjust_gen lo hi n]
  show wpAny _ _ (pure (((sIx n 0 lo : Nat) : Int), (1 : Int), Builtin.Slice.slicePlaces ((sIx n 0 lo : Nat) : Int) ((sIx n n hi : Nat) : Int) 1)) _ _ s
  rw [places_gen]
  exact wpAny_pure h
theorem pick_gen (xs : Array Value) (i k : Nat) : ((List.range k).filterMap fun (m : Nat) => xs[((i : Int) + (m : Int) * 1).toNat]?).toArray = ((xs.toList.drop i).take k).toArray := by
  have e : (fun (m : Nat) => xs[((i : Int) + (m : Int) * 1).toNat]?) = fun m => xs[i + m]? := by
    funext m
    have : ((i : Int) + (m : Int) * 1).toNat = i + m := by omega
    rw [this]
  rw [e]
  have := pick_run xs i k
  rw [List.filterMap_map] at this
  have e2 : ((fun x => xs[x]?) ∘ fun x => i + x) = fun m => xs[i + m]? := rfl
  rw [e2] at this
  rw [this]
theorem getItem_tuple_cut {t sl : Addr} {items : Array Value} {vl vu : Value} {lo hi : Option Int} {Q : Value → Shared → Prop} (ht : IsTup s.heap t items) (hs : s.heap.IsSliceOf sl vl vu .none) (pl : IsPart vl lo) (pu : IsPart vu hi)
    (hw : ¬ (sIx items.size 0 lo = 0 ∧ sIx items.size items.size hi = items.size))
    (h : Q (.ref s.heap.objs.size) { s with heap := s.heap.push { cls := .type "tuple", data := .seq ((items.toList.drop (sIx items.size 0 lo)).take (sIx items.size items.size hi - sIx items.size 0 lo)).toArray } })
    (hsz : items.size ≤ sizeLine) : wpAny (model prog w) A (getItem (.ref t) (.ref sl)) Q E s := by
  have htake : sizeOk (.seq ((items.toList.drop (sIx items.size 0 lo)).take (sIx items.size items.size hi - sIx items.size 0 lo)).toArray) := by
    show ((items.toList.drop (sIx items.size 0 lo)).take (sIx items.size items.size hi - sIx items.size 0 lo)).toArray.size ≤ sizeLine
    rw [List.size_toArray, List.length_take, List.length_drop, Array.length_toList]
    omega
  have hj : sIx items.size items.size hi ≤ items.size := sIx_le _ _ (Nat.le_refl _) hi
  obtain ⟨os, hos, hcs, hds⟩ := id hs
  have hTs : s.TypeIs (.ref sl) "slice" := ⟨os, hos, hcs⟩
  unfold getItem
  try with_reducible refine wpAny_holding ?_
  first | refine wpAny_bind (wpAny_pure ?_) | skip
  refine wpAny_bind (wpAny_sequenceKey ht.typeIs (by decide) ?_)
  refine wpAny_bind (wpAny_callSpecial?_slot (name := Str.ofString "__getitem__") ht.typeIs PyProof.Rows.slot_tuple_getitem
    (wpAny_call_entry PyProof.Rows.slot_tuple_getitem ht.typeIs entry_tuple_getitem ?_ (args_tuple_getitem _ _)))
  show wpAny _ _ (Builtin.Tuple.tupleItemsOf (.ref t) >>= _) _ _ s
  refine wpAny_bind (tupleItemsOf_ ht ?_)
  refine wpAny_bind (wpAny_typeOf hTs ?_)
  rw [if_pos (by decide)]
  refine wpAny_bind (sliceApplied_gen hs pl pu ?_)
  have hno : ¬ ((((sIx items.size 0 lo : Nat) : Int) == 0 && (1 : Int) == 1 && (sIx items.size items.size hi - sIx items.size 0 lo) == items.size) = true) := by
    intro q
    rw [Bool.and_eq_true, Bool.and_eq_true] at q
    have q1 : ((sIx items.size 0 lo : Nat) : Int) = 0 := eq_of_beq q.1.1
    have q2 : sIx items.size items.size hi - sIx items.size 0 lo = items.size := eq_of_beq q.2
    exact hw ⟨by omega, by omega⟩
  show wpAny _ _ (if (((sIx items.size 0 lo : Nat) : Int) == 0 && (1 : Int) == 1 && (sIx items.size items.size hi - sIx items.size 0 lo) == items.size) = true then _ else _) _ _ s
  rw [if_neg hno, pick_gen]
  first
    | exact wpAny_bind (m := Builtin.Tuple.tupleExact _) (wpAny_newObj_type (wpAny_pure ⟨_, rfl, wpAny_pure h⟩) htake)
    | exact wpAny_bind (m := Builtin.Tuple.tupleExact _) (wpAny_newObj_type (wpAny_bind (wpAny_pure (wpAny_pure ⟨_, rfl, wpAny_pure h⟩))) htake)
    | exact wpAny_bind (wpAny_bind (m := Builtin.Tuple.tupleExact _) (wpAny_newObj_type (wpAny_pure (wpAny_pure ⟨_, rfl, wpAny_pure h⟩)) htake))
    | exact wpAny_bind (wpAny_bind (m := Builtin.Tuple.tupleExact _) (wpAny_newObj_type (wpAny_pure ⟨_, rfl, wpAny_pure h⟩) htake))
end
end HT
namespace L2
open PySem PySem.Spec PyProof.Rows
abbrev TO := St → Hp → (Option Int → Hp → Prop) → Prop
def PO (X : Cx) (e : Option Expr) (t : TO) : Prop :=
  ∀ (pins : List (Addr × Obj)) (s : Shared) (σ : St) (H : Hp) (Q : Option Int → Hp → Prop), Inv X pins σ H s → t σ H Q →
    wpAny (model X.prog X.w) X.A (evalPart e X.env) (fun u s' => ∃ o H', Inv X pins σ H' s' ∧ IsPart u o ∧ Q o H') X.xe s
def tNoPart : TO := fun _ H Q => Q none H
def tPart (t : TE) : TO := fun σ H Q => t σ H fun x H1 => ∃ i, x = .int i ∧ Q (some i) H1
theorem intsAre_of {ns : List Int} : ∀ {us : List Value}, Vals (ns.map V.int) us → IntsAre us ns := by
  induction ns with
  | nil => intro us r; rw [List.map_nil] at r; cases r; exact .nil
  | cons n ns ih =>
    intro us r
    rw [List.map_cons] at r
    cases r with
    | cons r1 r2 =>
      obtain ⟨t, e⟩ := r1
      subst e
      exact .cons n t (ih r2)
section
variable {X : Cx} {e : Expr} {te : TE} {lo hi : Option Expr} {tl th : TO} {pos p2 : Pos}
theorem po_none : PO X none tNoPart := by
  intro pins s σ H Q I h
  rw [evalPart_none]
  exact wpAny_pure ⟨none, H, I, .none, h⟩
theorem po_some (h : PE X e te) : PO X (some e) (tPart te) := by
  intro pins s σ H Q I hw
  rw [evalPart_some]
  refine thn (h pins s σ H _ I hw) fun u s1 ⟨x, H1, I1, r1, q1⟩ => ?_
  obtain ⟨i, rfl, q⟩ := q1
  obtain ⟨t, rfl⟩ := r1
  exact ⟨some i, H1, I1, .int i t, q⟩
def SlR (X : Cx) (r : V → Option Int → Option Int → Hp → VK → Prop) : Prop :=
  ∀ (pins : List (Addr × Obj)) (s : Shared) (σ : St) (H : Hp) (x : V) (v vl vu : Value) (lo hi : Option Int) (sl : Addr) (Q : VK), Inv X pins σ H s → RelV x v → s.heap.IsSliceOf sl vl vu .none → IsPart vl lo → IsPart vu hi → r x lo hi H Q →
    ∃ T id, typeLookup (.type T) "__getitem__" = pure (some (.builtin id)) ∧ s.TypeIs v T ∧ wpAny (model X.prog X.w) X.A (getItem v (.ref sl)) (EP X pins σ Q) X.xe s
def tSl (r : V → Option Int → Option Int → Hp → VK → Prop) (te : TE) (tl th : TO) : TE := fun σ H Q => te σ H fun x H1 => tl σ H1 fun l H2 => th σ H2 fun u H3 => r x l u H3 Q
theorem pe_slice {r : V → Option Int → Option Int → Hp → VK → Prop} (hr : SlR X r) (he : PE X e te) (hl : PO X lo tl) (hu : PO X hi th) : PE X (.Subscript e (.Slice lo hi none p2) pos) (tSl r te tl th) := by
  intro pins s σ H Q I h
  refine Subscript_ (thn (he pins s σ H _ I h) fun v s1 ⟨x, H1, I1, r1, q1⟩ => ?_)
  refine wpAny_Slice (thn (hl pins s1 σ H1 _ I1 q1) fun vl s2 ⟨l, H2, I2, pl, q2⟩ => thn (hu pins s2 σ H2 _ I2 q2) fun vu s3 ⟨u, H3, I3, pu, q3⟩ => ?_)
  rw [evalPart_none]
  refine wpAny_pure ?_
  have I4 : Inv X pins σ H3 { s3 with heap := s3.heap.push { cls := .type "slice", data := .fields #[vl, vu, .none] } } := I3.kept (t' := s3.toks) fun b ob q => Heap.get?_push_of_some _ q
  obtain ⟨T, id, hT, ht, hg⟩ := hr pins { s3 with heap := s3.heap.push { cls := .type "slice", data := .fields #[vl, vu, .none] } } σ H3 x v vl vu l u s3.heap.objs.size Q I4 r1 (Heap.IsSliceOf.new ..) pl pu q3
  show wpAny (model X.prog X.w) X.A (subscriptTail e (.Slice lo hi none p2) v (.ref s3.heap.objs.size)) (EP X pins σ Q) X.xe { s3 with heap := s3.heap.push { cls := .type "slice", data := .fields #[vl, vu, .none] } }
  exact tail_any (ops := [.ref s3.heap.objs.size, v]) ht hT hg (by with_unfolding_all rfl)
def cutV (xs : List V) (lo hi : Option Int) : List V := (xs.drop (HT.sIx xs.length 0 lo)).take (HT.sIx xs.length xs.length hi - HT.sIx xs.length 0 lo)
theorem cutV_length (xs : List V) (lo hi : Option Int) : (cutV xs lo hi).length ≤ xs.length := by
  unfold cutV
  rw [List.length_take, List.length_drop]
  omega
def rSlT (K : PySem.W.Frag) : V → Option Int → Option Int → Hp → VK → Prop := fun x lo hi H Q => ∃ a xs, x = .ref a ∧ SqT K H a xs ∧
  ¬ (HT.sIx xs.length 0 lo = 0 ∧ HT.sIx xs.length xs.length hi = xs.length) ∧ ∀ p, H p = none → Q (.ref p) (upd H p (.tup (cutV xs lo hi)))
theorem sl_tup : SlR X (rSlT X.K) := by
  intro pins s σ H x v vl vu lo hi sl Q I rx hs pl pu h
  obtain ⟨a, xs, rfl, hx, hw, q⟩ := h
  cases rx
  obtain ⟨its, r, ht, hz⟩ := I.tuple hx
  have hlen : its.toArray.size = xs.length := by rw [List.size_toArray]; exact r.length.symm
  refine ⟨"tuple", _, PyProof.Rows.slot_tuple_getitem.lookup, ht.typeIs, ?_⟩
  refine HT.getItem_tuple_cut ht hs pl pu (by rw [hlen]; exact hw) ?_ (by rw [hlen]; exact hz)
  rw [hlen]
  refine ⟨.ref s.heap.objs.size, _, I.laid (t' := s.toks) (o := .tup (cutV xs lo hi)) (fun b ob q => Heap.get?_push_of_some _ q) (Nat.le_refl _) ?_, rfl, q _ (I.hok.fresh (Nat.le_refl _))⟩
  exact ⟨Nat.le_trans (cutV_length xs lo hi) hz, _, (r.drop (HT.sIx xs.length 0 lo)).take (HT.sIx xs.length xs.length hi - HT.sIx xs.length 0 lo), IsTup.new _ _⟩
def rCatT (K : PySem.W.Frag) : R2 := fun x y H Q => ∃ a b xs ys, x = .ref a ∧ y = .ref b ∧ SqT K H a xs ∧ SqT K H b ys ∧ xs ≠ [] ∧ xs.length + ys.length ≤ sizeLine ∧
  (ys = [] → Q (.ref a) H) ∧ (ys ≠ [] → ∀ p, H p = none → Q (.ref p) (upd H p (.tup (xs ++ ys))))
theorem Vals.nil_iff {xs : List V} {us : List Value} (r : Vals xs us) : us = [] ↔ xs = [] := by
  cases r with
  | nil => simp
  | cons _ _ => simp
theorem op_catT : OpR X (binaryOp .Add) (rCatT X.K) := by
  intro pins s σ H x y v u Q I rx ry h
  obtain ⟨a, b, xs, ys, rfl, rfl, ha, hb, hx, hz, q1, q2⟩ := h
  cases rx
  cases ry
  obtain ⟨its, r1, p1, _⟩ := I.tuple ha
  obtain ⟨its2, r2, p2, _⟩ := I.tuple hb
  refine HT.cat_tup p1 p2 (fun z => hx (r1.nil_iff.mp z)) (fun z => ⟨.ref a, H, I, rfl, q1 (r2.nil_iff.mp z)⟩) (fun z => ?_) (by rw [← r1.length, ← r2.length]; exact hz)
  refine ⟨.ref s.heap.objs.size, _, I.laid (t' := s.toks) (o := .tup (xs ++ ys)) (fun b ob q => Heap.get?_push_of_some _ q) (Nat.le_refl _) ?_, rfl, q2 (fun w => z (r2.nil_iff.mpr w)) _ (I.hok.fresh (Nat.le_refl _))⟩
  exact ⟨by rw [List.length_append]; exact hz, _, r1.append r2, IsTup.new _ _⟩
end
end L2
namespace L2
open PySem PySem.Spec PyProof.Rows
def ixN (n : Nat) (i : Int) : Option Nat := if 0 ≤ i then (if i < n then some i.toNat else none) else if -(n : Int) ≤ i then some (i + n).toNat else none
def atI {α : Type} (xs : List α) (i : Int) : Option α := (ixN xs.length i).bind fun j => xs[j]?
theorem ixN_seq {n : Nat} {i : Int} {j : Nat} (h : ixN n i = some j) : seqIndex? i n = some j ∧ j < n ∧ -(n : Int) ≤ i ∧ i < n := by
  unfold ixN at h
  by_cases h0 : 0 ≤ i
  · rw [if_pos h0] at h
    by_cases h1 : i < n
    · rw [if_pos h1] at h
      have e : i.toNat = j := Option.some.inj h
      exact ⟨by rw [seqIndex_of h0 h1, e], by omega, by omega, h1⟩
    · rw [if_neg h1] at h; cases h
  · rw [if_neg h0] at h
    by_cases h1 : -(n : Int) ≤ i
    · rw [if_pos h1] at h
      have e : (i + n).toNat = j := Option.some.inj h
      exact ⟨by rw [seqIndex_neg (by omega) h1, e], by omega, h1, by omega⟩
    · rw [if_neg h1] at h; cases h
theorem atI_get {α : Type} {xs : List α} {i : Int} {v : α} (h : atI xs i = some v) : ∃ j, seqIndex? i xs.length = some j ∧ xs[j]? = some v ∧ j < xs.length ∧ -(xs.length : Int) ≤ i ∧ i < xs.length := by
  unfold atI at h
  cases e : ixN xs.length i with
  | none => rw [e] at h; cases h
  | some j =>
    rw [e] at h
    obtain ⟨h1, h2, h3, h4⟩ := ixN_seq e
    exact ⟨j, h1, h, h2, h3, h4⟩
theorem atI_nat {α : Type} {xs : List α} {j : Nat} {v : α} (h : xs[j]? = some v) : atI xs (j : Int) = some v := by
  have hj : j < xs.length := (List.getElem?_eq_some_iff.mp h).1
  have e : ixN xs.length (j : Int) = some j := by
    unfold ixN
    rw [if_pos (by omega), if_pos (by omega)]; simp
  unfold atI; rw [e]; exact h
def PlainIx (b : Expr) : Prop := ∀ o i, subscripted b false o i = operate [o, i] (getItem o i)
def IxR (X : Cx) (r : R2) : Prop :=
  ∀ (value slice : Expr) (pins : List (Addr × Obj)) (s : Shared) (σ : St) (H : Hp) (x y : V) (v u : Value) (Q : VK), Inv X pins σ H s → RelV x v → RelV y u → r x y H Q →
    subscripted slice false v u = operate [v, u] (getItem v u) → wpAny (model X.prog X.w) X.A (subscriptTail value slice v u) (EP X pins σ Q) X.xe s
def MtR (X : Cx) (id : String) (r : V → List V → Hp → VK → Prop) : Prop :=
  ∀ (pins : List (Addr × Obj)) (s : Shared) (σ : St) (H : Hp) (x : V) (xs : List V) (v : Value) (us : List Value) (Q : VK), Inv X pins σ H s → RelV x v → Vals xs us → r x xs H Q →
    wpAny (model X.prog X.w) X.A (call (.builtin id) (v :: us)) (EP X pins σ Q) X.xe s
section
variable {X : Cx} {a b : Expr} {ta tb : TE} {pos : Pos}
theorem IxR.or {r r' : R2} (h : IxR X r) (h' : IxR X r') : IxR X (fun x y H Q => r x y H Q ∨ r' x y H Q) := by
  intro value slice pins s σ H x y v u Q I rx ry q hs
  rcases q with q | q
  · exact h value slice pins s σ H x y v u Q I rx ry q hs
  · exact h' value slice pins s σ H x y v u Q I rx ry q hs
theorem pe_ix {r : R2} (hr : IxR X r) (ha : PE X a ta) (hb : PE X b tb) (hs : PlainIx b) : PE X (.Subscript a b pos) (tOp r ta tb) := by
  intro pins s σ H Q I h
  exact Subscript_ (binT ha hb I h fun v u s2 x y H2 I2 rx ry q => hr a b pins s2 σ H2 x y v u Q I2 rx ry q (hs _ _))
def rIxL (K : PySem.W.Frag) : R2 := fun x y H Q => ∃ p xs i v, x = .ref p ∧ y = .int i ∧ SqL K H p xs ∧ atI xs i = some v ∧ Q v H
def rIxT (K : PySem.W.Frag) : R2 := fun x y H Q => ∃ p xs i v, x = .ref p ∧ y = .int i ∧ SqT K H p xs ∧ atI xs i = some v ∧ Q v H
theorem ix_list : IxR X (rIxL X.K) := by
  intro value slice pins s σ H x y v u Q I rx ry h hs
  obtain ⟨p, xs, i, z, rfl, rfl, hq, he, q⟩ := h
  cases rx
  obtain ⟨t, rfl⟩ := ry
  obtain ⟨its, r, pl, hz⟩ := I.list hq
  obtain ⟨j, h1, h2, h3, h4, h5⟩ := atI_get he
  obtain ⟨w, ew, rw'⟩ := r.get h2
  have hl := r.length
  have hn := line63
  have fin : EP X pins σ Q w s := ⟨z, H, I, rw', q⟩
  by_cases h0 : 0 ≤ i
  · have hj : i.toNat = j := by
      rw [seqIndex_of h0 h5] at h1
      exact Option.some.inj h1
    exact item_listR pl.isList h0 (by omega) (by rw [hj]; simpa using ew) fin hs
  · have hj : (i + (its.toArray.size : Int)).toNat = j := by
      rw [seqIndex_neg (by omega) h4] at h1
      rw [List.size_toArray, ← hl]
      exact Option.some.inj h1
    exact subscriptTail_builtinR (x := w) pl.isList.typeIs slot_list_getitem.lookup
      (wpAny_getItem_list_neg (Q := fun r s' => r = w ∧ EP X pins σ Q r s') pl.isList (by omega) (by rw [List.size_toArray] <;> omega) (by omega) (by rw [hj]; simpa using ew) ⟨rfl, fin⟩) hs
theorem ix_tup : IxR X (rIxT X.K) := by
  intro value slice pins s σ H x y v u Q I rx ry h hs
  obtain ⟨p, xs, i, z, rfl, rfl, hq, he, q⟩ := h
  cases rx
  obtain ⟨t, rfl⟩ := ry
  obtain ⟨its, r, pl, hz⟩ := I.tuple hq
  obtain ⟨j, h1, h2, h3, h4, h5⟩ := atI_get he
  obtain ⟨w, ew, rw'⟩ := r.get h2
  have hl := r.length
  have hn := line63
  have fin : EP X pins σ Q w s := ⟨z, H, I, rw', q⟩
  exact subscriptTail_builtinR (x := w) pl.typeIs slot_tuple_getitem.lookup
    (getItem_tuple (j := j) (Q := fun r s' => r = w ∧ EP X pins σ Q r s') pl (by omega) (by omega) (by rw [List.size_toArray, ← hl]; exact h1) (by simpa using ew) ⟨rfl, fin⟩) hs
theorem mapSeq_set (its : List Value) (n j : Nat) (u : Value) : Obj.mapSeq (·.setIfInBounds j u) { cls := .type "list", data := .seq its.toArray n } = { cls := .type "list", data := .seq (its.set j u).toArray n } := by
  simp [Obj.mapSeq]
theorem Inv.lst {pins : List (Addr × Obj)} {σ : St} {H : Hp} {s : Shared} {p : Addr} {xs : List V} (I : Inv X pins σ H s) (h : H p = some (.lst xs)) :
    ∃ (its : List Value) (n : Nat), Vals xs its ∧ s.heap.get? p = some { cls := .type "list", data := .seq its.toArray n } ∧ xs.length ≤ sizeLine := by
  obtain ⟨z, its, n, r, e⟩ := I.hok p _ h
  exact ⟨its, n, r, e, z⟩
theorem Inv.lstUpd {pins : List (Addr × Obj)} {σ : St} {H : Hp} {s : Shared} {p : Addr} {xs ys : List V} {its its' : List Value} {n n' : Nat} {f : Obj → Obj} (I : Inv X pins σ H s) (h : H p = some (.lst xs))
    (ho : s.heap.get? p = some { cls := .type "list", data := .seq its.toArray n }) (hf : f { cls := .type "list", data := .seq its.toArray n } = { cls := .type "list", data := .seq its'.toArray n' }) (r : Vals ys its') (hz : ys.length ≤ sizeLine) (t : Nat) :
    Inv X pins σ (upd H p (.lst ys)) { s with heap := s.heap.update p f, toks := t } := by
  have e : (s.heap.update p f).get? p = some { cls := .type "list", data := .seq its'.toArray n' } := by
    rw [Heap.get?_update_self f ho (by rw [hf] <;> rfl), hf]
  refine I.write (x := p) (e := p) (by rw [h]; trivial) (.inl rfl) (fun b u hb q => (Heap.get?_update_other _ _ (Ne.symm hb)).trans q) ⟨_, e⟩ ?_
  exact ⟨hz, its', n', r, e⟩
def rSetL : V → V → V → Hp → (Hp → Prop) → Prop := fun o i v H Q => ∃ p xs k j, o = .ref p ∧ i = .int k ∧ H p = some (.lst xs) ∧ ixN xs.length k = some j ∧ Q (upd H p (.lst (xs.set j v)))
theorem set_list : PSet X rSetL := by
  intro pins s σ H o i v ov iv u Q I ro ri rv h
  obtain ⟨p, xs, k, j, rfl, rfl, hp, hj, q⟩ := h
  cases ro
  obtain ⟨t, rfl⟩ := ri
  obtain ⟨its, n, r, ho, hz⟩ := I.lst hp
  obtain ⟨h1, h2, h3, h4⟩ := ixN_seq hj
  have hl := r.length
  have hn := line63
  have I' : Inv X pins σ (upd H p (.lst (xs.set j v))) { s with heap := s.heap.update p (Obj.mapSeq (·.setIfInBounds j u)) } :=
    I.lstUpd hp ho (mapSeq_set its n j u) (r.set rv j) (by rw [List.length_set]; exact hz) s.toks
  by_cases h0 : 0 ≤ k
  · have hk : k.toNat = j := by
      rw [seqIndex_of h0 h4] at h1
      exact Option.some.inj h1
    exact PySem.W.ki_setAt ho h0 (by omega) (by rw [List.size_toArray, ← hl]; exact h4) (by rw [hk]; exact ⟨_, I', q⟩)
  · have hk : (k + (its.toArray.size : Int)).toNat = j := by
      rw [seqIndex_neg (by omega) h3] at h1
      rw [List.size_toArray, ← hl]
      exact Option.some.inj h1
    exact PySem.W.ki_setBack ho (by omega) (by rw [List.size_toArray, ← hl]; exact h3) (by omega) (by rw [hk]; exact ⟨_, I', q⟩)
theorem slice_bounds (lo hi : Option Int) (n : Nat) : (sliceBounds lo hi none n).1 = ((HT.sIx n 0 lo : Nat) : Int) ∧ (sliceBounds lo hi none n).2.1 = ((HT.sIx n n hi : Nat) : Int) ∧ (sliceBounds lo hi none n).2.2 = 1 := by
  refine ⟨?_, ?_, rfl⟩
  · cases lo with
    | none => simp [sliceBounds, HT.sIx]
    | some i =>
      simp only [sliceBounds, HT.sIx, Option.getD_none, show (1 : Int) > 0 by decide, if_true]
      by_cases h : i < 0
      · simp only [h, if_true] <;> omega
      · simp only [h, if_false] <;> omega
  · cases hi with
    | none => simp [sliceBounds, HT.sIx]
    | some i =>
      simp only [sliceBounds, HT.sIx, Option.getD_none, show (1 : Int) > 0 by decide, if_true]
      by_cases h : i < 0
      · simp only [h, if_true] <;> omega
      · simp only [h, if_false] <;> omega
theorem slicePick_cut (its : List Value) (lo hi : Option Int) : slicePick its.toArray lo hi none = ((its.drop (HT.sIx its.length 0 lo)).take (HT.sIx its.length its.length hi - HT.sIx its.length 0 lo)).toArray := by
  obtain ⟨h1, h2, h3⟩ := slice_bounds lo hi its.toArray.size
  unfold slicePick
  rw [h1, h2, h3]
  simp only [sliceRange_one, pick_run, List.size_toArray] <;> rfl
def rSlL (K : PySem.W.Frag) : V → Option Int → Option Int → Hp → VK → Prop := fun x lo hi H Q => ∃ a xs, x = .ref a ∧ SqL K H a xs ∧ ∀ p, H p = none → Q (.ref p) (upd H p (.lst (cutV xs lo hi)))
theorem sl_list : SlR X (rSlL X.K) := by
  intro pins s σ H x v vl vu lo hi sl Q I rx hs pl pu h
  obtain ⟨a, xs, rfl, hx, q⟩ := h
  cases rx
  obtain ⟨its, r, ht, hz⟩ := I.list hx
  have hlen := r.length
  refine ⟨"list", _, slot_list_getitem.lookup, ht.isList.typeIs, ?_⟩
  refine wpAny_getItem_list_slice ht.isList hs pl pu .none (by simp) ?_ (by rw [List.size_toArray] <;> omega)
  rw [slicePick_cut, ← hlen]
  refine ⟨.ref s.heap.objs.size, _, I.laid (t' := s.toks) (o := .lst (cutV xs lo hi)) (fun b ob q => Heap.get?_push_of_some _ q) (Nat.le_refl _) ?_, rfl, q _ (I.hok.fresh (Nat.le_refl _))⟩
  exact ⟨Nat.le_trans (cutV_length xs lo hi) hz, _, 0, (r.drop (HT.sIx xs.length 0 lo)).take (HT.sIx xs.length xs.length hi - HT.sIx xs.length 0 lo), Heap.get?_push_size _ rfl⟩
def flatV : V → Bool
  | .non => true
  | .bl _ => true
  | .int _ => true
  | .str _ => true
  | _ => false
def eqV : V → V → Bool
  | .non, .non => true
  | .bl a, .bl b => a == b
  | .bl a, .int b => (if a then 1 else 0) == b
  | .int a, .bl b => a == (if b then 1 else 0)
  | .int a, .int b => a == b
  | .str a, .str b => a == b
  | _, _ => false
theorem eqAt_V {A : Around} {s : Shared} {y x : V} {u v : Value} (ry : RelV y u) (rx : RelV x v) (fy : flatV y = true) (fx : flatV x = true) : SeqAt.EqAt A s u v (eqV y x) := by
  cases y with
  | non =>
    cases ry
    cases x with
    | non => cases rx; exact SeqAt.EqAt.same _
    | bl b => cases rx; exact SeqAt.EqAt.none_bool b
    | int b => obtain ⟨t, rfl⟩ := rx; exact SeqAt.EqAt.none_int b t
    | str b => obtain ⟨t, rfl⟩ := rx; exact SeqAt.EqAt.none_str b t
    | _ => exact absurd (show false = true from fx) Bool.false_ne_true
  | bl a =>
    cases ry
    cases x with
    | non => cases rx; exact SeqAt.EqAt.bool_none a
    | bl b => cases rx; exact SeqAt.EqAt.bool_bool a b
    | int b => obtain ⟨t, rfl⟩ := rx; exact SeqAt.EqAt.bool_int a b t
    | str b => obtain ⟨t, rfl⟩ := rx; exact SeqAt.EqAt.bool_str a b t
    | _ => exact absurd (show false = true from fx) Bool.false_ne_true
  | int a =>
    obtain ⟨t', rfl⟩ := ry
    cases x with
    | non => cases rx; exact SeqAt.EqAt.int_none a t'
    | bl b => cases rx; exact SeqAt.EqAt.int_bool a t' b
    | int b => obtain ⟨t, rfl⟩ := rx; exact SeqAt.EqAt.int_int a t' b t
    | str b => obtain ⟨t, rfl⟩ := rx; exact SeqAt.EqAt.int_str a t' b t
    | _ => exact absurd (show false = true from fx) Bool.false_ne_true
  | str a =>
    obtain ⟨t', rfl⟩ := ry
    cases x with
    | non => cases rx; exact SeqAt.EqAt.str_none a t'
    | bl b => cases rx; exact SeqAt.EqAt.str_bool a t' b
    | int b => obtain ⟨t, rfl⟩ := rx; exact SeqAt.EqAt.str_int a t' b t
    | str b => obtain ⟨t, rfl⟩ := rx; exact SeqAt.EqAt.str_str a t' b t
    | _ => exact absurd (show false = true from fx) Bool.false_ne_true
  | _ => exact absurd (show false = true from fy) Bool.false_ne_true
def eqU (x : V) (u : Value) : Bool := match u with
  | .none => eqV .non x
  | .bool b => eqV (.bl b) x
  | .int i _ => eqV (.int i) x
  | .str z _ => eqV (.str z) x
  | _ => false
theorem eqU_of {x y : V} {u : Value} (r : RelV y u) (f : flatV y = true) : eqU x u = eqV y x := by
  cases y with
  | non => cases r; rfl
  | bl b => cases r; rfl
  | int i => obtain ⟨t, rfl⟩ := r; rfl
  | str z => obtain ⟨t, rfl⟩ := r; rfl
  | _ => exact absurd (show false = true from f) Bool.false_ne_true
theorem any_eqU {x : V} : ∀ {xs : List V} {us : List Value}, Vals xs us → xs.all flatV = true → us.any (eqU x) = xs.any fun y => eqV y x
  | _, _, .nil, _ => rfl
  | y :: xs, u :: us, .cons r t, f => by
    rw [List.all_cons, Bool.and_eq_true] at f
    rw [List.any_cons, List.any_cons, eqU_of r f.1, any_eqU t f.2]
theorem mem_eqAt {A : Around} {s : Shared} {x : V} {v : Value} (rx : RelV x v) (fx : flatV x = true) : ∀ {xs : List V} {us : List Value}, Vals xs us → xs.all flatV = true → ∀ u ∈ us, SeqAt.EqAt A s u v (eqU x u)
  | _, _, .nil, _ => fun u hu => by cases hu
  | y :: xs, u :: us, .cons r t, f => fun u' hu => by
    rw [List.all_cons, Bool.and_eq_true] at f
    rcases List.mem_cons.mp hu with rfl | hu
    · rw [eqU_of r f.1]; exact eqAt_V r rx f.1 fx
    · exact mem_eqAt rx fx t f.2 u' hu
def inV (x : V) (xs : List V) : Bool := xs.any fun y => eqV y x
def rIn (K : PySem.W.Frag) (neg : Bool) : R2 := fun x y H Q => ∃ p xs, y = .ref p ∧ (SqL K H p xs ∨ SqT K H p xs) ∧ flatV x = true ∧ xs.all flatV = true ∧ Q (.bl (if neg then !inV x xs else inV x xs)) H
theorem op_in_seq : OpR X (compareOp .In) (rIn X.K false) := by
  intro pins s σ H x y v u Q I rx ry h
  obtain ⟨p, xs, rfl, hq, fx, fs, q⟩ := h
  cases ry
  rcases hq with hq | hq
  · obtain ⟨its, r, pl, hz⟩ := I.list hq
    refine SeqAt.in_listAt (eqU x) pl.isList (fun w hw => mem_eqAt rx fx r fs w (by simpa using hw)) ⟨.bl _, H, I, rfl, ?_⟩
    rw [show its.toArray.any (eqU x) = its.any (eqU x) by simp, any_eqU r fs]
    exact q
  · obtain ⟨its, r, pl, hz⟩ := I.tuple hq
    refine SeqAt.in_tupleAt (eqU x) pl (fun w hw => mem_eqAt rx fx r fs w (by simpa using hw)) ⟨.bl _, H, I, rfl, ?_⟩
    rw [show its.toArray.any (eqU x) = its.any (eqU x) by simp, any_eqU r fs]
    exact q
theorem call_len_seq : CallR X (.builtin "len") (fun xs H Q => ∃ p ys, xs = [.ref p] ∧ (SqL X.K H p ys ∨ SqT X.K H p ys) ∧ Q (.int ys.length) H) := by
  intro pins s σ H xs us Q I r h
  obtain ⟨p, ys, rfl, hq, q⟩ := h
  obtain ⟨u, rfl, rx⟩ := vals1 r
  cases rx
  have hn := line63
  rcases hq with hq | hq
  · obtain ⟨its, r', pl, hz⟩ := I.list hq
    have hlen := r'.length
    exact Calls.call_len_list pl.isList (by simp only [List.size_toArray] <;> omega) ⟨.int ys.length, H, I.tok _, ⟨s.toks + 1, by rw [List.size_toArray, hlen]⟩, q⟩
  · obtain ⟨its, r', pl, hz⟩ := I.tuple hq
    have hlen := r'.length
    exact len_tuple pl (by simp only [List.size_toArray] <;> omega) ⟨.int ys.length, H, I.tok _, ⟨s.toks + 1, by rw [List.size_toArray, hlen]⟩, q⟩
theorem call_len_str : CallR X (.builtin "len") (fun xs H Q => ∃ z, xs = [.str z] ∧ z.length ≤ sizeLine ∧ Q (.int z.length) H) := by
  intro pins s σ H xs us Q I r h
  obtain ⟨z, rfl, hz, q⟩ := h
  obtain ⟨u, rfl, t, rfl⟩ := vals1 r
  have hn := line63
  exact len_str (by omega) ⟨.int z.length, H, I.tok _, ⟨_, rfl⟩, q⟩
theorem call_list_of : CallR X (.type "list") (fun xs H Q => ∃ p ys, xs = [.ref p] ∧ (SqL X.K H p ys ∨ SqT X.K H p ys) ∧ ∀ l, H l = none → Q (.ref l) (upd H l (.lst ys))) := by
  intro pins s σ H xs us Q I r h
  obtain ⟨p, ys, rfl, hq, q⟩ := h
  obtain ⟨u, rfl, rx⟩ := vals1 r
  cases rx
  have fin : ∀ (its : List Value), Vals ys its → ys.length ≤ sizeLine → ∀ (h' : Heap) (c' : Nat), (∀ b o', s.heap.get? b = some o' → h'.get? b = some o') →
      h'.get? s.heap.objs.size = some { cls := .type "list", dict := none, data := .seq its.toArray c', slots := #[] } → EP X pins σ Q (.ref s.heap.objs.size) { s with heap := h' } := fun its r' hz h' c' kp e =>
    ⟨.ref s.heap.objs.size, _, I.laid (t' := s.toks) kp (Nat.le_refl _) (show ObjOk X.prog X.w _ h' _ (.lst ys) from ⟨hz, its, c', r', e⟩), rfl, q _ (I.hok.fresh (Nat.le_refl _))⟩
  rcases hq with hq | hq
  · obtain ⟨its, r', pl, hz⟩ := I.list hq
    have hlen := r'.length
    obtain ⟨o, ho, hc, n, hd⟩ := pl.isList
    exact call_list_seq p (.inl rfl) ho hc hd (fun h' c' kp e => fin its r' hz h' c' kp e) (by simp only [List.size_toArray] <;> omega)
  · obtain ⟨its, r', pl, hz⟩ := I.tuple hq
    have hlen := r'.length
    obtain ⟨o, ho, hc, n, hd⟩ := pl
    exact call_list_seq p (.inr rfl) ho hc hd (fun h' c' kp e => fin its r' hz h' c' kp e) (by simp only [List.size_toArray] <;> omega)
theorem call_tuple_of : CallR X (.type "tuple") (fun xs H Q => ∃ p ys, xs = [.ref p] ∧ ((SqL X.K H p ys ∧ ∀ l, H l = none → Q (.ref l) (upd H l (.tup ys))) ∨ (SqT X.K H p ys ∧ Q (.ref p) H))) := by
  intro pins s σ H xs us Q I r h
  obtain ⟨p, ys, rfl, h⟩ := h
  obtain ⟨u, rfl, rx⟩ := vals1 r
  cases rx
  rcases h with ⟨hq, q⟩ | ⟨hq, q⟩
  · obtain ⟨its, r', pl, hz⟩ := I.list hq
    have hlen := r'.length
    refine call_tuple_list pl.isList (fun h' kp => ?_) (by simp only [List.size_toArray] <;> omega)
    have I1 : Inv X pins σ H { s with heap := h' } := I.kept (t' := s.toks) kp
    have I2 : Inv X pins σ (upd H h'.objs.size (.tup ys)) { s with heap := h'.push { cls := .type "tuple", data := .seq its.toArray } } :=
      I1.laid (t' := s.toks) (fun b o e => Heap.get?_push_of_some _ e) (Nat.le_refl _) (show ObjOk X.prog X.w _ _ _ (.tup ys) from ⟨hz, its, r', IsTup.new _ _⟩)
    exact ⟨.ref h'.objs.size, _, I2, rfl, q _ (I1.hok.fresh (Nat.le_refl _))⟩
  · obtain ⟨its, r', pl, hz⟩ := I.tuple hq
    exact call_tuple_same pl ⟨.ref p, H, I, rfl, q⟩
def tyV (K : PySem.W.Frag) (T : String) (x : V) (H : Hp) : Prop := match x with
  | .str _ => T = "str"
  | .int _ => T = "int"
  | .ref p => (T = "list" ∧ ∃ xs, SqL K H p xs) ∨ (T = "tuple" ∧ ∃ o, K.lookup p = some o ∧ o.cls = .type "tuple" ∧ o.dict = none) ∨
      (T = "dict" ∧ ((∃ kvs, H p = some (.dK kvs)) ∨ ∃ kvs, H p = some (.dT kvs))) ∨ (T = "set" ∧ ∃ S n, H p = some (.set S n))
  | _ => False
theorem tyV_is {pins : List (Addr × Obj)} {σ : St} {H : Hp} {s : Shared} {T : String} {x : V} {v : Value} (I : Inv X pins σ H s) (r : RelV x v) (ty : tyV X.K T x H) :
    s.TypeIs v T ∧ ∀ a, v = .ref a → ∃ ob, s.heap.get? a = some ob ∧ ob.dict = none := by
  cases x with
  | str z =>
    obtain ⟨t, rfl⟩ := r
    cases (show T = "str" from ty)
    exact ⟨typeIs_str s z t, fun _ e => nomatch e⟩
  | int i =>
    obtain ⟨t, rfl⟩ := r
    cases (show T = "int" from ty)
    exact ⟨typeIs_int s i t, fun _ e => nomatch e⟩
  | ref p =>
    cases r
    rcases ty with ⟨rfl, xs, hq⟩ | ⟨rfl, o, hk, hc, hd⟩ | ⟨rfl, hk⟩ | ⟨rfl, S, n, hk⟩
    · obtain ⟨its, _, pl, _⟩ := I.list hq
      refine ⟨pl.isList.typeIs, fun a e => ?_⟩
      cases e
      obtain ⟨o, n, e, c, hd, _⟩ := pl
      exact ⟨o, e, hd⟩
    · refine ⟨⟨o, I.kIn p o hk, hc⟩, fun a e => ?_⟩
      cases e
      exact ⟨o, I.kIn _ o hk, hd⟩
    · have z : ∃ o, s.heap.get? p = some o ∧ o.ExactDict := by
        rcases hk with ⟨kvs, hk⟩ | ⟨kvs, hk⟩
        · obtain ⟨_, _, _, _, o, _, _, e, ex, _⟩ := I.hok p _ hk
          exact ⟨o, e, ex⟩
        · obtain ⟨_, _, _, _, o, _, _, e, ex, _⟩ := I.hok p _ hk
          exact ⟨o, e, ex⟩
      obtain ⟨o, e, ex⟩ := z
      refine ⟨⟨o, e, ex.1⟩, fun a e2 => ?_⟩
      cases e2
      exact ⟨o, e, ex.2.1⟩
    · obtain ⟨o, _, _, _, e, ex, _⟩ := I.hok p _ hk
      refine ⟨⟨o, e, ex.1⟩, fun a e2 => ?_⟩
      cases e2
      exact ⟨o, e, ex.2.1⟩
  | _ => exact False.elim ty
def tBM (K : PySem.W.Frag) (T : String) (r : V → List V → Hp → VK → Prop) (to : TE) (t : TA) : TE := fun σ H Q => to σ H fun x H1 => tyV K T x H1 ∧ t σ H1 fun xs H2 => r x xs H2 Q
variable {o e : Expr} {es : List Expr} {to : TE} {t : TA} {name : Str} {apos cpos : Pos} {T id : String} {r : V → List V → Hp → VK → Prop}
theorem pe_bm (pa : PlainAttrs T) (slot : Slot T name id) (hty : typeOf (.builtin id) = pure (.type "method_descriptor")) (hm : MtR X id r) (ho : PE X o to) (ha : PA X (e :: es) t)
    (hbase : attributeBase o name X.env (eval o X.env) = eval o X.env := by rfl)
    (hfew : ((backTo cpos (starEach (e :: es) X.env)).all (fun x => !x.1) && (backToKw cpos (keywordEach [] X.env)).all (fun x => x.1.isSome)
      && decide ((e :: es).length + ([] : List Keyword).length + (if ([] : List Keyword).isEmpty then 0 else 1) < 30)) = true := by rfl)
    (hline : (apos.endLine == cpos.line) = true := by rfl) (hs : starEach (e :: es) X.env = (false, eval e X.env) :: starEach es X.env := by rfl) (hplain : (backTo cpos (starEach es X.env)).any (·.1) = false := by rfl) :
    PE X (.Call (.Attribute o name apos) (e :: es) [] cpos) (tBM X.K T r to t) := by
  intro pins s σ H Q I h
  refine wpAny_Call_method_late hbase hfew hline rfl (thn (ho pins s σ H _ I h) fun v s1 ⟨x, H1, I1, r1, ty, q1⟩ => ?_)
  obtain ⟨h1, h2⟩ := tyV_is I1 r1 ty
  refine ⟨T, id, pa, slot, hty, h1, h2, ?_⟩
  have hA := ha cpos pins s1 σ H1 _ I1 q1
  rw [hs] at hA ⊢
  refine Calls.callWith_builtin (by show (false || (backTo cpos (starEach es X.env)).any (·.1)) = false; rw [hplain] <;> rfl) (Calls.evalArgs_plain ?_)
  exact thn hA fun us s2 ⟨vs, H2, I2, r2, q2⟩ => hm pins s2 σ H2 x vs v us Q I2 r1 r2 q2
/- xs.append(e), list.index on a module's tuple .. are MtR facts of 06m -/
end
end L2
namespace L2
open PySem PySem.Spec PyProof.Rows
def MtM (X : Cx) (id : String) (r : V → List V → Hp → VK → Prop) : Prop :=
  ∀ (pins : List (Addr × Obj)) (s : Shared) (σ : St) (H : Hp) (x : V) (xs : List V) (v : Value) (us : List Value) (Q : VK), Inv X pins σ H s → RelV x v → Vals xs us → r x xs H Q →
    wpAny (model X.prog X.w) X.A (call (.builtin id) (v :: us)) (EP X pins σ Q) X.xe s
theorem Vals.one : ∀ {x : V} {us : List Value}, Vals [x] us → ∃ u, us = [u] ∧ RelV x u
  | _, _, .cons r .nil => ⟨_, rfl, r⟩
theorem Vals.eraseIdx : ∀ {xs : List V} {us : List Value} (i : Nat), Vals xs us → Vals (xs.eraseIdx i) (us.eraseIdx i)
  | _, _, _, .nil => .nil
  | _, _, 0, .cons _ t => t
  | _, _, i + 1, .cons r t => .cons r (Vals.eraseIdx i t)
theorem Vals.rep {xs : List V} {us : List Value} (h : Vals xs us) : ∀ k : Nat, Vals (List.replicate k xs).flatten (List.replicate k us).flatten
  | 0 => .nil
  | k + 1 => by
    rw [List.replicate_succ, List.replicate_succ, List.flatten_cons, List.flatten_cons]
    exact Vals.append h (Vals.rep h k)
theorem len_erase {α : Type} : ∀ (l : List α) (i : Nat), (l.eraseIdx i).length ≤ l.length
  | [], _ => Nat.le_refl _
  | _ :: _, 0 => Nat.le_succ _
  | _ :: r, i + 1 => Nat.succ_le_succ (len_erase r i)
theorem foldl_rep (its : List Value) : ∀ (k : Nat) (acc : List Value),
    List.foldl (fun x1 x2 => x1 ++ x2) acc.toArray (List.replicate k its.toArray) = (acc ++ (List.replicate k its).flatten).toArray
  | 0, acc => by simp
  | k + 1, acc => by
    have e : acc.toArray ++ its.toArray = (acc ++ its).toArray := by simp
    have e2 : (acc ++ its) ++ (List.replicate k its).flatten = acc ++ (List.replicate (k + 1) its).flatten := by
      rw [List.replicate_succ, List.flatten_cons, List.append_assoc]
    rw [← e2, ← foldl_rep its k (acc ++ its), ← e, List.replicate_succ, List.foldl_cons]
section
variable {X : Cx} {pins : List (Addr × Obj)} {σ : St} {H : Hp} {s : Shared} {l b : Addr} {xs ys zs : List V}
theorem Inv.lset {its its' : List Value} {n : Nat} {f : Array Value → Array Value} {t' : Nat} (I : Inv X pins σ H s) (hH : H l = some (.lst xs))
    (e : s.heap.get? l = some { cls := .type "list", data := .seq its.toArray n }) (hf : f its.toArray = its'.toArray) (hv : Vals ys its') (hz : ys.length ≤ sizeLine) :
    Inv X pins σ (upd H l (.lst ys)) { s with heap := s.heap.update l (Obj.mapSeq f), toks := t' } := by
  have q := PySem.IsL.update e f
  rw [hf] at q
  refine I.write (x := l) (e := l) (by rw [hH]; exact trivial) (.inl rfl) (fun b' u hb hu => (Heap.get?_update_other s.heap (Obj.mapSeq f) (Ne.symm hb)).trans hu) ⟨_, q⟩ ?_
  exact ⟨hz, its', _, hv, q⟩
theorem Inv.lnew {its : List Value} {t' : Nat} (I : Inv X pins σ H s) (hv : Vals ys its) (hz : ys.length ≤ sizeLine) :
    Inv X pins σ (upd H s.heap.objs.size (.lst ys)) { s with heap := s.heap.push { cls := .type "list", data := .seq its.toArray }, toks := t' } :=
  I.laid (fun _ _ q => Heap.get?_push_of_some _ q) (Nat.le_refl _) ⟨hz, its, 0, hv, Heap.get?_push_size _ rfl⟩
theorem Inv.fresh (I : Inv X pins σ H s) : H s.heap.objs.size = none := I.hok.fresh (Nat.le_refl _)
theorem Inv.lstM (I : Inv X pins σ H s) (hH : H l = some (.lst xs)) : xs.length ≤ sizeLine ∧ ∃ (its : List Value) (n : Nat), Vals xs its ∧ xs.length = its.length ∧ s.heap.get? l = some { cls := .type "list", data := .seq its.toArray n } := by
  obtain ⟨z, its, n, r, e⟩ := I.hok l _ hH
  exact ⟨z, its, n, r, r.length, e⟩
theorem notLongL {n : Nat} (h : n ≤ sizeLine) : Builtin.List.listTooLong n = false := by
  unfold Builtin.List.listTooLong
  exact decide_eq_false (by omega)
end
section
variable {X : Cx}
def rAppend : V → List V → Hp → VK → Prop := fun x vs H Q => ∃ l xs y, x = .ref l ∧ vs = [y] ∧ H l = some (.lst xs) ∧ xs.length < sizeLine ∧ Q .non (upd H l (.lst (xs ++ [y])))
theorem mt_append : MtM X "list.append" rAppend := by
  intro pins s σ H x vs v us Q I rx rv h
  obtain ⟨l, xs, y, rfl, rfl, hH, hz, q⟩ := h
  cases rx
  obtain ⟨u, rfl, ru⟩ := rv.one
  obtain ⟨z, its, n, r, hl, e⟩ := I.lstM hH
  refine call_meets F.slot_list_append ⟨_, e, rfl⟩ F.entry_list_append (F.args_list_append_2 _ _) (PySem.list_append l its.toArray n u (by rw [List.size_toArray]; omega)) ⟨e, ?_⟩
  refine ⟨.non, _, I.lset (its' := its ++ [u]) hH e (by simp) (r.append (.cons ru .nil)) ?_, rfl, q⟩
  rw [List.length_append, List.length_singleton]
  omega
def rExtend : V → List V → Hp → VK → Prop := fun x vs H Q => ∃ l b xs zs, x = .ref l ∧ vs = [.ref b] ∧ H l = some (.lst xs) ∧ H b = some (.lst zs) ∧ xs.length + zs.length ≤ sizeLine ∧ Q .non (upd H l (.lst (xs ++ zs)))
theorem mt_extend : MtM X "list.extend" rExtend := by
  intro pins s σ H x vs v us Q I rx rv h
  obtain ⟨l, b, xs, zs, rfl, rfl, hH, hB, hz, q⟩ := h
  cases rx
  obtain ⟨u, rfl, ru⟩ := rv.one
  cases ru
  obtain ⟨z, its, n, r, hl, e⟩ := I.lstM hH
  obtain ⟨z2, its2, n2, r2, hl2, e2⟩ := I.lstM hB
  have hsz : its.toArray.size + its2.toArray.size ≤ sizeLine := by rw [List.size_toArray, List.size_toArray]; omega
  have hlong : ¬ (!its.toArray.isEmpty && Builtin.List.listTooLong (its.toArray.size + its2.toArray.size)) = true := by
    rw [notLongL hsz, Bool.and_false]
    exact Bool.false_ne_true
  refine call_meets F.slot_list_extend ⟨_, e, rfl⟩ F.entry_list_extend (F.args_list_extend_2 _ _)
    (AutoSeq1.list_extend_list_list_0 l its.toArray n b its2.toArray n2 hlong (by rw [List.size_toArray]; omega) (by omega)) ⟨e, e2, ?_⟩
  refine ⟨.non, _, I.lset (its' := its ++ its2) hH e (by simp) (r.append r2) ?_, rfl, q⟩
  rw [List.length_append]
  omega
def rPopAt : V → List V → Hp → VK → Prop := fun x vs H Q => ∃ l xs i k y, x = .ref l ∧ vs = [.int i] ∧ H l = some (.lst xs) ∧ -(2 ^ 63) ≤ i ∧ i < 2 ^ 63 ∧ seqIndex? i xs.length = some k ∧ xs[k]? = some y ∧ Q y (upd H l (.lst (xs.eraseIdx k)))
theorem mt_popAt : MtM X "list.pop" rPopAt := by
  intro pins s σ H x vs v us Q I rx rv h
  obtain ⟨l, xs, i, k, y, rfl, rfl, hH, h1, h2, hk, hy, q⟩ := h
  cases rx
  obtain ⟨u, rfl, ru⟩ := rv.one
  obtain ⟨t, rfl⟩ := ru
  obtain ⟨z, its, n, r, hl, e⟩ := I.lstM hH
  obtain ⟨w, hw, rw'⟩ := r.get hy
  refine call_meets F.slot_list_pop ⟨_, e, rfl⟩ F.entry_list_pop (F.args_list_pop_2 _ _)
    (MeetsSeq.list_pop_at l its.toArray n i t k w (fitsIndex_both h1 h2) (by rw [List.size_toArray, ← hl]; exact hk) (by rw [← Array.getElem?_toList]; exact hw) (by rw [List.size_toArray]; omega)) ⟨e, ?_⟩
  refine ⟨y, _, I.lset (its' := its.eraseIdx k) hH e ?_ (r.eraseIdx k) ?_, rw', q⟩
  · show its.toArray.eraseIdxIfInBounds k = (its.eraseIdx k).toArray
    rw [List.eraseIdxIfInBounds_toArray]
  · have := len_erase xs k
    omega
def rRep : R2 := fun x y H Q => ∃ l k xs, x = .ref l ∧ y = .int k ∧ H l = some (.lst xs) ∧ -(2 ^ 63) ≤ k ∧ k < 2 ^ 63 ∧ xs.length * k.toNat ≤ sizeLine ∧
  ∀ p, H p = none → Q (.ref p) (upd H p (.lst (List.replicate k.toNat xs).flatten))
theorem len_rep {α : Type} (xs : List α) (k : Nat) : (List.replicate k xs).flatten.length = k * xs.length := by
  induction k with
  | zero => simp
  | succ k ih => rw [List.replicate_succ, List.flatten_cons, List.length_append, ih, Nat.succ_mul, Nat.add_comm]
theorem op_rep : OpR X (binaryOp .Mult) rRep := by
  intro pins s σ H x y v u Q I rx ry h
  obtain ⟨l, k, xs, rfl, rfl, hH, h1, h2, hz, q⟩ := h
  cases rx
  obtain ⟨t, rfl⟩ := ry
  obtain ⟨z, its, n, r, hl, e⟩ := I.lstM hH
  have hlen : its.toArray.size * k.toNat ≤ sizeLine := by rw [List.size_toArray, ← hl]; exact hz
  have hcap : ¬ its.toArray.size * k.toNat > (2 ^ 63 - 1) / 8 := by
    have : (sizeLine : Nat) ≤ (2 ^ 63 - 1) / 8 := by decide
    omega
  have hfit : ¬ (!Builtin.List.listFitsIndex k) = true := by
    rw [fitsIndex_both h1 h2]
    exact Bool.false_ne_true
  have hlong : ¬ Builtin.List.listTooLong (its.toArray.size * k.toNat) = true := by
    rw [notLongL hlen]
    exact Bool.false_ne_true
  have hnew : List.foldl (fun x1 x2 => x1 ++ x2) #[] (List.replicate (if its.toArray.isEmpty = true then 0 else k.toNat) its.toArray) = (List.replicate k.toNat its).flatten.toArray := by
    have f0 : ∀ m : Nat, List.foldl (fun x1 x2 => x1 ++ x2) #[] (List.replicate m its.toArray) = (List.replicate m its).flatten.toArray := fun m => by
      have := foldl_rep its m []
      rw [List.nil_append] at this
      exact this
    rw [f0]
    cases its with
    | nil => simp
    | cons a r' => rw [if_neg (by simp)]
  refine wpAny_binaryOp_repeat_ref (T := "list") (U := "int") (by decide) ⟨_, e, rfl⟩ (fun s' => typeIs_int s' k t) noFill_list_mul F.fills_int_mul F.slot_int_rmul repeat_list F.slot_int_index.lookup
    (call_meets F.slot_int_rmul (typeIs_int s k t) F.entry_int_rmul (F.args_int_rmul_2 _ _) (int___rmul___int_list k t l its.toArray n)
      ⟨e, rfl, ⟨_, e, rfl⟩, call_meets F.slot_list_mul ⟨_, e, rfl⟩ F.entry_list_mul (F.args_list_mul_2 _ _) (AutoListH.list___mul___list_int_3 l its.toArray n k t hfit hcap hlong) ⟨e, ?_⟩⟩)
  rw [hnew]
  exact ⟨.ref _, _, I.lnew (t' := s.toks) (r.rep k.toNat) (by rw [len_rep, Nat.mul_comm]; exact hz), rfl, q _ I.fresh⟩
end
section
variable {prog : Program} {w : World} {A : Around} {E : Value → Shared → Prop} {s : Shared}
end
section
variable {X : Cx}
end
end L2
namespace Att
open PySem PySem.W PySem.Calls PyProof.Rows
theorem ints_of_wellAll {P : Params} {h : Heap} : ∀ (ns : List Int) (vs : List Value), WellAll P h vs (ns.map WData.int) → IntsAre vs ns := by
  intro ns
  induction ns with
  | nil =>
    intro vs w
    rw [List.map_nil] at w
    cases w
    exact .nil
  | cons n ns ih =>
    intro vs w
    rw [List.map_cons] at w
    cases w with
    | cons a b =>
      cases a
      exact .cons _ _ (ih _ b)
theorem script_of {l : OpenLaw} {n : Nat} (hn : l.most = some n) {P : Params} {h : Heap} {args : List WData} {vals : List Value}
    (hpre : l.row.toRowW.claim.pre args = true) (hwl : WellAll P h vals args) :
    ∃ a vs ns, vals = [Value.ref a] ∧ args = [WData.list (ns.map WData.int)] ∧ h.get? a = some { cls := .type "list", data := .seq vs.toArray } ∧ IntsAre vs ns ∧ ns.length ≤ n := by
  have hsh : WShape.hasAll [] args [.list .int] = true := (pre_splitW hpre).1
  have hc : l.pre.holds [] { args := args } = true := (pre_splitW hpre).2
  obtain ⟨d, r, rfl, h1, h2⟩ := hasAllW_cons hsh
  obtain rfl := hasAllW_nil h2
  obtain ⟨xs, rfl, h3⟩ := hasW_list h1
  obtain ⟨ns, rfl⟩ := items_int h3
  have hlen : ns.length ≤ n := by
    unfold OpenLaw.pre at hc
    have h4 : (WTm.not (.lt (.lit (.int (n : Int))) (.len (.arg 0)))).holds [] { args := [.list (ns.map .int)] } = true := by
      have h4 := (holds_andW hc).1
      rw [hn] at h4
      exact h4
    have h5 := condW_of h4 (w_not (w_lt w_lit (w_len_list (w_arg rfl))))
    rw [List.length_map] at h5
    refine Nat.le_of_not_lt fun q => ?_
    have q' : (n : Int) < ((ns.length : Nat) : Int) := by omega
    first
      | (rw [decide_eq_true q'] at h5; exact absurd h5 (by decide))
      | (simp at h5; omega)
  cases hwl with
  | cons w1 w2 =>
    cases w2
    cases w1 with
    | list ho hall => exact ⟨_, _, ns, rfl, rfl, ho, ints_of_wellAll ns _ hall, hlen⟩
theorem post_true (l : OpenLaw) (args : List WData) : l.row.toRowW.claim.post args (.bool true) args = true :=
  postW_of (r := l.row.toRowW) (X := (true == true))
    (show WShape.has [] (.bool true) .bool = true by first | rfl | decide | simp [WShape.has, WShape.arms, WShape.armsAll])
    (show (WTm.eq .res (.lit (.bool true))).value [] { args := args, res := some (.bool true), after := args } = some (.bool (true == true)) from w_eq_bool (w_res rfl) w_lit) rfl
theorem attach_call {l : OpenLaw} {n : Nat} {q : Program} {loose : List Str} {XP : (Str → Option Value) → Heap → Prop} {YP : World → Heap → Prop} {d : DefRec}
    (hn : l.most = some n) (hdf : d.params.defaults = [])
    (call : ∀ (w : World) (s₀ s₁ : Shared) (mg mb : Str → Option Value) (fa : Addr) (o : Obj) (pm cd doc : Value) (a : Addr) (vs : List Value) (ns : List Int),
      Ground q loose [] XP w s₀ mg mb s₁.heap → YP w s₁.heap →
      s₁.heap.get? fa = some o → o.data = .func (docDef d.name d.params d.body d.scope pm cd doc) → s₁.heap.CodeRec cd d.name → mg d.name = some (.ref fa) →
      s₁.heap.get? a = some { cls := .type "list", data := .seq vs.toArray } → IntsAre vs ns → ns.length ≤ n → s₁.gens = #[] →
      codeAny (model l.prog w) callerA (.call (.ref fa) ⟨[.ref a], []⟩) (fun r s' => r = .ok (.ret (.bool true)) ∧ OldK s₁.heap s'.heap ∧ s'.os = s₁.os ∧ AllBare s'.gens) s₁) :
    WalkO q loose XP YP l.row.toRowW d [] (fun f vs => PySem.call f vs) := by
  intro w s₀ s₁ mg mb G Y fa o pm cd doc dV kV ho hd hcd hD hmg hg args vals as hpre hlay hrd hwl hlo
  obtain rfl : dV = .none := Dflts.none hD hdf
  obtain rfl : kV = .none := Dflts.noKw hD
  obtain ⟨a, vs, ns, rfl, rfl, hobj, hints, hlen⟩ := script_of hn hpre hwl
  refine enter_call (codeAny_mono (call w s₀ s₁ mg mb fa o pm cd doc a vs ns G Y ho (fd_plain hd) hcd hmg hobj hints hlen hg) fun r s' hq => ?_)
  obtain ⟨rfl, h2, h3, h4⟩ := hq
  exact ⟨.inl ⟨.bool true, .bool true, [], rfl, fun _ => rfl, .bool true, post_true l _, fun _ => ⟨List.Pairwise.nil, fun _ hm => (nomatch hm)⟩⟩, h2, h3, h4⟩
section
variable {prog : Program} {w : World} {A : Around} {E : Value → Shared → Prop} {s : Shared} {K : Frag}
end
end Att
namespace L2
open PySem PySem.Spec PyProof.Rows
theorem vals_ints : ∀ {vs : List Value} {ns : List Int}, IntsAre vs ns → Vals (ns.map V.int) vs
  | _, _, .nil => .nil
  | _, _, .cons n t h => .cons ⟨t, rfl⟩ (vals_ints h)
def Only (H : Hp) : Prop := ∀ b, H b = none ∨ ∃ o xs, H b = some (.frz o (.lst xs))
theorem law_call {P : Program} {w : World} {K : PySem.W.Frag} {mg mb : Str → Option Value} {CX : CXT} {k : Nat} {fa a : Addr} {fd : FuncData} {x : Str} {sp : Sp} {s₁ : Shared} {vs : List Value} {ns : List Int}
    (KX : K.In s₁.heap) (hns : s₁.heap.Ns mainGlobals mg) (hb : s₁.heap.Ns builtinsNs mb) (hbb : ∀ x : Str, x ≠ "__name__" → mb x = bootBuiltins x) (hlim : s₁.heap.NoLimit) (hg : s₁.gens = #[])
    (ha : s₁.heap.get? a = some { cls := .type "list", data := .seq vs.toArray }) (hi : IntsAre vs ns) (hl : ns.length ≤ sizeLine) (hr : Room k callerA)
    (F : ∀ base : Heap, K.In base → base.Ns mainGlobals mg → FnOk P w K mg base CX k fa fd [x] sp) (hbind : ∀ (s : Shared) (u : Value), BindsTo s fd ⟨[u], []⟩ [(x, u)])
    (hsp : ∀ H : Hp, Only H → SqL K H a (ns.map V.int) → sp [.ref a] H (fun v _ => v = .bl true) fun _ _ _ => False)
    (hCX : ∀ H e s', CX [] H s₁ (fun _ _ _ => False) e s' → False) :
    codeAny (model P w) callerA (.call (.ref fa) ⟨[.ref a], []⟩) (fun r s' => r = .ok (.ret (.bool true)) ∧ OldK s₁.heap s'.heap ∧ s'.os = s₁.os ∧ AllBare s'.gens) s₁ := by
  have rv := vals_ints hi
  have lenV := hi.length
  have core : ∀ H : Hp, Only H → SqL K H a (ns.map V.int) → HOk P w H s₁.heap → (∀ b, H b ≠ none → b = a) → (H a ≠ none → K.lookup a = none) →
      codeAny (model P w) callerA (.call (.ref fa) ⟨[.ref a], []⟩) (fun r s' => r = .ok (.ret (.bool true)) ∧ OldK s₁.heap s'.heap ∧ s'.os = s₁.os ∧ AllBare s'.gens) s₁ := by
    intro H hO hS hok hA hK
    have base_of : ∀ {b : Addr} {o : Obj}, s₁.heap.get? b = some o → H b = none → (hidT s₁.heap H).get? b = some o := fun e n => hidT_get e n
    have noA : ∀ {b : Addr} {o : Obj} {es : Array DictEntry} {ep : Nat}, s₁.heap.get? b = some o → o.data = .dict es ep → H b = none := fun {b o es ep} e d => by
      cases q : H b with
      | none => rfl
      | some u =>
        have e' : b = a := hA b (by rw [q]; simp)
        subst e'
        rw [ha] at e; cases e
        have d' : Data.seq vs.toArray _ = Data.dict es ep := d
        cases d'
    have nsK : ∀ {b : Addr} {m : Str → Option Value}, s₁.heap.Ns b m → (hidT s₁.heap H).Ns b m := fun {b m} ⟨o, es, ep, e, d, r⟩ => ⟨o, es, ep, base_of e (noA e d), d, r⟩
    have hKb : K.In (hidT s₁.heap H) := fun b o e => base_of (KX b o e) (by
      cases q : H b with
      | none => rfl
      | some u =>
        have e' : b = a := hA b (by rw [q]; simp)
        subst e'
        rw [hK (by rw [q]; simp)] at e; cases e)
    have hM : Mod K mg (hidT s₁.heap H) := ⟨hKb, nsK hns, ⟨mb, nsK hb, hbb⟩, let ⟨mc, h1, h2⟩ := hlim; ⟨mc, nsK h1, h2⟩⟩
    have e0 : Env0 P w K mg (hidT s₁.heap H) callerA [] s₁ H := ⟨rfl, hM, fun b o e => of_hidT e, Nat.le_of_eq (hidT_size _ _), trivial, fun b hb => absurd (show b ∈ ([] : List Addr) from hb) (by simp), hok, .of_eq hg⟩
    refine codeAny_mono ((F _ hKb (nsK hns)).run callerA [] s₁ H ⟨[.ref a], []⟩ [.ref a] [.ref a] _ _ hr e0 (hbind s₁ (.ref a)) (.cons rfl .nil) (hsp H hO hS)) fun r s' h => ?_
    cases r with
    | error e => exact (hCX H e s' h).elim
    | ok fl =>
      cases fl with
      | next => exact False.elim h
      | brk => exact False.elim h
      | cont => exact False.elim h
      | ret u =>
        obtain ⟨v, H', os, bare, un, hok', r', q⟩ := h
        have q' : v = .bl true := q
        subst q'
        obtain rfl : u = Value.bool true := r'
        refine ⟨rfl, OldK.of_keep fun b o e => ?_, os, bare⟩
        cases q : H b with
        | none => exact un.keep b o e q (by intro z; exact absurd (show b ∈ ([] : List Addr) from z) (by simp)) (by simp)
        | some u =>
          rcases hO b with z | ⟨ob, xs, z⟩
          · rw [q] at z; cases z
          · have z2 := un.frzs b ob _ z
            obtain ⟨e1, _⟩ := hok b _ z
            obtain ⟨e2, _⟩ := hok' b _ z2
            rw [e] at e1; cases e1
            exact e2
  cases hk : K.lookup a with
  | some o =>
    have e := KX a o hk
    rw [ha] at e
    cases e
    refine core (fun _ => none) (fun _ => .inl rfl) (.inr ⟨_, vs.toArray, _, hk, rfl, rfl, rfl, by rw [List.size_toArray, lenV]; exact hl, by simpa using rv⟩) (fun b u z => by have z' : (none : Option HO) = some u := z; cases z') (fun b z => absurd rfl z) fun z => absurd rfl z
  | none =>
    refine core (fun b => if b = a then some (.frz { cls := .type "list", data := .seq vs.toArray } (.lst (ns.map V.int))) else none) (fun b => ?_) (.inl (.inr ⟨{ cls := .type "list", data := .seq vs.toArray }, if_pos rfl⟩)) (fun b u z => ?_) (fun b z => ?_) fun _ => hk
    · by_cases hb : b = a
      · exact .inr ⟨_, _, if_pos hb⟩
      · exact .inl (if_neg hb)
    · by_cases hb : b = a
      · have z' := (if_pos hb).symm.trans z
        cases z'
        subst hb
        exact ⟨ha, by rw [List.length_map]; exact hl, vs, _, rv, ha⟩
      · have z' := (if_neg hb).symm.trans z
        cases z'
    · by_cases hb : b = a
      · exact hb
      · exact absurd (if_neg hb) z
end L2
namespace L2
open PySem PySem.Spec PyProof.Rows
theorem walk_of {l : PySem.W.OpenLaw} {n k : Nat} {q : Program} {loose : List Str} {XP : (Str → Option Value) → Heap → Prop} {YP : World → Heap → Prop} {d : DefRec} {K : Params → PySem.W.Frag} {CX : World → CXT} {sp : World → Sp} {x : Str}
    (hn : l.most = some n) (hn2 : n ≤ sizeLine) (hdf : d.params.defaults = []) (hr : Room k callerA)
    (hY : ∀ (w : World) (h : Heap), YP w h → (K w.params).In h)
    (F : ∀ (w : World) (mg : Str → Option Value) (fa : Addr) (h : Heap), (K w.params).In h → h.Ns mainGlobals mg → mg d.name = some (.ref fa) →
      ∃ fd : FuncData, (∀ (s : Shared) (u : Value), BindsTo s fd ⟨[u], []⟩ [(x, u)]) ∧
        ∀ base : Heap, (K w.params).In base → base.Ns mainGlobals mg → FnOk l.prog w (K w.params) mg base (CX w) k fa fd [x] (sp w))
    (hsp : ∀ (w : World) (H : Hp) (a : Addr) (ns : List Int), ns.length ≤ n → Only H → SqL (K w.params) H a (ns.map V.int) → sp w [.ref a] H (fun v _ => v = .bl true) fun _ _ _ => False)
    (hCX : ∀ (w : World) (H : Hp) (s : Shared) (e : Value) (s' : Shared), CX w [] H s (fun _ _ _ => False) e s' → False) :
    PySem.W.WalkO q loose XP YP l.row.toRowW d [] (fun f vs => PySem.call f vs) := by
  refine Att.attach_call hn hdf fun w s₀ s₁ mg mb fa o pm cd doc a vs ns G Y ho hd hcd hmg hobj hints hlen hg => ?_
  have KX := hY w _ Y
  obtain ⟨fd, hb, hF⟩ := F w mg fa _ KX G.T.g hmg
  exact law_call KX G.T.g G.T.b G.T.builtins G.T.nolimit hg hobj hints (Nat.le_trans hlen hn2) hr hF hb (fun H hO hS => hsp w H a ns hlen hO hS) fun H e s' => hCX w H s₁ e s'
end L2
/- THE LAST THEOREM (shape; LID, My.* are yours):
   My.Adr: a structure of the addresses that your layer names (classes, functions); My.Txt K t: a structure (Prop) of the equations over K;
   My.txt_mk : {K} {implicit addresses ..} (e1 : nsIn K mainGlobals "law" = some (some (.ref f))) (e2 : K.lookup f = some ⟨oc, od, .func (fnOf "law" "law" params body scope dV kV doc pm an cdv ct), sl⟩) (e3 : codeIn K cdv "law" = true) .. : ∃ t, My.Txt K t
set_option maxRecDepth 100000 in
set_option maxHeartbeats 0 in
theorem PySem.Challenge.cw_LID_holds : PySem.Challenge.rw_LID.Holds := by
  w_on; o_law; k_head; (case hw => w_witness2)
  k_fill
  refine L2.walk_of (l := PySem.Challenge.rw_LID) (n := 63) (k := 40) (x := "script") (CX := fun w => ..) (sp := fun _ => My.sp_law) rfl (by decide) rfl ⟨rfl, by decide, by decide⟩ (fun w h Y => PySem.W.kIn_of Y) ?F ?S ?C
  case F =>
    intro w mg fa h KX G hmg
    have T : ∃ t, My.Txt (L2.KOf KX) t := by
      dsimp only [L2.KOf]                          -- K must stand as «<heap const> w.params» for k_is
      refine' My.txt_mk ?e1 ?e2 ?e3 ..
      (case e1 => PySem.W.k_is)                    -- in the order: a name -> its address -> its object -> its parts
      (case e2 => PySem.W.k_is)
      ..
    obtain ⟨t, T⟩ := T
    have e0 := hmg.symm.trans (PySem.W.mg_of KX G T.law)
    cases e0                                       -- fa is the law's own address
    exact ⟨_, fun s u => .of_eq rfl, fun base kb nb => My.law_fn T kb nb⟩     -- if «.of_eq rfl» comes too early: refine' ⟨_, ?b, fun base kb nb => My.law_fn T kb nb⟩; exact fun s u => .of_eq rfl
  case S => exact fun w H a ns hl hO hS => ..
  case C => exact ..
(the tactic k_is has no namespace: write k_is) -/
namespace L2
open PySem PySem.Spec PyProof.Rows
def inClass (s : Stmt) (j : Nat) : Stmt := match s with
  | .ClassDef _ _ _ body _ _ _ _ _ _ _ => body.getD j (.Pass ⟨0, 0, 0, 0⟩)
  | _ => .Pass ⟨0, 0, 0, 0⟩
def defArgs (s : Stmt) : Arguments := match s with
  | .FunctionDef _ a _ _ _ _ _ _ _ _ => a
  | _ => { posonlyargs := [], args := [], vararg := none, kwonlyargs := [], kw_defaults := [], kwarg := none, defaults := [] }
def defBody (s : Stmt) : List Stmt := match s with
  | .FunctionDef _ _ b _ _ _ _ _ _ _ => b
  | _ => []
def defScope (s : Stmt) : Scope := match s with
  | .FunctionDef _ _ _ _ _ _ sc _ _ _ => sc
  | _ => { kind := .function, names := [], isGenerator := false, isCoroutine := false }
abbrev CX0 : CXT := fun _ _ _ _ _ _ => False
abbrev E0 : XK := fun _ _ _ => False
theorem pass0 {X : Cx} : Passes CX0 X E0 := fun _ _ _ _ _ _ _ h => h.elim
structure Fun (K : PySem.W.Frag) (x qual : Str) (st : Stmt) (f : Addr) (fd : FuncData) : Prop where
  ex : ∃ (oc : Value) (od : Option Addr) (kV doc pm : Value) (an : Option Addr) (cdv ct : Value) (osl : Array (Option Value)),
    fd = PySem.W.fnOf x qual (defArgs st) (defBody st) (defScope st) .none kV doc pm an cdv ct ∧ K.lookup f = some ⟨oc, od, .func fd, osl⟩ ∧ PySem.W.codeIn K cdv qual = true
  kp : PySem.W.keepIn K (.ref f) = true
section
variable {P : Program} {w : World} {K : PySem.W.Frag} {mg : Str → Option Value} {base : Heap}
theorem Fun.ok {x qual : Str} {st : Stmt} {f : Addr} {fd : FuncData} {N ps : List Str} {k : Nat} {sp : Sp} (F : Fun K x qual st f fd) (S : FnScope N ps (defScope st)) (len : ∀ vs H Q E, sp vs H Q E → vs.length = ps.length)
    (hbody : ∀ (cdv : Value) (A : Around) (outer : List Env) (s : Shared) (H : Hp) (vs : List V) (Q : VK) (E : XK), Room k (A.deeper (envOfC qual (defScope st) s.heap.objs.size f cdv)) → sp vs H Q E →
      ∃ t, PSs (cxOf CX0 P w K mg base N qual (defScope st) f cdv A outer s H E).nox (defBody st) t ∧ t { nx := fun _ H' => Q .non H', rt := Q } (start N vs) H) : FnOk P w K mg base CX0 (k + 1) f fd ps sp := by
  obtain ⟨oc, od, kV, doc, pm, an, cdv, ct, osl, rfl, lk, hcd⟩ := F.ex
  refine fn_of lk hcd S len fun A outer s H vs Q E hr hsp => ?_
  obtain ⟨t, h, q⟩ := hbody cdv A outer s H vs Q E hr hsp
  exact ⟨t, h.nox, q⟩
theorem Fun.binds {x qual : Str} {st : Stmt} {f : Addr} {fd : FuncData} {ps : List Str} (F : Fun K x qual st f fd)
    (h : ∀ (kV doc pm : Value) (an : Option Addr) (cdv ct : Value) (us : List Value), us.length = ps.length → bindArgs (PySem.W.fnOf x qual (defArgs st) (defBody st) (defScope st) .none kV doc pm an cdv ct) ⟨us, []⟩ = pure (ps.zip us)) : Binds K fd ps [] := by
  obtain ⟨oc, od, kV, doc, pm, an, cdv, ct, osl, rfl, lk, hcd⟩ := F.ex
  exact .all (h kV doc pm an cdv ct)
theorem fun_mk {x qual : Str} {st : Stmt} {f : Addr} {oc : Value} {od an : Option Addr} {osl : Array (Option Value)} {kV doc pm cdv ct : Value} (l : K.lookup f = some ⟨oc, od, .func (PySem.W.fnOf x qual (defArgs st) (defBody st) (defScope st) .none kV doc pm an cdv ct), osl⟩)
    (c : PySem.W.codeIn K cdv qual = true) (k : PySem.W.keepIn K (.ref f) = true) : Fun K x qual st f (PySem.W.fnOf x qual (defArgs st) (defBody st) (defScope st) .none kV doc pm an cdv ct) := ⟨⟨oc, od, kV, doc, pm, an, cdv, ct, osl, rfl, l, c⟩, k⟩
end
section
variable {X : Cx}
end
theorem iteF {A B : Prop} (h : B) : if false = true then A else B := by
  rw [if_neg Bool.false_ne_true]
  exact h
theorem iteT {A B : Prop} (h : A) : if true = true then A else B := by
  rw [if_pos rfl]
  exact h
theorem ite2 {c A B : Prop} [Decidable c] (h1 : c → A) (h2 : ¬ c → B) : if c then A else B := by
  by_cases h : c
  · rw [if_pos h]
    exact h1 h
  · rw [if_neg h]
    exact h2 h
theorem iteNS {c A B : Prop} [Decidable c] (hc : c) (h : B) : if (!decide c) = true then A else B := by
  rw [decide_eq_true hc]
  exact iteF h
def Same (H H' : Hp) : Prop := ∀ b o, H b = some o → H' b = some o
theorem Same.refl (H : Hp) : Same H H := fun _ _ h => h
theorem Same.trans {H H1 H2 : Hp} (a : Same H H1) (b : Same H1 H2) : Same H H2 := fun c o h => b c o (a c o h)
theorem Same.seq {K : PySem.W.Frag} {H H' : Hp} {a : Addr} {xs : List V} (e : Same H H') (h : SqL K H a xs) : SqL K H' a xs := by
  rcases h with (h | ⟨o, h⟩) | h
  · exact .inl (.inl (e _ _ h))
  · exact .inl (.inr ⟨o, e _ _ h⟩)
  · exact .inr h
end L2
namespace L3
open PySem PySem.Spec PyProof.Rows L2
def blk (X : Cx) (N : List Str) (scope : Scope) (cl : List (Str × Addr)) (C : Addr) (s : Shared) (H : Hp) (fp : List Addr) : Cx :=
  { X with N := N, s₀ := s, H₀ := H, env := compEnvC scope cl C X.env, outer := X.stack, ex := fp, fn := fun _ => false, pn := [], xe := fun _ _ => False }
structure BScope (X : Cx) (scope : Scope) (fr : List Str) (js : List Nat) : Prop where
  kind : scope.kind = .function
  names : ∀ x ∈ scope.names, x.2 = .local → scope.names.lookup x.1 = some .local
  nocell : ∀ x ∈ scope.names, x.2 ≠ .cell
  free : ∀ x ∈ scope.names, x.2 = .free → x.1 ∈ fr
  len : js.length = fr.length
  at_ : ∀ (i j : Nat) (y : Str), js[i]? = some j → fr[i]? = some y → X.N[j]? = some y ∧ X.env.kindOf y = some .cell ∧ (relabel scope X.env).names.lookup y = some .cell
theorem mem_lookup_isSome {α : Type} {y : Str} : ∀ {l : List (Str × α)}, y ∈ l.map (·.1) → ∃ c, l.lookup y = some c
  | [], h => by simp at h
  | (n, a) :: r, h => by
    cases e : y == n with
    | true => exact ⟨a, by simp [List.lookup_cons, e]⟩
    | false =>
      have hr : y ∈ r.map (·.1) := by
        rcases List.mem_cons.mp h with z | z
        · exact absurd z (by simpa using e)
        · exact z
      obtain ⟨c, hc⟩ := mem_lookup_isSome hr
      exact ⟨c, by simp [List.lookup_cons, e, hc]⟩
def σ0 (k : Nat) (js : List Nat) (σ : L2.St) : L2.St := List.replicate k none ++ js.map fun j => (σ[j]?).join
def CompG (k : Nat) (js : List Nat) (g : TG) (te : TE) (σ : L2.St) (Q : VK) (J : It) (H1 : Hp) : Prop := ∃ W : Nat → Nat → List V → L2.St → Hp → Prop, (∃ m, W 0 m [] (σ0 k js σ) H1) ∧ ∀ i m ys τ H, W i m ys τ H →
  (J.stop i H ∧ ∀ p, H p = none → Q (.ref p) (upd H p (.lst ys))) ∨ (J.go i H ∧ ys.length < sizeLine ∧ ∀ x H', J.yld i H x H' → g x τ H' fun τ2 H2 => ∃ N : V → Hp → Prop, (∀ v H3, N v H3 → ∃ m', m' < m ∧ W (i + 1) m' (ys ++ [v]) τ2 H3) ∧ te τ2 H2 N)
def tComp (k : Nat) (js : List Nat) (wi : TI) (g : TG) (te : TE) : TE := fun σ H Q => wi σ H (CompG k js g te σ Q)
section
variable {prog : Program} {w : World} {A : Around} {R : Result → Shared → Prop} {s : Shared}
theorem compLoop_any {elt target iter : Expr} {scope : Scope} {pos : Pos} {it acc : Value} {env : Env} (I : Nat → Shared → Prop)
    (turn : ∀ n s, I n s → wpAny (model prog w) A (pyNext it) (fun r s₁ => match r with
      | none => R (.ok .next) s₁
      | some v => wpAny (model prog w) A (letOwnedTupleGo target it v) (fun _ s₁' => wpAny (model prog w) A (assign target env v) (fun _ s₂ => wpAny (model prog w) A (eval elt env) (fun x s₃ =>
          wpAny (model prog w) A (call (.builtin "list.append") [acc, x]) (fun _ s₄ => ∃ m, m < n ∧ I m s₄) (fun _ _ => False) s₃)
          (fun _ _ => False) s₂) (fun _ _ => False) s₁') (fun _ _ => False) s₁) (fun _ _ => False) s)
    (n : Nat) (h : I n s) :
    codeAny (model prog w) A (.compLoop (.ListComp elt [⟨target, iter, [], 0⟩] scope pos) 0 it acc env) R s := by
  refine codeAny_loop rfl I (fun n s hI => ?_) n h
  show wpAny _ _ ((compTurn (.ListComp elt [⟨target, iter, [], 0⟩] scope pos) 0 it acc env).onRaise (fun x => do noteFrame x env; theTreesLotGoes x)) _ _ s
  refine wpAny_noted ?_
  rw [compTurn_list1]
  refine wpAny_bind (wpAny_standAt (wpAny_bind (wpAny_mono (turn n s hI) (fun r s₁ h₁ => ?_) fun _ _ h' => h'.elim)))
  cases r with
  | none => exact wpAny_pure h₁
  | some v =>
    refine wpAny_bind (wpAny_mono h₁ (fun _ s₁' h₁' => ?_) fun _ _ h' => h'.elim)
    exact wpAny_bind (wpAny_mono h₁' (fun _ s₂ h₂ => wpAny_bind (wpAny_bind (wpAny_mono h₂ (fun x s₃ h₃ => wpAny_bind (wpAny_mono h₃
      (fun _ s₄ h₄ => wpAny_pure (wpAny_pure ⟨rfl, h₄⟩)) fun _ _ h' => h'.elim)) fun _ _ h' => h'.elim))) fun _ _ h' => h'.elim)
end
variable {X : Cx}
structure Away (X : Cx) (pins : List (Addr × Obj)) (H : Hp) (C : Addr) : Prop where
  free : H C = none
  loc : C ≠ X.env.locals
  new : X.s₀.heap.objs.size ≤ C
  cell : ∀ x c, X.env.cells.lookup x = some c → c ≠ C
  pin : ∀ p ∈ X.pn ++ pins, p.1 ≠ C
theorem comp_run {elt tg iter : Expr} {scope : Scope} {cl : List (Str × Addr)} {pos fpos : Pos} {fr own : List Str} {js : List Nat} {wi : TI} {g : TG} {te : TE} {use : Option (Value → Sem Unit)} {Post : Value → Shared → Prop}
    {pins : List (Addr × Obj)} {s : Shared} {σ : L2.St} {H : Hp} {Q : VK}
    (hc : X.calm = true) (hi : PI X tg iter wi) (hclos : closureFor scope X.env = pure cl) (hcl : ∀ y c, cl.lookup y = some c → X.env.cells.lookup y = some c) (hfr : cl.map (·.1) = fr)
    (S : BScope X scope fr js)
    (hg : ∀ C s H fp, PG (blk X (own ++ fr) scope cl C s H fp) tg g) (he : ∀ C s H fp, PE (blk X (own ++ fr) scope cl C s H fp) elt te)
    (hs : ∀ x, foldedSetIterable iter X.env x = pure x)
    (I : L2.Inv X pins σ H s) (h : tComp own.length js wi g te σ H Q)
    (hfin : ∀ (acc C : Addr) (s5 : Shared) (H' : Hp) (m : Str → Option Value), L2.Inv X pins σ H' s5 → s5.heap.Ns C m → Away X pins H' C → Q (.ref acc) H' → compPost (model X.prog X.w) X.A X.xe use Post (.ref acc) C (.ok .next) s5) :
    wpAny (model X.prog X.w) X.A (comprehension (.ListComp elt [⟨tg, iter, [], 0⟩] scope pos) scope X.env fpos (newList []) false (eval iter X.env) use) Post X.xe s := by
  refine wpAny_comprehension_free (use := use) rfl hs hclos S.kind S.names (thn (hi pins s σ H _ I h) fun v s1 h1 => thn h1 fun itv s2 h2 => ?_)
  obtain ⟨it, fp, tn, J, H2, e, I2, T, st2, f2, W, ⟨m0, w0⟩, turn⟩ := h2
  subst e
  refine wpAny_newObj_type (wpAny_newFunctionEnv S.nocell (by intro y hy; simp at hy) (fun h₁ hns₁ hsb₁ => ?_) S.kind)
  dsimp only at hns₁ hsb₁ ⊢
  generalize hH2 : s2.heap.push { cls := .type "list", dict := none, data := .seq ([] : List Value).toArray } = G at hns₁ hsb₁ ⊢
  have hC : G.objs.size = s2.heap.objs.size + 1 := by rw [← hH2, Heap.size_push]
  have hDC : s2.heap.objs.size ≠ G.objs.size := by rw [hC]; exact Nat.ne_of_lt (Nat.lt_succ_self _)
  have below : ∀ b, b < s2.heap.objs.size → b ≠ G.objs.size ∧ b ≠ s2.heap.objs.size := fun b hb => ⟨by rw [hC]; exact Nat.ne_of_lt (Nat.lt_succ_of_lt hb), Nat.ne_of_lt hb⟩
  have old : ∀ b o, s2.heap.get? b = some o → h₁.get? b = some o := fun b o e => hsb₁.extBut b o (below b (Heap.lt_size e)).1 (Heap.get?_push_of_some _ (hH2 ▸ Heap.get?_push_of_some _ e))
  have hacc : h₁.get? s2.heap.objs.size = some { cls := .type "list", data := .seq ([] : List Value).toArray 0 } := hsb₁.extBut _ _ hDC (Heap.get?_push_of_some _ (hH2 ▸ Heap.get?_push_size _ rfl))
  let Y : Cx := blk X (own ++ fr) scope cl G.objs.size s2 H2 fp
  have fplt : ∀ b ∈ fp, b < s2.heap.objs.size := fun b hb => by obtain ⟨o, e, _⟩ := T.obj _ _ st2 b hb; exact Heap.lt_size e
  have okY : Y.Ok := by
    refine ⟨I2.ok.mod, S.kind, I2.ok.glob, I2.ok.blt, by show s2.heap.objs.size ≤ G.objs.size; omega, ?_, ?_, ?_, I2.ok.hd, I2.ok.frames, .inl rfl, ?_, I2.bs, Nat.le_trans I2.ok.bsz I2.sz, ?_, ?_, I2.stack, I2.stkFree⟩
    · exact fun x y c e1 e2 => I2.ok.inj x y c (hcl x c e1) (hcl y c e2)
    · intro x hx
      have hx' : (relabel scope X.env).names.lookup x = some .cell ∨ (relabel scope X.env).names.lookup x = some .free := hx
      have hm : ∃ k, (x, k) ∈ scope.names ∧ k = .free := by
        have aux : ∀ kk : NameKind, (kk = .cell ∨ kk = .free) → (relabel scope X.env).names.lookup x = some kk → ∃ k, (x, k) ∈ scope.names ∧ k = .free := by
          intro kk hk el
          obtain ⟨⟨n, k⟩, hmem, e⟩ := List.mem_map.mp (PySem.mem_of_lookup el)
          dsimp only at e
          split at e
          · rename_i hcond
            cases e
            refine ⟨k, hmem, ?_⟩
            simp only [Bool.and_eq_true, beq_iff_eq] at hcond
            exact hcond.1.1
          · cases e
            rcases hk with z | z
            · subst z; exact absurd rfl (S.nocell _ hmem)
            · exact ⟨_, hmem, z⟩
        rcases hx' with z | z
        · exact aux _ (.inl rfl) z
        · exact aux _ (.inr rfl) z
      obtain ⟨k, hmem, hk⟩ := hm
      exact mem_lookup_isSome (l := cl) (by rw [hfr]; exact S.free _ hmem hk)
    · exact fun x c e _ => nomatch e
    · refine fun b hb => ⟨?_, fun x c e => (f2 b hb).2.2.2.2.1 x c (hcl x c e)⟩
      show b ≠ G.objs.size
      exact (below b (fplt b hb)).1
    · intro b o e hb
      rcases (f2 b hb).2.2.2.1 with z | z
      · exact I2.ok.noex b o e z
      · exact absurd (Nat.lt_of_lt_of_le (Heap.lt_size e) (Nat.le_trans I2.ok.bsz z)) (Nat.lt_irrefl _)
    · intro b hb hf
      rcases List.mem_cons.mp (I2.stkSub b hf) with z | z
      · exact (f2 b hb).2.1 z
      · exact (f2 b hb).2.2.1 z
  have lenσ : (σ0 own.length js σ).length = (own ++ fr).length := by unfold σ0; simp [S.len]
  have IY : Inv Y [] (σ0 own.length js σ) H2 { s2 with heap := h₁, toks := s2.toks + ([] : List (Str × Value)).length } := by
    refine ⟨okY, rfl, I2.bare, Un.kept old, ⟨_, hns₁, ?_⟩, ?_, ?_, ?_, fun p hp => absurd (show p ∈ ([] : List (Addr × Obj)) from hp) (by simp), I2.hok.kept old, lenσ⟩
    · intro i x v hN hv _
      have hN' : (own ++ fr)[i]? = some x := hN
      unfold σ0 at hv
      by_cases hlt : i < own.length
      · rw [List.getElem?_append_left (by simpa using hlt), List.getElem?_replicate] at hv
        split at hv <;> cases hv
      · rw [List.getElem?_append_right (by simpa using Nat.le_of_not_lt hlt), List.length_replicate, List.getElem?_map] at hv
        rw [List.getElem?_append_right (Nat.le_of_not_lt hlt)] at hN'
        cases ej : js[i - own.length]? with
        | none => rw [ej] at hv; cases hv
        | some j =>
          rw [ej] at hv
          have hσ : σ[j]? = some (some v) := by
            have hv' : (σ[j]?).join = some v := Option.some.inj hv
            cases q : σ[j]? with
            | none => rw [q] at hv'; cases hv'
            | some o => rw [q] at hv'; have : o = some v := hv'; rw [this]
          obtain ⟨hNj, hk, hkr⟩ := S.at_ _ j x ej hN'
          obtain ⟨m, hn, hl⟩ := I2.loc
          obtain ⟨u, ru, lk⟩ := hl j x v hNj hσ (.inr (.inl hk))
          refine ⟨u, ru, .inr ?_⟩
          rcases lk with ⟨k1, _⟩ | ⟨_, c, ec, ic⟩
          · rw [hk] at k1; cases k1
          · obtain ⟨c', hc'⟩ := mem_lookup_isSome (y := x) (l := cl) (by rw [hfr]; exact List.mem_of_getElem? hN')
            have : c' = c := by have := hcl x c' hc'; rw [ec] at this; exact (Option.some.inj this).symm
            subst this
            refine ⟨?_, c', hc', ?_⟩
            · show (relabel scope X.env).names.lookup x = some .cell ∨ (relabel scope X.env).names.lookup x = some .free
              exact .inl hkr
            · obtain ⟨oc, hoc, hd⟩ := ic
              exact ⟨oc, old _ _ hoc, hd⟩
    · intro x c e
      obtain ⟨v, oc, hoc, hd⟩ := I2.cell x c (hcl x c e)
      exact ⟨v, oc, old _ _ hoc, hd⟩
    · exact I2.hok.fresh (by show s2.heap.objs.size ≤ G.objs.size; omega)
    · exact fun x c e => I2.freeC x c (hcl x c e)
  have accfs : s2.heap.objs.size ∉ frs X.stack := fun hf => by
    rcases List.mem_cons.mp (I2.stkSub _ hf) with z | z
    · exact absurd (by rw [← z] ; exact Nat.le_refl _ : s2.heap.objs.size ≤ X.env.locals) (Nat.not_le.mpr I2.lt)
    · exact I2.nofs (Nat.le_refl _) z
  have acccell : ∀ x c, cl.lookup x = some c → c ≠ s2.heap.objs.size := fun x c e z => by
    obtain ⟨v, oc, hoc, _⟩ := I2.cell x c (hcl x c e)
    exact absurd (Heap.lt_size hoc) (by rw [z]; exact Nat.lt_irrefl _)
  have fpY : ∀ {H' : Hp} {pl : List (Addr × Obj)}, (∀ b ∈ fp, H' b = none) → (∀ p ∈ pl, p.1 = s2.heap.objs.size) → ∀ b ∈ fp, FpOk Y pl H' b := fun {H' pl} hn hp b hb =>
    ⟨hn b hb, (below b (fplt b hb)).1, okY.exfs b hb, .inl hb, fun x c e => (f2 b hb).2.2.2.2.1 x c (hcl x c e), fun p hpp => by
      have hpp' : p ∈ pl := by simpa [Y, blk] using hpp
      rw [hp p hpp']; exact Ne.symm (below b (fplt b hb)).2⟩
  have loop : ∀ s₃ : Shared, Inv Y [] (σ0 own.length js σ) H2 s₃ → tn 0 s₃.heap → s₃.heap.get? s2.heap.objs.size = some { cls := .type "list", data := .seq ([] : List Value).toArray 0 } →
      codeAny (model X.prog X.w) X.A (.compLoop (.ListComp elt [⟨tg, iter, [], 0⟩] scope pos) 0 (.ref it) (.ref s2.heap.objs.size) (compEnvC scope cl G.objs.size X.env))
        (compPost (model X.prog X.w) X.A X.xe use Post (.ref s2.heap.objs.size) G.objs.size) s₃ := by
    intro s₃ I3 st3 ha3
    refine compLoop_any (fun n s' => ∃ i ys τ H' its k, Inv Y [(s2.heap.objs.size, { cls := .type "list", data := .seq its.toArray k })] τ H' s' ∧ tn i s'.heap ∧ (∀ b ∈ fp, H' b = none) ∧ Vals ys its ∧ ys.length ≤ sizeLine ∧ W i n ys τ H') ?_ m0 ?_
    · rintro n s4 ⟨i, ys, τ, H4, its, k, I4, st4, fr4, vl, hz, w4⟩
      have pin4 := I4.pin (s2.heap.objs.size, { cls := .type "list", data := .seq its.toArray k }) (by simp [Y, blk])
      rcases turn i n ys τ H4 w4 with ⟨stop, qn⟩ | ⟨go, hlt, step⟩
      · refine thn (T.done Y rfl rfl rfl hc i _ s4 τ H4 _ I4 (fpY fr4 (by simp)) st4 stop) fun r s5 ⟨hr, I5⟩ => ?_
        subst hr
        show compPost _ _ _ _ _ _ _ _ _
        obtain ⟨m5, hn5, _⟩ := I5.loc
        have pin5 := I5.pin (s2.heap.objs.size, { cls := .type "list", data := .seq its.toArray k }) (by simp [Y, blk])
        have nacc : H4 s2.heap.objs.size = none := pin5.2.1
        have B := I5.base
        have nC : H4 G.objs.size = none := I5.free
        refine hfin s2.heap.objs.size G.objs.size s5 (upd H4 s2.heap.objs.size (.lst ys)) m5 ?_ hn5 ?_ (qn _ nacc)
        · refine I2.call' (s' := s5) (ch := fp) I5.os ⟨B.keep, B.slot, fun b o e n hx => ?_, B.there, fun b xs e => ?_, fun b o u e => ?_, fun b ps e => ?_⟩ ?_ I5.bare ?_
          · rw [upd_ne (below b (Heap.lt_size e)).2]; exact B.free b o e n hx
          · have e1 := B.tups b xs e
            rw [upd_ne (ne_of_none e1 nacc)]; exact e1
          · have e1 := B.frzs b o u e
            rw [upd_ne (ne_of_none e1 nacc)]; exact e1
          · obtain ⟨more, e1⟩ := B.tbls b ps e
            exact ⟨more, by rw [upd_ne (ne_of_none e1 nacc)]; exact e1⟩
          · intro b u e
            by_cases hb : b = s2.heap.objs.size
            · subst hb
              rw [upd_same] at e; cases e
              exact ⟨hz, its, k, vl, pin5.1⟩
            · rw [upd_ne hb] at e
              exact (I5.hok b u e).stay (fun c v _ q => q) (fun c q => by rw [upd_ne (ne_of_none q nacc)]; exact q) fun c xs q => by rw [upd_ne (ne_of_none q nacc)]; exact q
          · exact fun b hb => ⟨(f2 b hb).2.2.2.1, (f2 b hb).2.1, (f2 b hb).2.2.2.2.1, (f2 b hb).2.2.2.2.2⟩
        · have hge : s2.heap.objs.size ≤ G.objs.size := by omega
          refine ⟨by rw [upd_ne (Ne.symm hDC)]; exact nC, ?_, Nat.le_trans I2.sz hge, fun x c e z => ?_, fun p hp z => ?_⟩
          · exact Nat.ne_of_gt (Nat.lt_of_lt_of_le I2.lt hge)
          · obtain ⟨v, oc, hoc, _⟩ := I2.cell x c e
            exact absurd (Nat.lt_of_lt_of_le (Heap.lt_size hoc) hge) (by rw [z]; exact Nat.lt_irrefl _)
          · exact absurd (Nat.lt_of_lt_of_le (Heap.lt_size (I2.pin p hp).1) hge) (by rw [z]; exact Nat.lt_irrefl _)
      · refine thn (T.item Y rfl rfl rfl hc i _ s4 τ H4 _ I4 (fpY fr4 (by simp)) st4 go) fun r s5 ⟨u, hr, h5⟩ => ?_
        subst hr
        refine thn h5 fun _ s6 ⟨x, H6, I6, r6, y6, st6, fr6⟩ => ?_
        have I6' := I6.pinned (fpY fr6 (by simp)) (T.obj _ _ st6)
        refine thn (hg _ _ _ _ _ s6 τ H6 x u _ I6' r6 (step x H6 y6)) fun _ s7 ⟨τ7, H7, I7, N, hN, q7⟩ => ?_
        refine thn (he _ _ _ _ _ s7 τ7 H7 _ I7 q7) fun v' s8 ⟨y, H8, I8, r8, n8⟩ => ?_
        obtain ⟨m', hm', w8⟩ := hN _ _ n8
        have pin8 := I8.pin (s2.heap.objs.size, { cls := .type "list", data := .seq its.toArray k }) (by simp [blk])
        have pinfp : ∀ b ∈ fp, ∀ o, s6.heap.get? b = some o → s8.heap.get? b = some o ∧ H8 b = none := fun b hb o e => by
          have := I8.pin (b, o) (List.mem_append_right _ (List.mem_append_right _ (mem_pinsAt hb e)))
          exact ⟨this.1, this.2.1⟩
        refine wpAny_list_append_plain (items := its.toArray) ⟨k, pin8.1⟩ (fun h' ha' hs' => ?_) (by have := vl.length; simp; omega)
        obtain ⟨k', ha'⟩ := ha'
        have I9 : Inv Y [] τ7 H8 { s8 with heap := h' } := by
          refine (I8.pins_of (pins' := []) (by simp)).turned (t' := s8.toks) (it := s2.heap.objs.size) (fun b o hb e => (hs'.2 b hb).trans e) pin8.2.1 ?_ (.inr (Nat.le_refl _)) (fun x c e => acccell x c e) (fun p hp => absurd (show p ∈ ([] : List (Addr × Obj)) from by simpa [Y, blk] using hp) (by simp))
          exact hDC
        have ea : (its.toArray.push v') = (its ++ [v']).toArray := by simp
        rw [ea] at ha'
        refine ⟨m', hm', i + 1, ys ++ [y], τ7, H8, its ++ [v'], k', I9.pins_of ?_, T.keep _ _ _ st6 fun b hb o e => (hs'.2 b (below b (fplt b hb)).2).trans (pinfp b hb o e).1, fun b hb => ?_, vl.append (.cons r8 .nil), ?_, w8⟩
        · intro p hp
          rw [List.mem_singleton.mp hp]
          exact ⟨ha', pin8.2.1, hDC, accfs, fun v z => by cases z⟩
        · obtain ⟨o, e, _⟩ := T.obj _ _ st6 b hb
          exact (pinfp b hb o e).2
        · rw [List.length_append, List.length_singleton]; omega
    · refine ⟨0, [], σ0 own.length js σ, H2, [], 0, I3.pins_of ?_, st3, fun b hb => (f2 b hb).1, .nil, Nat.zero_le _, w0⟩
      intro p hp
      rw [List.mem_singleton.mp hp]
      exact ⟨ha3, I2.hok.fresh (Nat.le_refl _), hDC, accfs, fun v z => by cases z⟩
  have st1 : tn 0 h₁ := T.keep _ _ _ st2 fun b _ o e => old b o e
  exact codeAny_compStart_list (loop _ IY st1 hacc) (T.self _ 0 _ _ _ st1 (loop _ IY st1 hacc))
theorem pe_comp {elt tg iter : Expr} {scope : Scope} {cl : List (Str × Addr)} {pos : Pos} {fr own : List Str} {js : List Nat} {wi : TI} {g : TG} {te : TE}
    (hc : X.calm = true) (hi : PI X tg iter wi) (hclos : closureFor scope X.env = pure cl) (hcl : ∀ y c, cl.lookup y = some c → X.env.cells.lookup y = some c) (hfr : cl.map (·.1) = fr)
    (S : BScope X scope fr js)
    (hg : ∀ C s H fp, PG (blk X (own ++ fr) scope cl C s H fp) tg g) (he : ∀ C s H fp, PE (blk X (own ++ fr) scope cl C s H fp) elt te)
    (hs : ∀ x, foldedSetIterable iter X.env x = pure x := by intro _; rfl) :
    PE X (.ListComp elt [⟨tg, iter, [], 0⟩] scope pos) (tComp own.length js wi g te) := by
  intro pins s σ H Q I h
  rw [eval_ListComp]
  refine comp_run (use := none) hc hi hclos hcl hfr S hg he hs I h fun acc C s5 H' m I5 hn aw q => ?_
  exact ⟨m, hn, fun h' hs' => ⟨.ref acc, H', I5.turned (t' := s5.toks) (fun b o hb e => (hs'.2 b hb).trans e) aw.free aw.loc (.inr aw.new) aw.cell aw.pin, rfl, q⟩⟩
theorem ps_comp {elt tg iter : Expr} {scope : Scope} {cl : List (Str × Addr)} {pos spos py : Pos} {fr own : List Str} {js : List Nat} {wi : TI} {g : TG} {te : TE} {i : Nat} {y : Str}
    (hN : X.N.Nodup) (hi' : X.N[i]? = some y) (hx : Loc X.env.scope y)
    (hc : X.calm = true) (hi : PI X tg iter wi) (hclos : closureFor scope X.env = pure cl) (hcl : ∀ y c, cl.lookup y = some c → X.env.cells.lookup y = some c) (hfr : cl.map (·.1) = fr)
    (S : BScope X scope fr js)
    (hg : ∀ C s H fp, PG (blk X (own ++ fr) scope cl C s H fp) tg g) (he : ∀ C s H fp, PE (blk X (own ++ fr) scope cl C s H fp) elt te)
    (hs : ∀ x, foldedSetIterable iter X.env x = pure x := by intro _; rfl) (hsw : swapsWith (.ListComp elt [⟨tg, iter, [], 0⟩] scope pos) (some (.Name y py)) spos.line X.env = pure true := by rfl)
    (hf : X.fn y = true ∨ X.env.scope.names.lookup y = some .local := by first | exact .inl rfl | exact .inr rfl | assumption) :
    PS X (.Assign [.Name y py] (.ListComp elt [⟨tg, iter, [], 0⟩] scope pos) spos) (tAsg (tComp own.length js wi g te) (gName i)) := by
  intro pins s σ H D I h
  rw [exec_Assign_Name_used _ _ _ _ hsw]
  refine wpAny_bind (wpAny_standAt (wpAny_bind ?_))
  show wpAny _ X.A (do let _ ← comprehension (.ListComp elt [⟨tg, iter, [], 0⟩] scope pos) scope X.env _ (newList []) false (eval iter X.env) (some (assign (.Name y py) X.env))) _ _ s
  refine wpAny_bind (wpAny_mono (comp_run (use := some (assign (.Name y py) X.env)) (Post := fun _ s' => SP X pins D .next s') hc hi hclos hcl hfr S hg he hs I h ?_) (fun _ s' hq => wpAny_pure (wpAny_pure hq)) fun _ _ e => e)
  intro acc C s5 H' m I5 hn aw q
  show wpAny _ X.A (assign (.Name y py) X.env (.ref acc)) _ _ _
  refine wpAny_assign_Name (store_ok2 (v := .ref acc) I5 hN hi' hx rfl (fun s6 I6 ⟨a, hs6, ha⟩ => ?_) hf)
  have hCa : C ≠ a := by
    rcases ha with z | z
    · rw [z]; exact aw.loc
    · exact Ne.symm (aw.cell _ _ z)
  refine ⟨m, hn.sameBut hs6 hCa, fun h' hs' => ?_⟩
  exact ⟨_, H', I6.turned (t' := s6.toks) (fun b o hb e => (hs'.2 b hb).trans e) aw.free aw.loc (.inr aw.new) aw.cell aw.pin, q⟩
section
variable {js : List Nat} {te : TE} {σ : L2.St} {H : Hp} {Q : VK} {K : PySem.W.Frag}
abbrev frees (js : List Nat) (σ : L2.St) : L2.St := js.map fun j => (σ[j]?).join
abbrev CompW (J : It) (js : List Nat) (te : TE) (σ : L2.St) (H1 : Hp) (Q : VK) : Prop := CompG 1 js (gName 0) te σ Q J H1
theorem comp_gen {J : It} {n : Nat} (hn : n ≤ sizeLine) (item : Nat → V → Prop) (Pv : Nat → List V → Hp → Prop) (h0 : Pv 0 [] H) (hgo : ∀ i ys H, i < n → Pv i ys H → J.go i H) (hst : ∀ ys H, Pv n ys H → J.stop n H)
    (hy : ∀ i ys H x H', i < n → Pv i ys H → J.yld i H x H' → H' = H ∧ item i x)
    (hs : ∀ i ys H x, i < n → ys.length = i → Pv i ys H → item i x → te (some x :: frees js σ) H fun v H3 => Pv (i + 1) (ys ++ [v]) H3)
    (hd : ∀ ys H, ys.length = n → Pv n ys H → ∀ p, H p = none → Q (.ref p) (upd H p (.lst ys))) : CompW J js te σ H Q := by
  refine ⟨fun i m ys τ H => m = n - i ∧ i ≤ n ∧ ys.length = i ∧ Pv i ys H ∧ ∃ o, τ = o :: frees js σ, ⟨n, by simp, Nat.zero_le _, rfl, h0, none, rfl⟩, ?_⟩
  rintro i m ys τ H ⟨rfl, hi, hl, p, o, rfl⟩
  by_cases hlt : i < n
  · refine .inr ⟨hgo i ys H hlt p, by omega, fun x H' y => ?_⟩
    obtain ⟨e, hx⟩ := hy i ys H x H' hlt p y
    subst e
    exact ⟨fun v H3 => Pv (i + 1) (ys ++ [v]) H3, fun v H3 p3 => ⟨n - (i + 1), by omega, rfl, hlt, by simp [hl], p3, _, rfl⟩, hs i ys _ x hlt hl p hx⟩
  · have e : i = n := by omega
    subst e
    exact .inl ⟨hst ys H p, hd ys H hl p⟩
theorem comp_list {a : Addr} {xs : List V} (hn : xs.length ≤ sizeLine) (Pv : Nat → List V → Hp → Prop) (h0 : Pv 0 [] H) (hl : ∀ i ys H, Pv i ys H → SqL K H a xs)
    (hs : ∀ i ys H x, xs[i]? = some x → ys.length = i → Pv i ys H → te (some x :: frees js σ) H fun v H3 => Pv (i + 1) (ys ++ [v]) H3)
    (hd : ∀ ys H, ys.length = xs.length → Pv xs.length ys H → ∀ p, H p = none → Q (.ref p) (upd H p (.lst ys))) : CompW (Itl K a) js te σ H Q :=
  comp_gen hn (fun i x => xs[i]? = some x) Pv h0 (fun i ys H hi p => ⟨xs, xs[i], hl _ _ _ p, by simp [hi]⟩) (fun ys H p => ⟨xs, hl _ _ _ p, Nat.le_refl _⟩) (fun i ys H x H' _ p y => ⟨y.1, y.2 xs (hl _ _ _ p)⟩) (fun i ys H x _ hl p hx => hs i ys H x hx hl p) hd
theorem comp_tup {a : Addr} {xs : List V} (hn : xs.length ≤ sizeLine) (Pv : Nat → List V → Hp → Prop) (h0 : Pv 0 [] H) (hl : ∀ i ys H, Pv i ys H → SqT K H a xs)
    (hs : ∀ i ys H x, xs[i]? = some x → ys.length = i → Pv i ys H → te (some x :: frees js σ) H fun v H3 => Pv (i + 1) (ys ++ [v]) H3)
    (hd : ∀ ys H, ys.length = xs.length → Pv xs.length ys H → ∀ p, H p = none → Q (.ref p) (upd H p (.lst ys))) : CompW (Itt K a) js te σ H Q :=
  comp_gen hn (fun i x => xs[i]? = some x) Pv h0 (fun i ys H hi p => ⟨xs, xs[i], hl _ _ _ p, by simp [hi]⟩) (fun ys H p => ⟨xs, hl _ _ _ p, Nat.le_refl _⟩) (fun i ys H x H' _ p y => ⟨y.1, y.2 xs (hl _ _ _ p)⟩) (fun i ys H x _ hl p hx => hs i ys H x hx hl p) hd
theorem comp_range {lo : Int} {n : Nat} (hn : n ≤ sizeLine) (Pv : Nat → List V → Hp → Prop) (h0 : Pv 0 [] H)
    (hs : ∀ i ys H, i < n → ys.length = i → Pv i ys H → te (some (.int (lo + i)) :: frees js σ) H fun v H3 => Pv (i + 1) (ys ++ [v]) H3)
    (hd : ∀ ys H, ys.length = n → Pv n ys H → ∀ p, H p = none → Q (.ref p) (upd H p (.lst ys))) : CompW (Itr lo n) js te σ H Q :=
  comp_gen hn (fun i x => x = .int (lo + i)) Pv h0 (fun i ys H hi p => hi) (fun ys H p => Nat.le_refl _) (fun i ys H x H' _ p y => y) (fun i ys H x hi hl p hx => by subst hx; exact hs i ys H hi hl p) hd
end
end L3
namespace L3
open PySem PySem.Spec PyProof.Rows L2
section
variable {X : Cx} {pins : List (Addr × Obj)} {σ : L2.St} {H : Hp} {s : Shared}
theorem turnedT {h' : Heap} {t' : Nat} {ch : List Addr} {a : Addr} {xs : List V} {its : List Value} (I : L2.Inv X pins σ H s) (k : ∀ b o, b ∉ ch → s.heap.get? b = some o → h'.get? b = some o) (hch : ∀ b ∈ ch, FpOk X pins H b)
    (ho : ∀ b ∈ ch, ∃ o, h'.get? b = some o) (ha : s.heap.objs.size ≤ a) (hz : xs.length ≤ sizeLine) (hv : Vals xs its) (ht : IsTup h' a its.toArray) : L2.Inv X pins σ (upd H a (.tup xs)) { s with heap := h', toks := t' } := by
  have na : H a = none := I.hok.fresh ha
  have nlt : ∀ b o, s.heap.get? b = some o → b ≠ a := fun b o e => Nat.ne_of_lt (Nat.lt_of_lt_of_le (Heap.lt_size e) ha)
  have nch : ∀ b u, H b = some u → b ∉ ch := fun b u e z => by rw [(hch b z).1] at e; cases e
  refine I.step (g' := s.gens) (d' := s.drawn) (ch := ch) (fun b hb => ⟨(hch b hb).2.2.2.1, (hch b hb).2.1, (hch b hb).2.2.2.2.1, (hch b hb).2.2.2.2.2⟩) (fun b o _ _ hc e _ => k b o hc e) (fun b o _ _ hc e _ => ⟨o.slots, k b o hc e⟩)
    (fun b o _ e n => by rw [upd_ne (nlt b o e)]; exact n) (fun b o hc e => ⟨o, k b o hc e⟩) (fun b ys e => by rw [upd_ne (ne_of_none e na)]; exact e) (fun b o u e => by rw [upd_ne (ne_of_none e na)]; exact e)
    (fun b ps e => ⟨#[], by rw [upd_ne (ne_of_none e na), e]; simp⟩) (fun m hm => ?_) (fun b u e => ?_) I.bare
  · obtain ⟨o, es, ep, ho, r⟩ := hm
    exact ⟨o, es, ep, k _ o (fun z => (hch _ z).2.1 rfl) ho, r⟩
  · by_cases hb : b = a
    · subst hb
      rw [upd_same] at e; cases e
      exact ⟨hz, its, hv, ht⟩
    · rw [upd_ne hb] at e
      refine (I.hok b u e).stay (fun c v hc q => k c v ?_ q) (fun c q => by rw [upd_ne (ne_of_none q na)]; exact q) fun c ys q => by rw [upd_ne (ne_of_none q na)]; exact q
      rcases hc with z | z
      · rw [z]; exact nch b u e
      · exact nch c _ z
def Ite (K : PySem.W.Frag) (a : Addr) : It :=
  ⟨fun i H => ∃ xs x, SqL K H a xs ∧ xs[i]? = some x, fun i H x H' => ∃ p v, H p = none ∧ x = .ref p ∧ (∀ xs, SqL K H a xs → xs[i]? = some v) ∧ H' = upd H p (.tup [.int i, v]), fun i H => ∃ xs, SqL K H a xs ∧ xs.length ≤ i⟩
theorem turn_enum {P : Program} {w : World} {K : PySem.W.Frag} {elts : List Expr} {x1} {pos : Pos} (a e it : Addr) (hei : e ≠ it) :
    Turn P w K (.Tuple elts x1 pos) (Ite K a) [e, it] e (fun i h => (∃ old, IsEnum h e it i old) ∧ h.IsListIter it a i) where
  mem := by simp
  obj := fun i h st b hb => by
    obtain ⟨⟨old, he⟩, ⟨o, ho, hc, hd⟩⟩ := st
    rcases List.mem_cons.mp hb with z | z
    · subst z
      refine ⟨_, he, fun v z => ?_⟩
      have z' : Data.fields _ = Data.cell v := z
      cases z'
    · rw [List.mem_singleton.mp z]
      exact ⟨o, ho, fun v z => by rw [hd] at z; cases z⟩
  keep := fun i h h' st k => ⟨let ⟨old, he⟩ := st.1; ⟨old, k e (by simp) _ he⟩, st.2.at fun o q => k it (by simp) o q⟩
  item := by
    intro X hP hw hK hc i pins s σ H E I hf st hg
    subst hP hw hK
    obtain ⟨xs, x, hq, hx⟩ := hg
    obtain ⟨its, rv, p, hz⟩ := I.list hq
    obtain ⟨u, hu, ru⟩ := rv.get hx
    obtain ⟨⟨old, he⟩, hit⟩ := st
    refine wpAny_pyNext_enum_item he hit p.isList (x := u) (by simpa using hu) hei fun h' ho hit' ht hsz hk => ⟨_, rfl, ?_⟩
    refine wpAny_letOwnedTupleGo_enum ho fun h'' he'' hs'' => ?_
    have helt : e < s.heap.objs.size := Heap.lt_size he
    have hilt : it < s.heap.objs.size := by obtain ⟨_, y, _⟩ := hit; exact Heap.lt_size y
    refine ⟨.ref s.heap.objs.size, upd H s.heap.objs.size (.tup [.int i, x]), ?_, rfl, ⟨_, x, I.hok.fresh (Nat.le_refl _), rfl, fun ys hy => by rw [I.list_inj hy hq]; exact hx, rfl⟩, ⟨⟨_, by simpa using he''⟩, ?_⟩, ?_⟩
    · show L2.Inv X pins σ _ { s with heap := h'', toks := s.toks + 1 }
      refine turnedT (s := s) (its := [.int i s.toks, u]) I (ch := [e, it]) (fun b o hb q => ?_) hf (fun b hb => ?_) (Nat.le_refl _) (by show 2 ≤ sizeLine; decide) (.cons ⟨_, rfl⟩ (.cons ru .nil)) ?_
      · have hb1 : b ≠ e := fun z => hb (by simp [z])
        have hb2 : b ≠ it := fun z => hb (by simp [z])
        exact (hs''.2 b hb1).trans (hk b o hb1 hb2 q)
      · rcases List.mem_cons.mp hb with z | z
        · subst z; exact ⟨_, he''⟩
        · rw [List.mem_singleton.mp z]
          obtain ⟨o, y, _⟩ := hit'
          exact ⟨o, (hs''.2 it (Ne.symm hei)).trans y⟩
      · exact ⟨_, (hs''.2 _ (Nat.ne_of_gt helt)).trans ht, rfl, _, rfl⟩
    · exact hit'.extBut hs''.extBut (Ne.symm hei)
    · intro b hb
      rw [upd_ne]
      · exact (hf b hb).1
      · rcases List.mem_cons.mp hb with z | z
        · subst z; exact Nat.ne_of_lt helt
        · rw [List.mem_singleton.mp z]; exact Nat.ne_of_lt hilt
  done := by
    intro X hP hw hK hc i pins s σ H E I hf st hg
    subst hP hw hK
    obtain ⟨xs, hq, hx⟩ := hg
    obtain ⟨its, rv, p, hz⟩ := I.list hq
    obtain ⟨⟨old, he⟩, hit⟩ := st
    obtain ⟨f0, f1, f2, f3, f4, f5⟩ := hf it (by simp)
    have hl := rv.length
    exact wpAny_pyNext_enum_end (I.ok.hd hc) he hit p.isList (by simp; omega) fun h' eb => ⟨rfl, I.turned (t' := s.toks) (fun b o hb e => eb b o hb e) f0 f1 f3 f4 f5⟩
  self := fun _ _ _ _ _ st h => by
    obtain ⟨⟨old, he⟩, _⟩ := st
    exact wpAny_pyIter_enum he h
def iEnum (K : PySem.W.Frag) (ta : TA) : TI := fun σ H R => ta σ H fun vs H1 => ∃ a, vs = [.ref a] ∧ (∃ xs, SqL K H1 a xs) ∧ R (Ite K a) H1
theorem pi_enum {a : Expr} {ta : TA} {p pos : Pos} {elts : List Expr} {x1} {tpos : Pos} (hg : Gl X "enumerate") (hm : X.mg "enumerate" = none) (ha : PA X [a] ta) (hs : starEach [a] X.env = [(false, eval a X.env)] := by rfl) :
    PI X (.Tuple elts x1 tpos) (.Call (.Name "enumerate" p) [a] [] pos) (iEnum X.K ta) := by
  intro pins s σ H R I h
  refine Call_ (ld_blt I hg hm boot_enumerate (PyProof.Rows.callWith_type1 (thn (ha pos pins s σ H _ I h) fun us s1 ⟨vs, H1, I1, r1, q1⟩ => ?_) hs rfl))
  obtain ⟨l, e, ⟨xs, hq⟩, q⟩ := q1
  subst e
  obtain ⟨u, rfl, ru⟩ := r1.one
  cases ru
  obtain ⟨its, rv, pl, hz⟩ := I1.list hq
  refine call_enumerate_list pl.isList fun h' he hit hsz hk => wpAny_pyIter_enum he ?_
  have I2 : L2.Inv X pins σ H1 { s1 with heap := h' } := I1.kept (t' := s1.toks) hk
  refine ⟨s1.heap.objs.size + 1, [s1.heap.objs.size + 1, s1.heap.objs.size], _, _, H1, rfl, I2, turn_enum l _ _ (Nat.ne_of_gt (Nat.lt_succ_self _)), ⟨⟨_, he⟩, hit⟩, fun b hb => ?_, q⟩
  have hb' : s1.heap.objs.size ≤ b := by
    rcases List.mem_cons.mp hb with z | z
    · rw [z]; exact Nat.le_succ _
    · rw [List.mem_singleton.mp z]; exact Nat.le_refl _
  exact I1.fpOk hb' (I1.hok.fresh hb')
theorem for_enum {K : PySem.W.Frag} {a : Addr} {xs : List V} {g : TG} {tb : TS} {D : Ends} {σ : L2.St} {H : Hp} (Pv : Nat → L2.St → Hp → Prop) (h0 : Pv 0 σ H) (hl : ∀ i σ H, i ≤ xs.length → Pv i σ H → SqL K H a xs)
    (hs : ∀ i x σ H p, xs[i]? = some x → Pv i σ H → H p = none → g (.ref p) σ (upd H p (.tup [.int i, x])) fun σ2 H2 => tb { D with nx := Pv (i + 1), ct := Pv (i + 1), bk := D.nx } σ2 H2) (hd : ∀ σ H, Pv xs.length σ H → D.nx σ H) :
    ∃ W : Nat → Nat → L2.St → Hp → Prop, (∃ m, W 0 m σ H) ∧ ∀ i m σ H, W i m σ H →
      ((Ite K a).stop i H ∧ D.nx σ H) ∨ ((Ite K a).go i H ∧ ∃ N : L2.St → Hp → Prop, (∀ σ' H', N σ' H' → ∃ m', m' < m ∧ W (i + 1) m' σ' H') ∧ ∀ x H', (Ite K a).yld i H x H' → g x σ H' fun σ2 H2 => tb { D with nx := N, ct := N, bk := D.nx } σ2 H2) := by
  refine ⟨fun i m σ H => m = xs.length - i ∧ i ≤ xs.length ∧ Pv i σ H, ⟨xs.length, by simp, Nat.zero_le _, h0⟩, ?_⟩
  rintro i m σ H ⟨rfl, hi, p⟩
  have q := hl i σ H hi p
  by_cases hlt : i < xs.length
  · refine .inr ⟨⟨xs, xs[i], q, by simp [hlt]⟩, Pv (i + 1), fun σ' H' p' => ⟨xs.length - (i + 1), by omega, rfl, hlt, p'⟩, fun x H' y => ?_⟩
    obtain ⟨pp, v, hp, rfl, hv, rfl⟩ := y
    exact hs i v σ H pp (hv xs q) p hp
  · have e : i = xs.length := by omega
    subst e
    exact .inl ⟨⟨xs, q, Nat.le_refl _⟩, hd σ H p⟩
end
end L3
namespace L3
open PySem PySem.Spec PyProof.Rows L2
def subT (t c : String) : Bool := t == c || (t == "bool" && c == "int")
abbrev tysL : List String := ["NoneType", "bool", "int", "str", "list", "tuple"]
abbrev clsL : List String := ["bool", "int", "str", "list", "tuple"]
theorem kit_tab (K : PySem.W.Frag) : ∀ t ∈ tysL, ∀ c ∈ clsL, PySem.W.kitOne K (.type t) (.type c) = some (subT t c) := by
  intro t ht c hc
  simp only [tysL, clsL, List.mem_cons, List.not_mem_nil, or_false] at ht hc
  rcases ht with rfl | rfl | rfl | rfl | rfl | rfl <;> rcases hc with rfl | rfl | rfl | rfl | rfl <;> kernel_rfl
section
variable {X : Cx}
theorem call_isi : CallR X (.builtin "isinstance") (fun xs H Q => ∃ x c t, xs = [x, .ty c] ∧ TyOf X.K H x (.type t) ∧ t ∈ tysL ∧ c ∈ clsL ∧ Q (.bl (subT t c)) H) := by
  intro pins s σ H xs us Q I r h
  obtain ⟨x, c, t, rfl, ty, ht, hc, q⟩ := h
  obtain ⟨u, v, rfl, ru, rv⟩ := vals2 r
  cases (show v = Value.type c from rv)
  exact isinst_ok I ru ty (kit_tab X.K t ht c hc) fun tk => ⟨.bl _, H, I.tok tk, rfl, q⟩
theorem vals_bls : ∀ {bs : List Bool} {us : List Value}, Vals (bs.map V.bl) us → us = bs.map Value.bool
  | [], _, .nil => rfl
  | b :: bs, _, .cons r t => by
    cases (show _ = Value.bool b from r)
    rw [vals_bls t]; rfl
theorem range_all' (bs : List Bool) : ((List.range bs.length).all fun i => (bs[i]?).getD true) = bs.all id := by
  rw [Bool.eq_iff_iff, List.all_eq_true, List.all_eq_true]
  constructor
  · intro h b hb
    obtain ⟨i, hi, e⟩ := List.mem_iff_getElem.mp hb
    have := h i (List.mem_range.mpr hi)
    rw [List.getElem?_eq_getElem hi, Option.getD_some, e] at this
    exact this
  · intro h i hi
    have hi' := List.mem_range.mp hi
    rw [List.getElem?_eq_getElem hi', Option.getD_some]
    exact h _ (List.getElem_mem hi')
theorem call_allB (hc : X.calm = true) : CallR X (.builtin "all") (fun xs H Q => ∃ (p : Addr) (bs : List Bool), xs = [.ref p] ∧ SqL X.K H p (bs.map V.bl) ∧ Q (.bl (bs.all id)) H) := by
  intro pins s σ H xs us Q I r h
  obtain ⟨p, bs, rfl, hq, q⟩ := h
  obtain ⟨u, rfl, ru⟩ := vals1 r
  cases ru
  obtain ⟨its, rv, pl, hz⟩ := I.list hq
  have e := vals_bls rv
  have hl := pl.isList
  have hlt : p < s.heap.objs.size := by obtain ⟨_, e, _⟩ := hl; exact Heap.lt_size e
  refine call_all_walk (wpAny_pyIter_list hl ?_)
  refine ⟨s.heap.objs.size, [s.heap.objs.size, p], [s.heap.objs.size], its.toArray.size, _, _, fun i => (bs[i]?).getD true, rfl, Walks.list (A := X.A.in1) (I.ok.hd hc) _ p (Nat.ne_of_lt hlt) its.toArray,
    ⟨⟨_, Heap.get?_push_size _ rfl, rfl, rfl⟩, hl.push _⟩, fun i v s' Q' E' hP hQ => ?_, fun h' tk hk => ?_⟩
  · have hP' : its[i]? = some v := by simpa using hP
    rw [e, List.getElem?_map] at hP'
    cases eb : bs[i]? with
    | none => rw [eb] at hP'; cases hP'
    | some b =>
      rw [eb] at hP'
      cases (Option.some.inj hP' : Value.bool b = v)
      simp only [eb, Option.getD_some] at hQ
      exact wpAny_truthy_bool hQ
  · have e2 : ((List.range its.toArray.size).all fun i => (bs[i]?).getD true) = bs.all id := by
      rw [List.size_toArray, e, List.length_map]; exact range_all' bs
    rw [e2]
    refine ⟨.bl _, H, I.kept (h' := h') (t' := tk) fun b o q => hk b o (fun hm => ?_) (Heap.get?_push_of_some _ q), rfl, q⟩
    rw [List.mem_singleton.mp hm] at q
    exact Nat.lt_irrefl _ (Heap.lt_size q)
theorem call_rng1 : CallR X (.type "range") (fun xs H Q => ∃ j : Int, xs = [.int j] ∧ ∀ p, H p = none → Q (.ref p) (upd H p (.rng 0 j))) := by
  intro pins s σ H xs us Q I r h
  obtain ⟨j, rfl, q⟩ := h
  obtain ⟨u, rfl, ru⟩ := vals1 r
  obtain ⟨t, rfl⟩ := ru
  refine call_range_1 ⟨.ref s.heap.objs.size, _, I.laid (o := .rng 0 j) (fun b o e => Heap.get?_push_of_some _ e) (Nat.le_refl _) ⟨_, _, _, Heap.get?_push_size _ rfl⟩, rfl, q _ (I.hok.fresh (Nat.le_refl _))⟩
theorem call_listR (hc : X.calm = true) : CallR X (.type "list") (fun xs H Q => ∃ (p : Addr) (j : Nat), xs = [.ref p] ∧ H p = some (.rng 0 (j : Int)) ∧ j ≤ 2 ^ 24 ∧ ∀ l, H l = none → Q (.ref l) (upd H l (.lst ((List.range j).map fun i => V.int (i : Nat))))) := by
  intro pins s σ H xs us Q I r h
  obtain ⟨p, j, rfl, hp, hj, q⟩ := h
  obtain ⟨u, rfl, ru⟩ := vals1 r
  cases ru
  obtain ⟨t, u, v, e⟩ := I.hok p _ hp
  refine call_list_range (n := j) (I.ok.hd hc) (show IsRange s.heap p 0 (j : Int) 1 t u v from e) (small_one (by omega) (by omega) (by omega) (by omega)) (by rw [rangeSize_one]; split <;> omega) hj fun h' tk acc' c' hk hS' hacc => ?_
  refine ⟨.ref s.heap.objs.size, _, I.laid (h' := h') (t' := tk) hk (Nat.le_refl _) ?_, rfl, q _ (I.hok.fresh (Nat.le_refl _))⟩
  have aux : ∀ (us : List Value) (n k : Nat), us.length = n → (∀ i v, us[i]? = some v → ∃ t, v = Value.int ((k + i : Nat) : Int) t) → Vals ((List.range' k n).map fun i => V.int (i : Nat)) us := by
    intro us
    induction us with
    | nil => intro n k hn _; cases hn; exact .nil
    | cons u us ih =>
      intro n k hn hv
      cases n with
      | zero => cases hn
      | succ n =>
        rw [List.range'_succ, List.map_cons]
        obtain ⟨t, ht⟩ := hv 0 u rfl
        refine .cons ⟨t, by simpa using ht⟩ (ih n (k + 1) (by simpa using hn) fun i v hi => ?_)
        obtain ⟨t, ht⟩ := hv (i + 1) v hi
        exact ⟨t, by rw [ht]; congr 1; omega⟩
  have vals : Vals ((List.range j).map fun i => V.int (i : Nat)) acc'.toList := by
    rw [List.range_eq_range']
    refine aux _ _ 0 (by rw [Array.length_toList]; exact hacc.1) fun i v hi => ?_
    obtain ⟨t, ht⟩ := hacc.2 i v (by rw [← Array.getElem?_toList]; exact hi)
    exact ⟨t, by rw [ht]; congr 1; omega⟩
  exact ⟨by simp only [List.length_map, List.length_range]; exact Nat.le_trans hj (by rw [sizeLine_eq]; decide), acc'.toList, c', vals, hS'⟩
def rSlW : V → Option Int → Option Int → Hp → VK → Prop := fun x lo hi H Q => ∃ a xs, x = .ref a ∧ H a = some (.tup xs) ∧ ∀ p H', Same H H' → H' p = some (.tup (cutV xs lo hi)) → (p = a ∨ H p = none) → Q (.ref p) H'
theorem getItem_tuple_whole {prog : Program} {w : World} {A : Around} {E : Value → Shared → Prop} {s : Shared} {t sl : Addr} {items : Array Value} {vl vu : Value} {lo hi : Option Int} {Q : Value → Shared → Prop} (ht : IsTup s.heap t items) (hs : s.heap.IsSliceOf sl vl vu .none) (pl : IsPart vl lo) (pu : IsPart vu hi)
    (hw : HT.sIx items.size 0 lo = 0 ∧ HT.sIx items.size items.size hi = items.size) (h : Q (.ref t) s) : wpAny (model prog w) A (getItem (.ref t) (.ref sl)) Q E s := by
  obtain ⟨os, hos, hcs, hds⟩ := id hs
  have hTs : s.TypeIs (.ref sl) "slice" := ⟨os, hos, hcs⟩
  unfold getItem
  try with_reducible refine wpAny_holding ?_
  first | refine wpAny_bind (wpAny_pure ?_) | skip
  refine wpAny_bind (wpAny_sequenceKey ht.typeIs (by decide) ?_)
  refine wpAny_bind (wpAny_callSpecial?_slot (name := Str.ofString "__getitem__") ht.typeIs PyProof.Rows.slot_tuple_getitem
    (wpAny_call_entry PyProof.Rows.slot_tuple_getitem ht.typeIs entry_tuple_getitem ?_ (args_tuple_getitem _ _)))
  show wpAny _ _ (Builtin.Tuple.tupleItemsOf (.ref t) >>= _) _ _ s
  refine wpAny_bind (tupleItemsOf_ ht ?_)
  refine wpAny_bind (wpAny_typeOf hTs ?_)
  rw [if_pos (by decide)]
  refine wpAny_bind (HT.sliceApplied_gen hs pl pu ?_)
  show wpAny _ _ (if (((HT.sIx items.size 0 lo : Nat) : Int) == 0 && (1 : Int) == 1 && (HT.sIx items.size items.size hi - HT.sIx items.size 0 lo) == items.size) = true then _ else _) _ _ s
  rw [hw.1, hw.2, if_pos (by simp)]
  refine wpAny_bind (m := Builtin.Tuple.tupleIsExact _) ?_
  unfold Builtin.Tuple.tupleIsExact
  refine wpAny_bind (wpAny_typeOf ht.typeIs (wpAny_pure ?_))
  rw [if_pos (by rfl)]
  exact wpAny_bind (wpAny_rule (wpAny_pure ⟨_, rfl, wpAny_pure h⟩))
theorem sl_tupW : SlR X rSlW := by
  intro pins s σ H x v vl vu lo hi sl Q I rx hs pl pu h
  obtain ⟨a, xs, rfl, hx, q⟩ := h
  by_cases hw : HT.sIx xs.length 0 lo = 0 ∧ HT.sIx xs.length xs.length hi = xs.length
  · cases rx
    obtain ⟨its, r, ht, hz⟩ := I.tuple (SqT.of hx)
    have hlen : its.toArray.size = xs.length := by rw [List.size_toArray]; exact r.length.symm
    refine ⟨"tuple", _, PyProof.Rows.slot_tuple_getitem.lookup, ht.typeIs, ?_⟩
    refine getItem_tuple_whole ht hs pl pu (by rw [hlen]; exact hw) ⟨.ref a, H, I, rfl, q a H (Same.refl H) ?_ (.inl rfl)⟩
    have : cutV xs lo hi = xs := by unfold cutV; rw [hw.1, hw.2]; simp
    rw [this]; exact hx
  · exact sl_tup pins s σ H _ v vl vu lo hi sl Q I rx hs pl pu ⟨a, xs, rfl, SqT.of hx, hw, fun p hp => q p _ (fun b o e => by rw [upd_ne (ne_of_none e hp)]; exact e) upd_same (.inr hp)⟩
def rCatW : R2 := fun x y H Q => ∃ a b xs ys, x = .ref a ∧ y = .ref b ∧ H a = some (.tup xs) ∧ H b = some (.tup ys) ∧ xs.length + ys.length ≤ sizeLine ∧ ∀ p H', Same H H' → H' p = some (.tup (xs ++ ys)) → Q (.ref p) H'
theorem op_catW : OpR X (binaryOp .Add) rCatW := by
  intro pins s σ H x y v u Q I rx ry h
  obtain ⟨a, b, xs, ys, rfl, rfl, ha, hb, hz, q⟩ := h
  by_cases hx : xs = []
  · subst hx
    cases rx
    cases ry
    obtain ⟨its, r1, p1, _⟩ := I.tuple (SqT.of ha)
    obtain ⟨its2, r2, p2, _⟩ := I.tuple (SqT.of hb)
    cases r1
    obtain ⟨⟨cls, dd, data, sl⟩, ho, hc, n, hd⟩ := id p1
    obtain ⟨⟨cls2, dd2, data2, sl2⟩, ho2, hc2, n2, hd2⟩ := id p2
    simp only at hc hd hc2 hd2
    subst hc hd hc2 hd2
    exact concat_meets ⟨_, ho, rfl⟩ ⟨_, ho2, rfl⟩ noFill_tuple_add seq_tuple_add PySem.F.slot_tuple_add PySem.F.entry_tuple_add (PySem.F.args_tuple_add_2 _ _)
      (tuple_addW0 a b _ its2.toArray n n2 dd dd2 sl sl2 (by simp)) ⟨ho, ho2, ⟨.ref b, H, I, rfl, q b H (Same.refl H) hb⟩⟩
  · refine op_catT pins s σ H _ _ v u Q I rx ry ⟨a, b, xs, ys, rfl, rfl, SqT.of ha, SqT.of hb, hx, hz, fun e => q a H (Same.refl H) (by subst e; simpa using ha), fun _ p hp => q p _ (fun b o e => by rw [upd_ne (ne_of_none e hp)]; exact e) upd_same⟩
theorem vals_ix {ns : List Int} {us : List Value} (r : Vals (ns.map V.int) us) (j : Nat) (h : j < us.length) (h' : j < ns.length) : ∃ t, us[j] = Value.int ns[j] t := by
  obtain ⟨u, hu, ru⟩ := r.get (i := j) (x := V.int ns[j]) (by rw [List.getElem?_map, List.getElem?_eq_getElem h']; rfl)
  rw [List.getElem?_eq_getElem h] at hu
  cases hu
  exact ru
theorem all_ints (ns ms : List Int) (h : ns.length = ms.length) : ((List.range ns.length).all fun j => (ns.getD j 0 == ms.getD j 0)) = decide (ns = ms) := by
  rw [Bool.eq_iff_iff, List.all_eq_true, decide_eq_true_iff]
  constructor
  · intro q
    refine List.ext_getElem h fun i h1 h2 => ?_
    have := q i (List.mem_range.mpr h1)
    simp only [List.getD_eq_getElem?_getD, List.getElem?_eq_getElem h1, List.getElem?_eq_getElem h2, Option.getD_some, beq_iff_eq] at this
    exact this
  · rintro rfl i _
    simp
end
end L3
namespace L3
open PySem PySem.Spec PyProof.Rows L2
def notStar : Expr → Bool
  | .Starred .. => false
  | _ => true
theorem star_cons {e : Expr} {es : List Expr} {env : Env} (h : notStar e = true) : starEach (e :: es) env = (false, eval e env) :: starEach es env := by
  cases e <;> first | rfl | cases h
theorem pac {X : Cx} {e : Expr} {es : List Expr} {te : TE} {t : TA} (ha : PE X e te) (hr : PA X es t) (h : notStar e = true := by rfl) : PA X (e :: es) (tCons te t) := pa_cons ha hr (star_cons h)
structure Df (P : Program) (w : World) (K : PySem.W.Frag) (mg : Str → Option Value) (base : Heap) (x : Str) (ps : List Str) (k : Nat) (sp : Sp) : Prop where
  ex : ∃ (f : Addr) (fd : FuncData), FnOk P w K mg base CX0 k f fd ps sp ∧ mg x = some (.ref f) ∧ PySem.W.keepIn K (.ref f) = true ∧ Binds K fd ps []
structure At (K : PySem.W.Frag) (mg : Str → Option Value) (x : Str) (st : Stmt) (ps : List Str) : Prop where
  ex : ∃ (f : Addr) (fd : FuncData), Fun K x x st f fd ∧ mg x = some (.ref f) ∧ PySem.W.keepIn K (.ref f) = true ∧ Binds K fd ps []
section
variable {P : Program} {w : World} {K : PySem.W.Frag} {mg : Str → Option Value} {base : Heap}
theorem At.df {x : Str} {st : Stmt} {ps N : List Str} {k : Nat} {sp : Sp} (a : At K mg x st ps) (S : FnScope N ps (defScope st)) (len : ∀ vs H Q E, sp vs H Q E → vs.length = ps.length)
    (hbody : ∀ (f : Addr) (cdv : Value) (A : Around) (outer : List Env) (s : Shared) (H : Hp) (vs : List V) (Q : VK) (E : XK), Room k (A.deeper (envOfC x (defScope st) s.heap.objs.size f cdv)) → sp vs H Q E →
      ∃ t, PSs (cxOf CX0 P w K mg base N x (defScope st) f cdv A outer s H E).nox (defBody st) t ∧ t { nx := fun _ H' => Q .non H', rt := Q } (start N vs) H) : Df P w K mg base x ps (k + 1) sp := by
  obtain ⟨f, fd, F, m, kp, bd⟩ := a.ex
  exact ⟨f, fd, F.ok S len (fun cdv A outer s H vs Q E hr h => hbody f cdv A outer s H vs Q E hr h), m, kp, bd⟩
end
section
variable {X : Cx} {x : Str} {ps : List Str} {k : Nat} {sp : Sp} {e : Expr} {es : List Expr} {p pos : Pos} {t : TA}
theorem pe_def (D : Df X.prog X.w X.K X.mg X.base x ps k sp) (hr : Room k X.A) (ha : PA X (e :: es) t) (hg : Gl X x := by rfl) (hdb : (x == ("__debug__" : Str)) = false := by decide) (he : starEach (e :: es) X.env = (false, eval e X.env) :: starEach es X.env := by rfl) (hpl : (backTo pos (starEach es X.env)).any (·.1) = false := by rfl) :
    PE X (.Call (.Name x p) (e :: es) [] pos) (tCall sp [] E0 t) := by
  obtain ⟨f, fd, ok, m, kp, bd⟩ := D.ex
  exact pe_call ok hr hg m kp bd .nil pass0 ha hdb he hpl
end
theorem bsc0 {X : Cx} {scope : Scope} (kind : scope.kind = .function) (names : ∀ x ∈ scope.names, x.2 = .local → scope.names.lookup x.1 = some .local) (nocell : ∀ x ∈ scope.names, x.2 ≠ .cell)
    (free : ∀ x ∈ scope.names, x.2 = .free → x.1 ∈ ([] : List Str)) : BScope X scope [] [] := ⟨kind, names, nocell, free, rfl, fun i j y h => by simp at h⟩
theorem bsc1 {X : Cx} {scope : Scope} {y : Str} {j : Nat} (kind : scope.kind = .function) (names : ∀ x ∈ scope.names, x.2 = .local → scope.names.lookup x.1 = some .local) (nocell : ∀ x ∈ scope.names, x.2 ≠ .cell)
    (free : ∀ x ∈ scope.names, x.2 = .free → x.1 ∈ ([y] : List Str)) (h1 : X.N[j]? = some y) (h2 : X.env.kindOf y = some .cell) (h3 : (relabel scope X.env).names.lookup y = some .cell) : BScope X scope [y] [j] :=
  ⟨kind, names, nocell, free, rfl, fun i j' y' e1 e2 => by
    cases i with
    | zero => cases e1; cases e2; exact ⟨h1, h2, h3⟩
    | succ i => simp at e1⟩
theorem clo1 {X : Cx} {y : Str} {c : Addr} (h : X.env.cells.lookup y = some c) : ∀ z d, ([(y, c)] : List (Str × Addr)).lookup z = some d → X.env.cells.lookup z = some d := fun z d e => by
  by_cases hz : z = y
  · subst hz
    simp at e
    rw [← e]; exact h
  · simp [List.lookup_cons, show (z == y) = false from by simpa using hz] at e
theorem ix_listK {X : Cx} {K : PySem.W.Frag} (h : X.K = K) : IxR X (rIxL K) := by subst h; exact ix_list
theorem ix_tupK {X : Cx} {K : PySem.W.Frag} (h : X.K = K) : IxR X (rIxT K) := by subst h; exact ix_tup
abbrev BoxL (n m k : Int) : HO := .lst [.int n, .int m, .int k]
theorem _root_.L2.Same.upd {H : Hp} {p : Addr} {o : HO} (h : H p = none) : Same H (upd H p o) := fun b u e => by rw [upd_ne (ne_of_none e h)]; exact e
theorem b01_lo (c : Bool) : -(2 ^ 64 : Int) < (if c = true then (1 : Int) else 0) := by cases c <;> decide
theorem b01_hi (c : Bool) : (if c = true then (1 : Int) else 0) < (2 ^ 64 : Int) := by cases c <;> decide
theorem ixN_nat {n j : Nat} (h : j < n) : ixN n (j : Int) = some j := by unfold ixN; rw [if_pos (by omega), if_pos (by omega)]; simp
def cutI (ns : List Int) (lo hi : Option Int) : List Int := (ns.drop (HT.sIx ns.length 0 lo)).take (HT.sIx ns.length ns.length hi - HT.sIx ns.length 0 lo)
theorem cut_ints (ns : List Int) (lo hi : Option Int) : cutV (ns.map V.int) lo hi = (cutI ns lo hi).map V.int := by unfold cutV cutI; rw [List.length_map, List.map_take, List.map_drop]
theorem ints_get {ns : List Int} {i : Nat} {x : V} (h : (ns.map V.int)[i]? = some x) : ∃ z, x = .int z ∧ ns[i]? = some z := by
  rw [List.getElem?_map] at h
  cases e : ns[i]? with
  | none => rw [e] at h; cases h
  | some z => rw [e] at h; exact ⟨z, (Option.some.inj h).symm, rfl⟩
theorem ints_at {ns : List Int} {i : Nat} (h : i < ns.length) : (ns.map V.int)[i]? = some (.int ns[i]) := by rw [List.getElem?_map, List.getElem?_eq_getElem h]; rfl
theorem ints_set (ns : List Int) (i : Nat) (z : Int) : (ns.map V.int).set i (.int z) = (ns.set i z).map V.int := by rw [List.map_set]
def kdO : Option HO → Option String
  | some (.lst _) => some "list"
  | some (.tup _) => some "tuple"
  | _ => none
def kd (H : Hp) : V → Option String
  | .non => some "NoneType"
  | .bl _ => some "bool"
  | .int _ => some "int"
  | .str _ => some "str"
  | .ref a => kdO (H a)
  | _ => none
theorem kdO_cases {o : Option HO} {t : String} (h : kdO o = some t) : (∃ xs, o = some (.lst xs) ∧ t = "list") ∨ (∃ xs, o = some (.tup xs) ∧ t = "tuple") := by
  cases o with
  | none => cases h
  | some u =>
    cases u with
    | lst xs => cases h; exact .inl ⟨xs, rfl, rfl⟩
    | tup xs => cases h; exact .inr ⟨xs, rfl, rfl⟩
    | _ => cases h
theorem kd_ref {H : Hp} {a : Addr} {t : String} (h : kd H (.ref a) = some t) : (∃ xs, H a = some (.lst xs) ∧ t = "list") ∨ (∃ xs, H a = some (.tup xs) ∧ t = "tuple") := kdO_cases h
theorem kd_ty {K : PySem.W.Frag} {H : Hp} {x : V} {t : String} (h : kd H x = some t) : TyOf K H x (.type t) ∧ t ∈ tysL := by
  cases x with
  | non => cases h; exact ⟨.non, by simp⟩
  | bl b => cases h; exact ⟨.bl b, by simp⟩
  | int i => cases h; exact ⟨.int i, by simp⟩
  | str x => cases h; exact ⟨.str x, by simp⟩
  | byt b => cases h
  | flt b => cases h
  | ty b => cases h
  | ref a =>
    rcases kd_ref h with ⟨xs, e, rfl⟩ | ⟨xs, e, rfl⟩
    · exact ⟨.lst e, by simp⟩
    · exact ⟨.tup e, by simp⟩
theorem kd_mono {H H' : Hp} {x : V} {t : String} (s : Same H H') (h : kd H x = some t) : kd H' x = some t := by
  cases x with
  | ref a =>
    rcases kd_ref h with ⟨xs, e, rfl⟩ | ⟨xs, e, rfl⟩
    · show kdO (H' a) = _; rw [s _ _ e]; rfl
    · show kdO (H' a) = _; rw [s _ _ e]; rfl
  | _ => exact h
def isDig : V → Bool
  | .int i => decide (0 ≤ i) && decide (i < 16)
  | _ => false
theorem draw_at {α : Type} {xs : List α} {r : Int} (h0 : 0 ≤ r) (h1 : r < xs.length) : ∃ v, atI xs r = some v ∧ v ∈ xs := by
  have hr : r.toNat < xs.length := by omega
  refine ⟨xs[r.toNat], ?_, List.getElem_mem hr⟩
  have e : atI xs ((r.toNat : Nat) : Int) = some xs[r.toNat] := atI_nat (List.getElem?_eq_getElem hr)
  rwa [show ((r.toNat : Nat) : Int) = r by omega] at e
def spLaw (K : PySem.W.Frag) : Sp := fun vs H Q _ => ∃ (a : Addr) (ns : List Int), vs = [.ref a] ∧ SqL K H a (ns.map V.int) ∧ ns.length ≤ 63 ∧ ∀ H', Q (.bl true) H'
def spDigit : Sp := fun vs H Q _ => ∃ x t, vs = [x] ∧ kd H x = some t ∧ Q (.bl (isDig x)) H
def spDigits : Sp := fun vs H Q _ => ∃ p xs, vs = [.ref p] ∧ H p = some (.tup xs) ∧ xs.length ≤ sizeLine ∧ (∀ x ∈ xs, ∃ t, kd H x = some t) ∧ ∀ H', Same H H' → Q (.bl (xs.all isDig)) H'
end L3
namespace L3
open PySem PySem.Spec L2
structure QE (X : Cx) (e : Expr) (t : TE) : Prop where
  h : PE X e t
structure QT (X : Cx) (e : Expr) (t : TT) : Prop where
  h : PT X e t
structure QW (X : Cx) (e : Expr) (t : TT) : Prop where
  h : PW X e t
structure QA (X : Cx) (e : List Expr) (t : TA) : Prop where
  h : PA X e t
structure QS (X : Cx) (e : Stmt) (t : TS) : Prop where
  h : PS X e t
structure QSs (X : Cx) (e : List Stmt) (t : TS) : Prop where
  h : PSs X e t
structure QG (X : Cx) (e : Expr) (t : TG) : Prop where
  h : PG X e t
structure QGs (X : Cx) (e : List Expr) (t : TGs) : Prop where
  h : PGs X e t
structure QO (X : Cx) (e : Option Expr) (t : TO) : Prop where
  h : PO X e t
structure QI (X : Cx) (tg e : Expr) (t : TI) : Prop where
  h : PI X tg e t
variable {X : Cx}
theorem qe_int  {i j pos} : QE X (.Constant (.int i) j pos) (tC (.int i)) := ⟨pe_int ⟩
theorem qe_bl  {b j pos} : QE X (.Constant (.bool b) j pos) (tC (.bl b)) := ⟨pe_bl ⟩
theorem qe_non  {j pos} : QE X (.Constant .none j pos) (tC .non) := ⟨pe_non ⟩
theorem qe_str  {x j pos} : QE X (.Constant (.str x) j pos) (tC (.str x)) := ⟨pe_str ⟩
theorem qe_glob  {x : Str} {v : V} {u : Value} {pos : Pos} (hg : Gl X x) (hm : X.mg x = some u) (r : RelV v u) (hd : (x == ("__debug__" : Str)) = false := by decide) : QE X (.Name x pos) (tC v) := ⟨pe_glob (hg := hg) (hm := hm) (r := r) (hd := hd)⟩
theorem qe_bltn  {x : Str} {v : V} {u : Value} {pos : Pos} (hg : Gl X x) (hm : X.mg x = none) (hv : bootBuiltins x = some u) (r : RelV v u) (hn : x ≠ "__name__" := by decide) (hd : (x == ("__debug__" : Str)) = false := by decide) : QE X (.Name x pos) (tC v) := ⟨pe_bltn (hg := hg) (hm := hm) (hv := hv) (r := r) (hn := hn) (hd := hd)⟩
theorem qe_op  {a b : Expr} {ta tb : TE} {pos : Pos} {op : Operator} {r : R2} (ho : OpR X (binaryOp op) r) (ha : QE X a ta) (hb : QE X b tb) : QE X (.BinOp a op b pos) (tOp r ta tb) := ⟨pe_op (ho := ho) (ha := ha.h) (hb := hb.h)⟩
theorem qe_un  {a : Expr} {ta : TE} {pos : Pos} {op : UnaryOp} {r : V → Hp → VK → Prop} (ho : UnR X (unaryOp op) r) (ha : QE X a ta) : QE X (.UnaryOp op a pos) (tUn r ta) := ⟨pe_un (ho := ho) (ha := ha.h)⟩
theorem qe_cmpR  {a b : Expr} {ta tb : TE} {pos : Pos} {op : CmpOp} {r : R2} (ho : OpR X (compareOp op) r) (ha : QE X a ta) (hb : QE X b tb) (hm : behindInMarks op b = false) : QE X (.Compare a [op] [b] pos) (tOp r ta tb) := ⟨pe_cmpR (ho := ho) (ha := ha.h) (hb := hb.h) (hm := hm)⟩
theorem qt_cmpR  {a b : Expr} {ta tb : TE} {pos : Pos} {op : CmpOp} {r : R2} (ho : OpR X (compareOp op) r) (ha : QE X a ta) (hb : QE X b tb) (hm : behindInMarks op b = false) : QT X (.Compare a [op] [b] pos) (tTest (tOp r ta tb)) := ⟨pt_cmpR (ho := ho) (ha := ha.h) (hb := hb.h) (hm := hm)⟩
theorem qe_chain  {a b c : Expr} {ta tb tc : TE} {pos : Pos} {op op' : CmpOp} {r r' : R2} (ho : OpR X (compareOp op) r) (ho' : OpR X (compareOp op') r') (ha : QE X a ta) (hb : QE X b tb) (hc : QE X c tc) (hm : lastMarks [op, op'] [b, c] = false := by with_unfolding_all rfl) : QE X (.Compare a [op, op'] [b, c] pos) (tChain r r' ta tb tc) := ⟨pe_chain (ho := ho) (ho' := ho') (ha := ha.h) (hb := hb.h) (hc := hc.h) (hm := hm)⟩
theorem qt_chain  {a b c : Expr} {ta tb tc : TE} {pos : Pos} {op op' : CmpOp} {r r' : R2} (ho : OpR X (compareOp op) r) (ho' : OpR X (compareOp op') r') (ha : QE X a ta) (hb : QE X b tb) (hc : QE X c tc) (hm : lastMarks [op, op'] [b, c] = false := by with_unfolding_all rfl) : QT X (.Compare a [op, op'] [b, c] pos) (tTest (tChain r r' ta tb tc)) := ⟨pt_chain (ho := ho) (ho' := ho') (ha := ha.h) (hb := hb.h) (hc := hc.h) (hm := hm)⟩
theorem qe_and  {a b : Expr} {rest : List Expr} {ta tb : TE} {pos : Pos} (ha : QE X a ta) (hb : QE X (.BoolOp .And (b :: rest) pos) tb) : QE X (.BoolOp .And (a :: b :: rest) pos) (tAndV ta tb) := ⟨pe_and (ha := ha.h) (hb := hb.h)⟩
theorem qe_one  {a : Expr} {pos : Pos} {op} {t : TE} (h : QE X a t) : QE X (.BoolOp op [a] pos) t := ⟨pe_one (h := h.h)⟩
theorem qe_not  {a : Expr} {ta : TE} {pos : Pos} (ha : QE X a ta) : QE X (.UnaryOp .Not a pos) (tNotV ta) := ⟨pe_not (ha := ha.h)⟩
theorem qw_and  {a b : Expr} {rest : List Expr} {tA tB' : TT} {pos : Pos} (ha : QT X a tA) (hb : QW X (.BoolOp .And (b :: rest) pos) tB') : QW X (.BoolOp .And (a :: b :: rest) pos) (tAnd tA tB') := ⟨pw_and (ha := ha.h) (hb := hb.h)⟩
theorem qw_or  {a b : Expr} {rest : List Expr} {tA tB' : TT} {pos : Pos} (ha : QT X a tA) (hb : QW X (.BoolOp .Or (b :: rest) pos) tB') : QW X (.BoolOp .Or (a :: b :: rest) pos) (tOr tA tB') := ⟨pw_or (ha := ha.h) (hb := hb.h)⟩
theorem qw_and1  {a : Expr} {tA : TT} {pos : Pos} (ha : QT X a tA) : QW X (.BoolOp .And [a] pos) tA := ⟨pw_and1 (ha := ha.h)⟩
theorem qw_or1  {a : Expr} {tA : TT} {pos : Pos} (ha : QT X a tA) : QW X (.BoolOp .Or [a] pos) tA := ⟨pw_or1 (ha := ha.h)⟩
theorem qt_not  {a : Expr} {tA : TT} {pos : Pos} (ha : QT X a tA) : QT X (.UnaryOp .Not a pos) (tNot tA) := ⟨pt_not (ha := ha.h)⟩
theorem qt_val  {e : Expr} {t : TE} (h : QE X e t) (he : ∀ whole, isTrue e X.env whole = (do let v ← whole; standAt e.pos; holding [v] (truthy v)) := by intro _; rfl) : QT X e (tB t) := ⟨pt_val (h := h.h) (he := he)⟩
theorem qac  {e : Expr} {es : List Expr} {te : TE} {t : TA} (ha : QE X e te) (hr : QA X es t) (h : notStar e = true := by rfl) : QA X (e :: es) (tCons te t) := ⟨pac (ha := ha.h) (hr := hr.h) (h := h)⟩
theorem qa_nil  : QA X [] tNil := ⟨pa_nil ⟩
theorem qe_tup  {es : List Expr} {t : TA} {pos : Pos} {x1} (h : QA X es t) : QE X (.Tuple es x1 pos) (tTup t) := ⟨pe_tup (h := h.h)⟩
theorem qe_lst  {es : List Expr} {t : TA} {pos : Pos} (h : QA X es t) : QE X (.List es pos) (tLst t) := ⟨pe_lst (h := h.h)⟩
theorem qe_ix  {a b : Expr} {ta tb : TE} {pos : Pos} {r : R2} (hr : IxR X r) (ha : QE X a ta) (hb : QE X b tb) (hs : PlainIx b) : QE X (.Subscript a b pos) (tOp r ta tb) := ⟨pe_ix (hr := hr) (ha := ha.h) (hb := hb.h) (hs := hs)⟩
theorem qe_slice  {e : Expr} {te : TE} {lo hi : Option Expr} {tl th : TO} {pos p2 : Pos} {r : V → Option Int → Option Int → Hp → VK → Prop} (hr : SlR X r) (he : QE X e te) (hl : QO X lo tl) (hu : QO X hi th) : QE X (.Subscript e (.Slice lo hi none p2) pos) (tSl r te tl th) := ⟨pe_slice (hr := hr) (he := he.h) (hl := hl.h) (hu := hu.h)⟩
theorem qo_none  : QO X none tNoPart := ⟨po_none ⟩
theorem qo_some  {e : Expr} {te : TE} (h : QE X e te) : QO X (some e) (tPart te) := ⟨po_some (h := h.h)⟩
theorem qe_callB  {x : Str} {p pos : Pos} {e : Expr} {es : List Expr} {t : TA} {id : String} {r : List V → Hp → VK → Prop} (hc : CallR X (.builtin id) r) (hg : Gl X x) (hm : X.mg x = none) (hv : bootBuiltins x = some (.builtin id)) (ha : QA X (e :: es) t) (hn : x ≠ "__name__" := by decide) (hdb : (x == ("__debug__" : Str)) = false := by decide) (he : starEach (e :: es) X.env = (false, eval e X.env) :: starEach es X.env := by rfl) (hpl : (backTo pos (starEach es X.env)).any (·.1) = false := by rfl) : QE X (.Call (.Name x p) (e :: es) [] pos) (tCB r t) := ⟨pe_callB (hc := hc) (hg := hg) (hm := hm) (hv := hv) (ha := ha.h) (hn := hn) (hdb := hdb) (he := he) (hpl := hpl)⟩
theorem qe_callTy  {x : Str} {p pos : Pos} {e : Expr} {es : List Expr} {t : TA} {T : String} {r : List V → Hp → VK → Prop} (hc : CallR X (.type T) r) (hg : Gl X x) (hm : X.mg x = none) (hv : bootBuiltins x = some (.type T)) (ha : QA X (e :: es) t) (hn : x ≠ "__name__" := by decide) (hdb : (x == ("__debug__" : Str)) = false := by decide) (he : starEach (e :: es) X.env = (false, eval e X.env) :: starEach es X.env := by rfl) (hpl : (backTo pos (starEach es X.env)).any (·.1) = false := by rfl) : QE X (.Call (.Name x p) (e :: es) [] pos) (tCB r t) := ⟨pe_callTy (hc := hc) (hg := hg) (hm := hm) (hv := hv) (ha := ha.h) (hn := hn) (hdb := hdb) (he := he) (hpl := hpl)⟩
theorem qe_def  {x : Str} {ps : List Str} {k : Nat} {sp : Sp} {e : Expr} {es : List Expr} {p pos : Pos} {t : TA} (D : Df X.prog X.w X.K X.mg X.base x ps k sp) (hr : Room k X.A) (ha : QA X (e :: es) t) (hg : Gl X x := by rfl) (hdb : (x == ("__debug__" : Str)) = false := by decide) (he : starEach (e :: es) X.env = (false, eval e X.env) :: starEach es X.env := by rfl) (hpl : (backTo pos (starEach es X.env)).any (·.1) = false := by rfl) : QE X (.Call (.Name x p) (e :: es) [] pos) (tCall sp [] E0 t) := ⟨pe_def (D := D) (hr := hr) (ha := ha.h) (hg := hg) (hdb := hdb) (he := he) (hpl := hpl)⟩
theorem qss_nil  : QSs X [] tNext := ⟨pss_nil ⟩
theorem qss_cons  {st : Stmt} {rest : List Stmt} {t u : TS} (h1 : QS X st t) (h2 : QSs X rest u) : QSs X (st :: rest) (tSeq t u) := ⟨pss_cons (h1 := h1.h) (h2 := h2.h)⟩
theorem qss_one  {st : Stmt} {t : TS} (h1 : QS X st t) : QSs X [st] t := ⟨pss_one (h1 := h1.h)⟩
theorem qs_set  {pos : Pos} {i : Nat} {x : Str} {e : Expr} {te : TE} {pos' : Pos} (hN : X.N.Nodup) (hi : X.N[i]? = some x) (hx : Loc X.env.scope x) (he : QE X e te) (hs : swapsWith e (some (.Name x pos')) pos.line X.env = pure false := by rfl) (hf : X.fn x = true ∨ X.env.scope.names.lookup x = some .local := by first | exact .inl rfl | exact .inr rfl | assumption) : QS X (.Assign [.Name x pos'] e pos) (tAsg te (gName i)) := ⟨ps_set (hN := hN) (hi := hi) (hx := hx) (he := he.h) (hs := hs) (hf := hf)⟩
theorem qs_asg  {pos : Pos} {tg e : Expr} {te : TE} {g : TG} (he : QE X e te) (hg : QG X tg g) (hs : swapsWithSole [tg] e pos.line X.env = pure false := by rfl) (hw : swappedStores [tg] e X.env = pure none := by rfl) (h1 : (assignEach [tg] X.env).map (·.2) = [assign tg X.env] := by rfl) : QS X (.Assign [tg] e pos) (tAsg te g) := ⟨ps_asg (he := he.h) (hg := hg.h) (hs := hs) (hw := hw) (h1 := h1)⟩
theorem qs_ret  {e : Expr} {te : TE} {pos : Pos} (he : QE X e te) : QS X (.Return (some e) pos) (tRet te) := ⟨ps_ret (he := he.h)⟩
theorem qs_if  {t u : TS} {pos : Pos} {c : Expr} {a b : List Stmt} {tc : TT} (hc : QT X c tc) (ha : QSs X a t) (hb : QSs X b u) : QS X (.If c a b pos) (tIfS tc t u) := ⟨ps_if (hc := hc.h) (ha := ha.h) (hb := hb.h)⟩
theorem qs_for  {tg : Expr} {iter : Expr} {body : List Stmt} {wi : TI} {g : TG} {tb : TS} {pos : Pos} (hp : PassesOwn (model X.prog X.w) X.A X.env X.xe) (hc : X.calm = true) (hi : QI X tg iter wi) (hg : QG X tg g) (hb : QSs X body tb) (hs : ∀ x, foldedSetIterable iter X.env x = pure x := by intro _; rfl) : QS X (.For tg iter body [] pos) (tFor wi g tb) := ⟨ps_for (hp := hp) (hc := hc) (hi := hi.h) (hg := hg.h) (hb := hb.h) (hs := hs)⟩
theorem qs_expr  {e : Expr} {te : TE} {pos : Pos} (he : QE X e te) (hs : swapsWith e none pos.line X.env = pure false := by rfl) : QS X (.Expr e pos) (tDrop te) := ⟨ps_expr (he := he.h) (hs := hs)⟩
theorem qs_augS  {pos : Pos} {o i e : Expr} {to ti te : TE} {tget : V → V → Hp → VK → Prop} {tip : TIp} {tset : TSet} {op : Operator} {tpos : Pos} (ho : QE X o to) (hi : QE X i ti) (hg : PGet X tget) (he : QE X e te) (hp : PIp X op tip) (hs : PSet X tset) (ha : ∀ ov iv new, augStore i ov iv new = (do holding [new, ov, iv] (setItem ov iv new); release [new, ov, iv] []; pure .next) := by intros; rfl) : QS X (.AugAssign (.Subscript o i tpos) op e pos) (tAugS to ti te tget tip tset) := ⟨ps_augS (ho := ho.h) (hi := hi.h) (hg := hg) (he := he.h) (hp := hp) (hs := hs) (ha := ha)⟩
theorem qi_list  {tg : Expr} {l : Expr} {tl : TE} (hl : QE X l tl) : QI X tg l (iList X.K tl) := ⟨pi_list (hl := hl.h)⟩
theorem qi_tup  {tg : Expr} {l : Expr} {tl : TE} (hl : QE X l tl) : QI X tg l (iTup X.K tl) := ⟨pi_tup (hl := hl.h)⟩
theorem qi_range1  {tg : Expr} {a : Expr} {ta : TA} {p pos : Pos} (hg : Gl X "range") (hm : X.mg "range" = none) (ha : QA X [a] ta) (hs : starEach [a] X.env = [(false, eval a X.env)] := by rfl) : QI X tg (.Call (.Name "range" p) [a] [] pos) (iRng1 ta) := ⟨pi_range1 (hg := hg) (hm := hm) (ha := ha.h) (hs := hs)⟩
theorem qi_enum  {a : Expr} {ta : TA} {p pos : Pos} {elts : List Expr} {x1} {tpos : Pos} (hg : Gl X "enumerate") (hm : X.mg "enumerate" = none) (ha : QA X [a] ta) (hs : starEach [a] X.env = [(false, eval a X.env)] := by rfl) : QI X (.Tuple elts x1 tpos) (.Call (.Name "enumerate" p) [a] [] pos) (iEnum X.K ta) := ⟨pi_enum (hg := hg) (hm := hm) (ha := ha.h) (hs := hs)⟩
theorem qg_name  {pos : Pos} {i : Nat} {x : Str} (hN : X.N.Nodup) (hi : X.N[i]? = some x) (hx : Loc X.env.scope x) (hf : X.fn x = true ∨ X.env.scope.names.lookup x = some .local := by first | exact .inl rfl | exact .inr rfl | assumption) : QG X (.Name x pos) (gName i) := ⟨pg_name (hN := hN) (hi := hi) (hx := hx) (hf := hf)⟩
theorem qg_tup  {pos : Pos} {es : List Expr} {k : Nat} {t : TGs} {n : Nat} (hc : X.calm = true) (h : QGs X es t) (hn : (assignEach es X.env).length = n := by rfl) (hst : (assignEach es X.env).findIdx? (·.1) = none := by rfl) : QG X (.Tuple es k pos) (gTup X.K n t) := ⟨pg_tup (hc := hc) (h := h.h) (hn := hn) (hst := hst)⟩
theorem qg_sub  {pos : Pos} {o i : Expr} {to ti : TE} {t : TSet} (ho : QE X o to) (hi : QE X i ti) (hs : PSet X t) (ha : ∀ v, assign (.Subscript o i pos) X.env v = (do
      let ov ← holding [v] (eval o X.env)
      let iv ← holding [v, ov] (eval i X.env)
      standAt pos
      holding [v, ov, iv] (setItem ov iv v)
      release [v, ov, iv] []) := by intro _; rfl) : QG X (.Subscript o i pos) (gSub to ti t) := ⟨pg_sub (ho := ho.h) (hi := hi.h) (hs := hs) (ha := ha)⟩
theorem qgs_nil  : QGs X [] gNil := ⟨pgs_nil ⟩
theorem qgs_cons  {e : Expr} {es : List Expr} {t : TG} {u : TGs} (h1 : QG X e t) (h2 : QGs X es u) (hs : (assignEach (e :: es) X.env).map (·.2) = assign e X.env :: (assignEach es X.env).map (·.2) := by rfl) : QGs X (e :: es) (gCons t u) := ⟨pgs_cons (h1 := h1.h) (h2 := h2.h) (hs := hs)⟩
theorem QW.pt {e : Expr} {t : TT} (h : QW X e t) : QT X e t := ⟨PW.pt h.h⟩
theorem qv (i : Nat) {x : Str} {pos : Pos} (hN : X.N[i]? = some x := by rfl) (hv : Vis X.env.scope x := by first | exact Or.inl rfl | exact Or.inr (Or.inl rfl) | exact Or.inr (Or.inr rfl)) (hd : (x == ("__debug__" : Str)) = false := by decide)
    (hcd : (x == ("__classdict__" : Str)) = false := by decide) : QE X (.Name x pos) (tVar i) := ⟨pe_var hN hv hd hcd⟩
theorem qe_comp {elt tg iter : Expr} {scope : Scope} {cl : List (Str × Addr)} {pos : Pos} {fr own : List Str} {js : List Nat} {wi : TI} {g : TG} {te : TE}
    (hc : X.calm = true) (hi : QI X tg iter wi) (hclos : closureFor scope X.env = pure cl) (hcl : ∀ y c, cl.lookup y = some c → X.env.cells.lookup y = some c) (hfr : cl.map (·.1) = fr)
    (S : BScope X scope fr js)
    (hg : ∀ C s H fp, QG (blk X (own ++ fr) scope cl C s H fp) tg g) (he : ∀ C s H fp, QE (blk X (own ++ fr) scope cl C s H fp) elt te)
    (hs : ∀ x, foldedSetIterable iter X.env x = pure x := by intro _; rfl) :
    QE X (.ListComp elt [⟨tg, iter, [], 0⟩] scope pos) (tComp own.length js wi g te) := ⟨pe_comp hc hi.h hclos hcl hfr S (fun C s H fp => (hg C s H fp).h) (fun C s H fp => (he C s H fp).h) hs⟩
theorem qs_comp {elt tg iter : Expr} {scope : Scope} {cl : List (Str × Addr)} {pos spos py : Pos} {fr own : List Str} {js : List Nat} {wi : TI} {g : TG} {te : TE} {i : Nat} {y : Str}
    (hN : X.N.Nodup) (hi' : X.N[i]? = some y) (hx : Loc X.env.scope y)
    (hc : X.calm = true) (hi : QI X tg iter wi) (hclos : closureFor scope X.env = pure cl) (hcl : ∀ y c, cl.lookup y = some c → X.env.cells.lookup y = some c) (hfr : cl.map (·.1) = fr)
    (S : BScope X scope fr js)
    (hg : ∀ C s H fp, QG (blk X (own ++ fr) scope cl C s H fp) tg g) (he : ∀ C s H fp, QE (blk X (own ++ fr) scope cl C s H fp) elt te)
    (hs : ∀ x, foldedSetIterable iter X.env x = pure x := by intro _; rfl) (hsw : swapsWith (.ListComp elt [⟨tg, iter, [], 0⟩] scope pos) (some (.Name y py)) spos.line X.env = pure true := by rfl)
    (hf : X.fn y = true ∨ X.env.scope.names.lookup y = some .local := by first | exact .inl rfl | exact .inr rfl | assumption) :
    QS X (.Assign [.Name y py] (.ListComp elt [⟨tg, iter, [], 0⟩] scope pos) spos) (tAsg (tComp own.length js wi g te) (gName i)) := ⟨ps_comp hN hi' hx hc hi.h hclos hcl hfr S (fun C s H fp => (hg C s H fp).h) (fun C s H fp => (he C s H fp).h) hs hsw hf⟩
section
variable {P : Program} {w : World} {K : PySem.W.Frag} {mg : Str → Option Value} {base : Heap}
theorem At.dq {x : Str} {st : Stmt} {ps N : List Str} {k : Nat} {sp : Sp} (a : At K mg x st ps) (S : FnScope N ps (defScope st)) (len : ∀ vs H Q E, sp vs H Q E → vs.length = ps.length)
    (hbody : ∀ (f : Addr) (cdv : Value) (A : Around) (outer : List Env) (s : Shared) (H : Hp) (vs : List V) (Q : VK) (E : XK), Room k (A.deeper (PyProof.Rows.envOfC x (defScope st) s.heap.objs.size f cdv)) → sp vs H Q E →
      ∃ t, QSs (cxOf CX0 P w K mg base N x (defScope st) f cdv A outer s H E).nox (defBody st) t ∧ t { nx := fun _ H' => Q .non H', rt := Q } (start N vs) H) : Df P w K mg base x ps (k + 1) sp :=
  a.df S len fun f cdv A outer s H vs Q E hr h => let ⟨t, q1, q2⟩ := hbody f cdv A outer s H vs Q E hr h; ⟨t, q1.h, q2⟩
theorem _root_.L2.Fun.dq {x qual : Str} {st : Stmt} {f : Addr} {fd : FuncData} {N ps : List Str} {k : Nat} {sp : Sp} (F : Fun K x qual st f fd) (S : FnScope N ps (defScope st)) (len : ∀ vs H Q E, sp vs H Q E → vs.length = ps.length)
    (hbody : ∀ (cdv : Value) (A : Around) (outer : List Env) (s : Shared) (H : Hp) (vs : List V) (Q : VK) (E : XK), Room k (A.deeper (PyProof.Rows.envOfC qual (defScope st) s.heap.objs.size f cdv)) → sp vs H Q E →
      ∃ t, QSs (cxOf CX0 P w K mg base N qual (defScope st) f cdv A outer s H E).nox (defBody st) t ∧ t { nx := fun _ H' => Q .non H', rt := Q } (start N vs) H) : FnOk P w K mg base CX0 (k + 1) f fd ps sp :=
  F.ok S len fun cdv A outer s H vs Q E hr h => let ⟨t, q1, q2⟩ := hbody cdv A outer s H vs Q E hr h; ⟨t, q1.h, q2⟩
theorem at_mk {x : Str} {st : Stmt} {ps : List Str} {f : Addr} {fd : FuncData} (F : Fun K x x st f fd) (m : mg x = some (.ref f)) (b : Binds K fd ps []) : At K mg x st ps := ⟨f, fd, F, m, F.kp, b⟩
end
end L3
namespace L3
open PySem PySem.Spec PyProof.Rows L2
section
variable {prog : Program} {w : World} {A : Around} {E : Value → Shared → Prop} {s : Shared}
end
section
variable {X : Cx}
end
def digs : List Int := (List.range 16).map fun i => ((i : Nat) : Int)
theorem digs_len : digs.length = 16 := by decide
theorem digs_V : ((List.range 16).map fun i => V.int ((i : Nat) : Int)) = digs.map V.int := by decide +kernel
theorem atI_int {α : Type} {xs : List α} {z : Int} {j : Nat} {v : α} (e : z = (j : Int)) (h : xs[j]? = some v) : atI xs z = some v := by rw [e]; exact atI_nat h
theorem ixN_int {n j : Nat} {z : Int} (e : z = (j : Int)) (h : j < n) : ixN n z = some j := by rw [e]; exact ixN_nat h
theorem digs_mem {z : Int} (h : z ∈ digs) : 0 ≤ z ∧ z < 16 := by
  obtain ⟨i, hi, e⟩ := List.mem_map.mp h
  have := List.mem_range.mp hi
  omega
end L3
namespace L3
open PySem PySem.Spec PyProof.Rows L2
open Sem (wp)
section
variable {prog : Program} {w : World} {A : Around} {E : Value → Shared → Prop} {s : Shared}
theorem nextT_item {it t : Addr} {i : Nat} {its : Array Value} {x : Value} {Q : Value → Shared → Prop} (hit : s.heap.IsTupleIter it t i) (ht : s.heap.IsTuple t its) (hx : its[i]? = some x)
    (hQ : ∀ h', h'.IsTupleIter it t (i + 1) → Heap.SameBut it s.heap h' → Q x { s with heap := h' }) : wpAny (model prog w) A (Builtin.SmallTypes.nextOf (.ref it)) Q E s := by
  obtain ⟨o, ho, hc, hd⟩ := id hit
  obtain ⟨ol, hol, _, nl, hdl⟩ := ht
  unfold Builtin.SmallTypes.nextOf
  refine wpAny_bind (wpAny_callSpecial?_slot (name := Str.ofString "__next__") hit.typeIs F.slot_tuple_iterator_next
    (wpAny_call_entry F.slot_tuple_iterator_next hit.typeIs F.entry_tuple_iterator_next ?_ (F.args_tuple_iterator_next_1 _)))
  show wpAny _ _ (field (.ref it) 0 >>= _) _ _ s
  refine wpAny_bind (wpAny_field ho hd (x := .ref t) rfl ?_)
  show wpAny _ _ (if (Value.ref t == Value.none) = true then _ else _) _ _ s
  rw [if_neg (show ¬ ((Value.ref t == Value.none) = true) from Bool.false_ne_true)]
  show wpAny _ _ (field (.ref it) 1 >>= _) _ _ s
  refine wpAny_bind (wpAny_field ho hd (x := .int i 0) rfl ?_)
  show wpAny _ _ (seqItems? (.ref t) >>= _) _ _ s
  refine wpAny_bind (wpAny_seqItems hol hdl ?_)
  simp only [Int.toNat_natCast, hx]
  refine wpAny_bind (wpAny_setField ho hd (by simp) (wpAny_pure ⟨x, rfl, wpAny_pure (hQ _ ?_ (Heap.SameBut.update ..))⟩))
  exact ⟨_, Heap.get?_update_self _ ho (Obj.isFreed_of_fields (Obj.data_mapFields hd _)), (Obj.cls_mapFields ..).trans hc, by
    rw [Obj.data_mapFields hd]; simp [rawInt]⟩
theorem nextT_end {it t : Addr} {i : Nat} {its : Array Value} {Q : Value → Shared → Prop} (hh : A.handled = none) (hit : s.heap.IsTupleIter it t i) (ht : s.heap.IsTuple t its) (hx : its[i]? = none)
    (hE : ∀ h' e, Heap.ExtBut it s.heap h' → (∃ o, h'.get? e = some o ∧ o.cls = .type "StopIteration") → E (.ref e) { s with heap := h' }) :
    wpAny (model prog w) A (Builtin.SmallTypes.nextOf (.ref it)) Q E s := by
  obtain ⟨o, ho, hc, hd⟩ := id hit
  obtain ⟨ol, hol, _, nl, hdl⟩ := ht
  unfold Builtin.SmallTypes.nextOf
  refine wpAny_bind (wpAny_callSpecial?_slot (name := Str.ofString "__next__") hit.typeIs F.slot_tuple_iterator_next
    (wpAny_call_entry F.slot_tuple_iterator_next hit.typeIs F.entry_tuple_iterator_next ?_ (F.args_tuple_iterator_next_1 _)))
  show wpAny _ _ (field (.ref it) 0 >>= _) _ _ s
  refine wpAny_bind (wpAny_field ho hd (x := .ref t) rfl ?_)
  show wpAny _ _ (if (Value.ref t == Value.none) = true then _ else _) _ _ s
  rw [if_neg (show ¬ ((Value.ref t == Value.none) = true) from Bool.false_ne_true)]
  show wpAny _ _ (field (.ref it) 1 >>= _) _ _ s
  refine wpAny_bind (wpAny_field ho hd (x := .int i 0) rfl ?_)
  show wpAny _ _ (seqItems? (.ref t) >>= _) _ _ s
  refine wpAny_bind (wpAny_seqItems hol hdl ?_)
  simp only [Int.toNat_natCast, hx]
  refine wpAny_bind (wpAny_rule (wpAny_bind (wpAny_setField ho hd (by simp) ?_)))
  show wpAny _ _ (newExc (.type "StopIteration") [] >>= _) _ _ _
  refine wpAny_bind ?_
  simp only [newExc, newTuple]
  refine wpAny_bind (wpAny_newObj_type ?_ (by size_fits))
  refine wpAny_bind (m := firstArgMember _ _) (wpAny_of_eq (a := Value.none) (by first | rfl | (simp only [firstArgMember]; rfl)) ?_)
  refine wpAny_newObj_type ?_ (by size_fits)
  simp only [raiseNew]
  refine wpAny_bind (wpAny_handled ?_)
  first | rw [show A.in1.handled = none from hh] | rw [hh]
  refine wpAny_bind (wpAny_pure (wpAny_throw ?_))
  exact hE _ _ (((Heap.SameBut.update ..).extBut.push _).push _) ⟨_, Heap.get?_push_size _ rfl, rfl⟩
end
theorem drawsT {prog : Program} {w : World} {A : Around} (hh : A.handled = none) (it t : Addr) (hne : t ≠ it) (its : Array Value) :
    Draws prog w A it [it, t] its.size (fun i v => its[i]? = some v) (fun i h => h.IsTupleIter it t i ∧ h.IsTuple t its) where
  live := fun _ _ st => let ⟨o, ho, _⟩ := st.1; ⟨o, ho⟩
  frame := fun _ _ _ st hk => ⟨st.1.at fun o e => hk it (by simp) o e, let ⟨o, e, r⟩ := st.2; ⟨o, hk t (by simp) o e, r⟩⟩
  item := fun i s Q E hi st hQ => by
    refine nextT_item st.1 st.2 (x := its[i]) (by simp [hi]) fun h' hit' hs' => ?_
    exact hQ _ h' s.toks (by simp [hi]) ⟨hit', let ⟨o, e, r⟩ := st.2; ⟨o, hs'.extBut _ _ hne e, r⟩⟩ hs'
  done := fun s Q E st hE => nextT_end hh st.1 st.2 (by simp) hE
open AutoSeq1 (wpAny_loadPart') in
theorem meetsT_enum (l : Addr) (items : Array Value) (n : Nat) (dct : Option Addr) (sl : Array (Option Value)) :
    Meets (Builtin.«enumerate.__new__» ⟨[.type "enumerate", .ref l], []⟩) (fun _ R s => s.heap.get? l = some { cls := .type "tuple", dict := dct, data := .seq items n, slots := sl } ∧
      R (.ok (.ret (.ref (s.heap.push { cls := .type "tuple_iterator", data := .fields #[.ref l, .int 0 0] }).objs.size)))
        { s with heap := (s.heap.push { cls := .type "tuple_iterator", data := .fields #[.ref l, .int 0 0] }).push { cls := .type "enumerate", data := .fields #[.none, .bool false, .ref s.heap.objs.size, rawInt 0, .none, .none] } }) :=
  .of_wp fun prog w A R s h => by
    obtain ⟨hp, g, d, tk, os⟩ := s; obtain ⟨hl, h⟩ := h
    have hsub := sub_enumerate
    have hL : Heap.IsTuple (Shared.heap ⟨hp, g, d, tk, os⟩) l items := ⟨_, hl, rfl, n, rfl⟩
    wp_walk using wpAny_loadPart' hl
    refine wpAny_stack_any fun st => wpAny_pure ?_
    split
    · rename_i c _ _ _ _ _
      cases (c == Value.type "enumerate")
      · wp_walk using wpAny_loadPart' hl, wpAny_pyIter_tuple hL
        exact ⟨_, rfl, h⟩
      · wp_walk using wpAny_loadPart' hl, wpAny_pyIter_tuple hL
        exact ⟨_, rfl, h⟩
    · wp_walk using wpAny_loadPart' hl, wpAny_pyIter_tuple hL
      exact ⟨_, rfl, h⟩
section
variable {prog : Program} {w : World} {A : Around} {E : Value → Shared → Prop} {s : Shared}
theorem callT_enum {l : Addr} {items : Array Value} {Q : Value → Shared → Prop} (hL : s.heap.IsTuple l items)
    (h : ∀ h', IsEnum h' (s.heap.objs.size + 1) s.heap.objs.size 0 .none → h'.IsTupleIter s.heap.objs.size l 0 → (∀ b o, s.heap.get? b = some o → h'.get? b = some o) → Q (.ref (s.heap.objs.size + 1)) { s with heap := h' }) :
    wpAny (model prog w) A (call (.type "enumerate") [.ref l]) Q E s := by
  obtain ⟨⟨c, dct, dt, sl⟩, hl, hc, n, hd⟩ := hL
  replace hc : c = .type "tuple" := hc
  replace hd : dt = .seq items n := hd
  subst hc hd
  refine callType_new F.called_enumerate (by decide) (F.typeCall_enumerate_1 _) (F.newCall_enumerate_1 _) (fun obj => F.args_object_init_2 obj _) F.entry_enumerate_new
    (meetsT_enum l items n dct sl) ⟨hl, ?_⟩
  have hz : (s.heap.push { cls := .type "tuple_iterator", data := .fields #[.ref l, .int 0 0] }).objs.size = s.heap.objs.size + 1 := Heap.size_push ..
  show _ ∧ _
  rw [hz]
  have he : IsEnum ((s.heap.push { cls := .type "tuple_iterator", data := .fields #[.ref l, .int 0 0] }).push
      { cls := .type "enumerate", data := .fields #[.none, .bool false, .ref s.heap.objs.size, rawInt 0, .none, .none] }) (s.heap.objs.size + 1) s.heap.objs.size 0 .none := by
    have := Heap.get?_push_size (s.heap.push { cls := .type "tuple_iterator", data := .fields #[.ref l, .int 0 0] })
      (o := { cls := .type "enumerate", data := .fields #[.none, .bool false, .ref s.heap.objs.size, rawInt 0, .none, .none] }) rfl
    rw [hz] at this; exact this
  exact ⟨⟨_, he, rfl⟩, h _ he ⟨_, Heap.get?_push_of_some _ (Heap.get?_push_size _ rfl), rfl, rfl⟩ fun b o x => Heap.get?_push_of_some _ (Heap.get?_push_of_some _ x)⟩
end
def IteT (K : PySem.W.Frag) (a : Addr) : It :=
  ⟨fun i H => ∃ xs x, SqT K H a xs ∧ xs[i]? = some x, fun i H x H' => ∃ p v, H p = none ∧ x = .ref p ∧ (∀ xs, SqT K H a xs → xs[i]? = some v) ∧ H' = upd H p (.tup [.int i, v]), fun i H => ∃ xs, SqT K H a xs ∧ xs.length ≤ i⟩
theorem turn_enumT {P : Program} {w : World} {K : PySem.W.Frag} {elts : List Expr} {x1} {pos : Pos} (a e it : Addr) (hei : e ≠ it) :
    Turn P w K (.Tuple elts x1 pos) (IteT K a) [e, it] e (fun i h => (∃ old, IsEnum h e it i old) ∧ h.IsTupleIter it a i) where
  mem := by simp
  obj := fun i h st b hb => by
    obtain ⟨⟨old, he⟩, ⟨o, ho, hc, hd⟩⟩ := st
    rcases List.mem_cons.mp hb with z | z
    · subst z
      refine ⟨_, he, fun v z => ?_⟩
      have z' : Data.fields _ = Data.cell v := z
      cases z'
    · rw [List.mem_singleton.mp z]
      exact ⟨o, ho, fun v z => by rw [hd] at z; cases z⟩
  keep := fun i h h' st k => ⟨let ⟨old, he⟩ := st.1; ⟨old, k e (by simp) _ he⟩, st.2.at fun o q => k it (by simp) o q⟩
  item := by
    intro X hP hw hK hc i pins s σ H E I hf st hg
    subst hP hw hK
    obtain ⟨xs, x, hq, hx⟩ := hg
    obtain ⟨its, rv, p, hz⟩ := I.tuple hq
    obtain ⟨u, hu, ru⟩ := rv.get hx
    obtain ⟨⟨old, he⟩, hit⟩ := st
    have nae : a ≠ e := fun z => by
      subst z
      obtain ⟨o, ho, hcl, _⟩ := p
      rw [he] at ho; cases ho; exact absurd (show Value.type "enumerate" = Value.type "tuple" from hcl) (by decide)
    have nai : a ≠ it := fun z => by
      subst z
      obtain ⟨o, ho, hcl, _⟩ := p
      obtain ⟨o', ho', hc', _⟩ := hit
      rw [ho] at ho'; cases ho'; rw [hcl] at hc'; exact absurd hc' (by decide)
    have hil : i < its.toArray.size := by
      have := (List.getElem?_eq_some_iff.mp hu).1
      simpa using this
    refine wpAny_pyNext_enum_itemD (drawsT (A := X.A.in1) (I.ok.hd hc) it a nai its.toArray) he ⟨hit, p⟩ hil hei (by simp [hei, Ne.symm nae]) fun v h' tk hv ho ⟨hit', _⟩ ht hsz hk => ⟨_, rfl, ?_⟩
    have ev : v = u := by
      have hv' : its[i]? = some v := by simpa using hv
      rw [hu] at hv'; exact (Option.some.inj hv').symm
    subst ev
    refine wpAny_letOwnedTupleGo_enum ho fun h'' he'' hs'' => ?_
    have helt : e < s.heap.objs.size := Heap.lt_size he
    have hilt : it < s.heap.objs.size := by obtain ⟨_, y, _⟩ := hit; exact Heap.lt_size y
    refine ⟨.ref s.heap.objs.size, upd H s.heap.objs.size (.tup [.int i, x]), ?_, rfl, ⟨_, x, I.hok.fresh (Nat.le_refl _), rfl, fun ys hy => by rw [I.tuple_inj hy hq]; exact hx, rfl⟩, ⟨⟨_, by simpa using he''⟩, ?_⟩, ?_⟩
    · show L2.Inv X pins σ _ { s with heap := h'', toks := tk + 1 }
      refine turnedT (s := s) (its := [.int i tk, v]) I (ch := [e, it]) (fun b o hb q => ?_) hf (fun b hb => ?_) (Nat.le_refl _) (by show 2 ≤ sizeLine; decide) (.cons ⟨_, rfl⟩ (.cons ru .nil)) ?_
      · have hb1 : b ≠ e := fun z => hb (by simp [z])
        have hb2 : b ≠ it := fun z => hb (by simp [z])
        exact (hs''.2 b hb1).trans (hk b o hb1 hb2 q)
      · rcases List.mem_cons.mp hb with z | z
        · subst z; exact ⟨_, he''⟩
        · rw [List.mem_singleton.mp z]
          obtain ⟨o, y, _⟩ := hit'
          exact ⟨o, (hs''.2 it (Ne.symm hei)).trans y⟩
      · exact ⟨_, (hs''.2 _ (Nat.ne_of_gt helt)).trans ht, rfl, _, rfl⟩
    · exact hit'.extBut hs''.extBut (Ne.symm hei)
    · intro b hb
      rw [upd_ne]
      · exact (hf b hb).1
      · rcases List.mem_cons.mp hb with z | z
        · subst z; exact Nat.ne_of_lt helt
        · rw [List.mem_singleton.mp z]; exact Nat.ne_of_lt hilt
  done := by
    intro X hP hw hK hc i pins s σ H E I hf st hg
    subst hP hw hK
    obtain ⟨xs, hq, hx⟩ := hg
    obtain ⟨its, rv, p, hz⟩ := I.tuple hq
    obtain ⟨⟨old, he⟩, hit⟩ := st
    obtain ⟨f0, f1, f2, f3, f4, f5⟩ := hf it (by simp)
    have hl := rv.length
    have nai : a ≠ it := fun z => by
      subst z
      obtain ⟨o, ho, hcl, _⟩ := p
      obtain ⟨o', ho', hc', _⟩ := hit
      rw [ho] at ho'; cases ho'; rw [hcl] at hc'; exact absurd hc' (by decide)
    unfold pyNext
    have hT : s.TypeIs (.ref e) "enumerate" := ⟨_, he, rfl⟩
    refine wpAny_bind (wpAny_attempt (wpAny_callSpecial?_slot (name := Str.ofString "__next__") hT F.slot_enumerate_next
      (wpAny_call_entry F.slot_enumerate_next hT F.entry_enumerate_next ?_ (F.args_enumerate_next_1 _))))
    show wpAny _ _ (field (.ref e) 2 >>= _) _ _ _
    refine wpAny_bind (wpAny_field he rfl (x := .ref it) rfl ?_)
    refine wpAny_bind (nextT_end (I.ok.hd hc) hit p (by simp; omega) fun h' ex eb hx' => ?_)
    obtain ⟨o, ho, hcl⟩ := hx'
    refine wpAny_bind (wpAny_isInstance (T := "StopIteration") (b := true) ⟨o, ho, hcl⟩ isSubtype_stop ?_)
    exact wpAny_pure ⟨rfl, I.turned (t' := s.toks) (fun b o hb e => eb b o hb e) f0 f1 f3 f4 f5⟩
  self := fun _ _ _ _ _ st h => by
    obtain ⟨⟨old, he⟩, _⟩ := st
    exact wpAny_pyIter_enum he h
section
variable {X : Cx}
def iEnum2 (K : PySem.W.Frag) (ta : TA) : TI := fun σ H R => ta σ H fun vs H1 => ∃ a, vs = [.ref a] ∧ ((∃ xs, SqL K H1 a xs) ∧ R (Ite K a) H1 ∨ (∃ xs, SqT K H1 a xs) ∧ R (IteT K a) H1)
theorem pi_enum2 {a : Expr} {ta : TA} {p pos : Pos} {elts : List Expr} {x1} {tpos : Pos} (hg : Gl X "enumerate") (hm : X.mg "enumerate" = none) (ha : PA X [a] ta) (hs : starEach [a] X.env = [(false, eval a X.env)] := by rfl) :
    PI X (.Tuple elts x1 tpos) (.Call (.Name "enumerate" p) [a] [] pos) (iEnum2 X.K ta) := by
  intro pins s σ H R I h
  refine Call_ (ld_blt I hg hm boot_enumerate (PyProof.Rows.callWith_type1 (thn (ha pos pins s σ H _ I h) fun us s1 ⟨vs, H1, I1, r1, q1⟩ => ?_) hs rfl))
  obtain ⟨l, e, q1⟩ := q1
  subst e
  obtain ⟨u, rfl, ru⟩ := r1.one
  cases ru
  have fpk : ∀ b ∈ [s1.heap.objs.size + 1, s1.heap.objs.size], FpOk X pins H1 b := fun b hb => by
    have hb' : s1.heap.objs.size ≤ b := by
      rcases List.mem_cons.mp hb with z | z
      · rw [z]; exact Nat.le_succ _
      · rw [List.mem_singleton.mp z]; exact Nat.le_refl _
    exact I1.fpOk hb' (I1.hok.fresh hb')
  rcases q1 with ⟨⟨xs, hq⟩, q⟩ | ⟨⟨xs, hq⟩, q⟩
  · obtain ⟨its, rv, pl, hz⟩ := I1.list hq
    refine call_enumerate_list pl.isList fun h' he hit hsz hk => wpAny_pyIter_enum he ?_
    exact ⟨s1.heap.objs.size + 1, [s1.heap.objs.size + 1, s1.heap.objs.size], _, _, H1, rfl, I1.kept (t' := s1.toks) hk, turn_enum l _ _ (Nat.ne_of_gt (Nat.lt_succ_self _)), ⟨⟨_, he⟩, hit⟩, fpk, q⟩
  · obtain ⟨its, rv, pl, hz⟩ := I1.tuple hq
    refine callT_enum (show s1.heap.IsTuple l its.toArray from pl) fun h' he hit hk => wpAny_pyIter_enum he ?_
    exact ⟨s1.heap.objs.size + 1, [s1.heap.objs.size + 1, s1.heap.objs.size], _, _, H1, rfl, I1.kept (t' := s1.toks) hk, turn_enumT l _ _ (Nat.ne_of_gt (Nat.lt_succ_self _)), ⟨⟨_, he⟩, hit⟩, fpk, q⟩
theorem for_enumT {K : PySem.W.Frag} {a : Addr} {xs : List V} {g : TG} {tb : TS} {D : Ends} {σ : L2.St} {H : Hp} (Pv : Nat → L2.St → Hp → Prop) (h0 : Pv 0 σ H) (hl : ∀ i σ H, i ≤ xs.length → Pv i σ H → SqT K H a xs)
    (hs : ∀ i x σ H p, xs[i]? = some x → Pv i σ H → H p = none → g (.ref p) σ (upd H p (.tup [.int i, x])) fun σ2 H2 => tb { D with nx := Pv (i + 1), ct := Pv (i + 1), bk := D.nx } σ2 H2) (hd : ∀ σ H, Pv xs.length σ H → D.nx σ H) :
    ∃ W : Nat → Nat → L2.St → Hp → Prop, (∃ m, W 0 m σ H) ∧ ∀ i m σ H, W i m σ H →
      ((IteT K a).stop i H ∧ D.nx σ H) ∨ ((IteT K a).go i H ∧ ∃ N : L2.St → Hp → Prop, (∀ σ' H', N σ' H' → ∃ m', m' < m ∧ W (i + 1) m' σ' H') ∧ ∀ x H', (IteT K a).yld i H x H' → g x σ H' fun σ2 H2 => tb { D with nx := N, ct := N, bk := D.nx } σ2 H2) := by
  refine ⟨fun i m σ H => m = xs.length - i ∧ i ≤ xs.length ∧ Pv i σ H, ⟨xs.length, by simp, Nat.zero_le _, h0⟩, ?_⟩
  rintro i m σ H ⟨rfl, hi, p⟩
  have q := hl i σ H hi p
  by_cases hlt : i < xs.length
  · refine .inr ⟨⟨xs, xs[i], q, by simp [hlt]⟩, Pv (i + 1), fun σ' H' p' => ⟨xs.length - (i + 1), by omega, rfl, hlt, p'⟩, fun x H' y => ?_⟩
    obtain ⟨pp, v, hp, rfl, hv, rfl⟩ := y
    exact hs i v σ H pp (hv xs q) p hp
  · have e : i = xs.length := by omega
    subst e
    exact .inl ⟨⟨xs, q, Nat.le_refl _⟩, hd σ H p⟩
end
end L3
namespace L3
open PySem PySem.Spec PyProof.Rows L2
open Sem (wp)
section
variable {prog : Program} {w : World} {A : Around} {E : Value → Shared → Prop} {s : Shared} {z TI TO i1 i2 : Addr} {f1 f2 : List Addr} {n1 n2 k : Nat} {P1 P2 : Nat → Value → Prop} {S1 S2 : Nat → Heap → Prop} {a b : Value}
end
section
variable {prog : Program} {w : World} {A : Around} {E : Value → Shared → Prop} {s : Shared}
end
section
variable {X : Cx} {pins : List (Addr × Obj)} {σ : L2.St} {H : Hp} {s : Shared}
end
end L3
namespace L3
open PySem PySem.Spec PyProof.Rows L2 PySem.SeqAt
open Sem (wp)
open AutoSeq1 (wpAny_loadPart')
section
variable {X : Cx}
theorem Rd.same {H H' : Hp} {a : Addr} {u : HO} (s : Same H H') (h : Rd H a u) : Rd H' a u := by
  rcases h with h | ⟨o, h⟩
  · exact .inl (s _ _ h)
  · exact .inr ⟨o, s _ _ h⟩
inductive Ty2 (H : Hp) : V → String → Prop where
  | int (i : Int) : Ty2 H (.int i) "int"
  | bl (b : Bool) : Ty2 H (.bl b) "bool"
  | tup {a : Addr} {xs : List V} (h : Rd H a (.tup xs)) : Ty2 H (.ref a) "tuple"
  | str (x : Str) : Ty2 H (.str x) "str"
  | non : Ty2 H .non "NoneType"
  | lst {a : Addr} {xs : List V} (h : H a = some (.lst xs)) : Ty2 H (.ref a) "list"
theorem ty2_mem {H : Hp} {x : V} {t : String} (h : Ty2 H x t) : t ∈ tysL := by cases h <;> simp
theorem call_isiA : CallR X (.builtin "isinstance") (fun xs H Q => ∃ x c t, xs = [x, .ty c] ∧ Ty2 H x t ∧ c ∈ clsL ∧ Q (.bl (subT t c)) H) := by
  intro pins s σ H xs us Q I r h
  obtain ⟨x, c, t, rfl, ty, hc, q⟩ := h
  obtain ⟨u, v, rfl, ru, rv⟩ := vals2 r
  cases (show v = Value.type c from rv)
  have e := kit_tab X.K t (ty2_mem ty) c hc
  have fin : ∀ tk, EP X pins σ Q (.bool (subT t c)) { s with toks := tk } := fun tk => ⟨.bl _, H, I.tok tk, rfl, q⟩
  cases ty with
  | int i => obtain ⟨t, q⟩ := (show ∃ t, u = Value.int i t from ru); cases q; exact PySem.W.kia_one PySem.W.kitx_int I.kIn True.intro e (fun z => nomatch z) fin
  | bl b => cases (show u = Value.bool b from ru); exact PySem.W.kia_one PySem.W.kitx_bool I.kIn True.intro e (fun z => nomatch z) fin
  | @tup a ys hr =>
    cases (show u = Value.ref a from ru)
    obtain ⟨its, _, ⟨o, h1, h2, _⟩, _⟩ := I.tuple (.inl hr)
    exact PySem.W.kia_one PySem.W.kitx_tuple I.kIn ⟨o, h1, h2⟩ e (fun z => nomatch z) fin
  | str x => obtain ⟨t, q⟩ := (show ∃ t, u = Value.str x t from ru); cases q; exact PySem.W.kia_one PySem.W.kitx_str I.kIn True.intro e (fun z => nomatch z) fin
  | non => cases (show u = Value.none from ru); exact PySem.W.kia_one PySem.W.kitx_none I.kIn True.intro e (fun z => nomatch z) fin
  | @lst a ys ea =>
    cases (show u = Value.ref a from ru)
    obtain ⟨_, _, n, _, h1⟩ := (show ObjOk X.prog X.w H s.heap a (.lst ys) from I.hok a _ ea)
    exact PySem.W.kia_one PySem.W.kitx_list I.kIn ⟨_, h1, rfl⟩ e (fun z => nomatch z) fin
end
def backL (t : List Int) : List Int := (List.range 16).map fun d => ((t.idxOf ((d : Nat) : Int) : Nat) : Int)
theorem backL_len (t : List Int) : (backL t).length = 16 := by simp [backL]
section
variable {t : List Int} (p : t.Perm digs)
include p
theorem tab_nodup : t.Nodup := p.nodup_iff.mpr (by decide)
theorem tab_len : t.length = 16 := by rw [p.length_eq, digs_len]
theorem tab_mem {d : Nat} (h : d < 16) : ((d : Nat) : Int) ∈ t := p.mem_iff.mpr (List.mem_map.mpr ⟨d, List.mem_range.mpr h, rfl⟩)
theorem tab_at {i : Nat} (h : i < t.length) : 0 ≤ t[i] ∧ t[i] < 16 := digs_mem (p.mem_iff.mp (List.getElem_mem h))
theorem idx_at {i : Nat} (h : i < t.length) : t.idxOf t[i] = i := (tab_nodup p).idxOf_getElem i h
theorem back_at {d : Nat} (h : d < 16) : (backL t)[d]'(by rw [backL_len]; exact h) = ((t.idxOf ((d : Nat) : Int) : Nat) : Int) := by simp [backL]
end
end L3
namespace L3
open PySem PySem.Spec L2
variable {X : Cx}
theorem qss_never  {sts : List Stmt} : QSs X sts tNever := ⟨pss_never ⟩
theorem qi_enum2  {a : Expr} {ta : TA} {p pos : Pos} {elts : List Expr} {x1} {tpos : Pos} (hg : Gl X "enumerate") (hm : X.mg "enumerate" = none) (ha : QA X [a] ta) (hs : starEach [a] X.env = [(false, eval a X.env)] := by rfl) : QI X (.Tuple elts x1 tpos) (.Call (.Name "enumerate" p) [a] [] pos) (iEnum2 X.K ta) := ⟨pi_enum2 (hg := hg) (hm := hm) (ha := ha.h) (hs := hs)⟩
def BoxC (H : Hp) (b : Addr) (c : Nat) : Prop := ∃ n m k : Int, H b = some (BoxL n m k) ∧ 0 ≤ m ∧ m < 4611686018427387904 ∧ 0 ≤ k ∧ k ≤ c
structure GrC (b : Addr) (c : Nat) (H H' : Hp) : Prop where
  kp : ∀ a o, a ≠ b → H a = some o → H' a = some o
  bx : BoxC H' b c
theorem BoxC.mono {H : Hp} {b : Addr} {c d : Nat} (h : BoxC H b c) (l : c ≤ d) : BoxC H b d := let ⟨n, m, k, e, a1, a2, a3, a4⟩ := h; ⟨n, m, k, e, a1, a2, a3, by omega⟩
theorem GrC.mono {b : Addr} {c d : Nat} {H H' : Hp} (h : GrC b c H H') (l : c ≤ d) : GrC b d H H' := ⟨h.kp, h.bx.mono l⟩
theorem GrC.refl {b : Addr} {c : Nat} {H : Hp} (h : BoxC H b c) : GrC b c H H := ⟨fun _ _ _ e => e, h⟩
theorem GrC.trans {b : Addr} {c d : Nat} {H H1 H2 : Hp} (x : GrC b c H H1) (y : GrC b d H1 H2) : GrC b d H H2 := ⟨fun c o n e => y.kp c o n (x.kp c o n e), y.bx⟩
theorem _root_.L2.Same.grc {b : Addr} {c : Nat} {H H' : Hp} (x : Same H H') (h : BoxC H b c) : GrC b c H H' := ⟨fun c o _ e => x c o e, let ⟨n, m, k, e, r⟩ := h; ⟨n, m, k, x _ _ e, r⟩⟩
theorem GrC.same {b : Addr} {c : Nat} {H H1 H2 : Hp} (x : GrC b c H H1) (y : Same H1 H2) : GrC b c H H2 := x.trans (y.grc x.bx)
theorem boxc_fresh {H : Hp} {b l : Addr} {c : Nat} (hb : BoxC H b c) (h : H l = none) : l ≠ b := fun z => by
  obtain ⟨_, _, _, e, _⟩ := hb
  subst z
  rw [e] at h
  cases h
def spBox2 (K : PySem.W.Frag) : Sp := fun vs H Q _ => ∃ (a : Addr) (ns : List Int) (k : Nat), vs = [.ref a, .int k] ∧ SqL K H a (ns.map V.int) ∧ ∀ b H', H b = none → Same H H' → BoxC H' b 0 → Q (.ref b) H'
def spTake2 : Sp := fun vs H Q _ => ∃ (b : Addr) (many : Int) (c : Nat), vs = [.ref b, .int many] ∧ BoxC H b c ∧ c < 1000000000 ∧ 0 < many ∧ many < 1073741824 ∧ ∀ r H', 0 ≤ r → r < many → GrC b (c + 1) H H' → Q (.int r) H'
theorem s2n {H H' : Hp} {p : Addr} (h : H' p = none) (s : Same H H') : H p = none := by
  cases e : H p with
  | none => rfl
  | some o => rw [s _ _ e] at h; cases h
def numB : V → Bool
  | .int _ => true
  | _ => false
theorem numB_kd {H : Hp} {x : V} {t : String} (h : kd H x = some t) : numB x = (subT t "int" && !subT t "bool") := by
  cases x with
  | non => cases h; decide
  | bl b => cases h; show false = _; decide
  | int i => cases h; show true = _; decide
  | str x => cases h; show false = _; decide
  | byt b => cases h
  | flt b => cases h
  | ty b => cases h
  | ref a =>
    rcases kd_ref h with ⟨xs, e, rfl⟩ | ⟨xs, e, rfl⟩
    · show false = _; decide
    · show false = _; decide
theorem numB_int {x : V} (h : numB x = true) : ∃ i, x = .int i := by
  cases x <;> first | exact ⟨_, rfl⟩ | cases h
theorem isDig_num {x : V} (h : numB x = false) : isDig x = false := by
  cases x <;> first | rfl | cases h
def spNumber : Sp := fun vs H Q _ => ∃ x t, vs = [x] ∧ kd H x = some t ∧ Q (.bl (numB x)) H
theorem Same.sqt {K : PySem.W.Frag} {H H' : Hp} {a : Addr} {xs : List V} (e : Same H H') (h : SqT K H a xs) : SqT K H' a xs := by
  rcases h with h | h
  · exact .inl (Rd.same e h)
  · exact .inr h
def bkI (t : List Int) (i : Nat) : List Int := (List.range 16).map fun d => if ((d : Nat) : Int) ∈ t.take i then ((t.idxOf ((d : Nat) : Int) : Nat) : Int) else 0
theorem bkI_len (t : List Int) (i : Nat) : (bkI t i).length = 16 := by simp [bkI]
theorem bkI_zero (t : List Int) : bkI t 0 = List.replicate 16 0 := by simp only [bkI, List.take_zero, List.not_mem_nil, if_false]; rfl
theorem bkI_at {t : List Int} {i d : Nat} (h : d < 16) : (bkI t i)[d]'(by rw [bkI_len]; exact h) = if ((d : Nat) : Int) ∈ t.take i then ((t.idxOf ((d : Nat) : Int) : Nat) : Int) else 0 := by simp [bkI]
theorem bkI_end {t : List Int} (p : t.Perm digs) : bkI t t.length = backL t := by
  unfold bkI backL
  refine List.map_congr_left fun d hd => ?_
  rw [List.take_length, if_pos (tab_mem p (List.mem_range.mp hd))]
theorem bkI_step {t : List Int} (p : t.Perm digs) {i : Nat} (hi : i < t.length) : (bkI t i).set t[i].toNat (i : Int) = bkI t (i + 1) := by
  have b := tab_at p hi
  refine List.ext_getElem (by rw [List.length_set, bkI_len, bkI_len]) fun d h1 h2 => ?_
  have hd : d < 16 := by rw [bkI_len] at h2; exact h2
  rw [List.getElem_set, bkI_at hd, bkI_at hd, List.take_add_one, List.getElem?_eq_getElem hi, Option.toList_some]
  by_cases e : t[i].toNat = d
  · have e' : ((d : Nat) : Int) = t[i] := by omega
    rw [if_pos e, if_pos (by rw [e']; exact List.mem_append_right _ (List.mem_singleton.mpr rfl)), e', idx_at p hi]
  · have e' : ((d : Nat) : Int) ≠ t[i] := by omega
    rw [if_neg e]
    simp only [List.mem_append, List.mem_singleton, e', or_false]
def spBack (K : PySem.W.Frag) : Sp := fun vs H Q _ => ∃ (a : Addr) (t : List Int), vs = [.ref a] ∧ (SqL K H a (t.map V.int) ∨ SqT K H a (t.map V.int)) ∧ t.Perm digs ∧ ∀ p H', Same H H' → H' p = some (.tup ((backL t).map V.int)) → Q (.ref p) H'
theorem qg_tupK {X : Cx} {K : PySem.W.Frag} (hK : X.K = K) {pos : Pos} {es : List Expr} {k : Nat} {t : TGs} (n : Nat) (hc : X.calm = true) (h : QGs X es t) (hn : (assignEach es X.env).length = n := by rfl) (hst : (assignEach es X.env).findIdx? (·.1) = none := by rfl) : QG X (.Tuple es k pos) (gTup K n t) := by
  subst hK
  exact ⟨pg_tup (hc := hc) (h := h.h) (hn := hn) (hst := hst)⟩
end L3
namespace L3
open PySem PySem.Spec PyProof.Rows L2
open Sem (wp)
namespace RV
theorem slot_init : Slot "reversed" "__init__" "object.__init__" :=
  .of (owner := "object") (n := "__init__") (by rw [typeLookup_type, builtinLookup_eq_fast]
                                                kernel_rfl) (by decide +kernel) (by decide +kernel) (by decide +kernel)
    (by first | exact .inl (by decide +kernel) | exact .inr (by decide +kernel)) (by rw [isSubtype_type]
                                                                                     kernel_rfl)
theorem called : TypeCalled "reversed" "reversed.__new__" "object.__init__" :=
  ⟨by decide +kernel, by decide +kernel, ⟨_, _, F.mro_reversed⟩, F.made_reversed, by decide +kernel, F.sub_reversed_self, slot_init⟩
theorem slot_next : Slot "reversed" "__next__" "reversed.__next__" :=
  .of (owner := "reversed") (n := "__next__") (by rw [typeLookup_type, builtinLookup_eq_fast]
                                                  kernel_rfl) (by decide +kernel) (by decide +kernel) (by decide +kernel)
    (by first | exact .inl (by decide +kernel) | exact .inr (by decide +kernel)) (by rw [isSubtype_type]
                                                                                     kernel_rfl)
theorem entry_next : entryFor table "reversed.__next__" = some Builtin.«reversed.__next__» := entryFor_of_tree (by kernel_rfl)
theorem owner_rev : Manifest.owners.lookup (String.ofList ['d', 'e', 's', 'r', 'e', 'v', 'e', 'r'].reverse) = some Manifest.sig_reversed := by kernel_rfl
theorem args_next (a : Value) : argsOk "reversed.__next__" ⟨[a], []⟩ := by
  unfold argsOk
  rw [signature?_of (id := "reversed.__next__") (n := ['_', '_', 't', 'x', 'e', 'n', '_', '_']) (o := ['d', 'e', 's', 'r', 'e', 'v', 'e', 'r']) (by kernel_rfl) owner_rev]
  kernel_rfl
theorem slot_iter : Slot "reversed" "__iter__" "reversed.__iter__" :=
  .of (owner := "reversed") (n := "__iter__") (by rw [typeLookup_type, builtinLookup_eq_fast]
                                                  kernel_rfl) (by decide +kernel) (by decide +kernel) (by decide +kernel)
    (by first | exact .inl (by decide +kernel) | exact .inr (by decide +kernel)) (by rw [isSubtype_type]
                                                                                     kernel_rfl)
theorem args_iter (a : Value) : argsOk "reversed.__iter__" ⟨[a], []⟩ := by
  unfold argsOk
  rw [signature?_of (id := "reversed.__iter__") (n := ['_', '_', 'r', 'e', 't', 'i', '_', '_']) (o := ['d', 'e', 's', 'r', 'e', 'v', 'e', 'r']) (by kernel_rfl) owner_rev]
  kernel_rfl
theorem entry_iter : entryFor table "reversed.__iter__" = some Builtin.«dict_keyiterator.__iter__» :=
  entryFor_alias (id' := "dict_keyiterator.__iter__") (by kernel_rfl)
    (by first | rfl | decide +kernel | (unfold String.splitOn
                                        simp +decide [String.splitOnAux])) (by decide +kernel) (by kernel_rfl)
theorem no_tuple : typeLookup (.type "tuple") "__reversed__" = pure none := by
  rw [typeLookup_type, builtinLookup_eq_fast]
  kernel_rfl
theorem tup_dict : isSubtype (.type "tuple") (.type "dict") = pure false := by
  rw [isSubtype_type]
  kernel_rfl
theorem ri_rev : isSubtype (.type "range_iterator") (.type "reversed") = pure false := by
  rw [isSubtype_type]
  kernel_rfl
theorem tc1 (a : Value) : checkTypeCall "reversed" ⟨[a], []⟩ = pure () := by kernel_rfl
end RV
def RevT (h : Heap) (it t : Addr) (i : Int) : Prop := ∃ o, h.get? it = some o ∧ o.cls = .type "reversed" ∧ o.data = .fields #[.ref t, rawInt i]
theorem meetsT_rev (l : Addr) (items : Array Value) (hz : items.size ≤ sizeLine) :
    Meets (Builtin.«reversed.__new__» ⟨[.type "reversed", .ref l], []⟩) (fun A R s => s.heap.IsTuple l items ∧
      R (.ok (.ret (.ref s.heap.objs.size))) { s with heap := s.heap.push { cls := .type "reversed", data := .fields #[.ref l, rawInt ((items.size : Int) - 1)] }, toks := s.toks + 2 }) :=
  .of_wp fun prog w A R s h => by
    obtain ⟨hp, g, d, tk, os⟩ := s; obtain ⟨hl, h⟩ := h
    have hsub := F.sub_reversed_self
    have hT : Shared.TypeIs ⟨hp, g, d, tk, os⟩ (.ref l) "tuple" := let ⟨o, e, c, _⟩ := hl; ⟨o, e, c⟩
    have hL : Heap.IsTuple (Shared.heap ⟨hp, g, d, tk, os⟩) l items := hl
    have hd := RV.tup_dict
    have hI : IsTup (Shared.heap ⟨hp, g, d, tk, os⟩) l items := hl
    have hn := line63
    wp_walk using wpAny_specialOf hT RV.no_tuple, wpAny_of_eq hd, wpAny_specialOf hT F.slot_tuple_getitem.lookup, len_tuple hI (by omega)
    exact ⟨_, rfl, h⟩
end L3
namespace L3
open PySem PySem.Spec PyProof.Rows L2
open Sem (wp)
abbrev smR (a b c : Int) : Bool := Builtin.Range.rangeFitsLong a && Builtin.Range.rangeFitsLong b && Builtin.Range.rangeFitsLong c && Builtin.Range.rangeFitsLong (-c) && Builtin.Range.rangeFitsLong (a - c) && Builtin.Range.rangeFitsLong (Builtin.Range.rangeSize a b c)
theorem meets_rrevG (r : Addr) (a b c : Int) (t u v : Tok) (hc0 : ¬ (!smR a b c) = true) :
    Meets (Builtin.«range.__reversed__» ⟨[.ref r], []⟩) (fun _ R s => s.heap.get? r = some { cls := .type "range", dict := none, data := .fields #[.int a t, .int b u, .int c v], slots := #[] } ∧
      R (.ok (.ret (.ref s.heap.objs.size))) { s with heap := s.heap.push { cls := .type (if smR a b c then "range_iterator" else "longrange_iterator"), data := .fields #[rawInt (a + (Builtin.Range.rangeSize a b c - 1) * c), rawInt (Builtin.Range.rangeSize a b c), rawInt (-c)] } }) :=
  .of_wp fun prog w A R s h => by obtain ⟨hp, g, d, tk, os⟩ := s; obtain ⟨hl, h⟩ := h; wp_walk; exact ⟨_, rfl, h⟩
theorem rs_nat (n : Nat) : Builtin.Range.rangeSize 0 n 1 = n := by
  unfold Builtin.Range.rangeSize
  rw [if_pos (by decide)]
  split <;> omega
theorem sm_nat {n : Nat} (hn : (n : Int) < 2 ^ 62) : smR 0 n 1 = true := by
  unfold smR
  rw [rs_nat]
  simp only [Builtin.Range.rangeFitsLong, Bool.and_eq_true, decide_eq_true_eq]
  omega
theorem meets_rrev (r : Addr) (n : Nat) (t u v : Tok) (hn : (n : Int) < 2 ^ 62) :
    Meets (Builtin.«range.__reversed__» ⟨[.ref r], []⟩) (fun _ R s => s.heap.get? r = some { cls := .type "range", data := .fields #[.int 0 t, .int n u, .int 1 v] } ∧
      R (.ok (.ret (.ref s.heap.objs.size))) { s with heap := s.heap.push { cls := .type "range_iterator", data := .fields #[rawInt ((n : Int) - 1), rawInt n, rawInt (-1)] } }) := by
  have g := meets_rrevG r 0 n 1 t u v (by rw [sm_nat hn]; decide)
  rw [sm_nat hn, rs_nat, if_pos rfl, Int.mul_one, Int.zero_add] at g
  exact g
section
variable {prog : Program} {w : World} {A : Around} {E : Value → Shared → Prop} {s : Shared}
theorem RevT.typeIs {it t : Addr} {i : Int} (x : RevT s.heap it t i) : s.TypeIs (.ref it) "reversed" := let ⟨o, ho, hc, _⟩ := x; ⟨o, ho, hc⟩
theorem nextRT_item {it t : Addr} {i : Nat} {items : Array Value} {x : Value} {Q : Option Value → Shared → Prop} (hit : RevT s.heap it t (i : Int)) (hl : IsTup s.heap t items) (hx : items[i]? = some x) (hz : items.size ≤ sizeLine)
    (hQ : ∀ h' tk, RevT h' it t ((i : Int) - 1) → Heap.SameBut it s.heap h' → Q (some x) { s with heap := h', toks := tk }) : wpAny (model prog w) A (pyNext (.ref it)) Q E s := by
  obtain ⟨o, ho, hc, hd⟩ := id hit
  have hT : s.TypeIs (.ref t) "tuple" := let ⟨o, e, c, _⟩ := hl; ⟨o, e, c⟩
  have hn := line63
  have hlt : i < items.size := (Array.getElem?_eq_some_iff.mp hx).1
  unfold pyNext
  refine wpAny_bind (wpAny_attempt (wpAny_callSpecial?_slot (name := Str.ofString "__next__") (RevT.typeIs hit) RV.slot_next
    (wpAny_call_entry RV.slot_next (RevT.typeIs hit) RV.entry_next ?_ (RV.args_next _))))
  unfold Builtin.«reversed.__next__»
  refine wpAny_bind (wpAny_of_eq (a := (Value.ref it, [])) rfl ?_)
  try dsimp only
  refine wpAny_bind (wpAny_field ho hd (x := .ref t) rfl ?_)
  refine wpAny_bind (wpAny_field ho hd (x := rawInt (i : Int)) rfl ?_)
  show wpAny _ _ (if (i : Int) < 0 then _ else _) _ _ s
  rw [if_neg (by omega)]
  try dsimp only
  refine wpAny_bind (wpAny_specialOf hT F.slot_tuple_getitem.lookup ?_)
  rw [if_neg (show ¬ ((some (Value.builtin "tuple.__getitem__")).isNone = true) from Bool.false_ne_true)]
  refine wpAny_bind (wpAny_mkInt ?_)
  have hI : IsTup (Shared.heap { s with toks := s.toks + 1 }) t items := hl
  refine wpAny_bind (wpAny_attempt (getItem_tuple hI (by omega) (by omega) (by unfold seqIndex?; rw [if_neg (show ¬ ((i : Int) < 0) by omega)]; simp [hlt]) hx ?_))
  try dsimp only
  refine wpAny_bind (wpAny_field (s := { s with toks := s.toks + 1 }) ho hd (x := rawInt (i : Int)) rfl ?_)
  show wpAny _ _ (setField (.ref it) 1 (rawInt ((i : Int) - 1)) >>= _) _ _ _
  refine wpAny_bind (wpAny_setField (s := { s with toks := s.toks + 1 }) ho hd (by simp) ?_)
  refine wpAny_pure ⟨x, rfl, wpAny_pure (hQ _ _ ?_ (Heap.SameBut.update ..))⟩
  exact ⟨_, Heap.get?_update_self _ ho (Obj.isFreed_of_fields (Obj.data_mapFields hd _)), (Obj.cls_mapFields ..).trans hc, by
    rw [Obj.data_mapFields hd]
    simp⟩
theorem nextRT_end {it t : Addr} {Q : Option Value → Shared → Prop} (hh : A.handled = none) (hit : RevT s.heap it t (-1))
    (hQ : ∀ h', Heap.ExtBut it s.heap h' → Q none { s with heap := h' }) : wpAny (model prog w) A (pyNext (.ref it)) Q E s := by
  obtain ⟨o, ho, hc, hd⟩ := id hit
  unfold pyNext
  refine wpAny_bind (wpAny_attempt (wpAny_callSpecial?_slot (name := Str.ofString "__next__") (RevT.typeIs hit) RV.slot_next
    (wpAny_call_entry RV.slot_next (RevT.typeIs hit) RV.entry_next ?_ (RV.args_next _))))
  unfold Builtin.«reversed.__next__»
  refine wpAny_bind (wpAny_of_eq (a := (Value.ref it, [])) rfl ?_)
  try dsimp only
  refine wpAny_bind (wpAny_field ho hd (x := .ref t) rfl ?_)
  refine wpAny_bind (wpAny_field ho hd (x := rawInt (-1)) rfl ?_)
  show wpAny _ _ (if (-1 : Int) < 0 then _ else _) _ _ s
  rw [if_pos (by decide)]
  refine wpAny_bind (wpAny_rule ?_)
  refine wpAny_bind ?_
  show wpAny _ _ (setField (.ref it) 1 (rawInt (-1)) >>= _) _ _ _
  refine wpAny_bind (wpAny_setField ho hd (by simp) ?_)
  have hg1 := Heap.get?_update_self (Obj.mapFields (·.setIfInBounds 1 (rawInt (-1)))) ho (Obj.isFreed_of_fields (Obj.data_mapFields hd _))
  refine wpAny_setField hg1 (Obj.data_mapFields hd _) (by simp) ?_
  refine wpAny_bind ?_
  show wpAny _ _ (newExc (.type "StopIteration") [] >>= _) _ _ _
  refine wpAny_bind ?_
  simp only [newExc, newTuple]
  refine wpAny_bind (wpAny_newObj_type ?_ (by size_fits))
  refine wpAny_bind (m := firstArgMember _ _) (wpAny_of_eq (a := Value.none) (by first | rfl | (simp only [firstArgMember]; rfl)) ?_)
  refine wpAny_newObj_type ?_ (by size_fits)
  simp only [raiseNew]
  refine wpAny_bind (wpAny_handled ?_)
  first | rw [show A.in1.handled = none from hh] | rw [hh]
  refine wpAny_bind (wpAny_pure (wpAny_throw ?_))
  refine wpAny_bind (wpAny_isInstance (T := "StopIteration") (b := true) ⟨_, Heap.get?_push_size _ rfl, rfl⟩ isSubtype_stop ?_)
  exact wpAny_pure (hQ _ (((((Heap.SameBut.update ..).trans (Heap.SameBut.update ..)).extBut).push _).push _))
theorem iterRT {it t : Addr} {i : Int} {Q : Value → Shared → Prop} (hit : RevT s.heap it t i) (h : Q (.ref it) s) : wpAny (model prog w) A (pyIter (.ref it)) Q E s := by
  refine wpAny_pyIter_slot (RevT.typeIs hit) RV.slot_iter (wpAny_call_entry RV.slot_iter (RevT.typeIs hit) RV.entry_iter ?_ (RV.args_iter _))
  show wpAny _ _ (ret (.ref it)) _ _ s
  exact wpAny_pure ⟨_, rfl, "reversed", _, RevT.typeIs hit, RV.slot_next.lookup, h⟩
theorem callRT {l : Addr} {items : Array Value} {Q : Value → Shared → Prop} (hl : s.heap.IsTuple l items) (hz : items.size ≤ sizeLine)
    (h : ∀ h' tk, RevT h' s.heap.objs.size l ((items.size : Int) - 1) → (∀ b o, s.heap.get? b = some o → h'.get? b = some o) → Q (.ref s.heap.objs.size) { s with heap := h', toks := tk }) :
    wpAny (model prog w) A (call (.type "reversed") [.ref l]) Q E s := by
  refine callType_new RV.called (by decide) (RV.tc1 _) (F.newCall_reversed_1 _) (fun obj => F.args_object_init_2 obj _) F.entry_reversed_new (meetsT_rev l items hz) ⟨hl, ?_⟩
  exact ⟨⟨_, Heap.get?_push_size _ rfl, rfl⟩, h _ _ ⟨_, Heap.get?_push_size _ rfl, rfl, rfl⟩ fun b o e => Heap.get?_push_of_some _ e⟩
theorem callRR {r : Addr} {n : Nat} {t u v : Tok} {Q : Value → Shared → Prop} (hr : s.heap.get? r = some { cls := .type "range", data := .fields #[.int 0 t, .int n u, .int 1 v] }) (hn : (n : Int) < 2 ^ 62)
    (h : ∀ h', IsRangeIter h' s.heap.objs.size ((n : Int) - 1) n (-1) → (∀ b o, s.heap.get? b = some o → h'.get? b = some o) → Q (.ref s.heap.objs.size) { s with heap := h' }) :
    wpAny (model prog w) A (call (.type "reversed") [.ref r]) Q E s := by
  have hT : s.TypeIs (.ref r) "range" := ⟨_, hr, rfl⟩
  refine callType_other (U := "range_iterator") (Q₁ := fun obj s₁ => obj = .ref s.heap.objs.size ∧ ∃ h', s₁ = { s with heap := h' } ∧ IsRangeIter h' s.heap.objs.size ((n : Int) - 1) n (-1) ∧ ∀ b o, s.heap.get? b = some o → h'.get? b = some o) (by decide +kernel) F.create_reversed ⟨_, _, F.mro_reversed⟩ F.made_reversed RV.ri_rev (RV.tc1 _) ?_ ?_
  · refine codeAny_of_tree ?_
    show wpAny _ A.in1.in1 (do checkBuiltinCall "reversed.__new__" ⟨[.type "reversed", .ref r], []⟩; again (.builtin "reversed.__new__" ⟨[.type "reversed", .ref r], []⟩)) _ _ s
    refine wpAny_bind (wpAny_of_eq (F.newCall_reversed_1 _) (wpAny_pure ⟨plainId_quiet F.plain_reversed_new _, codeAny_builtin F.entry_reversed_new ?_⟩))
    rw [Around.under_plainId F.plain_reversed_new _]
    unfold Builtin.«reversed.__new__»
    refine wpAny_bind (wpAny_of_eq (newClass_reversed _) ?_)
    try dsimp only
    refine wpAny_bind (wpAny_of_eq (a := ()) (by first | rfl | kernel_rfl) ?_)
    refine wpAny_bind (wpAny_of_eq (a := ()) (by first | rfl | kernel_rfl) ?_)
    try dsimp only
    refine wpAny_bind (wpAny_specialOf hT F.slot_range_reversed.lookup ?_)
    try dsimp only
    refine wpAny_bind (wpAny_of_eq (F.slot_range_reversed.bind _) ?_)
    try dsimp only
    first
    | rw [if_neg (show ¬ ((Value.builtin "range.__reversed__" == Value.none) = true) from Bool.false_ne_true)]
    | (show wpAny _ _ (if (Value.builtin "range.__reversed__" == Value.none) = true then _ else _) _ _ _
       rw [if_neg (show ¬ ((Value.builtin "range.__reversed__" == Value.none) = true) from Bool.false_ne_true)])
    refine wpAny_bind (wpAny_rule ?_)
    refine wpAny_bind (m := runValue (.call (.builtin "range.__reversed__") ⟨[.ref r], []⟩)) (show wpAny _ _ (call (.builtin "range.__reversed__") [.ref r]) _ _ _ from
      call_meets F.slot_range_reversed hT F.entry_range_reversed (F.args_range_reversed_1 _) (meets_rrev r n t u v hn) ⟨hr, ?_⟩)
    first
    | exact wpAny_pure ⟨rfl, _, rfl, Heap.get?_push_size _ rfl, fun b o e => Heap.get?_push_of_some _ e⟩
    | exact wpAny_bind (wpAny_pure (wpAny_pure ⟨rfl, _, rfl, Heap.get?_push_size _ rfl, fun b o e => Heap.get?_push_of_some _ e⟩))
  · rintro obj s₁ ⟨rfl, h', rfl, hi, hk⟩
    exact ⟨⟨_, hi, rfl⟩, h h' hi hk⟩
end
def ItlR (K : PySem.W.Frag) (a : Addr) (n : Nat) : It :=
  ⟨fun i H => i < n ∧ ∃ xs, SqL K H a xs ∧ xs.length = n, fun i H x H' => H' = H ∧ ∀ xs, SqL K H a xs → xs[n - 1 - i]? = some x, fun i _ => n ≤ i⟩
def IttR (K : PySem.W.Frag) (a : Addr) (n : Nat) : It :=
  ⟨fun i H => i < n ∧ ∃ xs, SqT K H a xs ∧ xs.length = n, fun i H x H' => H' = H ∧ ∀ xs, SqT K H a xs → xs[n - 1 - i]? = some x, fun i _ => n ≤ i⟩
def ItrR (n : Nat) : It := ⟨fun i _ => i < n, fun i H x H' => H' = H ∧ x = .int ((n : Int) - 1 - i), fun i _ => n ≤ i⟩
theorem turn_listR {P : Program} {w : World} {K : PySem.W.Frag} {tg : Expr} (a it : Addr) (n : Nat) : Turn P w K tg (ItlR K a n) [it] it (fun i h => i ≤ n ∧ h.IsRevIter it a ((n : Int) - 1 - i)) where
  mem := by simp
  obj := fun i h st b hb => by
    have e : b = it := by simpa using hb
    subst e
    obtain ⟨_, o, e, c, d⟩ := st
    exact ⟨o, e, fun v z => by rw [d] at z; cases z⟩
  keep := fun i h h' st k => ⟨st.1, st.2.at fun o e => k it (by simp) o e⟩
  item := by
    intro X hP hw hK hc i pins s σ H E I hf st hg
    subst hP hw hK
    obtain ⟨hi, xs, hq, hn⟩ := hg
    obtain ⟨its, rv, p, hz⟩ := I.list hq
    have hlt : n - 1 - i < xs.length := by omega
    obtain ⟨u, hu, ru⟩ := rv.get (List.getElem?_eq_getElem hlt)
    obtain ⟨f0, f1, f2, f3, f4, f5⟩ := hf it (by simp)
    have e1 : (n : Int) - 1 - i = ((n - 1 - i : Nat) : Int) := by omega
    have st2 := st.2
    rw [e1] at st2
    refine wpAny_pyNext_rev_item st2 p.isList (x := u) (by simpa using hu) fun h' st' sb => ?_
    have I1 : L2.Inv X pins σ H { s with heap := h' } := I.turned (t' := s.toks) (fun b o hb e => (sb.2 b hb).trans e) f0 f1 f3 f4 f5
    obtain ⟨o, e, c, d⟩ := id st'
    refine ⟨u, rfl, go_of (s := { s with heap := h' }) e c d (by decide) ⟨_, H, I1, ru, ⟨rfl, fun ys hy => by rw [I.list_inj hy hq]; exact List.getElem?_eq_getElem hlt⟩, ⟨by omega, ?_⟩, fun b hb => (hf b hb).1⟩⟩
    have e2 : ((n - 1 - i : Nat) : Int) - 1 = (n : Int) - 1 - ((i + 1 : Nat) : Int) := by omega
    rw [← e2]
    exact st'
  done := by
    intro X hP hw hK hc i pins s σ H E I hf st hg
    subst hP hw hK
    obtain ⟨f0, f1, f2, f3, f4, f5⟩ := hf it (by simp)
    have hi : i = n := Nat.le_antisymm st.1 hg
    have st2 := st.2
    rw [show (n : Int) - 1 - i = -1 by omega] at st2
    exact wpAny_pyNext_rev_end (I.ok.hd hc) st2 fun h' eb => ⟨rfl, I.turned (t' := s.toks) (fun b o hb e => eb b o hb e) f0 f1 f3 f4 f5⟩
  self := fun _ _ _ _ _ st h => wpAny_pyIter_revIter st.2 h
theorem turn_tupR {P : Program} {w : World} {K : PySem.W.Frag} {tg : Expr} (a it : Addr) (n : Nat) : Turn P w K tg (IttR K a n) [it] it (fun i h => i ≤ n ∧ RevT h it a ((n : Int) - 1 - i)) where
  mem := by simp
  obj := fun i h st b hb => by
    have e : b = it := by simpa using hb
    subst e
    obtain ⟨_, o, e, c, d⟩ := st
    exact ⟨o, e, fun v z => by rw [d] at z; cases z⟩
  keep := fun i h h' st k => ⟨st.1, let ⟨o, e, r⟩ := st.2; ⟨o, k it (by simp) o e, r⟩⟩
  item := by
    intro X hP hw hK hc i pins s σ H E I hf st hg
    subst hP hw hK
    obtain ⟨hi, xs, hq, hn⟩ := hg
    obtain ⟨its, rv, p, hz⟩ := I.tuple hq
    have hlen := rv.length
    have hlt : n - 1 - i < xs.length := by omega
    obtain ⟨u, hu, ru⟩ := rv.get (List.getElem?_eq_getElem hlt)
    obtain ⟨f0, f1, f2, f3, f4, f5⟩ := hf it (by simp)
    have e1 : (n : Int) - 1 - i = ((n - 1 - i : Nat) : Int) := by omega
    have st2 := st.2
    rw [e1] at st2
    refine nextRT_item st2 p (x := u) (by simpa using hu) (by simp; omega) fun h' tk st' sb => ?_
    have I1 : L2.Inv X pins σ H { s with heap := h', toks := tk } := I.turned (t' := tk) (fun b o hb e => (sb.2 b hb).trans e) f0 f1 f3 f4 f5
    obtain ⟨o, e, c, d⟩ := id st'
    refine ⟨u, rfl, go_of (s := { s with heap := h', toks := tk }) e c d (by decide) ⟨_, H, I1, ru, ⟨rfl, fun ys hy => by rw [I.tuple_inj hy hq]; exact List.getElem?_eq_getElem hlt⟩, ⟨by omega, ?_⟩, fun b hb => (hf b hb).1⟩⟩
    have e2 : ((n - 1 - i : Nat) : Int) - 1 = (n : Int) - 1 - ((i + 1 : Nat) : Int) := by omega
    rw [← e2]
    exact st'
  done := by
    intro X hP hw hK hc i pins s σ H E I hf st hg
    subst hP hw hK
    obtain ⟨f0, f1, f2, f3, f4, f5⟩ := hf it (by simp)
    have hi : i = n := Nat.le_antisymm st.1 hg
    have st2 := st.2
    rw [show (n : Int) - 1 - i = -1 by omega] at st2
    exact nextRT_end (I.ok.hd hc) st2 fun h' eb => ⟨rfl, I.turned (t' := s.toks) (fun b o hb e => eb b o hb e) f0 f1 f3 f4 f5⟩
  self := fun _ _ _ _ _ st h => iterRT st.2 h
theorem turn_rngR {P : Program} {w : World} {K : PySem.W.Frag} {tg : Expr} (it : Addr) (n : Nat) : Turn P w K tg (ItrR n) [it] it (fun i h => IsRangeIter h it ((n : Int) - 1 + (i : Nat) * (-1)) ((n : Int) - (i : Nat)) (-1)) where
  mem := by simp
  obj := fun i h st b hb => by
    have e : b = it := by simpa using hb
    subst e
    exact ⟨_, st, fun v z => by
      have z' : Data.fields _ = Data.cell v := z
      cases z'⟩
  keep := fun i h h' st k => k it (by simp) _ st
  item := by
    intro X hP hw hK hc i pins s σ H E I hf st hg
    subst hP hw hK
    obtain ⟨f0, f1, f2, f3, f4, f5⟩ := hf it (by simp)
    have W := Walks.range (prog := X.prog) (w := X.w) (I.ok.hd hc) it ((n : Int) - 1) (-1) n
    refine W.item i s _ _ hg st fun v h' tk hv st' kk => ?_
    obtain ⟨t, rfl⟩ := hv
    have I1 : L2.Inv X pins σ H { s with heap := h', toks := tk } := I.turned (fun b o hb e => kk b o (by simpa using hb) e) f0 f1 f3 f4 f5
    refine ⟨_, rfl, go_of (s := { s with heap := h', toks := tk }) (n := "range_iterator") st' rfl rfl (by decide) ⟨.int ((n : Int) - 1 - i), H, I1, ⟨t, ?_⟩, ⟨rfl, rfl⟩, st', fun b hb => (hf b hb).1⟩⟩
    rw [show (n : Int) - 1 + (i : Nat) * (-1) = (n : Int) - 1 - i by omega]
  done := by
    intro X hP hw hK hc i pins s σ H E I hf st hg
    subst hP hw hK
    obtain ⟨f0, f1, f2, f3, f4, f5⟩ := hf it (by simp)
    exact wpAny_pyNext_range_end (I.ok.hd hc) st (by have : n ≤ i := hg; omega) fun h' eb => ⟨rfl, I.turned (t' := s.toks) (fun b o hb e => eb b o hb e) f0 f1 f3 f4 f5⟩
  self := fun _ _ _ _ _ st h => wpAny_pyIter_rangeiter st h
section
variable {X : Cx} {tg : Expr}
theorem boot_rev : bootBuiltins "reversed" = some (.type "reversed") := by kernel_rfl
def iRev (K : PySem.W.Frag) (ta : TA) : TI := fun σ H R => ta σ H fun vs H1 => ∃ a, vs = [.ref a] ∧ ((∃ xs, SqL K H1 a xs ∧ R (ItlR K a xs.length) H1) ∨ (∃ xs, SqT K H1 a xs ∧ R (IttR K a xs.length) H1) ∨ ∃ n : Nat, H1 a = some (.rng 0 n) ∧ (n : Int) < 2 ^ 62 ∧ R (ItrR n) H1)
theorem pi_rev {a : Expr} {ta : TA} {p pos : Pos} (hg : Gl X "reversed") (hm : X.mg "reversed" = none) (ha : PA X [a] ta) (hn : notStar a = true := by rfl) :
    PI X tg (.Call (.Name "reversed" p) [a] [] pos) (iRev X.K ta) := by
  intro pins s σ H R I h
  refine Call_ (ld_blt I hg hm boot_rev (PyProof.Rows.callWith_type1 (thn (ha pos pins s σ H _ I h) fun us s1 ⟨vs, H1, I1, r1, q1⟩ => ?_) (star_cons hn) rfl))
  obtain ⟨l, e, q1⟩ := q1
  subst e
  obtain ⟨u, rfl, ru⟩ := r1.one
  cases ru
  have fpk : ∀ b ∈ [s1.heap.objs.size], FpOk X pins H1 b := fun b hb => by
    rw [List.mem_singleton.mp hb]
    exact I1.fpOk (Nat.le_refl _) (I1.hok.fresh (Nat.le_refl _))
  rcases q1 with ⟨xs, hq, q⟩ | ⟨xs, hq, q⟩ | ⟨n, hq, hn62, q⟩
  · obtain ⟨its, rv, pl, hz⟩ := I1.list hq
    have hlen := rv.length
    refine call_reversed_list pl.isList ?_
    have hi : (s1.heap.push (revObj l ((its.toArray.size : Int) - 1))).IsRevIter s1.heap.objs.size l ((its.toArray.size : Int) - 1) := ⟨_, Heap.get?_push_size _ rfl, rfl, rfl⟩
    refine wpAny_pyIter_revIter hi ?_
    refine ⟨s1.heap.objs.size, [s1.heap.objs.size], _, _, H1, rfl, I1.kept (t' := s1.toks) fun b o e => Heap.get?_push_of_some _ e, turn_listR l _ xs.length, ⟨Nat.zero_le _, ?_⟩, fpk, q⟩
    rw [show (xs.length : Int) - 1 - ((0 : Nat) : Int) = (its.toArray.size : Int) - 1 by simp [hlen]]
    exact hi
  · obtain ⟨its, rv, pl, hz⟩ := I1.tuple hq
    have hlen := rv.length
    refine callRT (show s1.heap.IsTuple l its.toArray from pl) (by simp; omega) fun h' tk hi hk => iterRT hi ?_
    refine ⟨s1.heap.objs.size, [s1.heap.objs.size], _, _, H1, rfl, I1.kept (t' := tk) hk, turn_tupR l _ xs.length, ⟨Nat.zero_le _, ?_⟩, fpk, q⟩
    rw [show (xs.length : Int) - 1 - ((0 : Nat) : Int) = (its.toArray.size : Int) - 1 by simp [hlen]]
    exact hi
  · obtain ⟨t, u, v, hr⟩ := I1.hok l _ hq
    refine callRR hr hn62 fun h' hi hk => wpAny_pyIter_rangeiter hi ?_
    refine ⟨s1.heap.objs.size, [s1.heap.objs.size], _, _, H1, rfl, I1.kept (t' := s1.toks) hk, turn_rngR _ n, ?_, fpk, q⟩
    show IsRangeIter _ _ _ _ _
    rw [show (n : Int) - 1 + ((0 : Nat) : Int) * (-1) = (n : Int) - 1 by omega, show (n : Int) - ((0 : Nat) : Int) = n by omega]
    exact hi
def iSeq (K : PySem.W.Frag) (tl : TE) : TI := fun σ H R => tl σ H fun x H1 => ∃ a, x = .ref a ∧ ((∃ xs, SqL K H1 a xs) ∧ R (Itl K a) H1 ∨ (∃ xs, SqT K H1 a xs) ∧ R (Itt K a) H1)
theorem pi_seq {l : Expr} {tl : TE} (hl : PE X l tl) : PI X tg l (iSeq X.K tl) := by
  intro pins s σ H R I h
  refine thn (hl pins s σ H _ I h) fun v s1 ⟨x, H1, I1, r1, q1⟩ => ?_
  obtain ⟨a, e, q1⟩ := q1
  subst e
  cases r1
  have fpk : ∀ b ∈ [s1.heap.objs.size], FpOk X pins H1 b := fun b hb => by
    rw [List.mem_singleton.mp hb]
    exact I1.fpOk (Nat.le_refl _) (I1.hok.fresh (Nat.le_refl _))
  rcases q1 with ⟨⟨xs, hq⟩, q⟩ | ⟨⟨xs, hq⟩, q⟩
  · obtain ⟨its, rv, p, hz⟩ := I1.list hq
    refine wpAny_pyIter_list p.isList ?_
    exact ⟨s1.heap.objs.size, [s1.heap.objs.size], _, _, H1, rfl, I1.kept (t' := s1.toks) fun b o e => Heap.get?_push_of_some _ e, turn_list a _, ⟨_, Heap.get?_push_size _ rfl, rfl, rfl⟩, fpk, q⟩
  · obtain ⟨its, rv, p, hz⟩ := I1.tuple hq
    refine wpAny_pyIter_tuple (show s1.heap.IsTuple a its.toArray from p) ?_
    exact ⟨s1.heap.objs.size, [s1.heap.objs.size], _, _, H1, rfl, I1.kept (t' := s1.toks) fun b o e => Heap.get?_push_of_some _ e, turn_tuple a _, ⟨_, Heap.get?_push_size _ rfl, rfl, rfl⟩, fpk, q⟩
end
section
variable {K : PySem.W.Frag} {a : Addr} {xs : List V} {g : TG} {tb : TS} {D : Ends} {σ : L2.St} {H : Hp}
abbrev LoopP (J : It) (g : TG) (tb : TS) (D : Ends) (σ : L2.St) (H : Hp) : Prop := ∃ W : Nat → Nat → L2.St → Hp → Prop, (∃ m, W 0 m σ H) ∧ ∀ i m σ H, W i m σ H →
      (J.stop i H ∧ D.nx σ H) ∨ (J.go i H ∧ ∃ N : L2.St → Hp → Prop, (∀ σ' H', N σ' H' → ∃ m', m' < m ∧ W (i + 1) m' σ' H') ∧ ∀ x H', J.yld i H x H' → g x σ H' fun σ2 H2 => tb { D with nx := N, ct := N, bk := D.nx } σ2 H2)
theorem for_gen {J : It} {n : Nat} (Pv : Nat → L2.St → Hp → Prop) (h0 : Pv 0 σ H) (hgo : ∀ i σ H, i < n → Pv i σ H → J.go i H) (hst : ∀ H, J.stop n H)
    (hs : ∀ i x σ H H', i < n → Pv i σ H → J.yld i H x H' → g x σ H' fun σ2 H2 => tb { D with nx := Pv (i + 1), ct := Pv (i + 1), bk := D.nx } σ2 H2) (hd : ∀ σ H, Pv n σ H → D.nx σ H) : LoopP J g tb D σ H := by
  refine ⟨fun i m σ H => m = n - i ∧ i ≤ n ∧ Pv i σ H, ⟨n, by simp, Nat.zero_le _, h0⟩, ?_⟩
  rintro i m σ H ⟨rfl, hi, p⟩
  by_cases hlt : i < n
  · exact .inr ⟨hgo i σ H hlt p, Pv (i + 1), fun σ' H' p' => ⟨n - (i + 1), by omega, rfl, hlt, p'⟩, fun x H' y => hs i x σ H H' hlt p y⟩
  · have e : i = n := by omega
    subst e
    exact .inl ⟨hst H, hd σ H p⟩
theorem for_revL (Pv : Nat → L2.St → Hp → Prop) (h0 : Pv 0 σ H) (hl : ∀ i σ H, Pv i σ H → SqL K H a xs)
    (hs : ∀ i x σ H, i < xs.length → xs[xs.length - 1 - i]? = some x → Pv i σ H → g x σ H fun σ2 H2 => tb { D with nx := Pv (i + 1), ct := Pv (i + 1), bk := D.nx } σ2 H2) (hd : ∀ σ H, Pv xs.length σ H → D.nx σ H) : LoopP (ItlR K a xs.length) g tb D σ H :=
  for_gen Pv h0 (fun i σ H hi p => ⟨hi, xs, hl i σ H p, rfl⟩) (fun _ => Nat.le_refl _) (fun i x σ H H' hi p y => by
    obtain ⟨rfl, y⟩ := y
    exact hs i x σ H' hi (y xs (hl i σ H' p)) p) hd
theorem for_revT (Pv : Nat → L2.St → Hp → Prop) (h0 : Pv 0 σ H) (hl : ∀ i σ H, Pv i σ H → SqT K H a xs)
    (hs : ∀ i x σ H, i < xs.length → xs[xs.length - 1 - i]? = some x → Pv i σ H → g x σ H fun σ2 H2 => tb { D with nx := Pv (i + 1), ct := Pv (i + 1), bk := D.nx } σ2 H2) (hd : ∀ σ H, Pv xs.length σ H → D.nx σ H) : LoopP (IttR K a xs.length) g tb D σ H :=
  for_gen Pv h0 (fun i σ H hi p => ⟨hi, xs, hl i σ H p, rfl⟩) (fun _ => Nat.le_refl _) (fun i x σ H H' hi p y => by
    obtain ⟨rfl, y⟩ := y
    exact hs i x σ H' hi (y xs (hl i σ H' p)) p) hd
theorem for_revR {n : Nat} (Pv : Nat → L2.St → Hp → Prop) (h0 : Pv 0 σ H)
    (hs : ∀ i σ H, i < n → Pv i σ H → g (.int ((n : Int) - 1 - i)) σ H fun σ2 H2 => tb { D with nx := Pv (i + 1), ct := Pv (i + 1), bk := D.nx } σ2 H2) (hd : ∀ σ H, Pv n σ H → D.nx σ H) : LoopP (ItrR n) g tb D σ H :=
  for_gen Pv h0 (fun i σ H hi p => hi) (fun _ => Nat.le_refl _) (fun i x σ H H' hi p y => by
    obtain ⟨rfl, rfl⟩ := y
    exact hs i σ H' hi p) hd
end
end L3
namespace L3
open PySem PySem.Spec L2
variable {X : Cx}
theorem qi_rev  {tg : Expr} {a : Expr} {ta : TA} {p pos : Pos} (hg : Gl X "reversed") (hm : X.mg "reversed" = none) (ha : QA X [a] ta) (hn : notStar a = true := by rfl) : QI X tg (.Call (.Name "reversed" p) [a] [] pos) (iRev X.K ta) := ⟨pi_rev (hg := hg) (hm := hm) (ha := ha.h) (hn := hn)⟩
theorem qi_seq  {tg : Expr} {l : Expr} {tl : TE} (hl : QE X l tl) : QI X tg l (iSeq X.K tl) := ⟨pi_seq (hl := hl.h)⟩
def dig (x : Int) : Prop := 0 ≤ x ∧ x < 16
def digR (r : List Int) : Prop := ∀ x ∈ r, dig x
def ahI (n i : Nat) : Nat := if i = 0 then n - 1 else i - 1
def ah (r : List Int) (i : Nat) : Int := r.getD (ahI r.length i) 0
def enc1 (t : List Int) (s : Int) (r : List Int) (i : Nat) : List Int := r.set i (t.getD ((r.getD i 0 + s + i + ah r i) % 16).toNat 0)
def dec1 (b : List Int) (s : Int) (r : List Int) (i : Nat) : List Int := r.set i ((b.getD (r.getD i 0).toNat 0 - s - i - ah r i) % 16)
def encR (t : List Int) (s : Int) (r : List Int) : Nat → List Int
  | 0 => r
  | n + 1 => enc1 t s (encR t s r n) n
def decR (b : List Int) (s : Int) (r : List Int) : Nat → List Int
  | 0 => r
  | n + 1 => decR b s (dec1 b s r n) n
def encK (t : List Int) : List Int → List Int → List Int
  | [], r => r
  | s :: ks, r => encK t ks (encR t s r r.length)
def decK (b : List Int) : List Int → List Int → List Int
  | [], r => r
  | s :: ks, r => decR b s (decK b ks r) r.length
theorem enc1_len {t : List Int} {s : Int} {r : List Int} {i : Nat} : (enc1 t s r i).length = r.length := List.length_set ..
theorem dec1_len {b : List Int} {s : Int} {r : List Int} {i : Nat} : (dec1 b s r i).length = r.length := List.length_set ..
theorem encR_len {t : List Int} {s : Int} {r : List Int} : ∀ {n : Nat}, (encR t s r n).length = r.length
  | 0 => rfl
  | n + 1 => by rw [encR, enc1_len, encR_len]
theorem decR_len {b : List Int} {s : Int} : ∀ {n : Nat} {r : List Int}, (decR b s r n).length = r.length
  | 0, _ => rfl
  | n + 1, r => by rw [decR, decR_len, dec1_len]
theorem encK_len {t : List Int} : ∀ {ks r : List Int}, (encK t ks r).length = r.length
  | [], _ => rfl
  | s :: ks, r => by rw [encK, encK_len, encR_len]
theorem decK_len {b : List Int} : ∀ {ks r : List Int}, (decK b ks r).length = r.length
  | [], _ => rfl
  | s :: ks, r => by rw [decK, decR_len, decK_len]
theorem digR_set {r : List Int} {i : Nat} {x : Int} (h : digR r) (hx : dig x) : digR (r.set i x) := fun y hy => by
  rcases List.mem_or_eq_of_mem_set hy with z | z
  · exact h y z
  · rw [z]; exact hx
theorem dig_mod (x : Int) : dig (x % 16) := ⟨Int.emod_nonneg _ (by decide), Int.emod_lt_of_pos _ (by decide)⟩
theorem digR_at {r : List Int} (h : digR r) (i : Nat) : dig (r.getD i 0) := by
  rw [List.getD_eq_getElem?_getD]
  by_cases hi : i < r.length
  · rw [List.getElem?_eq_getElem hi]; exact h _ (List.getElem_mem hi)
  · rw [List.getElem?_eq_none (by omega)]; exact ⟨by decide, by decide⟩
theorem tab_digR {t : List Int} (p : t.Perm digs) : digR t := fun x hx => digs_mem (p.mem_iff.mp hx)
theorem enc1_dig {t : List Int} (p : t.Perm digs) {s : Int} {r : List Int} {i : Nat} (h : digR r) : digR (enc1 t s r i) := digR_set h (digR_at (tab_digR p) _)
theorem dec1_dig {b : List Int} {s : Int} {r : List Int} {i : Nat} (h : digR r) : digR (dec1 b s r i) := digR_set h (dig_mod _)
theorem encR_dig {t : List Int} (p : t.Perm digs) {s : Int} {r : List Int} (h : digR r) : ∀ {n : Nat}, digR (encR t s r n)
  | 0 => h
  | n + 1 => enc1_dig p (encR_dig p h)
theorem decR_dig {b : List Int} {s : Int} : ∀ {n : Nat} {r : List Int}, digR r → digR (decR b s r n)
  | 0, _, h => h
  | n + 1, _, h => decR_dig (n := n) (dec1_dig h)
theorem encK_dig {t : List Int} (p : t.Perm digs) : ∀ {ks r : List Int}, digR r → digR (encK t ks r)
  | [], _, h => h
  | s :: ks, _, h => encK_dig (ks := ks) p (encR_dig p h)
theorem decK_dig {b : List Int} : ∀ {ks r : List Int}, digR r → digR (decK b ks r)
  | [], _, h => h
  | s :: ks, _, h => decR_dig (decK_dig (ks := ks) h)
theorem getD_set_self {r : List Int} {i : Nat} {x : Int} (h : i < r.length) : (r.set i x).getD i 0 = x := by
  rw [List.getD_eq_getElem?_getD, List.getElem?_set_self h]; rfl
theorem getD_set_ne {r : List Int} {i j : Nat} {x : Int} (h : i ≠ j) : (r.set i x).getD j 0 = r.getD j 0 := by
  rw [List.getD_eq_getElem?_getD, List.getElem?_set_ne h, ← List.getD_eq_getElem?_getD]
theorem ah_ne {n i : Nat} (h2 : 2 ≤ n) (hi : i < n) : i ≠ ahI n i := by unfold ahI; split <;> omega
theorem ah_set {r : List Int} {i : Nat} {x : Int} (h2 : 2 ≤ r.length) (hi : i < r.length) : ah (r.set i x) i = ah r i := by
  unfold ah
  rw [List.length_set, getD_set_ne (ah_ne h2 hi)]
theorem set_same {r : List Int} {i : Nat} (hi : i < r.length) : r.set i (r.getD i 0) = r := by
  rw [List.getD_eq_getElem?_getD, List.getElem?_eq_getElem hi]
  exact List.set_getElem_self hi
theorem back_tab {t : List Int} (p : t.Perm digs) {z : Int} (h : dig z) : (backL t).getD (t.getD z.toNat 0).toNat 0 = z := by
  have hz : z.toNat < t.length := by rw [tab_len p]; have := h.1; have := h.2; omega
  have e : t.getD z.toNat 0 = t[z.toNat] := by rw [List.getD_eq_getElem?_getD, List.getElem?_eq_getElem hz]; rfl
  have bd := tab_at p hz
  have hb : t[z.toNat].toNat < (backL t).length := by rw [backL_len]; omega
  rw [e, List.getD_eq_getElem?_getD, List.getElem?_eq_getElem hb, Option.getD_some, back_at p (by rw [backL_len] at hb; exact hb)]
  have e2 : ((t[z.toNat].toNat : Nat) : Int) = t[z.toNat] := by omega
  rw [e2, idx_at p hz]
  have := h.1
  omega
theorem dec_enc1 {t : List Int} (p : t.Perm digs) {s : Int} {r : List Int} {i : Nat} (hr : digR r) (h2 : 2 ≤ r.length) (hi : i < r.length) : dec1 (backL t) s (enc1 t s r i) i = r := by
  unfold dec1 enc1
  rw [getD_set_self hi, ah_set h2 hi, List.set_set, back_tab p (dig_mod _)]
  have hd := digR_at hr i
  have e : ((r.getD i 0 + s + i + ah r i) % 16 - s - i - ah r i) % 16 = r.getD i 0 := by
    have := hd.1
    have := hd.2
    omega
  rw [e, set_same hi]
theorem dec_encR {t : List Int} (p : t.Perm digs) {s : Int} {r : List Int} (hr : digR r) (h2 : 2 ≤ r.length) : ∀ {n : Nat}, n ≤ r.length → decR (backL t) s (encR t s r n) n = r
  | 0, _ => rfl
  | n + 1, hn => by
    rw [encR, decR, dec_enc1 p (encR_dig p hr) (by rw [encR_len]; exact h2) (by rw [encR_len]; omega)]
    exact dec_encR p hr h2 (by omega)
theorem dec_encK {t : List Int} (p : t.Perm digs) : ∀ {ks r : List Int}, digR r → 2 ≤ r.length → decK (backL t) ks (encK t ks r) = r
  | [], _, _, _ => rfl
  | s :: ks, r, hr, h2 => by
    rw [decK, encK, dec_encK p (encR_dig p hr) (by rw [encR_len]; exact h2), encK_len, encR_len, dec_encR p hr h2 (Nat.le_refl _)]
theorem encK_app (t : List Int) : ∀ (ks : List Int) (s : Int) (r : List Int), encK t (ks ++ [s]) r = encR t s (encK t ks r) r.length
  | [], _, _ => rfl
  | a :: ks, s, r => by rw [List.cons_append, encK, encK_app t ks s, encK, encR_len]
def Sq (K : PySem.W.Frag) (H : Hp) (a : Addr) (xs : List V) : Prop := SqL K H a xs ∨ SqT K H a xs
theorem Sq.same {K : PySem.W.Frag} {H H' : Hp} {a : Addr} {xs : List V} (e : Same H H') (h : Sq K H a xs) : Sq K H' a xs := h.elim (fun h => .inl (e.seq h)) fun h => .inr (Same.sqt e h)
theorem Sq.lst {K : PySem.W.Frag} {H : Hp} {a : Addr} {xs : List V} (h : H a = some (.lst xs)) : Sq K H a xs := .inl (SqL.of h)
theorem Sq.tup {K : PySem.W.Frag} {H : Hp} {a : Addr} {xs : List V} (h : H a = some (.tup xs)) : Sq K H a xs := .inr (SqT.of h)
def spCoded (K : PySem.W.Frag) : Sp := fun vs H Q _ => ∃ (a b c : Addr) (t ks ds : List Int), vs = [.ref a, .ref b, .ref c] ∧ Sq K H a (t.map V.int) ∧ Sq K H b (ks.map V.int) ∧ Sq K H c (ds.map V.int) ∧ t.length = 16 ∧ 1 ≤ ds.length ∧ ds.length < 64 ∧
  ∀ p H', Same H H' → H p = none → H' p = some (.tup ((encK t ks ds).map V.int)) → Q (.ref p) H'
def spDecoded (K : PySem.W.Frag) : Sp := fun vs H Q _ => ∃ (a b c : Addr) (t ks ds : List Int), vs = [.ref a, .ref b, .ref c] ∧ Sq K H a (t.map V.int) ∧ Sq K H b (ks.map V.int) ∧ Sq K H c (ds.map V.int) ∧ t.Perm digs ∧ digR ds ∧ 1 ≤ ds.length ∧ ds.length < 64 ∧
  ∀ p H', Same H H' → H p = none → H' p = some (.tup ((decK (backL t) ks ds).map V.int)) → Q (.ref p) H'
theorem atI_getD {r : List Int} {i : Nat} {z : Int} (e : z = (i : Int)) (h : i < r.length) : atI (r.map V.int) z = some (.int (r.getD i 0)) := by
  rw [atI_int e (ints_at h), List.getD_eq_getElem?_getD, List.getElem?_eq_getElem h]; rfl
theorem atI_ah {r : List Int} {i : Nat} {z : Int} (e : z = (i : Int) - 1) (h : i < r.length) : atI (r.map V.int) z = some (.int (ah r i)) := by
  subst e
  unfold ah ahI
  by_cases h0 : i = 0
  · subst h0
    rw [if_pos rfl]
    have hl : r.length - 1 < r.length := by omega
    unfold atI ixN
    rw [List.length_map, if_neg (by omega), if_pos (by omega)]
    have e2 : ((((0 : Nat) : Int) - 1) + (r.length : Int)).toNat = r.length - 1 := by omega
    show (r.map V.int)[((((0 : Nat) : Int) - 1) + (r.length : Int)).toNat]? = _
    rw [e2, ints_at hl, List.getD_eq_getElem?_getD, List.getElem?_eq_getElem hl]; rfl
  · rw [if_neg h0]
    exact atI_getD (by omega) (by omega)
theorem Sq.ix {K : PySem.W.Frag} {H : Hp} {a : Addr} {xs : List V} {i : Int} {v : V} {Q : VK} (h : Sq K H a xs) (e : atI xs i = some v) (q : Q v H) : rIxL K (.ref a) (.int i) H Q ∨ rIxT K (.ref a) (.int i) H Q :=
  h.elim (fun h => .inl ⟨a, xs, i, v, rfl, rfl, h, e, q⟩) fun h => .inr ⟨a, xs, i, v, rfl, rfl, h, e, q⟩
section
variable {K : PySem.W.Frag} {a : Addr} {xs : List V} {g : TG} {tb : TS} {D : Ends} {σ : L2.St} {H H0 : Hp}
theorem for_seq (hq : Sq K H0 a xs) (Pv : Nat → L2.St → Hp → Prop) (h0 : Pv 0 σ H) (hk : ∀ i σ' H', Pv i σ' H' → Same H0 H')
    (hs : ∀ i x σ H, xs[i]? = some x → Pv i σ H → g x σ H fun σ2 H2 => tb { D with nx := Pv (i + 1), ct := Pv (i + 1), bk := D.nx } σ2 H2) (hd : ∀ σ H, Pv xs.length σ H → D.nx σ H) :
    ((∃ xs, SqL K H a xs) ∧ LoopP (Itl K a) g tb D σ H) ∨ ((∃ xs, SqT K H a xs) ∧ LoopP (Itt K a) g tb D σ H) := by
  rcases hq with hq | hq
  · exact .inl ⟨⟨xs, (hk _ _ _ h0).seq hq⟩, for_list Pv h0 (fun i σ H _ p => (hk i σ H p).seq hq) hs hd⟩
  · exact .inr ⟨⟨xs, Same.sqt (hk _ _ _ h0) hq⟩, for_tup Pv h0 (fun i σ H _ p => Same.sqt (hk i σ H p) hq) hs hd⟩
theorem for_revS (hq : Sq K H0 a xs) (Pv : Nat → L2.St → Hp → Prop) (h0 : Pv 0 σ H) (hk : ∀ i σ' H', Pv i σ' H' → Same H0 H')
    (hs : ∀ i x σ H, i < xs.length → xs[xs.length - 1 - i]? = some x → Pv i σ H → g x σ H fun σ2 H2 => tb { D with nx := Pv (i + 1), ct := Pv (i + 1), bk := D.nx } σ2 H2) (hd : ∀ σ H, Pv xs.length σ H → D.nx σ H) :
    (∃ xs, SqL K H a xs ∧ LoopP (ItlR K a xs.length) g tb D σ H) ∨ (∃ xs, SqT K H a xs ∧ LoopP (IttR K a xs.length) g tb D σ H) ∨ (∃ n : Nat, H a = some (.rng 0 n) ∧ (n : Int) < 2 ^ 62 ∧ LoopP (ItrR n) g tb D σ H) := by
  rcases hq with hq | hq
  · exact .inl ⟨xs, (hk _ _ _ h0).seq hq, for_revL Pv h0 (fun i σ H p => (hk i σ H p).seq hq) hs hd⟩
  · exact .inr (.inl ⟨xs, Same.sqt (hk _ _ _ h0) hq, for_revT Pv h0 (fun i σ H p => Same.sqt (hk i σ H p) hq) hs hd⟩)
end
theorem same_write {H H2 : Hp} {l : Addr} {o : HO} (s : Same H H2) (h : H l = none) : Same H (upd H2 l o) := fun d u e => by
  rw [upd_ne (ne_of_none e h)]; exact s _ _ e
theorem take_succ_ints {ks : List Int} {j : Nat} {s : Int} (h : ks[j]? = some s) : ks.take (j + 1) = ks.take j ++ [s] := by rw [List.take_add_one, h]; rfl
theorem drop_ints {ks : List Int} {j : Nat} {s : Int} (h : ks[j]? = some s) : ks.drop j = s :: ks.drop (j + 1) := by
  obtain ⟨hj, e⟩ := List.getElem?_eq_some_iff.mp h
  rw [List.drop_eq_getElem_cons hj, e]
inductive Eqd (H : Hp) : Nat → V → V → Prop where
  | int (n : Nat) (i : Int) : Eqd H n (.int i) (.int i)
  | str (n : Nat) (x : Str) : Eqd H n (.str x) (.str x)
  | non (n : Nat) : Eqd H n .non .non
  | bl (n : Nat) (b : Bool) : Eqd H n (.bl b) (.bl b)
  | tup {n : Nat} {a b : Addr} {xs ys : List V} (h1 : Rd H a (.tup xs)) (h2 : Rd H b (.tup ys)) (hl : xs.length = ys.length)
      (hi : ∀ (i : Nat) (x y : V), xs[i]? = some x → ys[i]? = some y → Eqd H n x y) : Eqd H (n + 1) (.ref a) (.ref b)
  | lst {n : Nat} {a b : Addr} {xs ys : List V} (h1 : H a = some (.lst xs)) (h2 : H b = some (.lst ys)) (hl : xs.length = ys.length)
      (hi : ∀ (i : Nat) (x y : V), xs[i]? = some x → ys[i]? = some y → Eqd H n x y) : Eqd H (n + 1) (.ref a) (.ref b)
theorem all_tt (n : Nat) : ((List.range n).all fun _ => true) = true := by simp
section
open SeqAt
variable {pins : List (Addr × Obj)} {σ : L2.St} {H : Hp} {s : Shared}
theorem vals_at {xs : List V} {us : List Value} (r : Vals xs us) {j : Nat} (h : j < us.length) : ∃ x, xs[j]? = some x ∧ RelV x us[j] := by
  have hl := r.length
  have hj : j < xs.length := by omega
  obtain ⟨u, hu, ru⟩ := r.get (List.getElem?_eq_getElem hj)
  rw [List.getElem?_eq_getElem h] at hu
  cases hu
  exact ⟨_, List.getElem?_eq_getElem hj, ru⟩
theorem eqd_at (I : L2.Inv X pins σ H s) {n : Nat} {x y : V} (h : Eqd H n x y) : ∀ {v u : Value} {A : Around}, RelV x v → RelV y u → A.units + n < cLine → EqAt A s v u true := by
  induction h with
  | int n i => rintro v u A ⟨t, rfl⟩ ⟨t', rfl⟩ _; have := EqAt.int_int (A := A) (s := s) i t i t'; rwa [beq_self_eq_true] at this
  | str n z => rintro v u A ⟨t, rfl⟩ ⟨t', rfl⟩ _; have := EqAt.str_str (A := A) (s := s) z t z t'; rwa [beq_self_eq_true] at this
  | non n =>
    intro v u A r1 r2 _
    cases (show v = Value.none from r1)
    cases (show u = Value.none from r2)
    exact EqAt.same _
  | bl n b =>
    intro v u A r1 r2 _
    cases (show v = Value.bool b from r1)
    cases (show u = Value.bool b from r2)
    exact EqAt.same _
  | @tup n a b xs ys h1 h2 hl _ ih =>
    intro v u A r1 r2 hu
    cases (show v = Value.ref a from r1)
    cases (show u = Value.ref b from r2)
    by_cases hab : a = b
    · rw [hab]; exact EqAt.same _
    · obtain ⟨its, q1, p1, _⟩ := I.tuple (.inl h1)
      obtain ⟨its2, q2, p2, _⟩ := I.tuple (.inl h2)
      have l1 := q1.length
      have l2 := q2.length
      have e := RcAt.tuples (A := A) (e := fun _ => true) (show s.heap.IsTuple a its.toArray from p1) (show s.heap.IsTuple b its2.toArray from p2) (by omega) (fun j z1 z2 => by
        obtain ⟨x, ex, rx⟩ := vals_at q1 (j := j) (by simpa using z1)
        obtain ⟨y, ey, ry⟩ := vals_at q2 (j := j) (by simpa using z2)
        exact ih j x y ex ey rx ry (by rw [Around.in1_units]; omega))
      rw [all_tt, show (its.toArray.size == its2.toArray.size) = true by simp; omega] at e
      exact EqAt.of_refs hab e
  | @lst n a b xs ys h1 h2 hl _ ih =>
    intro v u A r1 r2 hu
    cases (show v = Value.ref a from r1)
    cases (show u = Value.ref b from r2)
    by_cases hab : a = b
    · rw [hab]; exact EqAt.same _
    · obtain ⟨its, q1, p1, _⟩ := I.list (SqL.of h1)
      obtain ⟨its2, q2, p2, _⟩ := I.list (SqL.of h2)
      have l1 := q1.length
      have l2 := q2.length
      have e := RcAt.lists (A := A) (e := fun _ => true) p1.isList p2.isList (by simp; omega) (by omega) (fun j z1 z2 => by
        obtain ⟨x, ex, rx⟩ := vals_at q1 (j := j) (by simpa using z1)
        obtain ⟨y, ey, ry⟩ := vals_at q2 (j := j) (by simpa using z2)
        exact ih j x y ex ey rx ry (by rw [Around.in1_units]; omega))
      rw [all_tt] at e
      exact EqAt.of_refs hab e
theorem rc_eqd (I : L2.Inv X pins σ H s) {n : Nat} {x y : V} {v u : Value} {A : Around} (h : Eqd H n x y) (r1 : RelV x v) (r2 : RelV y u) (hu : A.units + n < cLine) : RcAt A s v u true ∧ RcNeAt A s v u false := by
  cases h with
  | int n i =>
    obtain ⟨t, rfl⟩ := r1
    obtain ⟨t', rfl⟩ := r2
    have e1 := RcAt.int_int (A := A) (s := s) i t i t'
    have e2 := RcNeAt.int_int (A := A) (s := s) i t i t'
    rw [beq_self_eq_true] at e1 e2
    exact ⟨e1, e2⟩
  | str n z =>
    obtain ⟨t, rfl⟩ := r1
    obtain ⟨t', rfl⟩ := r2
    have e1 := RcAt.str_str (A := A) (s := s) z t z t'
    have e2 := RcNeAt.str_str (A := A) (s := s) z t z t'
    rw [beq_self_eq_true] at e1 e2
    exact ⟨e1, e2⟩
  | non n =>
    cases (show v = Value.none from r1)
    cases (show u = Value.none from r2)
    exact ⟨RcAt.none_none, RcNeAt.none_none⟩
  | bl n b =>
    cases (show v = Value.bool b from r1)
    cases (show u = Value.bool b from r2)
    have e1 := RcAt.bool_bool (A := A) (s := s) b b
    have e2 := RcNeAt.bool_bool (A := A) (s := s) b b
    rw [beq_self_eq_true] at e1 e2
    exact ⟨e1, e2⟩
  | @tup n a b xs ys h1 h2 hl ih =>
    cases (show v = Value.ref a from r1)
    cases (show u = Value.ref b from r2)
    obtain ⟨its, q1, p1, _⟩ := I.tuple (.inl h1)
    obtain ⟨its2, q2, p2, _⟩ := I.tuple (.inl h2)
    have l1 := q1.length
    have l2 := q2.length
    have he : ∀ j (z1 : j < its.toArray.size) (z2 : j < its2.toArray.size), EqAt A.in1 s its.toArray[j] its2.toArray[j] ((fun _ => true) j) := fun j z1 z2 => by
      obtain ⟨x, ex, rx⟩ := vals_at q1 (j := j) (by simpa using z1)
      obtain ⟨y, ey, ry⟩ := vals_at q2 (j := j) (by simpa using z2)
      exact eqd_at I (ih j x y ex ey) rx ry (by rw [Around.in1_units]; omega)
    have e1 := RcAt.tuples (A := A) (e := fun _ => true) (show s.heap.IsTuple a its.toArray from p1) (show s.heap.IsTuple b its2.toArray from p2) (by omega) he
    have e2 := RcNeAt.tuples (A := A) (e := fun _ => true) (show s.heap.IsTuple a its.toArray from p1) (show s.heap.IsTuple b its2.toArray from p2) (by omega) he
    rw [all_tt, show (its.toArray.size == its2.toArray.size) = true by simp; omega] at e1 e2
    exact ⟨e1, e2⟩
  | @lst n a b xs ys h1 h2 hl ih =>
    cases (show v = Value.ref a from r1)
    cases (show u = Value.ref b from r2)
    obtain ⟨its, q1, p1, _⟩ := I.list (SqL.of h1)
    obtain ⟨its2, q2, p2, _⟩ := I.list (SqL.of h2)
    have l1 := q1.length
    have l2 := q2.length
    have he : ∀ j (z1 : j < its.toArray.size) (z2 : j < its2.toArray.size), EqAt A.in1 s its.toArray[j] its2.toArray[j] ((fun _ => true) j) := fun j z1 z2 => by
      obtain ⟨x, ex, rx⟩ := vals_at q1 (j := j) (by simpa using z1)
      obtain ⟨y, ey, ry⟩ := vals_at q2 (j := j) (by simpa using z2)
      exact eqd_at I (ih j x y ex ey) rx ry (by rw [Around.in1_units]; omega)
    have e1 := RcAt.lists (A := A) (e := fun _ => true) p1.isList p2.isList (by simp; omega) (by omega) he
    have e2 := RcNeAt.lists (A := A) (e := fun _ => true) p1.isList p2.isList (by simp; omega) (by omega) he
    rw [all_tt] at e1 e2
    exact ⟨e1, e2⟩
def rEqd (b : Bool) : R2 := fun x y H Q => ∃ n, n ≤ 32 ∧ Eqd H n x y ∧ Q (.bl b) H
theorem op_ned {k : Nat} (hr : Room k X.A) : OpR X (compareOp .NotEq) (rEqd false) := by
  intro pins s σ H x y v u Q I rx ry h
  obtain ⟨n, hn, e, q⟩ := h
  exact (rc_eqd I e rx ry (by have := hr.un; omega)).2 _ _ _ _ ⟨.bl _, H, I, rfl, q⟩
end
end L3
namespace L3
open PySem PySem.Spec PyProof.Rows L2
open Sem (wp)
def Its (x : Str) : It := ⟨fun i _ => i < x.cps.size, fun i H v H' => H' = H ∧ ∃ c, x.cps[i]? = some c ∧ v = .str ⟨#[c]⟩, fun i _ => x.cps.size ≤ i⟩
theorem turn_str {P : Program} {w : World} {K : PySem.W.Frag} {tg : Expr} (it : Addr) (x : Str) (t : Tok) : Turn P w K tg (Its x) [it] it (fun i h => h.IsStrIter it "str_ascii_iterator" x t i) where
  mem := by simp
  obj := fun i h st b hb => by
    have e : b = it := by simpa using hb
    subst e
    obtain ⟨o, e, c, d⟩ := st
    exact ⟨o, e, fun v z => by rw [d] at z; cases z⟩
  keep := fun i h h' st k => let ⟨o, e, r⟩ := st; ⟨o, k it (by simp) o e, r⟩
  item := by
    intro X hP hw hK hc i pins s σ H E I hf st hg
    subst hP hw hK
    obtain ⟨f0, f1, f2, f3, f4, f5⟩ := hf it (by simp)
    have W := Walks.strAscii (prog := X.prog) (w := X.w) (I.ok.hd hc) it x t
    refine W.item i s _ _ hg st fun v h' tk hv st' kk => ?_
    obtain ⟨c, u, hc', rfl⟩ := hv
    have I1 : L2.Inv X pins σ H { s with heap := h', toks := tk } := I.turned (fun b o hb e => kk b o (by simpa using hb) e) f0 f1 f3 f4 f5
    obtain ⟨o, e, cc, d⟩ := id st'
    exact ⟨_, rfl, go_of (s := { s with heap := h', toks := tk }) e cc d (by decide) ⟨.str ⟨#[c]⟩, H, I1, ⟨u, rfl⟩, ⟨rfl, c, hc', rfl⟩, st', fun b hb => (hf b hb).1⟩⟩
  done := by
    intro X hP hw hK hc i pins s σ H E I hf st hg
    subst hP hw hK
    obtain ⟨f0, f1, f2, f3, f4, f5⟩ := hf it (by simp)
    have hg' : x.cps.size ≤ i := hg
    exact wpAny_pyNext_ascii_end (I.ok.hd hc) st (by simp [hg']) fun h' eb => ⟨rfl, I.turned (t' := s.toks) (fun b o hb e => eb b o hb e) f0 f1 f3 f4 f5⟩
  self := fun _ _ _ _ _ st h => wpAny_pyIter_striter_ascii st h
section
variable {X : Cx} {tg : Expr}
def iStr (tl : TE) : TI := fun σ H R => tl σ H fun v H1 => ∃ x, v = .str x ∧ x.cps.all (· < 128) = true ∧ R (Its x) H1
theorem pi_str {l : Expr} {tl : TE} (hl : PE X l tl) : PI X tg l (iStr tl) := by
  intro pins s σ H R I h
  refine thn (hl pins s σ H _ I h) fun v s1 ⟨x, H1, I1, r1, q1⟩ => ?_
  obtain ⟨z, rfl, ha, q⟩ := q1
  obtain ⟨t, rfl⟩ := r1
  refine wpAny_pyIter_ascii ha ?_
  refine ⟨s1.heap.objs.size, [s1.heap.objs.size], _, _, H1, rfl, I1.kept (t' := s1.toks) fun b o e => Heap.get?_push_of_some _ e, turn_str _ z t, ⟨_, Heap.get?_push_size _ rfl, rfl, rfl⟩, fun b hb => ?_, q⟩
  rw [List.mem_singleton.mp hb]
  exact I1.fpOk (Nat.le_refl _) (I1.hok.fresh (Nat.le_refl _))
theorem qi_str {l : Expr} {tl : TE} (hl : QE X l tl) : QI X tg l (iStr tl) := ⟨pi_str hl.h⟩
end
theorem for_str {x : Str} {g : TG} {tb : TS} {D : Ends} {σ : L2.St} {H : Hp} (Pv : Nat → L2.St → Hp → Prop) (h0 : Pv 0 σ H)
    (hs : ∀ i c σ H, x.cps[i]? = some c → Pv i σ H → g (.str ⟨#[c]⟩) σ H fun σ2 H2 => tb { D with nx := Pv (i + 1), ct := Pv (i + 1), bk := D.nx } σ2 H2) (hd : ∀ σ H, Pv x.cps.size σ H → D.nx σ H) : LoopP (Its x) g tb D σ H :=
  for_gen Pv h0 (fun i σ H hi p => hi) (fun _ => Nat.le_refl _) (fun i v σ H H' hi p y => by
    obtain ⟨rfl, c, hc, rfl⟩ := y
    exact hs i c σ H' hc p) hd
section
variable {X : Cx} {o e : Expr} {es : List Expr} {to : TE} {t : TA} {name : Str} {apos cpos : Pos} {T id : String} {r : V → List V → Hp → VK → Prop}
theorem qe_bm (pa : PlainAttrs T) (slot : Slot T name id) (hty : typeOf (.builtin id) = pure (.type "method_descriptor")) (hm : MtR X id r) (ho : QE X o to) (ha : QA X (e :: es) t)
    (hbase : attributeBase o name X.env (eval o X.env) = eval o X.env := by rfl)
    (hfew : ((backTo cpos (starEach (e :: es) X.env)).all (fun x => !x.1) && (backToKw cpos (keywordEach [] X.env)).all (fun x => x.1.isSome)
      && decide ((e :: es).length + ([] : List Keyword).length + (if ([] : List Keyword).isEmpty then 0 else 1) < 30)) = true := by rfl)
    (hline : (apos.endLine == cpos.line) = true := by rfl) (hs : starEach (e :: es) X.env = (false, eval e X.env) :: starEach es X.env := by rfl) (hplain : (backTo cpos (starEach es X.env)).any (·.1) = false := by rfl) :
    QE X (.Call (.Attribute o name apos) (e :: es) [] cpos) (tBM X.K T r to t) := ⟨pe_bm pa slot hty hm ho.h ha.h hbase hfew hline hs hplain⟩
theorem mr_append : MtR X "list.append" rAppend := mt_append
end
theorem preSum_list (ns : List Int) : ∀ n, n ≤ ns.length → preSum (fun i => ns.getD i 0) n = (ns.take n).sum
  | 0, _ => by simp [preSum]
  | n + 1, h => by
    have hn : n < ns.length := by omega
    rw [preSum, preSum_list ns n (by omega), List.take_add_one, List.getElem?_eq_getElem hn, Option.toList_some, List.sum_append, List.getD_eq_getElem?_getD, List.getElem?_eq_getElem hn]
    simp
theorem sum_bd {B : Int} : ∀ {ns : List Int}, (∀ z ∈ ns, 0 ≤ z ∧ z ≤ B) → 0 ≤ ns.sum ∧ ns.sum ≤ ns.length * B
  | [], _ => ⟨by simp, by simp⟩
  | n :: r, h => by
    have h1 := h n List.mem_cons_self
    have h2 := sum_bd (ns := r) fun z hz => h z (List.mem_cons_of_mem _ hz)
    rw [List.sum_cons, List.length_cons]
    refine ⟨by omega, ?_⟩
    have : (((r.length + 1 : Nat) : Int)) * B = r.length * B + B := by rw [Int.natCast_add, Int.add_mul]; simp
    omega
section
variable {X : Cx}
theorem call_sumI (hc : X.calm = true) : CallR X (.builtin "sum") (fun xs H Q => ∃ (p : Addr) (ns : List Int), xs = [.ref p] ∧ Sq X.K H p (ns.map V.int) ∧ ns.length ≤ 1000 ∧ (∀ z ∈ ns, 0 ≤ z ∧ z ≤ 1000000) ∧ Q (.int ns.sum) H) := by
  intro pins s σ H xs us Q I r h
  obtain ⟨p, ns, rfl, hq, hl, hb, q⟩ := h
  obtain ⟨u, rfl, ru⟩ := vals1 r
  cases ru
  have bd : ∀ n, n ≤ ns.length → 0 ≤ preSum (fun i => ns.getD i 0) n ∧ preSum (fun i => ns.getD i 0) n ≤ 1000000000 := fun n hn => by
    rw [preSum_list ns n hn]
    have h1 := sum_bd (B := 1000000) (ns := ns.take n) fun z hz => hb z (List.mem_of_mem_take hz)
    have h2 : (ns.take n).length ≤ 1000 := by rw [List.length_take]; omega
    omega
  have fit : ∀ j, j < ns.length → InLong ((fun i => ns.getD i 0) j) ∧ InLong (preSum (fun i => ns.getD i 0) (j + 1)) := fun j hj => by
    have b1 := bd (j + 1) (by omega)
    have b2 : 0 ≤ ns.getD j 0 ∧ ns.getD j 0 ≤ 1000000 := by
      rw [List.getD_eq_getElem?_getD, List.getElem?_eq_getElem hj]; exact hb _ (List.getElem_mem hj)
    unfold InLong
    simp only
    omega
  have eS : preSum (fun i => ns.getD i 0) ns.length = ns.sum := by rw [preSum_list ns _ (Nat.le_refl _), List.take_length]
  have val : ∀ {its : List Value}, Vals (ns.map V.int) its → ∀ (i : Nat) (v : Value), its.toArray[i]? = some v → ∃ t, v = .int ((fun i => ns.getD i 0) i) t := fun {its} rv i v hv => by
    have hv' : its[i]? = some v := by simpa using hv
    have hi : i < its.length := (List.getElem?_eq_some_iff.mp hv').1
    obtain ⟨x, ex, rx⟩ := vals_at rv hi
    obtain ⟨z, rfl, hz⟩ := ints_get ex
    obtain ⟨t, ht⟩ := rx
    refine ⟨t, ?_⟩
    rw [(List.getElem?_eq_some_iff.mp hv').2] at ht
    rw [ht]
    show Value.int z t = Value.int (ns.getD i 0) t
    rw [List.getD_eq_getElem?_getD, hz]; rfl
  rcases hq with hq | hq
  · obtain ⟨its, rv, pl, hz⟩ := I.list hq
    have hlen : ns.length = its.length := by have := rv.length; rwa [List.length_map] at this
    have hlt : p < s.heap.objs.size := by obtain ⟨_, e, _⟩ := pl.isList; exact Heap.lt_size e
    refine call_sum_walk (wpAny_pyIter_list pl.isList ?_)
    refine ⟨s.heap.objs.size, [s.heap.objs.size, p], [s.heap.objs.size], its.toArray.size, _, _, fun i => ns.getD i 0, rfl, Walks.list (A := X.A.in1) (I.ok.hd hc) _ p (Nat.ne_of_lt hlt) its.toArray,
      ⟨⟨_, Heap.get?_push_size _ rfl, rfl, rfl⟩, pl.isList.push _⟩, fun b hb' => ?_, val rv, fun j hj => fit j (by simp at hj; omega), fun h' tk t' hk => ?_⟩
    · have sz : (s.heap.push { cls := .type "list_iterator", data := .fields #[.ref p, .int 0 0] }).objs.size = s.heap.objs.size + 1 := Heap.size_push ..
      simp only [List.mem_cons, List.not_mem_nil, or_false] at hb'
      show b < (Heap.push s.heap _).objs.size
      rw [Heap.size_push]
      rcases hb' with rfl | rfl
      · exact Nat.lt_succ_self _
      · exact Nat.lt_succ_of_lt hlt
    · have e2 : preSum (fun i => ns.getD i 0) its.toArray.size = ns.sum := by rw [List.size_toArray, ← hlen]; exact eS
      rw [e2]
      refine ⟨.int _, H, I.kept (h' := h') (t' := tk) fun b o q => hk b o (fun hm => ?_) (Heap.get?_push_of_some _ q), ⟨_, rfl⟩, q⟩
      rw [List.mem_singleton.mp hm] at q
      exact Nat.lt_irrefl _ (Heap.lt_size q)
  · obtain ⟨its, rv, pl, hz⟩ := I.tuple hq
    have hlen : ns.length = its.length := by have := rv.length; rwa [List.length_map] at this
    have hT : s.heap.IsTuple p its.toArray := pl
    have hlt : p < s.heap.objs.size := by obtain ⟨_, e, _⟩ := hT; exact Heap.lt_size e
    refine call_sum_walk (wpAny_pyIter_tuple hT ?_)
    refine ⟨s.heap.objs.size, [s.heap.objs.size, p], [s.heap.objs.size], its.toArray.size, _, _, fun i => ns.getD i 0, rfl, Walks.tuple (A := X.A.in1) (I.ok.hd hc) _ p (Nat.ne_of_lt hlt) its.toArray,
      ⟨⟨_, Heap.get?_push_size _ rfl, rfl, rfl⟩, let ⟨o, e, r⟩ := hT; ⟨o, Heap.get?_push_of_some _ e, r⟩⟩, fun b hb' => ?_, val rv, fun j hj => fit j (by simp at hj; omega), fun h' tk t' hk => ?_⟩
    · simp only [List.mem_cons, List.not_mem_nil, or_false] at hb'
      show b < (Heap.push s.heap _).objs.size
      rw [Heap.size_push]
      rcases hb' with rfl | rfl
      · exact Nat.lt_succ_self _
      · exact Nat.lt_succ_of_lt hlt
    · have e2 : preSum (fun i => ns.getD i 0) its.toArray.size = ns.sum := by rw [List.size_toArray, ← hlen]; exact eS
      rw [e2]
      refine ⟨.int _, H, I.kept (h' := h') (t' := tk) fun b o q => hk b o (fun hm => ?_) (Heap.get?_push_of_some _ q), ⟨_, rfl⟩, q⟩
      rw [List.mem_singleton.mp hm] at q
      exact Nat.lt_irrefl _ (Heap.lt_size q)
end
end L3
namespace L3
open PySem PySem.Spec PyProof.Rows L2
section
variable {X : Cx}
theorem get_list : PGet X (fun x y H Q => ∃ (p : Addr) (xs : List V) (i : Nat) (v : V), x = .ref p ∧ y = .int (i : Int) ∧ H p = some (.lst xs) ∧ xs[i]? = some v ∧ Q v H) := by
  intro pins s σ H o i ov iv Q I r1 r2 h
  obtain ⟨p, xs, j, v, rfl, rfl, hH, hv, q⟩ := h
  cases r1
  obtain ⟨t, rfl⟩ := r2
  obtain ⟨its, r, pl, hz⟩ := I.list (SqL.of hH)
  obtain ⟨u, hu, ru⟩ := r.get hv
  have hl := r.length
  have hn := line63
  have hj : j < xs.length := (List.getElem?_eq_some_iff.mp hv).1
  exact wpAny_getItem_list pl.isList (by omega) (by omega) (by simpa using hu) ⟨v, H, I, ru, q⟩
end
def isNm (z : Str) : Prop := (∀ c ∈ z.cps.toList, 97 ≤ c ∧ c ≤ 122) ∧ 1 ≤ z.cps.toList.length ∧ z.cps.toList.length ≤ 8
theorem nm_ascii {z : Str} (h : isNm z) : z.cps.all (· < 128) = true := by
  rw [Array.all_eq_true']
  intro c hc
  have := h.1 c (by simpa using hc)
  simp; omega
def letD (c : Nat) : List Int := [((c : Int) - 97) % 16, ((c : Int) - 97) / 16]
def letDs (cs : List Nat) : List Int := cs.flatMap letD
theorem letDs_app (cs : List Nat) (c : Nat) : letDs (cs ++ [c]) = letDs cs ++ letD c := by simp [letDs]
theorem letDs_len (cs : List Nat) : (letDs cs).length = 2 * cs.length := by
  induction cs with
  | nil => rfl
  | cons c r ih => simp only [letDs, List.flatMap_cons, List.length_append, List.length_cons] at ih ⊢; rw [ih]; simp [letD]; omega
def part (ds : List Int) (j : Nat) : Nat → Int
  | 0 => 0
  | n + 1 => part ds j n + if n % 4 = j then ds.getD n 0 else 0
def sumsL (ds : List Int) (n : Nat) : List Int := [part ds 0 n, part ds 1 n, part ds 2 n, part ds 3 n]
theorem sums_step (ds : List Int) (n : Nat) : (sumsL ds n).set (n % 4) ((sumsL ds n).getD (n % 4) 0 + ds.getD n 0) = sumsL ds (n + 1) := by
  have h : n % 4 = 0 ∨ n % 4 = 1 ∨ n % 4 = 2 ∨ n % 4 = 3 := by omega
  rcases h with h | h | h | h <;> simp [sumsL, part, h]
def ownK (ds : List Int) : List Int := (sumsL ds ds.length).map (· % 16)
theorem ownK_len (ds : List Int) : (ownK ds).length = 4 := rfl
def spLetters : Sp := fun vs H Q _ => ∃ z, vs = [.str z] ∧ isNm z ∧ ∀ l H', Same H H' → H l = none → H' l = some (.lst ((letDs z.cps.toList).map V.int)) → Q (.ref l) H'
def spKeyOf (K : PySem.W.Frag) : Sp := fun vs H Q _ => ∃ (a b : Addr) (z : Str) (t ks : List Int), vs = [.ref a, .ref b, .str z] ∧ Sq K H a (t.map V.int) ∧ Sq K H b (ks.map V.int) ∧ isNm z ∧ t.length = 16 ∧
  ∀ p H', Same H H' → H p = none → H' p = some (.tup ((encK t ks (ownK (letDs z.cps.toList))).map V.int)) → Q (.ref p) H'
theorem take_cs {cs : List Nat} {i c : Nat} (h : cs[i]? = some c) : cs.take (i + 1) = cs.take i ++ [c] := by rw [List.take_add_one, h]; rfl
theorem cps_get {z : Str} {i c : Nat} (h : z.cps[i]? = some c) : z.cps.toList[i]? = some c := by simpa using h
theorem bsc2 {X : Cx} {scope : Scope} {y z : Str} {j k : Nat} (kind : scope.kind = .function) (names : ∀ x ∈ scope.names, x.2 = .local → scope.names.lookup x.1 = some .local) (nocell : ∀ x ∈ scope.names, x.2 ≠ .cell)
    (free : ∀ x ∈ scope.names, x.2 = .free → x.1 ∈ ([y, z] : List Str)) (h1 : X.N[j]? = some y) (h2 : X.env.kindOf y = some .cell) (h3 : (relabel scope X.env).names.lookup y = some .cell)
    (g1 : X.N[k]? = some z) (g2 : X.env.kindOf z = some .cell) (g3 : (relabel scope X.env).names.lookup z = some .cell) : BScope X scope [y, z] [j, k] :=
  ⟨kind, names, nocell, free, rfl, fun i j' y' e1 e2 => by
    match i with
    | 0 => cases e1; cases e2; exact ⟨h1, h2, h3⟩
    | 1 => cases e1; cases e2; exact ⟨g1, g2, g3⟩
    | i + 2 => simp at e1⟩
theorem clo2 {X : Cx} {y z : Str} {c d : Addr} (h : X.env.cells.lookup y = some c) (g : X.env.cells.lookup z = some d) : ∀ u e, ([(y, c), (z, d)] : List (Str × Addr)).lookup u = some e → X.env.cells.lookup u = some e := fun u e he => by
  by_cases hu : u = y
  · subst hu
    simp at he
    rw [← he]; exact h
  · by_cases hv : u = z
    · subst hv
      simp [List.lookup_cons, show (u == y) = false from by simpa using hu] at he
      rw [← he]; exact g
    · simp [List.lookup_cons, show (u == y) = false from by simpa using hu, show (u == z) = false from by simpa using hv] at he
end L3
namespace L3
open PySem PySem.Spec PyProof.Rows L2
open Sem (wp)
section
variable {prog : Program} {w : World} {A : Around} {E : Value → Shared → Prop} {s : Shared}
theorem draw_listU {it t : Addr} {items : Array Value} (hne : t ≠ it) : ∀ (n i : Nat) (s : Shared) (Q : List Value → Shared → Prop), s.heap.IsListIter it t i → s.heap.IsList t items → i + n ≤ items.size →
    (∀ h', h'.IsListIter it t (i + n) → Heap.SameBut it s.heap h' → Q ((items.toList.drop i).take n) { s with heap := h' }) → wpAny (model prog w) A (draw (.ref it) n) Q E s
  | 0, i, s, Q, hit, _, _, hQ => by
    show wpAny _ _ (pure []) Q E s
    refine wpAny_pure ?_
    have := hQ s.heap hit (Heap.SameBut.refl ..)
    simpa using this
  | n + 1, i, s, Q, hit, ht, hle, hQ => by
    have hlt : i < items.size := by omega
    show wpAny _ _ (pyNext (.ref it) >>= _) Q E s
    refine wpAny_bind (wpAny_pyNext_list_item hit ht (x := items[i]) (by simp [hlt]) fun h₁ hit₁ hs₁ => ?_)
    have ht1 : (Shared.heap { s with heap := h₁ }).IsList t items := let ⟨o, e, r⟩ := ht; ⟨o, hs₁.extBut _ _ hne e, r⟩
    refine wpAny_bind (wpAny_holding (draw_listU hne n (i + 1) _ _ hit₁ ht1 (by omega) fun h₂ hit₂ hs₂ => wpAny_pure ?_))
    have hd : items.toList.drop i = items[i] :: items.toList.drop (i + 1) := by simp [List.drop_eq_getElem_cons, hlt]
    have z := hQ h₂ (by rw [show i + (n + 1) = i + 1 + n by omega]; exact hit₂) (hs₁.trans hs₂)
    rw [hd, List.take_succ_cons] at z
    exact z
theorem unpack_listU {t : Addr} {items : Array Value} {targets : List (Bool × (Value → Sem Unit))} {Q : Unit → Shared → Prop} (hh : A.handled = none) (ht : s.heap.IsList t items)
    (hn : targets.length = items.size) (hstar : targets.findIdx? (·.1) = none)
    (h : ∀ h', Heap.ExtBut s.heap.objs.size s.heap h' → wpAny (model prog w) A (assignInOrder (targets.map (·.2)) items.toList) Q E { s with heap := h' }) :
    wpAny (model prog w) A (unpack (.ref t) targets) Q E s := by
  have hlt : t ≠ s.heap.objs.size := by obtain ⟨o, ho, _⟩ := ht; exact Nat.ne_of_lt (Heap.lt_size ho)
  unfold unpack
  rw [hn, hstar]
  refine wpAny_bind (wpAny_holding ?_)
  unfold unpackItems
  refine wpAny_bind ?_
  unfold notIterableAtAll
  refine wpAny_bind (wpAny_specialOf ht.typeIs F.slot_list_iter.lookup ?_)
  refine wpAny_pure ?_
  simp only [Bool.false_eq_true, if_false]
  refine wpAny_bind (wpAny_holding (wpAny_pyIter_list ht ?_))
  refine wpAny_bind (wpAny_holding (draw_listU hlt items.size 0 _ _ ⟨_, Heap.get?_push_size _ rfl, rfl, rfl⟩ (ht.push _) (by omega) fun h₁ hit₁ hs₁ => ?_))
  have hall : List.take items.size (List.drop 0 items.toList) = items.toList := by
    rw [List.drop_zero]
    exact List.take_of_length_le (by simp)
  rw [hall]
  rw [if_neg (by simp)]
  have ht₁ : h₁.IsList t items := let ⟨o, e, r⟩ := ht.push _; ⟨o, hs₁.extBut _ _ hlt e, r⟩
  refine wpAny_bind (wpAny_holding (wpAny_pyNext_list_end hh hit₁ ht₁ (by simp) fun h₂ he₂ => ?_))
  simp only [Option.isSome_none, Bool.false_eq_true, if_false]
  exact wpAny_pure (h h₂ fun b o hb e => he₂ b o hb (hs₁.extBut b o hb (Heap.get?_push_of_some _ e)))
end
section
variable {X : Cx} {pos : Pos}
def gSeq (K : PySem.W.Frag) (n : Nat) (t : TGs) : TG := fun v σ H Q => ∃ a xs, v = .ref a ∧ Sq K H a xs ∧ xs.length = n ∧ t xs σ H Q
theorem pg_seq {es : List Expr} {k : Nat} {t : TGs} {n : Nat} (hc : X.calm = true) (h : PGs X es t)
    (hn : (assignEach es X.env).length = n := by rfl) (hst : (assignEach es X.env).findIdx? (·.1) = none := by rfl) : PG X (.Tuple es k pos) (gSeq X.K n t) := by
  intro pins s σ H v u Q I r hw
  obtain ⟨a, xs, e1, hq, hl, hw⟩ := hw
  rcases hq with hq | hq
  · subst e1
    cases r
    obtain ⟨its, rv, ht, hz⟩ := I.list hq
    rw [assign_Tuple]
    refine wpAny_bind (wpAny_standAt (unpack_listU (I.ok.hd hc) ht.isList (by simp [hn, ← hl, rv.length]) hst fun h' hx => ?_))
    have I1 : L2.Inv X pins σ H { s with heap := h' } := I.kept (t' := s.toks) fun b o e => hx b o (Nat.ne_of_lt (Heap.lt_size e)) e
    exact h pins _ σ H xs _ Q I1 (by simpa using rv) hw
  · exact pg_tup hc h hn hst pins s σ H v u Q I r ⟨a, xs, e1, hq, hl, hw⟩
theorem qg_seq {es : List Expr} {k : Nat} {t : TGs} {n : Nat} (hc : X.calm = true) (h : QGs X es t)
    (hn : (assignEach es X.env).length = n := by rfl) (hst : (assignEach es X.env).findIdx? (·.1) = none := by rfl) : QG X (.Tuple es k pos) (gSeq X.K n t) := ⟨pg_seq hc h.h hn hst⟩
end
end L3
namespace L3
open PySem PySem.Spec PyProof.Rows L2
open Sem (wp)
namespace RV
end RV
section
variable {prog : Program} {w : World} {A : Around} {E : Value → Shared → Prop} {s : Shared}
end
section
variable {X : Cx}
end
end L3
namespace L3
open PySem PySem.Spec PyProof.Rows L2
def fourI (c d : Int) : List Int := [c % 16, c / 16 % 16, c / 256, d]
def fiveI (c d : Int) : List Int := fourI c d ++ [(fourI c d).sum % 16]
def keyZ (t ks : List Int) (z : Str) : List Int := encK t ks (ownK (letDs z.cps.toList))
def codeI (t ks : List Int) (z : Str) (c d : Int) : List Int := encK t (keyZ t ks z) (fiveI c d)
def readI (r : List Int) : Option (Int × Int) := if r.getD 4 0 = (r.getD 0 0 + r.getD 1 0 + r.getD 2 0 + r.getD 3 0) % 16 then some (r.getD 0 0 + r.getD 1 0 * 16 + r.getD 2 0 * 256, r.getD 3 0) else none
def readK (t ks : List Int) (z : Str) (ds : List Int) : Option (Int × Int) := readI (decK (backL t) (keyZ t ks z) ds)
theorem five_len (c d : Int) : (fiveI c d).length = 5 := rfl
theorem four_sum (c d : Int) : (fourI c d).sum = c % 16 + c / 16 % 16 + c / 256 + d := by simp [fourI]; omega
theorem five_dig {c d : Int} (h0 : 0 ≤ c) (h1 : c < 4096) (hd : dig d) : digR (fiveI c d) := fun x hx => by
  simp only [fiveI, fourI, List.cons_append, List.nil_append, List.mem_cons, List.not_mem_nil, or_false] at hx
  rcases hx with rfl | rfl | rfl | rfl | rfl
  · exact dig_mod _
  · exact dig_mod _
  · exact ⟨by omega, by omega⟩
  · exact hd
  · exact dig_mod _
theorem read_five {c d : Int} (h0 : 0 ≤ c) (h1 : c < 4096) : readI (fiveI c d) = some (c, d) := by
  have e : (fiveI c d) = [c % 16, c / 16 % 16, c / 256, d, (c % 16 + c / 16 % 16 + c / 256 + d) % 16] := by unfold fiveI; rw [four_sum]; rfl
  unfold readI
  rw [e]
  show (if (c % 16 + c / 16 % 16 + c / 256 + d) % 16 = (c % 16 + c / 16 % 16 + c / 256 + d) % 16 then some (c % 16 + c / 16 % 16 * 16 + c / 256 * 256, d) else none) = _
  rw [if_pos rfl, show c % 16 + c / 16 % 16 * 16 + c / 256 * 256 = c by omega]
theorem five_of {r : List Int} (hl : r.length = 5) : ∃ a b c d e : Int, r = [a, b, c, d, e] := by
  match r, hl with
  | [a, b, c, d, e], _ => exact ⟨a, b, c, d, e, rfl⟩
theorem codeI_len (t ks : List Int) (z : Str) (c d : Int) : (codeI t ks z c d).length = 5 := by unfold codeI; rw [encK_len, five_len]
theorem code_dig {t ks : List Int} (p : t.Perm digs) {z : Str} {c d : Int} (h0 : 0 ≤ c) (h1 : c < 4096) (hd : dig d) : digR (codeI t ks z c d) := encK_dig p (five_dig h0 h1 hd)
theorem read_code {t ks : List Int} (p : t.Perm digs) {z : Str} {c d : Int} (h0 : 0 ≤ c) (h1 : c < 4096) (hd : dig d) : readK t ks z (codeI t ks z c d) = some (c, d) := by
  unfold readK codeI
  rw [dec_encK p (five_dig h0 h1 hd) (by rw [five_len]; decide), read_five h0 h1]
def Told (H : Hp) (x : V) : Option (Int × Int) → Prop
  | none => x = .non
  | some (c, d) => ∃ p, x = .ref p ∧ H p = some (.tup [.int c, .int d])
def spCD : Sp := fun vs H Q _ => ∃ c : Int, vs = [.int c] ∧ ∀ p H', Same H H' → H' p = some (.tup [.int (c % 16), .int (c / 16 % 16), .int (c / 256)]) → Q (.ref p) H'
def spPress (K : PySem.W.Frag) : Sp := fun vs H Q _ => ∃ (a b : Addr) (z : Str) (age c d : Int) (t ks : List Int), vs = [.ref a, .ref b, .str z, .int age, .int c, .int d] ∧ Sq K H a (t.map V.int) ∧ Sq K H b (ks.map V.int) ∧ isNm z ∧ t.length = 16 ∧ 0 ≤ c ∧ c < 4096 ∧ dig d ∧
  ∀ p pc H', Same H H' → H' p = some (.tup [.str z, .int age, .ref pc]) → H' pc = some (.tup ((codeI t ks z c d).map V.int)) → Q (.ref p) H'
def spRead (K : PySem.W.Frag) : Sp := fun vs H Q _ => ∃ (a b pr pc : Addr) (z : Str) (age : Int) (t ks ds : List Int), vs = [.ref a, .ref b, .ref pr] ∧ Sq K H a (t.map V.int) ∧ Sq K H b (ks.map V.int) ∧ Sq K H pr [.str z, .int age, .ref pc] ∧ Sq K H pc (ds.map V.int) ∧ isNm z ∧ t.Perm digs ∧ ds.length = 5 ∧ digR ds ∧
  ∀ x H', Same H H' → Told H' x (readK t ks z ds) → Q x H'
theorem qs_par {X : Cx} {pos : Pos} {i j : Nat} {x y : Str} {a b : Expr} {ta : TA} {px py pt : Pos} {kt k2 pt2} (hc : X.calm = true) (hN : X.N.Nodup) (hi : X.N[i]? = some x) (hj : X.N[j]? = some y) (hij : i ≠ j)
    (hx : X.env.scope.names.lookup x = some .local) (hy : X.env.scope.names.lookup y = some .local) (ha : QA X [a, b] ta)
    (hw : swappedStores [.Tuple [.Name x px, .Name y py] kt pt] (.Tuple [a, b] k2 pt2) X.env = pure (some [x, y]) := by rfl)
    (hs : swapsWithSole [.Tuple [.Name x px, .Name y py] kt pt] (.Tuple [a, b] k2 pt2) pos.line X.env = pure false := by rfl) :
    QS X (.Assign [.Tuple [.Name x px, .Name y py] kt pt] (.Tuple [a, b] k2 pt2) pos) (tPar i j ta) := ⟨ps_par hc hN hi hj hij hx hy ha.h hw hs⟩
end L3
namespace L2
open PySem PySem.Spec PyProof.Rows
section
variable {κ : Type} [DecidableEq κ]
def valV (kvs : List (κ × V)) (k : κ) : Option V := (kvs.find? fun kv => decide (kv.1 = k)).map (·.2)
def putK (kvs : List (κ × V)) (k : κ) (v : V) : List (κ × V) :=
  if (kvs.any fun kv => decide (kv.1 = k)) = true then kvs.map (fun kv => if kv.1 = k then (kv.1, v) else kv) else kvs ++ [(k, v)]
theorem valV_pos {p : κ × V} {r : List (κ × V)} {k : κ} (e : p.1 = k) : valV (p :: r) k = some p.2 := by simp [valV, List.find?_cons, e]
theorem valV_neg {p : κ × V} {r : List (κ × V)} {k : κ} (e : ¬ p.1 = k) : valV (p :: r) k = valV r k := by simp [valV, List.find?_cons, e]
theorem valV_any (k : κ) : ∀ kvs : List (κ × V), (kvs.any fun kv => decide (kv.1 = k)) = (valV kvs k).isSome
  | [] => rfl
  | p :: r => by
    rw [List.any_cons]
    by_cases e : p.1 = k
    · simp only [valV_pos e, decide_eq_true e, Bool.true_or, Option.isSome_some]
    · rw [valV_neg e, decide_eq_false e, Bool.false_or]; exact valV_any k r
theorem length_putK (kvs : List (κ × V)) (k : κ) (v : V) : (putK kvs k v).length ≤ kvs.length + 1 := by
  unfold putK
  split
  · rw [List.length_map]; omega
  · rw [List.length_append, List.length_cons, List.length_nil]; omega
theorem RelO.isSome_eq {o : Option V} {u : Option Value} (r : RelO o u) : o.isSome = u.isSome := by
  cases o with
  | none => cases u with
    | none => rfl
    | some _ => exact (show False from r).elim
  | some _ => cases u with
    | none => exact (show False from r).elim
    | some _ => rfl
theorem RelO.getD {o : Option V} {u : Option Value} {d : V} {d' : Value} (r : RelO o u) (rd : RelV d d') : RelV (o.getD d) (u.getD d') := by
  cases o with
  | none => cases u with
    | none => exact rd
    | some _ => exact (show False from r).elim
  | some _ => cases u with
    | none => exact (show False from r).elim
    | some _ => exact r
theorem KV.val {kvs : List (κ × V)} {vs : List (κ × Value)} (r : KV kvs vs) (k : κ) : RelO (valV kvs k) (valueAt vs k) := by
  unfold KV at r
  induction r with
  | nil => exact True.intro
  | @cons p q ps qs h t ih =>
    obtain ⟨h1, h2⟩ := h
    by_cases e : p.1 = k
    · have e' : q.1 = k := h1.symm.trans e
      have b : valueAt (q :: qs) k = some q.2 := by simp [valueAt, List.find?_cons, e']
      rw [valV_pos e, b]; exact h2
    · have e' : ¬ q.1 = k := fun z => e (h1.trans z)
      have b : valueAt (q :: qs) k = valueAt qs k := by simp [valueAt, List.find?_cons, e']
      rw [valV_neg e, b]; exact ih
theorem KV.any {kvs : List (κ × V)} {vs : List (κ × Value)} (r : KV kvs vs) (k : κ) : (kvs.any fun kv => decide (kv.1 = k)) = vs.any fun kv => decide (kv.1 = k) := by
  unfold KV at r
  induction r with
  | nil => rfl
  | cons h t ih => rw [List.any_cons, List.any_cons, ih, h.1]
theorem KV.repl {kvs : List (κ × V)} {vs : List (κ × Value)} (r : KV kvs vs) (k : κ) {y : V} {u : Value} (ry : RelV y u) :
    KV (kvs.map fun kv => if kv.1 = k then (kv.1, y) else kv) (vs.map fun kv => if kv.1 = k then (kv.1, u) else kv) := by
  unfold KV at r ⊢
  induction r with
  | nil => exact .nil
  | @cons p q ps qs h t ih =>
    rw [List.map_cons, List.map_cons]
    refine .cons ?_ ih
    obtain ⟨h1, h2⟩ := h
    by_cases e : p.1 = k
    · rw [if_pos e, if_pos (h1.symm.trans e)]; exact ⟨h1, ry⟩
    · rw [if_neg e, if_neg (fun z => e (h1.trans z))]; exact ⟨h1, h2⟩
theorem KV.put {kvs : List (κ × V)} {vs : List (κ × Value)} (r : KV kvs vs) (k : κ) {y : V} {u : Value} (ry : RelV y u) : KV (putK kvs k y) (stored vs k u) := by
  unfold putK stored
  rw [r.any k]
  by_cases e : (vs.any fun kv => decide (kv.1 = k)) = true
  · rw [if_pos e, if_pos e]; exact r.repl k ry
  · rw [if_neg e, if_neg e]; exact Paired.snoc r ⟨rfl, ry⟩
theorem KV.keys {kvs : List (κ × V)} {vs : List (κ × Value)} (r : KV kvs vs) : kvs.map (·.1) = vs.map (·.1) := by
  unfold KV at r
  induction r with
  | nil => rfl
  | cons h t ih => rw [List.map_cons, List.map_cons, ih, h.1]
theorem KV.length {kvs : List (κ × V)} {vs : List (κ × Value)} (r : KV kvs vs) : kvs.length = vs.length := Paired.length r
end
theorem kV_is {P : Program} {w : World} {k : Key} {u : Value} (r : RelV (kV k) u) : (mixKind P w).is k u = true := by
  cases k with
  | inl i => obtain ⟨t, e⟩ := (show ∃ t, u = Value.int i t from r); subst e; exact mixKind_int P w i t
  | inr x => obtain ⟨t, e⟩ := (show ∃ t, u = Value.str x t from r); subst e; exact mixKind_str P w x t
theorem items_are {P : Program} {w : World} : ∀ {ks : List Key} {us : List Value}, Vals (ks.map kV) us → ItemsAre (mixKind P w) ks us
  | [], _, r => by rw [List.map_nil] at r; cases r; exact .nil
  | k :: ks, _, r => by
    rw [List.map_cons] at r
    cases r with
    | cons h t => exact .cons (kV_is h) (items_are t)
abbrev KT (H : Hp) : List (List Key × V) → List (List Key × Addr × Value) → Prop := Paired fun p q => p.1 = q.1 ∧ H q.2.1 = some (.tup (p.1.map kV)) ∧ RelV p.2 q.2.2
theorem KT.val {H : Hp} {kvs : List (List Key × V)} {xs : List (List Key × Addr × Value)} (r : KT H kvs xs) (k : List Key) : RelO (valV kvs k) ((atKey xs k).map (·.2)) := by
  induction r with
  | nil => exact True.intro
  | @cons p q ps qs h t ih =>
    obtain ⟨h1, _, h2⟩ := h
    by_cases e : p.1 = k
    · have e' : q.1 = k := h1.symm.trans e
      have b : atKey (q :: qs) k = some q.2 := by simp [atKey, List.find?_cons, e']
      rw [valV_pos e, b]; exact h2
    · have e' : ¬ q.1 = k := fun z => e (h1.trans z)
      have b : atKey (q :: qs) k = atKey qs k := by simp [atKey, List.find?_cons, e']
      rw [valV_neg e, b]; exact ih
theorem KT.repl {H : Hp} {kvs : List (List Key × V)} {xs : List (List Key × Addr × Value)} (r : KT H kvs xs) (k : List Key) {y : V} {u : Value} (ry : RelV y u) :
    KT H (kvs.map fun kv => if kv.1 = k then (kv.1, y) else kv) (xs.map (putAt k u)) := by
  induction r with
  | nil => exact .nil
  | @cons p q ps qs h t ih =>
    rw [List.map_cons, List.map_cons]
    refine .cons ?_ ih
    obtain ⟨h1, h2, h3⟩ := h
    unfold putAt
    by_cases e : p.1 = k
    · rw [if_pos e, if_pos (h1.symm.trans e)]; exact ⟨h1, h2, ry⟩
    · rw [if_neg e, if_neg (fun z => e (h1.trans z))]; exact ⟨h1, h2, h3⟩
theorem KT.put {H : Hp} {kvs : List (List Key × V)} {xs : List (List Key × Addr × Value)} (r : KT H kvs xs) (k : List Key) {b : Addr} {y : V} {u : Value} (hb : H b = some (.tup (k.map kV))) (ry : RelV y u) :
    KT H (putK kvs k y) (storedH xs k b u) := by
  have e : (kvs.any fun kv => decide (kv.1 = k)) = (atKey xs k).isSome := by
    rw [valV_any, (r.val k).isSome_eq, Option.isSome_map]
  unfold putK storedH
  rw [e]
  by_cases q : (atKey xs k).isSome = true
  · rw [if_pos q, if_pos q]; exact r.repl k ry
  · rw [if_neg q, if_neg q]; exact Paired.snoc r ⟨rfl, hb, ry⟩
theorem KT.keeps {H H' : Hp} {kvs : List (List Key × V)} {xs : List (List Key × Addr × Value)} (r : KT H kvs xs) (ht : ∀ b ys, H b = some (.tup ys) → H' b = some (.tup ys)) : KT H' kvs xs :=
  Paired.mapP r fun _ _ z => ⟨z.1, ht _ _ z.2.1, z.2.2⟩
section
variable {P : Program} {w : World} {H : Hp} {h : Heap} {a : Addr}
theorem rd_of {u : HO} (ok : HOk P w H h) (e : Rd H a u) : ObjOk P w H h a u := e.ok ok
theorem dk_rd {kvs : List (Key × V)} (ok : HOk P w H h) (e : Rd H a (.dK kvs)) : kvs.length ≤ sizeLine ∧ (a == sysModules) = false ∧ ∃ vs, KV kvs vs ∧ h.DictOf (mixKind P w) a vs :=
  show ObjOk P w H h a (.dK kvs) from rd_of ok e
theorem dk_of {kvs : List (Key × V)} (ok : HOk P w H h) (e : H a = some (.dK kvs)) : kvs.length ≤ sizeLine ∧ (a == sysModules) = false ∧ ∃ vs, KV kvs vs ∧ h.DictOf (mixKind P w) a vs := dk_rd ok (.inl e)
theorem key_of {ks : List Key} (ok : HOk P w H h) (e : H a = some (.tup (ks.map kV))) : (tupleKind (mixKind P w)).is h ks a := by
  obtain ⟨_, its, r, o, h1, h2, n, h3⟩ := (show ObjOk P w H h a (.tup (ks.map kV)) from ok a _ e)
  exact ⟨o, its.toArray, n, h1, h2, h3, by simpa using items_are r⟩
theorem dt_rd {kvs : List (List Key × V)} (ok : HOk P w H h) (e : Rd H a (.dT kvs)) : kvs.length ≤ sizeLine ∧ (a == sysModules) = false ∧
    ∃ xs, KT H kvs xs ∧ h.DictOfH (tupleKind (mixKind P w)) a xs := by
  obtain ⟨z, y, xs, r, o, es, ep, h1, h2, h3, h4, h5⟩ := (show ObjOk P w H h a (.dT kvs) from rd_of ok e)
  refine ⟨z, y, xs, r, o, es, ep, h1, h2, h3, h4, fun x hx => ?_, h5⟩
  have all : ∀ {l : List (List Key × V)} {m : List (List Key × Addr × Value)}, KT H l m → ∀ x ∈ m, (tupleKind (mixKind P w)).is h x.1 x.2.1 := by
    intro l m q
    induction q with
    | nil => intro x hx; exact nomatch hx
    | @cons p q ps qs hq t ih =>
      intro x hx
      rcases List.mem_cons.mp hx with e | hx
      · subst e
        exact key_of ok (by rw [← hq.1]; exact hq.2.1)
      · exact ih x hx
  exact all r x hx
theorem dt_of {kvs : List (List Key × V)} (ok : HOk P w H h) (e : H a = some (.dT kvs)) : kvs.length ≤ sizeLine ∧ (a == sysModules) = false ∧
    ∃ xs, KT H kvs xs ∧ h.DictOfH (tupleKind (mixKind P w)) a xs := dt_rd ok (.inl e)
end
def DGet (H : Hp) (a : Addr) (y : V) (r : Option V) : Prop :=
  (∃ kvs k, Rd H a (.dK kvs) ∧ y = kV k ∧ r = valV kvs k) ∨ ∃ kvs k b, Rd H a (.dT kvs) ∧ y = .ref b ∧ H b = some (.tup (k.map kV)) ∧ r = valV kvs k
def DPut (H : Hp) (a : Addr) (y v : V) (H' : Hp) : Prop :=
  (∃ kvs k, H a = some (.dK kvs) ∧ y = kV k ∧ kvs.length < sizeLine ∧ H' = upd H a (.dK (putK kvs k v))) ∨
  ∃ kvs k b, H a = some (.dT kvs) ∧ y = .ref b ∧ H b = some (.tup (k.map kV)) ∧ kvs.length < sizeLine ∧ H' = upd H a (.dT (putK kvs k v))
theorem DGet.k {H : Hp} {a : Addr} {kvs : List (Key × V)} {k : Key} (e : H a = some (.dK kvs)) : DGet H a (kV k) (valV kvs k) := .inl ⟨kvs, k, .inl e, rfl, rfl⟩
theorem DPut.k {H : Hp} {a : Addr} {kvs : List (Key × V)} {k : Key} {v : V} (e : H a = some (.dK kvs)) (hl : kvs.length < sizeLine) : DPut H a (kV k) v (upd H a (.dK (putK kvs k v))) := .inl ⟨kvs, k, e, rfl, hl, rfl⟩
section
variable {X : Cx} {pins : List (Addr × Obj)} {σ : St} {H : Hp} {s : Shared} {a : Addr} {y v : V} {u r : Value} {o : Option V} {A : Around} {E : Value → Shared → Prop}
theorem Inv.big (I : Inv X pins σ H s) : sysModules < s.heap.objs.size := by
  have h : mainGlobals < s.heap.objs.size := (I.mod.glob.keeps I.bk).lt
  exact Nat.lt_trans (by decide) h
theorem d_getItem {Q : Value → Shared → Prop} (hu : A.units + 1 < cLine) (I : Inv X pins σ H s) (g : DGet H a y (some v)) (ry : RelV y u) (h : ∀ w' s', Inv X pins σ H s' → RelV v w' → Q w' s') :
    wpAny (model X.prog X.w) A (getItem (.ref a) u) Q E s := by
  rcases g with ⟨kvs, k, e, ey, l⟩ | ⟨kvs, k, b, e, ey, eb, l⟩
  · subst ey
    obtain ⟨z, hd, vs, rel, dd⟩ := dk_rd I.hok e
    obtain ⟨w', hw, rw'⟩ := RelO.some_of (v := v) (o := valueAt vs k) (by rw [l]; exact rel.val k)
    exact wpAny_getItem_of (kV_is ry) dd.mapOf hw (h w' _ (I.tok _) rw')
  · subst ey
    cases (show u = Value.ref b from ry)
    obtain ⟨z, hd, xs, rel, dd⟩ := dt_rd I.hok e
    obtain ⟨w', hw, rw'⟩ := RelO.some_of (v := v) (o := (atKey xs k).map (·.2)) (by rw [l]; exact rel.val k)
    obtain ⟨p, hp, hp2⟩ := Option.map_eq_some_iff.mp hw
    refine wpAny_getItem_heap (tupleKind_room_in1 hu) (key_of I.hok eb) dd hp ?_
    rw [hp2]
    exact h w' _ (I.tok _) rw'
theorem d_in {Q : Value → Shared → Prop} (hu : A.units + 1 < cLine) (I : Inv X pins σ H s) (g : DGet H a y o) (ry : RelV y u) (h : ∀ s', Inv X pins σ H s' → Q (.bool o.isSome) s') :
    wpAny (model X.prog X.w) A (compareOp .In u (.ref a)) Q E s := by
  rcases g with ⟨kvs, k, e, ey, l⟩ | ⟨kvs, k, b, e, ey, eb, l⟩
  · subst ey
    obtain ⟨z, hd, vs, rel, dd⟩ := dk_rd I.hok e
    refine wpAny_in_of (kV_is ry) hd dd.mapOf ?_
    rw [← (rel.val k).isSome_eq, ← l]
    exact h _ (I.tok _)
  · subst ey
    cases (show u = Value.ref b from ry)
    obtain ⟨z, hd, xs, rel, dd⟩ := dt_rd I.hok e
    refine wpAny_in_heap (tupleKind_room_in1 hu) (key_of I.hok eb) hd dd ?_
    have q := (rel.val k).isSome_eq
    rw [Option.isSome_map] at q
    rw [← q, ← l]
    exact h _ (I.tok _)
theorem d_write {h' : Heap} {t' : Nat} {ob : HO} (I : Inv X pins σ H s) (mu : Mut (H a)) (hs : Heap.SameBut a s.heap h') (he : ∃ q, h'.get? a = some q) (new : ObjOk X.prog X.w (upd H a ob) h' a ob) :
    Inv X pins σ (upd H a ob) { s with heap := h', toks := t' } :=
  I.write (x := a) (e := a) mu (.inl rfl) (fun b q hb z => (hs.2 b hb).trans z) he new
theorem dk_new {P : Program} {w : World} {H' : Hp} {h' : Heap} {kvs : List (Key × V)} {vs : List (Key × Value)} (z : kvs.length ≤ sizeLine) (hd : (a == sysModules) = false) (rel : KV kvs vs) (dd : h'.DictOf (mixKind P w) a vs) :
    ObjOk P w H' h' a (.dK kvs) := ⟨z, hd, vs, rel, dd⟩
theorem d_setItem {H' : Hp} {Q : Unit → Shared → Prop} (hu : A.units + 1 < cLine) (I : Inv X pins σ H s) (g : DPut H a y v H') (ry : RelV y u) (rv : RelV v r) (h : ∀ s', Inv X pins σ H' s' → Q () s') :
    wpAny (model X.prog X.w) A (setItem (.ref a) u r) Q E s := by
  rcases g with ⟨kvs, k, e, ey, l, eH⟩ | ⟨kvs, k, b, e, ey, eb, l, eH⟩
  · subst ey eH
    obtain ⟨z, hd, vs, rel, dd⟩ := dk_of I.hok e
    have hz : vs.length ≤ sizeLine := by rw [← rel.length]; exact z
    have hl : (putK kvs k v).length ≤ sizeLine := by have := length_putK kvs k v; omega
    refine wpAny_setItem_pairs (hsz := hz) (kV_is ry) dd fun h' dd' hs => h _ ?_
    have he : ∃ q, h'.get? a = some q := let ⟨q, _, _, hq, _⟩ := dd'; ⟨q, hq⟩
    exact d_write I (by rw [e]; exact True.intro) hs he (dk_new hl hd (rel.put k rv) dd')
  · subst ey eH
    cases (show u = Value.ref b from ry)
    obtain ⟨z, hd, xs, rel, dd⟩ := dt_of I.hok e
    have hz : xs.length ≤ sizeLine := by rw [← Paired.length rel]; exact z
    have hl : (putK kvs k v).length ≤ sizeLine := by have := length_putK kvs k v; omega
    refine wpAny_setItem_heap (hsz := hz) (tupleKind_room_in1 hu) (key_of I.hok eb) dd fun h' dd' hs => h _ ?_
    obtain ⟨q, es, ep, hq, h2, h3, h4, _, h5⟩ := dd'
    refine d_write I (by rw [e]; exact True.intro) hs ⟨q, hq⟩ ⟨hl, hd, _, (rel.put k eb rv).keeps fun c ys ec => ?_, q, es, ep, hq, h2, h3, h4, h5⟩
    rw [upd_ne (ne_of ec e (fun z => nomatch z))]
    exact ec
end
section
variable {X : Cx} {pins : List (Addr × Obj)} {σ : St} {H : Hp} {s : Shared} {a : Addr} {kvs : List (Key × V)} {k : Key} {u : Value} {A : Around} {E : Value → Shared → Prop}
theorem d_len {Q : Value → Shared → Prop} (I : Inv X pins σ H s) (e : Rd H a (.dK kvs)) (h : ∀ t s', Inv X pins σ H s' → Q (.int kvs.length t) s') : wpAny (model X.prog X.w) A (call (.builtin "len") [.ref a]) Q E s := by
  obtain ⟨z, hd, vs, rel, dd⟩ := dk_rd I.hok e
  refine call_len_dict hd dd (by rw [← rel.length]; rw [sizeLine_eq] at z; omega) ?_
  rw [← rel.length]
  exact h _ _ (I.tok _)
end
def NoSl (i : Expr) : Prop := ∀ ov iv, subscripted i false ov iv = operate [ov, iv] (getItem ov iv)
theorem subD_of {prog : Program} {w : World} {A : Around} {E : Value → Shared → Prop} {s : Shared} {env : Env} {value slice : Expr} {pos : Pos} {T id : String} {Q : Value → Shared → Prop}
    (hl : typeLookup (.type T) "__getitem__" = pure (some (.builtin id))) (hs : NoSl slice)
    (h : wpAny (model prog w) A (eval value env) (fun o s₁ => wpAny (model prog w) A (eval slice env) (fun i s₂ => s₂.TypeIs o T ∧ wpAny (model prog w) A (getItem o i) Q E s₂) E s₁) E s) :
    wpAny (model prog w) A (eval (.Subscript value slice pos) env) Q E s := by
  refine Subscript_ (wpAny_mono h (fun o s₁ h₁ => wpAny_mono h₁ (fun i s₂ h₂ => ?_) fun _ _ x => x) fun _ _ x => x)
  obtain ⟨hT, h₂⟩ := h₂
  unfold subscriptTail
  refine wpAny_bind ?_
  rw [getitemInPython_of_ne hT.not_modules]
  refine wpAny_bind (wpAny_specialOf hT hl ?_)
  have fin : wpAny (model prog w) A (subscripted slice false o i) (fun r s₃ => wpAny (model prog w) A (letTemporaryGo value o r >>= fun _ => pure r) Q E s₃) E s₂ := by
    rw [hs o i]
    exact wpAny_operating (wpAny_mono h₂ (fun r s₃ h₃ => wpAny_bind (wpAny_letTemporaryGo (wpAny_pure h₃))) fun _ _ x => x)
  first
    | exact wpAny_pure (wpAny_bind fin)
    | exact wpAny_bind (wpAny_pure (wpAny_bind fin))
    | exact wpAny_bind fin
theorem dict_typeIs {X : Cx} {pins : List (Addr × Obj)} {σ : St} {H : Hp} {s : Shared} {a : Addr} {y : V} {o : Option V} (I : Inv X pins σ H s) (g : DGet H a y o) : s.TypeIs (.ref a) "dict" := by
  rcases g with ⟨kvs, k, e, _, _⟩ | ⟨kvs, k, b, e, _, _, _⟩
  · obtain ⟨_, _, vs, _, dd⟩ := dk_rd I.hok e
    exact dd.typeIs
  · obtain ⟨_, _, xs, _, dd⟩ := dt_rd I.hok e
    exact dd.typeIs
def tDGet (td ty : TE) : TE := fun σ H Q => td σ H fun x H1 => ty σ H1 fun y H2 => ∃ a v, x = .ref a ∧ DGet H2 a y (some v) ∧ Q v H2
def tDIn (ty td : TE) : TE := fun σ H Q => ty σ H fun y H1 => td σ H1 fun x H2 => ∃ a o, x = .ref a ∧ DGet H2 a y o ∧ Q (.bl o.isSome) H2
def sDPut (td ty tv : TE) : TS := fun D σ H => tv σ H fun v H1 => td σ H1 fun x H2 => ty σ H2 fun y H3 => ∃ a H4, x = .ref a ∧ DPut H3 a y v H4 ∧ D.nx σ H4
section
variable {X : Cx} {o i e value : Expr} {pos pos' tpos : Pos} {td ty tv : TE}
theorem pe_dget (hu : X.A.units + 1 < cLine) (ho : PE X o td) (hi : PE X i ty) (hs : NoSl i) : PE X (.Subscript o i pos) (tDGet td ty) := by
  intro pins s σ H Q I h
  refine subD_of PySem.F.slot_dict_getitem.lookup hs (thn (ho pins s σ H _ I h) fun u s1 ⟨x, H1, I1, rx, q1⟩ => thn (hi pins s1 σ H1 _ I1 q1) fun iv s2 ⟨y, H2, I2, ry, a, v, ex, g, q2⟩ => ?_)
  subst ex
  obtain rfl : u = Value.ref a := rx
  exact ⟨dict_typeIs I2 g, d_getItem hu I2 g ry fun w' s3 I3 rw' => ⟨v, H2, I3, rw', q2⟩⟩
theorem pc_din (hu : X.A.units + 1 < cLine) (hi : PE X i ty) (ho : PE X o td) : PC X .In i o (tDIn ty td) := by
  intro pins s σ H Q I h
  refine thn (hi pins s σ H _ I h) fun iv s1 ⟨y, H1, I1, ry, q1⟩ => thn (ho pins s1 σ H1 _ I1 q1) fun u s2 ⟨x, H2, I2, rx, a, ov, ex, g, q2⟩ => ?_
  subst ex
  obtain rfl : u = Value.ref a := rx
  exact d_in hu I2 g ry fun s3 I3 => ⟨.bl ov.isSome, H2, I3, rfl, q2⟩
theorem ps_dput (hu : X.A.units + 1 < cLine) (ho : PE X o td) (hi : PE X i ty) (hv : PE X value tv) (hs : swapsWith value (some (.Subscript o i pos')) pos.line X.env = pure false) :
    PS X (.Assign [.Subscript o i pos'] value pos) (sDPut td ty tv) := by
  intro pins s σ H D I h
  refine wpAny_Assign_Subscript (thn (hv pins s σ H _ I h) fun r s1 ⟨v, H1, I1, rv, q1⟩ => thn (ho pins s1 σ H1 _ I1 q1) fun u s2 ⟨x, H2, I2, rx, q2⟩ => thn (hi pins s2 σ H2 _ I2 q2) fun iv s3 ⟨y, H3, I3, ry, a, H4, ex, g, q3⟩ => ?_) hs
  subst ex
  obtain rfl : u = Value.ref a := rx
  exact d_setItem hu I3 g ry rv fun s4 I4 => ⟨σ, H4, I4, q3⟩
end
theorem dk_empty {P : Program} {w : World} {H : Hp} (h : Heap) (hb : sysModules < h.objs.size) : ObjOk P w H (h.push { cls := .type "dict", data := .dict #[] }) h.objs.size (.dK []) :=
  ⟨Nat.zero_le _, beq_eq_false_iff_ne.mpr (Ne.symm (Nat.ne_of_lt hb)), [], .nil, Heap.DictOf.new h⟩
def tDNewK : TE := fun _ H Q => ∀ p, H p = none → Q (.ref p) (upd H p (.dK []))
section
variable {X : Cx} {pos : Pos}
theorem pe_dnewK : PE X (.Dict [] [] pos) tDNewK := fun pins s σ H Q I h =>
  wpAny_Dict_empty ⟨.ref s.heap.objs.size, _, I.laid (a := s.heap.objs.size) (o := .dK []) (t' := s.toks) (fun _ _ q => Heap.get?_push_of_some _ q) (Nat.le_refl _) (dk_empty s.heap I.big), rfl, h _ (I.hok.fresh (Nat.le_refl _))⟩
end
end L2
namespace L2
open PySem PySem.Spec PyProof.Rows
def mergeK (kvs more : List (Key × V)) : List (Key × V) := more.foldl (fun acc kv => putK acc kv.1 kv.2) kvs
theorem KV.merge : ∀ {more : List (Key × V)} {rs : List (Key × Value)} {kvs : List (Key × V)} {vs : List (Key × Value)}, KV more rs → KV kvs vs → KV (mergeK kvs more) (merged vs rs) := by
  intro more rs kvs vs r
  unfold KV at r
  induction r generalizing kvs vs with
  | nil => intro q; exact q
  | @cons p q ps qs h t ih =>
    intro r0
    have e : KV (putK kvs p.1 p.2) (stored vs q.1 q.2) := by
      have := r0.put p.1 h.2
      rw [← h.1]; exact this
    exact ih e
theorem length_mergeK : ∀ (more kvs : List (Key × V)), (mergeK kvs more).length ≤ kvs.length + more.length
  | [], kvs => by show kvs.length ≤ kvs.length + 0; omega
  | p :: r, kvs => by
    have h1 := length_mergeK r (putK kvs p.1 p.2)
    have h2 := length_putK kvs p.1 p.2
    show (mergeK (putK kvs p.1 p.2) r).length ≤ _
    rw [List.length_cons]; omega
end L2
namespace L2
open PySem PySem.Spec PyProof.Rows
structure M1 (X : Cx) (o : Expr) (m : Str) (apos : Pos) (e : Expr) (cpos : Pos) : Prop where
  base : attributeBase o m X.env (eval o X.env) = eval o X.env
  few : ((backTo cpos (starEach [e] X.env)).all (fun x => !x.1) && (backToKw cpos (keywordEach [] X.env)).all (fun x => x.1.isSome)
    && decide (([e] : List Expr).length + ([] : List Keyword).length + (if ([] : List Keyword).isEmpty then 0 else 1) < 30)) = true
  line : (apos.endLine == cpos.line) = true
  trees : backTo cpos (starEach [e] X.env) = [(false, eval e X.env)]
def IsD (H : Hp) (a : Addr) : Prop := (∃ kvs, Rd H a (.dK kvs)) ∨ ∃ kvs, Rd H a (.dT kvs)
theorem isD_at {X : Cx} {pins : List (Addr × Obj)} {σ : St} {H : Hp} {s : Shared} {a : Addr} (I : Inv X pins σ H s) (d : IsD H a) :
    s.TypeIs (.ref a) "dict" ∧ (∀ b, Value.ref a = .ref b → ∃ ob, s.heap.get? b = some ob ∧ ob.dict = none) ∧ (a == sysModules) = false := by
  rcases d with ⟨kvs, e⟩ | ⟨kvs, e⟩
  · obtain ⟨_, hd, vs, _, dd⟩ := dk_rd I.hok e
    refine ⟨dd.typeIs, fun b q => ?_, hd⟩
    cases q
    obtain ⟨ob, _, _, h1, h2, _⟩ := dd
    exact ⟨ob, h1, h2.2.1⟩
  · obtain ⟨_, hd, xs, _, dd⟩ := dt_rd I.hok e
    refine ⟨dd.typeIs, fun b q => ?_, hd⟩
    cases q
    obtain ⟨ob, _, _, h1, h2, _⟩ := dd
    exact ⟨ob, h1, h2.2.1⟩
section
variable {X : Cx} {pins : List (Addr × Obj)} {σ : St} {H : Hp} {s : Shared} {a : Addr} {y d : V} {u r : Value} {o : Option V} {A : Around} {E : Value → Shared → Prop}
theorem d_get1 {Q : Value → Shared → Prop} (hu : A.units + 1 < cLine) (I : Inv X pins σ H s) (g : DGet H a y o) (ry : RelV y u) (h : ∀ w' s', Inv X pins σ H s' → RelV (o.getD .non) w' → Q w' s') :
    wpAny (model X.prog X.w) A (call (.builtin "dict.get") [.ref a, u]) Q E s := by
  rcases g with ⟨kvs, k, e, ey, l⟩ | ⟨kvs, k, b, e, ey, eb, l⟩
  · subst ey
    obtain ⟨z, hd, vs, rel, dd⟩ := dk_rd I.hok e
    refine call_meetsIn PySem.F.slot_dict_get dd.typeIs PySem.F.entry_dict_get (PySem.F.args_dict_get_2 _ _) (meets_dict_get (mixKind X.prog X.w) a (kV_is ry) hd) ⟨_, dd.mapOf, h _ _ (I.tok _) ?_⟩
    rw [l]
    exact (rel.val k).getD rfl
  · subst ey
    cases (show u = Value.ref b from ry)
    obtain ⟨z, hd, xs, rel, dd⟩ := dt_rd I.hok e
    refine call_meetsIn PySem.F.slot_dict_get dd.typeIs PySem.F.entry_dict_get (PySem.F.args_dict_get_2 _ _) (meetsH_dict_get (tupleKind (mixKind X.prog X.w)) a b hd) ⟨tupleKind_room_in1 hu, k, xs, key_of I.hok eb, dd, h _ _ (I.tok _) ?_⟩
    rw [l]
    exact (rel.val k).getD rfl
end
def tDGet1 (td ty : TE) : TE := fun σ H Q => td σ H fun x H1 => ∃ a, x = .ref a ∧ IsD H1 a ∧ ty σ H1 fun y H2 => ∃ o, DGet H2 a y o ∧ Q (o.getD .non) H2
section
variable {X : Cx} {o e f : Expr} {apos cpos : Pos} {td ty tx : TE}
theorem pe_dget1 (hu : X.A.units + 1 < cLine) (ho : PE X o td) (he : PE X e ty) (m : M1 X o "get" apos e cpos) : PE X (.Call (.Attribute o "get" apos) [e] [] cpos) (tDGet1 td ty) := by
  intro pins s σ H Q I h
  refine wpAny_Call_method m.base m.few m.line PySem.F.plainAttrs_dict PySem.F.slot_dict_get PySem.F.type_dict_get (thn (ho pins s σ H _ I h) fun u s1 ⟨x, H1, I1, rx, a, ex, d, q1⟩ => ?_)
  subst ex
  obtain rfl : u = Value.ref a := rx
  obtain ⟨t1, t2, _⟩ := isD_at I1 d
  refine ⟨t1, t2, ?_⟩
  rw [m.trees]
  refine Calls.callWith_builtin rfl (Calls.evalArgs_plain (Calls.spliced_cons (thn (he pins s1 σ H1 _ I1 q1) fun iv s2 ⟨y, H2, I2, ry, ov, g, q2⟩ => Calls.spliced_nil ?_)))
  exact d_get1 hu I2 g ry fun w' s3 I3 rw' => ⟨_, H2, I3, rw', q2⟩
end
section
variable {X : Cx}
theorem call_lenD : CallR X (.builtin "len") (fun xs H Q => ∃ a kvs, xs = [V.ref a] ∧ H a = some (.dK kvs) ∧ Q (.int kvs.length) H) := by
  intro pins s σ H xs us Q I r h
  obtain ⟨a, kvs, rfl, ha, q⟩ := h
  obtain ⟨u, rfl, ru⟩ := vals1 r
  cases ru
  exact d_len I (.inl ha) fun t s' I' => ⟨.int kvs.length, H, I', ⟨t, rfl⟩, q⟩
end
end L2
namespace L2
open PySem PySem.Spec PyProof.Rows
section
variable {X : Cx} {pins : List (Addr × Obj)} {σ : St} {H : Hp} {s : Shared} {a : Addr} {kvs : List (Key × V)} {A : Around} {E : Value → Shared → Prop}
theorem d_copyOf {Q : Value → Shared → Prop} (I : Inv X pins σ H s) (e : Rd H a (.dK kvs)) (h : ∀ p s', H p = none → Inv X pins σ (upd H p (.dK kvs)) s' → Q (.ref p) s') : wpAny (model X.prog X.w) A (call (.type "dict") [.ref a]) Q E s := by
  obtain ⟨z, hd, vs, rel, dd⟩ := dk_rd I.hok e
  refine kt_call_dict hd dd (by rw [← rel.length]; exact z) fun h' dd' hs => ?_
  refine h _ _ (I.hok.fresh (Nat.le_refl _)) (I.laid (a := s.heap.objs.size) (o := .dK kvs) (t' := s.toks) (fun b q hq => ?_) (Nat.le_refl _) (dk_new z (beq_eq_false_iff_ne.mpr (Ne.symm (Nat.ne_of_lt I.big))) rel dd'))
  exact (hs.2 b (Nat.ne_of_lt (Heap.lt_size hq))).trans (Heap.get?_push_of_some _ hq)
end
end L2
namespace L2
open PySem PySem.Spec PyProof.Rows
section
variable {X : Cx} {o e f : Expr} {apos cpos : Pos} {td ty tx : TE}
end
end L2
namespace L3
open PySem PySem.Spec PyProof.Rows L2
def HasF (K : PySem.W.Frag) (H : Hp) (a : Addr) (f : Str) (v : V) : Prop := ∃ C dx fs, H a = some (.ins C dx fs) ∧ Cls K C ∧ NoAttr K C f ∧ fs.lookup f = some v
def PutF (K : PySem.W.Frag) (H : Hp) (a : Addr) (f : Str) (v : V) (H' : Hp) : Prop := ∃ C dx fs, H a = some (.ins C dx fs) ∧ Cls K C ∧ NoAttr K C f ∧ fs.length < 1000 ∧ H' = upd H a (.ins C dx (putF f v fs))
def NoF (C : Addr) (H : Hp) (a : Addr) (m : Str) : Prop := ∃ dx fs, H a = some (.ins C dx fs) ∧ fs.lookup m = none
def tFldA (K : PySem.W.Frag) (ta : TE) (f : Str) : TE := fun σ H Q => ta σ H fun x H1 => ∃ a v, x = .ref a ∧ HasF K H1 a f v ∧ Q v H1
def sFldA (K : PySem.W.Frag) (ta tv : TE) (f : Str) : TS := fun D σ H => tv σ H fun y H1 => ta σ H1 fun x H2 => ∃ a H3, x = .ref a ∧ PutF K H2 a f y H3 ∧ D.nx σ H3
def sFldAugA (K : PySem.W.Frag) (ta tv : TE) (rd : V → V → Hp → VK → Prop) (f : Str) : TS := fun D σ H => ta σ H fun x H1 => ∃ a v, x = .ref a ∧ HasF K H1 a f v ∧
  tv σ H1 fun y H2 => rd v y H2 fun z H3 => (∀ o, H1 a = some o → H3 a = some o) ∧ ∃ H4, PutF K H3 a f z H4 ∧ D.nx σ H4
def tMethA (C : Addr) (m : Str) (sp : Sp) (ta : TE) (t : TA) : TE := fun σ H Q => ta σ H fun x H1 => ∃ a, x = .ref a ∧ NoF C H1 a m ∧ t σ H1 fun vs H2 => sp (x :: (vs ++ [])) H2 Q E0
section
variable {X : Cx} {o e value : Expr} {f : Str} {pos pos' tpos : Pos} {ta tv : TE}
theorem qe_fld (he : QE X e ta) (hb : attributeBase e f X.env (eval e X.env) = eval e X.env := by rfl) : QE X (.Attribute e f pos) (tFldA X.K ta f) := ⟨by
  intro pins s σ H Q I h
  refine attr_of hb (thn (he.h pins s σ H _ I h) fun u s1 ⟨x, H1, I1, rx, a, v, ex, ⟨C, dx, fs, ea, c, n, l⟩, q⟩ => ?_)
  subst ex
  obtain rfl : u = Value.ref a := rx
  exact getattr_ok I1 ea c n l fun u' s2 I2 ru => ⟨v, H1, I2, ru, q⟩⟩
theorem qs_fld (ha : QE X o ta) (hv : QE X value tv) (hs : swapsWith value (some (.Attribute o f pos')) pos.line X.env = pure false := by rfl) : QS X (.Assign [.Attribute o f pos'] value pos) (sFldA X.K ta tv f) := ⟨by
  intro pins s σ H D I h
  refine plainObj_wpAny_Assign_Attribute (thn (hv.h pins s σ H _ I h) fun u s1 ⟨y, H1, I1, ry, q⟩ => thn (ha.h pins s1 σ H1 _ I1 q) fun ov s2 ⟨x, H2, I2, rx, a, H3, ex, ⟨C, dx, fs, ea, c, n, l, e3⟩, q2⟩ => ?_) hs
  subst ex e3
  obtain rfl : ov = Value.ref a := rx
  exact setattr_ok I2 ea c n l ry fun s3 I3 => ⟨σ, _, I3, q2⟩⟩
theorem qs_fldaug {op : Operator} {rd : V → V → Hp → VK → Prop} (hop : InOp X op rd) (ha : QE X o ta) (hv : QE X value tv) : QS X (.AugAssign (.Attribute o f tpos) op value pos) (sFldAugA X.K ta tv rd f) := ⟨by
  intro pins s σ H D I h
  refine wpAny_AugAssign_AttributeAny (thn (ha.h pins s σ H _ I h) fun ov s1 ⟨x, H1, I1, rx, a, v, ex, ⟨C, dx, fs, ea, c, n, l⟩, q⟩ => ?_)
  subst ex
  obtain rfl : ov = Value.ref a := rx
  refine getattr_ok I1 ea c n l fun u s2 I2 ru => thn (hv.h pins s2 σ H1 _ I2 q) fun w3 s3 ⟨y, H2, I3, ry, q3⟩ => thn (hop pins s3 σ H2 v y u w3 _ I3 ru ry q3) fun w4 s4 ⟨z, H3, I4, rz, _, H4, ⟨C', dx', fs', ea', c', n', l', e4⟩, q4⟩ => ?_
  subst e4
  exact setattr_ok I4 ea' c' n' l' rz fun s5 I5 => ⟨σ, _, I5, q4⟩⟩
end
structure Mf (P : Program) (w : World) (K : PySem.W.Frag) (mg : Str → Option Value) (base : Heap) (C : Addr) (m : Str) (ps : List Str) (k : Nat) (sp : Sp) : Prop where
  ex : ∃ (f : Addr) (fd : FuncData), FnOk P w K mg base CX0 k f fd ps sp ∧ Meth K C m f ∧ Binds K fd ps []
structure AtM (K : PySem.W.Frag) (C : Addr) (m qual : Str) (st : Stmt) (ps : List Str) : Prop where
  ex : ∃ (f : Addr) (fd : FuncData), Fun K m qual st f fd ∧ Meth K C m f ∧ Binds K fd ps []
structure Mi (P : Program) (w : World) (K : PySem.W.Frag) (mg : Str → Option Value) (base : Heap) (C : Addr) (x : Str) (ps : List Str) (k : Nat) (sp : Sp) : Prop where
  ex : ∃ (f : Addr) (fd : FuncData), FnOk P w K mg base CX0 k f fd ps sp ∧ Mk K C f ∧ mg x = some (.ref C) ∧ Binds K fd ps []
section
variable {P : Program} {w : World} {K : PySem.W.Frag} {mg : Str → Option Value} {base : Heap} {C : Addr}
theorem AtM.mq {m qual : Str} {st : Stmt} {ps N : List Str} {k : Nat} {sp : Sp} (a : AtM K C m qual st ps) (S : FnScope N ps (defScope st)) (len : ∀ vs H Q E, sp vs H Q E → vs.length = ps.length)
    (hbody : ∀ (f : Addr) (cdv : Value) (A : Around) (outer : List Env) (s : Shared) (H : Hp) (vs : List V) (Q : VK) (E : XK), Room k (A.deeper (envOfC qual (defScope st) s.heap.objs.size f cdv)) → sp vs H Q E →
      ∃ t, QSs (cxOf CX0 P w K mg base N qual (defScope st) f cdv A outer s H E).nox (defBody st) t ∧ t { nx := fun _ H' => Q .non H', rt := Q } (start N vs) H) : Mf P w K mg base C m ps (k + 1) sp := by
  obtain ⟨f, fd, F, m, bd⟩ := a.ex
  exact ⟨f, fd, F.ok S len (fun cdv A outer s H vs Q E hr h => let ⟨t, q1, q2⟩ := hbody f cdv A outer s H vs Q E hr h; ⟨t, q1.h, q2⟩), m, bd⟩
theorem Mf.mi {x : Str} {ps : List Str} {k : Nat} {sp : Sp} (a : Mf P w K mg base C "__init__" ps k sp) (mk : PySem.W.makesIn K C = true) (kc : PySem.W.keepIn K (.ref C) = true) (hx : mg x = some (.ref C)) : Mi P w K mg base C x ps k sp :=
  let ⟨f, fd, F, m, bd⟩ := a.ex; ⟨f, fd, F, ⟨mk, m.at_, m.fn, kc⟩, hx, bd⟩
end
section
variable {X : Cx} {C : Addr} {x m : Str} {ps : List Str} {k : Nat} {sp : Sp} {o e : Expr} {es : List Expr} {p pos apos : Pos} {ta : TE} {t : TA}
theorem qe_meth {pl : Sem Bool} (M : Mf X.prog X.w X.K X.mg X.base C m ps k sp) (c : Cls X.K C) (hr : Room k X.A) (he : QE X o ta) (ha : QA X (e :: es) t)
    (hst : starEach (e :: es) X.env = (false, eval e X.env) :: starEach es X.env := by rfl) (hpl : (backTo pos (starEach es X.env)).any (·.1) = false := by rfl)
    (ht : eval (.Call (.Attribute o m apos) (e :: es) [] pos) X.env = (do
      let ov ← eval o X.env
      standAt apos.atName
      let (f, first) ← holding [ov] (getMethod ov m pl)
      callWith pos f first (backTo pos (starEach (e :: es) X.env)) (backToKw pos (keywordEach [] X.env))) := by rfl) :
    QE X (.Call (.Attribute o m apos) (e :: es) [] pos) (tMethA C m sp ta t) := ⟨by
  obtain ⟨f, fd, F, hm, hb⟩ := M.ex
  intro pins s σ H Q I h
  refine PySem.W.methodCall_KW (pl := pl) (thn (he.h pins s σ H _ I h) fun u s1 ⟨x, H1, I1, rx, a, ex, ⟨dx, fs, ea, l⟩, q⟩ => ?_) ht
  subst ex
  obtain rfl : u = Value.ref a := rx
  refine getmeth_ok I1 ea c hm l ?_
  refine PySem.W.callWith_K (first := [.ref a]) (h₀ := X.base) I.ok.mod.kin hm.kp (thn (ha.h pos pins s1 σ H1 _ I1 q) fun us s2 ⟨vs, H2, I2, r, q2⟩ => ⟨I2.kIn, ?_⟩) hst hpl
  exact run_fn (us := .ref a :: us) (vs := .ref a :: vs) F hr hb .nil pass0 I2 (.cons rfl r) q2⟩
theorem qe_meth0 {pl : Sem Bool} (M : Mf X.prog X.w X.K X.mg X.base C m ps k sp) (c : Cls X.K C) (hr : Room k X.A) (he : QE X o ta)
    (ht : eval (.Call (.Attribute o m apos) [] [] pos) X.env = (do
      let ov ← eval o X.env
      standAt apos.atName
      let (f, first) ← holding [ov] (getMethod ov m pl)
      callWith pos f first (backTo pos (starEach [] X.env)) (backToKw pos (keywordEach [] X.env))) := by rfl) :
    QE X (.Call (.Attribute o m apos) [] [] pos) (tMethA C m sp ta tNil) := ⟨by
  obtain ⟨f, fd, F, hm, hb⟩ := M.ex
  intro pins s σ H Q I h
  refine PySem.W.methodCall_KW (pl := pl) (thn (he.h pins s σ H _ I h) fun u s1 ⟨x, H1, I1, rx, a, ex, ⟨dx, fs, ea, l⟩, q⟩ => ?_) ht
  subst ex
  obtain rfl : u = Value.ref a := rx
  refine getmeth_ok I1 ea c hm l ?_
  exact PySem.W.callWith_K0 (first := [.ref a]) I1.kIn hm.kp (run_fn (us := [.ref a]) (vs := [.ref a]) F hr hb .nil pass0 I1 (.cons rfl .nil) q)⟩
theorem qe_make (M : Mi X.prog X.w X.K X.mg X.base C x ps k sp) (hr : Room (k + 1) X.A) (ha : QA X (e :: es) t) (hg : Gl X x := by rfl) (hdb : (x == ("__debug__" : Str)) = false := by decide)
    (he : starEach (e :: es) X.env = (false, eval e X.env) :: starEach es X.env := by rfl) (hpl : (backTo pos (starEach es X.env)).any (·.1) = false := by rfl) :
    QE X (.Call (.Name x p) (e :: es) [] pos) (tMake C sp [] E0 t) := ⟨by
  obtain ⟨f, fd, F, mk, hx, hb⟩ := M.ex
  exact pe_make mk F hr hg hx hb .nil pass0 ha.h hdb he hpl⟩
end
section
variable {X : Cx} {o e : Expr} {es : List Expr} {to : TE} {t : TA} {name : Str} {apos cpos : Pos} {T id : String} {r : V → List V → Hp → VK → Prop} {K : PySem.W.Frag}
theorem qe_bmK (hK : X.K = K) (pa : PlainAttrs T) (slot : Slot T name id) (hty : typeOf (.builtin id) = pure (.type "method_descriptor")) (hm : MtR X id r) (ho : QE X o to) (ha : QA X (e :: es) t)
    (hbase : attributeBase o name X.env (eval o X.env) = eval o X.env := by rfl)
    (hfew : ((backTo cpos (starEach (e :: es) X.env)).all (fun x => !x.1) && (backToKw cpos (keywordEach [] X.env)).all (fun x => x.1.isSome)
      && decide ((e :: es).length + ([] : List Keyword).length + (if ([] : List Keyword).isEmpty then 0 else 1) < 30)) = true := by rfl)
    (hline : (apos.endLine == cpos.line) = true := by rfl) (hs : starEach (e :: es) X.env = (false, eval e X.env) :: starEach es X.env := by rfl) (hplain : (backTo cpos (starEach es X.env)).any (·.1) = false := by rfl) :
    QE X (.Call (.Attribute o name apos) (e :: es) [] cpos) (tBM K T r to t) := by
  subst hK
  exact qe_bm pa slot hty hm ho ha hbase hfew hline hs hplain
theorem mr_popAt : MtR X "list.pop" rPopAt := mt_popAt
end
theorem lookup_at {f : Str} {v : V} : ∀ {fs : List (Str × V)} (i : Nat), fs[i]? = some (f, v) → (fs.map (·.1)).Nodup → fs.lookup f = some v
  | [], i, h, _ => by cases h
  | (g, x) :: r, 0, h, _ => by
    cases Option.some.inj h
    exact List.lookup_cons_self
  | (g, x) :: r, i + 1, h, nd => by
    have h' : r[i]? = some (f, v) := h
    have nd' : g ∉ r.map (·.1) ∧ (r.map (·.1)).Nodup := List.nodup_cons.mp nd
    have hm : f ∈ r.map (·.1) := List.mem_map.mpr ⟨(f, v), List.mem_of_getElem? h', rfl⟩
    have ne : f ≠ g := fun z => nd'.1 (z ▸ hm)
    rw [List.lookup_cons, beq_false_of_ne ne]
    exact lookup_at i h' nd'.2
theorem lookup_no {f : Str} : ∀ {fs : List (Str × V)}, f ∉ fs.map (·.1) → fs.lookup f = none
  | [], _ => rfl
  | (g, x) :: r, h => by
    have ne : f ≠ g := fun z => h (z ▸ List.mem_cons_self ..)
    rw [List.lookup_cons, beq_false_of_ne ne]
    exact lookup_no fun z => h (List.mem_cons_of_mem _ z)
theorem putF_at {f : Str} {v u : V} : ∀ {fs : List (Str × V)} (i : Nat), fs[i]? = some (f, u) → (fs.map (·.1)).Nodup → putF f v fs = fs.set i (f, v)
  | [], i, h, _ => by cases h
  | (g, x) :: r, 0, h, _ => by
    cases Option.some.inj h
    show (if f = f then _ else _) = _
    rw [if_pos rfl]; rfl
  | (g, x) :: r, i + 1, h, nd => by
    have h' : r[i]? = some (f, u) := h
    have nd' : g ∉ r.map (·.1) ∧ (r.map (·.1)).Nodup := List.nodup_cons.mp nd
    have hm : f ∈ r.map (·.1) := List.mem_map.mpr ⟨(f, u), List.mem_of_getElem? h', rfl⟩
    have ne : ¬ g = f := fun z => nd'.1 (z ▸ hm)
    show (if g = f then _ else (g, x) :: putF f v r) = _
    rw [if_neg ne, putF_at i h' nd'.2]; rfl
theorem putF_new {f : Str} {v : V} : ∀ {fs : List (Str × V)}, f ∉ fs.map (·.1) → putF f v fs = fs ++ [(f, v)]
  | [], _ => rfl
  | (g, x) :: r, h => by
    have ne : ¬ g = f := fun z => h (z ▸ List.mem_cons_self ..)
    show (if g = f then _ else (g, x) :: putF f v r) = _
    rw [if_neg ne, putF_new fun z => h (List.mem_cons_of_mem _ z)]; rfl
def Mv (S : List Addr) (H H' : Hp) : Prop := ∀ c o, c ∉ S → H c = some o → H' c = some o
theorem Mv.refl {S : List Addr} {H : Hp} : Mv S H H := fun _ _ _ e => e
theorem Mv.trans {S : List Addr} {H H1 H2 : Hp} (a : Mv S H H1) (b : Mv S H1 H2) : Mv S H H2 := fun c o n e => b c o n (a c o n e)
theorem Mv.mono {S S' : List Addr} {H H' : Hp} (a : Mv S H H') (h : ∀ c, c ∉ S' → c ∉ S) : Mv S' H H' := fun c o n e => a c o (h c n) e
theorem _root_.L2.Same.mv {S : List Addr} {H H' : Hp} (a : Same H H') : Mv S H H' := fun c o _ e => a c o e
theorem Mv.upd1 {a : Addr} {H : Hp} {o : HO} : Mv [a] H (upd H a o) := fun c u n e => by
  rw [upd_ne (fun z => n (List.mem_singleton.mpr z))]; exact e
theorem GrC.mv {b : Addr} {n : Nat} {H H' : Hp} (g : GrC b n H H') : Mv [b] H H' := fun c o h e => g.kp c o (fun z => h (List.mem_singleton.mpr z)) e
def noTup : HO → Prop
  | .tup _ => False
  | .frz _ _ => False
  | _ => True
def NT (S : List Addr) (H : Hp) : Prop := ∀ c, c ∈ S → ∃ o, H c = some o ∧ noTup o
theorem Mv.rd {S : List Addr} {H H' : Hp} {a : Addr} {xs : List V} (m : Mv S H H') (n : NT S H) (h : Rd H a (.tup xs)) : Rd H' a (.tup xs) := by
  have hn : a ∉ S := fun z => by
    obtain ⟨o, e, no⟩ := n a z
    rcases h with h | ⟨o', h⟩
    · rw [e] at h; cases h; exact no
    · rw [e] at h; cases h; exact no
  rcases h with h | ⟨o', h⟩
  · exact .inl (m _ _ hn h)
  · exact .inr ⟨o', m _ _ hn h⟩
theorem Mv.sqt {K : PySem.W.Frag} {S : List Addr} {H H' : Hp} {a : Addr} {xs : List V} (m : Mv S H H') (n : NT S H) (h : SqT K H a xs) : SqT K H' a xs := by
  rcases h with h | h
  · exact .inl (m.rd n h)
  · exact .inr h
end L3
namespace L3
open PySem PySem.Spec PyProof.Rows L2
structure Ac (K : PySem.W.Frag) (mg : Str → Option Value) (x : Str) (st : Stmt) : Prop where
  ex : ∃ (f : Addr) (fd : FuncData), Fun K x x st f fd ∧ mg x = some (.ref f)
structure Acm (K : PySem.W.Frag) (C : Addr) (m qual : Str) (st : Stmt) : Prop where
  ex : ∃ (f : Addr) (fd : FuncData), Fun K m qual st f fd ∧ Meth K C m f
section
variable {K : PySem.W.Frag} {mg : Str → Option Value} {h : Heap} {x m qual : Str} {st : Stmt} {C f : Addr} {oc : Value} {od an : Option Addr} {osl : Array (Option Value)} {kV doc pm cdv ct : Value} {ps : List Str}
theorem ac_mk (X : K.In h) (G : h.Ns mainGlobals mg) (a : PySem.W.nsIn K mainGlobals x = some (some (.ref f))) (l : K.lookup f = some ⟨oc, od, .func (PySem.W.fnOf x x (defArgs st) (defBody st) (defScope st) .none kV doc pm an cdv ct), osl⟩) (c : PySem.W.codeIn K cdv x = true) (k : PySem.W.keepIn K (.ref f) = true) : Ac K mg x st := ⟨f, _, fun_mk l c k, PySem.W.mg_of X G a⟩
theorem acm_mk (a : PySem.W.findIn K (.ref C) m = some (some (.ref f))) (i : PySem.W.isFn K (.ref f) = true) (l : K.lookup f = some ⟨oc, od, .func (PySem.W.fnOf m qual (defArgs st) (defBody st) (defScope st) .none kV doc pm an cdv ct), osl⟩) (c : PySem.W.codeIn K cdv qual = true) (k : PySem.W.keepIn K (.ref f) = true) : Acm K C m qual st := ⟨f, _, fun_mk l c k, a, i, k⟩
theorem Ac.at (a : Ac K mg x st) (b : ∀ (kV doc pm : Value) (an : Option Addr) (cdv ct : Value) (us : List Value), us.length = ps.length → bindArgs (PySem.W.fnOf x x (defArgs st) (defBody st) (defScope st) .none kV doc pm an cdv ct) ⟨us, []⟩ = pure (ps.zip us)) : At K mg x st ps := let ⟨_, _, F, m⟩ := a.ex; at_mk F m (F.binds b)
theorem Acm.at (a : Acm K C m qual st) (b : ∀ (kV doc pm : Value) (an : Option Addr) (cdv ct : Value) (us : List Value), us.length = ps.length → bindArgs (PySem.W.fnOf m qual (defArgs st) (defBody st) (defScope st) .none kV doc pm an cdv ct) ⟨us, []⟩ = pure (ps.zip us)) : AtM K C m qual st ps := let ⟨_, _, F, m⟩ := a.ex; ⟨_, _, F, m, F.binds b⟩
end
end L3
namespace L3
open PySem PySem.Spec PyProof.Rows L2
structure Bt where
  nm : Str
  t : List Int
  ks : List Int
  age : Int
  step : Int
  cnt : Int
  bnd : Int
  x : Option Int
  y : Option Int
def oV : Option Int → V
  | none => .non
  | some i => .int i
theorem oV_inj {a b : Option Int} (h : oV a = oV b) : a = b := by
  cases a <;> cases b <;> simp [oV] at h ⊢ <;> exact h
theorem oV_scal (a : Option Int) (i : Int) : scal (oV a) (.int i) = true := by cases a <;> rfl
theorem oV_dec (a : Option Int) (i : Int) : decide (oV a = .int i) = decide (a = some i) := by
  rw [Bool.eq_iff_iff, decide_eq_true_iff, decide_eq_true_iff]
  constructor
  · intro h; exact oV_inj (b := some i) h
  · intro h; rw [h]; rfl
def bF (B : Bt) (ta ka ce : Addr) : List (Str × V) :=
  [("name", .str B.nm), ("table", .ref ta), ("key", .ref ka), ("age", .int B.age), ("step", .int B.step), ("next_count", .int B.cnt), ("bound", .int B.bnd), ("cells", .ref ce)]
def bN : List Str := ["name", "table", "key", "age", "step", "next_count", "bound", "cells"]
theorem bN_nd : bN.Nodup := by decide +kernel
theorem bF_nd (B : Bt) (ta ka ce : Addr) : ((bF B ta ka ce).map (·.1)).Nodup := bN_nd
structure BCx (K : PySem.W.Frag) (C : Addr) : Prop where
  cl : Cls K C
  n_name : NoAttr K C "name"
  n_table : NoAttr K C "table"
  n_key : NoAttr K C "key"
  n_age : NoAttr K C "age"
  n_step : NoAttr K C "step"
  n_next_count : NoAttr K C "next_count"
  n_bound : NoAttr K C "bound"
  n_cells : NoAttr K C "cells"
structure BtnAt (K : PySem.W.Frag) (C : Addr) (H : Hp) (p ta ka ce : Addr) (B : Bt) : Prop where
  ob : ∃ dx, H p = some (.ins C dx (bF B ta ka ce))
  tb : SqT K H ta (B.t.map V.int)
  ky : SqT K H ka (B.ks.map V.int)
  cs : H ce = some (.lst [oV B.x, oV B.y])
section
variable {K : PySem.W.Frag} {C : Addr} {H H' : Hp} {p ta ka ce dx : Addr} {B : Bt}
theorem BtnAt.has (b : BtnAt K C H p ta ka ce B) (U : BCx K C) (i : Nat) {f : Str} {v : V} (h : (bF B ta ka ce)[i]? = some (f, v)) (n : NoAttr K C f) : HasF K H p f v := by
  obtain ⟨dx, e⟩ := b.ob
  exact ⟨C, dx, _, e, U.cl, n, lookup_at i h (bF_nd ..)⟩
theorem BtnAt.h_name (b : BtnAt K C H p ta ka ce B) (U : BCx K C) : HasF K H p "name" (.str B.nm) := b.has U 0 rfl U.n_name
theorem BtnAt.h_table (b : BtnAt K C H p ta ka ce B) (U : BCx K C) : HasF K H p "table" (.ref ta) := b.has U 1 rfl U.n_table
theorem BtnAt.h_key (b : BtnAt K C H p ta ka ce B) (U : BCx K C) : HasF K H p "key" (.ref ka) := b.has U 2 rfl U.n_key
theorem BtnAt.h_age (b : BtnAt K C H p ta ka ce B) (U : BCx K C) : HasF K H p "age" (.int B.age) := b.has U 3 rfl U.n_age
theorem BtnAt.h_step (b : BtnAt K C H p ta ka ce B) (U : BCx K C) : HasF K H p "step" (.int B.step) := b.has U 4 rfl U.n_step
theorem BtnAt.h_next_count (b : BtnAt K C H p ta ka ce B) (U : BCx K C) : HasF K H p "next_count" (.int B.cnt) := b.has U 5 rfl U.n_next_count
theorem BtnAt.h_bound (b : BtnAt K C H p ta ka ce B) (U : BCx K C) : HasF K H p "bound" (.int B.bnd) := b.has U 6 rfl U.n_bound
theorem BtnAt.h_cells (b : BtnAt K C H p ta ka ce B) (U : BCx K C) : HasF K H p "cells" (.ref ce) := b.has U 7 rfl U.n_cells
theorem BtnAt.no (b : BtnAt K C H p ta ka ce B) {m : Str} (h : m ∉ bN := by decide +kernel) : NoF C H p m := by
  obtain ⟨dx, e⟩ := b.ob
  exact ⟨dx, _, e, lookup_no h⟩
theorem BtnAt.ne (b : BtnAt K C H p ta ka ce B) : p ≠ ce := by
  obtain ⟨dx, e⟩ := b.ob
  exact ne_of e b.cs (by intro z; cases z)
theorem BtnAt.nt (b : BtnAt K C H p ta ka ce B) : NT [p, ce] H := fun c hc => by
  obtain ⟨dx, e⟩ := b.ob
  simp only [List.mem_cons, List.not_mem_nil, or_false] at hc
  rcases hc with rfl | rfl
  · exact ⟨_, e, trivial⟩
  · exact ⟨_, b.cs, trivial⟩
theorem BtnAt.put (U : BCx K C) (e : H p = some (.ins C dx (bF B ta ka ce))) (i : Nat) {f : Str} {u : V} (v : V) (h : (bF B ta ka ce)[i]? = some (f, u)) (n : NoAttr K C f) :
    PutF K H p f v (upd H p (.ins C dx ((bF B ta ka ce).set i (f, v)))) := ⟨C, dx, _, e, U.cl, n, by show 8 < 1000; decide, by rw [putF_at i h (bF_nd ..)]⟩
theorem BtnAt.to (b : BtnAt K C H p ta ka ce B) (m : Mv [p, ce] H H') {B' : Bt} (ht : B'.t = B.t) (hk : B'.ks = B.ks) (e : H' p = some (.ins C dx (bF B' ta ka ce))) (ec : H' ce = some (.lst [oV B'.x, oV B'.y])) : BtnAt K C H' p ta ka ce B' :=
  ⟨⟨dx, e⟩, by rw [ht]; exact m.sqt b.nt b.tb, by rw [hk]; exact m.sqt b.nt b.ky, ec⟩
theorem BtnAt.mv {S : List Addr} (b : BtnAt K C H p ta ka ce B) (m : Mv S H H') (n : NT S H) (hp : p ∉ S) (hc : ce ∉ S) : BtnAt K C H' p ta ka ce B := by
  obtain ⟨dx, e⟩ := b.ob
  exact ⟨⟨dx, m _ _ hp e⟩, m.sqt n b.tb, m.sqt n b.ky, m _ _ hc b.cs⟩
theorem BtnAt.same (b : BtnAt K C H p ta ka ce B) (s : Same H H') : BtnAt K C H' p ta ka ce B := b.mv (S := []) s.mv (fun c h => nomatch h) (fun h => nomatch h) (fun h => nomatch h)
end
def Bt.sp (B : Bt) : Int := if B.x = some B.bnd then 1 else 0
def Bt.nb (B : Bt) : Int := if 4096 < B.bnd + B.step then 4096 else B.bnd + B.step
def Bt.wr (B : Bt) : Bt := if B.x = some B.bnd then { B with bnd := B.nb, y := some B.nb } else { B with bnd := B.nb, x := some B.nb }
def Bt.mw (B : Bt) : Bool := decide (B.cnt = B.bnd) && !decide (4096 ≤ B.cnt)
def Bt.pr (B : Bt) : Bt := if B.mw then { B.wr with cnt := B.cnt + 1 } else { B with cnt := B.cnt + 1 }
theorem wr_nm (B : Bt) : B.wr.nm = B.nm := by unfold Bt.wr; split <;> rfl
theorem wr_t (B : Bt) : B.wr.t = B.t := by unfold Bt.wr; split <;> rfl
theorem wr_ks (B : Bt) : B.wr.ks = B.ks := by unfold Bt.wr; split <;> rfl
theorem wr_age (B : Bt) : B.wr.age = B.age := by unfold Bt.wr; split <;> rfl
theorem wr_cnt (B : Bt) : B.wr.cnt = B.cnt := by unfold Bt.wr; split <;> rfl
theorem pr_nm (B : Bt) : B.pr.nm = B.nm := by unfold Bt.pr; split <;> first | exact wr_nm B | rfl
theorem pr_t (B : Bt) : B.pr.t = B.t := by unfold Bt.pr; split <;> first | exact wr_t B | rfl
theorem pr_ks (B : Bt) : B.pr.ks = B.ks := by unfold Bt.pr; split <;> first | exact wr_ks B | rfl
theorem pr_age (B : Bt) : B.pr.age = B.age := by unfold Bt.pr; split <;> first | exact wr_age B | rfl
theorem pr_cnt (B : Bt) : B.pr.cnt = B.cnt + 1 := by unfold Bt.pr; split <;> rfl
section
variable (K : PySem.W.Frag) (C : Addr)
def spBInit : Sp := fun vs H Q _ => ∃ (p a b dx : Addr) (nm : Str) (age step : Int) (t ks : List Int), vs = [.ref p, .str nm, .ref a, .ref b, .int age, .int step] ∧ H p = some (.ins C dx []) ∧ Sq K H a (t.map V.int) ∧ Sq K H b (ks.map V.int) ∧
  ∀ ta ka ce H', H ce = none → Mv [p] H H' → BtnAt K C H' p ta ka ce ⟨nm, t, ks, age, step, 0, 0, some 0, none⟩ → Q .non H'
def spBWorn : Sp := fun vs H Q _ => ∃ (p ta ka ce : Addr) (B : Bt), vs = [.ref p] ∧ BtnAt K C H p ta ka ce B ∧ Q (.bl (decide (4096 ≤ B.cnt))) H
def spBMust : Sp := fun vs H Q _ => ∃ (p ta ka ce : Addr) (B : Bt), vs = [.ref p] ∧ BtnAt K C H p ta ka ce B ∧ Q (.bl B.mw) H
def spBSpare : Sp := fun vs H Q _ => ∃ (p ta ka ce : Addr) (B : Bt), vs = [.ref p] ∧ BtnAt K C H p ta ka ce B ∧ Q (.int B.sp) H
def spBWrite : Sp := fun vs H Q _ => ∃ (p ta ka ce : Addr) (B : Bt), vs = [.ref p] ∧ BtnAt K C H p ta ka ce B ∧ ∀ H', Mv [p, ce] H H' → BtnAt K C H' p ta ka ce B.wr → Q .non H'
def spBPress : Sp := fun vs H Q _ => ∃ (p ta ka ce : Addr) (B : Bt) (d : Int), vs = [.ref p, .int d] ∧ BtnAt K C H p ta ka ce B ∧ isNm B.nm ∧ B.t.length = 16 ∧ 0 ≤ B.cnt ∧ B.cnt < 4096 ∧ dig d ∧
  ∀ q pc H', Mv [p, ce] H H' → BtnAt K C H' p ta ka ce B.pr → H' q = some (.tup [.str B.nm, .int B.age, .ref pc]) → H' pc = some (.tup ((codeI B.t B.ks B.nm B.cnt d).map V.int)) → Q (.ref q) H'
def spBName : Sp := fun vs H Q _ => ∃ (p ta ka ce : Addr) (B : Bt), vs = [.ref p] ∧ BtnAt K C H p ta ka ce B ∧ Q (.str B.nm) H
def spBAge : Sp := fun vs H Q _ => ∃ (p ta ka ce : Addr) (B : Bt), vs = [.ref p] ∧ BtnAt K C H p ta ka ce B ∧ Q (.int B.age) H
def spBCount : Sp := fun vs H Q _ => ∃ (p ta ka ce : Addr) (B : Bt), vs = [.ref p] ∧ BtnAt K C H p ta ka ce B ∧ Q (.int B.cnt) H
def spBCells : Sp := fun vs H Q _ => ∃ (p ta ka ce : Addr) (B : Bt), vs = [.ref p] ∧ BtnAt K C H p ta ka ce B ∧ ∀ q H', Same H H' → H' q = some (.tup [oV B.x, oV B.y]) → Q (.ref q) H'
end
def spTable2 : Sp := fun vs H Q _ => ∃ (b : Addr) (c : Nat), vs = [.ref b] ∧ BoxC H b c ∧ c < 100000000 ∧ ∀ p (t : List Int) H', GrC b (c + 16) H H' → H p = none → H' p = some (.tup (t.map V.int)) → t.Perm digs → Q (.ref p) H'
def spKeyT2 : Sp := fun vs H Q _ => ∃ (b : Addr) (c : Nat), vs = [.ref b] ∧ BoxC H b c ∧ c < 100000000 ∧ ∀ p (ks : List Int) H', GrC b (c + 9) H H' → H p = none → H' p = some (.tup (ks.map V.int)) → digR ks → 1 ≤ ks.length → ks.length ≤ 8 → Q (.ref p) H'
theorem GrC.fresh {b c : Addr} {n : Nat} {H H' : Hp} (g : GrC b n H H') (hb : BoxC H b n) (h : H' c = Option.none) : H c = Option.none := by
  cases e : H c with
  | none => rfl
  | some o =>
    by_cases z : c = b
    · subst z
      obtain ⟨_, _, _, e', _⟩ := g.bx
      rw [e'] at h; cases h
    · rw [g.kp c o z e] at h; cases h
theorem put_new {K : PySem.W.Frag} {C p dx : Addr} {H : Hp} {fs : List (Str × V)} {f : Str} {v : V} (c : Cls K C) (e : H p = some (.ins C dx fs)) (n : NoAttr K C f) (i : Nat) (hns : fs.map (·.1) = bN.take i := by rfl) (hn : f ∉ bN.take i := by decide +kernel) :
    PutF K H p f v (upd H p (.ins C dx (fs ++ [(f, v)]))) := ⟨C, dx, fs, e, c, n, by
    have h1 : fs.length = (bN.take i).length := by rw [← hns, List.length_map]
    have h2 : (bN.take i).length ≤ 8 := by rw [List.length_take]; exact Nat.min_le_right _ _
    omega, by rw [putF_new (by rw [hns]; exact hn)]⟩
theorem sq_tuple {K : PySem.W.Frag} {H : Hp} {a : Addr} {xs : List V} {Q : VK} (h : Sq K H a xs) (q : ∀ l H', Same H H' → SqT K H' l xs → Q (.ref l) H') : (SqL K H a xs ∧ ∀ l, H l = none → Q (.ref l) (upd H l (.tup xs))) ∨ (SqT K H a xs ∧ Q (.ref a) H) :=
  h.elim (fun h => .inl ⟨h, fun l hl => q l _ (Same.upd hl) (SqT.of upd_same)⟩) fun h => .inr ⟨h, q a H (Same.refl _) h⟩
theorem sq_upd {K : PySem.W.Frag} {C p dx a : Addr} {H : Hp} {fs : List (Str × V)} {xs : List V} {o : HO} (e : H p = some (.ins C dx fs)) (h : Sq K H a xs) : Sq K (upd H p o) a xs := by
  rcases h with (h | h) | (h | h)
  · refine .inl (.inl ?_)
    rcases h with h | ⟨u, h⟩
    · exact .inl (by rw [upd_ne (ne_of h e (by intro z; cases z))]; exact h)
    · exact .inr ⟨u, by rw [upd_ne (ne_of h e (by intro z; cases z))]; exact h⟩
  · exact .inl (.inr h)
  · refine .inr (.inl ?_)
    rcases h with h | ⟨u, h⟩
    · exact .inl (by rw [upd_ne (ne_of h e (by intro z; cases z))]; exact h)
    · exact .inr ⟨u, by rw [upd_ne (ne_of h e (by intro z; cases z))]; exact h⟩
  · exact .inr (.inr h)
theorem sqt_upd {K : PySem.W.Frag} {C p dx a : Addr} {H : Hp} {fs : List (Str × V)} {xs : List V} {o : HO} (e : H p = some (.ins C dx fs)) (h : SqT K H a xs) : SqT K (upd H p o) a xs := by
  rcases h with (h | ⟨u, h⟩) | h
  · exact .inl (.inl (by rw [upd_ne (ne_of h e (by intro z; cases z))]; exact h))
  · exact .inl (.inr ⟨u, by rw [upd_ne (ne_of h e (by intro z; cases z))]; exact h⟩)
  · exact .inr h
theorem call_len_seqK {X : Cx} {K : PySem.W.Frag} (hK : X.K = K) : CallR X (.builtin "len") (fun xs H Q => ∃ p ys, xs = [.ref p] ∧ (SqL K H p ys ∨ SqT K H p ys) ∧ Q (.int (ys.length : Nat)) H) := by
  subst hK
  exact call_len_seq
theorem seqIndex_nat {k n : Nat} (h : k < n) : seqIndex? (k : Int) n = some k := by
  unfold seqIndex?
  simp
  omega
theorem perm_pop {ms zs : List Int} {k : Nat} (h : k < ms.length) : (zs ++ [ms[k]] ++ ms.eraseIdx k).Perm (zs ++ ms) := by
  rw [List.append_assoc]
  refine List.Perm.append_left zs ?_
  rw [List.eraseIdx_eq_take_drop_succ]
  have e : ms = ms.take k ++ ms[k] :: ms.drop (k + 1) := by rw [← List.drop_eq_getElem_cons h, List.take_append_drop]
  refine List.Perm.trans (List.perm_middle (a := ms[k]) (l₁ := ms.take k) (l₂ := ms.drop (k + 1))).symm ?_
  rw [← e]
theorem erase_ints (ms : List Int) (k : Nat) : (ms.map V.int).eraseIdx k = (ms.eraseIdx k).map V.int := by
  rw [List.eraseIdx_eq_take_drop_succ, List.eraseIdx_eq_take_drop_succ, List.map_append, List.map_take, List.map_drop]
theorem call_tupleQ {X : Cx} : CallR X (.type "tuple") (fun xs H Q => ∃ p ys, xs = [.ref p] ∧ Sq X.K H p ys ∧ ∀ l H', Same H H' → SqT X.K H' l ys → Q (.ref l) H') := by
  intro pins s σ H xs us Q I r h
  obtain ⟨p, ys, e, hs, q⟩ := h
  exact call_tuple_of pins s σ H xs us Q I r ⟨p, ys, e, sq_tuple hs q⟩
end L3
namespace L3
open PySem PySem.Spec PyProof.Rows L2
section
variable {K : PySem.W.Frag} {C : Addr} {H H' : Hp} {b L : Addr} {n n' : Nat} {os : List O}
theorem nin1 {a x : Addr} (h : a ≠ x) : a ∉ [x] := fun z => h (List.mem_singleton.mp z)
theorem boxc_nt (hb : BoxC H b n) : NT [b] H := fun c hc => by
  obtain ⟨_, _, _, e, _⟩ := hb
  rw [List.mem_singleton.mp hc]
  exact ⟨_, e, trivial⟩
end
end L3
namespace L3
open PySem PySem.Spec PyProof.Rows L2
theorem small (n : Nat) (h : n ≤ 100 := by omega) : n < sizeLine := Nat.lt_of_le_of_lt h (by decide)
theorem nin2 {a x y : Addr} (h : a ≠ x) (g : a ≠ y) : a ∉ [x, y] := fun z => by
  simp only [List.mem_cons, List.not_mem_nil, or_false] at z
  exact z.elim h g
theorem NT.one {H : Hp} {a : Addr} {o : HO} (e : H a = some o) (n : noTup o) : NT [a] H := fun c hc => ⟨o, by rw [List.mem_singleton.mp hc]; exact e, n⟩
end L3
namespace L3
open PySem PySem.Spec PyProof.Rows L2
open Sem (wp)
def CompGF (k : Nat) (js : List Nat) (g : TG) (tc : TT) (te : TE) (σ : L2.St) (Q : VK) (J : It) (H1 : Hp) : Prop := ∃ W : Nat → Nat → List V → L2.St → Hp → Prop, (∃ m, W 0 m [] (σ0 k js σ) H1) ∧ ∀ i m ys τ H, W i m ys τ H →
  (J.stop i H ∧ ∀ p, H p = none → Q (.ref p) (upd H p (.lst ys))) ∨ (J.go i H ∧ ys.length < sizeLine ∧ ∀ x H', J.yld i H x H' → g x τ H' fun τ2 H2 => ∃ (N : V → Hp → Prop) (N0 : Hp → Prop), (∀ v H3, N v H3 → ∃ m', m' < m ∧ W (i + 1) m' (ys ++ [v]) τ2 H3) ∧
    (∀ H3, N0 H3 → ∃ m', m' < m ∧ W (i + 1) m' ys τ2 H3) ∧ tc τ2 H2 fun c H3 => if c = true then te τ2 H3 N else N0 H3)
def tCompF (k : Nat) (js : List Nat) (wi : TI) (g : TG) (tc : TT) (te : TE) : TE := fun σ H Q => wi σ H (CompGF k js g tc te σ Q)
section
variable {prog : Program} {w : World} {A : Around} {R : Result → Shared → Prop} {s : Shared}
theorem compLoop_if {elt target iter cnd : Expr} {scope : Scope} {pos : Pos} {it acc : Value} {env : Env} (I : Nat → Shared → Prop)
    (turn : ∀ n s, I n s → wpAny (model prog w) A (pyNext it) (fun r s₁ => match r with
      | none => R (.ok .next) s₁
      | some v => wpAny (model prog w) A (letOwnedTupleGo target it v) (fun _ s₁' => wpAny (model prog w) A (assign target env v) (fun _ s₂ => wpAny (model prog w) A (isTrue cnd env (eval cnd env)) (fun ok s₂' =>
          if ok = true then wpAny (model prog w) A (eval elt env) (fun x s₃ =>
            wpAny (model prog w) A (call (.builtin "list.append") [acc, x]) (fun _ s₄ => ∃ m, m < n ∧ I m s₄) (fun _ _ => False) s₃) (fun _ _ => False) s₂' else ∃ m, m < n ∧ I m s₂')
          (fun _ _ => False) s₂) (fun _ _ => False) s₁') (fun _ _ => False) s₁) (fun _ _ => False) s)
    (n : Nat) (h : I n s) :
    codeAny (model prog w) A (.compLoop (.ListComp elt [⟨target, iter, [cnd], 0⟩] scope pos) 0 it acc env) R s := by
  refine codeAny_loop rfl I (fun n s hI => ?_) n h
  show wpAny _ _ ((compTurn (.ListComp elt [⟨target, iter, [cnd], 0⟩] scope pos) 0 it acc env).onRaise (fun x => do noteFrame x env; theTreesLotGoes x)) _ _ s
  refine wpAny_noted ?_
  rw [compTurn_list]
  refine wpAny_bind (wpAny_standAt (wpAny_bind (wpAny_mono (turn n s hI) (fun r s₁ h₁ => ?_) fun _ _ h' => h'.elim)))
  cases r with
  | none => exact wpAny_pure h₁
  | some v =>
    refine wpAny_bind (wpAny_mono h₁ (fun _ s₁' h₁' => ?_) fun _ _ h' => h'.elim)
    refine wpAny_bind (wpAny_mono h₁' (fun _ s₂ h₂ => wpAny_bind (wpAny_tests_one (wpAny_mono h₂ (fun ok s₂' h₂' => ?_) fun _ _ h' => h'.elim))) fun _ _ h' => h'.elim)
    cases ok with
    | false => exact wpAny_pure ⟨rfl, h₂'⟩
    | true =>
      exact wpAny_bind (wpAny_bind (wpAny_mono h₂' (fun x s₃ h₃ => wpAny_bind (wpAny_mono h₃ (fun _ s₄ h₄ => wpAny_pure (wpAny_pure ⟨rfl, h₄⟩)) fun _ _ h' => h'.elim)) fun _ _ h' => h'.elim))
end
variable {X : Cx}
theorem comp_runF {elt tg iter cnd : Expr} {scope : Scope} {cl : List (Str × Addr)} {pos fpos : Pos} {fr own : List Str} {js : List Nat} {wi : TI} {g : TG} {tc : TT} {te : TE} {use : Option (Value → Sem Unit)} {Post : Value → Shared → Prop}
    {pins : List (Addr × Obj)} {s : Shared} {σ : L2.St} {H : Hp} {Q : VK}
    (hc : X.calm = true) (hi : PI X tg iter wi) (hclos : closureFor scope X.env = pure cl) (hcl : ∀ y c, cl.lookup y = some c → X.env.cells.lookup y = some c) (hfr : cl.map (·.1) = fr)
    (S : BScope X scope fr js)
    (hg : ∀ C s H fp, PG (blk X (own ++ fr) scope cl C s H fp) tg g) (ht : ∀ C s H fp, PT (blk X (own ++ fr) scope cl C s H fp) cnd tc) (he : ∀ C s H fp, PE (blk X (own ++ fr) scope cl C s H fp) elt te)
    (hs : ∀ x, foldedSetIterable iter X.env x = pure x)
    (I : L2.Inv X pins σ H s) (h : tCompF own.length js wi g tc te σ H Q)
    (hfin : ∀ (acc C : Addr) (s5 : Shared) (H' : Hp) (m : Str → Option Value), L2.Inv X pins σ H' s5 → s5.heap.Ns C m → Away X pins H' C → Q (.ref acc) H' → compPost (model X.prog X.w) X.A X.xe use Post (.ref acc) C (.ok .next) s5) :
    wpAny (model X.prog X.w) X.A (comprehension (.ListComp elt [⟨tg, iter, [cnd], 0⟩] scope pos) scope X.env fpos (newList []) false (eval iter X.env) use) Post X.xe s := by
  refine wpAny_comprehension_free (use := use) rfl hs hclos S.kind S.names (thn (hi pins s σ H _ I h) fun v s1 h1 => thn h1 fun itv s2 h2 => ?_)
  obtain ⟨it, fp, tn, J, H2, e, I2, T, st2, f2, W, ⟨m0, w0⟩, turn⟩ := h2
  subst e
  refine wpAny_newObj_type (wpAny_newFunctionEnv S.nocell (by intro y hy; simp at hy) (fun h₁ hns₁ hsb₁ => ?_) S.kind)
  dsimp only at hns₁ hsb₁ ⊢
  generalize hH2 : s2.heap.push { cls := .type "list", dict := none, data := .seq ([] : List Value).toArray } = G at hns₁ hsb₁ ⊢
  have hC : G.objs.size = s2.heap.objs.size + 1 := by rw [← hH2, Heap.size_push]
  have hDC : s2.heap.objs.size ≠ G.objs.size := by rw [hC]; exact Nat.ne_of_lt (Nat.lt_succ_self _)
  have below : ∀ b, b < s2.heap.objs.size → b ≠ G.objs.size ∧ b ≠ s2.heap.objs.size := fun b hb => ⟨by rw [hC]; exact Nat.ne_of_lt (Nat.lt_succ_of_lt hb), Nat.ne_of_lt hb⟩
  have old : ∀ b o, s2.heap.get? b = some o → h₁.get? b = some o := fun b o e => hsb₁.extBut b o (below b (Heap.lt_size e)).1 (Heap.get?_push_of_some _ (hH2 ▸ Heap.get?_push_of_some _ e))
  have hacc : h₁.get? s2.heap.objs.size = some { cls := .type "list", data := .seq ([] : List Value).toArray 0 } := hsb₁.extBut _ _ hDC (Heap.get?_push_of_some _ (hH2 ▸ Heap.get?_push_size _ rfl))
  let Y : Cx := blk X (own ++ fr) scope cl G.objs.size s2 H2 fp
  have fplt : ∀ b ∈ fp, b < s2.heap.objs.size := fun b hb => by obtain ⟨o, e, _⟩ := T.obj _ _ st2 b hb; exact Heap.lt_size e
  have okY : Y.Ok := by
    refine ⟨I2.ok.mod, S.kind, I2.ok.glob, I2.ok.blt, by show s2.heap.objs.size ≤ G.objs.size; omega, ?_, ?_, ?_, I2.ok.hd, I2.ok.frames, .inl rfl, ?_, I2.bs, Nat.le_trans I2.ok.bsz I2.sz, ?_, ?_, I2.stack, I2.stkFree⟩
    · exact fun x y c e1 e2 => I2.ok.inj x y c (hcl x c e1) (hcl y c e2)
    · intro x hx
      have hx' : (relabel scope X.env).names.lookup x = some .cell ∨ (relabel scope X.env).names.lookup x = some .free := hx
      have hm : ∃ k, (x, k) ∈ scope.names ∧ k = .free := by
        have aux : ∀ kk : NameKind, (kk = .cell ∨ kk = .free) → (relabel scope X.env).names.lookup x = some kk → ∃ k, (x, k) ∈ scope.names ∧ k = .free := by
          intro kk hk el
          obtain ⟨⟨n, k⟩, hmem, e⟩ := List.mem_map.mp (PySem.mem_of_lookup el)
          dsimp only at e
          split at e
          · rename_i hcond
            cases e
            refine ⟨k, hmem, ?_⟩
            simp only [Bool.and_eq_true, beq_iff_eq] at hcond
            exact hcond.1.1
          · cases e
            rcases hk with z | z
            · subst z; exact absurd rfl (S.nocell _ hmem)
            · exact ⟨_, hmem, z⟩
        rcases hx' with z | z
        · exact aux _ (.inl rfl) z
        · exact aux _ (.inr rfl) z
      obtain ⟨k, hmem, hk⟩ := hm
      exact mem_lookup_isSome (l := cl) (by rw [hfr]; exact S.free _ hmem hk)
    · exact fun x c e _ => nomatch e
    · refine fun b hb => ⟨?_, fun x c e => (f2 b hb).2.2.2.2.1 x c (hcl x c e)⟩
      show b ≠ G.objs.size
      exact (below b (fplt b hb)).1
    · intro b o e hb
      rcases (f2 b hb).2.2.2.1 with z | z
      · exact I2.ok.noex b o e z
      · exact absurd (Nat.lt_of_lt_of_le (Heap.lt_size e) (Nat.le_trans I2.ok.bsz z)) (Nat.lt_irrefl _)
    · intro b hb hf
      rcases List.mem_cons.mp (I2.stkSub b hf) with z | z
      · exact (f2 b hb).2.1 z
      · exact (f2 b hb).2.2.1 z
  have lenσ : (σ0 own.length js σ).length = (own ++ fr).length := by unfold σ0; simp [S.len]
  have IY : Inv Y [] (σ0 own.length js σ) H2 { s2 with heap := h₁, toks := s2.toks + ([] : List (Str × Value)).length } := by
    refine ⟨okY, rfl, I2.bare, Un.kept old, ⟨_, hns₁, ?_⟩, ?_, ?_, ?_, fun p hp => absurd (show p ∈ ([] : List (Addr × Obj)) from hp) (by simp), I2.hok.kept old, lenσ⟩
    · intro i x v hN hv _
      have hN' : (own ++ fr)[i]? = some x := hN
      unfold σ0 at hv
      by_cases hlt : i < own.length
      · rw [List.getElem?_append_left (by simpa using hlt), List.getElem?_replicate] at hv
        split at hv <;> cases hv
      · rw [List.getElem?_append_right (by simpa using Nat.le_of_not_lt hlt), List.length_replicate, List.getElem?_map] at hv
        rw [List.getElem?_append_right (Nat.le_of_not_lt hlt)] at hN'
        cases ej : js[i - own.length]? with
        | none => rw [ej] at hv; cases hv
        | some j =>
          rw [ej] at hv
          have hσ : σ[j]? = some (some v) := by
            have hv' : (σ[j]?).join = some v := Option.some.inj hv
            cases q : σ[j]? with
            | none => rw [q] at hv'; cases hv'
            | some o => rw [q] at hv'; have : o = some v := hv'; rw [this]
          obtain ⟨hNj, hk, hkr⟩ := S.at_ _ j x ej hN'
          obtain ⟨m, hn, hl⟩ := I2.loc
          obtain ⟨u, ru, lk⟩ := hl j x v hNj hσ (.inr (.inl hk))
          refine ⟨u, ru, .inr ?_⟩
          rcases lk with ⟨k1, _⟩ | ⟨_, c, ec, ic⟩
          · rw [hk] at k1; cases k1
          · obtain ⟨c', hc'⟩ := mem_lookup_isSome (y := x) (l := cl) (by rw [hfr]; exact List.mem_of_getElem? hN')
            have : c' = c := by have := hcl x c' hc'; rw [ec] at this; exact (Option.some.inj this).symm
            subst this
            refine ⟨?_, c', hc', ?_⟩
            · show (relabel scope X.env).names.lookup x = some .cell ∨ (relabel scope X.env).names.lookup x = some .free
              exact .inl hkr
            · obtain ⟨oc, hoc, hd⟩ := ic
              exact ⟨oc, old _ _ hoc, hd⟩
    · intro x c e
      obtain ⟨v, oc, hoc, hd⟩ := I2.cell x c (hcl x c e)
      exact ⟨v, oc, old _ _ hoc, hd⟩
    · exact I2.hok.fresh (by show s2.heap.objs.size ≤ G.objs.size; omega)
    · exact fun x c e => I2.freeC x c (hcl x c e)
  have accfs : s2.heap.objs.size ∉ frs X.stack := fun hf => by
    rcases List.mem_cons.mp (I2.stkSub _ hf) with z | z
    · exact absurd (by rw [← z] ; exact Nat.le_refl _ : s2.heap.objs.size ≤ X.env.locals) (Nat.not_le.mpr I2.lt)
    · exact I2.nofs (Nat.le_refl _) z
  have acccell : ∀ x c, cl.lookup x = some c → c ≠ s2.heap.objs.size := fun x c e z => by
    obtain ⟨v, oc, hoc, _⟩ := I2.cell x c (hcl x c e)
    exact absurd (Heap.lt_size hoc) (by rw [z]; exact Nat.lt_irrefl _)
  have fpY : ∀ {H' : Hp} {pl : List (Addr × Obj)}, (∀ b ∈ fp, H' b = none) → (∀ p ∈ pl, p.1 = s2.heap.objs.size) → ∀ b ∈ fp, FpOk Y pl H' b := fun {H' pl} hn hp b hb =>
    ⟨hn b hb, (below b (fplt b hb)).1, okY.exfs b hb, .inl hb, fun x c e => (f2 b hb).2.2.2.2.1 x c (hcl x c e), fun p hpp => by
      have hpp' : p ∈ pl := by simpa [Y, blk] using hpp
      rw [hp p hpp']; exact Ne.symm (below b (fplt b hb)).2⟩
  have loop : ∀ s₃ : Shared, Inv Y [] (σ0 own.length js σ) H2 s₃ → tn 0 s₃.heap → s₃.heap.get? s2.heap.objs.size = some { cls := .type "list", data := .seq ([] : List Value).toArray 0 } →
      codeAny (model X.prog X.w) X.A (.compLoop (.ListComp elt [⟨tg, iter, [cnd], 0⟩] scope pos) 0 (.ref it) (.ref s2.heap.objs.size) (compEnvC scope cl G.objs.size X.env))
        (compPost (model X.prog X.w) X.A X.xe use Post (.ref s2.heap.objs.size) G.objs.size) s₃ := by
    intro s₃ I3 st3 ha3
    refine compLoop_if (fun n s' => ∃ i ys τ H' its k, Inv Y [(s2.heap.objs.size, { cls := .type "list", data := .seq its.toArray k })] τ H' s' ∧ tn i s'.heap ∧ (∀ b ∈ fp, H' b = none) ∧ Vals ys its ∧ ys.length ≤ sizeLine ∧ W i n ys τ H') ?_ m0 ?_
    · rintro n s4 ⟨i, ys, τ, H4, its, k, I4, st4, fr4, vl, hz, w4⟩
      have pin4 := I4.pin (s2.heap.objs.size, { cls := .type "list", data := .seq its.toArray k }) (by simp [Y, blk])
      rcases turn i n ys τ H4 w4 with ⟨stop, qn⟩ | ⟨go, hlt, step⟩
      · refine thn (T.done Y rfl rfl rfl hc i _ s4 τ H4 _ I4 (fpY fr4 (by simp)) st4 stop) fun r s5 ⟨hr, I5⟩ => ?_
        subst hr
        show compPost _ _ _ _ _ _ _ _ _
        obtain ⟨m5, hn5, _⟩ := I5.loc
        have pin5 := I5.pin (s2.heap.objs.size, { cls := .type "list", data := .seq its.toArray k }) (by simp [Y, blk])
        have nacc : H4 s2.heap.objs.size = none := pin5.2.1
        have B := I5.base
        have nC : H4 G.objs.size = none := I5.free
        refine hfin s2.heap.objs.size G.objs.size s5 (upd H4 s2.heap.objs.size (.lst ys)) m5 ?_ hn5 ?_ (qn _ nacc)
        · refine I2.call' (s' := s5) (ch := fp) I5.os ⟨B.keep, B.slot, fun b o e n hx => ?_, B.there, fun b xs e => ?_, fun b o u e => ?_, fun b ps e => ?_⟩ ?_ I5.bare ?_
          · rw [upd_ne (below b (Heap.lt_size e)).2]; exact B.free b o e n hx
          · have e1 := B.tups b xs e
            rw [upd_ne (ne_of_none e1 nacc)]; exact e1
          · have e1 := B.frzs b o u e
            rw [upd_ne (ne_of_none e1 nacc)]; exact e1
          · obtain ⟨more, e1⟩ := B.tbls b ps e
            exact ⟨more, by rw [upd_ne (ne_of_none e1 nacc)]; exact e1⟩
          · intro b u e
            by_cases hb : b = s2.heap.objs.size
            · subst hb
              rw [upd_same] at e; cases e
              exact ⟨hz, its, k, vl, pin5.1⟩
            · rw [upd_ne hb] at e
              exact (I5.hok b u e).stay (fun c v _ q => q) (fun c q => by rw [upd_ne (ne_of_none q nacc)]; exact q) fun c xs q => by rw [upd_ne (ne_of_none q nacc)]; exact q
          · exact fun b hb => ⟨(f2 b hb).2.2.2.1, (f2 b hb).2.1, (f2 b hb).2.2.2.2.1, (f2 b hb).2.2.2.2.2⟩
        · have hge : s2.heap.objs.size ≤ G.objs.size := by omega
          refine ⟨by rw [upd_ne (Ne.symm hDC)]; exact nC, ?_, Nat.le_trans I2.sz hge, fun x c e z => ?_, fun p hp z => ?_⟩
          · exact Nat.ne_of_gt (Nat.lt_of_lt_of_le I2.lt hge)
          · obtain ⟨v, oc, hoc, _⟩ := I2.cell x c e
            exact absurd (Nat.lt_of_lt_of_le (Heap.lt_size hoc) hge) (by rw [z]; exact Nat.lt_irrefl _)
          · exact absurd (Nat.lt_of_lt_of_le (Heap.lt_size (I2.pin p hp).1) hge) (by rw [z]; exact Nat.lt_irrefl _)
      · refine thn (T.item Y rfl rfl rfl hc i _ s4 τ H4 _ I4 (fpY fr4 (by simp)) st4 go) fun r s5 ⟨u, hr, h5⟩ => ?_
        subst hr
        refine thn h5 fun _ s6 ⟨x, H6, I6, r6, y6, st6, fr6⟩ => ?_
        have I6' := I6.pinned (fpY fr6 (by simp)) (T.obj _ _ st6)
        refine thn (hg _ _ _ _ _ s6 τ H6 x u _ I6' r6 (step x H6 y6)) fun _ s7 ⟨τ7, H7, I7, N, N0, hN, hN0, q7⟩ => ?_
        refine thn (ht _ _ _ _ _ s7 τ7 H7 _ I7 q7) fun ok s7' ⟨H7', I7', q7'⟩ => ?_
        cases ok with
        | false =>
          obtain ⟨m', hm', w8⟩ := hN0 _ q7'
          have pin8 := I7'.pin (s2.heap.objs.size, { cls := .type "list", data := .seq its.toArray k }) (by simp [blk])
          have pinfp : ∀ b ∈ fp, ∀ o, s6.heap.get? b = some o → s7'.heap.get? b = some o ∧ H7' b = none := fun b hb o e => by
            have := I7'.pin (b, o) (List.mem_append_right _ (List.mem_append_right _ (mem_pinsAt hb e)))
            exact ⟨this.1, this.2.1⟩
          refine ⟨m', hm', i + 1, ys, τ7, H7', its, k, I7'.pins_of ?_, T.keep _ _ _ st6 fun b hb o e => (pinfp b hb o e).1, fun b hb => ?_, vl, by omega, w8⟩
          · intro p hp
            rw [List.mem_singleton.mp hp]
            exact pin8
          · obtain ⟨o, e, _⟩ := T.obj _ _ st6 b hb
            exact (pinfp b hb o e).2
        | true =>
        refine thn (he _ _ _ _ _ s7' τ7 H7' _ I7' q7') fun v' s8 ⟨y, H8, I8, r8, n8⟩ => ?_
        obtain ⟨m', hm', w8⟩ := hN _ _ n8
        have pin8 := I8.pin (s2.heap.objs.size, { cls := .type "list", data := .seq its.toArray k }) (by simp [blk])
        have pinfp : ∀ b ∈ fp, ∀ o, s6.heap.get? b = some o → s8.heap.get? b = some o ∧ H8 b = none := fun b hb o e => by
          have := I8.pin (b, o) (List.mem_append_right _ (List.mem_append_right _ (mem_pinsAt hb e)))
          exact ⟨this.1, this.2.1⟩
        refine wpAny_list_append_plain (items := its.toArray) ⟨k, pin8.1⟩ (fun h' ha' hs' => ?_) (by have := vl.length; simp; omega)
        obtain ⟨k', ha'⟩ := ha'
        have I9 : Inv Y [] τ7 H8 { s8 with heap := h' } := by
          refine (I8.pins_of (pins' := []) (by simp)).turned (t' := s8.toks) (it := s2.heap.objs.size) (fun b o hb e => (hs'.2 b hb).trans e) pin8.2.1 ?_ (.inr (Nat.le_refl _)) (fun x c e => acccell x c e) (fun p hp => absurd (show p ∈ ([] : List (Addr × Obj)) from by simpa [Y, blk] using hp) (by simp))
          exact hDC
        have ea : (its.toArray.push v') = (its ++ [v']).toArray := by simp
        rw [ea] at ha'
        refine ⟨m', hm', i + 1, ys ++ [y], τ7, H8, its ++ [v'], k', I9.pins_of ?_, T.keep _ _ _ st6 fun b hb o e => (hs'.2 b (below b (fplt b hb)).2).trans (pinfp b hb o e).1, fun b hb => ?_, vl.append (.cons r8 .nil), ?_, w8⟩
        · intro p hp
          rw [List.mem_singleton.mp hp]
          exact ⟨ha', pin8.2.1, hDC, accfs, fun v z => by cases z⟩
        · obtain ⟨o, e, _⟩ := T.obj _ _ st6 b hb
          exact (pinfp b hb o e).2
        · rw [List.length_append, List.length_singleton]; omega
    · refine ⟨0, [], σ0 own.length js σ, H2, [], 0, I3.pins_of ?_, st3, fun b hb => (f2 b hb).1, .nil, Nat.zero_le _, w0⟩
      intro p hp
      rw [List.mem_singleton.mp hp]
      exact ⟨ha3, I2.hok.fresh (Nat.le_refl _), hDC, accfs, fun v z => by cases z⟩
  have st1 : tn 0 h₁ := T.keep _ _ _ st2 fun b _ o e => old b o e
  exact codeAny_compStart_list (loop _ IY st1 hacc) (T.self _ 0 _ _ _ st1 (loop _ IY st1 hacc))
theorem pe_compF {elt tg iter cnd : Expr} {scope : Scope} {cl : List (Str × Addr)} {pos : Pos} {fr own : List Str} {js : List Nat} {wi : TI} {g : TG} {tc : TT} {te : TE}
    (hc : X.calm = true) (hi : PI X tg iter wi) (hclos : closureFor scope X.env = pure cl) (hcl : ∀ y c, cl.lookup y = some c → X.env.cells.lookup y = some c) (hfr : cl.map (·.1) = fr)
    (S : BScope X scope fr js)
    (hg : ∀ C s H fp, PG (blk X (own ++ fr) scope cl C s H fp) tg g) (ht : ∀ C s H fp, PT (blk X (own ++ fr) scope cl C s H fp) cnd tc) (he : ∀ C s H fp, PE (blk X (own ++ fr) scope cl C s H fp) elt te)
    (hs : ∀ x, foldedSetIterable iter X.env x = pure x := by intro _; rfl) :
    PE X (.ListComp elt [⟨tg, iter, [cnd], 0⟩] scope pos) (tCompF own.length js wi g tc te) := by
  intro pins s σ H Q I h
  rw [eval_ListComp]
  refine comp_runF (use := none) hc hi hclos hcl hfr S hg ht he hs I h fun acc C s5 H' m I5 hn aw q => ?_
  exact ⟨m, hn, fun h' hs' => ⟨.ref acc, H', I5.turned (t' := s5.toks) (fun b o hb e => (hs'.2 b hb).trans e) aw.free aw.loc (.inr aw.new) aw.cell aw.pin, rfl, q⟩⟩
theorem qe_compF {elt tg iter cnd : Expr} {scope : Scope} {cl : List (Str × Addr)} {pos : Pos} {fr own : List Str} {js : List Nat} {wi : TI} {g : TG} {tc : TT} {te : TE}
    (hc : X.calm = true) (hi : QI X tg iter wi) (hclos : closureFor scope X.env = pure cl) (hcl : ∀ y c, cl.lookup y = some c → X.env.cells.lookup y = some c) (hfr : cl.map (·.1) = fr)
    (S : BScope X scope fr js)
    (hg : ∀ C s H fp, QG (blk X (own ++ fr) scope cl C s H fp) tg g) (ht : ∀ C s H fp, QT (blk X (own ++ fr) scope cl C s H fp) cnd tc) (he : ∀ C s H fp, QE (blk X (own ++ fr) scope cl C s H fp) elt te)
    (hs : ∀ x, foldedSetIterable iter X.env x = pure x := by intro _; rfl) :
    QE X (.ListComp elt [⟨tg, iter, [cnd], 0⟩] scope pos) (tCompF own.length js wi g tc te) := ⟨pe_compF hc hi.h hclos hcl hfr S (fun C s H fp => (hg C s H fp).h) (fun C s H fp => (ht C s H fp).h) (fun C s H fp => (he C s H fp).h) hs⟩
section
variable {js : List Nat} {tc : TT} {te : TE} {σ : L2.St} {H : Hp} {Q : VK} {K : PySem.W.Frag}
abbrev CompWF (J : It) (js : List Nat) (tc : TT) (te : TE) (σ : L2.St) (H1 : Hp) (Q : VK) : Prop := CompGF 1 js (gName 0) tc te σ Q J H1
theorem compF_gen {J : It} {n : Nat} (hn : n ≤ sizeLine) (item : Nat → V → Prop) (Pv : Nat → List V → Hp → Prop) (h0 : Pv 0 [] H) (hgo : ∀ i ys H, i < n → Pv i ys H → J.go i H) (hst : ∀ ys H, Pv n ys H → J.stop n H)
    (hy : ∀ i ys H x H', i < n → Pv i ys H → J.yld i H x H' → H' = H ∧ item i x)
    (hs : ∀ i ys H x, i < n → Pv i ys H → item i x → tc (some x :: frees js σ) H fun c H3 => if c = true then te (some x :: frees js σ) H3 (fun v H4 => Pv (i + 1) (ys ++ [v]) H4) else Pv (i + 1) ys H3)
    (hd : ∀ ys H, Pv n ys H → ∀ p, H p = none → Q (.ref p) (upd H p (.lst ys))) : CompWF J js tc te σ H Q := by
  refine ⟨fun i m ys τ H => m = n - i ∧ i ≤ n ∧ ys.length ≤ i ∧ Pv i ys H ∧ ∃ o, τ = o :: frees js σ, ⟨n, by simp, Nat.zero_le _, Nat.le_refl _, h0, none, rfl⟩, ?_⟩
  rintro i m ys τ H ⟨rfl, hi, hl, p, o, rfl⟩
  by_cases hlt : i < n
  · refine .inr ⟨hgo i ys H hlt p, by omega, fun x H' y => ?_⟩
    obtain ⟨e, hx⟩ := hy i ys H x H' hlt p y
    subst e
    exact ⟨fun v H3 => Pv (i + 1) (ys ++ [v]) H3, fun H3 => Pv (i + 1) ys H3, fun v H3 p3 => ⟨n - (i + 1), by omega, rfl, hlt, by simp; omega, p3, _, rfl⟩, fun H3 p3 => ⟨n - (i + 1), by omega, rfl, hlt, by omega, p3, _, rfl⟩, hs i ys _ x hlt p hx⟩
  · have e : i = n := by omega
    subst e
    exact .inl ⟨hst ys H p, hd ys H p⟩
theorem compF_list {a : Addr} {xs : List V} (hn : xs.length ≤ sizeLine) (Pv : Nat → List V → Hp → Prop) (h0 : Pv 0 [] H) (hl : ∀ i ys H, Pv i ys H → SqL K H a xs)
    (hs : ∀ i ys H x, xs[i]? = some x → Pv i ys H → tc (some x :: frees js σ) H fun c H3 => if c = true then te (some x :: frees js σ) H3 (fun v H4 => Pv (i + 1) (ys ++ [v]) H4) else Pv (i + 1) ys H3)
    (hd : ∀ ys H, Pv xs.length ys H → ∀ p, H p = none → Q (.ref p) (upd H p (.lst ys))) : CompWF (Itl K a) js tc te σ H Q :=
  compF_gen hn (fun i x => xs[i]? = some x) Pv h0 (fun i ys H hi p => ⟨xs, xs[i], hl _ _ _ p, by simp [hi]⟩) (fun ys H p => ⟨xs, hl _ _ _ p, Nat.le_refl _⟩) (fun i ys H x H' _ p y => ⟨y.1, y.2 xs (hl _ _ _ p)⟩) (fun i ys H x _ p hx => hs i ys H x hx p) hd
theorem compF_tup {a : Addr} {xs : List V} (hn : xs.length ≤ sizeLine) (Pv : Nat → List V → Hp → Prop) (h0 : Pv 0 [] H) (hl : ∀ i ys H, Pv i ys H → SqT K H a xs)
    (hs : ∀ i ys H x, xs[i]? = some x → Pv i ys H → tc (some x :: frees js σ) H fun c H3 => if c = true then te (some x :: frees js σ) H3 (fun v H4 => Pv (i + 1) (ys ++ [v]) H4) else Pv (i + 1) ys H3)
    (hd : ∀ ys H, Pv xs.length ys H → ∀ p, H p = none → Q (.ref p) (upd H p (.lst ys))) : CompWF (Itt K a) js tc te σ H Q :=
  compF_gen hn (fun i x => xs[i]? = some x) Pv h0 (fun i ys H hi p => ⟨xs, xs[i], hl _ _ _ p, by simp [hi]⟩) (fun ys H p => ⟨xs, hl _ _ _ p, Nat.le_refl _⟩) (fun i ys H x H' _ p y => ⟨y.1, y.2 xs (hl _ _ _ p)⟩) (fun i ys H x _ p hx => hs i ys H x hx p) hd
end
def okC (x y : Option Int) : List Int := (match x with | some i => [i] | none => []) ++ (match y with | some i => [i] | none => [])
theorem call_maxL (hc : X.calm = true) : CallR X (.builtin "max") (fun xs H Q => ∃ (p : Addr) (ns : List Int), xs = [.ref p] ∧ H p = some (.lst (ns.map V.int)) ∧ 0 < ns.length ∧ ∀ M, M ∈ ns → (∀ a ∈ ns, a ≤ M) → Q (.int M) H) := by
  intro pins s σ H xs us Q I r h
  obtain ⟨p, ns, rfl, hH, hne, q⟩ := h
  obtain ⟨u, rfl, ru⟩ := vals1 r
  cases ru
  obtain ⟨z, its, n, rv, hl, e⟩ := I.lstM hH
  have hi : IntsAre its ns := intsAre_of rv
  obtain ⟨ys, ey⟩ := hi.allInts.items
  have hns : ns = ys.toList.map (·.1) := by rw [← hi.numsOf, ← nums_intItems, ← ey]
  have hsz : 0 < ys.size := by
    have h3 := hne; rw [hns, List.length_map, Array.length_toList] at h3; exact h3
  have hL : s.heap.IsList p (intItems ys) := by
    rw [← ey]
    exact ⟨_, e, rfl, ⟨n, rfl⟩⟩
  refine max_intList (I.ok.hd hc) hL hsz fun v h' tk hv hk => ?_
  obtain ⟨t, rfl⟩ := intItems_at hv
  obtain ⟨h1, h2⟩ := argBest_gt (numAt ys) (ys.size - 1)
  refine ⟨.int (numAt ys (argBest (fun i j => decide (numAt ys i > numAt ys j)) (ys.size - 1))), H, I.kept (t' := tk) hk, ⟨_, rfl⟩, q _ ?_ fun a ha => ?_⟩
  · rw [hns, numAt_eq]; exact PySem.getD_mem (by rw [List.length_map, Array.length_toList]; omega)
  · rw [hns] at ha
    obtain ⟨j, hj, rfl⟩ := mem_getD ha
    rw [List.length_map, Array.length_toList] at hj
    rw [← numAt_eq]; exact h2 j (by omega)
section
variable {o i e value : Expr} {pos pos' tpos : Pos} {td ty tv : TE}
theorem qe_dget {k : Nat} (hr : Room k X.A) (ho : QE X o td) (hi : QE X i ty) (hs : NoSl i := by exact fun _ _ => rfl) : QE X (.Subscript o i pos) (tDGet td ty) := ⟨pe_dget (by have := hr.un; omega) ho.h hi.h hs⟩
theorem qs_dputK {k : Nat} (hr : Room k X.A) (ho : QE X o td) (hi : QE X i ty) (hv : QE X value tv) (hs : swapsWith value (some (.Subscript o i pos')) pos.line X.env = pure false := by rfl) :
    QS X (.Assign [.Subscript o i pos'] value pos) (sDPut td ty tv) := ⟨ps_dput (by have := hr.un; omega) ho.h hi.h hv.h hs⟩
end
theorem putK_no {k : Key} {v : V} {kvs : List (Key × V)} (h : k ∉ kvs.map (·.1)) : putK kvs k v = kvs ++ [(k, v)] := by
  unfold putK
  rw [if_neg]
  intro z
  obtain ⟨p, hp, e⟩ := List.any_eq_true.mp z
  exact h (List.mem_map.mpr ⟨p, hp, of_decide_eq_true e⟩)
end L3
namespace L3
open PySem PySem.Spec PyProof.Rows L2
open PySem.W (kdl_dict kdl_extend)
section
variable {prog : Program} {w : World} {A : Around} {E : Value → Shared → Prop} {s : Shared}
theorem collect_dict {d : Addr} {kvs : List (Key × Value)} {ep : Nat} {Q : List Value → Shared → Prop} (hh : A.handled = none) (hm : s.heap.DictAt (mixKind prog w) d kvs ep) (lo : (d == sysModules) = false) (hn : kvs.length ≤ sizeLine)
    (h : ∀ (vs : List Value) (h' : Heap) (tk : Nat), s.heap.objs.size < h'.objs.size → (∀ b o, s.heap.get? b = some o → h'.get? b = some o) → vs.length = kvs.length → (∀ (j : Nat) (v : Value), vs[j]? = some v → ∃ k x, kvs[j]? = some (k, x) ∧ (mixKind prog w).is k v = true) → Q vs { s with heap := h', toks := tk }) :
    wpAny (model prog w) A (collect (.ref d)) Q E s := by
  unfold collect
  refine wpAny_bind (wpAny_runValue (codeAny_builtin entry_proto_collect' ?_))
  show wpAny _ _ (do again (.builtin "list.__iadd__" ⟨[← newList [], .ref d], []⟩)) _ _ s
  refine wpAny_bind (wpAny_newList (wpAny_pure ⟨Code.quiet_builtin _ (by decide +kernel), codeAny_builtin entry_list_iadd' ?_⟩))
  rw [Around.under_plainId PySem.F.plain_list_iadd _]
  have hlt : d < s.heap.objs.size := hm.lt_size
  refine kdl_extend (s := { s with heap := s.heap.push (seqObj "list" #[] 0) }) (R := fun r s' => match r with
      | .ok (.ret v) => wpAny (model prog w) A (match v with
        | .ref a => (do
          let o ← load a
          match o.data with
          | .seq xs _ => pure xs.toList
          | _ => unsupported "internal:collect")
        | _ => unsupported "internal:collect") Q E s'
      | .ok _ => False
      | .error e => E e s') (kdl_dict (knd := mixKind prog w) (ep := ep) (kvs := kvs) lo) hh (hm.push _) s.heap.objs.size (Nat.ne_of_gt hlt) (Nat.ne_of_gt hlt) _ 0 (Heap.get?_push_size _ rfl) (fun h' tk acc' c' hk hS hI => ?_) hn
  show wpAny (model prog w) A (do
      let o ← load s.heap.objs.size
      match o.data with
      | .seq xs _ => pure xs.toList
      | _ => unsupported "internal:collect") Q E { s with heap := h', toks := tk }
  refine wpAny_bind (wpAny_load hS ?_)
  refine wpAny_pure (h acc'.toList h' tk (Heap.lt_size hS) (fun b o e => hk b o (Nat.ne_of_lt (Heap.lt_size e)) (Heap.get?_push_of_some _ e)) (by rw [Array.length_toList]; exact hI.1) fun j v e => hI.2 j v (by rw [← Array.getElem?_toList]; exact e))
theorem strs_at : ∀ {us : List Value} {ss : List Str}, us.length = ss.length → (∀ (j : Nat) (v : Value), us[j]? = some v → ∃ x t, ss[j]? = some x ∧ v = .str x t) → StrsAre us ss
  | [], [], _, _ => .nil
  | u :: us, x :: ss, hl, h => by
    obtain ⟨y, t, e1, e2⟩ := h 0 u rfl
    cases e1
    subst e2
    exact .cons _ _ (strs_at (Nat.succ.inj hl) fun j v e => h (j + 1) v e)
  | [], _ :: _, hl, _ => by cases hl
  | _ :: _, [], hl, _ => by cases hl
theorem sorted_dict {d : Addr} {kvs : List (Key × Value)} {ep : Nat} {ss : List Str} {Q : Value → Shared → Prop} (hh : A.handled = none) (hm : s.heap.DictAt (mixKind prog w) d kvs ep) (lo : (d == sysModules) = false) (hks : kvs.map (·.1) = ss.map Sum.inr) (h64 : ss.length < 64)
    (h : ∀ (h' : Heap) (tk : Nat) (l : Addr) (its : List Value) (n : Nat) (ss' : List Str), s.heap.objs.size ≤ l → (∀ b o, s.heap.get? b = some o → h'.get? b = some o) → h'.get? l = some (seqObj "list" its.toArray n) → StrsAre its ss' → ss'.Perm ss → sortedS ss' = true → Q (.ref l) { s with heap := h', toks := tk }) :
    wpAny (model prog w) A (call (.builtin "sorted") [.ref d]) Q E s := by
  have hlen : kvs.length = ss.length := by have := congrArg List.length hks; rwa [List.length_map, List.length_map] at this
  refine Calls.call_function_entry kind_sorted plain_sorted entry_sorted (args_sorted1 _) ?_
  unfold Builtin.«sorted»
  refine wpAny_bind (m := checkCount "sorted" 1 1 _) (wpAny_pure ?_)
  refine wpAny_bind (collect_dict (ep := ep) (kvs := kvs) hh hm lo (by rw [sizeLine_eq]; omega) fun us h' tk hlt hk hl hv => ?_)
  have hS : StrsAre us ss := strs_at (hl.trans hlen) fun j v e => by
    obtain ⟨k, x, e1, e2⟩ := hv j v e
    have e3 : (kvs.map (·.1))[j]? = some k := by rw [List.getElem?_map, e1]; rfl
    rw [hks, List.getElem?_map] at e3
    cases e4 : ss[j]? with
    | none => rw [e4] at e3; cases e3
    | some y =>
      rw [e4] at e3
      have e5 : Sum.inr y = k := Option.some.inj e3
      subst e5
      have e6 : Value.isStrOf y v = true := e2
      cases v <;> simp [Value.isStrOf] at e6
      subst e6
      exact ⟨_, _, rfl, rfl⟩
  refine wpAny_bind (wpAny_newList ?_)
  have hoL : (h'.push (seqObj "list" us.toArray 0)).get? h'.objs.size = some (seqObj "list" us.toArray 0) := Heap.get?_push_size _ rfl
  show wpAny _ _ _ _ _ { s with heap := h'.push (seqObj "list" us.toArray 0), toks := tk }
  refine wpAny_bind (wpAny_holding (wpAny_call_entry slot_list_sort ⟨_, hoL, rfl⟩ entry_list_sort (list_sort_treeK (κ := PyProof.Rows.strKind) strKind_oneLt hoL hS.keysOf (fun v₁ v₂ rest e => keyKind_strs (by rw [← e]; exact hS)) (by rw [hl, hlen]; exact h64) fun st' a1 a2 => ⟨_, rfl, ?_⟩) (args_list_sort _)))
  obtain ⟨ss', b1, b2, b3⟩ := sorted_out_str hS a1 a2
  obtain ⟨n', hn'⟩ : ∃ n', (sortedHeap (h'.push (seqObj "list" us.toArray 0)) h'.objs.size us ((arrOf st').map (·.2))).get? h'.objs.size = some (seqObj "list" ((arrOf st').map (·.2)) n') := sortedHeap_at hoL
  refine wpAny_pure ⟨_, rfl, h _ tk h'.objs.size ((arrOf st').map (·.2)).toList n' ss' (Nat.le_of_lt hlt) (fun b o e => ?_) (by rw [hn']) b1 b2 b3⟩
  have e' := hk b o e
  have hb : b < h'.objs.size := Heap.lt_size e'
  rw [sortedHeap_old (Nat.ne_of_lt hb) (by rw [Heap.size_push]; exact Nat.lt_succ_of_lt hb)]
  exact Heap.get?_push_of_some _ e'
end
theorem vals_strs : ∀ {us : List Value} {ss : List Str}, StrsAre us ss → Vals (ss.map V.str) us
  | [], [], .nil => .nil
  | _, _ :: _, .cons _ _ t => .cons ⟨_, rfl⟩ (vals_strs t)
theorem call_sortedD {X : Cx} (hc : X.calm = true) : CallR X (.builtin "sorted") (fun xs H Q => ∃ (d : Addr) (kvs : List (Key × V)) (ss : List Str), xs = [.ref d] ∧ H d = some (.dK kvs) ∧ kvs.map (·.1) = ss.map Sum.inr ∧ ss.length < 64 ∧
    ∀ l ss', H l = none → ss'.Perm ss → sortedS ss' = true → Q (.ref l) (upd H l (.lst (ss'.map V.str)))) := by
  intro pins s σ H xs us Q I r h
  obtain ⟨d, kvs, ss, rfl, hH, hks, h64, q⟩ := h
  obtain ⟨u, rfl, ru⟩ := vals1 r
  cases ru
  obtain ⟨z, lo, vs, rel, o, es, ep, d1, d2, d3, d4, d5, d6⟩ := dk_of I.hok hH
  have hks' : vs.map (·.1) = ss.map Sum.inr := by rw [← hks, rel.keys]
  refine sorted_dict (I.ok.hd hc) (⟨o, es, d1, d2, d3, d4, d5, d6⟩ : s.heap.DictAt (mixKind X.prog X.w) d vs ep) lo hks' h64 fun h' tk l its n ss' hl hk hL b1 b2 b3 => ?_
  refine ⟨.ref l, _, I.laid (a := l) (o := .lst (ss'.map V.str)) (t' := tk) hk hl ?_, rfl, q l ss' (I.hok.fresh hl) b2 b3⟩
  have vl := vals_strs b1
  refine ⟨?_, its, n, vl, hL⟩
  have := b2.length_eq
  rw [List.length_map, sizeLine_eq]
  omega
end L3
namespace L3
open PySem PySem.Spec PyProof.Rows L2
section
variable {X : Cx} {o e f : Expr} {apos cpos pos : Pos} {td ty tx : TE}
theorem qe_dget1 {k : Nat} (hr : Room k X.A) (ho : QE X o td) (ha : QE X e ty) (m : M1 X o "get" apos e cpos := by exact ⟨rfl, rfl, rfl, rfl⟩) : QE X (.Call (.Attribute o "get" apos) [e] [] cpos) (tDGet1 td ty) := ⟨pe_dget1 (by have := hr.un; omega) ho.h ha.h m⟩
theorem qe_dnewK : QE X (.Dict [] [] pos) tDNewK := ⟨pe_dnewK⟩
theorem qt_din {k : Nat} (hr : Room k X.A) (hi : QE X e ty) (ho : QE X o td) (h1 : behindInMarks CmpOp.In o = false := by rfl) : QT X (.Compare e [.In] [o] pos) (tTest (tDIn ty td)) := ⟨pt_cmp (pc_din (by have := hr.un; omega) hi.h ho.h) (h1 := h1)⟩
end
structure Kb where
  age : Int
  last : Int
  wt : Option (Int × Int)
abbrev Kw := List (Str × Kb)
def Wt (H : Hp) (v : V) : Option (Int × Int) → Prop
  | none => v = .non
  | some (x, c) => ∃ w, v = .ref w ∧ H w = some (.tup [.int x, .int c])
def BuAt (H : Hp) (a : Addr) (e : Kb) : Prop := ∃ v, H a = some (.tup [.int e.age, .int e.last, v]) ∧ Wt H v e.wt
def knD (kn : Kw) (f : Str → Addr) : List (Key × V) := kn.map fun e => (Sum.inr e.1, V.ref (f e.1))
def KnAt (H : Hp) (d : Addr) (kn : Kw) : Prop := ∃ f : Kw × (Str → Addr), H d = some (.dK (knD f.1 f.2)) ∧ (∀ e ∈ kn, BuAt H (f.2 e.1) e.2) ∧ f.1.Perm kn ∧ (kn.map (·.1)).Nodup
def putN (kn : Kw) (nm : Str) (e : Kb) : Kw := if nm ∈ kn.map (·.1) then kn.map (fun p => if p.1 = nm then (nm, e) else p) else kn ++ [(nm, e)]
theorem Mv.tup {S : List Addr} {H H' : Hp} {a : Addr} {xs : List V} (m : Mv S H H') (n : NT S H) (h : H a = some (.tup xs)) : H' a = some (.tup xs) := m _ _ (fun z => by
  obtain ⟨o, e, no⟩ := n a z
  rw [e] at h; cases h; exact no) h
theorem Wt.mv {S : List Addr} {H H' : Hp} {v : V} {o : Option (Int × Int)} (m : Mv S H H') (n : NT S H) (h : Wt H v o) : Wt H' v o := by
  cases o with
  | none => exact h
  | some p => obtain ⟨w, e, r⟩ := h; exact ⟨w, e, m.tup n r⟩
theorem BuAt.mv {S : List Addr} {H H' : Hp} {a : Addr} {e : Kb} (m : Mv S H H') (n : NT S H) (h : BuAt H a e) : BuAt H' a e := let ⟨v, r, w⟩ := h; ⟨v, m.tup n r, w.mv m n⟩
theorem BuAt.same {H H' : Hp} {a : Addr} {e : Kb} (s : Same H H') (h : BuAt H a e) : BuAt H' a e := h.mv (S := []) s.mv (fun c h => nomatch h)
theorem KnAt.mv {S : List Addr} {H H' : Hp} {d : Addr} {kn : Kw} (m : Mv S H H') (n : NT S H) (hd : d ∉ S) (h : KnAt H d kn) : KnAt H' d kn := let ⟨f, r, w, p⟩ := h; ⟨f, m _ _ hd r, fun e he => (w e he).mv m n, p⟩
theorem valV_kn (f : Str → Addr) (nm : Str) : ∀ kn : Kw, valV (knD kn f) (Sum.inr nm : Key) = (kn.lookup nm).map fun _ => V.ref (f nm)
  | [] => rfl
  | (m, e) :: r => by
    show valV ((Sum.inr m, V.ref (f m)) :: knD r f) (Sum.inr nm) = _
    by_cases q : m = nm
    · subst q
      rw [valV_pos rfl, List.lookup_cons_self]; rfl
    · rw [valV_neg (by intro z; injection z with z; exact q z), List.lookup_cons, beq_false_of_ne (fun z => q z.symm)]
      exact valV_kn f nm r
theorem lookup_mem {nm : Str} {e : Kb} : ∀ {kn : Kw}, kn.lookup nm = some e → (nm, e) ∈ kn
  | (m, x) :: r, h => by
    rw [List.lookup_cons] at h
    by_cases q : nm = m
    · subst q
      rw [beq_self_eq_true] at h
      cases h
      exact List.mem_cons_self ..
    · rw [beq_false_of_ne q] at h
      exact List.mem_cons_of_mem _ (lookup_mem h)
theorem lookup_mem_iff {nm : Str} : ∀ {kn : Kw}, (kn.lookup nm).isSome = true ↔ nm ∈ kn.map (·.1)
  | [] => by simp
  | (m, x) :: r => by
    rw [List.lookup_cons, List.map_cons, List.mem_cons]
    by_cases q : nm = m
    · subst q; simp
    · rw [beq_false_of_ne q]
      simp only [q, false_or]
      exact lookup_mem_iff
theorem putN_keys (kn : Kw) (nm : Str) (e : Kb) : (putN kn nm e).map (·.1) = if nm ∈ kn.map (·.1) then kn.map (·.1) else kn.map (·.1) ++ [nm] := by
  unfold putN
  split
  · rw [List.map_map]
    refine List.map_congr_left fun p hp => ?_
    simp only [Function.comp]
    by_cases y : p.1 = nm
    · rw [if_pos y, y]
    · rw [if_neg y]
  · rw [List.map_append]; rfl
theorem putN_len (kn : Kw) (nm : Str) (e : Kb) : (putN kn nm e).length ≤ kn.length + 1 := by
  have := congrArg List.length (putN_keys kn nm e)
  rw [List.length_map] at this
  rw [this]
  split
  · rw [List.length_map]; omega
  · rw [List.length_append, List.length_map]; exact Nat.le_refl _
theorem putN_nd {kn : Kw} (nd : (kn.map (·.1)).Nodup) (nm : Str) (e : Kb) : ((putN kn nm e).map (·.1)).Nodup := by
  rw [putN_keys]
  split
  · exact nd
  · rename_i z
    exact List.nodup_append.mpr ⟨nd, by simp, fun a ha b hb => by rw [List.mem_singleton.mp hb]; exact fun w => z (w ▸ ha)⟩
theorem lookup_uniq {nm : Str} {e : Kb} : ∀ {kn : Kw}, (kn.map (·.1)).Nodup → kn.lookup nm = some e → ∀ p ∈ kn, p.1 = nm → p = (nm, e)
  | [], _, h, _, hp, _ => by cases hp
  | (m, x) :: r, nd, h, p, hp, hn => by
    have nd' : m ∉ r.map (·.1) ∧ (r.map (·.1)).Nodup := List.nodup_cons.mp nd
    rw [List.lookup_cons] at h
    by_cases q : nm = m
    · subst q
      rw [beq_self_eq_true] at h
      cases h
      rcases List.mem_cons.mp hp with rfl | hp
      · rfl
      · exact absurd (List.mem_map.mpr ⟨p, hp, hn⟩) nd'.1
    · rw [beq_false_of_ne q] at h
      rcases List.mem_cons.mp hp with rfl | hp
      · exact absurd hn.symm q
      · exact lookup_uniq nd'.2 h p hp hn
theorem lookup_perm {k0 kn : Kw} (pm : k0.Perm kn) (nd : (kn.map (·.1)).Nodup) (nm : Str) : k0.lookup nm = kn.lookup nm := by
  cases e : k0.lookup nm with
  | none =>
    cases e' : kn.lookup nm with
    | none => rfl
    | some x =>
      have : (k0.lookup nm).isSome = true := lookup_mem_iff.mpr ((pm.map (·.1)).mem_iff.mpr (lookup_mem_iff.mp (by rw [e']; rfl)))
      rw [e] at this; cases this
  | some x =>
    obtain ⟨y, hy⟩ : ∃ y, kn.lookup nm = some y := Option.isSome_iff_exists.mp (lookup_mem_iff.mpr (List.mem_map.mpr ⟨_, pm.mem_iff.mp (lookup_mem e), rfl⟩))
    rw [hy]
    have := lookup_uniq nd hy _ (pm.mem_iff.mp (lookup_mem e)) rfl
    cases this
    rfl
theorem KnAt.get {H : Hp} {d : Addr} {kn : Kw} (h : KnAt H d kn) (nm : Str) : (kn.lookup nm = none ∧ DGet H d (.str nm) none) ∨ ∃ e a, kn.lookup nm = some e ∧ DGet H d (.str nm) (some (.ref a)) ∧ BuAt H a e := by
  obtain ⟨⟨k0, f⟩, hd, hb, pm, nd⟩ := h
  have g := DGet.k (k := Sum.inr nm) hd
  rw [valV_kn, lookup_perm pm nd] at g
  cases q : kn.lookup nm with
  | none => rw [q] at g; exact .inl ⟨rfl, g⟩
  | some e => rw [q] at g; exact .inr ⟨e, f nm, rfl, g, hb _ (lookup_mem q)⟩
theorem putN_perm {k0 kn : Kw} (pm : k0.Perm kn) (nm : Str) (e : Kb) : (putN k0 nm e).Perm (putN kn nm e) := by
  unfold putN
  by_cases z : nm ∈ kn.map (·.1)
  · rw [if_pos ((pm.map (·.1)).mem_iff.mpr z), if_pos z]; exact pm.map _
  · rw [if_neg (fun w => z ((pm.map (·.1)).mem_iff.mp w)), if_neg z]; exact pm.append_right _
theorem KnAt.put {H : Hp} {d a : Addr} {kn : Kw} {e : Kb} (h : KnAt H d kn) (nm : Str) (hl : kn.length ≤ 100) (hb : BuAt H a e) : ∃ H', DPut H d (.str nm) (.ref a) H' ∧ Mv [d] H H' ∧ KnAt H' d (putN kn nm e) := by
  obtain ⟨⟨k0, f⟩, hd, hk0, pm, nd⟩ := h
  have hlen : (knD k0 f).length = kn.length := (List.length_map _).trans pm.length_eq
  have hk : ∀ e ∈ k0, BuAt H (f e.1) e.2 := fun e he => hk0 e (pm.mem_iff.mp he)
  refine ⟨_, DPut.k (k := Sum.inr nm) hd (by rw [hlen]; exact small _), Mv.upd1, (putN k0 nm e, fun n => if n = nm then a else f n), ?_, ?_, putN_perm pm nm e, putN_nd nd nm e⟩
  · rw [upd_same]
    congr 2
    unfold putK putN knD
    have ea : ((k0.map fun e => ((Sum.inr e.1 : Key), V.ref (f e.1))).any fun kv => decide (kv.1 = (Sum.inr nm : Key))) = true ↔ nm ∈ k0.map (·.1) := by
      rw [List.any_eq_true]
      constructor
      · rintro ⟨p, hp, z⟩
        obtain ⟨q, hq, rfl⟩ := List.mem_map.mp hp
        have z' : (Sum.inr q.1 : Key) = Sum.inr nm := of_decide_eq_true z
        injection z' with z'
        exact List.mem_map.mpr ⟨q, hq, z'⟩
      · intro z
        obtain ⟨q, hq, e⟩ := List.mem_map.mp z
        exact ⟨_, List.mem_map.mpr ⟨q, hq, rfl⟩, decide_eq_true (by rw [e])⟩
    by_cases z : nm ∈ k0.map (·.1)
    · rw [if_pos (ea.mpr z), if_pos z, List.map_map, List.map_map]
      refine List.map_congr_left fun p hp => ?_
      simp only [Function.comp]
      by_cases y : p.1 = nm
      · rw [if_pos (by rw [y]), if_pos y]
        simp [y]
      · rw [if_neg (by intro w; injection w with w; exact y w), if_neg y]
        simp [y]
    · rw [if_neg (fun w => z (ea.mp w)), if_neg z, List.map_append]
      congr 1
      · refine List.map_congr_left fun p hp => ?_
        have y : ¬ p.1 = nm := fun w => z (List.mem_map.mpr ⟨p, hp, w⟩)
        simp [y]
      · simp
  · have nt : NT [d] H := NT.one hd trivial
    intro p hp
    have hp := (putN_perm pm nm e).mem_iff.mpr hp
    have hb' := hb.mv (Mv.upd1 (o := .dK (putK (knD k0 f) (Sum.inr nm) (.ref a)))) nt
    unfold putN at hp
    split at hp
    · obtain ⟨q, hq, rfl⟩ := List.mem_map.mp hp
      by_cases y : q.1 = nm
      · rw [if_pos y]; simp only [if_true]; exact hb'
      · rw [if_neg y]
        show BuAt _ (if q.1 = nm then a else f q.1) q.2
        rw [if_neg y]
        exact (hk q hq).mv Mv.upd1 nt
    · rename_i z
      rcases List.mem_append.mp hp with hq | hq
      · have y : ¬ p.1 = nm := fun w => z (List.mem_map.mpr ⟨p, hq, w⟩)
        show BuAt _ (if p.1 = nm then a else f p.1) p.2
        rw [if_neg y]
        exact (hk p hq).mv Mv.upd1 nt
      · rw [List.mem_singleton.mp hq]; simp only [if_true]; exact hb'
def KsAt (K : PySem.W.Frag) (H : Hp) (hk : Addr) (kss : List (List Int)) : Prop := ∃ as : List Addr, H hk = some (.lst (as.map V.ref)) ∧ as.length = kss.length ∧ ∀ (i : Nat) (a : Addr) (ks : List Int), as[i]? = some a → kss[i]? = some ks → SqT K H a (ks.map V.int)
theorem KsAt.mv {K : PySem.W.Frag} {S : List Addr} {H H' : Hp} {hk : Addr} {kss : List (List Int)} (m : Mv S H H') (n : NT S H) (hd : hk ∉ S) (h : KsAt K H hk kss) : KsAt K H' hk kss := let ⟨as, e, l, r⟩ := h; ⟨as, m _ _ hd e, l, fun i a ks e1 e2 => m.sqt n (r i a ks e1 e2)⟩
structure Dr where
  t : List Int
  kss : List (List Int)
  near : Int
  far : Int
  most : Int
  least : Int
  kn : Kw
def dF (D : Dr) (ta hk bd lg : Addr) : List (Str × V) :=
  [("table", .ref ta), ("house_keys", .ref hk), ("near", .int D.near), ("far", .int D.far), ("most", .int D.most), ("least_age", .int D.least), ("buttons", .ref bd), ("log", .ref lg)]
def dN : List Str := ["table", "house_keys", "near", "far", "most", "least_age", "buttons", "log"]
theorem dN_nd : dN.Nodup := by decide +kernel
theorem dF_nd (D : Dr) (ta hk bd lg : Addr) : ((dF D ta hk bd lg).map (·.1)).Nodup := dN_nd
structure DCx (K : PySem.W.Frag) (C : Addr) : Prop where
  cl : Cls K C
  n_table : NoAttr K C "table"
  n_house_keys : NoAttr K C "house_keys"
  n_near : NoAttr K C "near"
  n_far : NoAttr K C "far"
  n_most : NoAttr K C "most"
  n_least_age : NoAttr K C "least_age"
  n_buttons : NoAttr K C "buttons"
  n_log : NoAttr K C "log"
structure DoorAt (K : PySem.W.Frag) (C : Addr) (H : Hp) (p ta hk bd lg : Addr) (n : Nat) (D : Dr) : Prop where
  ob : ∃ dx, H p = some (.ins C dx (dF D ta hk bd lg))
  tb : SqT K H ta (D.t.map V.int)
  ks : KsAt K H hk D.kss
  kb : KnAt H bd D.kn
  lo : ∃ rs : List Addr, H lg = some (.lst (rs.map V.ref)) ∧ rs.length ≤ n
  ne : lg ≠ hk
section
variable {K : PySem.W.Frag} {C : Addr} {H H' : Hp} {p ta hk bd lg dx : Addr} {n : Nat} {D : Dr}
theorem DoorAt.has (b : DoorAt K C H p ta hk bd lg n D) (U : DCx K C) (i : Nat) {f : Str} {v : V} (h : (dF D ta hk bd lg)[i]? = some (f, v)) (na : NoAttr K C f) : HasF K H p f v := by
  obtain ⟨dx, e⟩ := b.ob
  exact ⟨C, dx, _, e, U.cl, na, lookup_at i h (dF_nd ..)⟩
theorem DoorAt.h_table (b : DoorAt K C H p ta hk bd lg n D) (U : DCx K C) : HasF K H p "table" (.ref ta) := b.has U 0 rfl U.n_table
theorem DoorAt.h_house_keys (b : DoorAt K C H p ta hk bd lg n D) (U : DCx K C) : HasF K H p "house_keys" (.ref hk) := b.has U 1 rfl U.n_house_keys
theorem DoorAt.h_near (b : DoorAt K C H p ta hk bd lg n D) (U : DCx K C) : HasF K H p "near" (.int D.near) := b.has U 2 rfl U.n_near
theorem DoorAt.h_far (b : DoorAt K C H p ta hk bd lg n D) (U : DCx K C) : HasF K H p "far" (.int D.far) := b.has U 3 rfl U.n_far
theorem DoorAt.h_most (b : DoorAt K C H p ta hk bd lg n D) (U : DCx K C) : HasF K H p "most" (.int D.most) := b.has U 4 rfl U.n_most
theorem DoorAt.h_least_age (b : DoorAt K C H p ta hk bd lg n D) (U : DCx K C) : HasF K H p "least_age" (.int D.least) := b.has U 5 rfl U.n_least_age
theorem DoorAt.h_buttons (b : DoorAt K C H p ta hk bd lg n D) (U : DCx K C) : HasF K H p "buttons" (.ref bd) := b.has U 6 rfl U.n_buttons
theorem DoorAt.h_log (b : DoorAt K C H p ta hk bd lg n D) (U : DCx K C) : HasF K H p "log" (.ref lg) := b.has U 7 rfl U.n_log
theorem DoorAt.no (b : DoorAt K C H p ta hk bd lg n D) {m : Str} (h : m ∉ dN := by decide +kernel) : NoF C H p m := by
  obtain ⟨dx, e⟩ := b.ob
  exact ⟨dx, _, e, lookup_no h⟩
theorem DoorAt.mv {S : List Addr} (b : DoorAt K C H p ta hk bd lg n D) (m : Mv S H H') (nt : NT S H) (hp : p ∉ S) (hh : hk ∉ S) (hb : bd ∉ S) (hl : lg ∉ S) : DoorAt K C H' p ta hk bd lg n D := by
  obtain ⟨dx, e⟩ := b.ob
  obtain ⟨rs, el, l⟩ := b.lo
  exact ⟨⟨dx, m _ _ hp e⟩, m.sqt nt b.tb, b.ks.mv m nt hh, b.kb.mv m nt hb, ⟨rs, m _ _ hl el, l⟩, b.ne⟩
theorem DoorAt.same (b : DoorAt K C H p ta hk bd lg n D) (s : Same H H') : DoorAt K C H' p ta hk bd lg n D := b.mv (S := []) s.mv (fun c h => nomatch h) (fun h => nomatch h) (fun h => nomatch h) (fun h => nomatch h) (fun h => nomatch h)
theorem DoorAt.mono {n' : Nat} (b : DoorAt K C H p ta hk bd lg n D) (h : n ≤ n') : DoorAt K C H p ta hk bd lg n' D := ⟨b.ob, b.tb, b.ks, b.kb, let ⟨rs, e, l⟩ := b.lo; ⟨rs, e, by omega⟩, b.ne⟩
end
end L3
namespace L3
open PySem PySem.Spec PyProof.Rows L2
def rEqW : R2 := fun x y H Q => ∃ (o : Option (Int × Int)) (b : Addr) (a c : Int), Wt H x o ∧ y = .ref b ∧ Rd H b (.tup [.int a, .int c]) ∧ Q (.bl (decide (o = some (a, c)))) H
theorem op_eqW {X : Cx} {k : Nat} (hr : Room k X.A) : OpR X (compareOp .Eq) rEqW := by
  intro pins s σ H x y v u Q I rx ry h
  obtain ⟨o, b, a, c, hw, rfl, hb, q⟩ := h
  cases ry
  obtain ⟨its2, r2, p2, _⟩ := I.tuple (.inl hb)
  have hu : X.A.units < cLine := by have := hr.un; omega
  cases o with
  | none =>
    have hw' : x = .non := hw
    subst hw'
    cases rx
    rw [decide_eq_false (by intro z; cases z)] at q
    exact SeqAt.RcAt.none_tuple p2 hu _ _ _ _ ⟨.bl false, H, I, rfl, q⟩
  | some pr =>
    obtain ⟨x1, x2⟩ := pr
    obtain ⟨w, rfl, hw'⟩ := hw
    cases rx
    obtain ⟨its, r1, p1, _⟩ := I.tuple (.inl (.inl hw'))
    have l1 := r1.length
    have l2 := r2.length
    have e1 := SeqAt.RcAt.tuples (A := X.A) (e := fun j => [x1, x2].getD j 0 == [a, c].getD j 0) (show s.heap.IsTuple w its.toArray from p1) (show s.heap.IsTuple b its2.toArray from p2) hu (fun j h1 h2 => by
      have h1' : j < its.length := by simpa using h1
      have h2' : j < its2.length := by simpa using h2
      obtain ⟨t, e⟩ := vals_ix (ns := [x1, x2]) r1 j h1' (by rw [← l1] at h1'; exact h1')
      obtain ⟨t', e'⟩ := vals_ix (ns := [a, c]) r2 j h2' (by rw [← l2] at h2'; exact h2')
      simp only [List.getElem_toArray, e, e', List.getD_eq_getElem?_getD, List.getElem?_eq_getElem (show j < [x1, x2].length by rw [← l1] at h1'; exact h1'), List.getElem?_eq_getElem (show j < [a, c].length by rw [← l2] at h2'; exact h2'), Option.getD_some]
      exact SeqAt.EqAt.int_int _ _ _ _)
    have z1 : its.toArray.size = 2 := by rw [List.size_toArray, ← l1]; rfl
    have z2 : its2.toArray.size = 2 := by rw [List.size_toArray, ← l2]; rfl
    refine e1 _ _ _ _ ⟨.bl _, H, I, ?_, q⟩
    show Value.bool _ = Value.bool _
    congr 1
    rw [z1, z2, show min 2 2 = ([x1, x2] : List Int).length from rfl, all_ints [x1, x2] [a, c] rfl]
    simp
def wordJ (c l n f : Int) : Str := if c ≤ l then "old" else if c ≤ l + n then "near" else if c ≤ l + f then "far" else "beyond"
def spWordJ : Sp := fun vs H Q _ => ∃ c l n f : Int, vs = [.int c, .int l, .int n, .int f] ∧ Q (.str (wordJ c l n f)) H
def stepJ (near far : Int) (e : Kb) (age c : Int) : Str × Kb :=
  if c ≤ e.last then ("old", e) else if c ≤ e.last + near then ("near", ⟨age, c, none⟩)
  else if c ≤ e.last + far then (if e.wt = some (age, c - 1) then ("near", ⟨age, c, none⟩) else ("far", ⟨e.age, e.last, some (age, c)⟩)) else ("beyond", e)
def spStepJ : Sp := fun vs H Q _ => ∃ (a : Addr) (e : Kb) (age c near far : Int), vs = [.ref a, .int age, .int c, .int near, .int far] ∧ BuAt H a e ∧
  ∀ q a' H', Same H H' → H' q = some (.tup [.str (stepJ near far e age c).1, .ref a']) → BuAt H' a' (stepJ near far e age c).2 → Q (.ref q) H'
def takesJ (D : Dr) (age : Int) : Bool := decide (D.least ≤ age) && decide (age < D.kss.length)
def takesB (D : Dr) (e : Kb) (age : Int) : Bool := takesJ D age && decide (e.age ≤ age)
def hearJ (D : Dr) (nm : Str) (age : Int) (r : Option (Int × Int)) : List V × Kw :=
  match D.kn.lookup nm with
  | none => ([.str "held", .str "unknown"], D.kn)
  | some e => if takesB D e age = true then (match r with
      | none => ([.str "held", .str "false"], D.kn)
      | some (c, d) => if (stepJ D.near D.far e age c).1 = "near" then ([.str "open", .str nm, .int d], putN D.kn nm (stepJ D.near D.far e age c).2) else ([.str "held", .str (stepJ D.near D.far e age c).1], putN D.kn nm (stepJ D.near D.far e age c).2))
    else ([.str "held", .str "age"], D.kn)
structure DrOk (D : Dr) : Prop where
  tp : D.t.Perm digs
  l0 : 0 ≤ D.least
  kl : D.kss.length ≤ 8
  nl : D.kn.length ≤ 60
  nd : (D.kn.map (·.1)).Nodup
section
variable (K : PySem.W.Frag) (C : Addr)
def spDInit : Sp := fun vs H Q _ => ∃ (p a b dx : Addr) (near far most : Int) (t : List Int) (kss : List (List Int)), vs = [.ref p, .ref a, .ref b, .int near, .int far, .int most] ∧ H p = some (.ins C dx []) ∧ Sq K H a (t.map V.int) ∧ KsAt K H b kss ∧ kss.length ≤ 8 ∧
  ∀ ta hk bd lg H', H hk = none → H bd = none → H lg = none → Mv [p] H H' → DoorAt K C H' p ta hk bd lg 0 ⟨t, kss, near, far, most, 0, []⟩ → Q .non H'
def spDFull : Sp := fun vs H Q _ => ∃ (p ta hk bd lg : Addr) (n : Nat) (D : Dr), vs = [.ref p] ∧ DoorAt K C H p ta hk bd lg n D ∧ Q (.bl (decide (D.most ≤ (D.kn.length : Int)))) H
def spDTakes : Sp := fun vs H Q _ => ∃ (p ta hk bd lg : Addr) (n : Nat) (D : Dr) (age : Int), vs = [.ref p, .int age] ∧ DoorAt K C H p ta hk bd lg n D ∧ Q (.bl (takesJ D age)) H
def spDFrom : Sp := fun vs H Q _ => ∃ (p ta hk bd lg a : Addr) (n : Nat) (D : Dr) (e : Kb) (age : Int), vs = [.ref p, .ref a, .int age] ∧ DoorAt K C H p ta hk bd lg n D ∧ BuAt H a e ∧ Q (.bl (takesB D e age)) H
def spDOf : Sp := fun vs H Q _ => ∃ (p ta hk bd lg : Addr) (n : Nat) (D : Dr) (nm : Str), vs = [.ref p, .str nm] ∧ DoorAt K C H p ta hk bd lg n D ∧
  (D.kn.lookup nm = none → Q .non H) ∧ (∀ e a, D.kn.lookup nm = some e → BuAt H a e → Q (.ref a) H)
def spDStep : Sp := fun vs H Q _ => ∃ (p ta hk bd lg a : Addr) (n : Nat) (D : Dr) (e : Kb) (age c : Int), vs = [.ref p, .ref a, .int age, .int c] ∧ DoorAt K C H p ta hk bd lg n D ∧ BuAt H a e ∧ takesB D e age = true ∧
  ∀ q a' H', Same H H' → H' q = some (.tup [.str (stepJ D.near D.far e age c).1, .ref a']) → BuAt H' a' (stepJ D.near D.far e age c).2 → Q (.ref q) H'
def PrAt (H : Hp) (pr : Addr) (nm : Str) (age : Int) (ds : List Int) : Prop := ∃ pc, H pr = some (.tup [.str nm, .int age, .ref pc]) ∧ H pc = some (.tup (ds.map V.int))
def keyA (D : Dr) (age : Int) : List Int := D.kss.getD age.toNat []
def spDAnswer : Sp := fun vs H Q _ => ∃ (p ta hk bd lg pr : Addr) (n : Nat) (D : Dr) (nm : Str) (age : Int) (ds : List Int), vs = [.ref p, .ref pr] ∧ DoorAt K C H p ta hk bd lg n D ∧ DrOk D ∧ PrAt H pr nm age ds ∧ isNm nm ∧ ds.length = 5 ∧ digR ds ∧
  ∀ q H', Mv [bd] H H' → H' q = some (.tup (hearJ D nm age (readK D.t (keyA D age) nm ds)).1) → DoorAt K C H' p ta hk bd lg n { D with kn := (hearJ D nm age (readK D.t (keyA D age) nm ds)).2 } → Q (.ref q) H'
def spDHear : Sp := fun vs H Q _ => ∃ (p ta hk bd lg pr : Addr) (n : Nat) (D : Dr) (nm : Str) (age : Int) (ds : List Int), vs = [.ref p, .ref pr] ∧ DoorAt K C H p ta hk bd lg n D ∧ n ≤ 1000 ∧ DrOk D ∧ PrAt H pr nm age ds ∧ isNm nm ∧ ds.length = 5 ∧ digR ds ∧
  ∀ q H', Mv [bd, lg] H H' → H' q = some (.tup (hearJ D nm age (readK D.t (keyA D age) nm ds)).1) → DoorAt K C H' p ta hk bd lg (n + 1) { D with kn := (hearJ D nm age (readK D.t (keyA D age) nm ds)).2 } → Q (.ref q) H'
end
theorem PrAt.mv {S : List Addr} {H H' : Hp} {pr : Addr} {nm : Str} {age : Int} {ds : List Int} (m : Mv S H H') (n : NT S H) (h : PrAt H pr nm age ds) : PrAt H' pr nm age ds := let ⟨pc, e1, e2⟩ := h; ⟨pc, m.tup n e1, m.tup n e2⟩
theorem PrAt.same {H H' : Hp} {pr : Addr} {nm : Str} {age : Int} {ds : List Int} (s : Same H H') (h : PrAt H pr nm age ds) : PrAt H' pr nm age ds := let ⟨pc, e1, e2⟩ := h; ⟨pc, s _ _ e1, s _ _ e2⟩
theorem op_le_str {X : Cx} : OpR X (compareOp .LtE) (fun x y H Q => ∃ i j, x = .str i ∧ y = .str j ∧ Q (.bl (!decide (j.cps.toList < i.cps.toList))) H) := by
  intro pins s σ H x y v u Q I rx ry h
  obtain ⟨i, j, rfl, rfl, q⟩ := h
  obtain ⟨t, rfl⟩ := rx
  obtain ⟨t', rfl⟩ := ry
  exact PySem.P.le_str (fin_bl I q rfl)
theorem comp_str {js : List Nat} {te : TE} {σ : L2.St} {H : Hp} {Q : VK} {x : Str} (hn : x.cps.size ≤ sizeLine) (Pv : Nat → List V → Hp → Prop) (h0 : Pv 0 [] H)
    (hs : ∀ i ys H c, x.cps[i]? = some c → ys.length = i → Pv i ys H → te (some (.str ⟨#[c]⟩) :: frees js σ) H fun v H3 => Pv (i + 1) (ys ++ [v]) H3)
    (hd : ∀ ys H, ys.length = x.cps.size → Pv x.cps.size ys H → ∀ p, H p = none → Q (.ref p) (upd H p (.lst ys))) : CompW (Its x) js te σ H Q :=
  comp_gen hn (fun i v => ∃ c, x.cps[i]? = some c ∧ v = .str ⟨#[c]⟩) Pv h0 (fun i ys H hi p => hi) (fun ys H p => Nat.le_refl _) (fun i ys H v H' _ p y => y) (fun i ys H v hi hl p hx => by
    obtain ⟨c, hc, rfl⟩ := hx
    exact hs i ys H c hc hl p) hd
theorem letter_le {c : Nat} (h : 97 ≤ c ∧ c ≤ 122) : (!decide ((⟨#[c]⟩ : Str).cps.toList < ("a" : Str).cps.toList)) = true ∧ (!decide (("z" : Str).cps.toList < (⟨#[c]⟩ : Str).cps.toList)) = true := by
  have e1 : ("a" : Str).cps.toList = [97] := by decide +kernel
  have e2 : ("z" : Str).cps.toList = [122] := by decide +kernel
  rw [e1, e2]
  constructor
  · rw [decide_eq_false]; · rfl
    show ¬ ([c] : List Nat) < [97]
    rw [List.cons_lt_cons_iff]
    rintro (h' | ⟨_, h'⟩)
    · omega
    · exact absurd h' (List.not_lt_nil _)
  · rw [decide_eq_false]; · rfl
    show ¬ ([122] : List Nat) < [c]
    rw [List.cons_lt_cons_iff]
    rintro (h' | ⟨_, h'⟩)
    · omega
    · exact absurd h' (List.not_lt_nil _)
def spIsName : Sp := fun vs H Q _ => ∃ z, vs = [.str z] ∧ isNm z ∧ ∀ H', Same H H' → Q (.bl true) H'
def spIsCode : Sp := fun vs H Q _ => ∃ (pc : Addr) (ds : List Int), vs = [.ref pc] ∧ H pc = some (.tup (ds.map V.int)) ∧ ds.length = 5 ∧ digR ds ∧ ∀ H', Same H H' → Q (.bl true) H'
def spIsPress : Sp := fun vs H Q _ => ∃ (pr : Addr) (nm : Str) (age : Int) (ds : List Int), vs = [.ref pr] ∧ PrAt H pr nm age ds ∧ isNm nm ∧ ds.length = 5 ∧ digR ds ∧ ∀ H', Same H H' → Q (.bl true) H'
theorem digs_all {ds : List Int} (h : digR ds) : (ds.map V.int).all isDig = true := by
  rw [List.all_eq_true]
  intro x hx
  obtain ⟨i, hi, rfl⟩ := List.mem_map.mp hx
  have := h i hi
  show (decide (0 ≤ i) && decide (i < 16)) = true
  rw [decide_eq_true this.1, decide_eq_true this.2]; rfl
theorem iteD {c : Bool} {a b : Prop} (h : c = true) (x : a) : if c = true then a else b := by rw [if_pos h]; exact x
theorem iteE {c : Bool} {a b : Prop} (h : c = false) (x : b) : if c = true then a else b := by rw [if_neg (by rw [h]; intro z; cases z)]; exact x
theorem put_newD {K : PySem.W.Frag} {C p dx : Addr} {H : Hp} {fs : List (Str × V)} {f : Str} {v : V} (c : Cls K C) (e : H p = some (.ins C dx fs)) (n : NoAttr K C f) (i : Nat) (hns : fs.map (·.1) = dN.take i := by rfl) (hn : f ∉ dN.take i := by decide +kernel) :
    PutF K H p f v (upd H p (.ins C dx (fs ++ [(f, v)]))) := ⟨C, dx, fs, e, c, n, by
    have h1 : fs.length = (dN.take i).length := by rw [← hns, List.length_map]
    have h2 : (dN.take i).length ≤ 8 := by rw [List.length_take]; exact Nat.min_le_right _ _
    omega, by rw [putF_new (by rw [hns]; exact hn)]⟩
theorem call_tupleQK {X : Cx} {K : PySem.W.Frag} (hK : X.K = K) : CallR X (.type "tuple") (fun xs H Q => ∃ p ys, xs = [.ref p] ∧ Sq K H p ys ∧ ∀ l H', Same H H' → SqT K H' l ys → Q (.ref l) H') := by
  subst hK
  exact call_tupleQ
theorem KsAt.upd {K : PySem.W.Frag} {C p dx b : Addr} {H : Hp} {fs : List (Str × V)} {kss : List (List Int)} {o : HO} (e : H p = some (.ins C dx fs)) (h : KsAt K H b kss) : KsAt K (upd H p o) b kss := by
  obtain ⟨as, e1, l, r⟩ := id h
  exact h.mv Mv.upd1 (NT.one e trivial) (nin1 (ne_of e1 e (by intro z; cases z)))
theorem KsAt.same {K : PySem.W.Frag} {H H' : Hp} {b : Addr} {kss : List (List Int)} (s : Same H H') (h : KsAt K H b kss) : KsAt K H' b kss := h.mv (S := []) s.mv (fun c h => nomatch h) (fun h => nomatch h)
theorem Mv.nfree {S : List Addr} {H H' : Hp} {x : Addr} (m : Mv S H H') (hn : x ∉ S) (h : H' x = none) : H x = none := by
  cases e : H x with
  | none => rfl
  | some o => rw [m x o hn e] at h; cases h
theorem KsAt.at {K : PySem.W.Frag} {H : Hp} {hk : Addr} {D : Dr} {age : Int} (h : KsAt K H hk D.kss) (h0 : 0 ≤ age) (h1 : age < D.kss.length) : ∃ (xs : List V) (ak : Addr), H hk = some (.lst xs) ∧ atI xs age = some (.ref ak) ∧ SqT K H ak ((keyA D age).map V.int) := by
  obtain ⟨as, e, l, r⟩ := h
  obtain ⟨i, rfl⟩ : ∃ i : Nat, age = (i : Int) := ⟨age.toNat, by omega⟩
  have hi : i < D.kss.length := by omega
  have hi' : i < as.length := by omega
  refine ⟨_, as[i], e, atI_nat (by rw [List.getElem?_map, List.getElem?_eq_getElem hi']; rfl), ?_⟩
  have := r i as[i] D.kss[i] (List.getElem?_eq_getElem hi') (List.getElem?_eq_getElem hi)
  unfold keyA
  rw [Int.toNat_natCast, List.getD_eq_getElem?_getD, List.getElem?_eq_getElem hi]
  exact this
theorem takesB_in {D : Dr} {e : Kb} {age : Int} (h : takesB D e age = true) (h0 : 0 ≤ D.least) : 0 ≤ age ∧ age < D.kss.length := by
  unfold takesB takesJ at h
  rw [Bool.and_eq_true, Bool.and_eq_true] at h
  have h1 := of_decide_eq_true h.1.1
  have h2 := of_decide_eq_true h.1.2
  omega
theorem DoorAt.putK {K : PySem.W.Frag} {C : Addr} {H H' : Hp} {p ta hk bd lg : Addr} {n : Nat} {D : Dr} {kn' : Kw} (b : DoorAt K C H p ta hk bd lg n D) (m : Mv [bd] H H') (kb : KnAt H' bd kn') : DoorAt K C H' p ta hk bd lg n { D with kn := kn' } := by
  obtain ⟨dx, e⟩ := b.ob
  obtain ⟨f, hd, _⟩ := b.kb
  obtain ⟨rs, el, l⟩ := b.lo
  obtain ⟨as, eh, _⟩ := id b.ks
  have nt : NT [bd] H := NT.one hd trivial
  exact ⟨⟨dx, m _ _ (nin1 (ne_of e hd (by intro z; cases z))) e⟩, m.sqt nt b.tb, b.ks.mv m nt (nin1 (ne_of eh hd (by intro z; cases z))), kb, ⟨rs, m _ _ (nin1 (ne_of el hd (by intro z; cases z))) el, l⟩, b.ne⟩
theorem DoorAt.putL {K : PySem.W.Frag} {C : Addr} {H : Hp} {p ta hk bd lg r : Addr} {n : Nat} {D : Dr} {rs : List Addr} (b : DoorAt K C H p ta hk bd lg n D) (el : H lg = some (.lst (rs.map V.ref))) (hl : rs.length ≤ n) : DoorAt K C (upd H lg (.lst (rs.map V.ref ++ [.ref r]))) p ta hk bd lg (n + 1) D := by
  obtain ⟨dx, e⟩ := b.ob
  obtain ⟨f, hd, _⟩ := id b.kb
  have nt : NT [lg] H := NT.one el trivial
  have m : Mv [lg] H (upd H lg (.lst (rs.map V.ref ++ [.ref r]))) := Mv.upd1
  exact ⟨⟨dx, m _ _ (nin1 (ne_of e el (by intro z; cases z))) e⟩, m.sqt nt b.tb, b.ks.mv m nt (nin1 b.ne.symm), b.kb.mv m nt (nin1 (ne_of hd el (by intro z; cases z))), ⟨rs ++ [r], by rw [upd_same, List.map_append]; rfl, by rw [List.length_append]; exact Nat.succ_le_succ hl⟩, b.ne⟩
section
variable (K : PySem.W.Frag) (C : Addr)
def spDRight : Sp := fun vs H Q _ => ∃ (p ta hk bd lg pr : Addr) (n : Nat) (D : Dr) (nm : Str) (age : Int) (ds : List Int), vs = [.ref p, .ref pr] ∧ DoorAt K C H p ta hk bd lg n D ∧ DrOk D ∧ PrAt H pr nm age ds ∧ isNm nm ∧ ds.length = 5 ∧ digR ds ∧ takesJ D age = true ∧
  ∀ x H', Same H H' → Told H' x (readK D.t (keyA D age) nm ds) → Q x H'
def spDLearn : Sp := fun vs H Q _ => ∃ (p ta hk bd lg p1 p2 : Addr) (n : Nat) (D : Dr) (nm : Str) (age c d1 d2 : Int) (ds1 ds2 : List Int), vs = [.ref p, .ref p1, .ref p2] ∧ DoorAt K C H p ta hk bd lg n D ∧ n ≤ 1000 ∧ DrOk D ∧ PrAt H p1 nm age ds1 ∧ PrAt H p2 nm age ds2 ∧ isNm nm ∧ ds1.length = 5 ∧ digR ds1 ∧ ds2.length = 5 ∧ digR ds2 ∧ takesJ D age = true ∧
  readK D.t (keyA D age) nm ds1 = some (c, d1) ∧ readK D.t (keyA D age) nm ds2 = some (c + 1, d2) ∧ D.kn.lookup nm = none ∧ (D.kn.length : Int) < D.most ∧
  ∀ H', Mv [bd, lg] H H' → DoorAt K C H' p ta hk bd lg (n + 1) { D with kn := putN D.kn nm ⟨age, c + 1, none⟩ } → Q .non H'
end
theorem Eqd.pair {H : Hp} {a b : Addr} {z : Str} {i : Int} (h1 : H a = some (.tup [.str z, .int i])) (h2 : H b = some (.tup [.str z, .int i])) : Eqd H 1 (.ref a) (.ref b) :=
  .tup (n := 0) (.inl h1) (.inl h2) rfl fun j x y ex ey => by
    match j, ex, ey with
    | 0, ex, ey => cases ex; cases ey; exact .str _ _
    | 1, ex, ey => cases ex; cases ey; exact .int _ _
    | j + 2, ex, ey => cases ex
end L3
namespace L3
open PySem PySem.Spec PyProof.Rows L2
def ShAt (H : Hp) (q : Addr) (ss : List Str) (kn : Kw) : Prop := ∃ as : List Addr, H q = some (.tup (as.map V.ref)) ∧ as.length = ss.length ∧ ∀ (i : Nat) (a : Addr) (nm : Str) (e : Kb), as[i]? = some a → ss[i]? = some nm → kn.lookup nm = some e → ∃ v, H a = some (.tup [.str nm, .int e.age, .int e.last, v]) ∧ Wt H v e.wt
def spDKnown (K : PySem.W.Frag) (C : Addr) : Sp := fun vs H Q _ => ∃ (p ta hk bd lg : Addr) (n : Nat) (D : Dr), vs = [.ref p] ∧ DoorAt K C H p ta hk bd lg n D ∧ DrOk D ∧
  ∀ q ss H', Same H H' → ss.Perm (D.kn.map (·.1)) → sortedS ss = true → ShAt H' q ss D.kn → Q (.ref q) H'
theorem qe_fldK {X : Cx} {K : PySem.W.Frag} {e : Expr} {f : Str} {pos : Pos} {ta : TE} (hK : X.K = K) (he : QE X e ta) (hb : attributeBase e f X.env (eval e X.env) = eval e X.env := by rfl) : QE X (.Attribute e f pos) (tFldA K ta f) := by
  subst hK
  exact qe_fld he hb
theorem kn_keys (kn : Kw) (f : Str → Addr) : (knD kn f).map (·.1) = (kn.map (·.1)).map Sum.inr := by
  unfold knD
  rw [List.map_map, List.map_map]; rfl
theorem lookup_of_mem {kn : Kw} {nm : Str} (h : nm ∈ kn.map (·.1)) : ∃ e, kn.lookup nm = some e := Option.isSome_iff_exists.mp (lookup_mem_iff.mpr h)
end L3
namespace L3
open PySem PySem.Spec PyProof.Rows L2
section
variable {K : PySem.W.Frag} {H H' : Hp} {m mt mk kd : Addr} {D : Dr}
end
theorem merge_nd : ∀ (more kvs : List (Key × V)), ((kvs ++ more).map (·.1)).Nodup → mergeK kvs more = kvs ++ more
  | [], kvs, _ => by simp [mergeK]
  | p :: r, kvs, nd => by
    have hn : p.1 ∉ kvs.map (·.1) := fun z => by
      rw [List.map_append, List.map_cons] at nd
      exact (List.nodup_append.mp nd).2.2 _ z _ (List.mem_cons_self ..) rfl
    show mergeK (putK kvs p.1 p.2) r = _
    rw [putK_no hn, merge_nd r (kvs ++ [(p.1, p.2)]) (by rw [List.append_assoc]; exact nd), List.append_assoc]
    rfl
end L3
namespace L3
open PySem PySem.Spec PyProof.Rows L2
end L3
namespace L3
open PySem PySem.Spec PyProof.Rows L2
section
variable {K : PySem.W.Frag} {C : Addr} {H H' : Hp} {a : Ad} {n : Nat} {D : Dr}
end
section
variable {K : PySem.W.Frag} {C : Addr} {H H' : Hp} {a : Ad} {n : Nat} {D : Dr} {kl : Kw}
end
structure KbOk (D : Dr) (e : Kb) : Prop where
  a0 : 0 ≤ e.age
  a1 : e.age < D.kss.length
  l0 : 0 ≤ e.last
  l1 : e.last < 4096
  w : ∀ x c, e.wt = some (x, c) → 0 ≤ c ∧ c < 4096
end L3
namespace L3
open PySem PySem.Spec PyProof.Rows L2
theorem putN_mem {kn : Kw} {nm : Str} {x : Kb} {e : Str × Kb} (h : e ∈ putN kn nm x) : e ∈ kn ∨ e = (nm, x) := by
  unfold putN at h
  split at h
  · obtain ⟨p, hp, rfl⟩ := List.mem_map.mp h
    by_cases y : p.1 = nm
    · rw [if_pos y]; exact .inr rfl
    · rw [if_neg y]; exact .inl hp
  · rcases List.mem_append.mp h with h | h
    · exact .inl h
    · exact .inr (List.mem_singleton.mp h)
section
variable {K : PySem.W.Frag} {C : Addr} {H0 H H' : Hp} {b nl : Addr} {ns : List Str} {a : Ad} {D : Dr} {nb nb' i : Nat} {kn : Kw}
end
end L3
namespace L3
open PySem PySem.Spec PyProof.Rows L2
end L3
namespace L3
open PySem PySem.Spec PyProof.Rows L2
theorem putN_known {kn : Kw} {nm : Str} {e x : Kb} (h : kn.lookup nm = some e) : (putN kn nm x).map (·.1) = kn.map (·.1) := by
  rw [putN_keys, if_pos (lookup_mem_iff.mp (by rw [h]; rfl))]
theorem stepJ_ok {D : Dr} {e : Kb} {age c : Int} (he : KbOk D e) (a0 : 0 ≤ age) (a1 : age < D.kss.length) (c0 : 0 ≤ c) (c1 : c < 4096) : KbOk D (stepJ D.near D.far e age c).2 := by
  unfold stepJ
  split
  · exact he
  · split
    · exact ⟨a0, a1, c0, c1, fun x y z => by (cases z)⟩
    · split
      · split
        · exact ⟨a0, a1, c0, c1, fun x y z => by (cases z)⟩
        · exact ⟨he.a0, he.a1, he.l0, he.l1, fun x y z => by cases z; exact ⟨c0, c1⟩⟩
      · exact he
theorem hearJ_ok {D : Dr} {nm : Str} {age c d : Int} (ok : DrOk D) (kb : ∀ e ∈ D.kn, KbOk D e.2) (a0 : 0 ≤ age) (a1 : age < D.kss.length) (c0 : 0 ≤ c) (c1 : c < 4096) :
    DrOk { D with kn := (hearJ D nm age (some (c, d))).2 } ∧ (∀ e ∈ (hearJ D nm age (some (c, d))).2, KbOk D e.2) ∧ (hearJ D nm age (some (c, d))).2.length = D.kn.length := by
  have stay : DrOk { D with kn := D.kn } ∧ (∀ e ∈ D.kn, KbOk D e.2) ∧ D.kn.length = D.kn.length := ⟨ok, kb, rfl⟩
  unfold hearJ
  cases e1 : D.kn.lookup nm with
  | none => exact stay
  | some e =>
    have hk := putN_known (x := (stepJ D.near D.far e age c).2) e1
    have hl : (putN D.kn nm (stepJ D.near D.far e age c).2).length = D.kn.length := by
      have := congrArg List.length hk
      rwa [List.length_map, List.length_map] at this
    have go : DrOk { D with kn := putN D.kn nm (stepJ D.near D.far e age c).2 } ∧ (∀ x ∈ putN D.kn nm (stepJ D.near D.far e age c).2, KbOk D x.2) ∧ (putN D.kn nm (stepJ D.near D.far e age c).2).length = D.kn.length :=
      ⟨⟨ok.tp, ok.l0, ok.kl, by show (putN D.kn nm _).length ≤ 60; rw [hl]; exact ok.nl, by show ((putN D.kn nm _).map (·.1)).Nodup; rw [hk]; exact ok.nd⟩, fun x hx => by
        rcases putN_mem hx with hx | hx
        · exact kb x hx
        · rw [hx]; exact stepJ_ok (kb _ (lookup_mem e1)) a0 a1 c0 c1, hl⟩
    simp only
    split
    · split
      · exact go
      · exact go
    · exact stay
end L3
namespace L3
open PySem PySem.Spec PyProof.Rows L2
theorem clo_nil {X : Cx} : ∀ u e, ([] : List (Str × Addr)).lookup u = some e → X.env.cells.lookup u = some e := fun u e h => by cases h
theorem clo_cons {X : Cx} {y : Str} {c : Addr} {l : List (Str × Addr)} (h : X.env.cells.lookup y = some c) (r : ∀ u e, l.lookup u = some e → X.env.cells.lookup u = some e) : ∀ u e, ((y, c) :: l).lookup u = some e → X.env.cells.lookup u = some e := fun u e he => by
  by_cases hu : u = y
  · subst hu
    simp at he
    rw [← he]; exact h
  · rw [List.lookup_cons, show (u == y) = false from by simpa using hu] at he
    exact r u e he
section
variable {K : PySem.W.Frag} {H H' : Hp} {m mt mk kd : Addr} {D : Dr}
end
end L3
namespace L3
open PySem PySem.Spec PyProof.Rows L2
section
variable {js : List Nat} {tc : TT} {te : TE} {σ : L2.St} {H : Hp} {Q : VK} {K : PySem.W.Frag}
end
end L3
namespace L3
open PySem PySem.Spec PyProof.Rows L2
theorem call_dictD {X : Cx} : CallR X (.type "dict") (fun xs H Q => ∃ (d : Addr) (kvs : List (Key × V)), xs = [.ref d] ∧ H d = some (.dK kvs) ∧ ∀ p, H p = none → Q (.ref p) (upd H p (.dK kvs))) := by
  intro pins s σ H xs us Q I r h
  obtain ⟨d, kvs, rfl, hd, q⟩ := h
  obtain ⟨u, rfl, ru⟩ := vals1 r
  cases ru
  exact d_copyOf I (.inl hd) fun p s' hp I' => ⟨.ref p, _, I', rfl, q p hp⟩
theorem DoorAt.setF {K : PySem.W.Frag} {C : Addr} {H : Hp} {p dx : Addr} {fs : List (Str × V)} {f : Str} {u v : V} (i : Nat) (c : Cls K C) (na : NoAttr K C f) (e : H p = some (.ins C dx fs)) (hf : fs[i]? = some (f, u)) (nd : (fs.map (·.1)).Nodup) (hl : fs.length < 1000) :
    PutF K H p f v (upd H p (.ins C dx (fs.set i (f, v)))) := ⟨C, dx, fs, e, c, na, hl, by rw [putF_at i hf nd]⟩
def spDTwin (K : PySem.W.Frag) (C : Addr) : Sp := fun vs H Q _ => ∃ (p ta hk bd lg : Addr) (n : Nat) (D : Dr), vs = [.ref p] ∧ DoorAt K C H p ta hk bd lg n D ∧ D.kss.length ≤ 8 ∧
  ∀ p' ta' hk' bd' lg' H', Same H H' → H p' = none → H hk' = none → H bd' = none → H lg' = none → DoorAt K C H' p' ta' hk' bd' lg' n D → Q (.ref p') H'
end L3
namespace L3
open PySem PySem.Spec PyProof.Rows L2
theorem _root_.L2.Same.put {H H1 : Hp} {x : Addr} {o : HO} (s : Same H H1) (h : H x = none) : Same H (upd H1 x o) := fun c u e => by
  rw [upd_ne (ne_of_none e h)]; exact s c u e
section
variable {K : PySem.W.Frag} {C : Addr} {H : Hp} {p ta hk bd lg dx : Addr} {D : Dr}
theorem put_least (U : DCx K C) (e : H p = some (.ins C dx (dF D ta hk bd lg))) (z : Int) : PutF K H p "least_age" (.int z) (upd H p (.ins C dx (dF { D with least := z } ta hk bd lg))) := DoorAt.setF 5 U.cl U.n_least_age e rfl (dF_nd ..) (by show 8 < 1000; decide)
theorem put_buttons (U : DCx K C) (e : H p = some (.ins C dx (dF D ta hk bd lg))) (x : Addr) : PutF K H p "buttons" (.ref x) (upd H p (.ins C dx (dF D ta hk x lg))) := DoorAt.setF 6 U.cl U.n_buttons e rfl (dF_nd ..) (by show 8 < 1000; decide)
theorem put_log (U : DCx K C) (e : H p = some (.ins C dx (dF D ta hk bd lg))) (x : Addr) : PutF K H p "log" (.ref x) (upd H p (.ins C dx (dF D ta hk bd x))) := DoorAt.setF 7 U.cl U.n_log e rfl (dF_nd ..) (by show 8 < 1000; decide)
end
end L3
namespace L3
open PySem PySem.Spec PyProof.Rows L2
def openJ (near far : Int) (e : Kb) (age c : Int) : Bool := decide ((stepJ near far e age c).1 = "near")
theorem openJ_eq (near far : Int) (e : Kb) (age c : Int) : openJ near far e age c = if c ≤ e.last then false else if c ≤ e.last + near then true else if c ≤ e.last + far then decide (e.wt = some (age, c - 1)) else false := by
  have n1 : ¬ (("old" : Str) = "near") := by decide +kernel
  have n2 : ¬ (("far" : Str) = "near") := by decide +kernel
  have n3 : ¬ (("beyond" : Str) = "near") := by decide +kernel
  unfold openJ stepJ
  split
  · exact decide_eq_false n1
  · split
    · exact decide_eq_true rfl
    · split
      · split
        · rename_i h; rw [decide_eq_true h]; exact decide_eq_true rfl
        · rename_i h; rw [decide_eq_false h]; exact decide_eq_false n2
      · exact decide_eq_false n3
theorem step_shut {near far : Int} {e : Kb} {age c : Int} (h : openJ near far e age c = false) : (stepJ near far e age c).2 = if e.last < c ∧ c ≤ e.last + far then ⟨e.age, e.last, some (age, c)⟩ else e := by
  rw [openJ_eq] at h
  unfold stepJ
  by_cases g1 : c ≤ e.last
  · rw [if_pos g1, if_neg (by omega)]
  · rw [if_neg g1] at h ⊢
    by_cases g2 : c ≤ e.last + near
    · rw [if_pos g2] at h; cases h
    · rw [if_neg g2] at h ⊢
      by_cases g3 : c ≤ e.last + far
      · rw [if_pos g3] at h
        rw [if_pos g3, if_neg (of_decide_eq_false h), if_pos ⟨by omega, g3⟩]
      · rw [if_neg g3, if_neg (by omega)]
theorem step_open {near far : Int} {e : Kb} {age c : Int} (h : openJ near far e age c = true) : (stepJ near far e age c).2 = ⟨age, c, none⟩ := by
  rw [openJ_eq] at h
  unfold stepJ
  by_cases g1 : c ≤ e.last
  · rw [if_pos g1] at h; cases h
  · rw [if_neg g1] at h ⊢
    by_cases g2 : c ≤ e.last + near
    · rw [if_pos g2]
    · rw [if_neg g2] at h ⊢
      by_cases g3 : c ≤ e.last + far
      · rw [if_pos g3] at h
        rw [if_pos g3, if_pos (of_decide_eq_true h)]
      · rw [if_neg g3] at h; cases h
theorem gName_of {i : Nat} {x : V} {σ : L2.St} {H : Hp} {f b c : L2.St → Hp → Prop} {r : VK} (h : f (σ.set i (some x)) H) : gName i x σ H (Ends.mk f r b c).nx := h
end L3
namespace L3
open PySem PySem.Spec PyProof.Rows L2
def pick (kn : Kw) (ss : List Str) : Kw := ss.map fun nm => (nm, (kn.lookup nm).getD ⟨0, 0, none⟩)
theorem pick_keys (kn : Kw) (ss : List Str) : (pick kn ss).map (·.1) = ss := by
  unfold pick
  rw [List.map_map]
  exact (List.map_congr_left fun x _ => rfl).trans (List.map_id ss)
theorem pick_perm {kn : Kw} {ss : List Str} (pm : ss.Perm (kn.map (·.1))) (nd : (kn.map (·.1)).Nodup) : (pick kn ss).Perm kn := by
  unfold pick
  refine (pm.map _).trans ?_
  rw [List.map_map]
  have : kn.map ((fun nm => (nm, (kn.lookup nm).getD ⟨0, 0, none⟩)) ∘ (·.1)) = kn.map id := List.map_congr_left fun p hp => by
    obtain ⟨e, he⟩ := lookup_of_mem (List.mem_map.mpr ⟨p, hp, rfl⟩)
    have := lookup_uniq nd he p hp rfl
    simp only [Function.comp, he, Option.getD_some, id]
    exact this.symm
  rw [this, List.map_id]
theorem nx_of {σ : L2.St} {H : Hp} {f b c : L2.St → Hp → Prop} {r : VK} (h : f σ H) : (Ends.mk f r b c).nx σ H := h
theorem if_key {tt : TT} {tb te : TS} {u : TS} {D : Ends} {σ : L2.St} {H : Hp} (R : L2.St → Hp → Prop) (k : ∀ D' : Ends, (∀ σ' H', R σ' H' → D'.nx σ' H') → tIfS tt tb te D' σ H) (r : ∀ σ' H', R σ' H' → u D σ' H') : tSeq (tIfS tt tb te) u D σ H := k { D with nx := u D } r
end L3
namespace L3
open PySem PySem.Spec PyProof.Rows L2
theorem step_near {near far : Int} {e : Kb} {age c : Int} (h : openJ near far e age c = true) : (stepJ near far e age c).1 = "near" := of_decide_eq_true h
end L3
namespace L3
open PySem PySem.Spec PyProof.Rows L2
section
variable {K : PySem.W.Frag} {C : Addr} {H H' : Hp} {a : Ad} {n : Nat} {D : Dr} {kl : Kw}
end
section
variable {K : PySem.W.Frag} {C : Addr} {H0 H H' : Hp} {b nl nd : Addr} {nms : List Str} {a : Ad} {nb n L : Nat} {D : Dr} {kl : Kw} {g : Str → Option (Int × Int)}
end
end L3
namespace L3
open PySem PySem.Spec PyProof.Rows L2
section
variable {X : Cx} {o e : Expr} {apos cpos pos : Pos} {td ty : TE}
def rNeE (K : PySem.W.Frag) : R2 := fun x y H Q => ∃ (a b : Addr) (xs : List V), x = .ref a ∧ y = .ref b ∧ SqL K H a xs ∧ SqL K H b [] ∧ Q (.bl (!xs.isEmpty)) H
theorem op_neE {k : Nat} (hr : Room k X.A) : OpR X (compareOp .NotEq) (rNeE X.K) := by
  intro pins s σ H x y v u Q I rx ry h
  obtain ⟨a, b, xs, rfl, rfl, ha, hb, q⟩ := h
  cases rx
  cases ry
  have hu : X.A.units + 1 < cLine := by have := hr.un; omega
  obtain ⟨its, r1, p1, _⟩ := I.list ha
  obtain ⟨its2, r2, p2, _⟩ := I.list hb
  have l1 := r1.length
  have l2 := r2.length
  cases xs with
  | nil =>
    have e := SeqAt.RcNeAt.lists (A := X.A) (e := fun _ => true) p1.isList p2.isList (by simp; omega) (Nat.lt_of_succ_lt hu) (fun j h1 h2 => by
      have h2' : j < its2.length := by simpa using h2
      have : its2.length = 0 := by rw [← l2]; rfl
      omega)
    refine e _ _ _ _ ⟨.bl _, H, I, ?_, q⟩
    show Value.bool _ = Value.bool _
    congr 1
    have z : its.toArray.size = 0 := by rw [List.size_toArray, ← l1]; rfl
    rw [z]; rfl
  | cons x r =>
    refine SeqAt.RcNeAt.lists_lengths p1.isList p2.isList (by
      have z1 : its.length = r.length + 1 := by rw [← l1]; rfl
      have z2 : its2.length = 0 := by rw [← l2]; rfl
      simp; omega) (Nat.lt_of_succ_lt hu) _ _ _ _ ⟨.bl _, H, I, rfl, q⟩
end
end L3
namespace L3
open PySem PySem.Spec PyProof.Rows L2
section
variable {K : PySem.W.Frag} {C : Addr} {H H' : Hp} {b lf gn lr pl : Addr} {a : Ad} {nb n : Nat} {D : Dr} {kn kl kn1 : Kw} {ps : List Pp} {left gone : List Str}
end
end L3
namespace L3
open PySem PySem.Spec PyProof.Rows L2
section
variable {K : PySem.W.Frag} {C : Addr} {H0 H H' : Hp} {nl lr pl b : Addr} {nms : List Str} {a : Ad} {n nb nb' : Nat} {D : Dr} {kn kn1 : Kw} {ps : List Pp}
end
end L3
namespace L3
open PySem PySem.Spec PyProof.Rows L2
theorem hear_age {D : Dr} {nm : Str} {e : Kb} {age : Int} {r : Option (Int × Int)} (h : D.kn.lookup nm = some e) (ht : takesB D e age = false) : hearJ D nm age r = ([.str "held", .str "age"], D.kn) := by
  unfold hearJ; rw [h]; simp only; rw [ht]; rfl
end L3
namespace L3
open PySem PySem.Spec PyProof.Rows L2
section
variable {K : PySem.W.Frag} {C : Addr} {H H' : Hp} {a : Ad} {n : Nat} {D : Dr} {bx nl : Addr} {nb : Nat} {nms : List Str}
end
end L3
namespace L3
open PySem PySem.Spec PyProof.Rows L2
section
variable {K : PySem.W.Frag} {C : Addr} {H0 H H' : Hp} {b nl : Addr} {nms : List Str} {a : Ad} {nb nb' n n' : Nat} {D D' : Dr}
end
end L3
namespace PySem
open Sem (wp)
theorem lk_list_keys : typeLookup (.type "list") "keys" = pure none := by rw [typeLookup_type, builtinLookup_eq_fast]; kernel_rfl
theorem list_no_keys {prog : Program} {w : World} {A : Around} {E : Value → Shared → Prop} {s : Shared} {a : Addr} {o : Obj} {xs : Array Value} {k : Nat} {Q : Option Value → Shared → Prop}
    (hx : s.heap.get? a = some o) (hc : o.cls = .type "list") (hdat : o.data = .seq xs k) (hd : o.dict = none) (hA : A.handled = none)
    (h : ∀ h' tk e, Heap.NewExcOf s.heap h' e "AttributeError" → Q none { s with heap := h', toks := tk }) :
    wpAny (model prog w) A (getAttr? (.ref a) "keys") Q E s := by
  obtain ⟨c, dct, dat, sl⟩ := o
  simp only at hc hdat hd
  subst hc hdat hd
  obtain ⟨hp, g, d, tk, os⟩ := s
  have hT : ∀ tk', (⟨hp, g, d, tk', os⟩ : Shared).TypeIs (.ref a) "list" := fun _ => ⟨_, hx, rfl⟩
  have f1 := sub_AttributeError
  have f3 := F.slot_list_getattribute.lookup
  have f4 := F.slot_list_getattribute.bind (.ref a)
  have f5 := am_list_getattr_none
  unfold getAttr? getAttrBy? getAttrBy
  repeat (any_goals (first | assumption | exact hT _ | ((with_reducible show wpAny _ _ (call (Value.builtin "list.__getattribute__") _ _) _ _ _); refine call_meets F.slot_list_getattribute (hT _) am_entry_list_getattribute (F.args_list_getattribute_2 _ _) (meets_getattribute_miss_list a xs k sl "keys" _ lk_list_keys (by decide +kernel) (by size_fits)) ⟨hx, hA, fun h' tk' e hx' => ?_⟩) | wp_step))
  obtain ⟨t', u', he⟩ := hx'.there
  show wpAny _ _ (getattributeRaised _ _ _ _ _ _ _) _ _ _
  unfold getattributeRaised
  repeat (any_goals (first | assumption | wp_step))
  exact h _ _ _ hx'.of
end PySem
namespace PyProof.Rows
open PySem PySem.Spec
theorem entry_dict_update_loop : entryFor table "dict.update.loop" = some Builtin.«dict.update.loop» := entryFor_of_tree (by kernel_rfl)
theorem plain_dict_update_loop : plainId "dict.update.loop" = true := by decide +kernel
section
variable {prog : Program} {w : World} {A : Around} {R : Result → Shared → Prop} {I : Addr} {fp wr : List Addr} {G : Array GenState → Array GenState → Prop} {n : Nat} {P : Nat → Value → Prop} {St : Nat → Shared → Prop}
theorem pair_tuple {A : Around} {s : Shared} {E : Value → Shared → Prop} {Q : List Value → Shared → Prop} {a : Addr} {x y : Value} (h : s.heap.IsTuple a #[x, y]) (hQ : Q [x, y] s) : wpAny (model prog w) A (Builtin.Dict.pairItems (.ref a)) Q E s := by
  obtain ⟨o, ho, hc, m, hd⟩ := id h
  unfold Builtin.Dict.pairItems
  refine wpAny_bind (wpAny_typeOf h.typeIs ?_)
  rw [if_pos (by decide)]
  exact wpAny_bind (wpAny_seqItems ho hd (wpAny_pure hQ))
theorem codeAny_dict_update_loopS {K : Type} [DecidableEq K] {knd : PySem.KeyKind prog w K} (W : WalksS prog w A.in1 I fp wr G n P St) (S : Addr) (hSf : S ∉ fp) (more : List (K × Value)) (hn : more.length = n) (ta : Nat → Addr) (key : Nat → Value)
    (hta : ∀ i, i < n → ta i ∉ S :: wr) (hkey : ∀ i kv, more[i]? = some kv → knd.is kv.1 (key i) = true) (hP : ∀ i v, i < n → P i v → v = .ref (ta i)) (hsz : n ≤ sizeLine) :
    ∀ (k i : Nat) (s : Shared), n - i = k → i ≤ n → St i s → s.heap.DictOf knd S (merged [] (more.take i)) → (∀ j kv, more[j]? = some kv → s.heap.IsTuple (ta j) #[key j, kv.2]) →
      (∀ s', Moved (S :: wr) G s s' → s'.heap.DictOf knd S (merged [] more) → R (.ok (.ret .none)) s') →
      codeAny (model prog w) A (.builtin "dict.update.loop" ⟨[.ref S, .ref I, rawInt i, .none], []⟩) R s := by
  have hSw : S ∉ wr := fun h => hSf (W.sub _ h)
  have hsub : ∀ b ∈ wr, b ∈ S :: wr := fun b hb => List.mem_cons_of_mem _ hb
  intro k
  induction k with
  | zero =>
    intro i s hk hi hst hS hT hR
    have hin : i = n := by omega
    subst hin
    refine codeAny_builtin entry_dict_update_loop ?_
    rw [Around.under_plainId plain_dict_update_loop _]
    show wpAny _ A.in1 (pyNext (.ref I) >>= _) _ _ s
    refine wpAny_bind (W.done s _ _ hst fun s' hm => ?_)
    show wpAny _ A.in1 (Builtin.Dict.addKeywords S [] >>= _) _ _ s'
    refine wpAny_bind (wpAny_pure ?_)
    rw [List.take_of_length_le (by omega)] at hS
    exact wpAny_pure (hR s' (hm.mono hsub) (by
      obtain ⟨o, es, ep, ho, rest⟩ := hS
      exact ⟨o, es, ep, hm.heap S _ hSw ho, rest⟩))
  | succ k ih =>
    intro i s hk hi hst hS hT hR
    have hlt : i < n := by omega
    have hml : more[i]? = some more[i] := List.getElem?_eq_getElem (by omega)
    obtain ⟨kv, hkv⟩ : ∃ kv, kv = more[i] := ⟨_, rfl⟩
    rw [← hkv] at hml
    refine codeAny_builtin entry_dict_update_loop ?_
    rw [Around.under_plainId plain_dict_update_loop _]
    show wpAny _ A.in1 (pyNext (.ref I) >>= _) _ _ s
    refine wpAny_bind (W.item i s _ _ hlt hst fun v s' hP' hst' hm => ?_)
    obtain rfl := hP i v hlt hP'
    have hS' : s'.heap.DictOf knd S (merged [] (more.take i)) := by
      obtain ⟨o, es, ep, ho, rest⟩ := hS
      exact ⟨o, es, ep, hm.heap S _ hSw ho, rest⟩
    have hT' : ∀ j kv, more[j]? = some kv → s'.heap.IsTuple (ta j) #[key j, kv.2] := fun j kv e => by
      have hj : j < n := by rw [← hn]; exact (List.getElem?_eq_some_iff.mp e).1
      obtain ⟨o, ho, rest⟩ := hT j kv e
      exact ⟨o, hm.heap _ _ (fun z => hta j hj (hsub _ z)) ho, rest⟩
    have hTi := hT' i kv hml
    show wpAny _ A.in1 (holding [Value.ref (ta i)] _ >>= _) _ _ _
    refine wpAny_bind (wpAny_holding ?_)
    refine wpAny_bind (wpAny_tryCatch (pair_tuple hTi ?_))
    show wpAny _ A.in1 (holding [key i, kv.2] (dictSet S (key i) kv.2)) _ _ _
    refine wpAny_holding ?_
    unfold dictSet
    refine wpAny_holding ?_
    refine wpAny_bind (knd.pyHash (hkey i kv hml) ?_)
    refine wpAny_dictSetHashed_pairs (s := { s' with toks := s'.toks + 1 }) (hkey i kv hml) hS' (fun h' hd' hs' => ?_) (by have := merged_length_le ([] : List (K × Value)) (more.take i); have := List.length_take_le i more; simp at *; omega)
    rw [← merged_take_succ [] more i kv hml] at hd'
    refine wpAny_pure ⟨plainId_quiet plain_dict_update_loop _, ?_⟩
    rw [show ((i : Int) + 1) = ((i + 1 : Nat) : Int) from rfl]
    refine ih (i + 1) _ (by omega) hlt (W.frame _ s' _ _ hst' (Nat.le_succ _) fun b hb o e => ?_) hd' (fun j kv e => ?_) fun s'' hm'' hS'' => ?_
    · rw [hs'.2 b (fun h : b = S => hSf (by rw [← h]; exact hb))]; exact e
    · have hj : j < n := by rw [← hn]; exact (List.getElem?_eq_some_iff.mp e).1
      obtain ⟨o, ho, rest⟩ := hT' j kv e
      exact ⟨o, by rw [hs'.2 _ (fun h : ta j = S => hta j hj (by rw [h]; exact List.mem_cons_self))]; exact ho, rest⟩
    · refine hR s'' (Moved.trans W.gtrans ((hm.mono hsub).then_heap (Nat.le_succ _) fun b o hb e => ?_) hm'') hS''
      rw [hs'.2 b (fun h : b = S => hb (by rw [h]; exact List.mem_cons_self))]; exact e
end
end PyProof.Rows
namespace PySem
open PyProof.Rows
section
variable {prog : Program} {w : World} {K : Type} [DecidableEq K] {knd : PySem.KeyKind prog w K} {A : Around} {E : Value → Shared → Prop} {s : Shared}
theorem call_dict_list {l : Addr} {items : Array Value} {nl : Nat} {sl : Array (Option Value)} {Q : Value → Shared → Prop} (more : List (K × Value)) (ta : Nat → Addr) (key : Nat → Value) (hh : A.handled = none)
    (hol : s.heap.get? l = some { cls := .type "list", dict := none, data := .seq items nl, slots := sl }) (hn : more.length = items.size) (hit : ∀ (i : Nat) (v : Value), items[i]? = some v → v = Value.ref (ta i))
    (htu : ∀ j kv, more[j]? = some kv → s.heap.IsTuple (ta j) #[key j, kv.2]) (hkey : ∀ i kv, more[i]? = some kv → knd.is kv.1 (key i) = true) (hsz : items.size ≤ sizeLine)
    (h : ∀ h' tk, h'.DictOf knd s.heap.objs.size (merged [] more) → (∀ b o, b < s.heap.objs.size → s.heap.get? b = some o → h'.get? b = some o) → Q (.ref s.heap.objs.size) { s with heap := h', toks := tk }) :
    wpAny (model prog w) A (call (.type "dict") [.ref l]) Q E s := by
  refine callType_codes (Q₁ := fun obj s₁ => obj = .ref s.heap.objs.size ∧ s₁ = { s with heap := s.heap.push { cls := .type "dict", data := .dict #[] } }) F.kt_called_dict (F.kt_typeCall_dict_1 _) F.entry_dict_init (kt_code_dict_new _ ⟨rfl, rfl⟩) ?_
  rintro obj s₁ ⟨rfl, rfl⟩
  have hnew : (s.heap.push { cls := .type "dict", data := .dict #[] }).DictOf knd s.heap.objs.size [] := Heap.DictOf.new s.heap
  have hol' : (s.heap.push { cls := .type "dict", data := .dict #[] }).get? l = some { cls := .type "list", dict := none, data := .seq items nl, slots := sl } := Heap.get?_push_of_some _ hol
  have hT : Shared.TypeIs { s with heap := s.heap.push { cls := .type "dict", data := .dict #[] } } (.ref l) "list" := ⟨_, hol', rfl⟩
  refine ⟨hnew.typeIs, F.args_dict_init_2 _ _, ?_⟩
  unfold Builtin.«dict.__init__»
  refine wpAny_bind ?_
  unfold Builtin.Dict.selfAndRest
  refine wpAny_bind (wpAny_notOrdered_dict hnew.typeIs ?_)
  show wpAny _ _ (pure (s.heap.objs.size, [Value.ref l])) _ _ _
  refine wpAny_pure ?_
  show wpAny _ _ (Builtin.Dict.updateFrom "dict.__init__" s.heap.objs.size (.ref l) [] .none) _ _ _
  unfold Builtin.Dict.updateFrom
  refine wpAny_bind (wpAny_typeOf hT ?_)
  rw [if_pos (by decide)]
  refine wpAny_bind (list_no_keys hol' rfl rfl rfl (by simp [hh]) fun h1 tk1 e1 hx => ?_)
  rw [if_pos (show (none : Option Value).isNone = true from rfl)]
  refine wpAny_bind (wpAny_rule ?_)
  have hl1 : h1.IsList l items := ⟨_, hx.keeps _ _ hol', rfl, nl, rfl⟩
  refine wpAny_bind (wpAny_pyIter_list hl1 ?_)
  refine wpAny_pure ⟨plainId_quiet plain_dict_update_loop _, ?_⟩
  have hlS : l < s.heap.objs.size := Heap.lt_size hol
  have hS1 : h1.get? s.heap.objs.size ≠ none := by
    have : (s.heap.push { cls := .type "dict", data := .dict #[] }).get? s.heap.objs.size = some _ := Heap.get?_push_size _ rfl
    rw [hx.keeps _ _ this]; intro z; cases z
  have hSlt : s.heap.objs.size < h1.objs.size := by
    cases hz : h1.get? s.heap.objs.size with
    | none => exact absurd hz hS1
    | some o => exact Heap.lt_size hz
  have hneI : l ≠ h1.objs.size := Nat.ne_of_lt (Nat.lt_trans hlS hSlt)
  have hh3 : A.in1.in1.handled = none := by simp [hh]
  have hSf : s.heap.objs.size ∉ [h1.objs.size, l] := by
    simp only [List.mem_cons, List.mem_singleton, List.not_mem_nil, or_false, not_or]
    exact ⟨Nat.ne_of_lt hSlt, Nat.ne_of_gt hlS⟩
  have htl : ∀ j, j < items.size → ta j < s.heap.objs.size := fun j hj => by
    have e : more[j]? = some (more[j]'(by omega)) := List.getElem?_eq_getElem (by omega)
    obtain ⟨o, ho, _⟩ := htu j _ e
    exact Heap.lt_size ho
  refine codeAny_dict_update_loopS (knd := knd) ((Walks.list hh3 _ l hneI items).toS) s.heap.objs.size hSf more hn ta key (fun j hj => ?_) hkey (fun i v _ hv => hit i v hv) hsz (items.size - 0) 0 _ (by omega) (Nat.zero_le _)
    ⟨⟨_, Heap.get?_push_size _ rfl, rfl, rfl⟩, hl1.push _⟩ ?hS0 ?hT0 ?hR
  case hS0 =>
    obtain ⟨o, es, ep, ho, rest⟩ := hnew
    exact ⟨o, es, ep, Heap.get?_push_of_some _ (hx.keeps _ _ ho), rest⟩
  case hT0 =>
    intro j kv e
    obtain ⟨o, ho, rest⟩ := htu j kv e
    exact ⟨o, Heap.get?_push_of_some _ (hx.keeps _ _ (Heap.get?_push_of_some _ ho)), rest⟩
  case hR =>
    intro s' hm hS'
    obtain ⟨h', g', d', tk', os'⟩ := s'
    have eg : g' = s.gens := hm.gens
    have ed : d' = s.drawn := hm.drawn
    have eo : os' = s.os := hm.os
    subst eg; subst ed; subst eo
    refine ⟨rfl, h h' tk' hS' fun b o hb e => ?_⟩
    exact hm.heap b o (by simp only [List.mem_cons, List.mem_singleton, List.not_mem_nil, or_false, not_or]; exact ⟨Nat.ne_of_lt hb, Nat.ne_of_lt (Nat.lt_trans hb hSlt)⟩) (Heap.get?_push_of_some _ (hx.keeps _ _ (Heap.get?_push_of_some _ e)))
  · have := htl j hj
    simp only [List.mem_cons, List.mem_singleton, List.not_mem_nil, or_false, not_or]
    exact ⟨Nat.ne_of_lt this, Nat.ne_of_lt (Nat.lt_trans this hSlt)⟩
end
end PySem
namespace L3
open PySem PySem.Spec PyProof.Rows L2
theorem kv_of : ∀ {kvs : List (Key × V)} {more : List (Key × Value)}, kvs.length = more.length → (∀ (j : Nat) kv' kv, kvs[j]? = some kv' → more[j]? = some kv → kv'.1 = kv.1 ∧ RelV kv'.2 kv.2) → KV kvs more
  | [], [], _, _ => .nil
  | [], b :: r, h, _ => by cases h
  | a :: r, [], h, _ => by cases h
  | a :: r, b :: r', h, hj => .cons (hj 0 a b rfl rfl) (kv_of (Nat.succ.inj h) fun j kv' kv e1 e2 => hj (j + 1) kv' kv e1 e2)
theorem call_dictL {X : Cx} (hcalm : X.calm = true) : CallR X (.type "dict") (fun xs H Q => ∃ (l : Addr) (as : List Addr) (kvs : List (Key × V)), xs = [.ref l] ∧ H l = some (.lst (as.map V.ref)) ∧ as.length = kvs.length ∧ (∀ (i : Nat) (a : Addr) (kv : Key × V), as[i]? = some a → kvs[i]? = some kv → H a = some (.tup [kV kv.1, kv.2])) ∧ ∀ p, H p = none → Q (.ref p) (upd H p (.dK (mergeK [] kvs)))) := by
  intro pins s σ H xs us Q I r h
  obtain ⟨l, as, kvs, rfl, hl, hlen, htu, q⟩ := h
  obtain ⟨u, rfl, ru⟩ := vals1 r
  cases ru
  obtain ⟨its, ri, ⟨o, n, ho, hc, hd, hdat⟩, hz⟩ := I.list (SqL.of hl)
  have hli : its.length = as.length := by rw [← ri.length, List.length_map]
  have hz' : as.length ≤ sizeLine := by rw [List.length_map] at hz; exact hz
  obtain ⟨ocls, odict, odata, osl⟩ := o
  simp only at hc hd hdat
  subst hc hd hdat
  have hex : ∀ j : Nat, ∃ p : Value × Value, ∀ (kv : Key × V), kvs[j]? = some kv → RelV kv.2 p.2 ∧ s.heap.IsTuple (as.getD j 0) #[p.1, p.2] ∧ (mixKind X.prog X.w).is kv.1 p.1 = true := fun j => by
    cases hk : kvs[j]? with
    | none => exact ⟨(.none, .none), fun kv e => by cases e⟩
    | some kv =>
      have hj : j < as.length := by rw [hlen]; exact (List.getElem?_eq_some_iff.mp hk).1
      have ha : as[j]? = some as[j] := List.getElem?_eq_getElem hj
      obtain ⟨its2, r2, p2, _⟩ := I.tuple (.inl (.inl (htu j _ kv ha hk)))
      obtain ⟨u1, u2, rfl, ru1, ru2⟩ := vals2 r2
      refine ⟨(u1, u2), fun kv' e => ?_⟩
      cases e
      refine ⟨ru2, ?_, kV_is ru1⟩
      rw [List.getD_eq_getElem?_getD, ha]
      exact p2
  obtain ⟨f, hf⟩ := Classical.axiomOfChoice hex
  obtain ⟨more, hmore⟩ : ∃ more : List (Key × Value), more = (List.range kvs.length).map fun j => ((kvs.getD j (.inl 0, .non)).1, (f j).2) := ⟨_, rfl⟩
  have hml : more.length = kvs.length := by rw [hmore, List.length_map, List.length_range]
  have hmj : ∀ j kv, more[j]? = some kv → ∃ kv', kvs[j]? = some kv' ∧ kv = (kv'.1, (f j).2) := fun j kv e => by
    have hj : j < kvs.length := by rw [← hml]; exact (List.getElem?_eq_some_iff.mp e).1
    refine ⟨kvs[j], List.getElem?_eq_getElem hj, ?_⟩
    rw [hmore, List.getElem?_map, List.getElem?_range hj] at e
    cases e
    show ((kvs.getD j (Sum.inl 0, V.non)).1, (f j).2) = _
    rw [List.getD_eq_getElem?_getD, List.getElem?_eq_getElem hj]; rfl
  have hKV : KV kvs more := kv_of hml.symm fun j kv' kv e1 e2 => by
    obtain ⟨kv2, e3, rfl⟩ := hmj j kv e2
    rw [e1] at e3
    cases e3
    exact ⟨rfl, (hf j kv' e1).1⟩
  refine call_dict_list (knd := mixKind X.prog X.w) (sl := osl) more (fun j => as.getD j 0) (fun j => (f j).1) (I.ok.hd hcalm) ho (by rw [hml, ← hlen, List.size_toArray, hli]) (fun i v hv => ?_) (fun j kv e => ?_) (fun j kv e => ?_) (by rw [List.size_toArray, hli]; exact hz') (fun h' tk dd hk => ?_)
  · have hv' : its[i]? = some v := by simpa using hv
    have hi : i < as.length := by rw [← hli]; exact (List.getElem?_eq_some_iff.mp hv').1
    have ha : as[i]? = some as[i] := List.getElem?_eq_getElem hi
    obtain ⟨x, ex, rx⟩ := vals_at ri (j := i) (by rw [hli]; exact hi)
    rw [List.getElem?_map, ha] at ex
    cases ex
    rw [List.getElem?_eq_getElem (by rw [hli]; exact hi)] at hv'
    cases hv'
    rw [List.getD_eq_getElem?_getD, ha]
    exact rx
  · obtain ⟨kv', e', rfl⟩ := hmj j kv e
    exact (hf j kv' e').2.1
  · obtain ⟨kv', e', rfl⟩ := hmj j kv e
    exact (hf j kv' e').2.2
  · have hz2 : (mergeK [] kvs).length ≤ sizeLine := by
      have h1 := length_mergeK kvs []
      simp at h1
      omega
    have rel : KV (mergeK [] kvs) (merged [] more) := KV.merge hKV .nil
    have I' := I.laid (a := s.heap.objs.size) (o := .dK (mergeK [] kvs)) (h' := h') (t' := tk) (fun b u e => hk b u (Heap.lt_size e) e) (Nat.le_refl _) (dk_new hz2 (beq_eq_false_iff_ne.mpr (Ne.symm (Nat.ne_of_lt I.big))) rel dd)
    exact ⟨.ref _, _, I', rfl, q _ (I.hok.fresh (Nat.le_refl _))⟩
end L3
namespace L3
open PySem PySem.Spec PyProof.Rows L2
section
variable {js : List Nat} {te : TE} {σ : L2.St} {H : Hp} {Q : VK}
end
end L3
namespace L3
open PySem PySem.Spec PyProof.Rows L2
def hiD (k0 : Kw) : List (Key × V) := k0.map fun e => (Sum.inr e.1, V.int e.2.last)
def HiAt (H : Hp) (hd : Addr) (kn : Kw) : Prop := ∃ k0 : Kw, H hd = some (.dK (hiD k0)) ∧ k0.Perm kn ∧ (kn.map (·.1)).Nodup
theorem HiAt.same {H H' : Hp} {hd : Addr} {kn : Kw} (h : HiAt H hd kn) (s : Same H H') : HiAt H' hd kn := let ⟨k0, e, r⟩ := h; ⟨k0, s _ _ e, r⟩
theorem valV_hi (nm : Str) : ∀ kn : Kw, valV (hiD kn) (Sum.inr nm : Key) = (kn.lookup nm).map fun e => V.int e.last
  | [] => rfl
  | (m, e) :: r => by
    show valV ((Sum.inr m, V.int e.last) :: hiD r) (Sum.inr nm) = _
    by_cases q : m = nm
    · subst q
      rw [valV_pos rfl, List.lookup_cons_self]; rfl
    · rw [valV_neg (by intro z; injection z with z; exact q z), List.lookup_cons, beq_false_of_ne (fun z => q z.symm)]
      exact valV_hi nm r
theorem HiAt.get {H : Hp} {hd : Addr} {kn : Kw} (h : HiAt H hd kn) (nm : Str) : DGet H hd (.str nm) ((kn.lookup nm).map fun e => V.int e.last) := by
  obtain ⟨k0, e, pm, nd⟩ := h
  have g := DGet.k (k := Sum.inr nm) e
  rw [valV_hi, lookup_perm pm nd] at g
  exact g
theorem hiD_keys (k0 : Kw) : (hiD k0).map (·.1) = (k0.map (·.1)).map Sum.inr := by
  unfold hiD
  rw [List.map_map, List.map_map]; rfl
theorem hear_two (D : Dr) (nm : Str) (age c d : Int) (nd : (D.kn.map (·.1)).Nodup) :
    (∃ w, (hearJ D nm age (some (c, d))).1 = [.str "held", .str w] ∧ ((hearJ D nm age (some (c, d))).2 = D.kn ∨ ∃ e x, D.kn.lookup nm = some e ∧ x.last = e.last ∧ (hearJ D nm age (some (c, d))).2 = putN D.kn nm x)) ∨
    (∃ e, D.kn.lookup nm = some e ∧ e.last < c ∧ hearJ D nm age (some (c, d)) = ([.str "open", .str nm, .int d], putN D.kn nm ⟨age, c, none⟩)) := by
  cases e1 : D.kn.lookup nm with
  | none => exact .inl ⟨"unknown", by unfold hearJ; rw [e1], .inl (by unfold hearJ; rw [e1])⟩
  | some e =>
    cases ht : takesB D e age with
    | false => exact .inl ⟨"age", by rw [hear_age e1 ht], .inl (by rw [hear_age e1 ht])⟩
    | true =>
      cases ho : openJ D.near D.far e age c with
      | true =>
        refine .inr ⟨e, rfl, ?_, ?_⟩
        · rw [openJ_eq] at ho
          refine Int.lt_of_not_ge fun z => ?_
          rw [if_pos z] at ho; cases ho
        · unfold hearJ; rw [e1]; simp only; rw [if_pos ht, if_pos (step_near ho), step_open ho]
      | false =>
        have hn : ¬ (stepJ D.near D.far e age c).1 = "near" := of_decide_eq_false ho
        refine .inl ⟨(stepJ D.near D.far e age c).1, ?_, .inr ⟨e, (stepJ D.near D.far e age c).2, rfl, ?_, ?_⟩⟩
        · unfold hearJ; rw [e1]; simp only; rw [if_pos ht, if_neg hn]
        · rw [step_shut ho]; split <;> rfl
        · unfold hearJ; rw [e1]; simp only; rw [if_pos ht, if_neg hn]
end L3
namespace L3
open PySem PySem.Spec PyProof.Rows L2
end L3
namespace L3
open PySem PySem.Spec PyProof.Rows L2
section
variable {K : PySem.W.Frag} {C : Addr} {H0 H H' : Hp} {a : Ad} {n n' : Nat} {D D' : Dr} {kl : Kw} {hd kp b : Addr} {as : List Addr} {ps : List Pp} {nb nb' : Nat}
end
end L3
namespace L3
open PySem PySem.Spec PyProof.Rows L2
end L3
namespace L3
open PySem PySem.Spec PyProof.Rows L2
section
variable {K : PySem.W.Frag} {C : Addr} {H0 H H' : Hp} {a : Ad} {n n' : Nat} {D D' : Dr} {kl : Kw} {hd kp b nl : Addr} {as : List Addr} {ps : List Pp} {nb nb' : Nat} {nn : List Str}
end
end L3
namespace L3
open PySem PySem.Spec PyProof.Rows L2
end L3
namespace L3
open PySem PySem.Spec PyProof.Rows L2
end L3
namespace L3
open PySem PySem.Spec PyProof.Rows L2
end L3
namespace L3
open PySem PySem.Spec PyProof.Rows L2
end L3
namespace L3
open PySem PySem.Spec PyProof.Rows L2
end L3
namespace L3
open PySem PySem.Spec PyProof.Rows L2
end L3
namespace L3
open PySem PySem.Spec PyProof.Rows L2
end L3
namespace L3
open PySem PySem.Spec PyProof.Rows L2
end L3
namespace L3
open PySem PySem.Spec PySem.Calls PySem.W PyProof.Rows Builtin Builtin.ObjectAttr Builtin.Getset_descriptor
section
variable {prog : Program} {w : World} {A : Around} {E : Value → Shared → Prop} {K : PySem.W.Frag} {h : Heap} {g : Array GenState} {d : Drawn} {t : Nat} {os : OsState} {a C : Addr} {o : Obj}
end
end L3
namespace L3
open PySem PySem.Spec PyProof.Rows L2
end L3
namespace L3
open PySem PySem.Spec PyProof.Rows L2 SeqAt
end L3
namespace L3
open PySem PySem.Spec PyProof.Rows L2
section
variable (K : PySem.W.Frag) (C : Addr) (x : Xa)
end
end L3
namespace L3
open PySem PySem.Spec PyProof.Rows L2
end L3
namespace L3
open PySem PySem.Spec PyProof.Rows L2
end L3
namespace L3
open PySem PySem.Spec PyProof.Rows L2
end L3
namespace L3
open PySem PySem.Spec PyProof.Rows L2
end L3
namespace L3
open PySem PySem.Spec PyProof.Rows L2
end L3
namespace L3
open PySem PySem.Spec PyProof.Rows L2
section
open SeqAt
variable {X : Cx} {pins : List (Addr × Obj)} {σ : L2.St} {H : Hp} {s : Shared}
end
section
variable (K : PySem.W.Frag) (C : Addr) (x : Xa)
end
end L3
namespace L3
open PySem PySem.Spec PyProof.Rows L2
end L3
namespace L3
open PySem PySem.Spec PyProof.Rows L2
section
variable {H H' : Hp} {d lc : Addr} {B : Bt}
end
structure BtOk (B : Bt) : Prop where
  c0 : 0 ≤ B.cnt
  cb : B.cnt ≤ B.bnd
  bm : B.bnd ≤ 4096
  s1 : 1 ≤ B.step
  eq : B.x = some B.bnd ∨ B.y = some B.bnd
  hx : ∀ v, B.x = some v → 0 ≤ v ∧ v ≤ B.bnd
  hy : ∀ v, B.y = some v → 0 ≤ v ∧ v ≤ B.bnd
theorem BtOk.new {nm : Str} {t ks : List Int} {age step : Int} (h : 1 ≤ step) : BtOk ⟨nm, t, ks, age, step, 0, 0, some 0, none⟩ :=
  ⟨Int.le_refl _, Int.le_refl _, by show (0 : Int) ≤ 4096; decide, h, .inl rfl, fun v e => by cases e; exact ⟨Int.le_refl _, Int.le_refl _⟩, fun v e => by cases e⟩
theorem BtOk.pr {B : Bt} (h : BtOk B) (hc : B.cnt < 4096) : BtOk B.pr := by
  obtain ⟨c0, cb, bm, s1, eq, hx, hy⟩ := h
  unfold Bt.pr
  by_cases m : B.mw = true
  · rw [if_pos m]
    have hm : B.cnt = B.bnd := by
      unfold Bt.mw at m
      rw [Bool.and_eq_true] at m
      exact of_decide_eq_true m.1
    have n1 : B.bnd + 1 ≤ B.nb := by unfold Bt.nb; split <;> omega
    have n2 : B.nb ≤ 4096 := by unfold Bt.nb; split <;> omega
    unfold Bt.wr
    by_cases e : B.x = some B.bnd
    · rw [if_pos e]
      refine ⟨by show 0 ≤ B.cnt + 1; omega, by show B.cnt + 1 ≤ B.nb; omega, n2, s1, .inr rfl, fun v q => ?_, fun v q => ?_⟩
      · have := hx v q; show 0 ≤ v ∧ v ≤ B.nb; omega
      · have q' : some B.nb = some v := q
        cases q'; show 0 ≤ B.nb ∧ B.nb ≤ B.nb; omega
    · rw [if_neg e]
      refine ⟨by show 0 ≤ B.cnt + 1; omega, by show B.cnt + 1 ≤ B.nb; omega, n2, s1, .inl rfl, fun v q => ?_, fun v q => ?_⟩
      · have q' : some B.nb = some v := q
        cases q'; show 0 ≤ B.nb ∧ B.nb ≤ B.nb; omega
      · have := hy v q; show 0 ≤ v ∧ v ≤ B.nb; omega
  · rw [if_neg m]
    have hm : B.cnt ≠ B.bnd := fun z => m (by unfold Bt.mw; rw [decide_eq_true z, decide_eq_false (by omega : ¬ 4096 ≤ B.cnt)]; rfl)
    exact ⟨by show 0 ≤ B.cnt + 1; omega, by show B.cnt + 1 ≤ B.bnd; omega, bm, s1, eq, hx, hy⟩
theorem BtOk.ok {B : Bt} (h : BtOk B) : B.bnd ∈ okC B.x B.y ∧ 0 < (okC B.x B.y).length ∧ ∀ a ∈ okC B.x B.y, a ≤ B.bnd := by
  obtain ⟨c0, cb, bm, s1, eq, hx, hy⟩ := h
  have hm : B.bnd ∈ okC B.x B.y := by
    unfold okC
    rcases eq with e | e
    · rw [e]; exact List.mem_append_left _ (List.mem_singleton.mpr rfl)
    · rw [e]; exact List.mem_append_right _ (List.mem_singleton.mpr rfl)
  refine ⟨hm, List.length_pos_of_mem hm, fun a ha => ?_⟩
  unfold okC at ha
  rcases List.mem_append.mp ha with z | z
  · cases e : B.x with
    | none => rw [e] at z; cases z
    | some v => rw [e] at z; rw [List.mem_singleton.mp z]; exact (hx v e).2
  · cases e : B.y with
    | none => rw [e] at z; cases z
    | some v => rw [e] at z; rw [List.mem_singleton.mp z]; exact (hy v e).2
section
variable {E : Hp → O2 → Prop} {K : PySem.W.Frag} {C : Addr} {H H' : Hp} {b L : Addr} {n n' : Nat} {os : List O2}
end
def notN (v : V) : Bool := !decide (v = .non)
theorem notN_cells (x y : Option Int) : [oV x, oV y].filter notN = (okC x y).map V.int := by
  cases x <;> cases y <;> rfl
theorem filt_step {xs : List V} {i : Nat} {x : V} (h : xs[i]? = some x) : (xs.take (i + 1)).filter notN = if notN x = true then (xs.take i).filter notN ++ [x] else (xs.take i).filter notN := by
  rw [List.take_add_one, h, Option.toList_some, List.filter_append]
  by_cases e : notN x = true
  · rw [if_pos e, List.filter_cons_of_pos e]; rfl
  · rw [if_neg e, List.filter_cons_of_neg e]; simp
end L3
namespace L3
open PySem PySem.Spec PyProof.Rows L2
open Sem (wp)
section
variable {X : Cx} {pins : List (Addr × Obj)} {σ : L2.St} {H : Hp} {s : Shared}
end
def Bt.ou (B : Bt) : Bt := { B with cnt := B.bnd }
theorem BtOk.ou {B : Bt} (h : BtOk B) : BtOk B.ou := ⟨by show 0 ≤ B.bnd; have := h.c0; have := h.cb; omega, Int.le_refl _, h.bm, h.s1, h.eq, h.hx, h.hy⟩
def spBOut (K : PySem.W.Frag) (C : Addr) : Sp := fun vs H Q _ => ∃ (p ta ka ce : Addr) (B : Bt), vs = [.ref p] ∧ BtnAt K C H p ta ka ce B ∧ BtOk B ∧ ∀ H', Mv [p, ce] H H' → BtnAt K C H' p ta ka ce B.ou → Q .non H'
end L3
namespace L3
open PySem PySem.Spec PyProof.Rows L2
def Bt.tn (B : Bt) : Bt := if B.mw then (if B.x = some B.bnd then { B with y := none } else { B with x := none }).ou else B.ou
theorem BtOk.tn {B : Bt} (h : BtOk B) : BtOk B.tn := by
  unfold Bt.tn
  by_cases m : B.mw = true
  · rw [if_pos m]
    by_cases e : B.x = some B.bnd
    · rw [if_pos e]
      exact BtOk.ou ⟨h.c0, h.cb, h.bm, h.s1, .inl e, h.hx, fun v q => by cases q⟩
    · rw [if_neg e]
      exact BtOk.ou ⟨h.c0, h.cb, h.bm, h.s1, .inr (h.eq.resolve_left e), (fun v q => by cases q), h.hy⟩
  · rw [if_neg m]; exact h.ou
theorem tn_cnt (B : Bt) : B.tn.cnt = B.bnd := by unfold Bt.tn; split <;> (try split) <;> rfl
theorem tn_nm (B : Bt) : B.tn.nm = B.nm := by unfold Bt.tn; split <;> (try split) <;> rfl
theorem tn_t (B : Bt) : B.tn.t = B.t := by unfold Bt.tn; split <;> (try split) <;> rfl
theorem tn_ks (B : Bt) : B.tn.ks = B.ks := by unfold Bt.tn; split <;> (try split) <;> rfl
theorem tn_age (B : Bt) : B.tn.age = B.age := by unfold Bt.tn; split <;> (try split) <;> rfl
section
variable (K : PySem.W.Frag) (C : Addr) (x : Xa)
def spBTorn : Sp := fun vs H Q _ => ∃ (p ta ka ce : Addr) (B : Bt), vs = [.ref p] ∧ BtnAt K C H p ta ka ce B ∧ BtOk B ∧ ∀ H', Mv [p, ce] H H' → BtnAt K C H' p ta ka ce B.tn → Q .non H'
end
section
variable {K : PySem.W.Frag} {C : Addr} {H H' : Hp} {o : O3} {B : Bt} {bx : Addr} {n : Nat}
end
section
variable (K : PySem.W.Frag) (C : Addr)
end
end L3
namespace L3
open PySem PySem.Spec PyProof.Rows L2
def spBTurn (K : PySem.W.Frag) (C : Addr) : Sp := fun vs H Q _ => ∃ (p ta ka ce kt : Addr) (B : Bt) (ks : List Int), vs = [.ref p, .ref kt] ∧ BtnAt K C H p ta ka ce B ∧ Sq K H kt (ks.map V.int) ∧ B.age < 7 ∧ ∀ ka' H', Mv [p] H H' → BtnAt K C H' p ta ka' ce { B with ks := ks, age := B.age + 1 } → Q .non H'
inductive Sl where
  | b | el | dl | kl
  | e (i : Bool) | cl (i : Bool) | bp (i : Bool) | ce (i : Bool) | dp (i : Bool) | hk (i : Bool) | bd (i : Bool) | lg (i : Bool)
  deriving DecidableEq
structure Im where
  co : Addr
  ta : Addr
  t : List Int
  kss : List (List Int)
  nm : Bool → Str
def keyI (I : Im) (age : Int) : List Int := I.kss.getD age.toNat []
structure St4 where
  B : Bool → Bt
  cs : Bool → List Int
  ls : Bool → Bool
  D : Bool → Dr
  n : Nat
  nb : Nat
structure Wx (K : PySem.W.Frag) (CB CD : Addr) (H0 : Hp) (A : Sl → Addr) (I : Im) (H : Hp) (S : St4) : Prop where
  s : Same H0 H
  fr : ∀ s, H0 (A s) = none
  inj : ∀ s s', A s = A s' → s = s'
  bx : BoxC H (A .b) S.nb
  bt : ∀ i, ∃ ta ka, BtnAt K CB H (A (.bp i)) ta ka (A (.ce i)) (S.B i)
  en : ∀ i, H (A (.e i)) = some (.lst [.ref (A (.bp i)), .ref (A (.cl i)), .bl (S.ls i)])
  cl : ∀ i, H (A (.cl i)) = some (.lst ((S.cs i).map V.int))
  dr : ∀ j, ∃ ta, DoorAt K CD H (A (.dp j)) ta (A (.hk j)) (A (.bd j)) (A (.lg j)) S.n (S.D j)
  el : H (A .el) = some (.lst [.ref (A (.e false)), .ref (A (.e true))])
  dl : H (A .dl) = some (.lst [.ref (A (.dp false)), .ref (A (.dp true))])
  ks : KsAt K H (A .kl) I.kss
  co : H I.co = some (.tup [.ref I.ta, .ref (A .kl)])
  tb : H I.ta = some (.tup (I.t.map V.int))
section
variable {K : PySem.W.Frag} {CB CD : Addr} {H0 H H' : Hp} {A : Sl → Addr} {I : Im} {S : St4}
theorem Wx.nin (w : Wx K CB CD H0 A I H S) {s : Sl} {ss : List Sl} (h : s ∉ ss) : A s ∉ ss.map A := fun z => by
  obtain ⟨s', hs, e⟩ := List.mem_map.mp z
  rw [w.inj _ _ e] at hs
  exact h hs
theorem Wx.nt (w : Wx K CB CD H0 A I H S) (ss : List Sl) : NT (ss.map A) H := fun c hc => by
  obtain ⟨s, _, rfl⟩ := List.mem_map.mp hc
  cases s with
  | b => obtain ⟨x1, x2, x3, e, _⟩ := w.bx; exact ⟨_, e, trivial⟩
  | el => exact ⟨_, w.el, trivial⟩
  | dl => exact ⟨_, w.dl, trivial⟩
  | kl => obtain ⟨as, e, _⟩ := w.ks; exact ⟨_, e, trivial⟩
  | e i => exact ⟨_, w.en i, trivial⟩
  | cl i => exact ⟨_, w.cl i, trivial⟩
  | bp i => obtain ⟨_, _, b⟩ := w.bt i; obtain ⟨dx, e⟩ := b.ob; exact ⟨_, e, trivial⟩
  | ce i => obtain ⟨_, _, b⟩ := w.bt i; exact ⟨_, b.cs, trivial⟩
  | dp i => obtain ⟨_, d⟩ := w.dr i; obtain ⟨dx, e⟩ := d.ob; exact ⟨_, e, trivial⟩
  | hk i => obtain ⟨_, d⟩ := w.dr i; obtain ⟨as, e, _⟩ := d.ks; exact ⟨_, e, trivial⟩
  | bd i => obtain ⟨_, d⟩ := w.dr i; obtain ⟨f, e, _⟩ := d.kb; exact ⟨_, e, trivial⟩
  | lg i => obtain ⟨_, d⟩ := w.dr i; obtain ⟨rs, e, _⟩ := d.lo; exact ⟨_, e, trivial⟩
theorem Wx.stay (w : Wx K CB CD H0 A I H S) {ss : List Sl} (m : Mv (ss.map A) H H') : Same H0 H' := fun x o e => m _ _ (fun z => by
  obtain ⟨s, _, rfl⟩ := List.mem_map.mp z
  rw [w.fr s] at e; cases e) (w.s x o e)
theorem Wx.step (w : Wx K CB CD H0 A I H S) (ss : List Sl) (S' : St4) (m : Mv (ss.map A) H H')
    (hb : Sl.b ∈ ss ∨ S'.nb = S.nb := by first | exact .inr rfl | exact .inl (by simp)) (bx : Sl.b ∈ ss → BoxC H' (A .b) S'.nb := by first | (intro z; simp at z; done) | assumption)
    (hi : ∀ i, (Sl.bp i ∉ ss ∧ Sl.ce i ∉ ss ∧ S'.B i = S.B i) ∨ ∃ ta ka, BtnAt K CB H' (A (.bp i)) ta ka (A (.ce i)) (S'.B i))
    (he : ∀ i, (Sl.e i ∉ ss ∧ S'.ls i = S.ls i) ∨ H' (A (.e i)) = some (.lst [.ref (A (.bp i)), .ref (A (.cl i)), .bl (S'.ls i)]))
    (hc : ∀ i, (Sl.cl i ∉ ss ∧ S'.cs i = S.cs i) ∨ H' (A (.cl i)) = some (.lst ((S'.cs i).map V.int)))
    (hd : ∀ j, (Sl.dp j ∉ ss ∧ Sl.hk j ∉ ss ∧ Sl.bd j ∉ ss ∧ Sl.lg j ∉ ss ∧ S'.D j = S.D j) ∨ ∃ ta, DoorAt K CD H' (A (.dp j)) ta (A (.hk j)) (A (.bd j)) (A (.lg j)) S'.n (S'.D j))
    (hn : S.n ≤ S'.n) (h1 : Sl.el ∉ ss) (h2 : Sl.dl ∉ ss) (h3 : Sl.kl ∉ ss) : Wx K CB CD H0 A I H' S' := by
  have nt := w.nt ss
  refine ⟨w.stay m, w.fr, w.inj, ?_, fun i => ?_, fun i => ?_, fun i => ?_, fun j => ?_, m _ _ (w.nin h1) w.el, m _ _ (w.nin h2) w.dl, w.ks.mv m nt (w.nin h3), m.tup nt w.co, m.tup nt w.tb⟩
  · by_cases z : Sl.b ∈ ss
    · exact bx z
    · obtain ⟨x1, x2, x3, e, r⟩ := w.bx
      rw [hb.resolve_left z]
      exact ⟨x1, x2, x3, m _ _ (w.nin z) e, r⟩
  · rcases hi i with ⟨z1, z2, e⟩ | h
    · obtain ⟨ta, ka, b⟩ := w.bt i
      rw [e]; exact ⟨ta, ka, b.mv m nt (w.nin z1) (w.nin z2)⟩
    · exact h
  · rcases he i with ⟨z1, e⟩ | h
    · rw [e]; exact m _ _ (w.nin z1) (w.en i)
    · exact h
  · rcases hc i with ⟨z1, e⟩ | h
    · rw [e]; exact m _ _ (w.nin z1) (w.cl i)
    · exact h
  · rcases hd j with ⟨z1, z2, z3, z4, e⟩ | h
    · obtain ⟨ta, d⟩ := w.dr j
      rw [e]; exact ⟨ta, (d.mv m nt (w.nin z1) (w.nin z2) (w.nin z3) (w.nin z4)).mono hn⟩
    · exact h
theorem Wx.same (w : Wx K CB CD H0 A I H S) (s : Same H H') : Wx K CB CD H0 A I H' S :=
  w.step [] S (s.mv) (.inr rfl) (fun z => by simp at z) (fun i => .inl ⟨by simp, by simp, rfl⟩) (fun i => .inl ⟨by simp, rfl⟩) (fun i => .inl ⟨by simp, rfl⟩) (fun j => .inl ⟨by simp, by simp, by simp, by simp, rfl⟩) (Nat.le_refl _) (by simp) (by simp) (by simp)
theorem Wx.grc {n : Nat} (w : Wx K CB CD H0 A I H S) (g : GrC (A .b) n H H') : Wx K CB CD H0 A I H' { S with nb := n } :=
  w.step [.b] { S with nb := n } g.mv (.inl (List.mem_cons_self ..)) (fun _ => g.bx) (fun i => .inl ⟨by simp, by simp, rfl⟩) (fun i => .inl ⟨by simp, rfl⟩) (fun i => .inl ⟨by simp, rfl⟩) (fun j => .inl ⟨by simp, by simp, by simp, by simp, rfl⟩) (Nat.le_refl _) (by simp) (by simp) (by simp)
def St4.setB (S : St4) (i : Bool) (B : Bt) : St4 := { S with B := fun k => if k = i then B else S.B k }
def St4.setC (S : St4) (i : Bool) (c : List Int) : St4 := { S with cs := fun k => if k = i then c else S.cs k }
def St4.setL (S : St4) (i : Bool) (l : Bool) : St4 := { S with ls := fun k => if k = i then l else S.ls k }
def St4.setD (S : St4) (j : Bool) (D : Dr) : St4 := { S with D := fun k => if k = j then D else S.D k, n := S.n + 1 }
theorem Wx.button (w : Wx K CB CD H0 A I H S) (i : Bool) {B : Bt} {ta ka : Addr} (m : Mv [A (.bp i), A (.ce i)] H H') (b : BtnAt K CB H' (A (.bp i)) ta ka (A (.ce i)) B) : Wx K CB CD H0 A I H' (S.setB i B) :=
  w.step [.bp i, .ce i] (S.setB i B) m (.inr rfl) (fun z => by simp at z) (fun k => by
    by_cases e : k = i
    · subst e; exact .inr ⟨ta, ka, by show BtnAt _ _ _ _ _ _ _ (if k = k then B else _); rw [if_pos rfl]; exact b⟩
    · exact .inl ⟨by simp [e], by simp [e], if_neg e⟩) (fun k => .inl ⟨by simp, rfl⟩) (fun k => .inl ⟨by simp, rfl⟩) (fun j => .inl ⟨by simp, by simp, by simp, by simp, rfl⟩) (Nat.le_refl _) (by simp) (by simp) (by simp)
theorem Wx.door (w : Wx K CB CD H0 A I H S) (j : Bool) {D : Dr} {ta : Addr} (m : Mv [A (.bd j), A (.lg j)] H H') (d : DoorAt K CD H' (A (.dp j)) ta (A (.hk j)) (A (.bd j)) (A (.lg j)) (S.n + 1) D) : Wx K CB CD H0 A I H' (S.setD j D) :=
  w.step [.bd j, .lg j] (S.setD j D) m (.inr rfl) (fun z => by simp at z) (fun k => .inl ⟨by simp, by simp, rfl⟩) (fun k => .inl ⟨by simp, rfl⟩) (fun k => .inl ⟨by simp, rfl⟩) (fun k => by
    by_cases e : k = j
    · subst e; exact .inr ⟨ta, by show DoorAt _ _ _ _ _ _ _ _ (S.n + 1) (if k = k then D else _); rw [if_pos rfl]; exact d⟩
    · exact .inl ⟨by simp, by simp, by simp [e], by simp [e], if_neg e⟩) (Nat.le_succ _) (by simp) (by simp) (by simp)
theorem Wx.counts (w : Wx K CB CD H0 A I H S) (i : Bool) (c : List Int) : Wx K CB CD H0 A I (upd H (A (.cl i)) (.lst (c.map V.int))) (S.setC i c) :=
  w.step [.cl i] (S.setC i c) Mv.upd1 (.inr rfl) (fun z => by simp at z) (fun k => .inl ⟨by simp, by simp, rfl⟩) (fun k => .inl ⟨by simp, rfl⟩) (fun k => by
    by_cases e : k = i
    · subst e; exact .inr (by show _ = some (HO.lst ((if k = k then c else _).map V.int)); rw [if_pos rfl, upd_same])
    · exact .inl ⟨by simp [e], if_neg e⟩) (fun j => .inl ⟨by simp, by simp, by simp, by simp, rfl⟩) (Nat.le_refl _) (by simp) (by simp) (by simp)
theorem Wx.lost (w : Wx K CB CD H0 A I H S) (i l : Bool) : Wx K CB CD H0 A I (upd H (A (.e i)) (.lst [.ref (A (.bp i)), .ref (A (.cl i)), .bl l])) (S.setL i l) :=
  w.step [.e i] (S.setL i l) Mv.upd1 (.inr rfl) (fun z => by simp at z) (fun k => .inl ⟨by simp, by simp, rfl⟩) (fun k => by
    by_cases e : k = i
    · subst e; exact .inr (by show _ = some (HO.lst [_, _, .bl (if k = k then l else _)]); rw [if_pos rfl, upd_same])
    · exact .inl ⟨by simp [e], if_neg e⟩) (fun k => .inl ⟨by simp, rfl⟩) (fun j => .inl ⟨by simp, by simp, by simp, by simp, rfl⟩) (Nat.le_refl _) (by simp) (by simp) (by simp)
end
structure Cq where
  q : Addr
  pr : Addr
  nm : Str
  age : Int
  c : Int
  d : Int
def CqAt (H : Hp) (I : Im) (r : Cq) : Prop := H r.q = some (.tup [.ref r.pr, .int r.c]) ∧ PrAt H r.pr r.nm r.age (codeI I.t (keyI I r.age) r.nm r.c r.d) ∧ isNm r.nm ∧ 0 ≤ r.age ∧ r.age < I.kss.length ∧ 0 ≤ r.c ∧ r.c < 4096 ∧ dig r.d
theorem CqAt.mv {Z : List Addr} {H H' : Hp} {I : Im} {r : Cq} (m : Mv Z H H') (n : NT Z H) (h : CqAt H I r) : CqAt H' I r := ⟨m.tup n h.1, PrAt.mv m n h.2.1, h.2.2⟩
structure Cw (H0 : Hp) (A : Sl → Addr) (I : Im) (H : Hp) (cad : Addr) (cqs : List Cq) : Prop where
  ne : ∀ s, A s ≠ cad
  h0 : H0 cad = none
  at_ : H cad = some (.lst (cqs.map fun r => V.ref r.q))
  cq : ∀ r ∈ cqs, CqAt H I r
  ln : cqs.length ≤ 60
section
variable {K : PySem.W.Frag} {CB CD : Addr} {H0 H H' : Hp} {A : Sl → Addr} {I : Im} {S : St4} {cad : Addr} {cqs : List Cq}
theorem Cw.mv {Z : List Addr} (c : Cw H0 A I H cad cqs) (m : Mv Z H H') (n : NT Z H) (h : cad ∉ Z) : Cw H0 A I H' cad cqs := ⟨c.ne, c.h0, m _ _ h c.at_, fun r hr => (c.cq r hr).mv m n, c.ln⟩
theorem Cw.sl (c : Cw H0 A I H cad cqs) (w : Wx K CB CD H0 A I H S) (ss : List Sl) (m : Mv (ss.map A) H H') : Cw H0 A I H' cad cqs := c.mv m (w.nt ss) (fun z => by
  obtain ⟨s, _, e⟩ := List.mem_map.mp z
  exact c.ne s e)
theorem Cw.same (c : Cw H0 A I H cad cqs) (s : Same H H') : Cw H0 A I H' cad cqs := c.mv (Z := []) s.mv (fun c h => nomatch h) (fun h => nomatch h)
theorem Wx.caught (w : Wx K CB CD H0 A I H S) (c : Cw H0 A I H cad cqs) (o : HO) : Wx K CB CD H0 A I (upd H cad o) S := by
  have m : Mv [cad] H (upd H cad o) := Mv.upd1
  have nt : NT [cad] H := NT.one c.at_ trivial
  have ni : ∀ s, A s ∉ [cad] := fun s => nin1 (c.ne s)
  refine ⟨fun x u e => ?_, w.fr, w.inj, ?_, fun i => ?_, fun i => m _ _ (ni _) (w.en i), fun i => m _ _ (ni _) (w.cl i), fun j => ?_, m _ _ (ni _) w.el, m _ _ (ni _) w.dl, w.ks.mv m nt (ni _), m.tup nt w.co, m.tup nt w.tb⟩
  · rw [upd_ne (ne_of_none e c.h0)]; exact w.s x u e
  · obtain ⟨x1, x2, x3, e, r⟩ := w.bx
    exact ⟨x1, x2, x3, m _ _ (ni _) e, r⟩
  · obtain ⟨ta, ka, b⟩ := w.bt i
    exact ⟨ta, ka, b.mv m nt (ni _) (ni _)⟩
  · obtain ⟨ta, d⟩ := w.dr j
    exact ⟨ta, d.mv m nt (ni _) (ni _) (ni _) (ni _)⟩
end
end L3
namespace L3
open PySem PySem.Spec PyProof.Rows L2
structure Wp (I : Im) (S : St4) : Prop where
  nm : ∀ i, isNm (I.nm i)
  tp : I.t.Perm digs
  k4 : I.kss.length = 4
  b : ∀ i, BtOk (S.B i)
  bn : ∀ i, (S.B i).nm = I.nm i
  bt : ∀ i, (S.B i).t = I.t
  bk : ∀ i, (S.B i).ks = keyI I (S.B i).age
  ba : ∀ i, 0 ≤ (S.B i).age ∧ (S.B i).age < 4
  dt : ∀ j, (S.D j).t = I.t
  dk : ∀ j, (S.D j).kss = I.kss
  do_ : ∀ j, DrOk (S.D j)
  kb : ∀ j, ∀ e ∈ (S.D j).kn, KbOk (S.D j) e.2
def Wy (S : St4) : Prop := ∀ i, ∃ (L : Int) (r : List Int), S.cs i = r ++ [L] ∧ L < (S.B i).cnt ∧ (S.ls i = false → (S.B i).cnt = L + 1)
theorem keyI_A {I : Im} {D : Dr} (h : D.kss = I.kss) (age : Int) : keyA D age = keyI I age := by unfold keyA keyI; rw [h]
section
variable {I : Im} {S : St4}
theorem Wp.setB (p : Wp I S) (i : Bool) {B : Bt} (h1 : BtOk B) (h2 : B.nm = I.nm i) (h3 : B.t = I.t) (h4 : B.ks = keyI I B.age) (h5 : 0 ≤ B.age ∧ B.age < 4) : Wp I (S.setB i B) := by
  have e : ∀ {Pr : Bt → Prop}, (∀ k, Pr (S.B k)) → Pr B → ∀ k, Pr ((S.setB i B).B k) := fun {Pr} q1 q2 k => by
    show Pr (if k = i then B else S.B k)
    split
    · exact q2
    · exact q1 k
  refine ⟨p.nm, p.tp, p.k4, e (Pr := BtOk) p.b h1, fun k => ?_, e (Pr := fun B => B.t = I.t) p.bt h3, e (Pr := fun B => B.ks = keyI I B.age) p.bk h4, e (Pr := fun B => 0 ≤ B.age ∧ B.age < 4) p.ba h5, p.dt, p.dk, p.do_, p.kb⟩
  show (if k = i then B else S.B k).nm = _
  split
  · rename_i z; rw [z]; exact h2
  · exact p.bn k
theorem Wp.setD (p : Wp I S) (j : Bool) {D : Dr} (h1 : D.t = I.t) (h2 : D.kss = I.kss) (h3 : DrOk D) (h4 : ∀ e ∈ D.kn, KbOk D e.2) : Wp I (S.setD j D) := by
  have e : ∀ {Pr : Dr → Prop}, (∀ k, Pr (S.D k)) → Pr D → ∀ k, Pr ((S.setD j D).D k) := fun {Pr} q1 q2 k => by
    show Pr (if k = j then D else S.D k)
    split
    · exact q2
    · exact q1 k
  exact ⟨p.nm, p.tp, p.k4, p.b, p.bn, p.bt, p.bk, p.ba, e (Pr := fun D => D.t = I.t) p.dt h1, e (Pr := fun D => D.kss = I.kss) p.dk h2, e (Pr := DrOk) p.do_ h3, e (Pr := fun D => ∀ e ∈ D.kn, KbOk D e.2) p.kb h4⟩
theorem Wp.nb (p : Wp I S) (n : Nat) : Wp I { S with nb := n } := ⟨p.nm, p.tp, p.k4, p.b, p.bn, p.bt, p.bk, p.ba, p.dt, p.dk, p.do_, p.kb⟩
theorem Wp.setC (p : Wp I S) (i : Bool) (c : List Int) : Wp I (S.setC i c) := ⟨p.nm, p.tp, p.k4, p.b, p.bn, p.bt, p.bk, p.ba, p.dt, p.dk, p.do_, p.kb⟩
theorem Wp.setL (p : Wp I S) (i c : Bool) : Wp I (S.setL i c) := ⟨p.nm, p.tp, p.k4, p.b, p.bn, p.bt, p.bk, p.ba, p.dt, p.dk, p.do_, p.kb⟩
end
theorem atI_lastI (r : List Int) (L : Int) : atI ((r ++ [L]).map V.int) (-1) = some (.int L) := by
  unfold atI
  have hl : ((r ++ [L]).map V.int).length = r.length + 1 := by rw [List.length_map, List.length_append]; rfl
  rw [hl]
  have e : ixN (r.length + 1) (-1) = some r.length := by
    unfold ixN
    rw [if_neg (by decide), if_pos (by omega)]
    congr 1
    omega
  rw [e]
  show ((r ++ [L]).map V.int)[r.length]? = _
  rw [List.getElem?_map, List.getElem?_append_right (Nat.le_refl _), Nat.sub_self]
  rfl
def spName64 : Sp := fun vs H Q _ => ∃ (b : Addr) (c : Nat), vs = [.ref b] ∧ BoxC H b c ∧ c < 100000000 ∧ ∀ z H', GrC b (c + 1) H H' → isNm z → z ≠ "other" → Q (.str z) H'
def spPressed64 (K : PySem.W.Frag) (CB CD : Addr) : Sp := fun vs H Q _ => ∃ (H0 : Hp) (A : Sl → Addr) (I : Im) (S : St4) (cad : Addr) (cqs : List Cq) (i : Bool), vs = [.ref (A .b), .ref I.co, .ref (A (.e i)), .ref (A .dl), .ref cad] ∧ Wx K CB CD H0 A I H S ∧ Wp I S ∧ Wy S ∧ Cw H0 A I H cad cqs ∧ (S.B i).cnt < 4000 ∧ S.nb < 100000 ∧ S.n ≤ 900 ∧ cqs.length < 60 ∧ (∀ k, (S.cs k).length < 100) ∧
  ∀ H' S' cqs', Wx K CB CD H0 A I H' S' → Wp I S' → Wy S' → Cw H0 A I H' cad cqs' → S'.nb = S.nb + 2 → S'.n ≤ S.n + 2 → cqs'.length = cqs.length + 1 → (∀ k, (S'.cs k).length ≤ (S.cs k).length + 1) → Q (.bl true) H'
theorem Wx.new {K : PySem.W.Frag} {CB CD l : Addr} {H0 H : Hp} {A : Sl → Addr} {I : Im} {S : St4} (w : Wx K CB CD H0 A I H S) (h : H l = none) : ∀ s, A s ≠ l := fun s e => by
  obtain ⟨o, e', _⟩ := w.nt [s] (A s) (by simp)
  rw [e, h] at e'; cases e'
theorem Cw.app {H0 H : Hp} {A : Sl → Addr} {I : Im} {cad t : Addr} {cqs : List Cq} {r : Cq} (c : Cw H0 A I H cad cqs) (ht : H t = none) (hr : r.q = t) (h : PrAt H r.pr r.nm r.age (codeI I.t (keyI I r.age) r.nm r.c r.d)) (h1 : isNm r.nm) (h2 : 0 ≤ r.age) (h3 : r.age < I.kss.length) (h4 : 0 ≤ r.c) (h5 : r.c < 4096) (h6 : dig r.d) (hl : cqs.length < 60) :
    Cw H0 A I (upd (upd H t (.tup [.ref r.pr, .int r.c])) cad (.lst ((cqs.map fun r => V.ref r.q) ++ [.ref t]))) cad (cqs ++ [r]) := by
  have u := Same.upd (o := .tup [.ref r.pr, .int r.c]) ht
  have c1 := c.same u
  have m : Mv [cad] (upd H t (.tup [.ref r.pr, .int r.c])) (upd (upd H t (.tup [.ref r.pr, .int r.c])) cad (.lst ((cqs.map fun r => V.ref r.q) ++ [.ref t]))) := Mv.upd1
  have nt : NT [cad] (upd H t (.tup [.ref r.pr, .int r.c])) := NT.one c1.at_ trivial
  refine ⟨c.ne, c.h0, by rw [upd_same, List.map_append]; rw [← hr]; rfl, fun x hx => ?_, by rw [List.length_append]; have : [r].length = 1 := rfl; omega⟩
  rcases List.mem_append.mp hx with hx | hx
  · exact (c1.cq x hx).mv m nt
  · rw [List.mem_singleton.mp hx]
    exact CqAt.mv m nt ⟨by rw [hr]; exact upd_same, PrAt.same u h, h1, h2, h3, h4, h5, h6⟩
theorem comp_tup4 {K : PySem.W.Frag} {js : List Nat} {te : TE} {σ : L2.St} {H : Hp} {Q : VK} {a : Addr} {xs : List V} (hn : xs.length ≤ sizeLine) (Pv : Nat → List V → Hp → Prop) (h0 : Pv 0 [] H) (hl : ∀ i ys H, Pv i ys H → SqT K H a xs)
    (hs : ∀ i ys H x, xs[i]? = some x → ys.length = i → Pv i ys H → ∃ p x1 x2 x3 x4, x = .ref p ∧ SqT K H p [x1, x2, x3, x4] ∧ te (some x1 :: some x2 :: some x3 :: some x4 :: frees js σ) H fun v H3 => Pv (i + 1) (ys ++ [v]) H3)
    (hd : ∀ ys H, ys.length = xs.length → Pv xs.length ys H → ∀ p, H p = none → Q (.ref p) (upd H p (.lst ys))) :
    CompG 4 js (gTup K 4 (gCons (gName 0) (gCons (gName 1) (gCons (gName 2) (gCons (gName 3) gNil))))) te σ Q (Itt K a) H := by
  refine ⟨fun i m zs τ H => m = xs.length - i ∧ i ≤ xs.length ∧ zs.length = i ∧ Pv i zs H ∧ ∃ o o' o2 o3, τ = o :: o' :: o2 :: o3 :: frees js σ, ⟨xs.length, by simp, Nat.zero_le _, rfl, h0, none, none, none, none, rfl⟩, ?_⟩
  rintro i m zs τ H ⟨rfl, hi, hzl, p, o, o', o2, o3, rfl⟩
  by_cases hlt : i < xs.length
  · refine .inr ⟨⟨xs, xs[i], hl _ _ _ p, by simp [hlt]⟩, by omega, fun x H' y => ?_⟩
    obtain ⟨e, hx⟩ : H' = H ∧ xs[i]? = some x := ⟨y.1, y.2 xs (hl _ _ _ p)⟩
    subst e
    obtain ⟨pp, x1, x2, x3, x4, rfl, hp, ht⟩ := hs i zs _ x hx hzl p
    refine ⟨pp, _, rfl, hp, rfl, _, _, rfl, _, _, rfl, _, _, rfl, _, _, rfl, rfl, ?_⟩
    exact ⟨fun v H3 => Pv (i + 1) (zs ++ [v]) H3, fun v H3 p3 => ⟨xs.length - (i + 1), by omega, rfl, hlt, by simp [hzl], p3, _, _, _, _, rfl⟩, ht⟩
  · have e : i = xs.length := by omega
    subst e
    exact .inl ⟨⟨xs, hl _ _ _ p, Nat.le_refl _⟩, hd zs H hzl p⟩
def spNever64 (K : PySem.W.Frag) (CB CD : Addr) : Sp := fun vs H Q _ => ∃ (H0 : Hp) (A : Sl → Addr) (I : Im) (S : St4) (cad : Addr) (cqs : List Cq) (j : Bool), vs = [.ref (A (.dp j)), .ref cad] ∧ Wx K CB CD H0 A I H S ∧ Wp I S ∧ Cw H0 A I H cad cqs ∧ S.n ≤ 900 ∧ ∀ H', Same H H' → Q (.bl true) H'
theorem nodup_map' {ks : List Str} (h : ks.Nodup) : (ks.map (Sum.inr : Str → Key)).Nodup := by
  induction h with
  | nil => exact List.nodup_nil
  | cons a _ ih =>
    rw [List.map_cons, List.nodup_cons]
    refine ⟨fun z => ?_, ih⟩
    obtain ⟨y, hy, e⟩ := List.mem_map.mp z
    injection e with e
    exact a _ hy e.symm
theorem hiD_pick {kn : Kw} {ss : List Str} {i : Nat} {kv : Key × V} (h : (hiD (pick kn ss))[i]? = some kv) : ∃ nm, ss[i]? = some nm ∧ kv = (Sum.inr nm, V.int ((kn.lookup nm).getD ⟨0, 0, none⟩).last) := by
  unfold hiD pick at h
  rw [List.map_map, List.getElem?_map] at h
  cases e : ss[i]? with
  | none => rw [e] at h; cases h
  | some nm => rw [e] at h; exact ⟨nm, rfl, (Option.some.inj h).symm⟩
theorem merge_hi {k0 : Kw} (nd : (k0.map (·.1)).Nodup) : mergeK [] (hiD k0) = hiD k0 := by
  have := merge_nd (hiD k0) [] (by
    rw [List.nil_append, hiD_keys]
    exact nodup_map' nd)
  rwa [List.nil_append] at this
theorem cut_mem {xs : List V} {lo hi : Option Int} {x : V} (h : x ∈ cutV xs lo hi) : x ∈ xs := List.mem_of_mem_drop (List.mem_of_mem_take h)
end L3
namespace L3
open PySem PySem.Spec PyProof.Rows L2
theorem mr_extend64 {X : Cx} : MtR X "list.extend" rExtend := mt_extend
theorem qs_compF {X : Cx} {elt tg iter cnd : Expr} {scope : Scope} {cl : List (Str × Addr)} {pos spos py : Pos} {fr own : List Str} {js : List Nat} {wi : TI} {g : TG} {tc : TT} {te : TE} {i : Nat} {y : Str}
    (hN : X.N.Nodup) (hi' : X.N[i]? = some y) (hx : Loc X.env.scope y)
    (hc : X.calm = true) (hi : QI X tg iter wi) (hclos : closureFor scope X.env = pure cl) (hcl : ∀ y c, cl.lookup y = some c → X.env.cells.lookup y = some c) (hfr : cl.map (·.1) = fr)
    (S : BScope X scope fr js)
    (hg : ∀ C s H fp, QG (blk X (own ++ fr) scope cl C s H fp) tg g) (ht : ∀ C s H fp, QT (blk X (own ++ fr) scope cl C s H fp) cnd tc) (he : ∀ C s H fp, QE (blk X (own ++ fr) scope cl C s H fp) elt te)
    (hs : ∀ x, foldedSetIterable iter X.env x = pure x := by intro _; rfl) (hsw : swapsWith (.ListComp elt [⟨tg, iter, [cnd], 0⟩] scope pos) (some (.Name y py)) spos.line X.env = pure true := by rfl)
    (hf : X.fn y = true ∨ X.env.scope.names.lookup y = some .local := by first | exact .inl rfl | exact .inr rfl | assumption) :
    QS X (.Assign [.Name y py] (.ListComp elt [⟨tg, iter, [cnd], 0⟩] scope pos) spos) (tAsg (tCompF own.length js wi g tc te) (gName i)) := ⟨by
  intro pins s σ H D I h
  rw [exec_Assign_Name_used _ _ _ _ hsw]
  refine wpAny_bind (wpAny_standAt (wpAny_bind ?_))
  show wpAny _ X.A (do let _ ← comprehension (.ListComp elt [⟨tg, iter, [cnd], 0⟩] scope pos) scope X.env _ (newList []) false (eval iter X.env) (some (assign (.Name y py) X.env))) _ _ s
  refine wpAny_bind (wpAny_mono (comp_runF (use := some (assign (.Name y py) X.env)) (Post := fun _ s' => SP X pins D .next s') hc hi.h hclos hcl hfr S (fun C s H fp => (hg C s H fp).h) (fun C s H fp => (ht C s H fp).h) (fun C s H fp => (he C s H fp).h) hs I h ?_) (fun _ s' hq => wpAny_pure (wpAny_pure hq)) fun _ _ e => e)
  intro acc C s5 H' m I5 hn aw q
  show wpAny _ X.A (assign (.Name y py) X.env (.ref acc)) _ _ _
  refine wpAny_assign_Name (store_ok2 (v := .ref acc) I5 hN hi' hx rfl (fun s6 I6 ⟨a, hs6, ha⟩ => ?_) hf)
  have hCa : C ≠ a := by
    rcases ha with z | z
    · rw [z]; exact aw.loc
    · exact Ne.symm (aw.cell _ _ z)
  refine ⟨m, hn.sameBut hs6 hCa, fun h' hs' => ?_⟩
  exact ⟨_, H', I6.turned (t' := s6.toks) (fun b o hb e => (hs'.2 b hb).trans e) aw.free aw.loc (.inr aw.new) aw.cell aw.pin, q⟩⟩
def KsT (K : PySem.W.Frag) (H : Hp) (b : Addr) (kss : List (List Int)) : Prop := ∃ as : List Addr, SqT K H b (as.map V.ref) ∧ as.length = kss.length ∧ ∀ (i : Nat) (a : Addr) (ks : List Int), as[i]? = some a → kss[i]? = some ks → SqT K H a (ks.map V.int)
theorem KsT.same {K : PySem.W.Frag} {H H' : Hp} {b : Addr} {kss : List (List Int)} (h : KsT K H b kss) (s : Same H H') : KsT K H' b kss := let ⟨as, e, l, r⟩ := h; ⟨as, Same.sqt s e, l, fun i a ks e1 e2 => Same.sqt s (r i a ks e1 e2)⟩
theorem KsT.upd {K : PySem.W.Frag} {C p dx : Addr} {H : Hp} {b : Addr} {kss : List (List Int)} {fs : List (Str × V)} {o : HO} (h : KsT K H b kss) (e : H p = some (.ins C dx fs)) : KsT K (upd H p o) b kss := let ⟨as, eb, l, r⟩ := h; ⟨as, sqt_upd e eb, l, fun i a ks e1 e2 => sqt_upd e (r i a ks e1 e2)⟩
def spDInitT (K : PySem.W.Frag) (C : Addr) : Sp := fun vs H Q _ => ∃ (p a b dx : Addr) (near far most : Int) (t : List Int) (kss : List (List Int)), vs = [.ref p, .ref a, .ref b, .int near, .int far, .int most] ∧ H p = some (.ins C dx []) ∧ Sq K H a (t.map V.int) ∧ KsT K H b kss ∧ kss.length ≤ 8 ∧
  ∀ ta hk bd lg H', H hk = none → H bd = none → H lg = none → Mv [p] H H' → DoorAt K C H' p ta hk bd lg 0 ⟨t, kss, near, far, most, 0, []⟩ → Q .non H'
structure Fz (H0 H : Hp) (L : List Addr) : Prop where
  s : ∀ x, H0 x ≠ none → H x ≠ none
  nd : L.Nodup
  in_ : ∀ x ∈ L, H x ≠ none
  fr : ∀ x ∈ L, H0 x = none
theorem Fz.up {H0 H H' : Hp} {L : List Addr} (z : Fz H0 H L) (hk : ∀ x, H x ≠ none → H' x ≠ none) : Fz H0 H' L := ⟨fun x h => hk x (z.s x h), z.nd, fun x hx => hk x (z.in_ x hx), z.fr⟩
theorem Fz.add {H0 H H' : Hp} {L : List Addr} {a : Addr} (z : Fz H0 H L) (h : H a = none) (hk : ∀ x, H x ≠ none → H' x ≠ none) (ha : H' a ≠ none) : Fz H0 H' (a :: L) := ⟨fun x h => hk x (z.s x h), List.nodup_cons.mpr ⟨fun q => z.in_ a q h, z.nd⟩, fun x hx => by
    rcases List.mem_cons.mp hx with rfl | hx
    · exact ha
    · exact hk x (z.in_ x hx), fun x hx => by
    rcases List.mem_cons.mp hx with rfl | hx
    · cases e : H0 x with
      | none => rfl
      | some o => exact absurd h (z.s x (by rw [e]; intro q; cases q))
    · exact z.fr x hx⟩
theorem Fz.adds {H0 H H' : Hp} {L as : List Addr} (z : Fz H0 H L) (nd : as.Nodup) (h : ∀ a ∈ as, H a = none) (hk : ∀ x, H x ≠ none → H' x ≠ none) (ha : ∀ a ∈ as, H' a ≠ none) : Fz H0 H' (as ++ L) := ⟨fun x h => hk x (z.s x h), List.nodup_append.mpr ⟨nd, z.nd, fun x hx y hy e => by subst e; exact z.in_ x hy (h x hx)⟩, fun x hx => by
    rcases List.mem_append.mp hx with hx | hx
    · exact ha x hx
    · exact hk x (z.in_ x hx), fun x hx => by
    rcases List.mem_append.mp hx with hx | hx
    · cases e : H0 x with
      | none => rfl
      | some o => exact absurd (h x hx) (z.s x (by rw [e]; intro q; cases q))
    · exact z.fr x hx⟩
theorem Fz.door {K : PySem.W.Frag} {C p ta hk bd lg : Addr} {H0 H HJ H' : Hp} {L : List Addr} {n : Nat} {D : Dr} (z : Fz H0 H L) (hp : H p = none) (sJ : ∀ x, H x ≠ none → HJ x ≠ none) (hJ : HJ p ≠ none) (h1 : HJ hk = none) (h2 : HJ bd = none) (h3 : HJ lg = none) (sk : ∀ x, HJ x ≠ none → H' x ≠ none) (d : DoorAt K C H' p ta hk bd lg n D) : Fz H0 H' (hk :: bd :: lg :: p :: L) := by
  obtain ⟨as, eh, _⟩ := id d.ks
  obtain ⟨f, ed, _⟩ := id d.kb
  obtain ⟨rs, el, _⟩ := id d.lo
  refine (z.add hp sJ hJ).adds (as := [hk, bd, lg]) ?_ ?_ sk ?_
  · have n1 : hk ≠ bd := ne_of eh ed (by intro z; cases z)
    have n2 : bd ≠ lg := ne_of ed el (by intro z; cases z)
    have n3 : hk ≠ lg := fun z => d.ne z.symm
    simp [n1, n2, n3]
  · intro a ha
    simp only [List.mem_cons, List.not_mem_nil, or_false] at ha
    rcases ha with rfl | rfl | rfl <;> assumption
  · intro a ha
    simp only [List.mem_cons, List.not_mem_nil, or_false] at ha
    rcases ha with rfl | rfl | rfl
    · rw [eh]; intro q; cases q
    · rw [ed]; intro q; cases q
    · rw [el]; intro q; cases q
theorem some_ne {H : Hp} {x : Addr} {o : HO} (h : H x = some o) : H x ≠ none := by rw [h]; intro q; cases q
theorem Same.dom {H H' : Hp} (s : Same H H') : ∀ x, H x ≠ none → H' x ≠ none := fun x h => by
  cases e : H x with
  | none => exact absurd e h
  | some o => rw [s _ _ e]; intro q; cases q
theorem GrC.dom {b : Addr} {n : Nat} {H H' : Hp} (g : GrC b n H H') : ∀ x, H x ≠ none → H' x ≠ none := fun x h => by
  by_cases z : x = b
  · obtain ⟨_, _, _, e, _⟩ := g.bx
    rw [z, e]; intro q; cases q
  · cases e : H x with
    | none => exact absurd e h
    | some o => rw [g.kp _ _ z e]; intro q; cases q
end L3
namespace L3
open PySem PySem.Spec PyProof.Rows L2
theorem clo3 {X : Cx} {y1 y2 y3 : Str} {c1 c2 c3 : Addr} (h1 : X.env.cells.lookup y1 = some c1) (h2 : X.env.cells.lookup y2 = some c2) (h3 : X.env.cells.lookup y3 = some c3) :
    ∀ u e, ([(y1, c1), (y2, c2), (y3, c3)] : List (Str × Addr)).lookup u = some e → X.env.cells.lookup u = some e := clo_cons h1 (clo_cons h2 (clo_cons h3 clo_nil))
theorem bsc3 {X : Cx} {scope : Scope} {y1 y2 y3 : Str} {j1 j2 j3 : Nat} (kind : scope.kind = .function) (names : ∀ x ∈ scope.names, x.2 = .local → scope.names.lookup x.1 = some .local) (nocell : ∀ x ∈ scope.names, x.2 ≠ .cell)
    (free : ∀ x ∈ scope.names, x.2 = .free → x.1 ∈ ([y1, y2, y3] : List Str)) (a1 : X.N[j1]? = some y1) (a2 : X.env.kindOf y1 = some .cell) (a3 : (relabel scope X.env).names.lookup y1 = some .cell)
    (b1 : X.N[j2]? = some y2) (b2 : X.env.kindOf y2 = some .cell) (b3 : (relabel scope X.env).names.lookup y2 = some .cell) (c1 : X.N[j3]? = some y3) (c2 : X.env.kindOf y3 = some .cell) (c3 : (relabel scope X.env).names.lookup y3 = some .cell) : BScope X scope [y1, y2, y3] [j1, j2, j3] :=
  ⟨kind, names, nocell, free, rfl, fun i j' y' e1 e2 => by
    match i with
    | 0 => cases e1; cases e2; exact ⟨a1, a2, a3⟩
    | 1 => cases e1; cases e2; exact ⟨b1, b2, b3⟩
    | 2 => cases e1; cases e2; exact ⟨c1, c2, c3⟩
    | i + 3 => simp at e1⟩
def slots : List Sl := [.dl, .hk true, .bd true, .lg true, .dp true, .hk false, .bd false, .lg false, .dp false, .el, .e true, .cl true, .ce true, .bp true, .e false, .cl false, .ce false, .bp false, .kl, .b]
theorem mem_slots (s : Sl) : s ∈ slots := by
  cases s with
  | b => decide
  | el => decide
  | dl => decide
  | kl => decide
  | e i => cases i <;> decide
  | cl i => cases i <;> decide
  | bp i => cases i <;> decide
  | ce i => cases i <;> decide
  | dp i => cases i <;> decide
  | hk i => cases i <;> decide
  | bd i => cases i <;> decide
  | lg i => cases i <;> decide
theorem inj_map {α : Type} {A : α → Addr} : ∀ {l : List α}, (l.map A).Nodup → ∀ s ∈ l, ∀ s' ∈ l, A s = A s' → s = s'
  | [], _, s, hs, _, _, _ => by cases hs
  | x :: r, nd, s, hs, s', hs', e => by
    rw [List.map_cons, List.nodup_cons] at nd
    rcases List.mem_cons.mp hs with rfl | h1
    · rcases List.mem_cons.mp hs' with rfl | h2
      · rfl
      · exact absurd (List.mem_map.mpr ⟨s', h2, e.symm⟩) nd.1
    · rcases List.mem_cons.mp hs' with rfl | h2
      · exact absurd (List.mem_map.mpr ⟨s, h1, e⟩) nd.1
      · exact inj_map nd.2 s h1 s' h2 e
theorem slot_inj {A : Sl → Addr} (nd : (slots.map A).Nodup) (s s' : Sl) (e : A s = A s') : s = s' := inj_map nd s (mem_slots s) s' (mem_slots s') e
structure Ea where
  e : Addr
  cl : Addr
  ce : Addr
  bp : Addr
  ta : Addr
  ka : Addr
  B : Bt
def flE : List Ea → List Addr
  | [] => []
  | x :: r => [x.e, x.cl, x.ce, x.bp] ++ flE r
structure EaAt (K : PySem.W.Frag) (CB : Addr) (H : Hp) (x : Ea) : Prop where
  en : H x.e = some (.lst [.ref x.bp, .ref x.cl, .bl false])
  cl : H x.cl = some (.lst [])
  bt : BtnAt K CB H x.bp x.ta x.ka x.ce x.B
theorem EaAt.mv {K : PySem.W.Frag} {CB : Addr} {Z : List Addr} {H H' : Hp} {x : Ea} (h : EaAt K CB H x) (m : Mv Z H H') (n : NT Z H) (h1 : x.e ∉ Z) (h2 : x.cl ∉ Z) (h3 : x.ce ∉ Z) (h4 : x.bp ∉ Z) : EaAt K CB H' x := ⟨m _ _ h1 h.en, m _ _ h2 h.cl, h.bt.mv m n h4 h3⟩
theorem EaAt.same {K : PySem.W.Frag} {CB : Addr} {H H' : Hp} {x : Ea} (h : EaAt K CB H x) (s : Same H H') : EaAt K CB H' x := h.mv (Z := []) s.mv (fun c h => nomatch h) (fun h => nomatch h) (fun h => nomatch h) (fun h => nomatch h) (fun h => nomatch h)
theorem cut_intsE (ks : List Int) (lo hi : Option Int) : ∃ ks' : List Int, cutV (ks.map V.int) lo hi = ks'.map V.int := ⟨_, by unfold cutV; rw [← List.map_drop, ← List.map_take]⟩
theorem nm_other : isNm "other" := ⟨by decide +kernel, by decide +kernel, by decide +kernel⟩
def mkA (b el dl kl : Addr) (e0 e1 : Ea) (p0 h0 d0 l0 p1 h1 d1 l1 : Addr) : Sl → Addr
  | .b => b
  | .el => el
  | .dl => dl
  | .kl => kl
  | .e i => if i then e1.e else e0.e
  | .cl i => if i then e1.cl else e0.cl
  | .bp i => if i then e1.bp else e0.bp
  | .ce i => if i then e1.ce else e0.ce
  | .dp i => if i then p1 else p0
  | .hk i => if i then h1 else h0
  | .bd i => if i then d1 else d0
  | .lg i => if i then l1 else l0
theorem Mv.dom1 {H H' : Hp} {p : Addr} (m : Mv [p] H H') (h : H' p ≠ none) : ∀ x, H x ≠ none → H' x ≠ none := fun x hx => by
  by_cases e : x = p
  · rw [e]; exact h
  · cases ex : H x with
    | none => exact absurd ex hx
    | some o => rw [m _ _ (nin1 e) ex]; intro q; cases q
def ixB : Bool → Nat
  | false => 0
  | true => 1
structure Wt7 (I : Im) (S : St4) (i : Nat) : Prop where
  dn : ∀ k, ixB k < i → S.cs k = [0, 1] ∧ (S.B k).cnt = 2
  un : ∀ k, i ≤ ixB k → S.cs k = [] ∧ (S.B k).cnt = 0
  no : ∀ k, i ≤ ixB k → ∀ j, (S.D j).kn.lookup (I.nm k) = none
  ag : ∀ k, (S.B k).age = 0
  ls : ∀ k, S.ls k = false
  kl : ∀ j, (S.D j).kn.length ≤ i
  mo : ∀ j, 2 ≤ (S.D j).most
  le : ∀ j, (S.D j).least = 0
  n : S.n ≤ 2 * i
end L3
namespace Lw
open PySem L2 L3
def top (i : Nat) : Stmt := PySem.Challenge.pw_rollcode_k64_whole_counts_only_rise.main.body.getD i (.Pass ⟨0, 0, 0, 0⟩)
abbrev s_is_number : Stmt := top 10
abbrev s_is_digit : Stmt := top 11
abbrev s_are_digits : Stmt := top 12
abbrev s_back_table : Stmt := top 13
abbrev s_coded : Stmt := top 14
abbrev s_decoded : Stmt := top 15
abbrev s_is_name : Stmt := top 22
abbrev s_is_code : Stmt := top 23
abbrev s_is_press : Stmt := top 24
abbrev s_letter_digits : Stmt := top 25
abbrev s_key_of : Stmt := top 26
abbrev s_count_digits : Stmt := top 27
abbrev s_press_of : Stmt := top 28
abbrev s_read_press : Stmt := top 29
abbrev s_Button___init : Stmt := inClass (top 31) 0
abbrev s_Button_is_worn : Stmt := inClass (top 31) 2
abbrev s_Button_must_write : Stmt := inClass (top 31) 3
abbrev s_Button_spare_cell : Stmt := inClass (top 31) 4
abbrev s_Button_write_bound : Stmt := inClass (top 31) 5
abbrev s_Button_press_once : Stmt := inClass (top 31) 1
abbrev s_Button_cell_out : Stmt := inClass (top 31) 6
abbrev s_Button_cell_torn : Stmt := inClass (top 31) 7
abbrev s_Button_turn_key : Stmt := inClass (top 31) 8
abbrev s_Button_name_told : Stmt := inClass (top 31) 9
abbrev s_Button_age_now : Stmt := inClass (top 31) 10
abbrev s_Button_count_now : Stmt := inClass (top 31) 11
abbrev s_Button_cells_now : Stmt := inClass (top 31) 12
abbrev s_word_of : Stmt := top 33
abbrev s_step_by : Stmt := top 34
abbrev s_Door___init : Stmt := inClass (top 36) 0
abbrev s_Door_is_full : Stmt := inClass (top 36) 2
abbrev s_Door_button_of : Stmt := inClass (top 36) 8
abbrev s_Door_takes_age : Stmt := inClass (top 36) 11
abbrev s_Door_takes_from : Stmt := inClass (top 36) 10
abbrev s_Door_plain_step : Stmt := inClass (top 36) 9
abbrev s_Door_answer_to : Stmt := inClass (top 36) 7
abbrev s_Door_hear : Stmt := inClass (top 36) 6
abbrev s_Door_read_right : Stmt := inClass (top 36) 12
abbrev s_Door_learn : Stmt := inClass (top 36) 1
abbrev s_Door_known_now : Stmt := inClass (top 36) 13
abbrev s_Door_twin_door : Stmt := inClass (top 36) 19
abbrev s_law_box : Stmt := top 38
abbrev s_law_take : Stmt := top 39
abbrev s_law_table : Stmt := top 40
abbrev s_law_key : Stmt := top 41
abbrev s_law_name : Stmt := top 42
abbrev s_law_pressed : Stmt := top 43
abbrev s_law_never_again : Stmt := top 44
abbrev s_law : Stmt := top 45
theorem sc_is_number : FnScope (["thing"] : List Str) (["thing"] : List Str) (defScope s_is_number) := ⟨rfl, rfl, rfl, by decide +kernel, rfl, by decide +kernel, by decide +kernel⟩
theorem sc_is_digit : FnScope (["thing"] : List Str) (["thing"] : List Str) (defScope s_is_digit) := ⟨rfl, rfl, rfl, by decide +kernel, rfl, by decide +kernel, by decide +kernel⟩
theorem sc_are_digits : FnScope (["things"] : List Str) (["things"] : List Str) (defScope s_are_digits) := ⟨rfl, rfl, rfl, by decide +kernel, rfl, by decide +kernel, by decide +kernel⟩
theorem sc_back_table : FnScope (["table", "back", "place", "digit"] : List Str) (["table"] : List Str) (defScope s_back_table) := ⟨rfl, rfl, rfl, by decide +kernel, rfl, by decide +kernel, by decide +kernel⟩
theorem sc_coded : FnScope (["table", "key", "digits", "row", "shift", "place", "ahead"] : List Str) (["table", "key", "digits"] : List Str) (defScope s_coded) := ⟨rfl, rfl, rfl, by decide +kernel, rfl, by decide +kernel, by decide +kernel⟩
theorem sc_decoded : FnScope (["table", "key", "digits", "back", "row", "shift", "place", "ahead"] : List Str) (["table", "key", "digits"] : List Str) (defScope s_decoded) := ⟨rfl, rfl, rfl, by decide +kernel, rfl, by decide +kernel, by decide +kernel⟩
theorem sc_is_name : FnScope (["thing"] : List Str) (["thing"] : List Str) (defScope s_is_name) := ⟨rfl, rfl, rfl, by decide +kernel, rfl, by decide +kernel, by decide +kernel⟩
theorem sc_is_code : FnScope (["thing"] : List Str) (["thing"] : List Str) (defScope s_is_code) := ⟨rfl, rfl, rfl, by decide +kernel, rfl, by decide +kernel, by decide +kernel⟩
theorem sc_is_press : FnScope (["thing", "name", "age", "code"] : List Str) (["thing"] : List Str) (defScope s_is_press) := ⟨rfl, rfl, rfl, by decide +kernel, rfl, by decide +kernel, by decide +kernel⟩
theorem sc_letter_digits : FnScope (["name", "digits", "letter", "place"] : List Str) (["name"] : List Str) (defScope s_letter_digits) := ⟨rfl, rfl, rfl, by decide +kernel, rfl, by decide +kernel, by decide +kernel⟩
theorem sc_key_of : FnScope (["table", "key", "name", "sums", "place", "digit"] : List Str) (["table", "key", "name"] : List Str) (defScope s_key_of) := ⟨rfl, rfl, rfl, by decide +kernel, rfl, by decide +kernel, by decide +kernel⟩
theorem sc_count_digits : FnScope (["count"] : List Str) (["count"] : List Str) (defScope s_count_digits) := ⟨rfl, rfl, rfl, by decide +kernel, rfl, by decide +kernel, by decide +kernel⟩
theorem sc_press_of : FnScope (["table", "key", "name", "age", "count", "deed", "four", "five"] : List Str) (["table", "key", "name", "age", "count", "deed"] : List Str) (defScope s_press_of) := ⟨rfl, rfl, rfl, by decide +kernel, rfl, by decide +kernel, by decide +kernel⟩
theorem sc_read_press : FnScope (["table", "key", "press", "name", "age", "code", "low", "middle", "high", "deed", "check"] : List Str) (["table", "key", "press"] : List Str) (defScope s_read_press) := ⟨rfl, rfl, rfl, by decide +kernel, rfl, by decide +kernel, by decide +kernel⟩
theorem sc_Button___init : FnScope (["self", "name", "table", "key", "age", "step"] : List Str) (["self", "name", "table", "key", "age", "step"] : List Str) (defScope s_Button___init) := ⟨rfl, rfl, rfl, by decide +kernel, rfl, by decide +kernel, by decide +kernel⟩
theorem sc_Button_is_worn : FnScope (["self"] : List Str) (["self"] : List Str) (defScope s_Button_is_worn) := ⟨rfl, rfl, rfl, by decide +kernel, rfl, by decide +kernel, by decide +kernel⟩
theorem sc_Button_must_write : FnScope (["self"] : List Str) (["self"] : List Str) (defScope s_Button_must_write) := ⟨rfl, rfl, rfl, by decide +kernel, rfl, by decide +kernel, by decide +kernel⟩
theorem sc_Button_spare_cell : FnScope (["self"] : List Str) (["self"] : List Str) (defScope s_Button_spare_cell) := ⟨rfl, rfl, rfl, by decide +kernel, rfl, by decide +kernel, by decide +kernel⟩
theorem sc_Button_write_bound : FnScope (["self", "spare"] : List Str) (["self"] : List Str) (defScope s_Button_write_bound) := ⟨rfl, rfl, rfl, by decide +kernel, rfl, by decide +kernel, by decide +kernel⟩
theorem sc_Button_press_once : FnScope (["self", "deed", "press"] : List Str) (["self", "deed"] : List Str) (defScope s_Button_press_once) := ⟨rfl, rfl, rfl, by decide +kernel, rfl, by decide +kernel, by decide +kernel⟩
theorem sc_Button_cell_out : FnScope (["self", "greatest"] : List Str) (["self"] : List Str) (defScope s_Button_cell_out) := ⟨rfl, rfl, rfl, by decide +kernel, rfl, by decide +kernel, by decide +kernel⟩
theorem sc_Button_cell_torn : FnScope (["self"] : List Str) (["self"] : List Str) (defScope s_Button_cell_torn) := ⟨rfl, rfl, rfl, by decide +kernel, rfl, by decide +kernel, by decide +kernel⟩
theorem sc_Button_turn_key : FnScope (["self", "key"] : List Str) (["self", "key"] : List Str) (defScope s_Button_turn_key) := ⟨rfl, rfl, rfl, by decide +kernel, rfl, by decide +kernel, by decide +kernel⟩
theorem sc_Button_name_told : FnScope (["self"] : List Str) (["self"] : List Str) (defScope s_Button_name_told) := ⟨rfl, rfl, rfl, by decide +kernel, rfl, by decide +kernel, by decide +kernel⟩
theorem sc_Button_age_now : FnScope (["self"] : List Str) (["self"] : List Str) (defScope s_Button_age_now) := ⟨rfl, rfl, rfl, by decide +kernel, rfl, by decide +kernel, by decide +kernel⟩
theorem sc_Button_count_now : FnScope (["self"] : List Str) (["self"] : List Str) (defScope s_Button_count_now) := ⟨rfl, rfl, rfl, by decide +kernel, rfl, by decide +kernel, by decide +kernel⟩
theorem sc_Button_cells_now : FnScope (["self"] : List Str) (["self"] : List Str) (defScope s_Button_cells_now) := ⟨rfl, rfl, rfl, by decide +kernel, rfl, by decide +kernel, by decide +kernel⟩
theorem sc_word_of : FnScope (["count", "last", "near", "far"] : List Str) (["count", "last", "near", "far"] : List Str) (defScope s_word_of) := ⟨rfl, rfl, rfl, by decide +kernel, rfl, by decide +kernel, by decide +kernel⟩
theorem sc_step_by : FnScope (["button", "age", "count", "near", "far", "own_age", "last", "waiting", "word"] : List Str) (["button", "age", "count", "near", "far"] : List Str) (defScope s_step_by) := ⟨rfl, rfl, rfl, by decide +kernel, rfl, by decide +kernel, by decide +kernel⟩
theorem sc_Door___init : FnScope (["self", "table", "keys", "near", "far", "most"] : List Str) (["self", "table", "keys", "near", "far", "most"] : List Str) (defScope s_Door___init) := ⟨rfl, rfl, rfl, by decide +kernel, rfl, by decide +kernel, by decide +kernel⟩
theorem sc_Door_is_full : FnScope (["self"] : List Str) (["self"] : List Str) (defScope s_Door_is_full) := ⟨rfl, rfl, rfl, by decide +kernel, rfl, by decide +kernel, by decide +kernel⟩
theorem sc_Door_button_of : FnScope (["self", "name"] : List Str) (["self", "name"] : List Str) (defScope s_Door_button_of) := ⟨rfl, rfl, rfl, by decide +kernel, rfl, by decide +kernel, by decide +kernel⟩
theorem sc_Door_takes_age : FnScope (["self", "age"] : List Str) (["self", "age"] : List Str) (defScope s_Door_takes_age) := ⟨rfl, rfl, rfl, by decide +kernel, rfl, by decide +kernel, by decide +kernel⟩
theorem sc_Door_takes_from : FnScope (["self", "button", "age"] : List Str) (["self", "button", "age"] : List Str) (defScope s_Door_takes_from) := ⟨rfl, rfl, rfl, by decide +kernel, rfl, by decide +kernel, by decide +kernel⟩
theorem sc_Door_plain_step : FnScope (["self", "button", "age", "count"] : List Str) (["self", "button", "age", "count"] : List Str) (defScope s_Door_plain_step) := ⟨rfl, rfl, rfl, by decide +kernel, rfl, by decide +kernel, by decide +kernel⟩
theorem sc_Door_answer_to : FnScope (["self", "press", "name", "age", "code", "button", "pair", "count", "deed", "word", "behind"] : List Str) (["self", "press"] : List Str) (defScope s_Door_answer_to) := ⟨rfl, rfl, rfl, by decide +kernel, rfl, by decide +kernel, by decide +kernel⟩
theorem sc_Door_hear : FnScope (["self", "thing", "answer"] : List Str) (["self", "thing"] : List Str) (defScope s_Door_hear) := ⟨rfl, rfl, rfl, by decide +kernel, rfl, by decide +kernel, by decide +kernel⟩
theorem sc_Door_read_right : FnScope (["self", "thing"] : List Str) (["self", "thing"] : List Str) (defScope s_Door_read_right) := ⟨rfl, rfl, rfl, by decide +kernel, rfl, by decide +kernel, by decide +kernel⟩
theorem sc_Door_learn : FnScope (["self", "one", "other", "first", "second", "name", "age", "code"] : List Str) (["self", "one", "other"] : List Str) (defScope s_Door_learn) := ⟨rfl, rfl, rfl, by decide +kernel, rfl, by decide +kernel, by decide +kernel⟩
theorem sc_Door_known_now : FnScope (["self"] : List Str) (["self"] : List Str) (defScope s_Door_known_now) := ⟨rfl, rfl, rfl, by decide +kernel, rfl, by decide +kernel, by decide +kernel⟩
theorem sc_Door_twin_door : FnScope (["self", "twin"] : List Str) (["self"] : List Str) (defScope s_Door_twin_door) := ⟨rfl, rfl, rfl, by decide +kernel, rfl, by decide +kernel, by decide +kernel⟩
theorem sc_law_box : FnScope (["_law_script", "_law_k", "_law_cell", "_law_fold", "_law_one"] : List Str) (["_law_script", "_law_k"] : List Str) (defScope s_law_box) := ⟨rfl, rfl, rfl, by decide +kernel, rfl, by decide +kernel, by decide +kernel⟩
theorem sc_law_take : FnScope (["_law_box_here", "_law_many", "_law_digit", "_law_m", "_law_turn"] : List Str) (["_law_box_here", "_law_many"] : List Str) (defScope s_law_take) := ⟨rfl, rfl, rfl, by decide +kernel, rfl, by decide +kernel, by decide +kernel⟩
theorem sc_law_table : FnScope (["_law_box_here", "_law_rest"] : List Str) (["_law_box_here"] : List Str) (defScope s_law_table) := ⟨rfl, rfl, rfl, by decide +kernel, rfl, by decide +kernel, by decide +kernel⟩
theorem sc_law_key : FnScope (["_law_box_here"] : List Str) (["_law_box_here"] : List Str) (defScope s_law_key) := ⟨rfl, rfl, rfl, by decide +kernel, rfl, by decide +kernel, by decide +kernel⟩
theorem sc_law_name : FnScope (["_law_box_here", "_law_some"] : List Str) (["_law_box_here"] : List Str) (defScope s_law_name) := ⟨rfl, rfl, rfl, by decide +kernel, rfl, by decide +kernel, by decide +kernel⟩
theorem sc_law_pressed : FnScope (["_law_box_here", "_law_code", "_law_entry", "_law_doors", "_law_caught", "_law_button", "_law_counts", "_law_lost", "_law_deed", "_law_age", "_law_press", "_law_told", "_law_door"] : List Str) (["_law_box_here", "_law_code", "_law_entry", "_law_doors", "_law_caught"] : List Str) (defScope s_law_pressed) := ⟨rfl, rfl, rfl, by decide +kernel, rfl, by decide +kernel, by decide +kernel⟩
theorem sc_law_never_again : FnScope (["_law_door", "_law_caught", "_law_lasts", "_law_press", "_law_count"] : List Str) (["_law_door", "_law_caught"] : List Str) (defScope s_law_never_again) := ⟨rfl, rfl, rfl, by decide +kernel, rfl, by decide +kernel, by decide +kernel⟩
theorem sc_law : FnScope (["_law_script", "_law_k", "_law_box_here", "_law_code", "_law_names", "_law_steps", "_law_entries", "_law_doors", "_law_entry", "_law_first", "_law_second", "_law_door", "_law_caught", "_law_turn", "_law_way", "_law_cells"] : List Str) (["_law_script"] : List Str) (defScope s_law) := ⟨rfl, rfl, rfl, by decide +kernel, rfl, by decide +kernel, by decide +kernel⟩
structure Txt (K : PySem.W.Frag) (mg : Str → Option Value) (tk : Nat → Tok) : Prop where
  g_DIGITS : mg "DIGITS" = some (.int 16 (tk 0))
  g_KEY_PLACES : mg "KEY_PLACES" = some (.int 4 (tk 1))
  g_LONGEST_NAME : mg "LONGEST_NAME" = some (.int 8 (tk 2))
  g_CODE_DIGITS : mg "CODE_DIGITS" = some (.int 5 (tk 3))
  g_AGES : mg "AGES" = some (.int 8 (tk 4))
  g_COUNTS : mg "COUNTS" = some (.int 4096 (tk 5))
  b_isinstance : mg "isinstance" = none
  b_bool : mg "bool" = none
  b_int : mg "int" = none
  b_tuple : mg "tuple" = none
  b_all : mg "all" = none
  b_len : mg "len" = none
  b_abs : mg "abs" = none
  b_list : mg "list" = none
  b_range : mg "range" = none
  b_str : mg "str" = none
  b_zip : mg "zip" = none
  b_ord : mg "ord" = none
  b_sum : mg "sum" = none
  b_min : mg "min" = none
  b_enumerate : mg "enumerate" = none
  b_max : mg "max" = none
  b_reversed : mg "reversed" = none
  b_sorted : mg "sorted" = none
  b_dict : mg "dict" = none
section
variable {P : Program} {w : World} {K : PySem.W.Frag} {mg : Str → Option Value} {base : Heap} {tk : Nat → Tok}
theorem ok_is_number (a : At K mg "is_number" s_is_number ["thing"]) (T : Txt K mg tk) : Df P w K mg base "is_number" ["thing"] 1 spNumber := by
  refine a.dq sc_is_number (fun vs H Q E h => ?_) (fun f cdv A outer s H vs Q E hr h => ?_)
  · obtain ⟨x, t, rfl, _⟩ := h
    rfl
  · obtain ⟨x, t, rfl, hk, q⟩ := h
    obtain ⟨ty, ht⟩ := kd_ty (K := K) hk
    refine ⟨_, (qss_one (qs_ret (qe_and (qe_callB call_isi (by rfl) T.b_isinstance PyProof.Rows.boot_isinstance (qac (qv 0) (qac (qe_bltn (v := .ty "int") rfl T.b_int PyProof.Rows.boot_int rfl) qa_nil))) (qe_one (qe_not (qe_callB call_isi (by rfl) T.b_isinstance PyProof.Rows.boot_isinstance (qac (qv 0) (qac (qe_bltn (v := .ty "bool") rfl T.b_bool PyProof.Rows.boot_bool rfl) qa_nil)))))))), ?_⟩
    rw [numB_kd hk] at q
    refine ⟨_, rfl, x, "int", t, rfl, ty, ht, by simp, _, rfl, ?_⟩
    cases hi : subT t "int" with
    | false =>
      refine iteF ?_
      rw [hi, Bool.false_and] at q
      exact q
    | true =>
      refine iteT ?_
      rw [hi, Bool.true_and] at q
      exact ⟨_, rfl, x, "bool", t, rfl, ty, ht, by simp, _, rfl, q⟩
theorem ok_is_digit (a : At K mg "is_digit" s_is_digit ["thing"]) (T : Txt K mg tk) (D_is_number : Df P w K mg base "is_number" ["thing"] 1 spNumber) : Df P w K mg base "is_digit" ["thing"] 2 spDigit := by
  refine a.dq sc_is_digit (fun vs H Q E h => ?_) (fun f cdv A outer s H vs Q E hr h => ?_)
  · obtain ⟨x, t, rfl, _⟩ := h
    rfl
  · obtain ⟨x, t, rfl, hk, q⟩ := h
    refine ⟨_, (qss_one (qs_ret (qe_and (qe_def D_is_number (hr.mono (by first | decide | omega)) (qac (qv 0) qa_nil)) (qe_one (qe_chain op_le op_lt qe_int (qv 0) (qe_glob (v := .int 16) rfl T.g_DIGITS ⟨_, rfl⟩)))))), ?_⟩
    refine ⟨_, rfl, x, t, rfl, hk, _, rfl, ?_⟩
    cases hn : numB x with
    | false =>
      refine iteF ?_
      rw [isDig_num hn] at q
      exact q
    | true =>
      refine iteT ?_
      obtain ⟨i, rfl⟩ := numB_int hn
      refine ⟨_, rfl, _, _, rfl, rfl, _, rfl, ?_⟩
      have q' : Q (.bl (decide (0 ≤ i) && decide (i < 16))) H := q
      refine ite2 (fun h0 => ?_) (fun h0 => ?_)
      · refine ⟨_, _, rfl, rfl, ?_⟩
        rw [h0, Bool.true_and] at q'
        exact q'
      · rw [Bool.eq_false_iff.mpr h0, Bool.false_and] at q'
        exact q'
theorem ok_are_digits (a : At K mg "are_digits" s_are_digits ["things"]) (T : Txt K mg tk) (D_is_digit : Df P w K mg base "is_digit" ["thing"] 2 spDigit) : Df P w K mg base "are_digits" ["things"] 3 spDigits := by
  refine a.dq sc_are_digits (fun vs H Q E h => ?_) (fun f cdv A outer s H vs Q E hr h => ?_)
  · obtain ⟨x, t, rfl, _⟩ := h
    rfl
  · obtain ⟨p, xs, rfl, hp, hz, hk, q⟩ := h
    refine ⟨_, (qss_one (qs_ret (qe_callB (call_allB rfl) (by rfl) T.b_all PyProof.Rows.boot_all (qac (qe_comp (own := ["thing"]) (fr := []) (js := []) rfl (qi_tup (qv 0)) rfl (fun _ _ h => nomatch h) rfl (bsc0 rfl (by decide +kernel) (by decide +kernel) (by decide +kernel)) (fun _ _ _ _ => qg_name (i := 0) (show List.Nodup (["thing"] : List Str) from by decide +kernel) rfl (Or.inl rfl) (.inr rfl)) (fun _ _ _ _ => (qe_def D_is_digit (hr.mono (by first | decide | omega)) (qac (qv 0) qa_nil)))) qa_nil)))), ?_⟩
    refine ⟨_, rfl, p, rfl, ⟨xs, SqT.of hp⟩, comp_tup (xs := xs) hz (fun i ys H2 => ys = (xs.take i).map (fun x => V.bl (isDig x)) ∧ Same H H2) ⟨by simp, Same.refl H⟩ (fun i ys H2 ⟨_, s2⟩ => SqT.of (s2 _ _ hp)) ?_ ?_⟩
    · rintro i ys H2 x hx _ ⟨rfl, s2⟩
      obtain ⟨t, ht⟩ := hk x (List.mem_of_getElem? hx)
      refine ⟨_, rfl, x, t, rfl, kd_mono s2 ht, ?_, s2⟩
      rw [List.take_add_one, hx]
      simp
    · rintro ys H2 _ ⟨rfl, s2⟩ l hl
      rw [List.take_length]
      refine ⟨l, xs.map isDig, rfl, SqL.of (by rw [List.map_map]; exact upd_same), ?_⟩
      rw [List.all_map]
      exact q _ (s2.trans (Same.upd hl))
end
section
variable {P : Program} {w : World} {K : PySem.W.Frag} {mg : Str → Option Value} {base : Heap} {tk : Nat → Tok}
theorem ok_is_name (a : At K mg "is_name" s_is_name ["thing"]) (T : Txt K mg tk) : Df P w K mg base "is_name" ["thing"] 1 spIsName := by
  refine a.dq sc_is_name (fun vs H Q E h => ?_) (fun f cdv A outer s H vs Q E hr h => ?_)
  · obtain ⟨z, rfl, _⟩ := h
    rfl
  · obtain ⟨z, rfl, hz, q⟩ := h
    have zl : z.length = z.cps.toList.length := rfl
    have z1 := hz.2.1
    have z2 := hz.2.2
    refine ⟨_, (qss_cons (qs_if (QW.pt (qw_or (qt_not (qt_val (qe_callB call_isiA (by rfl) T.b_isinstance PyProof.Rows.boot_isinstance (qac (qv 0) (qac (qe_bltn (v := .ty "str") rfl T.b_str PyProof.Rows.boot_str rfl) qa_nil))))) (qw_or1 (qt_not (qt_chain op_le op_le qe_int (qe_callB call_len_str (by rfl) T.b_len PySem.boot_len (qac (qv 0) qa_nil)) (qe_glob (v := .int 8) rfl T.g_LONGEST_NAME ⟨_, rfl⟩)))))) (qss_one (qs_ret qe_bl)) qss_nil)
      (qss_one (qs_ret (qe_callB (call_allB rfl) (by rfl) T.b_all PyProof.Rows.boot_all (qac (qe_comp (own := ["letter"]) (fr := []) (js := []) rfl (qi_str (qv 0)) rfl (fun _ _ h => nomatch h) rfl (bsc0 rfl (by decide +kernel) (by decide +kernel) (by decide +kernel)) (fun _ _ _ _ => qg_name (i := 0) (show List.Nodup (["letter"] : List Str) from by decide +kernel) rfl (Or.inl rfl) (.inr rfl)) (fun _ _ _ _ => (qe_chain op_le_str op_le_str qe_str (qv 0) qe_str))) qa_nil))))), ?_⟩
    refine ⟨_, rfl, _, "str", "str", rfl, .str z, by simp, _, rfl, ?_⟩
    refine iteF ?_
    refine ⟨_, rfl, z, rfl, by rw [zl, sizeLine_eq]; omega, _, _, rfl, rfl, _, rfl, ?_⟩
    refine ite2 (fun _ => ?_) (fun y => absurd (decide_eq_true (by omega)) y)
    refine ⟨_, _, rfl, rfl, _, rfl, ?_⟩
    refine ite2 (fun y => absurd y (by rw [decide_eq_true (by omega : ((z.length : Nat) : Int) ≤ 8)]; decide)) (fun _ => ?_)
    refine ⟨_, rfl, z, rfl, nm_ascii hz, comp_str (by show z.cps.toList.length ≤ _; rw [sizeLine_eq]; omega) (fun i ys H2 => H2 = H ∧ ys = (List.replicate i true).map V.bl) ⟨rfl, rfl⟩ ?_ ?_⟩
    · rintro i ys H2 c hc _ ⟨rfl, rfl⟩
      obtain ⟨l1, l2⟩ := letter_le (hz.1 c (List.mem_of_getElem? (cps_get hc)))
      refine ⟨_, rfl, _, _, rfl, rfl, _, rfl, ?_⟩
      refine iteD l1 ⟨_, _, rfl, rfl, rfl, ?_⟩
      rw [l2, List.replicate_succ', List.map_append]; rfl
    · rintro ys H2 hl ⟨rfl, rfl⟩ l hl'
      refine ⟨l, _, rfl, SqL.of upd_same, ?_⟩
      rw [show (List.replicate z.cps.size true).all id = true from by simp]
      exact q _ (Same.upd hl')
theorem ok_is_code (a : At K mg "is_code" s_is_code ["thing"]) (T : Txt K mg tk) (D_are_digits : Df P w K mg base "are_digits" ["things"] 3 spDigits) : Df P w K mg base "is_code" ["thing"] 4 spIsCode := by
  refine a.dq sc_is_code (fun vs H Q E h => ?_) (fun f cdv A outer s H vs Q E hr h => ?_)
  · obtain ⟨_, _, rfl, _⟩ := h
    rfl
  · obtain ⟨pc, ds, rfl, hp, l5, hd, q⟩ := h
    refine ⟨_, (qss_cons (qs_if (qt_not (qt_val (qe_callB call_isiA (by rfl) T.b_isinstance PyProof.Rows.boot_isinstance (qac (qv 0) (qac (qe_bltn (v := .ty "tuple") rfl T.b_tuple PyProof.Rows.boot_tuple rfl) qa_nil))))) (qss_one (qs_ret qe_bl)) qss_nil)
      (qss_one (qs_ret (qe_and (qe_cmpR op_eq (qe_callB call_len_seq (by rfl) T.b_len PySem.boot_len (qac (qv 0) qa_nil)) (qe_glob (v := .int 5) rfl T.g_CODE_DIGITS ⟨_, rfl⟩) (nomark _)) (qe_one (qe_def D_are_digits (hr.mono (by first | decide | omega)) (qac (qv 0) qa_nil))))))), ?_⟩
    refine ⟨_, rfl, _, "tuple", "tuple", rfl, .tup (.inl hp), by simp, _, rfl, ?_⟩
    refine iteF ?_
    refine ⟨_, rfl, pc, _, rfl, .inr (SqT.of hp), rfl, _, rfl, ?_⟩
    refine ite2 (fun _ => ?_) (fun y => absurd (decide_eq_true (by rw [List.length_map, l5]; rfl)) y)
    refine ⟨_, rfl, pc, _, rfl, hp, by rw [List.length_map, l5]; decide, fun x hx => ?_, fun H' s' => ?_⟩
    · obtain ⟨i, _, rfl⟩ := List.mem_map.mp hx
      exact ⟨_, rfl⟩
    · rw [digs_all hd]
      exact q _ s'
theorem ok_is_press (a : At K mg "is_press" s_is_press ["thing"]) (T : Txt K mg tk) (D_is_name : Df P w K mg base "is_name" ["thing"] 1 spIsName) (D_is_number : Df P w K mg base "is_number" ["thing"] 1 spNumber) (D_is_code : Df P w K mg base "is_code" ["thing"] 4 spIsCode) : Df P w K mg base "is_press" ["thing"] 5 spIsPress := by
  refine a.dq sc_is_press (fun vs H Q E h => ?_) (fun f cdv A outer s H vs Q E hr h => ?_)
  · obtain ⟨_, _, _, _, rfl, _⟩ := h
    rfl
  · obtain ⟨pr, nm, age, ds, rfl, ⟨pc, hp, hpc⟩, hn, l5, hd, q⟩ := h
    refine ⟨_, (qss_cons (qs_if (QW.pt (qw_or (qt_not (qt_val (qe_callB call_isiA (by rfl) T.b_isinstance PyProof.Rows.boot_isinstance (qac (qv 0) (qac (qe_bltn (v := .ty "tuple") rfl T.b_tuple PyProof.Rows.boot_tuple rfl) qa_nil))))) (qw_or1 (qt_cmpR op_ne (qe_callB call_len_seq (by rfl) T.b_len PySem.boot_len (qac (qv 0) qa_nil)) qe_int (nomark _))))) (qss_one (qs_ret qe_bl)) qss_nil)
      (qss_cons (qs_asg (qv 0) (qg_seq rfl (qgs_cons (qg_name (i := 1) sc_is_press.nd rfl (Or.inl rfl)) (qgs_cons (qg_name (i := 2) sc_is_press.nd rfl (Or.inl rfl)) (qgs_cons (qg_name (i := 3) sc_is_press.nd rfl (Or.inl rfl)) qgs_nil)))))
      (qss_one (qs_ret (qe_and (qe_def D_is_name (hr.mono (by first | decide | omega)) (qac (qv 1) qa_nil)) (qe_and (qe_def D_is_number (hr.mono (by first | decide | omega)) (qac (qv 2) qa_nil)) (qe_one (qe_def D_is_code (hr.mono (by first | decide | omega)) (qac (qv 3) qa_nil))))))))), ?_⟩
    refine ⟨_, rfl, _, "tuple", "tuple", rfl, .tup (.inl hp), by simp, _, rfl, ?_⟩
    refine iteF ?_
    refine ⟨_, rfl, pr, _, rfl, .inr (SqT.of hp), rfl, _, rfl, ?_⟩
    refine iteNS rfl ?_
    refine ⟨_, rfl, pr, _, rfl, .tup hp, rfl, _, _, rfl, _, _, rfl, _, _, rfl, rfl, ?_⟩
    refine ⟨_, rfl, nm, rfl, hn, fun H1 s1 => ⟨_, rfl, iteT ?_⟩⟩
    refine ⟨_, rfl, .int age, "int", rfl, rfl, _, rfl, iteT ?_⟩
    exact ⟨_, rfl, pc, ds, rfl, s1 _ _ hpc, l5, hd, fun H2 s2 => q _ (s1.trans s2)⟩
theorem ok_word_of (a : At K mg "word_of" s_word_of ["count", "last", "near", "far"]) (T : Txt K mg tk) : Df P w K mg base "word_of" ["count", "last", "near", "far"] 1 spWordJ := by
  refine a.dq sc_word_of (fun vs H Q E h => ?_) (fun f cdv A outer s H vs Q E hr h => ?_)
  · obtain ⟨c, l, n, f, rfl, _⟩ := h
    rfl
  · obtain ⟨c, l, n, f, rfl, q⟩ := h
    unfold wordJ at q
    refine ⟨_, (qss_cons (qs_if (qt_cmpR op_le (qv 0) (qv 1) (nomark _)) (qss_one (qs_ret qe_str)) qss_nil)
      (qss_cons (qs_if (qt_cmpR op_le (qv 0) (qe_op op_add (qv 1) (qv 2)) (nomark _)) (qss_one (qs_ret qe_str)) qss_nil)
      (qss_cons (qs_if (qt_cmpR op_le (qv 0) (qe_op op_add (qv 1) (qv 3)) (nomark _)) (qss_one (qs_ret qe_str)) qss_nil)
      (qss_one (qs_ret qe_str))))), ?_⟩
    refine ⟨_, rfl, _, rfl, _, _, rfl, rfl, _, rfl, ?_⟩
    refine ite2 (fun z => ?_) (fun z => ?_)
    · rw [if_pos (of_decide_eq_true z)] at q; exact q
    · rw [if_neg (fun y => z (decide_eq_true y))] at q
      refine ⟨_, rfl, _, rfl, _, rfl, _, _, rfl, rfl, _, _, rfl, rfl, _, rfl, ?_⟩
      refine ite2 (fun z => ?_) (fun z => ?_)
      · rw [if_pos (of_decide_eq_true z)] at q; exact q
      · rw [if_neg (fun y => z (decide_eq_true y))] at q
        refine ⟨_, rfl, _, rfl, _, rfl, _, _, rfl, rfl, _, _, rfl, rfl, _, rfl, ?_⟩
        refine ite2 (fun z => ?_) (fun z => ?_)
        · rw [if_pos (of_decide_eq_true z)] at q; exact q
        · rw [if_neg (fun y => z (decide_eq_true y))] at q; exact q
theorem ok_step_by (a : At K mg "step_by" s_step_by ["button", "age", "count", "near", "far"]) (T : Txt K mg tk) (D_word_of : Df P w K mg base "word_of" ["count", "last", "near", "far"] 1 spWordJ) : Df P w K mg base "step_by" ["button", "age", "count", "near", "far"] 2 spStepJ := by
  refine a.dq sc_step_by (fun vs H Q E h => ?_) (fun f cdv A outer s H vs Q E hr h => ?_)
  · obtain ⟨_, _, _, _, _, _, rfl, _⟩ := h
    rfl
  · obtain ⟨a, e, age, c, near, far, rfl, ⟨v, hb, hw⟩, q⟩ := h
    refine ⟨_, (qss_cons (qs_asg (qv 0) (qg_seq rfl (qgs_cons (qg_name (i := 5) sc_step_by.nd rfl (Or.inl rfl)) (qgs_cons (qg_name (i := 6) sc_step_by.nd rfl (Or.inl rfl)) (qgs_cons (qg_name (i := 7) sc_step_by.nd rfl (Or.inl rfl)) qgs_nil)))))
      (qss_cons (qs_set (i := 8) sc_step_by.nd rfl (Or.inl rfl) (qe_def D_word_of (hr.mono (by first | decide | omega)) (qac (qv 2) (qac (qv 6) (qac (qv 3) (qac (qv 4) qa_nil))))))
      (qss_cons (qs_if (QW.pt (qw_and (qt_cmpR op_eq (qv 8) qe_str (nomark _)) (qw_and1 (qt_cmpR (op_eqW hr) (qv 7) (qe_tup (qac (qv 1) (qac (qe_op op_sub (qv 2) qe_int) qa_nil))) (nomark _))))) (qss_one (qs_set (i := 8) sc_step_by.nd rfl (Or.inl rfl) qe_str)) qss_nil)
      (qss_cons (qs_if (qt_cmpR op_eq (qv 8) qe_str (nomark _)) (qss_one (qs_ret (qe_tup (qac (qv 8) (qac (qe_tup (qac (qv 1) (qac (qv 2) (qac qe_non qa_nil)))) qa_nil))))) qss_nil)
      (qss_cons (qs_if (qt_cmpR op_eq (qv 8) qe_str (nomark _)) (qss_one (qs_ret (qe_tup (qac (qv 8) (qac (qe_tup (qac (qv 5) (qac (qv 6) (qac (qe_tup (qac (qv 1) (qac (qv 2) qa_nil))) qa_nil)))) qa_nil))))) qss_nil)
      (qss_one (qs_ret (qe_tup (qac (qv 8) (qac (qv 0) qa_nil)))))))))), ?_⟩
    refine ⟨_, rfl, a, _, rfl, .tup hb, rfl, _, _, rfl, _, _, rfl, _, _, rfl, rfl, ?_⟩
    refine ⟨_, rfl, _, rfl, _, rfl, _, rfl, c, e.last, near, far, rfl, ?_⟩
    unfold stepJ at q
    unfold wordJ
    by_cases h1 : c ≤ e.last
    · rw [if_pos h1]
      rw [if_pos h1] at q
      refine ⟨_, rfl, rfl, _, rfl, ?_⟩
      refine ite2 (fun y => absurd (of_decide_eq_true y) (by decide +kernel)) (fun _ => ?_)
      refine ⟨_, rfl, rfl, _, rfl, ?_⟩
      refine ite2 (fun y => absurd (of_decide_eq_true y) (by decide +kernel)) (fun _ => ?_)
      refine ⟨_, rfl, rfl, _, rfl, ?_⟩
      refine ite2 (fun y => absurd (of_decide_eq_true y) (by decide +kernel)) (fun _ => ?_)
      refine ⟨_, rfl, _, rfl, by show 2 ≤ sizeLine; decide, fun q1 hq1 => ?_⟩
      exact q q1 a _ (Same.upd hq1) upd_same (BuAt.same (Same.upd hq1) ⟨v, hb, hw⟩)
    · rw [if_neg h1]
      rw [if_neg h1] at q
      by_cases h2 : c ≤ e.last + near
      · rw [if_pos h2]
        rw [if_pos h2] at q
        refine ⟨_, rfl, rfl, _, rfl, ?_⟩
        refine ite2 (fun y => absurd (of_decide_eq_true y) (by decide +kernel)) (fun _ => ?_)
        refine ⟨_, rfl, rfl, _, rfl, ?_⟩
        refine ite2 (fun _ => ?_) (fun y => absurd (decide_eq_true rfl) y)
        refine ⟨_, rfl, _, rfl, _, rfl, by show 3 ≤ sizeLine; decide, fun t ht => ⟨by show 2 ≤ sizeLine; decide, fun q1 hq1 => ?_⟩⟩
        have u1 := Same.upd (o := .tup [.int age, .int c, .non]) ht
        have u2 := Same.upd (o := .tup [.str "near", .ref t]) hq1
        exact q q1 t _ (u1.trans u2) upd_same ⟨.non, u2 _ _ upd_same, rfl⟩
      · rw [if_neg h2]
        rw [if_neg h2] at q
        by_cases h3 : c ≤ e.last + far
        · rw [if_pos h3]
          rw [if_pos h3] at q
          refine ⟨_, rfl, rfl, _, rfl, ?_⟩
          refine ite2 (fun _ => ?_) (fun y => absurd (decide_eq_true rfl) y)
          refine ⟨_, rfl, _, rfl, _, rfl, _, _, rfl, rfl, by show 2 ≤ sizeLine; decide, fun t0 ht0 => ?_⟩
          have u0 := Same.upd (o := .tup [.int age, .int (c - 1)]) ht0
          have hw0 := hw.mv (S := []) u0.mv (fun c h => nomatch h)
          refine ⟨e.wt, t0, age, c - 1, hw0, rfl, .inl upd_same, _, rfl, ?_⟩
          by_cases h4 : e.wt = some (age, c - 1)
          · rw [if_pos h4] at q
            refine iteD (decide_eq_true h4) ?_
            refine ⟨_, rfl, rfl, _, rfl, ?_⟩
            refine ite2 (fun _ => ?_) (fun y => absurd (decide_eq_true rfl) y)
            refine ⟨_, rfl, _, rfl, _, rfl, by show 3 ≤ sizeLine; decide, fun t ht => ⟨by show 2 ≤ sizeLine; decide, fun q1 hq1 => ?_⟩⟩
            have u1 := Same.upd (o := .tup [.int age, .int c, .non]) ht
            have u2 := Same.upd (o := .tup [.str "near", .ref t]) hq1
            exact q q1 t _ ((u0.trans u1).trans u2) upd_same ⟨.non, u2 _ _ upd_same, rfl⟩
          · rw [if_neg h4] at q
            refine iteE (decide_eq_false h4) ?_
            refine ⟨_, rfl, rfl, _, rfl, ?_⟩
            refine ite2 (fun y => absurd (of_decide_eq_true y) (by decide +kernel)) (fun _ => ?_)
            refine ⟨_, rfl, rfl, _, rfl, ?_⟩
            refine ite2 (fun _ => ?_) (fun y => absurd (decide_eq_true rfl) y)
            refine ⟨_, rfl, _, rfl, _, rfl, _, rfl, _, rfl, by show 2 ≤ sizeLine; decide, fun t1 ht1 => ⟨by show 3 ≤ sizeLine; decide, fun t ht => ⟨by show 2 ≤ sizeLine; decide, fun q1 hq1 => ?_⟩⟩⟩
            have u1 := Same.upd (o := .tup [.int age, .int c]) ht1
            have u2 := Same.upd (o := .tup [.int e.age, .int e.last, .ref t1]) ht
            have u3 := Same.upd (o := .tup [.str "far", .ref t]) hq1
            exact q q1 t _ (((u0.trans u1).trans u2).trans u3) upd_same ⟨.ref t1, u3 _ _ upd_same, t1, rfl, u3 _ _ (u2 _ _ upd_same)⟩
        · rw [if_neg h3]
          rw [if_neg h3] at q
          refine ⟨_, rfl, rfl, _, rfl, ?_⟩
          refine ite2 (fun y => absurd (of_decide_eq_true y) (by decide +kernel)) (fun _ => ?_)
          refine ⟨_, rfl, rfl, _, rfl, ?_⟩
          refine ite2 (fun y => absurd (of_decide_eq_true y) (by decide +kernel)) (fun _ => ?_)
          refine ⟨_, rfl, rfl, _, rfl, ?_⟩
          refine ite2 (fun y => absurd (of_decide_eq_true y) (by decide +kernel)) (fun _ => ?_)
          refine ⟨_, rfl, _, rfl, by show 2 ≤ sizeLine; decide, fun q1 hq1 => ?_⟩
          exact q q1 a _ (Same.upd hq1) upd_same (BuAt.same (Same.upd hq1) ⟨v, hb, hw⟩)
end
end Lw
namespace Lw
open PySem L2 L3
section
variable {P : Program} {w : World} {K : PySem.W.Frag} {mg : Str → Option Value} {base : Heap} {tk : Nat → Tok} {C : Addr}
theorem ok_Door___init (a : AtM K C "__init__" "Door.__init__" s_Door___init ["self", "table", "keys", "near", "far", "most"]) (T : Txt K mg tk) (U : DCx K C) : Mf P w K mg base C "__init__" ["self", "table", "keys", "near", "far", "most"] 1 (spDInit K C) := by
  refine a.mq sc_Door___init (fun vs H Q E h => ?_) (fun f cdv A outer s H vs Q E hr h => ?_)
  · obtain ⟨_, _, _, _, _, _, _, _, _, rfl, _⟩ := h
    rfl
  · obtain ⟨p, a, b, dx, near, far, most, t, kss, rfl, hp, ha, hb, hl, q⟩ := h
    refine ⟨_, (qss_cons (qs_fld (qv 0) (qe_callTy call_tupleQ (by rfl) T.b_tuple PyProof.Rows.boot_tuple (qac (qv 1) qa_nil)))
      (qss_cons (qs_fld (qv 0) (qe_comp (own := ["key"]) (fr := []) (js := []) rfl (qi_list (qv 2)) rfl (fun _ _ h => nomatch h) rfl (bsc0 rfl (by decide +kernel) (by decide +kernel) (by decide +kernel)) (fun _ _ _ _ => qg_name (i := 0) (show List.Nodup (["key"] : List Str) from by decide +kernel) rfl (Or.inl rfl) (.inr rfl)) (fun _ _ _ _ => (qe_callTy (call_tupleQK (K := K) rfl) (by rfl) T.b_tuple PyProof.Rows.boot_tuple (qac (qv 0) qa_nil)))))
      (qss_cons (qs_fld (qv 0) (qv 3))
      (qss_cons (qs_fld (qv 0) (qv 4))
      (qss_cons (qs_fld (qv 0) (qv 5))
      (qss_cons (qs_fld (qv 0) qe_int)
      (qss_cons (qs_fld (qv 0) qe_dnewK)
      (qss_one (qs_fld (qv 0) (qe_lst qa_nil)))))))))), ?_⟩
    refine ⟨_, rfl, a, _, rfl, ha, fun ta H2 s2 ht => ⟨_, rfl, p, _, rfl, put_newD U.cl (s2 _ _ hp) U.n_table 0, ?_⟩⟩
    have e2 := s2 _ _ hp
    have hb2 := (hb.same s2).upd (o := .ins C dx [("table", .ref ta)]) e2
    obtain ⟨as, eb, la, hks⟩ := hb2
    have ht2 := sqt_upd (o := .ins C dx [("table", .ref ta)]) e2 ht
    refine ⟨_, rfl, b, rfl, ⟨_, SqL.of eb⟩, comp_list (K := K) (xs := as.map V.ref) (by rw [List.length_map, la, sizeLine_eq]; omega) (fun i ys H3 => Same (upd H2 p (.ins C dx [("table", .ref ta)])) H3 ∧ ∃ bs : List Addr, ys = bs.map V.ref ∧ bs.length = i ∧ ∀ (j : Nat) (x : Addr) (ks : List Int), bs[j]? = some x → kss[j]? = some ks → SqT K H3 x (ks.map V.int)) ⟨Same.refl _, [], rfl, rfl, fun j x ks e => by (cases e)⟩ (fun i ys H3 ⟨s3, _⟩ => s3.seq (SqL.of eb)) ?_ ?_⟩
    · rintro i ys H3 x hx hyl ⟨s3, bs, rfl, hbl, hbs⟩
      rw [List.getElem?_map] at hx
      cases ea : as[i]? with
      | none => rw [ea] at hx; cases hx
      | some x0 =>
        rw [ea] at hx
        obtain rfl : V.ref x0 = x := Option.some.inj hx
        have hi : i < kss.length := by rw [← la]; exact (List.getElem?_eq_some_iff.mp ea).1
        have hk0 := hks i x0 kss[i] ea (List.getElem?_eq_getElem hi)
        refine ⟨_, rfl, x0, _, rfl, .inr (Same.sqt s3 hk0), fun l H4 s4 hl4 => ⟨s3.trans s4, bs ++ [l], by simp, by simp [hbl], fun j y ks e1 e2' => ?_⟩⟩
        rw [List.getElem?_append] at e1
        split at e1
        · exact Same.sqt s4 (hbs j y ks e1 e2')
        · have hj : j - bs.length = 0 := by
            cases hj : j - bs.length with
            | zero => rfl
            | succ k => rw [hj] at e1; cases e1
          rw [hj] at e1
          cases e1
          have : j = i := by omega
          subst this
          rw [List.getElem?_eq_getElem hi] at e2'
          cases e2'
          exact hl4
    · rintro ys H3 hyl ⟨s3, bs, rfl, hbl, hbs⟩ hk hhk
      have u3 := Same.upd (o := .lst (bs.map V.ref)) hhk
      have e3 := u3 _ _ (s3 _ _ upd_same)
      refine ⟨_, rfl, p, _, rfl, put_newD U.cl e3 U.n_house_keys 1, ?_⟩
      refine ⟨_, rfl, _, rfl, p, _, rfl, put_newD U.cl upd_same U.n_near 2, ?_⟩
      refine ⟨_, rfl, _, rfl, p, _, rfl, put_newD U.cl upd_same U.n_far 3, ?_⟩
      refine ⟨_, rfl, _, rfl, p, _, rfl, put_newD U.cl upd_same U.n_most 4, ?_⟩
      refine ⟨_, rfl, p, _, rfl, put_newD U.cl upd_same U.n_least_age 5, ?_⟩
      refine fun bd hbd => ⟨_, rfl, p, _, rfl, put_newD U.cl (by rw [upd_ne (ne_of_none upd_same hbd)]; exact upd_same) U.n_buttons 6, ?_⟩
      have nbd := ne_of_none upd_same hbd
      refine ⟨by show 0 ≤ sizeLine; decide, fun lg hlg => ⟨_, rfl, p, _, rfl, put_newD U.cl (by rw [upd_ne (ne_of_none upd_same hlg)]; exact upd_same) U.n_log 7, ?_⟩⟩
      have nlg := ne_of_none upd_same hlg
      have m3 : Mv [p] H H3 := ((s2.mv (S := [p])).trans Mv.upd1).trans s3.mv
      have nhk : hk ≠ p := (ne_of_none (s3 _ _ upd_same) hhk).symm
      have m4 : Mv [p] H (upd H3 hk (.lst (bs.map V.ref))) := m3.trans u3.mv
      have M : ∀ o1 o2 o3 o4 o5, Mv [p] (upd H3 hk (.lst (bs.map V.ref))) (upd (upd (upd (upd (upd (upd H3 hk (.lst (bs.map V.ref))) p o1) p o2) p o3) p o4) p o5) := fun o1 o2 o3 o4 o5 => (((Mv.upd1.trans Mv.upd1).trans Mv.upd1).trans Mv.upd1).trans Mv.upd1
      have M6 : Mv [p] (upd H3 hk (.lst (bs.map V.ref))) _ := (((M _ _ _ _ _).trans (Same.upd hbd).mv).trans Mv.upd1).trans (Same.upd (o := .lst []) hlg).mv
      have M7 := M6.trans (Mv.upd1 (o := .ins C dx (dF ⟨t, kss, near, far, most, 0, []⟩ ta hk bd lg)))
      have nt : NT [p] (upd H3 hk (.lst (bs.map V.ref))) := NT.one e3 trivial
      have hbdlg : bd ≠ lg := ne_of_none (by rw [upd_ne nbd.symm]; exact upd_same) hlg
      refine q ta hk bd lg _ (m3.nfree (nin1 nhk) hhk) ((m4.trans (M _ _ _ _ _)).nfree (nin1 nbd.symm) hbd) ((m4.trans ((((M _ _ _ _ _).trans (Same.upd hbd).mv).trans Mv.upd1))).nfree (nin1 nlg.symm) hlg) (m4.trans M7) ⟨⟨dx, upd_same⟩, ?_, ?_, ?_, ?_, ?_⟩
      · exact M7.sqt nt (Same.sqt u3 (Same.sqt s3 ht2))
      · exact KsAt.mv M7 nt (nin1 nhk) ⟨bs, upd_same, by rw [hbl, List.length_map, la], fun j x ks e1 e2' => Same.sqt u3 (hbs j x ks e1 e2')⟩
      · exact ⟨([], fun _ => 0), by rw [upd_ne nbd.symm, upd_ne hbdlg, upd_ne nbd.symm]; exact upd_same, fun e he => by (cases he), .refl _, List.nodup_nil⟩
      · exact ⟨[], by rw [upd_ne nlg.symm]; exact upd_same, Nat.le_refl _⟩
      · refine (ne_of_none (o := .lst (bs.map V.ref)) ?_ hlg).symm
        rw [upd_ne nhk]
        rw [upd_ne (ne_of_none (o := .lst (bs.map V.ref)) (by rw [upd_ne nhk, upd_ne nhk, upd_ne nhk, upd_ne nhk, upd_ne nhk]; exact upd_same) hbd)]
        rw [upd_ne nhk, upd_ne nhk, upd_ne nhk, upd_ne nhk, upd_ne nhk]
        exact upd_same
theorem ok_Door_is_full (a : AtM K C "is_full" "Door.is_full" s_Door_is_full ["self"]) (T : Txt K mg tk) (U : DCx K C) : Mf P w K mg base C "is_full" ["self"] 1 (spDFull K C) := by
  refine a.mq sc_Door_is_full (fun vs H Q E h => ?_) (fun f cdv A outer s H vs Q E hr h => ?_)
  · obtain ⟨_, _, _, _, _, _, _, rfl, _⟩ := h
    rfl
  · obtain ⟨p, ta, hk, bd, lg, n, D, rfl, b, q⟩ := h
    obtain ⟨fn, hd, _, hpm, _⟩ := b.kb
    refine ⟨_, (qss_one (qs_ret (qe_cmpR op_ge (qe_callB call_lenD (by rfl) T.b_len PySem.boot_len (qac (qe_fld (qv 0)) qa_nil)) (qe_fld (qv 0)) (nomark _)))), ?_⟩
    refine ⟨_, rfl, p, _, rfl, b.h_buttons U, bd, _, rfl, hd, _, rfl, p, _, rfl, b.h_most U, _, _, rfl, rfl, ?_⟩
    rw [show (knD fn.1 fn.2).length = D.kn.length from (List.length_map _).trans hpm.length_eq]
    exact q
theorem ok_Door_button_of (a : AtM K C "button_of" "Door.button_of" s_Door_button_of ["self", "name"]) (T : Txt K mg tk) (U : DCx K C) : Mf P w K mg base C "button_of" ["self", "name"] 1 (spDOf K C) := by
  refine a.mq sc_Door_button_of (fun vs H Q E h => ?_) (fun f cdv A outer s H vs Q E hr h => ?_)
  · obtain ⟨_, _, _, _, _, _, _, _, rfl, _⟩ := h
    rfl
  · obtain ⟨p, ta, hk, bd, lg, n, D, nm, rfl, b, q1, q2⟩ := h
    refine ⟨_, (qss_one (qs_ret (qe_dget1 hr (qe_fld (qv 0)) (qv 1)))), ?_⟩
    obtain ⟨fn, hd, _⟩ := id b.kb
    refine ⟨_, rfl, p, _, rfl, b.h_buttons U, bd, rfl, .inl ⟨_, .inl hd⟩, _, rfl, ?_⟩
    rcases b.kb.get nm with ⟨e1, g⟩ | ⟨e, x, e1, g, hx⟩
    · exact ⟨_, g, q1 e1⟩
    · exact ⟨_, g, q2 e x e1 hx⟩
theorem ok_Door_takes_age (a : AtM K C "takes_age" "Door.takes_age" s_Door_takes_age ["self", "age"]) (T : Txt K mg tk) (U : DCx K C) : Mf P w K mg base C "takes_age" ["self", "age"] 1 (spDTakes K C) := by
  refine a.mq sc_Door_takes_age (fun vs H Q E h => ?_) (fun f cdv A outer s H vs Q E hr h => ?_)
  · obtain ⟨_, _, _, _, _, _, _, _, rfl, _⟩ := h
    rfl
  · obtain ⟨p, ta, hk, bd, lg, n, D, age, rfl, b, q⟩ := h
    obtain ⟨as, eh, la, _⟩ := b.ks
    refine ⟨_, (qss_one (qs_ret (qe_chain op_le op_lt (qe_fld (qv 0)) (qv 1) (qe_callB call_len_seq (by rfl) T.b_len PySem.boot_len (qac (qe_fld (qv 0)) qa_nil))))), ?_⟩
    unfold takesJ at q
    refine ⟨_, rfl, p, _, rfl, b.h_least_age U, _, rfl, _, _, rfl, rfl, _, rfl, ?_⟩
    refine ite2 (fun z => ?_) (fun z => ?_)
    · rw [z, Bool.true_and] at q
      refine ⟨_, rfl, p, _, rfl, b.h_house_keys U, hk, _, rfl, .inl (SqL.of eh), _, _, rfl, rfl, ?_⟩
      rw [List.length_map, la]
      exact q
    · rw [Bool.eq_false_iff.mpr z, Bool.false_and] at q
      exact q
theorem ok_Door_takes_from (a : AtM K C "takes_from" "Door.takes_from" s_Door_takes_from ["self", "button", "age"]) (T : Txt K mg tk) (U : DCx K C) (D_Door_takes_age : Mf P w K mg base C "takes_age" ["self", "age"] 1 (spDTakes K C)) : Mf P w K mg base C "takes_from" ["self", "button", "age"] 2 (spDFrom K C) := by
  refine a.mq sc_Door_takes_from (fun vs H Q E h => ?_) (fun f cdv A outer s H vs Q E hr h => ?_)
  · obtain ⟨_, _, _, _, _, _, _, _, _, _, rfl, _⟩ := h
    rfl
  · obtain ⟨p, ta, hk, bd, lg, x, n, D, e, age, rfl, b, ⟨v, hx, hw⟩, q⟩ := h
    refine ⟨_, (qss_one (qs_ret (qe_and (qe_meth D_Door_takes_age U.cl (hr.mono (by first | decide | omega)) (qv 0) (qac (qv 2) qa_nil)) (qe_one (qe_cmpR op_ge (qv 2) (qe_ix ix_tup (qv 1) qe_int (fun _ _ => rfl)) (nomark _)))))), ?_⟩
    unfold takesB at q
    refine ⟨_, rfl, p, rfl, b.no, _, rfl, p, ta, hk, bd, lg, n, D, age, rfl, b, _, rfl, ?_⟩
    refine ite2 (fun z => ?_) (fun z => ?_)
    · rw [z, Bool.true_and] at q
      exact ⟨_, rfl, _, rfl, x, _, _, _, rfl, rfl, SqT.of hx, rfl, _, _, rfl, rfl, q⟩
    · rw [Bool.eq_false_iff.mpr z, Bool.false_and] at q
      exact q
theorem ok_Door_plain_step (a : AtM K C "plain_step" "Door.plain_step" s_Door_plain_step ["self", "button", "age", "count"]) (T : Txt K mg tk) (U : DCx K C) (D_Door_takes_from : Mf P w K mg base C "takes_from" ["self", "button", "age"] 2 (spDFrom K C)) (D_step_by : Df P w K mg base "step_by" ["button", "age", "count", "near", "far"] 2 spStepJ) : Mf P w K mg base C "plain_step" ["self", "button", "age", "count"] 3 (spDStep K C) := by
  refine a.mq sc_Door_plain_step (fun vs H Q E h => ?_) (fun f cdv A outer s H vs Q E hr h => ?_)
  · obtain ⟨_, _, _, _, _, _, _, _, _, _, _, rfl, _⟩ := h
    rfl
  · obtain ⟨p, ta, hk, bd, lg, x, n, D, e, age, c, rfl, b, hx, ht, q⟩ := h
    refine ⟨_, (qss_cons (qs_if (qt_not (qt_val (qe_meth D_Door_takes_from U.cl (hr.mono (by first | decide | omega)) (qv 0) (qac (qv 1) (qac (qv 2) qa_nil))))) (qss_one (qs_ret (qe_tup (qac qe_str (qac (qv 1) qa_nil))))) qss_nil)
      (qss_one (qs_ret (qe_def D_step_by (hr.mono (by first | decide | omega)) (qac (qv 1) (qac (qv 2) (qac (qv 3) (qac (qe_fld (qv 0)) (qac (qe_fld (qv 0)) qa_nil))))))))), ?_⟩
    refine ⟨_, rfl, p, rfl, b.no, _, rfl, _, rfl, p, ta, hk, bd, lg, x, n, D, e, age, rfl, b, hx, _, rfl, ?_⟩
    rw [ht]
    refine iteF ?_
    exact ⟨_, rfl, _, rfl, _, rfl, _, rfl, p, _, rfl, b.h_near U, _, rfl, p, _, rfl, b.h_far U, x, e, age, c, D.near, D.far, rfl, hx, q⟩
theorem ok_Door_answer_to (a : AtM K C "answer_to" "Door.answer_to" s_Door_answer_to ["self", "press"]) (T : Txt K mg tk) (U : DCx K C) (D_Door_button_of : Mf P w K mg base C "button_of" ["self", "name"] 1 (spDOf K C)) (D_Door_takes_from : Mf P w K mg base C "takes_from" ["self", "button", "age"] 2 (spDFrom K C)) (D_Door_plain_step : Mf P w K mg base C "plain_step" ["self", "button", "age", "count"] 3 (spDStep K C))
    (D_read_press : Df P w K mg base "read_press" ["table", "key", "press"] 3 (spRead K)) : Mf P w K mg base C "answer_to" ["self", "press"] 4 (spDAnswer K C) := by
  refine a.mq sc_Door_answer_to (fun vs H Q E h => ?_) (fun f cdv A outer s H vs Q E hr h => ?_)
  · obtain ⟨_, _, _, _, _, _, _, _, _, _, _, rfl, _⟩ := h
    rfl
  · obtain ⟨p, ta, hk, bd, lg, pr, n, D, nm, age, ds, rfl, b, ok, ⟨pc, hp, hpc⟩, hn, l5, hdd, q⟩ := h
    refine ⟨_, (qss_cons (qs_asg (qv 1) (qg_seq rfl (qgs_cons (qg_name (i := 2) sc_Door_answer_to.nd rfl (Or.inl rfl)) (qgs_cons (qg_name (i := 3) sc_Door_answer_to.nd rfl (Or.inl rfl)) (qgs_cons (qg_name (i := 4) sc_Door_answer_to.nd rfl (Or.inl rfl)) qgs_nil)))))
      (qss_cons (qs_set (i := 5) sc_Door_answer_to.nd rfl (Or.inl rfl) (qe_meth D_Door_button_of U.cl (hr.mono (by first | decide | omega)) (qv 0) (qac (qv 2) qa_nil)))
      (qss_cons (qs_if (qt_cmpR op_isN (qv 5) qe_non (nomark _)) (qss_one (qs_ret (qe_tup (qac qe_str (qac qe_str qa_nil))))) qss_nil)
      (qss_cons (qs_if (qt_not (qt_val (qe_meth D_Door_takes_from U.cl (hr.mono (by first | decide | omega)) (qv 0) (qac (qv 5) (qac (qv 3) qa_nil))))) (qss_one (qs_ret (qe_tup (qac qe_str (qac qe_str qa_nil))))) qss_nil)
      (qss_cons (qs_set (i := 6) sc_Door_answer_to.nd rfl (Or.inl rfl) (qe_def D_read_press (hr.mono (by first | decide | omega)) (qac (qe_fld (qv 0)) (qac (qe_ix ix_list (qe_fld (qv 0)) (qv 3) (fun _ _ => rfl)) (qac (qv 1) qa_nil)))))
      (qss_cons (qs_if (qt_cmpR op_isN (qv 6) qe_non (nomark _)) (qss_one (qs_ret (qe_tup (qac qe_str (qac qe_str qa_nil))))) qss_nil)
      (qss_cons (qs_asg (qv 6) (qg_seq rfl (qgs_cons (qg_name (i := 7) sc_Door_answer_to.nd rfl (Or.inl rfl)) (qgs_cons (qg_name (i := 8) sc_Door_answer_to.nd rfl (Or.inl rfl)) qgs_nil))))
      (qss_cons (qs_asg (qe_meth D_Door_plain_step U.cl (hr.mono (by first | decide | omega)) (qv 0) (qac (qv 5) (qac (qv 3) (qac (qv 7) qa_nil)))) (qg_seq rfl (qgs_cons (qg_name (i := 9) sc_Door_answer_to.nd rfl (Or.inl rfl)) (qgs_cons (qg_name (i := 10) sc_Door_answer_to.nd rfl (Or.inl rfl)) qgs_nil))))
      (qss_cons (qs_dputK hr (qe_fld (qv 0)) (qv 2) (qv 10))
      (qss_cons (qs_if (qt_cmpR op_eq (qv 9) qe_str (nomark _)) (qss_one (qs_ret (qe_tup (qac qe_str (qac (qv 2) (qac (qv 8) qa_nil)))))) qss_nil)
      (qss_one (qs_ret (qe_tup (qac qe_str (qac (qv 9) qa_nil))))))))))))))), ?_⟩
    refine ⟨_, rfl, pr, _, rfl, .tup hp, rfl, _, _, rfl, _, _, rfl, _, _, rfl, rfl, ?_⟩
    refine ⟨_, rfl, p, rfl, b.no, _, rfl, p, ta, hk, bd, lg, n, D, nm, rfl, b, fun e1 => ?_, fun e x e1 hx => ?_⟩
    · have eJ : hearJ D nm age (readK D.t (keyA D age) nm ds) = ([.str "held", .str "unknown"], D.kn) := by unfold hearJ; rw [e1]
      rw [eJ] at q
      refine ⟨_, rfl, rfl, _, rfl, ?_⟩
      refine ite2 (fun _ => ?_) (fun y => absurd (decide_eq_true rfl) y)
      refine ⟨by show 2 ≤ sizeLine; decide, fun q1 hq1 => ?_⟩
      exact q q1 _ (Same.upd hq1).mv upd_same (b.same (Same.upd hq1))
    · refine ⟨_, rfl, rfl, _, rfl, ?_⟩
      refine ite2 (fun y => nomatch (of_decide_eq_true y)) (fun _ => ?_)
      refine ⟨_, rfl, p, rfl, b.no, _, rfl, _, rfl, p, ta, hk, bd, lg, x, n, D, e, age, rfl, b, hx, _, rfl, ?_⟩
      cases ht : takesB D e age with
      | false =>
        have eJ : hearJ D nm age (readK D.t (keyA D age) nm ds) = ([.str "held", .str "age"], D.kn) := by unfold hearJ; rw [e1]; simp only; rw [ht]; rfl
        rw [eJ] at q
        refine iteT ?_
        refine ⟨by show 2 ≤ sizeLine; decide, fun q1 hq1 => ?_⟩
        exact q q1 _ (Same.upd hq1).mv upd_same (b.same (Same.upd hq1))
      | true =>
        refine iteF ?_
        obtain ⟨a0, a1⟩ := takesB_in ht ok.l0
        obtain ⟨xs, ak, eh, hat, hak⟩ := b.ks.at a0 a1
        refine ⟨_, rfl, p, _, rfl, b.h_table U, _, rfl, p, _, rfl, b.h_house_keys U, _, rfl, hk, _, _, _, rfl, rfl, SqL.of eh, hat, _, rfl, ta, ak, pr, pc, nm, age, D.t, keyA D age, ds, rfl, .inr b.tb, .inr hak, .tup hp, .tup hpc, hn, ok.tp, l5, hdd, fun y H1 s1 told => ?_⟩
        have b1 := b.same s1
        have hx1 := hx.same s1
        have told' : Told H1 y (readK D.t (keyA D age) nm ds) := told
        cases er : readK D.t (keyA D age) nm ds with
        | none =>
          rw [er] at told' q
          have ey : y = .non := told'
          subst ey
          have eJ : hearJ D nm age none = ([.str "held", .str "false"], D.kn) := by unfold hearJ; rw [e1]; simp only; rw [ht]; rfl
          rw [eJ] at q
          refine ⟨_, rfl, rfl, _, rfl, ?_⟩
          refine ite2 (fun _ => ?_) (fun y => absurd (decide_eq_true rfl) y)
          refine ⟨by show 2 ≤ sizeLine; decide, fun q1 hq1 => ?_⟩
          exact q q1 _ (s1.trans (Same.upd hq1)).mv upd_same (b1.same (Same.upd hq1))
        | some cd =>
          obtain ⟨c, d⟩ := cd
          rw [er] at told' q
          obtain ⟨pp, ey, hpp⟩ := told'
          subst ey
          refine ⟨_, rfl, rfl, _, rfl, ?_⟩
          refine ite2 (fun y => nomatch (of_decide_eq_true y)) (fun _ => ?_)
          refine ⟨_, rfl, pp, _, rfl, .tup hpp, rfl, _, _, rfl, _, _, rfl, rfl, ?_⟩
          refine ⟨_, rfl, p, rfl, b1.no, _, rfl, _, rfl, _, rfl, p, ta, hk, bd, lg, x, n, D, e, age, c, rfl, b1, hx1, ht, fun q1 a' H2 s2 hq1 hb' => ⟨q1, _, rfl, .tup hq1, rfl, _, _, rfl, _, _, rfl, rfl, ?_⟩⟩
          have b2 := b1.same s2
          obtain ⟨H3, dp, m3, kb3⟩ := b2.kb.put nm (by have := ok.nl; omega) hb'
          refine ⟨_, rfl, _, rfl, p, _, rfl, b2.h_buttons U, _, rfl, bd, H3, rfl, dp, ?_⟩
          have b3 := b2.putK m3 kb3
          have mm : Mv [bd] H H3 := (s1.trans s2).mv.trans m3
          refine ⟨_, rfl, rfl, _, rfl, ?_⟩
          by_cases hw : (stepJ D.near D.far e age c).1 = "near"
          · have eJ : hearJ D nm age (some (c, d)) = ([.str "open", .str nm, .int d], putN D.kn nm (stepJ D.near D.far e age c).2) := by unfold hearJ; rw [e1]; simp only; rw [if_pos ht, if_pos hw]
            rw [eJ] at q
            refine ite2 (fun _ => ?_) (fun y => absurd (decide_eq_true (by rw [hw])) y)
            refine ⟨_, rfl, _, rfl, by show 3 ≤ sizeLine; decide, fun q2 hq2 => ?_⟩
            exact q q2 _ (mm.trans (Same.upd hq2).mv) upd_same (b3.same (Same.upd hq2))
          · have eJ : hearJ D nm age (some (c, d)) = ([.str "held", .str (stepJ D.near D.far e age c).1], putN D.kn nm (stepJ D.near D.far e age c).2) := by unfold hearJ; rw [e1]; simp only; rw [if_pos ht, if_neg hw]
            rw [eJ] at q
            refine ite2 (fun y => absurd (of_decide_eq_true y) (by intro z; injection z with z; exact hw z)) (fun _ => ?_)
            refine ⟨_, rfl, by show 2 ≤ sizeLine; decide, fun q2 hq2 => ?_⟩
            exact q q2 _ (mm.trans (Same.upd hq2).mv) upd_same (b3.same (Same.upd hq2))
theorem ok_Door_hear (a : AtM K C "hear" "Door.hear" s_Door_hear ["self", "thing"]) (T : Txt K mg tk) (U : DCx K C) (D_is_press : Df P w K mg base "is_press" ["thing"] 5 spIsPress) (D_Door_answer_to : Mf P w K mg base C "answer_to" ["self", "press"] 4 (spDAnswer K C)) : Mf P w K mg base C "hear" ["self", "thing"] 6 (spDHear K C) := by
  refine a.mq sc_Door_hear (fun vs H Q E h => ?_) (fun f cdv A outer s H vs Q E hr h => ?_)
  · obtain ⟨_, _, _, _, _, _, _, _, _, _, _, rfl, _⟩ := h
    rfl
  · obtain ⟨p, ta, hk, bd, lg, pr, n, D, nm, age, ds, rfl, b, n1, ok, hp, hn, l5, hdd, q⟩ := h
    refine ⟨_, (qss_cons (qs_if (qt_not (qt_val (qe_def D_is_press (hr.mono (by first | decide | omega)) (qac (qv 1) qa_nil)))) (qss_one (qs_ret (qe_tup (qac qe_str (qac qe_str qa_nil))))) qss_nil)
      (qss_cons (qs_set (i := 2) sc_Door_hear.nd rfl (Or.inl rfl) (qe_meth D_Door_answer_to U.cl (hr.mono (by first | decide | omega)) (qv 0) (qac (qv 1) qa_nil)))
      (qss_cons (qs_expr (qe_bm PySem.F.plainAttrs_list PySem.F.slot_list_append PySem.F.type_list_append mr_append (qe_fld (qv 0)) (qac (qe_tup (qac qe_str (qac (qv 1) (qac (qv 2) qa_nil)))) qa_nil)))
      (qss_one (qs_ret (qv 2)))))), ?_⟩
    refine ⟨_, rfl, pr, nm, age, ds, rfl, hp, hn, l5, hdd, fun H1 s1 => ⟨_, rfl, iteF ?_⟩⟩
    have b1 := b.same s1
    refine ⟨_, rfl, p, rfl, b1.no, _, rfl, p, ta, hk, bd, lg, pr, n, D, nm, age, ds, rfl, b1, ok, hp.same s1, hn, l5, hdd, fun q1 H2 m2 hq1 b2 => ?_⟩
    obtain ⟨rs, el, hl⟩ := id b2.lo
    refine ⟨_, rfl, p, _, rfl, b2.h_log U, .inl ⟨rfl, _, SqL.of el⟩, _, rfl, _, rfl, by show 3 ≤ sizeLine; decide, fun r hr' => ?_⟩
    have u3 := Same.upd (o := .tup [.str "hear", .ref pr, .ref q1]) hr'
    have b3 := b2.same u3
    refine ⟨lg, _, _, rfl, rfl, u3 _ _ el, by rw [List.length_map, sizeLine_eq]; omega, ?_⟩
    refine ⟨_, rfl, ?_⟩
    refine q q1 _ (((s1.mv.trans (m2.mono (fun c h z => h (by rw [List.mem_singleton.mp z]; exact List.mem_cons_self ..)))).trans u3.mv).trans (Mv.upd1.mono (fun c h z => h (by rw [List.mem_singleton.mp z]; exact List.mem_cons_of_mem _ (List.mem_cons_self ..))))) ?_ (b3.putL (u3 _ _ el) hl)
    rw [upd_ne (ne_of (u3 _ _ hq1) (u3 _ _ el) (by intro z; cases z))]
    exact u3 _ _ hq1
theorem ok_Door_read_right (a : AtM K C "read_right" "Door.read_right" s_Door_read_right ["self", "thing"]) (T : Txt K mg tk) (U : DCx K C) (D_is_press : Df P w K mg base "is_press" ["thing"] 5 spIsPress) (D_Door_takes_age : Mf P w K mg base C "takes_age" ["self", "age"] 1 (spDTakes K C)) (D_read_press : Df P w K mg base "read_press" ["table", "key", "press"] 3 (spRead K)) : Mf P w K mg base C "read_right" ["self", "thing"] 6 (spDRight K C) := by
  refine a.mq sc_Door_read_right (fun vs H Q E h => ?_) (fun f cdv A outer s H vs Q E hr h => ?_)
  · obtain ⟨_, _, _, _, _, _, _, _, _, _, _, rfl, _⟩ := h
    rfl
  · obtain ⟨p, ta, hk, bd, lg, pr, n, D, nm, age, ds, rfl, b, ok, hp, hn, l5, hdd, ht, q⟩ := h
    refine ⟨_, (qss_cons (qs_if (QW.pt (qw_or (qt_not (qt_val (qe_def D_is_press (hr.mono (by first | decide | omega)) (qac (qv 1) qa_nil)))) (qw_or1 (qt_not (qt_val (qe_meth D_Door_takes_age U.cl (hr.mono (by first | decide | omega)) (qv 0) (qac (qe_ix ix_tup (qv 1) qe_int (fun _ _ => rfl)) qa_nil))))))) (qss_one (qs_ret qe_non)) qss_nil)
      (qss_one (qs_ret (qe_def D_read_press (hr.mono (by first | decide | omega)) (qac (qe_fld (qv 0)) (qac (qe_ix ix_list (qe_fld (qv 0)) (qe_ix ix_tup (qv 1) qe_int (fun _ _ => rfl)) (fun _ _ => rfl)) (qac (qv 1) qa_nil))))))), ?_⟩
    refine ⟨_, rfl, pr, nm, age, ds, rfl, hp, hn, l5, hdd, fun H1 s1 => ⟨_, rfl, iteF ?_⟩⟩
    have b1 := b.same s1
    obtain ⟨pc, hp1, hpc1⟩ := hp.same s1
    refine ⟨_, rfl, p, rfl, b1.no, _, rfl, pr, _, _, _, rfl, rfl, SqT.of hp1, rfl, p, ta, hk, bd, lg, n, D, age, rfl, b1, _, rfl, ?_⟩
    rw [ht]
    refine iteF ?_
    have ht' : takesB D ⟨age, 0, none⟩ age = true := by unfold takesB; rw [ht, decide_eq_true (Int.le_refl _)]; rfl
    obtain ⟨a0, a1⟩ := takesB_in ht' ok.l0
    obtain ⟨xs, ak, eh, hat, hak⟩ := b1.ks.at a0 a1
    exact ⟨_, rfl, p, _, rfl, b1.h_table U, _, rfl, p, _, rfl, b1.h_house_keys U, _, rfl, pr, _, _, _, rfl, rfl, SqT.of hp1, rfl, hk, _, _, _, rfl, rfl, SqL.of eh, hat, _, rfl, ta, ak, pr, pc, nm, age, D.t, keyA D age, ds, rfl, .inr b1.tb, .inr hak, .tup hp1, .tup hpc1, hn, ok.tp, l5, hdd, fun y H2 s2 told => q y H2 (s1.trans s2) told⟩
theorem ok_Door_learn (a : AtM K C "learn" "Door.learn" s_Door_learn ["self", "one", "other"]) (T : Txt K mg tk) (U : DCx K C) (D_Door_read_right : Mf P w K mg base C "read_right" ["self", "thing"] 6 (spDRight K C)) (D_Door_is_full : Mf P w K mg base C "is_full" ["self"] 1 (spDFull K C)) : Mf P w K mg base C "learn" ["self", "one", "other"] 7 (spDLearn K C) := by
  refine a.mq sc_Door_learn (fun vs H Q E h => ?_) (fun f cdv A outer s H vs Q E hr h => ?_)
  · obtain ⟨_, _, _, _, _, _, _, _, _, _, _, _, _, _, _, _, rfl, _⟩ := h
    rfl
  · obtain ⟨p, ta, hk, bd, lg, p1, p2, n, D, nm, age, c, d1, d2, ds1, ds2, rfl, b, n1, ok, hp1, hp2, hn, l1, hd1, l2, hd2, ht, r1, r2, hno, hmo, q⟩ := h
    refine ⟨_, (qss_cons (qs_set (i := 3) sc_Door_learn.nd rfl (Or.inl rfl) (qe_meth D_Door_read_right U.cl (hr.mono (by first | decide | omega)) (qv 0) (qac (qv 1) qa_nil)))
      (qss_cons (qs_if (qt_cmpR op_isN (qv 3) qe_non (nomark _)) qss_never qss_nil)
      (qss_cons (qs_set (i := 4) sc_Door_learn.nd rfl (Or.inl rfl) (qe_meth D_Door_read_right U.cl (hr.mono (by first | decide | omega)) (qv 0) (qac (qv 2) qa_nil)))
      (qss_cons (qs_if (QW.pt (qw_or (qt_cmpR op_isN (qv 4) qe_non (nomark _)) (qw_or (qt_cmpR (op_ned hr) (qe_slice sl_tupW (qv 2) qo_none (qo_some qe_int)) (qe_slice sl_tupW (qv 1) qo_none (qo_some qe_int)) (nomark _)) (qw_or1 (qt_cmpR op_ne (qe_ix ix_tup (qv 4) qe_int (fun _ _ => rfl)) (qe_op op_add (qe_ix ix_tup (qv 3) qe_int (fun _ _ => rfl)) qe_int) (nomark _)))))) qss_never qss_nil)
      (qss_cons (qs_asg (qv 1) (qg_seq rfl (qgs_cons (qg_name (i := 5) sc_Door_learn.nd rfl (Or.inl rfl)) (qgs_cons (qg_name (i := 6) sc_Door_learn.nd rfl (Or.inl rfl)) (qgs_cons (qg_name (i := 7) sc_Door_learn.nd rfl (Or.inl rfl)) qgs_nil)))))
      (qss_cons (qs_if (qt_din hr (qv 5) (qe_fld (qv 0))) qss_never qss_nil)
      (qss_cons (qs_if (qt_val (qe_meth0 D_Door_is_full U.cl (hr.mono (by first | decide | omega)) (qv 0))) qss_never qss_nil)
      (qss_cons (qs_dputK hr (qe_fld (qv 0)) (qv 5) (qe_tup (qac (qv 6) (qac (qe_ix ix_tup (qv 4) qe_int (fun _ _ => rfl)) (qac qe_non qa_nil)))))
      (qss_one (qs_expr (qe_bm PySem.F.plainAttrs_list PySem.F.slot_list_append PySem.F.type_list_append mr_append (qe_fld (qv 0)) (qac (qe_tup (qac qe_str (qac (qv 1) (qac (qv 2) qa_nil)))) qa_nil)))))))))))), ?_⟩
    refine ⟨_, rfl, p, rfl, b.no, _, rfl, p, ta, hk, bd, lg, p1, n, D, nm, age, ds1, rfl, b, ok, hp1, hn, l1, hd1, ht, fun x1 H1 s1 t1 => ?_⟩
    rw [r1] at t1
    obtain ⟨f1, rfl, hf1⟩ := t1
    refine ⟨_, rfl, rfl, _, rfl, ?_⟩
    refine ite2 (fun y => nomatch (of_decide_eq_true y)) (fun _ => ?_)
    have b1 := b.same s1
    refine ⟨_, rfl, p, rfl, b1.no, _, rfl, p, ta, hk, bd, lg, p2, n, D, nm, age, ds2, rfl, b1, ok, hp2.same s1, hn, l2, hd2, ht, fun x2 H2 s2 t2 => ?_⟩
    rw [r2] at t2
    obtain ⟨f2, rfl, hf2⟩ := t2
    have b2 := b1.same s2
    obtain ⟨c1, e1, _⟩ := hp1.same (s1.trans s2)
    obtain ⟨c2, e2, _⟩ := hp2.same (s1.trans s2)
    refine ⟨_, rfl, rfl, _, rfl, ?_⟩
    refine ite2 (fun y => nomatch (of_decide_eq_true y)) (fun _ => ?_)
    refine ⟨_, rfl, _, rfl, p2, _, rfl, e2, fun t3 H3 s3 h3 _ => ⟨_, rfl, _, rfl, p1, _, rfl, s3 _ _ e1, fun t4 H4 s4 h4 _ => ?_⟩⟩
    have h3' : H4 t3 = some (.tup [.str nm, .int age]) := s4 _ _ h3
    have h4' : H4 t4 = some (.tup [.str nm, .int age]) := h4
    refine ⟨1, by decide, Eqd.pair h3' h4', _, rfl, ?_⟩
    refine iteF ?_
    have S4 := (s3.trans s4)
    refine ⟨_, rfl, f2, _, _, _, rfl, rfl, SqT.of (S4 _ _ hf2), rfl, _, rfl, f1, _, _, _, rfl, rfl, SqT.of (S4 _ _ (s2 _ _ hf1)), rfl, _, _, rfl, rfl, rfl, _, rfl, ?_⟩
    refine iteNS rfl ?_
    have b4 := b2.same S4
    refine ⟨_, rfl, p1, _, rfl, .tup (S4 _ _ e1), rfl, _, _, rfl, _, _, rfl, _, _, rfl, rfl, ?_⟩
    have g4 : DGet H4 bd (.str nm) none := by
      rcases b4.kb.get nm with ⟨_, g⟩ | ⟨e, x, e5, _⟩
      · exact g
      · rw [hno] at e5; cases e5
    refine ⟨_, rfl, _, rfl, p, _, rfl, b4.h_buttons U, bd, _, rfl, g4, _, rfl, ?_⟩
    refine iteF ?_
    refine ⟨_, rfl, p, rfl, b4.no, p, ta, hk, bd, lg, n, D, rfl, b4, _, rfl, ?_⟩
    refine ite2 (fun y => absurd (of_decide_eq_true y) (by omega)) (fun _ => ?_)
    refine ⟨_, rfl, _, rfl, f2, _, _, _, rfl, rfl, SqT.of (S4 _ _ hf2), rfl, by show 3 ≤ sizeLine; decide, fun t5 ht5 => ?_⟩
    have u5 := Same.upd (o := .tup [.int age, .int (c + 1), .non]) ht5
    have b5 := b4.same u5
    obtain ⟨H6, dp, m6, kb6⟩ := b5.kb.put nm (a := t5) (e := ⟨age, c + 1, none⟩) (by have := ok.nl; omega) ⟨.non, upd_same, rfl⟩
    refine ⟨_, rfl, p, _, rfl, b5.h_buttons U, _, rfl, bd, H6, rfl, dp, ?_⟩
    have b6 := b5.putK m6 kb6
    obtain ⟨rs, el, hl⟩ := id b6.lo
    refine ⟨_, rfl, p, _, rfl, b6.h_log U, .inl ⟨rfl, _, SqL.of el⟩, _, rfl, _, rfl, by show 3 ≤ sizeLine; decide, fun r hr' => ?_⟩
    have u7 := Same.upd (o := .tup [.str "learn", .ref p1, .ref p2]) hr'
    have b7 := b6.same u7
    refine ⟨lg, _, _, rfl, rfl, u7 _ _ el, by rw [List.length_map, sizeLine_eq]; omega, ?_⟩
    exact q _ ((((((s1.trans s2).trans S4).trans u5).mv.trans (m6.mono (fun c h z => h (by rw [List.mem_singleton.mp z]; exact List.mem_cons_self ..)))).trans u7.mv).trans (Mv.upd1.mono (fun c h z => h (by rw [List.mem_singleton.mp z]; exact List.mem_cons_of_mem _ (List.mem_cons_self ..))))) (b7.putL (u7 _ _ el) hl)
end
section
variable {P : Program} {w : World} {K : PySem.W.Frag} {mg : Str → Option Value} {base : Heap} {tk : Nat → Tok} {C : Addr}
theorem ok_Door_known_now (a : AtM K C "known_now" "Door.known_now" s_Door_known_now ["self"]) (T : Txt K mg tk) (U : DCx K C) : Mf P w K mg base C "known_now" ["self"] 1 (spDKnown K C) := by
  refine a.mq sc_Door_known_now (fun vs H Q E h => ?_) (fun f cdv A outer s H vs Q E hr h => ?_)
  · obtain ⟨_, _, _, _, _, _, _, rfl, _⟩ := h
    rfl
  · obtain ⟨p, ta, hk, bd, lg, n, D, rfl, b, ok, q⟩ := h
    obtain ⟨fn, hd, hbu, hpm, _⟩ := id b.kb
    refine ⟨_, (qss_one (qs_ret (qe_callTy call_tuple_of (by rfl) T.b_tuple PyProof.Rows.boot_tuple (qac (qe_comp (own := ["name"]) (fr := ["self"]) (js := [0]) rfl (qi_list (qe_callB (call_sortedD rfl) (by rfl) T.b_sorted PyProof.Rows.boot_sorted (qac (qe_fld (qv 0)) qa_nil))) rfl (clo1 rfl) rfl (bsc1 rfl (by decide +kernel) (by decide +kernel) (by decide +kernel) rfl rfl rfl) (fun _ _ _ _ => qg_name (i := 0) (show List.Nodup (["name", "self"] : List Str) from by decide +kernel) rfl (Or.inl rfl) (.inr rfl)) (fun _ _ _ _ => (qe_op op_catW (qe_tup (qac (qv 0) qa_nil)) (qe_dget hr (qe_fldK (K := K) rfl (qv 1)) (qv 0))))) qa_nil)))), ?_⟩
    refine ⟨_, rfl, p, _, rfl, b.h_buttons U, bd, _, fn.1.map (·.1), rfl, hd, kn_keys _ _, by rw [List.length_map, hpm.length_eq]; have := ok.nl; omega, fun l ss hl pm0 so => ⟨l, rfl, ⟨_, SqL.of upd_same⟩, ?_⟩⟩
    have pm := pm0.trans (hpm.map (·.1))
    have u1 := Same.upd (o := .lst (ss.map V.str)) hl
    have ls : ss.length ≤ 60 := by rw [pm.length_eq, List.length_map]; exact ok.nl
    refine comp_list (K := K) (xs := ss.map V.str) (by rw [List.length_map, sizeLine_eq]; omega) (fun i ys H3 => Same (upd H l (.lst (ss.map V.str))) H3 ∧ ∃ as : List Addr, ys = as.map V.ref ∧ as.length = i ∧ ∀ (j : Nat) (x : Addr) (nm : Str) (e : Kb), as[j]? = some x → ss[j]? = some nm → D.kn.lookup nm = some e → ∃ v, H3 x = some (.tup [.str nm, .int e.age, .int e.last, v]) ∧ Wt H3 v e.wt) ⟨Same.refl _, [], rfl, rfl, fun j x nm e h => by (cases h)⟩ (fun i ys H3 ⟨s3, _⟩ => s3.seq (SqL.of upd_same)) ?_ ?_
    · rintro i ys H3 x hx hyl ⟨s3, as, rfl, hal, has⟩
      rw [List.getElem?_map] at hx
      cases es : ss[i]? with
      | none => rw [es] at hx; cases hx
      | some nm =>
        rw [es] at hx
        obtain rfl : V.str nm = x := Option.some.inj hx
        have hmem : nm ∈ D.kn.map (·.1) := pm.mem_iff.mp (List.mem_of_getElem? es)
        obtain ⟨e, he⟩ := lookup_of_mem hmem
        have b3 := b.same (u1.trans s3)
        obtain ⟨e', x0, he', g, v0, hx0, hw0⟩ := (b3.kb.get nm).resolve_left (fun z => by rw [he] at z; cases z.1)
        rw [he] at he'
        cases he'
        refine ⟨_, rfl, by show 1 ≤ sizeLine; decide, fun t ht => ?_⟩
        have u4 := Same.upd (o := .tup [.str nm]) ht
        have b4 := b3.same u4
        obtain ⟨e', x0, he', g, v0, hx0, hw0⟩ := (b4.kb.get nm).resolve_left (fun z => by rw [he] at z; cases z.1)
        rw [he] at he'
        cases he'
        refine ⟨_, rfl, p, _, rfl, b4.h_buttons U, _, rfl, bd, _, rfl, g, t, x0, _, _, rfl, rfl, upd_same, hx0, by show 4 ≤ sizeLine; decide, fun q1 H5 s5 hq1 => ?_⟩
        refine ⟨(s3.trans u4).trans s5, as ++ [q1], by simp, by simp [hal], fun j y m2 e2 h1 h2 h3 => ?_⟩
        rw [List.getElem?_append] at h1
        split at h1
        · obtain ⟨v, a1, a2⟩ := has j y m2 e2 h1 h2 h3
          exact ⟨v, s5 _ _ (u4 _ _ a1), a2.mv (S := []) (u4.trans s5).mv (fun c h => nomatch h)⟩
        · have hj : j - as.length = 0 := by
            cases hj : j - as.length with
            | zero => rfl
            | succ k => rw [hj] at h1; cases h1
          rw [hj] at h1
          cases h1
          obtain rfl : j = i := by omega
          rw [es] at h2
          cases h2
          rw [he] at h3
          cases h3
          exact ⟨v0, hq1, hw0.mv (S := []) s5.mv (fun c h => nomatch h)⟩
    · rintro ys H3 hyl ⟨s3, as, rfl, hal, has⟩ l2 hl2
      have u4 := Same.upd (o := .lst (as.map V.ref)) hl2
      refine ⟨l2, _, rfl, .inl ⟨SqL.of upd_same, fun q1 hq1 => ?_⟩⟩
      have u5 := Same.upd (o := .tup (as.map V.ref)) hq1
      have S := u4.trans u5
      refine q q1 ss _ ((u1.trans s3).trans S) pm so ⟨as, upd_same, by rw [hal, List.length_map], fun j x nm e h1 h2 h3 => ?_⟩
      obtain ⟨v, a1, a2⟩ := has j x nm e h1 h2 h3
      exact ⟨v, S _ _ a1, a2.mv (S := []) S.mv (fun c h => nomatch h)⟩
end
section
variable {P : Program} {w : World} {K : PySem.W.Frag} {mg : Str → Option Value} {base : Heap} {tk : Nat → Tok} {C : Addr}
theorem ok_Door_twin_door (a : AtM K C "twin_door" "Door.twin_door" s_Door_twin_door ["self"]) (T : Txt K mg tk) (U : DCx K C) (I_Door : Mi P w K mg base C "Door" ["self", "table", "keys", "near", "far", "most"] 1 (spDInit K C)) : Mf P w K mg base C "twin_door" ["self"] 3 (spDTwin K C) := by
  refine a.mq sc_Door_twin_door (fun vs H Q E h => ?_) (fun f cdv A outer s H vs Q E hr h => ?_)
  · obtain ⟨_, _, _, _, _, _, _, rfl, _⟩ := h
    rfl
  · obtain ⟨p, ta, hk, bd, lg, n, D, rfl, b, k8, q⟩ := h
    refine ⟨_, (qss_cons (qs_set (i := 1) sc_Door_twin_door.nd rfl (Or.inl rfl) (qe_make I_Door (hr.mono (by first | decide | omega)) (qac (qe_fld (qv 0)) (qac (qe_fld (qv 0)) (qac (qe_fld (qv 0)) (qac (qe_fld (qv 0)) (qac (qe_fld (qv 0)) qa_nil)))))))
      (qss_cons (qs_fld (qv 1) (qe_fld (qv 0)))
      (qss_cons (qs_fld (qv 1) (qe_callTy call_dictD (by rfl) T.b_dict PyProof.Rows.boot_dict (qac (qe_fld (qv 0)) qa_nil)))
      (qss_cons (qs_fld (qv 1) (qe_callTy call_list_of (by rfl) T.b_list PyProof.Rows.boot_list (qac (qe_fld (qv 0)) qa_nil)))
      (qss_one (qs_ret (qv 1))))))), ?_⟩
    refine ⟨_, rfl, p, _, rfl, b.h_table U, _, rfl, p, _, rfl, b.h_house_keys U, _, rfl, p, _, rfl, b.h_near U, _, rfl, p, _, rfl, b.h_far U, _, rfl, p, _, rfl, b.h_most U, fun x dx nx ndx nex => ?_⟩
    have sJ : Same H (upd (upd H dx (.own x)) x (.ins C dx [])) := (Same.upd ndx).trans (Same.upd (by rw [upd_ne nex.symm]; exact nx))
    refine ⟨x, ta, hk, dx, D.near, D.far, D.most, D.t, D.kss, rfl, upd_same, .inr (Same.sqt sJ b.tb), b.ks.same sJ, k8, fun ta' hk' bd0 lg0 H1 h1 h2 h3 mv dr => ⟨rfl, ?_⟩⟩
    have S1 : Same H H1 := fun c o e => mv c o (nin1 (ne_of_none e nx)) (sJ c o e)
    obtain ⟨dx', e1⟩ := id dr.ob
    obtain ⟨as, eh1, _⟩ := id dr.ks
    have nhx : hk' ≠ x := ne_of eh1 e1 (by intro z; cases z)
    obtain ⟨f0, hd, hbu, hpm, nd⟩ := id b.kb
    obtain ⟨rs, el, ln⟩ := id b.lo
    have b1 := b.same S1
    refine ⟨_, rfl, p, _, rfl, b1.h_least_age U, _, rfl, x, _, rfl, put_least U e1 D.least, ?_⟩
    have S2 := S1.put (o := .ins C dx' (dF ⟨D.t, D.kss, D.near, D.far, D.most, D.least, []⟩ ta' hk' bd0 lg0)) nx
    have b2 := b.same S2
    refine ⟨_, rfl, p, _, rfl, b2.h_buttons U, bd, _, rfl, S2 _ _ hd, fun bd' hbd' => ?_⟩
    have nbx : bd' ≠ x := (ne_of_none upd_same hbd').symm
    have fbd : H bd' = none := s2n hbd' S2
    have S3 := S2.put (o := .dK (knD f0.1 f0.2)) fbd
    refine ⟨_, rfl, x, _, rfl, put_buttons U (by rw [upd_ne nbx.symm]; exact upd_same) bd', ?_⟩
    have S4 := S3.put (o := .ins C dx' (dF ⟨D.t, D.kss, D.near, D.far, D.most, D.least, []⟩ ta' hk' bd' lg0)) nx
    have b4 := b.same S4
    refine ⟨_, rfl, p, _, rfl, b4.h_log U, lg, _, rfl, .inl (SqL.of (S4 _ _ el)), fun lg' hlg' => ?_⟩
    have nlx : lg' ≠ x := (ne_of_none upd_same hlg').symm
    have flg : H lg' = none := s2n hlg' S4
    have S5 := S4.put (o := .lst (rs.map V.ref)) flg
    refine ⟨_, rfl, x, _, rfl, put_log U (by rw [upd_ne nlx.symm]; exact upd_same) lg', ?_⟩
    have S6 := S5.put (o := .ins C dx' (dF ⟨D.t, D.kss, D.near, D.far, D.most, D.least, []⟩ ta' hk' bd' lg')) nx
    have e4b : _ = some (HO.dK (knD f0.1 f0.2)) := (upd_ne (o := .ins C dx' (dF ⟨D.t, D.kss, D.near, D.far, D.most, D.least, []⟩ ta' hk' bd' lg0)) nbx).trans (upd_same (H := upd H1 x (.ins C dx' (dF ⟨D.t, D.kss, D.near, D.far, D.most, D.least, []⟩ ta' hk' bd0 lg0))) (a := bd') (o := .dK (knD f0.1 f0.2)))
    have nlb : lg' ≠ bd' := (ne_of_none e4b hlg').symm
    have nhb : hk' ≠ bd' := ne_of_none (by rw [upd_ne nhx]; exact eh1) hbd'
    have nhl : hk' ≠ lg' := ne_of_none (by rw [upd_ne nhx, upd_ne nhb, upd_ne nhx]; exact eh1) hlg'
    have M : Mv [x] H1 _ := (((Mv.upd1 (a := x) (H := H1) (o := .ins C dx' (dF ⟨D.t, D.kss, D.near, D.far, D.most, D.least, []⟩ ta' hk' bd0 lg0))).trans (Same.upd (o := .dK (knD f0.1 f0.2)) hbd').mv).trans (Mv.upd1 (o := .ins C dx' (dF ⟨D.t, D.kss, D.near, D.far, D.most, D.least, []⟩ ta' hk' bd' lg0)))).trans (Same.upd (o := .lst (rs.map V.ref)) hlg').mv
    have M6 := M.trans (Mv.upd1 (o := .ins C dx' (dF ⟨D.t, D.kss, D.near, D.far, D.most, D.least, []⟩ ta' hk' bd' lg')))
    have nt : NT [x] H1 := NT.one e1 trivial
    refine ⟨_, rfl, q x ta' hk' bd' lg' _ S6 nx (s2n h1 sJ) fbd flg ⟨⟨dx', upd_same⟩, M6.sqt nt dr.tb, dr.ks.mv M6 nt (nin1 nhx), ⟨f0, ?_, fun e he => (hbu e he).same S6, hpm, nd⟩, ⟨rs, ?_, ln⟩, nhl.symm⟩⟩
    · rw [upd_ne nbx, upd_ne nlb.symm]; exact e4b
    · rw [upd_ne nlx]; exact upd_same
end
end Lw
namespace Lw
open PySem L2 L3
section
variable {P : Program} {w : World} {K : PySem.W.Frag} {mg : Str → Option Value} {base : Heap} {tk : Nat → Tok} {C : Addr}
theorem ok_Door___initT (a : AtM K C "__init__" "Door.__init__" s_Door___init ["self", "table", "keys", "near", "far", "most"]) (T : Txt K mg tk) (U : DCx K C) : Mf P w K mg base C "__init__" ["self", "table", "keys", "near", "far", "most"] 1 (spDInitT K C) := by
  refine a.mq sc_Door___init (fun vs H Q E h => ?_) (fun f cdv A outer s H vs Q E hr h => ?_)
  · obtain ⟨_, _, _, _, _, _, _, _, _, rfl, _⟩ := h
    rfl
  · obtain ⟨p, a, b, dx, near, far, most, t, kss, rfl, hp, ha, hb, hl, q⟩ := h
    refine ⟨_, (qss_cons (qs_fld (qv 0) (qe_callTy call_tupleQ (by rfl) T.b_tuple PyProof.Rows.boot_tuple (qac (qv 1) qa_nil)))
      (qss_cons (qs_fld (qv 0) (qe_comp (own := ["key"]) (fr := []) (js := []) rfl (qi_tup (qv 2)) rfl (fun _ _ h => nomatch h) rfl (bsc0 rfl (by decide +kernel) (by decide +kernel) (by decide +kernel)) (fun _ _ _ _ => qg_name (i := 0) (show List.Nodup (["key"] : List Str) from by decide +kernel) rfl (Or.inl rfl) (.inr rfl)) (fun _ _ _ _ => (qe_callTy (call_tupleQK (K := K) rfl) (by rfl) T.b_tuple PyProof.Rows.boot_tuple (qac (qv 0) qa_nil)))))
      (qss_cons (qs_fld (qv 0) (qv 3))
      (qss_cons (qs_fld (qv 0) (qv 4))
      (qss_cons (qs_fld (qv 0) (qv 5))
      (qss_cons (qs_fld (qv 0) qe_int)
      (qss_cons (qs_fld (qv 0) qe_dnewK)
      (qss_one (qs_fld (qv 0) (qe_lst qa_nil)))))))))), ?_⟩
    refine ⟨_, rfl, a, _, rfl, ha, fun ta H2 s2 ht => ⟨_, rfl, p, _, rfl, put_newD U.cl (s2 _ _ hp) U.n_table 0, ?_⟩⟩
    have e2 := s2 _ _ hp
    have hb2 := (hb.same s2).upd (o := .ins C dx [("table", .ref ta)]) e2
    obtain ⟨as, eb, la, hks⟩ := hb2
    have ht2 := sqt_upd (o := .ins C dx [("table", .ref ta)]) e2 ht
    refine ⟨_, rfl, b, rfl, ⟨_, eb⟩, comp_tup (K := K) (xs := as.map V.ref) (by rw [List.length_map, la, sizeLine_eq]; omega) (fun i ys H3 => Same (upd H2 p (.ins C dx [("table", .ref ta)])) H3 ∧ ∃ bs : List Addr, ys = bs.map V.ref ∧ bs.length = i ∧ ∀ (j : Nat) (x : Addr) (ks : List Int), bs[j]? = some x → kss[j]? = some ks → SqT K H3 x (ks.map V.int)) ⟨Same.refl _, [], rfl, rfl, fun j x ks e => by (cases e)⟩ (fun i ys H3 ⟨s3, _⟩ => Same.sqt s3 eb) ?_ ?_⟩
    · rintro i ys H3 x hx hyl ⟨s3, bs, rfl, hbl, hbs⟩
      rw [List.getElem?_map] at hx
      cases ea : as[i]? with
      | none => rw [ea] at hx; cases hx
      | some x0 =>
        rw [ea] at hx
        obtain rfl : V.ref x0 = x := Option.some.inj hx
        have hi : i < kss.length := by rw [← la]; exact (List.getElem?_eq_some_iff.mp ea).1
        have hk0 := hks i x0 kss[i] ea (List.getElem?_eq_getElem hi)
        refine ⟨_, rfl, x0, _, rfl, .inr (Same.sqt s3 hk0), fun l H4 s4 hl4 => ⟨s3.trans s4, bs ++ [l], by simp, by simp [hbl], fun j y ks e1 e2' => ?_⟩⟩
        rw [List.getElem?_append] at e1
        split at e1
        · exact Same.sqt s4 (hbs j y ks e1 e2')
        · have hj : j - bs.length = 0 := by
            cases hj : j - bs.length with
            | zero => rfl
            | succ k => rw [hj] at e1; cases e1
          rw [hj] at e1
          cases e1
          have : j = i := by omega
          subst this
          rw [List.getElem?_eq_getElem hi] at e2'
          cases e2'
          exact hl4
    · rintro ys H3 hyl ⟨s3, bs, rfl, hbl, hbs⟩ hk hhk
      have u3 := Same.upd (o := .lst (bs.map V.ref)) hhk
      have e3 := u3 _ _ (s3 _ _ upd_same)
      refine ⟨_, rfl, p, _, rfl, put_newD U.cl e3 U.n_house_keys 1, ?_⟩
      refine ⟨_, rfl, _, rfl, p, _, rfl, put_newD U.cl upd_same U.n_near 2, ?_⟩
      refine ⟨_, rfl, _, rfl, p, _, rfl, put_newD U.cl upd_same U.n_far 3, ?_⟩
      refine ⟨_, rfl, _, rfl, p, _, rfl, put_newD U.cl upd_same U.n_most 4, ?_⟩
      refine ⟨_, rfl, p, _, rfl, put_newD U.cl upd_same U.n_least_age 5, ?_⟩
      refine fun bd hbd => ⟨_, rfl, p, _, rfl, put_newD U.cl (by rw [upd_ne (ne_of_none upd_same hbd)]; exact upd_same) U.n_buttons 6, ?_⟩
      have nbd := ne_of_none upd_same hbd
      refine ⟨by show 0 ≤ sizeLine; decide, fun lg hlg => ⟨_, rfl, p, _, rfl, put_newD U.cl (by rw [upd_ne (ne_of_none upd_same hlg)]; exact upd_same) U.n_log 7, ?_⟩⟩
      have nlg := ne_of_none upd_same hlg
      have m3 : Mv [p] H H3 := ((s2.mv (S := [p])).trans Mv.upd1).trans s3.mv
      have nhk : hk ≠ p := (ne_of_none (s3 _ _ upd_same) hhk).symm
      have m4 : Mv [p] H (upd H3 hk (.lst (bs.map V.ref))) := m3.trans u3.mv
      have M : ∀ o1 o2 o3 o4 o5, Mv [p] (upd H3 hk (.lst (bs.map V.ref))) (upd (upd (upd (upd (upd (upd H3 hk (.lst (bs.map V.ref))) p o1) p o2) p o3) p o4) p o5) := fun o1 o2 o3 o4 o5 => (((Mv.upd1.trans Mv.upd1).trans Mv.upd1).trans Mv.upd1).trans Mv.upd1
      have M6 : Mv [p] (upd H3 hk (.lst (bs.map V.ref))) _ := (((M _ _ _ _ _).trans (Same.upd hbd).mv).trans Mv.upd1).trans (Same.upd (o := .lst []) hlg).mv
      have M7 := M6.trans (Mv.upd1 (o := .ins C dx (dF ⟨t, kss, near, far, most, 0, []⟩ ta hk bd lg)))
      have nt : NT [p] (upd H3 hk (.lst (bs.map V.ref))) := NT.one e3 trivial
      have hbdlg : bd ≠ lg := ne_of_none (by rw [upd_ne nbd.symm]; exact upd_same) hlg
      refine q ta hk bd lg _ (m3.nfree (nin1 nhk) hhk) ((m4.trans (M _ _ _ _ _)).nfree (nin1 nbd.symm) hbd) ((m4.trans ((((M _ _ _ _ _).trans (Same.upd hbd).mv).trans Mv.upd1))).nfree (nin1 nlg.symm) hlg) (m4.trans M7) ⟨⟨dx, upd_same⟩, ?_, ?_, ?_, ?_, ?_⟩
      · exact M7.sqt nt (Same.sqt u3 (Same.sqt s3 ht2))
      · exact KsAt.mv M7 nt (nin1 nhk) ⟨bs, upd_same, by rw [hbl, List.length_map, la], fun j x ks e1 e2' => Same.sqt u3 (hbs j x ks e1 e2')⟩
      · exact ⟨([], fun _ => 0), by rw [upd_ne nbd.symm, upd_ne hbdlg, upd_ne nbd.symm]; exact upd_same, fun e he => by (cases he), .refl _, List.nodup_nil⟩
      · exact ⟨[], by rw [upd_ne nlg.symm]; exact upd_same, Nat.le_refl _⟩
      · refine (ne_of_none (o := .lst (bs.map V.ref)) ?_ hlg).symm
        rw [upd_ne nhk]
        rw [upd_ne (ne_of_none (o := .lst (bs.map V.ref)) (by rw [upd_ne nhk, upd_ne nhk, upd_ne nhk, upd_ne nhk, upd_ne nhk]; exact upd_same) hbd)]
        rw [upd_ne nhk, upd_ne nhk, upd_ne nhk, upd_ne nhk, upd_ne nhk]
        exact upd_same
end
end Lw
namespace Lw
open PySem L2 L3
section
variable {P : Program} {w : World} {K : PySem.W.Frag} {mg : Str → Option Value} {base : Heap} {tk : Nat → Tok} {C : Addr}
theorem ok_Button___init (a : AtM K C "__init__" "Button.__init__" s_Button___init ["self", "name", "table", "key", "age", "step"]) (T : Txt K mg tk) (U : BCx K C) : Mf P w K mg base C "__init__" ["self", "name", "table", "key", "age", "step"] 1 (spBInit K C) := by
  refine a.mq sc_Button___init (fun vs H Q E h => ?_) (fun f cdv A outer s H vs Q E hr h => ?_)
  · obtain ⟨_, _, _, _, _, _, _, _, _, rfl, _⟩ := h
    rfl
  · obtain ⟨p, a, b, dx, nm, age, step, t, ks, rfl, hp, ha, hb, q⟩ := h
    refine ⟨_, (qss_cons (qs_fld (qv 0) (qv 1))
      (qss_cons (qs_fld (qv 0) (qe_callTy call_tupleQ (by rfl) T.b_tuple PyProof.Rows.boot_tuple (qac (qv 2) qa_nil)))
      (qss_cons (qs_fld (qv 0) (qe_callTy call_tupleQ (by rfl) T.b_tuple PyProof.Rows.boot_tuple (qac (qv 3) qa_nil)))
      (qss_cons (qs_fld (qv 0) (qv 4))
      (qss_cons (qs_fld (qv 0) (qv 5))
      (qss_cons (qs_fld (qv 0) qe_int)
      (qss_cons (qs_fld (qv 0) qe_int)
      (qss_one (qs_fld (qv 0) (qe_lst (qac qe_int (qac qe_non qa_nil)))))))))))), ?_⟩
    refine ⟨_, rfl, _, rfl, p, _, rfl, put_new U.cl hp U.n_name 0, ?_⟩
    refine ⟨_, rfl, a, _, rfl, sq_upd hp ha, fun ta H2 s2 ht => ⟨_, rfl, p, _, rfl, put_new U.cl (s2 _ _ upd_same) U.n_table 1, ?_⟩⟩
    have e2 := s2 _ _ upd_same
    refine ⟨_, rfl, b, _, rfl, sq_upd e2 ((sq_upd hp hb).same s2), fun ka H3 s3 hk => ⟨_, rfl, p, _, rfl, put_new U.cl (s3 _ _ upd_same) U.n_key 2, ?_⟩⟩
    have e3 := s3 _ _ upd_same
    have ht3 := sqt_upd (o := .ins C dx [("name", .str nm), ("table", .ref ta), ("key", .ref ka)]) e3 (Same.sqt s3 (sqt_upd e2 ht))
    have hk3 := sqt_upd (o := .ins C dx [("name", .str nm), ("table", .ref ta), ("key", .ref ka)]) e3 hk
    refine ⟨_, rfl, _, rfl, p, _, rfl, put_new U.cl upd_same U.n_age 3, ?_⟩
    refine ⟨_, rfl, _, rfl, p, _, rfl, put_new U.cl upd_same U.n_step 4, ?_⟩
    refine ⟨_, rfl, p, _, rfl, put_new U.cl upd_same U.n_next_count 5, ?_⟩
    refine ⟨_, rfl, p, _, rfl, put_new U.cl upd_same U.n_bound 6, ?_⟩
    refine ⟨by show 2 ≤ sizeLine; decide, fun ce hce => ⟨_, rfl, p, _, rfl, put_new U.cl (by rw [upd_ne (ne_of_none upd_same hce)]; exact upd_same) U.n_cells 7, ?_⟩⟩
    have nce := ne_of_none upd_same hce
    have m2 : Mv [p] H H2 := Mv.upd1.trans s2.mv
    have m3 : Mv [p] H H3 := (m2.trans Mv.upd1).trans s3.mv
    have m8 : ∀ o4 o5 o6 o7 o8, Mv [p] H (upd (upd (upd (upd (upd H3 p o4) p o5) p o6) p o7) p o8) := fun o4 o5 o6 o7 o8 => ((((m3.trans Mv.upd1).trans Mv.upd1).trans Mv.upd1).trans Mv.upd1).trans Mv.upd1
    have hcH : H ce = none := by
      cases e : H ce with
      | none => rfl
      | some o => exact absurd (hce.symm.trans (m8 _ _ _ _ _ ce o (fun z => nce (List.mem_singleton.mp z).symm) e)) (by intro h; cases h)
    refine q ta ka ce _ hcH (((m8 _ _ _ _ _).trans (Same.upd hce).mv).trans Mv.upd1) ⟨⟨dx, upd_same⟩, ?_, ?_, ?_⟩
    · exact sqt_upd (by rw [upd_ne nce]; exact upd_same) (Same.sqt (Same.upd hce) (sqt_upd upd_same (sqt_upd upd_same (sqt_upd upd_same (sqt_upd upd_same ht3)))))
    · exact sqt_upd (by rw [upd_ne nce]; exact upd_same) (Same.sqt (Same.upd hce) (sqt_upd upd_same (sqt_upd upd_same (sqt_upd upd_same (sqt_upd upd_same hk3)))))
    · rw [upd_ne nce.symm]; exact upd_same
theorem ok_Button_is_worn (a : AtM K C "is_worn" "Button.is_worn" s_Button_is_worn ["self"]) (T : Txt K mg tk) (U : BCx K C) : Mf P w K mg base C "is_worn" ["self"] 1 (spBWorn K C) := by
  refine a.mq sc_Button_is_worn (fun vs H Q E h => ?_) (fun f cdv A outer s H vs Q E hr h => ?_)
  · obtain ⟨_, _, _, _, _, rfl, _⟩ := h
    rfl
  · obtain ⟨p, ta, ka, ce, B, rfl, b, q⟩ := h
    refine ⟨_, (qss_one (qs_ret (qe_cmpR op_ge (qe_fld (qv 0)) (qe_glob (v := .int 4096) rfl T.g_COUNTS ⟨_, rfl⟩) (nomark _)))), ?_⟩
    exact ⟨_, rfl, p, _, rfl, b.h_next_count U, _, _, rfl, rfl, q⟩
theorem ok_Button_must_write (a : AtM K C "must_write" "Button.must_write" s_Button_must_write ["self"]) (T : Txt K mg tk) (U : BCx K C) (D_Button_is_worn : Mf P w K mg base C "is_worn" ["self"] 1 (spBWorn K C)) : Mf P w K mg base C "must_write" ["self"] 2 (spBMust K C) := by
  refine a.mq sc_Button_must_write (fun vs H Q E h => ?_) (fun f cdv A outer s H vs Q E hr h => ?_)
  · obtain ⟨_, _, _, _, _, rfl, _⟩ := h
    rfl
  · obtain ⟨p, ta, ka, ce, B, rfl, b, q⟩ := h
    refine ⟨_, (qss_one (qs_ret (qe_and (qe_cmpR op_eq (qe_fld (qv 0)) (qe_fld (qv 0)) (nomark _)) (qe_one (qe_not (qe_meth0 D_Button_is_worn U.cl (hr.mono (by first | decide | omega)) (qv 0))))))), ?_⟩
    refine ⟨_, rfl, p, _, rfl, b.h_next_count U, _, rfl, p, _, rfl, b.h_bound U, rfl, _, rfl, ?_⟩
    unfold Bt.mw at q
    refine ite2 (fun z => ?_) (fun z => ?_)
    · refine ⟨_, rfl, p, rfl, b.no, p, ta, ka, ce, B, rfl, b, _, rfl, ?_⟩
      have z' : B.cnt = B.bnd := by have := of_decide_eq_true z; injection this
      rw [decide_eq_true z'] at q
      exact q
    · have z' : ¬ B.cnt = B.bnd := fun e => z (decide_eq_true (by rw [e]))
      rw [decide_eq_false z'] at q
      exact q
theorem ok_Button_spare_cell (a : AtM K C "spare_cell" "Button.spare_cell" s_Button_spare_cell ["self"]) (T : Txt K mg tk) (U : BCx K C) : Mf P w K mg base C "spare_cell" ["self"] 1 (spBSpare K C) := by
  refine a.mq sc_Button_spare_cell (fun vs H Q E h => ?_) (fun f cdv A outer s H vs Q E hr h => ?_)
  · obtain ⟨_, _, _, _, _, rfl, _⟩ := h
    rfl
  · obtain ⟨p, ta, ka, ce, B, rfl, b, q⟩ := h
    refine ⟨_, (qss_cons (qs_if (qt_cmpR op_eq (qe_ix ix_list (qe_fld (qv 0)) qe_int (fun _ _ => rfl)) (qe_fld (qv 0)) (nomark _)) (qss_one (qs_ret qe_int)) qss_nil)
      (qss_one (qs_ret qe_int))), ?_⟩
    refine ⟨_, rfl, p, _, rfl, b.h_cells U, ce, _, _, _, rfl, rfl, SqL.of b.cs, rfl, _, rfl, p, _, rfl, b.h_bound U, oV_scal _ _, _, rfl, ?_⟩
    rw [oV_dec]
    unfold Bt.sp at q
    refine ite2 (fun z => ?_) (fun z => ?_)
    · rw [if_pos (of_decide_eq_true z)] at q; exact q
    · rw [if_neg (fun e => z (decide_eq_true e))] at q; exact q
theorem ok_Button_write_bound (a : AtM K C "write_bound" "Button.write_bound" s_Button_write_bound ["self"]) (T : Txt K mg tk) (U : BCx K C) (D_Button_spare_cell : Mf P w K mg base C "spare_cell" ["self"] 1 (spBSpare K C)) : Mf P w K mg base C "write_bound" ["self"] 2 (spBWrite K C) := by
  refine a.mq sc_Button_write_bound (fun vs H Q E h => ?_) (fun f cdv A outer s H vs Q E hr h => ?_)
  · obtain ⟨_, _, _, _, _, rfl, _⟩ := h
    rfl
  · obtain ⟨p, ta, ka, ce, B, rfl, b, q⟩ := h
    obtain ⟨dx, ep⟩ := b.ob
    refine ⟨_, (qss_cons (qs_set (i := 1) sc_Button_write_bound.nd rfl (Or.inl rfl) (qe_meth0 D_Button_spare_cell U.cl (hr.mono (by first | decide | omega)) (qv 0)))
      (qss_cons (qs_fld (qv 0) (qe_callB (call_min2 rfl) (by rfl) T.b_min PyProof.Rows.boot_min (qac (qe_op op_add (qe_fld (qv 0)) (qe_fld (qv 0))) (qac (qe_glob (v := .int 4096) rfl T.g_COUNTS ⟨_, rfl⟩) qa_nil))))
      (qss_one (qs_asg (qe_fld (qv 0)) (qg_sub (qe_fld (qv 0)) (qv 1) set_list))))), ?_⟩
    refine ⟨_, rfl, p, rfl, b.no, p, ta, ka, ce, B, rfl, b, ?_⟩
    refine ⟨_, rfl, p, _, rfl, b.h_bound U, _, rfl, p, _, rfl, b.h_step U, _, _, rfl, rfl, _, _, rfl, _, rfl, p, _, rfl, BtnAt.put U ep 6 _ rfl U.n_bound, ?_⟩
    have b1 : BtnAt K C (upd H p (.ins C dx (bF { B with bnd := B.nb } ta ka ce))) p ta ka ce { B with bnd := B.nb } := b.to (B' := { B with bnd := B.nb }) (Mv.upd1.mono (fun c h z => h (by rw [List.mem_singleton.mp z]; exact List.mem_cons_self ..))) rfl rfl upd_same (by rw [upd_ne b.ne.symm]; exact b.cs)
    refine ⟨_, rfl, p, _, rfl, b1.h_bound U, _, rfl, p, _, rfl, b1.h_cells U, _, rfl, ?_⟩
    unfold Bt.sp Bt.wr at *
    have mv : ∀ o o', Mv [p, ce] H (upd (upd H p o) ce o') := fun o o' c u hc e => by
      rw [upd_ne (fun z => hc (by rw [z]; exact List.mem_cons_of_mem _ (List.mem_cons_self ..))), upd_ne (fun z => hc (by rw [z]; exact List.mem_cons_self ..))]; exact e
    by_cases hx : B.x = some B.bnd
    · rw [if_pos hx]
      rw [if_pos hx] at q
      refine ⟨ce, _, _, 1, rfl, rfl, b1.cs, rfl, ?_⟩
      exact q _ (mv _ _) (b.to (B' := { B with bnd := B.nb, y := some B.nb }) (mv _ _) rfl rfl (by rw [upd_ne b.ne]; exact upd_same) upd_same)
    · rw [if_neg hx]
      rw [if_neg hx] at q
      refine ⟨ce, _, _, 0, rfl, rfl, b1.cs, rfl, ?_⟩
      exact q _ (mv _ _) (b.to (B' := { B with bnd := B.nb, x := some B.nb }) (mv _ _) rfl rfl (by rw [upd_ne b.ne]; exact upd_same) upd_same)
theorem ok_Button_press_once (a : AtM K C "press_once" "Button.press_once" s_Button_press_once ["self", "deed"]) (T : Txt K mg tk) (U : BCx K C) (D_Button_is_worn : Mf P w K mg base C "is_worn" ["self"] 1 (spBWorn K C)) (D_Button_must_write : Mf P w K mg base C "must_write" ["self"] 2 (spBMust K C))
    (D_Button_write_bound : Mf P w K mg base C "write_bound" ["self"] 2 (spBWrite K C)) (D_press_of : Df P w K mg base "press_of" ["table", "key", "name", "age", "count", "deed"] 3 (spPress K)) : Mf P w K mg base C "press_once" ["self", "deed"] 4 (spBPress K C) := by
  refine a.mq sc_Button_press_once (fun vs H Q E h => ?_) (fun f cdv A outer s H vs Q E hr h => ?_)
  · obtain ⟨_, _, _, _, _, _, rfl, _⟩ := h
    rfl
  · obtain ⟨p, ta, ka, ce, B, d, rfl, b, hn, hl, c0, c1, hd, q⟩ := h
    refine ⟨_, (qss_cons (qs_if (qt_val (qe_meth0 D_Button_is_worn U.cl (hr.mono (by first | decide | omega)) (qv 0))) qss_never qss_nil)
      (qss_cons (qs_if (qt_val (qe_meth0 D_Button_must_write U.cl (hr.mono (by first | decide | omega)) (qv 0))) (qss_one (qs_expr (qe_meth0 D_Button_write_bound U.cl (hr.mono (by first | decide | omega)) (qv 0)))) qss_nil)
      (qss_cons (qs_set (i := 2) sc_Button_press_once.nd rfl (Or.inl rfl) (qe_def D_press_of (hr.mono (by first | decide | omega)) (qac (qe_fld (qv 0)) (qac (qe_fld (qv 0)) (qac (qe_fld (qv 0)) (qac (qe_fld (qv 0)) (qac (qe_fld (qv 0)) (qac (qv 1) qa_nil))))))))
      (qss_cons (qs_fldaug in_add (qv 0) qe_int)
      (qss_one (qs_ret (qv 2))))))), ?_⟩
    refine ⟨_, rfl, p, rfl, b.no, p, ta, ka, ce, B, rfl, b, _, rfl, ?_⟩
    refine ite2 (fun z => absurd (of_decide_eq_true z) (by omega)) (fun _ => ?_)
    refine ⟨_, rfl, p, rfl, b.no, p, ta, ka, ce, B, rfl, b, _, rfl, ?_⟩
    refine ite2 (fun z => ?_) (fun z => ?_)
    · refine ⟨_, rfl, p, rfl, b.no, p, ta, ka, ce, B, rfl, b, fun H1 m1 b1 => ?_⟩
      have e0 : ({ B.wr with cnt := B.wr.cnt + 1 } : Bt) = B.pr := by unfold Bt.pr; rw [if_pos z, wr_cnt]
      have e1 := wr_nm B
      have e2 := wr_t B
      have e3 := wr_ks B
      have e4 := wr_age B
      have e5 := wr_cnt B
      generalize B.wr = B1 at b1 e0 e1 e2 e3 e4 e5
      refine ⟨_, rfl, p, _, rfl, b1.h_table U, _, rfl, p, _, rfl, b1.h_key U, _, rfl, p, _, rfl, b1.h_name U, _, rfl, p, _, rfl, b1.h_age U, _, rfl, p, _, rfl, b1.h_next_count U, _, rfl, ta, ka, B1.nm, B1.age, B1.cnt, d, B1.t, B1.ks, rfl, .inr b1.tb, .inr b1.ky, by rw [e1]; exact hn, by rw [e2]; exact hl, by rw [e5]; exact c0, by rw [e5]; exact c1, hd, fun q1 pc H2 s2 h1 h2 => ?_⟩
      have b2 := b1.same s2
      obtain ⟨dx, ep⟩ := b2.ob
      refine ⟨_, rfl, p, _, rfl, b2.h_next_count U, _, _, rfl, rfl, (fun _ e => e), _, BtnAt.put U ep 5 _ rfl U.n_next_count, ?_⟩
      have n1 : q1 ≠ p := ne_of h1 ep (by intro z; cases z)
      have n2 : pc ≠ p := ne_of h2 ep (by intro z; cases z)
      have m3 : Mv [p, ce] H2 (upd H2 p (.ins C dx (bF { B1 with cnt := B1.cnt + 1 } ta ka ce))) := Mv.upd1.mono (fun c h z => h (by rw [List.mem_singleton.mp z]; exact List.mem_cons_self ..))
      have b3 : BtnAt K C (upd H2 p (.ins C dx (bF { B1 with cnt := B1.cnt + 1 } ta ka ce))) p ta ka ce B.pr := by
        have b3' := b2.to (B' := { B1 with cnt := B1.cnt + 1 }) m3 rfl rfl upd_same (by rw [upd_ne b2.ne.symm]; exact b2.cs)
        rw [e0] at b3' ⊢
        exact b3'
      refine ⟨_, rfl, q q1 pc _ ((m1.trans s2.mv).trans m3) b3 ?_ ?_⟩
      · rw [upd_ne n1, h1, e1, e4]
      · rw [upd_ne n2, h2, e1, e2, e3, e5]
    · have b1 := b
      have m1 : Mv [p, ce] H H := Mv.refl
      have e0 : ({ B with cnt := B.cnt + 1 } : Bt) = B.pr := by unfold Bt.pr; rw [if_neg z]
      obtain ⟨B1, hB⟩ : ∃ B1, B1 = B := ⟨B, rfl⟩
      have e1 : B1.nm = B.nm := by rw [hB]
      have e2 : B1.t = B.t := by rw [hB]
      have e3 : B1.ks = B.ks := by rw [hB]
      have e4 : B1.age = B.age := by rw [hB]
      have e5 : B1.cnt = B.cnt := by rw [hB]
      have e0 : ({ B1 with cnt := B1.cnt + 1 } : Bt) = B.pr := by rw [hB]; exact e0
      have b1 : BtnAt K C H p ta ka ce B1 := by rw [hB]; exact b
      refine ⟨_, rfl, p, _, rfl, b1.h_table U, _, rfl, p, _, rfl, b1.h_key U, _, rfl, p, _, rfl, b1.h_name U, _, rfl, p, _, rfl, b1.h_age U, _, rfl, p, _, rfl, b1.h_next_count U, _, rfl, ta, ka, B1.nm, B1.age, B1.cnt, d, B1.t, B1.ks, rfl, .inr b1.tb, .inr b1.ky, by rw [e1]; exact hn, by rw [e2]; exact hl, by rw [e5]; exact c0, by rw [e5]; exact c1, hd, fun q1 pc H2 s2 h1 h2 => ?_⟩
      have b2 := b1.same s2
      obtain ⟨dx, ep⟩ := b2.ob
      refine ⟨_, rfl, p, _, rfl, b2.h_next_count U, _, _, rfl, rfl, (fun _ e => e), _, BtnAt.put U ep 5 _ rfl U.n_next_count, ?_⟩
      have n1 : q1 ≠ p := ne_of h1 ep (by intro z; cases z)
      have n2 : pc ≠ p := ne_of h2 ep (by intro z; cases z)
      have m3 : Mv [p, ce] H2 (upd H2 p (.ins C dx (bF { B1 with cnt := B1.cnt + 1 } ta ka ce))) := Mv.upd1.mono (fun c h z => h (by rw [List.mem_singleton.mp z]; exact List.mem_cons_self ..))
      have b3 : BtnAt K C (upd H2 p (.ins C dx (bF { B1 with cnt := B1.cnt + 1 } ta ka ce))) p ta ka ce B.pr := by
        have b3' := b2.to (B' := { B1 with cnt := B1.cnt + 1 }) m3 rfl rfl upd_same (by rw [upd_ne b2.ne.symm]; exact b2.cs)
        rw [e0] at b3' ⊢
        exact b3'
      refine ⟨_, rfl, q q1 pc _ ((m1.trans s2.mv).trans m3) b3 ?_ ?_⟩
      · rw [upd_ne n1, h1, e1, e4]
      · rw [upd_ne n2, h2, e1, e2, e3, e5]
end
section
variable {P : Program} {w : World} {K : PySem.W.Frag} {mg : Str → Option Value} {base : Heap} {tk : Nat → Tok} {C : Addr}
theorem ok_Button_count_now (a : AtM K C "count_now" "Button.count_now" s_Button_count_now ["self"]) (T : Txt K mg tk) (U : BCx K C) : Mf P w K mg base C "count_now" ["self"] 1 (spBCount K C) := by
  refine a.mq sc_Button_count_now (fun vs H Q E h => ?_) (fun f cdv A outer s H vs Q E hr h => ?_)
  · obtain ⟨_, _, _, _, _, rfl, _⟩ := h
    rfl
  · obtain ⟨p, ta, ka, ce, B, rfl, b, q⟩ := h
    refine ⟨_, (qss_one (qs_ret (qe_fld (qv 0)))), ?_⟩
    exact ⟨_, rfl, p, _, rfl, b.h_next_count U, q⟩
end
section
variable {P : Program} {w : World} {K : PySem.W.Frag} {mg : Str → Option Value} {base : Heap} {tk : Nat → Tok} {C : Addr}
theorem ok_Button_cells_now (a : AtM K C "cells_now" "Button.cells_now" s_Button_cells_now ["self"]) (T : Txt K mg tk) (U : BCx K C) : Mf P w K mg base C "cells_now" ["self"] 1 (spBCells K C) := by
  refine a.mq sc_Button_cells_now (fun vs H Q E h => ?_) (fun f cdv A outer s H vs Q E hr h => ?_)
  · obtain ⟨_, _, _, _, _, rfl, _⟩ := h
    rfl
  · obtain ⟨p, ta, ka, ce, B, rfl, b, q⟩ := h
    refine ⟨_, (qss_one (qs_ret (qe_callTy call_tuple_of (by rfl) T.b_tuple PyProof.Rows.boot_tuple (qac (qe_fld (qv 0)) qa_nil)))), ?_⟩
    exact ⟨_, rfl, p, _, rfl, b.h_cells U, ce, _, rfl, .inl ⟨SqL.of b.cs, fun l hl => q l _ (Same.upd hl) upd_same⟩⟩
end
section
variable {P : Program} {w : World} {K : PySem.W.Frag} {mg : Str → Option Value} {base : Heap} {tk : Nat → Tok} {C : Addr}
theorem ok_Button_cell_out (a : AtM K C "cell_out" "Button.cell_out" s_Button_cell_out ["self"]) (T : Txt K mg tk) (U : BCx K C) : Mf P w K mg base C "cell_out" ["self"] 1 (spBOut K C) := by
  refine a.mq sc_Button_cell_out (fun vs H Q E h => ?_) (fun f cdv A outer s H vs Q E hr h => ?_)
  · obtain ⟨_, _, _, _, _, rfl, _⟩ := h
    rfl
  · obtain ⟨p, ta, ka, ce, B, rfl, b, ok, q⟩ := h
    refine ⟨_, (qss_cons (qs_set (i := 1) sc_Button_cell_out.nd rfl (Or.inl rfl) (qe_callB (call_maxL rfl) (by rfl) T.b_max PyProof.Rows.boot_max (qac (qe_compF (own := ["cell"]) (fr := []) (js := []) rfl (qi_list (qe_fld (qv 0))) rfl (fun _ _ h => nomatch h) rfl (bsc0 rfl (by decide +kernel) (by decide +kernel) (by decide +kernel)) (fun _ _ _ _ => qg_name (i := 0) (show List.Nodup (["cell"] : List Str) from by decide +kernel) rfl (Or.inl rfl) (.inr rfl)) (fun _ _ _ _ => (qt_cmpR op_notN (qv 0) qe_non (nomark _))) (fun _ _ _ _ => (qv 0))) qa_nil)))
      (qss_cons (qs_fld (qv 0) (qv 1))
      (qss_one (qs_fld (qv 0) (qv 1))))), ?_⟩
    refine ⟨_, rfl, p, _, rfl, b.h_cells U, ce, rfl, ⟨_, SqL.of b.cs⟩, compF_list (K := K) (xs := [oV B.x, oV B.y]) (by show 2 ≤ sizeLine; decide) (fun i ys H2 => H2 = H ∧ ys = ([oV B.x, oV B.y].take i).filter notN) ⟨rfl, rfl⟩ (fun i ys H2 ⟨e, _⟩ => by subst e; exact SqL.of b.cs) ?_ ?_⟩
    · rintro i ys H2 v hv ⟨rfl, rfl⟩
      refine ⟨_, rfl, rfl, _, rfl, ?_⟩
      rw [filt_step hv]
      by_cases e : notN v = true
      · exact iteD e ⟨_, rfl, rfl, by rw [if_pos e]⟩
      · exact iteE (Bool.eq_false_iff.mpr e) ⟨rfl, by rw [if_neg e]⟩
    · rintro ys H2 ⟨rfl, rfl⟩ pm hpm
      obtain ⟨k1, k2, k3⟩ := ok.ok
      refine ⟨pm, okC B.x B.y, rfl, ?_, k2, fun M hM1 hM2 => ?_⟩
      · show upd H2 pm (.lst ([oV B.x, oV B.y].filter notN)) pm = _
        rw [upd_same, notN_cells]
      · have hM : M = B.bnd := by have h1 := hM2 _ k1; have h2 := k3 _ hM1; omega
        subst hM
        have s1 : Same H2 _ := Same.upd (o := .lst ([oV B.x, oV B.y].filter notN)) hpm
        have b1 := b.same s1
        obtain ⟨dx, ep⟩ := b1.ob
        refine ⟨_, rfl, _, rfl, p, _, rfl, BtnAt.put U ep 5 _ rfl U.n_next_count, ?_⟩
        have mp : ∀ (H : Hp) (o : HO), Mv [p, ce] H (upd H p o) := fun H o => Mv.upd1.mono (fun c h z => h (by rw [List.mem_singleton.mp z]; exact List.mem_cons_self ..))
        have b2 := b1.to (B' := { B with cnt := B.bnd }) (mp _ (.ins C dx (bF { B with cnt := B.bnd } ta ka ce))) rfl rfl upd_same (by rw [upd_ne b1.ne.symm]; exact b1.cs)
        refine ⟨_, rfl, _, rfl, p, _, rfl, BtnAt.put (B := { B with cnt := B.bnd }) (ta := ta) (ka := ka) (ce := ce) (dx := dx) U upd_same 6 (.int B.bnd) rfl U.n_bound, ?_⟩
        have b3 := b2.to (B' := { B with cnt := B.bnd }) (mp _ (.ins C dx (bF { B with cnt := B.bnd } ta ka ce))) rfl rfl upd_same (by rw [upd_ne b1.ne.symm]; exact b2.cs)
        exact q _ ((s1.mv.trans (mp _ _)).trans (mp _ _)) b3
end
section
variable {P : Program} {w : World} {K : PySem.W.Frag} {mg : Str → Option Value} {base : Heap} {tk : Nat → Tok} {C : Addr}
theorem ok_Button_name_told (a : AtM K C "name_told" "Button.name_told" s_Button_name_told ["self"]) (T : Txt K mg tk) (U : BCx K C) : Mf P w K mg base C "name_told" ["self"] 1 (spBName K C) := by
  refine a.mq sc_Button_name_told (fun vs H Q E h => ?_) (fun f cdv A outer s H vs Q E hr h => ?_)
  · obtain ⟨_, _, _, _, _, rfl, _⟩ := h
    rfl
  · obtain ⟨p, ta, ka, ce, B, rfl, b, q⟩ := h
    refine ⟨_, (qss_one (qs_ret (qe_fld (qv 0)))), ?_⟩
    exact ⟨_, rfl, p, _, rfl, b.h_name U, q⟩
theorem ok_Button_age_now (a : AtM K C "age_now" "Button.age_now" s_Button_age_now ["self"]) (T : Txt K mg tk) (U : BCx K C) : Mf P w K mg base C "age_now" ["self"] 1 (spBAge K C) := by
  refine a.mq sc_Button_age_now (fun vs H Q E h => ?_) (fun f cdv A outer s H vs Q E hr h => ?_)
  · obtain ⟨_, _, _, _, _, rfl, _⟩ := h
    rfl
  · obtain ⟨p, ta, ka, ce, B, rfl, b, q⟩ := h
    refine ⟨_, (qss_one (qs_ret (qe_fld (qv 0)))), ?_⟩
    exact ⟨_, rfl, p, _, rfl, b.h_age U, q⟩
end
section
variable {P : Program} {w : World} {K : PySem.W.Frag} {mg : Str → Option Value} {base : Heap} {tk : Nat → Tok} {C : Addr}
theorem ok_Button_turn_key (a : AtM K C "turn_key" "Button.turn_key" s_Button_turn_key ["self", "key"]) (T : Txt K mg tk) (U : BCx K C) : Mf P w K mg base C "turn_key" ["self", "key"] 1 (spBTurn K C) := by
  refine a.mq sc_Button_turn_key (fun vs H Q E h => ?_) (fun f cdv A outer s H vs Q E hr h => ?_)
  · obtain ⟨_, _, _, _, _, _, _, rfl, _⟩ := h
    rfl
  · obtain ⟨p, ta, ka, ce, kt, B, ks, rfl, b, hkt, h7, q⟩ := h
    refine ⟨_, (qss_cons (qs_if (qt_cmpR op_ge (qe_fld (qv 0)) (qe_op op_sub (qe_glob (v := .int 8) rfl T.g_AGES ⟨_, rfl⟩) qe_int) (nomark _)) qss_never qss_nil)
      (qss_cons (qs_fld (qv 0) (qe_callTy call_tupleQ (by rfl) T.b_tuple PyProof.Rows.boot_tuple (qac (qv 1) qa_nil)))
      (qss_one (qs_fldaug in_add (qv 0) qe_int)))), ?_⟩
    refine ⟨_, rfl, p, _, rfl, b.h_age U, _, _, rfl, rfl, _, _, rfl, rfl, _, rfl, ?_⟩
    refine iteE (decide_eq_false (by show ¬ (8 : Int) - 1 ≤ B.age; omega)) ?_
    refine ⟨_, rfl, kt, _, rfl, hkt, fun ka' H1 s1 hka => ?_⟩
    have b1 := b.same s1
    obtain ⟨dx, ep⟩ := b1.ob
    refine ⟨_, rfl, p, _, rfl, BtnAt.put U ep 2 _ rfl U.n_key, ?_⟩
    have v2 : Mv [p] H1 (upd H1 p (.ins C dx (bF { B with ks := ks } ta ka' ce))) := Mv.upd1
    have nt : NT [p] H1 := NT.one ep trivial
    have b2 : BtnAt K C (upd H1 p (.ins C dx (bF { B with ks := ks } ta ka' ce))) p ta ka' ce { B with ks := ks } := ⟨⟨dx, upd_same⟩, v2.sqt nt b1.tb, v2.sqt nt hka, by rw [upd_ne b1.ne.symm]; exact b1.cs⟩
    refine ⟨_, rfl, p, _, rfl, b2.h_age U, _, _, rfl, rfl, (fun _ e => e), _, BtnAt.put (B := { B with ks := ks }) U upd_same 3 _ rfl U.n_age, ?_⟩
    have nt3 : NT [p] (upd H1 p (.ins C dx (bF { B with ks := ks } ta ka' ce))) := NT.one upd_same trivial
    have v3 : Mv [p] (upd H1 p (.ins C dx (bF { B with ks := ks } ta ka' ce))) (upd (upd H1 p (.ins C dx (bF { B with ks := ks } ta ka' ce))) p (.ins C dx (bF { B with ks := ks, age := B.age + 1 } ta ka' ce))) := Mv.upd1
    exact q ka' _ ((s1.mv.trans v2).trans v3) ⟨⟨dx, upd_same⟩, v3.sqt nt3 b2.tb, v3.sqt nt3 b2.ky, by rw [upd_ne b1.ne.symm]; exact b2.cs⟩
theorem ok_Button_cell_torn (a : AtM K C "cell_torn" "Button.cell_torn" s_Button_cell_torn ["self"]) (T : Txt K mg tk) (U : BCx K C) (D_Button_must_write : Mf P w K mg base C "must_write" ["self"] 2 (spBMust K C)) (D_Button_spare_cell : Mf P w K mg base C "spare_cell" ["self"] 1 (spBSpare K C)) (D_Button_cell_out : Mf P w K mg base C "cell_out" ["self"] 1 (spBOut K C)) : Mf P w K mg base C "cell_torn" ["self"] 3 (spBTorn K C) := by
  refine a.mq sc_Button_cell_torn (fun vs H Q E h => ?_) (fun f cdv A outer s H vs Q E hr h => ?_)
  · obtain ⟨_, _, _, _, _, rfl, _⟩ := h
    rfl
  · obtain ⟨p, ta, ka, ce, B, rfl, b, ok, q⟩ := h
    refine ⟨_, (qss_cons (qs_if (qt_val (qe_meth0 D_Button_must_write U.cl (hr.mono (by first | decide | omega)) (qv 0))) (qss_one (qs_asg qe_non (qg_sub (qe_fld (qv 0)) (qe_meth0 D_Button_spare_cell U.cl (hr.mono (by first | decide | omega)) (qv 0)) set_list))) qss_nil)
      (qss_one (qs_expr (qe_meth0 D_Button_cell_out U.cl (hr.mono (by first | decide | omega)) (qv 0))))), ?_⟩
    refine ⟨_, rfl, p, rfl, b.no, p, ta, ka, ce, B, rfl, b, _, rfl, ?_⟩
    unfold Bt.tn at q
    refine ite2 (fun z => ?_) (fun z => ?_)
    · rw [if_pos z] at q
      obtain ⟨dx, ep⟩ := b.ob
      have mc : ∀ o, Mv [p, ce] H (upd H ce o) := fun o => Mv.upd1.mono (fun c h z => h (by rw [List.mem_singleton.mp z]; exact List.mem_cons_of_mem _ (List.mem_cons_self ..)))
      by_cases e : B.x = some B.bnd
      · rw [if_pos e] at q
        have hsp : B.sp = 1 := by unfold Bt.sp; rw [if_pos e]
        refine ⟨_, rfl, p, _, rfl, b.h_cells U, _, rfl, p, rfl, b.no, p, ta, ka, ce, B, rfl, b, ce, _, _, 1, rfl, rfl, b.cs, by rw [hsp]; rfl, ?_⟩
        have b1 : BtnAt K C (upd H ce (.lst [oV B.x, .non])) p ta ka ce { B with y := none } := b.to (dx := dx) (mc _) rfl rfl (by rw [upd_ne b.ne]; exact ep) upd_same
        refine ⟨_, rfl, p, rfl, b1.no, p, ta, ka, ce, _, rfl, b1, ⟨ok.c0, ok.cb, ok.bm, ok.s1, .inl e, ok.hx, fun v q => by cases q⟩, fun H2 m2 b2 => q H2 ((mc _).trans m2) b2⟩
      · rw [if_neg e] at q
        have hsp : B.sp = 0 := by unfold Bt.sp; rw [if_neg e]
        refine ⟨_, rfl, p, _, rfl, b.h_cells U, _, rfl, p, rfl, b.no, p, ta, ka, ce, B, rfl, b, ce, _, _, 0, rfl, rfl, b.cs, by rw [hsp]; rfl, ?_⟩
        have b1 : BtnAt K C (upd H ce (.lst [.non, oV B.y])) p ta ka ce { B with x := none } := b.to (dx := dx) (mc _) rfl rfl (by rw [upd_ne b.ne]; exact ep) upd_same
        refine ⟨_, rfl, p, rfl, b1.no, p, ta, ka, ce, _, rfl, b1, ⟨ok.c0, ok.cb, ok.bm, ok.s1, .inr (ok.eq.resolve_left e), (fun v q => by cases q), ok.hy⟩, fun H2 m2 b2 => q H2 ((mc _).trans m2) b2⟩
    · rw [if_neg z] at q
      exact ⟨_, rfl, p, rfl, b.no, p, ta, ka, ce, _, rfl, b, ok, q⟩
end
end Lw
namespace Lw
open PySem L2 L3
section
variable {P : Program} {w : World} {K : PySem.W.Frag} {mg : Str → Option Value} {base : Heap} {tk : Nat → Tok}
theorem ok_law_take (a : At K mg "_law_take" s_law_take ["_law_box_here", "_law_many"]) (T : Txt K mg tk) : Df P w K mg base "_law_take" ["_law_box_here", "_law_many"] 1 spTake2 := by
  refine a.dq sc_law_take (fun vs H Q E h => ?_) (fun f cdv A outer s H vs Q E hr h => ?_)
  · obtain ⟨b, many, c, rfl, _⟩ := h
    rfl
  · obtain ⟨b, many, c, rfl, ⟨n, m, k, hb, m0, m1, k0, k1⟩, hc, h0, h1, q⟩ := h
    refine ⟨_, (qss_cons (qs_if (qt_cmpR op_gt (qe_ix ix_list (qv 0) qe_int (fun _ _ => rfl)) qe_int (nomark _)) (qss_cons (qs_set (i := 2) sc_law_take.nd rfl (Or.inl rfl) (qe_op op_mod (qe_ix ix_list (qv 0) qe_int (fun _ _ => rfl)) (qv 1)))
      (qss_cons (qs_asg (qe_op op_fdiv (qe_ix ix_list (qv 0) qe_int (fun _ _ => rfl)) (qv 1)) (qg_sub (qv 0) qe_int set_list))
      (qss_one (qs_ret (qv 2))))) qss_nil)
      (qss_cons (qs_asg (qe_op op_add (qe_ix ix_list (qv 0) qe_int (fun _ _ => rfl)) qe_int) (qg_sub (qv 0) qe_int set_list))
      (qss_cons (qs_set (i := 3) sc_law_take.nd rfl (Or.inl rfl) (qe_op op_add (qe_ix ix_list (qv 0) qe_int (fun _ _ => rfl)) (qe_op op_mul qe_int (qe_ix ix_list (qv 0) qe_int (fun _ _ => rfl)))))
      (qss_cons (qs_for PassesOwn.never rfl (qi_range1 rfl T.b_range (qac qe_int qa_nil)) (qg_name (i := 4) sc_law_take.nd rfl (Or.inl rfl))
      (qss_one (qs_set (i := 3) sc_law_take.nd rfl (Or.inl rfl) (qe_op op_mod (qe_op op_add (qe_op op_add (qe_op op_mul (qv 3) (qv 3)) (qe_op op_mul qe_int (qe_ix ix_list (qv 0) qe_int (fun _ _ => rfl)))) qe_int) qe_int))))
      (qss_one (qs_ret (qe_op op_mod (qe_op op_fdiv (qv 3) qe_int) (qv 1)))))))), ?_⟩
    refine ⟨_, rfl, b, _, _, _, rfl, rfl, SqL.of hb, rfl, _, _, rfl, rfl, _, rfl, ?_⟩
    refine ite2 (fun _ => ?_) (fun _ => ?_)
    · refine ⟨_, rfl, b, _, _, _, rfl, rfl, SqL.of hb, rfl, _, rfl, _, _, rfl, rfl, h0, ?_⟩
      refine ⟨_, rfl, b, _, _, _, rfl, rfl, SqL.of hb, rfl, _, rfl, _, _, rfl, rfl, ⟨h0, h1⟩, _, rfl, b, _, _, 0, rfl, rfl, hb, rfl, ?_⟩
      refine ⟨_, rfl, ?_⟩
      refine q _ _ (Int.emod_nonneg _ (by omega)) (Int.emod_lt_of_pos _ h0) ⟨fun c o hc e => ?_, _, _, _, upd_same, m0, m1, k0, by omega⟩
      rw [upd_ne hc]
      exact e
    · refine ⟨_, rfl, b, _, _, _, rfl, rfl, SqL.of hb, rfl, _, _, rfl, rfl, _, rfl, b, _, _, 2, rfl, rfl, hb, rfl, ?_⟩
      have hb2 : (upd H b (BoxL n m (k + 1))) b = some (BoxL n m (k + 1)) := upd_same
      refine ⟨_, rfl, b, _, _, _, rfl, rfl, SqL.of hb2, rfl, _, rfl, b, _, _, _, rfl, rfl, SqL.of hb2, rfl, _, _, rfl, rfl, .inl ⟨by decide, by decide⟩, _, _, rfl, rfl, ?_⟩
      refine ⟨3, rfl, by decide, by decide, for_range (n := 3) (Pv := fun i σ H2 => H2 = upd H b (BoxL n m (k + 1)) ∧ ∃ (z : Int) (o : Option V), σ = [some (.ref b), some (.int many), none, some (.int z), o] ∧ 0 ≤ z ∧ z < 2 ^ 64) ⟨rfl, _, _, rfl, by omega, by omega⟩ ?_ ?_⟩
      · rintro i σ H2 hi ⟨rfl, z, o, rfl, z0, z1⟩
        refine ⟨_, rfl, _, rfl, _, _, rfl, rfl, .inl ⟨by omega, by omega⟩, _, rfl, b, _, _, _, rfl, rfl, SqL.of hb2, rfl, _, _, rfl, rfl, .inl ⟨by decide, by decide⟩, _, _, rfl, rfl, _, _, rfl, rfl, _, _, rfl, rfl, (by decide : (0 : Int) < 2305843009213693951), rfl, _, _, rfl, ?_, ?_⟩
        · exact Int.emod_nonneg _ (by decide)
        · exact Int.lt_trans (Int.emod_lt_of_pos _ (by decide)) (by decide)
      · rintro σ H2 ⟨rfl, z, o, rfl, z0, z1⟩
        refine ⟨_, rfl, _, _, rfl, rfl, ⟨by decide, by decide⟩, _, rfl, _, _, rfl, rfl, h0, ?_⟩
        refine q _ _ (Int.emod_nonneg _ (by omega)) (Int.emod_lt_of_pos _ h0) ⟨fun c o hc e => ?_, _, _, _, upd_same, m0, m1, by omega, by omega⟩
        rw [upd_ne hc]
        exact e
theorem ok_law_box (a : At K mg "_law_box" s_law_box ["_law_script", "_law_k"]) (T : Txt K mg tk) : Df P w K mg base "_law_box" ["_law_script", "_law_k"] 1 (spBox2 K) := by
  refine a.dq sc_law_box (fun vs H Q E h => ?_) (fun f cdv A outer s H vs Q E hr h => ?_)
  · obtain ⟨b, ns, k, rfl, _⟩ := h
    rfl
  · obtain ⟨b, ns, k, rfl, hS, q⟩ := h
    refine ⟨_, (qss_cons (qs_asg (qe_tup (qac qe_int (qac qe_int qa_nil))) (qg_tup rfl (qgs_cons (qg_name (i := 2) sc_law_box.nd rfl (Or.inl rfl)) (qgs_cons (qg_name (i := 3) sc_law_box.nd rfl (Or.inl rfl)) qgs_nil))))
      (qss_cons (qs_if (qt_cmpR op_lt (qv 1) (qe_callB call_len_seq (by rfl) T.b_len PySem.boot_len (qac (qv 0) qa_nil)) (nomark _)) (qss_one (qs_set (i := 2) sc_law_box.nd rfl (Or.inl rfl) (qe_ix ix_list (qv 0) (qv 1) (fun _ _ => rfl)))) qss_nil)
      (qss_cons (qs_for PassesOwn.never rfl (qi_list (qe_slice sl_list (qv 0) qo_none (qo_some qe_int))) (qg_name (i := 4) sc_law_box.nd rfl (Or.inl rfl))
      (qss_one (qs_set (i := 3) sc_law_box.nd rfl (Or.inl rfl) (qe_op op_mod (qe_op op_add (qe_op op_mul (qv 3) qe_int) (qv 4)) qe_int))))
      (qss_one (qs_ret (qe_lst (qac (qe_op op_mul (qe_callB call_abs (by rfl) T.b_abs PyProof.Rows.boot_abs (qac (qv 2) qa_nil)) (qe_callTy call_int1 (by rfl) T.b_int PyProof.Rows.boot_int (qac (qe_cmpR op_ge (qe_callB call_abs (by rfl) T.b_abs PyProof.Rows.boot_abs (qac (qv 2) qa_nil)) (qe_op op_pow qe_int qe_int) (nomark _)) qa_nil))) (qac (qe_op op_mod (qe_op op_add (qe_op op_add (qe_op op_mul (qv 3) qe_int) (qv 2)) (qe_op op_mul qe_int (qv 1))) qe_int) (qac qe_int qa_nil))))))))), ?_⟩
    refine ⟨by show 2 ≤ sizeLine; decide, fun tp htp => ⟨tp, _, rfl, SqT.of upd_same, rfl, _, _, rfl, _, _, rfl, rfl, ?_⟩⟩
    have s1 := Same.upd (o := .tup [.int 0, .int 7]) htp
    refine ⟨_, rfl, _, rfl, b, _, rfl, .inl (s1.seq hS), _, _, rfl, rfl, _, rfl, ?_⟩
    refine ite2 (fun hk => ?_) (fun _ => ?_)
    · have hk' : k < ns.length := by have := of_decide_eq_true hk; rw [List.length_map] at this; omega
      refine ⟨_, rfl, _, rfl, b, _, _, .int ns[k], rfl, rfl, s1.seq hS, atI_nat (by rw [List.getElem?_map, List.getElem?_eq_getElem hk']; rfl), ?_⟩
      refine ⟨_, rfl, _, rfl, b, _, rfl, s1.seq hS, fun l hl => ⟨l, rfl, ⟨_, SqL.of upd_same⟩, ?_⟩⟩
      rw [cut_ints]
      have s2 := s1.trans (Same.upd (o := .lst ((cutI ns none (some 63)).map V.int)) hl)
      refine for_list (K := K) (a := l) (xs := (cutI ns none (some 63)).map V.int) (fun i σ H2 => H2 = upd (upd H tp (.tup [.int 0, .int 7])) l (.lst ((cutI ns none (some 63)).map V.int)) ∧ ∃ (z : Int) (o : Option V), σ = [some (.ref b), some (.int (k : Int)), some (.int ns[k]), some (.int z), o] ∧ 0 ≤ z ∧ z < 2147483647) ⟨rfl, _, _, rfl, by decide, by decide⟩ (fun i σ H2 _ ⟨e, _⟩ => by subst e; exact SqL.of upd_same) ?_ ?_
      · rintro i x σ H2 hx ⟨rfl, z, o, rfl, z0, z1⟩
        obtain ⟨y, rfl, hy⟩ := ints_get hx
        refine ⟨_, rfl, _, _, rfl, rfl, .inr ⟨by decide, by decide⟩, _, rfl, _, _, rfl, rfl, _, _, rfl, rfl, (by decide : (0 : Int) < 2147483647), rfl, _, _, rfl, Int.emod_nonneg _ (by decide), Int.emod_lt_of_pos _ (by decide)⟩
      · rintro σ H2 ⟨rfl, z, o, rfl, z0, z1⟩
        refine ⟨_, rfl, _, rfl, _, rfl, _, rfl, _, _, rfl, rfl, ⟨by decide, by decide, by decide⟩, _, _, rfl, rfl, .inr ⟨_, rfl, ?_⟩⟩
        refine ⟨_, _, rfl, rfl, .inr ⟨b01_lo _, b01_hi _⟩, _, rfl, _, _, rfl, rfl, .inr ⟨by decide, by decide⟩, _, rfl, _, _, rfl, rfl, _, rfl, _, _, rfl, rfl, .inl ⟨by decide, by decide⟩, _, _, rfl, rfl, _, _, rfl, rfl, (by decide : (0 : Int) < 2305843009213693951), ?_⟩
        exact ⟨by show 3 ≤ sizeLine; decide, fun p hp => q _ _ (s2n hp s2) (s2.trans (Same.upd hp)) ⟨_, _, _, upd_same, Int.emod_nonneg _ (by decide), Int.lt_trans (Int.emod_lt_of_pos _ (by decide)) (by decide), by decide, by decide⟩⟩
    · refine ⟨_, rfl, _, rfl, b, _, rfl, s1.seq hS, fun l hl => ⟨l, rfl, ⟨_, SqL.of upd_same⟩, ?_⟩⟩
      rw [cut_ints]
      have s2 := s1.trans (Same.upd (o := .lst ((cutI ns none (some 63)).map V.int)) hl)
      refine for_list (K := K) (a := l) (xs := (cutI ns none (some 63)).map V.int) (fun i σ H2 => H2 = upd (upd H tp (.tup [.int 0, .int 7])) l (.lst ((cutI ns none (some 63)).map V.int)) ∧ ∃ (z : Int) (o : Option V), σ = [some (.ref b), some (.int (k : Int)), some (.int 0), some (.int z), o] ∧ 0 ≤ z ∧ z < 2147483647) ⟨rfl, _, _, rfl, by decide, by decide⟩ (fun i σ H2 _ ⟨e, _⟩ => by subst e; exact SqL.of upd_same) ?_ ?_
      · rintro i x σ H2 hx ⟨rfl, z, o, rfl, z0, z1⟩
        obtain ⟨y, rfl, hy⟩ := ints_get hx
        refine ⟨_, rfl, _, _, rfl, rfl, .inr ⟨by decide, by decide⟩, _, rfl, _, _, rfl, rfl, _, _, rfl, rfl, (by decide : (0 : Int) < 2147483647), rfl, _, _, rfl, Int.emod_nonneg _ (by decide), Int.emod_lt_of_pos _ (by decide)⟩
      · rintro σ H2 ⟨rfl, z, o, rfl, z0, z1⟩
        refine ⟨_, rfl, _, rfl, _, rfl, _, rfl, _, _, rfl, rfl, ⟨by decide, by decide, by decide⟩, _, _, rfl, rfl, .inr ⟨_, rfl, ?_⟩⟩
        refine ⟨_, _, rfl, rfl, .inr ⟨b01_lo _, b01_hi _⟩, _, rfl, _, _, rfl, rfl, .inr ⟨by decide, by decide⟩, _, rfl, _, _, rfl, rfl, _, rfl, _, _, rfl, rfl, .inl ⟨by decide, by decide⟩, _, _, rfl, rfl, _, _, rfl, rfl, (by decide : (0 : Int) < 2305843009213693951), ?_⟩
        exact ⟨by show 3 ≤ sizeLine; decide, fun p hp => q _ _ (s2n hp s2) (s2.trans (Same.upd hp)) ⟨_, _, _, upd_same, Int.emod_nonneg _ (by decide), Int.lt_trans (Int.emod_lt_of_pos _ (by decide)) (by decide), by decide, by decide⟩⟩
end
section
variable {P : Program} {w : World} {K : PySem.W.Frag} {mg : Str → Option Value} {base : Heap} {tk : Nat → Tok}
theorem ok_law_table (a : At K mg "_law_table" s_law_table ["_law_box_here"]) (T : Txt K mg tk) (D_law_take : Df P w K mg base "_law_take" ["_law_box_here", "_law_many"] 1 spTake2) : Df P w K mg base "_law_table" ["_law_box_here"] 2 spTable2 := by
  refine a.dq sc_law_table (fun vs H Q E h => ?_) (fun f cdv A outer s H vs Q E hr h => ?_)
  · obtain ⟨x, c, rfl, _⟩ := h
    rfl
  · obtain ⟨b, c, rfl, hb, hc, q⟩ := h
    refine ⟨_, (qss_cons (qs_set (i := 1) sc_law_table.nd rfl (Or.inr rfl) (qe_callTy (call_listR rfl) (by rfl) T.b_list PyProof.Rows.boot_list (qac (qe_callTy call_rng1 (by rfl) T.b_range PyProof.Rows.boot_range (qac qe_int qa_nil)) qa_nil)))
      (qss_one (qs_ret (qe_callTy call_tuple_of (by rfl) T.b_tuple PyProof.Rows.boot_tuple (qac (qe_comp (own := ["_law_k"]) (fr := ["_law_rest", "_law_box_here"]) (js := [1, 0]) rfl (qi_range1 rfl T.b_range (qac qe_int qa_nil)) rfl (clo2 rfl rfl) rfl (bsc2 rfl (by decide +kernel) (by decide +kernel) (by decide +kernel) rfl rfl rfl rfl rfl rfl) (fun _ _ _ _ => qg_name (i := 0) (show List.Nodup (["_law_k", "_law_rest", "_law_box_here"] : List Str) from by decide +kernel) rfl (Or.inl rfl) (.inr rfl)) (fun _ _ _ _ => (qe_bmK (K := K) rfl PySem.F.plainAttrs_list PySem.F.slot_list_pop PySem.F.type_list_pop mr_popAt (qv 1) (qac (qe_def D_law_take (hr.mono (by first | decide | omega)) (qac (qv 2) (qac (qe_callB (call_len_seqK (K := K) rfl) (by rfl) T.b_len PySem.boot_len (qac (qv 1) qa_nil)) qa_nil))) qa_nil)))) qa_nil))))), ?_⟩
    refine ⟨_, rfl, fun r hr0 => ⟨r, 16, rfl, upd_same, by decide, fun l hl => ?_⟩⟩
    rw [digs_V]
    have s1 := (Same.upd (o := .rng 0 16) hr0).trans (Same.upd (o := .lst (digs.map V.int)) hl)
    have nlb : l ≠ b := boxc_fresh ((Same.upd hr0).grc hb).bx hl
    refine ⟨_, rfl, by decide, by decide, comp_range (n := 16) (by decide) (fun i ys H2 => GrC b (c + i) H H2 ∧ ∃ ms zs : List Int, H2 l = some (.lst (ms.map V.int)) ∧ ys = zs.map V.int ∧ ms.length + i = 16 ∧ (zs ++ ms).Perm digs) ⟨s1.grc hb, digs, [], upd_same, rfl, by rw [digs_len], .refl _⟩ ?_ ?_⟩
    · rintro i ys H2 hi hl2 ⟨G2, ms, zs, hm, rfl, hml, pm⟩
      refine ⟨_, rfl, .inl ⟨rfl, _, SqL.of hm⟩, ?_⟩
      refine ⟨_, rfl, _, rfl, l, _, rfl, .inl (SqL.of hm), b, _, _, rfl, G2.bx, by omega, by rw [List.length_map]; omega, by rw [List.length_map]; omega, fun x H3 x0 x1 g3 => ?_⟩
      rw [List.length_map] at x1
      obtain ⟨k, rfl⟩ : ∃ k : Nat, x = (k : Int) := ⟨x.toNat, by omega⟩
      have hk : k < ms.length := by omega
      have hm3 := g3.kp _ _ nlb hm
      refine ⟨l, _, _, k, .int ms[k], rfl, rfl, hm3, by omega, by omega, ?_, ?_, ?_⟩
      · rw [List.length_map]; exact seqIndex_nat hk
      · rw [List.getElem?_map, List.getElem?_eq_getElem hk]; rfl
      · refine ⟨⟨fun c o hcb e => ?_, ?_⟩, ms.eraseIdx k, zs ++ [ms[k]], ?_, by simp, ?_, ?_⟩
        · by_cases z : c = l
          · subst z
            rw [Same.upd hr0 _ _ e] at hl; cases hl
          · rw [upd_ne z]; exact g3.kp _ _ hcb (G2.kp _ _ hcb e)
        · obtain ⟨n, m, k', e, r⟩ := g3.bx
          exact ⟨n, m, k', by rw [upd_ne nlb.symm]; exact e, r⟩
        · rw [upd_same, erase_ints]
        · rw [List.length_eraseIdx_of_lt hk]; omega
        · exact (perm_pop hk).trans pm
    · rintro ys H2 hyl ⟨G2, ms, zs, hm, rfl, hml, pm⟩ p hp
      have e0 : ms = [] := List.eq_nil_of_length_eq_zero (by omega)
      subst e0
      rw [List.append_nil] at pm
      refine ⟨p, _, rfl, .inl ⟨SqL.of upd_same, fun t ht => ?_⟩⟩
      have G3 := G2.same (Same.upd (o := .lst (zs.map V.int)) hp)
      exact q t zs _ (G3.same (Same.upd ht)) (G3.fresh (hb.mono (by omega)) ht) upd_same pm
theorem ok_law_key (a : At K mg "_law_key" s_law_key ["_law_box_here"]) (T : Txt K mg tk) (D_law_take : Df P w K mg base "_law_take" ["_law_box_here", "_law_many"] 1 spTake2) : Df P w K mg base "_law_key" ["_law_box_here"] 2 spKeyT2 := by
  refine a.dq sc_law_key (fun vs H Q E h => ?_) (fun f cdv A outer s H vs Q E hr h => ?_)
  · obtain ⟨x, c, rfl, _⟩ := h
    rfl
  · obtain ⟨b, c, rfl, hb, hc, q⟩ := h
    refine ⟨_, (qss_one (qs_ret (qe_callTy call_tuple_of (by rfl) T.b_tuple PyProof.Rows.boot_tuple (qac (qe_comp (own := ["_law_k"]) (fr := ["_law_box_here"]) (js := [0]) rfl (qi_range1 rfl T.b_range (qac (qe_op op_add qe_int (qe_def D_law_take (hr.mono (by first | decide | omega)) (qac (qv 0) (qac qe_int qa_nil)))) qa_nil)) rfl (clo1 rfl) rfl (bsc1 rfl (by decide +kernel) (by decide +kernel) (by decide +kernel) rfl rfl rfl) (fun _ _ _ _ => qg_name (i := 0) (show List.Nodup (["_law_k", "_law_box_here"] : List Str) from by decide +kernel) rfl (Or.inl rfl) (.inr rfl)) (fun _ _ _ _ => (qe_def D_law_take (hr.mono (by first | decide | omega)) (qac (qv 1) (qac qe_int qa_nil))))) qa_nil)))), ?_⟩
    refine ⟨_, rfl, b, _, _, rfl, hb, by omega, by decide, by decide, fun r H1 r0 r1 g1 => ⟨_, _, rfl, rfl, _, rfl, by omega, by omega, ?_⟩⟩
    obtain ⟨n, rfl, n8⟩ : ∃ n : Nat, r = (n : Int) ∧ n < 8 := ⟨r.toNat, by omega, by omega⟩
    have en : (1 + (n : Int)).toNat = n + 1 := by omega
    rw [en]
    refine comp_range (n := n + 1) (Nat.le_trans (by omega : n + 1 ≤ 8) (by decide)) (fun i ys H2 => GrC b (c + 1 + i) H H2 ∧ ∃ ks : List Int, ys = ks.map V.int ∧ digR ks) ⟨g1, [], rfl, fun _ h => nomatch h⟩ ?_ ?_
    · rintro i ys H2 hi hl2 ⟨G2, ks, rfl, hk⟩
      refine ⟨_, rfl, b, _, _, rfl, G2.bx, by omega, by decide, by decide, fun x H3 x0 x1 g3 => ⟨G2.trans g3, ks ++ [x], by simp, fun z hz => ?_⟩⟩
      rcases List.mem_append.mp hz with y | y
      · exact hk z y
      · rw [List.mem_singleton.mp y]; exact ⟨x0, x1⟩
    · rintro ys H2 hyl ⟨G2, ks, rfl, hk⟩ p hp
      rw [List.length_map] at hyl
      refine ⟨p, _, rfl, .inl ⟨SqL.of upd_same, fun t ht => ?_⟩⟩
      have G3 := G2.same (Same.upd (o := .lst (ks.map V.int)) hp)
      exact q t ks _ ((G3.same (Same.upd ht)).mono (by omega)) (G3.fresh (hb.mono (by omega)) ht) upd_same hk (by omega) (by omega)
theorem ok_law_name (a : At K mg "_law_name" s_law_name ["_law_box_here"]) (T : Txt K mg tk) (D_law_take : Df P w K mg base "_law_take" ["_law_box_here", "_law_many"] 1 spTake2) : Df P w K mg base "_law_name" ["_law_box_here"] 2 spName64 := by
  refine a.dq sc_law_name (fun vs H Q E h => ?_) (fun f cdv A outer s H vs Q E hr h => ?_)
  · obtain ⟨x, c, rfl, _⟩ := h
    rfl
  · obtain ⟨b, c, rfl, hb, hc, q⟩ := h
    refine ⟨_, (qss_cons (qs_set (i := 1) sc_law_name.nd rfl (Or.inl rfl) (qe_lst (qac qe_str (qac qe_str (qac qe_str (qac qe_str (qac qe_str (qac qe_str (qac qe_str (qac qe_str (qac qe_str (qac qe_str (qac qe_str (qac qe_str qa_nil))))))))))))))
      (qss_one (qs_ret (qe_ix ix_list (qv 1) (qe_def D_law_take (hr.mono (by first | decide | omega)) (qac (qv 0) (qac qe_int qa_nil))) (fun _ _ => rfl))))), ?_⟩
    refine ⟨by show 12 ≤ sizeLine; decide, fun l hl => ⟨_, rfl, _, rfl, b, _, _, rfl, ((Same.upd hl).grc hb).bx, by omega, by decide, by decide, fun r H2 r0 r1 g2 => ?_⟩⟩
    obtain ⟨v, hv, hvm⟩ := draw_at (xs := [V.str "a", .str "b", .str "ab", .str "ba", .str "aaaaaaaa", .str "aaaaaaab", .str "door", .str "gate", .str "x", .str "xy", .str "yx", .str "zz"]) r0 r1
    refine ⟨l, _, r, v, rfl, rfl, SqL.of (g2.kp l _ (boxc_fresh hb hl) upd_same), hv, ?_⟩
    have G := ((Same.upd (o := .lst [V.str "a", .str "b", .str "ab", .str "ba", .str "aaaaaaaa", .str "aaaaaaab", .str "door", .str "gate", .str "x", .str "xy", .str "yx", .str "zz"]) hl).grc hb).trans g2
    simp only [List.mem_cons, List.not_mem_nil, or_false] at hvm
    rcases hvm with rfl | rfl | rfl | rfl | rfl | rfl | rfl | rfl | rfl | rfl | rfl | rfl
    all_goals exact q _ _ G ⟨by decide +kernel, by decide +kernel, by decide +kernel⟩ (by decide +kernel)
end
end Lw
namespace Lw
open PySem L2 L3
section
variable {P : Program} {w : World} {K : PySem.W.Frag} {mg : Str → Option Value} {base : Heap} {tk : Nat → Tok}
theorem ok_back_table (a : At K mg "back_table" s_back_table ["table"]) (T : Txt K mg tk) : Df P w K mg base "back_table" ["table"] 1 (spBack K) := by
  refine a.dq sc_back_table (fun vs H Q E h => ?_) (fun f cdv A outer s H vs Q E hr h => ?_)
  · obtain ⟨x, t, rfl, _⟩ := h
    rfl
  · obtain ⟨c, t, rfl, hS, pm, q⟩ := h
    refine ⟨_, (qss_cons (qs_set (i := 1) sc_back_table.nd rfl (Or.inl rfl) (qe_op op_rep (qe_lst (qac qe_int qa_nil)) (qe_glob (v := .int 16) rfl T.g_DIGITS ⟨_, rfl⟩)))
      (qss_cons (qs_for PassesOwn.never rfl (qi_enum2 rfl T.b_enumerate (qac (qv 0) qa_nil)) (qg_tup rfl (qgs_cons (qg_name (i := 2) sc_back_table.nd rfl (Or.inl rfl)) (qgs_cons (qg_name (i := 3) sc_back_table.nd rfl (Or.inl rfl)) qgs_nil)))
      (qss_one (qs_asg (qv 2) (qg_sub (qv 1) (qv 3) set_list))))
      (qss_one (qs_ret (qe_callTy call_tuple_of (by rfl) T.b_tuple PyProof.Rows.boot_tuple (qac (qv 1) qa_nil)))))), ?_⟩
    refine ⟨by show 1 ≤ sizeLine; decide, fun p hp => ⟨p, 16, _, rfl, rfl, upd_same, by decide, by decide, by show 16 ≤ sizeLine; decide, fun l hl => ?_⟩⟩
    have e0 : (List.replicate (16 : Int).toNat [V.int 0]).flatten = (bkI t 0).map V.int := by rw [bkI_zero]; rfl
    rw [e0]
    have s1 := (Same.upd (o := .lst [V.int 0]) hp)
    have s2 := s1.trans (Same.upd (o := .lst ((bkI t 0).map V.int)) hl)
    have step : ∀ (i : Nat) (x : V) (H2 : Hp) (pp : Addr), (t.map V.int)[i]? = some x → H2 l = some (.lst ((bkI t i).map V.int)) → Same H H2 → H2 pp = none →
        ∃ j : Nat, ∃ z : Int, x = .int z ∧ ixN ((bkI t i).map V.int).length z = some j ∧ (upd H2 pp (.tup [.int i, x])) l = some (.lst ((bkI t i).map V.int)) ∧
          (upd (upd H2 pp (.tup [.int i, x])) l (.lst (((bkI t i).map V.int).set j (.int i)))) l = some (.lst ((bkI t (i + 1)).map V.int)) ∧ Same H (upd (upd H2 pp (.tup [.int i, x])) l (.lst (((bkI t i).map V.int).set j (.int i)))) := by
      intro i x H2 pp hx hm sm hpp
      obtain ⟨z, rfl, hz⟩ := ints_get hx
      have hi : i < t.length := (List.getElem?_eq_some_iff.mp hz).1
      have ez : t[i] = z := (List.getElem?_eq_some_iff.mp hz).2
      have bd := tab_at pm hi
      have sp := Same.upd (o := .tup [.int i, .int z]) hpp
      refine ⟨z.toNat, z, rfl, ixN_int (by omega) (by rw [List.length_map, bkI_len]; omega), sp _ _ hm, ?_, fun d o e => ?_⟩
      · rw [upd_same, ints_set, ← ez, bkI_step pm hi]
      · have ndl : d ≠ l := fun y => by
          rw [y] at e
          rw [s1 _ _ e] at hl
          cases hl
        rw [upd_ne ndl]
        exact sp _ _ (sm _ _ e)
    have fin : ∀ (o : Option V) (o' : Option V) (H2 : Hp), H2 l = some (.lst ((bkI t t.length).map V.int)) → Same H H2 → ∀ p', H2 p' = none → Q (.ref p') (upd H2 p' (.tup ((bkI t t.length).map V.int))) := fun _ _ H2 hm sm p' hp' =>
      q _ _ (sm.trans (Same.upd hp')) (by rw [upd_same, bkI_end pm])
    rcases hS with hS | hS
    · refine ⟨_, rfl, c, rfl, .inl ⟨⟨_, s2.seq hS⟩, ?_⟩⟩
      refine for_enum (K := K) (a := c) (xs := t.map V.int) (fun i σ H2 => ∃ (o2 o3 : Option V), σ = [some (.ref c), some (.ref l), o2, o3] ∧ H2 l = some (.lst ((bkI t i).map V.int)) ∧ Same H H2) ⟨none, none, rfl, upd_same, s2⟩ (fun i σ H2 _ ⟨_, _, _, _, sm⟩ => sm.seq hS) ?_ ?_
      · rintro i x σ H2 pp hx ⟨o2, o3, rfl, hm, sm⟩ hpp
        obtain ⟨j, z, rfl, hj, e1, e2, s3⟩ := step i x H2 pp hx hm sm hpp
        refine ⟨pp, _, rfl, SqT.of upd_same, rfl, _, _, rfl, _, _, rfl, rfl, ?_⟩
        exact ⟨_, rfl, _, rfl, _, rfl, l, _, _, j, rfl, rfl, e1, hj, _, _, rfl, e2, s3⟩
      · rintro σ H2 ⟨o2, o3, rfl, hm, sm⟩
        rw [List.length_map] at hm
        exact ⟨_, rfl, l, _, rfl, .inl ⟨SqL.of hm, fin o2 o3 H2 hm sm⟩⟩
    · refine ⟨_, rfl, c, rfl, .inr ⟨⟨_, Same.sqt s2 hS⟩, ?_⟩⟩
      refine for_enumT (K := K) (a := c) (xs := t.map V.int) (fun i σ H2 => ∃ (o2 o3 : Option V), σ = [some (.ref c), some (.ref l), o2, o3] ∧ H2 l = some (.lst ((bkI t i).map V.int)) ∧ Same H H2) ⟨none, none, rfl, upd_same, s2⟩ (fun i σ H2 _ ⟨_, _, _, _, sm⟩ => Same.sqt sm hS) ?_ ?_
      · rintro i x σ H2 pp hx ⟨o2, o3, rfl, hm, sm⟩ hpp
        obtain ⟨j, z, rfl, hj, e1, e2, s3⟩ := step i x H2 pp hx hm sm hpp
        refine ⟨pp, _, rfl, SqT.of upd_same, rfl, _, _, rfl, _, _, rfl, rfl, ?_⟩
        exact ⟨_, rfl, _, rfl, _, rfl, l, _, _, j, rfl, rfl, e1, hj, _, _, rfl, e2, s3⟩
      · rintro σ H2 ⟨o2, o3, rfl, hm, sm⟩
        rw [List.length_map] at hm
        exact ⟨_, rfl, l, _, rfl, .inl ⟨SqL.of hm, fin o2 o3 H2 hm sm⟩⟩
end
section
variable {P : Program} {w : World} {K : PySem.W.Frag} {mg : Str → Option Value} {base : Heap} {tk : Nat → Tok}
theorem ok_coded (a : At K mg "coded" s_coded ["table", "key", "digits"]) (T : Txt K mg tk) : Df P w K mg base "coded" ["table", "key", "digits"] 1 (spCoded K) := by
  refine a.dq sc_coded (fun vs H Q E h => ?_) (fun f cdv A outer s H vs Q E hr h => ?_)
  · obtain ⟨a, b, c, t, ks, ds, rfl, _⟩ := h
    rfl
  · obtain ⟨a, b, c, t, ks, ds, rfl, ha, hb, hc, lt, l1, l64, q⟩ := h
    refine ⟨_, (qss_cons (qs_set (i := 3) sc_coded.nd rfl (Or.inl rfl) (qe_callTy call_list_of (by rfl) T.b_list PyProof.Rows.boot_list (qac (qv 2) qa_nil)))
      (qss_cons (qs_for PassesOwn.never rfl (qi_seq (qv 1)) (qg_name (i := 4) sc_coded.nd rfl (Or.inl rfl))
      (qss_one (qs_for PassesOwn.never rfl (qi_range1 rfl T.b_range (qac (qe_callB call_len_seq (by rfl) T.b_len PySem.boot_len (qac (qv 2) qa_nil)) qa_nil)) (qg_name (i := 5) sc_coded.nd rfl (Or.inl rfl))
      (qss_cons (qs_set (i := 6) sc_coded.nd rfl (Or.inl rfl) (qe_ix ix_list (qv 3) (qe_op op_sub (qv 5) qe_int) (fun _ _ => rfl)))
      (qss_one (qs_asg (qe_ix (IxR.or ix_list ix_tup) (qv 0) (qe_op op_mod (qe_op op_add (qe_op op_add (qe_op op_add (qe_ix ix_list (qv 3) (qv 5) (fun _ _ => rfl)) (qv 4)) (qv 5)) (qv 6)) (qe_glob (v := .int 16) rfl T.g_DIGITS ⟨_, rfl⟩)) (fun _ _ => rfl)) (qg_sub (qv 3) (qv 5) set_list)))))))
      (qss_one (qs_ret (qe_callTy call_tuple_of (by rfl) T.b_tuple PyProof.Rows.boot_tuple (qac (qv 3) qa_nil)))))), ?_⟩
    refine ⟨_, rfl, c, _, rfl, hc, fun l hl => ?_⟩
    have s1 : Same H _ := Same.upd (o := .lst (ds.map V.int)) hl
    refine ⟨_, rfl, b, rfl, for_seq (K := K) (H0 := H) hb (fun j σ H2 => Same H H2 ∧ ∃ o4 o5 o6, σ = [some (.ref a), some (.ref b), some (.ref c), some (.ref l), o4, o5, o6] ∧ H2 l = some (.lst ((encK t (ks.take j) ds).map V.int))) ⟨s1, _, _, _, rfl, upd_same⟩ (fun j σ' H' h => h.1) ?_ ?_⟩
    · rintro j x σ H2 hx ⟨s2, o4, o5, o6, rfl, hm⟩
      obtain ⟨shift, rfl, hks⟩ := ints_get hx
      rw [take_succ_ints hks, encK_app]
      have hrl : (encK t (ks.take j) ds).length = ds.length := encK_len
      generalize encK t (ks.take j) ds = r at hm hrl
      refine ⟨_, rfl, c, _, rfl, hc.same s2, _, rfl, ?_, ?_, ?_⟩
      · omega
      · rw [List.length_map]; omega
      rw [show ((((ds.map V.int).length : Nat) : Int)).toNat = ds.length by rw [List.length_map]; rfl]
      refine for_range (n := ds.length) (Pv := fun i σ H3 => Same H H3 ∧ ∃ o5 o6, σ = [some (.ref a), some (.ref b), some (.ref c), some (.ref l), some (.int shift), o5, o6] ∧ H3 l = some (.lst ((encR t shift r i).map V.int))) ⟨s2, _, _, rfl, hm⟩ ?_ ?_
      · rintro i σ H3 hi ⟨s3, o5, o6, rfl, hm3⟩
        have hrl3 : (encR t shift r i).length = ds.length := by rw [encR_len, hrl]
        generalize hr' : encR t shift r i = r' at hm3 hrl3
        have hi' : i < r'.length := by omega
        refine ⟨_, rfl, _, rfl, _, _, rfl, rfl, l, _, _, _, rfl, rfl, SqL.of hm3, atI_ah (i := i) (by omega) hi', ?_⟩
        refine ⟨_, rfl, _, rfl, _, rfl, l, _, _, _, rfl, rfl, SqL.of hm3, atI_getD (i := i) (by omega) hi', _, rfl, _, _, rfl, rfl, _, rfl, _, _, rfl, rfl, _, rfl, _, _, rfl, rfl, _, _, rfl, rfl, (by decide : (0 : Int) < 16), ?_⟩
        have dm := dig_mod (r'.getD i 0 + shift + (0 + (i : Int)) + ah r' i)
        refine (ha.same s3).ix (atI_getD (i := ((r'.getD i 0 + shift + (0 + (i : Int)) + ah r' i) % 16).toNat) (by have := dm.1; omega) (by rw [lt]; have := dm.1; have := dm.2; omega)) ?_
        refine ⟨_, rfl, _, rfl, l, _, _, i, rfl, rfl, hm3, ixN_int (by omega) (by rw [List.length_map]; exact hi'), same_write s3 hl, _, _, rfl, ?_⟩
        rw [upd_same, ints_set, encR, hr', enc1, Int.zero_add]
      · rintro σ H3 ⟨s3, o5, o6, rfl, hm3⟩
        exact ⟨s3, _, _, _, rfl, hm3⟩
    · rintro σ H2 ⟨s2, o4, o5, o6, rfl, hm⟩
      rw [List.length_map, List.take_length] at hm
      exact ⟨_, rfl, l, _, rfl, .inl ⟨SqL.of hm, fun p hp => q p _ (s2.trans (Same.upd hp)) (s2n hp s2) upd_same⟩⟩
theorem ok_decoded (a : At K mg "decoded" s_decoded ["table", "key", "digits"]) (T : Txt K mg tk) (D_back_table : Df P w K mg base "back_table" ["table"] 1 (spBack K)) : Df P w K mg base "decoded" ["table", "key", "digits"] 2 (spDecoded K) := by
  refine a.dq sc_decoded (fun vs H Q E h => ?_) (fun f cdv A outer s H vs Q E hr h => ?_)
  · obtain ⟨a, b, c, t, ks, ds, rfl, _⟩ := h
    rfl
  · obtain ⟨a, b, c, t, ks, ds, rfl, ha, hb, hc, pm, hdd, l1, l64, q⟩ := h
    refine ⟨_, (qss_cons (qs_set (i := 3) sc_decoded.nd rfl (Or.inl rfl) (qe_def D_back_table (hr.mono (by first | decide | omega)) (qac (qv 0) qa_nil)))
      (qss_cons (qs_set (i := 4) sc_decoded.nd rfl (Or.inl rfl) (qe_callTy call_list_of (by rfl) T.b_list PyProof.Rows.boot_list (qac (qv 2) qa_nil)))
      (qss_cons (qs_for PassesOwn.never rfl (qi_rev rfl T.b_reversed (qac (qv 1) qa_nil)) (qg_name (i := 5) sc_decoded.nd rfl (Or.inl rfl))
      (qss_one (qs_for PassesOwn.never rfl (qi_rev rfl T.b_reversed (qac (qe_callTy call_rng1 (by rfl) T.b_range PyProof.Rows.boot_range (qac (qe_callB call_len_seq (by rfl) T.b_len PySem.boot_len (qac (qv 2) qa_nil)) qa_nil)) qa_nil)) (qg_name (i := 6) sc_decoded.nd rfl (Or.inl rfl))
      (qss_cons (qs_set (i := 7) sc_decoded.nd rfl (Or.inl rfl) (qe_ix ix_list (qv 4) (qe_op op_sub (qv 6) qe_int) (fun _ _ => rfl)))
      (qss_one (qs_asg (qe_op op_mod (qe_op op_sub (qe_op op_sub (qe_op op_sub (qe_ix ix_tup (qv 3) (qe_ix ix_list (qv 4) (qv 6) (fun _ _ => rfl)) (fun _ _ => rfl)) (qv 5)) (qv 6)) (qv 7)) (qe_glob (v := .int 16) rfl T.g_DIGITS ⟨_, rfl⟩)) (qg_sub (qv 4) (qv 6) set_list)))))))
      (qss_one (qs_ret (qe_callTy call_tuple_of (by rfl) T.b_tuple PyProof.Rows.boot_tuple (qac (qv 4) qa_nil))))))), ?_⟩
    refine ⟨_, rfl, a, t, rfl, ha, pm, fun pb H1 s1 hpb => ?_⟩
    refine ⟨_, rfl, c, _, rfl, hc.same s1, fun l hl => ?_⟩
    have s2 : Same H1 _ := Same.upd (o := .lst (ds.map V.int)) hl
    refine ⟨_, rfl, b, rfl, for_revS (K := K) (H0 := H1) (hb.same s1) (fun j σ H2 => Same H1 H2 ∧ ∃ o4 o5 o6, σ = [some (.ref a), some (.ref b), some (.ref c), some (.ref pb), some (.ref l), o4, o5, o6] ∧ H2 l = some (.lst ((decK (backL t) (ks.drop (ks.length - j)) ds).map V.int))) ⟨s2, _, _, _, rfl, by rw [Nat.sub_zero, List.drop_length]; exact upd_same⟩ (fun j σ' H' h => h.1) ?_ ?_⟩
    · rintro j x σ H2 hj hx ⟨s2, o4, o5, o6, rfl, hm⟩
      obtain ⟨shift, rfl, hks⟩ := ints_get hx
      rw [List.length_map] at hj hks
      have ed : ks.drop (ks.length - (j + 1)) = shift :: ks.drop (ks.length - j) := by
        have := drop_ints hks
        rw [show ks.length - 1 - j + 1 = ks.length - j by omega] at this
        rw [show ks.length - (j + 1) = ks.length - 1 - j by omega]
        exact this
      rw [ed, decK]
      have hrl : (decK (backL t) (ks.drop (ks.length - j)) ds).length = ds.length := decK_len
      have hrd : digR (decK (backL t) (ks.drop (ks.length - j)) ds) := decK_dig hdd
      generalize decK (backL t) (ks.drop (ks.length - j)) ds = r at hm hrl hrd
      refine ⟨_, rfl, c, _, rfl, (hc.same s1).same s2, _, rfl, fun pr hpr => ⟨pr, rfl, .inr (.inr ⟨ds.length, ?_, by omega, ?_⟩)⟩⟩
      · rw [upd_same, List.length_map]
      have s2' := s2.trans (Same.upd (o := .rng 0 ((ds.map V.int).length : Nat)) hpr)
      have hm' := Same.upd (o := .rng 0 ((ds.map V.int).length : Nat)) hpr _ _ hm
      refine for_revR (n := ds.length) (Pv := fun i σ H3 => Same H1 H3 ∧ ∃ o5 o6 r', σ = [some (.ref a), some (.ref b), some (.ref c), some (.ref pb), some (.ref l), some (.int shift), o5, o6] ∧ H3 l = some (.lst (r'.map V.int)) ∧ r'.length = ds.length ∧ digR r' ∧ decR (backL t) shift r' (ds.length - i) = decR (backL t) shift r ds.length) ⟨s2', _, _, r, rfl, hm', hrl, hrd, rfl⟩ ?_ ?_
      · rintro i σ H3 hi ⟨s3, o5, o6, r', rfl, hm3, hrl3, hrd3, er⟩
        have hi' : ds.length - 1 - i < r'.length := by omega
        have ep : (ds.length : Int) - 1 - i = ((ds.length - 1 - i : Nat) : Int) := by omega
        rw [ep]
        generalize hpl : ds.length - 1 - i = pl at hi'
        rw [show ds.length - i = pl + 1 by omega, decR] at er
        refine ⟨_, rfl, _, rfl, _, _, rfl, rfl, l, _, _, _, rfl, rfl, SqL.of hm3, atI_ah (i := pl) rfl hi', ?_⟩
        have dr := digR_at hrd3 pl
        refine ⟨_, rfl, _, rfl, _, rfl, l, _, _, _, rfl, rfl, SqL.of hm3, atI_getD (i := pl) rfl hi', pb, _, _, _, rfl, rfl, SqT.of (s3 _ _ hpb), atI_getD (i := (r'.getD pl 0).toNat) (by have := dr.1; omega) (by rw [backL_len]; have := dr.1; have := dr.2; omega), ?_⟩
        refine ⟨_, rfl, _, _, rfl, rfl, _, rfl, _, _, rfl, rfl, _, rfl, _, _, rfl, rfl, _, _, rfl, rfl, (by decide : (0 : Int) < 16), ?_⟩
        refine ⟨_, rfl, _, rfl, l, _, _, pl, rfl, rfl, hm3, ixN_nat (by rw [List.length_map]; exact hi'), same_write s3 hl, _, _, dec1 (backL t) shift r' pl, rfl, ?_, by rw [dec1_len]; exact hrl3, dec1_dig hrd3, ?_⟩
        · rw [upd_same, ints_set, dec1]
        · rw [show ds.length - (i + 1) = pl by omega]; exact er
      · rintro σ H3 ⟨s3, o5, o6, r', rfl, hm3, hrl3, hrd3, er⟩
        rw [Nat.sub_self, decR] at er
        rw [er] at hm3
        exact ⟨s3, _, _, _, rfl, hm3⟩
    · rintro σ H2 ⟨s2, o4, o5, o6, rfl, hm⟩
      rw [List.length_map, Nat.sub_self, List.drop_zero] at hm
      exact ⟨_, rfl, l, _, rfl, .inl ⟨SqL.of hm, fun p hp => q p _ ((s1.trans s2).trans (Same.upd hp)) (s2n hp (s1.trans s2)) upd_same⟩⟩
end
section
variable {P : Program} {w : World} {K : PySem.W.Frag} {mg : Str → Option Value} {base : Heap} {tk : Nat → Tok}
theorem ok_letter_digits (a : At K mg "letter_digits" s_letter_digits ["name"]) (T : Txt K mg tk) : Df P w K mg base "letter_digits" ["name"] 1 spLetters := by
  refine a.dq sc_letter_digits (fun vs H Q E h => ?_) (fun f cdv A outer s H vs Q E hr h => ?_)
  · obtain ⟨z, rfl, _⟩ := h
    rfl
  · obtain ⟨z, rfl, hz, q⟩ := h
    refine ⟨_, (qss_cons (qs_set (i := 1) sc_letter_digits.nd rfl (Or.inl rfl) (qe_lst qa_nil))
      (qss_cons (qs_for PassesOwn.never rfl (qi_str (qv 0)) (qg_name (i := 2) sc_letter_digits.nd rfl (Or.inl rfl))
      (qss_cons (qs_set (i := 3) sc_letter_digits.nd rfl (Or.inl rfl) (qe_op op_sub (qe_callB call_ord (by rfl) T.b_ord PyProof.Rows.boot_ord (qac (qv 2) qa_nil)) (qe_callB call_ord (by rfl) T.b_ord PyProof.Rows.boot_ord (qac qe_str qa_nil))))
      (qss_cons (qs_expr (qe_bm PySem.F.plainAttrs_list PySem.F.slot_list_append PySem.F.type_list_append mr_append (qv 1) (qac (qe_op op_mod (qv 3) (qe_glob (v := .int 16) rfl T.g_DIGITS ⟨_, rfl⟩)) qa_nil)))
      (qss_one (qs_expr (qe_bm PySem.F.plainAttrs_list PySem.F.slot_list_append PySem.F.type_list_append mr_append (qv 1) (qac (qe_op op_fdiv (qv 3) (qe_glob (v := .int 16) rfl T.g_DIGITS ⟨_, rfl⟩)) qa_nil)))))))
      (qss_one (qs_ret (qv 1))))), ?_⟩
    refine ⟨by show 0 ≤ sizeLine; decide, fun l hl => ?_⟩
    refine ⟨_, rfl, z, rfl, nm_ascii hz, for_str (fun i σ H2 => Same H H2 ∧ ∃ o2 o3, σ = [some (.str z), some (.ref l), o2, o3] ∧ H2 l = some (.lst ((letDs (z.cps.toList.take i)).map V.int))) ⟨Same.upd hl, _, _, rfl, upd_same⟩ ?_ ?_⟩
    · rintro i c σ H2 hc ⟨s2, o2, o3, rfl, hm⟩
      have hc' := cps_get hc
      rw [take_cs hc', letDs_app]
      have hln : (letDs (z.cps.toList.take i)).length ≤ 16 := by rw [letDs_len, List.length_take]; have := hz.2.2; omega
      generalize letDs (z.cps.toList.take i) = ds at hm hln
      have eX : ((((⟨#[c]⟩ : Str).cps.getD 0 0 : Nat) : Int) - ((("a" : Str).cps.getD 0 0 : Nat) : Int)) = (c : Int) - 97 := rfl
      have big : (100 : Nat) < sizeLine := by decide
      refine ⟨_, rfl, _, rfl, rfl, _, rfl, rfl, _, _, rfl, rfl, ?_⟩
      show tSeq _ _ _ [some (V.str z), some (V.ref l), some (V.str ⟨#[c]⟩), some (V.int ((c : Int) - 97))] H2
      refine ⟨_, rfl, .inl ⟨rfl, _, SqL.of hm⟩, _, rfl, _, _, rfl, rfl, (by decide : (0 : Int) < 16), l, _, _, rfl, rfl, hm, by rw [List.length_map]; omega, ?_⟩
      have w1 : Same H (upd H2 l (.lst (ds.map V.int ++ [V.int (((c : Int) - 97) % 16)]))) := same_write s2 hl
      refine ⟨_, rfl, .inl ⟨rfl, _, SqL.of upd_same⟩, _, rfl, _, _, rfl, rfl, ⟨by decide, by decide⟩, l, _, _, rfl, rfl, upd_same, by rw [List.length_append, List.length_map, List.length_singleton]; omega, same_write w1 hl, _, _, rfl, ?_⟩
      rw [upd_same, List.map_append, List.append_assoc]
      rfl
    · rintro σ H2 ⟨s2, o2, o3, rfl, hm⟩
      rw [show z.cps.size = z.cps.toList.length from rfl, List.take_length] at hm
      exact ⟨_, rfl, q l H2 s2 hl hm⟩
theorem ok_key_of (a : At K mg "key_of" s_key_of ["table", "key", "name"]) (T : Txt K mg tk) (D_letter_digits : Df P w K mg base "letter_digits" ["name"] 1 spLetters) (D_coded : Df P w K mg base "coded" ["table", "key", "digits"] 1 (spCoded K)) : Df P w K mg base "key_of" ["table", "key", "name"] 2 (spKeyOf K) := by
  refine a.dq sc_key_of (fun vs H Q E h => ?_) (fun f cdv A outer s H vs Q E hr h => ?_)
  · obtain ⟨a, b, z, t, ks, rfl, _⟩ := h
    rfl
  · obtain ⟨a, b, z, t, ks, rfl, ha, hb, hz, lt, q⟩ := h
    refine ⟨_, (qss_cons (qs_set (i := 3) sc_key_of.nd rfl (Or.inl rfl) (qe_op op_rep (qe_lst (qac qe_int qa_nil)) (qe_glob (v := .int 4) rfl T.g_KEY_PLACES ⟨_, rfl⟩)))
      (qss_cons (qs_for PassesOwn.never rfl (qi_enum rfl T.b_enumerate (qac (qe_def D_letter_digits (hr.mono (by first | decide | omega)) (qac (qv 2) qa_nil)) qa_nil)) (qg_tup rfl (qgs_cons (qg_name (i := 4) sc_key_of.nd rfl (Or.inl rfl)) (qgs_cons (qg_name (i := 5) sc_key_of.nd rfl (Or.inl rfl)) qgs_nil)))
      (qss_one (qs_augS (qv 3) (qe_op op_mod (qv 4) (qe_glob (v := .int 4) rfl T.g_KEY_PLACES ⟨_, rfl⟩)) get_list (qv 5) ip_add set_list)))
      (qss_one (qs_ret (qe_def D_coded (hr.mono (by first | decide | omega)) (qac (qv 0) (qac (qv 1) (qac (qe_comp (own := ["total"]) (fr := []) (js := []) rfl (qi_list (qv 3)) rfl (fun _ _ h => nomatch h) rfl (bsc0 rfl (by decide +kernel) (by decide +kernel) (by decide +kernel)) (fun _ _ _ _ => qg_name (i := 0) (show List.Nodup (["total"] : List Str) from by decide +kernel) rfl (Or.inl rfl) (.inr rfl)) (fun _ _ _ _ => (qe_op op_mod (qv 0) (qe_glob (v := .int 16) rfl T.g_DIGITS ⟨_, rfl⟩)))) qa_nil)))))))), ?_⟩
    refine ⟨by show 1 ≤ sizeLine; decide, fun p0 hp0 => ⟨p0, 4, _, rfl, rfl, upd_same, by decide, by decide, by show 4 ≤ sizeLine; decide, fun l hl => ?_⟩⟩
    have s1 := (Same.upd (o := .lst [V.int 0]) hp0)
    have s2 := s1.trans (Same.upd (o := .lst (List.replicate (4 : Int).toNat [V.int 0]).flatten) hl)
    have hlH : H l = none := s2n hl s1
    refine ⟨_, rfl, z, rfl, hz, fun ld H1 s3 hldn hld => ?_⟩
    have hm1 := s3 _ _ (upd_same (H := upd H p0 (.lst [V.int 0])) (a := l) (o := .lst (List.replicate (4 : Int).toNat [V.int 0]).flatten))
    have ndl : ld ≠ l := fun y => by rw [y, upd_same] at hldn; cases hldn
    generalize hds : letDs z.cps.toList = ds at hld q
    have hdl : ds.length ≤ 16 := by rw [← hds, letDs_len]; have := hz.2.2; omega
    refine ⟨ld, rfl, ⟨_, SqL.of hld⟩, for_enum (K := K) (a := ld) (xs := ds.map V.int) (fun i σ H2 => ∃ (o4 o5 : Option V), σ = [some (.ref a), some (.ref b), some (.str z), some (.ref l), o4, o5] ∧ H2 l = some (.lst ((sumsL ds i).map V.int)) ∧ H2 ld = some (.lst (ds.map V.int)) ∧ Same H H2)
      ⟨none, none, rfl, hm1, hld, s2.trans s3⟩ (fun i σ H2 _ ⟨_, _, _, _, hd, _⟩ => SqL.of hd) ?_ ?_⟩
    · rintro i x σ H2 pp hx ⟨o4, o5, rfl, hm, hd2, sm⟩ hpp
      obtain ⟨dg, rfl, hz'⟩ := ints_get hx
      have hi : i < ds.length := (List.getElem?_eq_some_iff.mp hz').1
      have eg : ds.getD i 0 = dg := by rw [List.getD_eq_getElem?_getD, hz']; rfl
      have sp2 := Same.upd (o := .tup [.int i, .int dg]) hpp
      have hm' := sp2 _ _ hm
      have h4 : i % 4 < (sumsL ds i).length := Nat.mod_lt i (by decide)
      have e4 : (i : Int) % 4 = ((i % 4 : Nat) : Int) := by omega
      refine ⟨pp, _, rfl, SqT.of upd_same, rfl, _, _, rfl, _, _, rfl, rfl, ?_⟩
      refine ⟨_, rfl, _, rfl, _, _, rfl, rfl, (by decide : (0 : Int) < 4), l, _, i % 4, .int ((sumsL ds i).getD (i % 4) 0), rfl, (by show V.int ((i : Int) % 4) = _; rw [e4]), hm', ?_, _, rfl, _, _, rfl, rfl, l, _, _, i % 4, rfl, rfl, hm', ixN_int e4 (by rw [List.length_map]; exact h4), _, _, rfl, ?_, ?_, ?_⟩
      · rw [ints_at h4, List.getD_eq_getElem?_getD, List.getElem?_eq_getElem h4]; rfl
      · rw [upd_same, ints_set, ← eg, sums_step]
      · rw [upd_ne ndl]; exact sp2 _ _ hd2
      · exact same_write (sm.trans sp2) hlH
    · rintro σ H2 ⟨o4, o5, rfl, hm, hd2, sm⟩
      rw [List.length_map] at hm
      refine ⟨_, rfl, _, rfl, _, rfl, l, rfl, ⟨_, SqL.of hm⟩, comp_list (xs := (sumsL ds ds.length).map V.int) (by show 4 ≤ sizeLine; decide) (fun i ys H3 => ys = ((ownK ds).take i).map V.int ∧ H3 = H2) ⟨by simp, rfl⟩ (fun i ys H3 ⟨_, e⟩ => by rw [e]; exact SqL.of hm) ?_ ?_⟩
      · rintro i ys H3 x hx _ ⟨rfl, rfl⟩
        obtain ⟨y, rfl, hy⟩ := ints_get hx
        refine ⟨_, rfl, _, _, rfl, rfl, (by decide : (0 : Int) < 16), ?_, rfl⟩
        have : (ownK ds)[i]? = some (y % 16) := by unfold ownK; rw [List.getElem?_map, hy]; rfl
        rw [List.take_add_one, this]; simp
      · rintro ys H3 hyl ⟨rfl, rfl⟩ p hp
        rw [show (ownK ds).take ((sumsL ds ds.length).map V.int).length = ownK ds from rfl]
        have su := Same.upd (o := .lst ((ownK ds).map V.int)) hp
        exact ⟨a, b, p, t, ks, ownK ds, rfl, (ha.same sm).same su, (hb.same sm).same su, .lst upd_same, lt, by rw [ownK_len]; decide, by rw [ownK_len]; decide, fun p' H' s' hn' hp' => q p' H' ((sm.trans su).trans s') (s2n hn' (sm.trans su)) hp'⟩
end
section
variable {P : Program} {w : World} {K : PySem.W.Frag} {mg : Str → Option Value} {base : Heap} {tk : Nat → Tok}
theorem ok_count_digits (a : At K mg "count_digits" s_count_digits ["count"]) (T : Txt K mg tk) : Df P w K mg base "count_digits" ["count"] 1 spCD := by
  refine a.dq sc_count_digits (fun vs H Q E h => ?_) (fun f cdv A outer s H vs Q E hr h => ?_)
  · obtain ⟨c, rfl, _⟩ := h
    rfl
  · obtain ⟨c, rfl, q⟩ := h
    refine ⟨_, (qss_one (qs_ret (qe_tup (qac (qe_op op_mod (qv 0) (qe_glob (v := .int 16) rfl T.g_DIGITS ⟨_, rfl⟩)) (qac (qe_op op_mod (qe_op op_fdiv (qv 0) (qe_glob (v := .int 16) rfl T.g_DIGITS ⟨_, rfl⟩)) (qe_glob (v := .int 16) rfl T.g_DIGITS ⟨_, rfl⟩)) (qac (qe_op op_fdiv (qv 0) qe_int) qa_nil)))))), ?_⟩
    exact ⟨_, rfl, _, _, rfl, rfl, (by decide : (0 : Int) < 16), _, rfl, _, _, rfl, rfl, ⟨by decide, by decide⟩, _, _, rfl, rfl, (by decide : (0 : Int) < 16), _, rfl, _, _, rfl, rfl, ⟨by decide, by decide⟩, by show 3 ≤ sizeLine; decide, fun p hp => q p _ (Same.upd hp) upd_same⟩
theorem four_bd {c d : Int} (h0 : 0 ≤ c) (h1 : c < 4096) (hd : dig d) : ∀ z ∈ fourI c d, 0 ≤ z ∧ z ≤ 1000000 := fun z hz => by
  have := five_dig h0 h1 hd z (List.mem_append_left _ hz)
  exact ⟨this.1, Int.le_trans (Int.le_of_lt this.2) (by decide)⟩
theorem ok_press_of (a : At K mg "press_of" s_press_of ["table", "key", "name", "age", "count", "deed"]) (T : Txt K mg tk) (D_count_digits : Df P w K mg base "count_digits" ["count"] 1 spCD) (D_key_of : Df P w K mg base "key_of" ["table", "key", "name"] 2 (spKeyOf K)) (D_coded : Df P w K mg base "coded" ["table", "key", "digits"] 1 (spCoded K)) : Df P w K mg base "press_of" ["table", "key", "name", "age", "count", "deed"] 3 (spPress K) := by
  refine a.dq sc_press_of (fun vs H Q E h => ?_) (fun f cdv A outer s H vs Q E hr h => ?_)
  · obtain ⟨a, b, z, age, c, d, t, ks, rfl, _⟩ := h
    rfl
  · obtain ⟨a, b, z, age, c, d, t, ks, rfl, ha, hb, hz, lt, c0, c1, hd, q⟩ := h
    refine ⟨_, (qss_cons (qs_set (i := 6) sc_press_of.nd rfl (Or.inl rfl) (qe_op op_catW (qe_def D_count_digits (hr.mono (by first | decide | omega)) (qac (qv 4) qa_nil)) (qe_tup (qac (qv 5) qa_nil))))
      (qss_cons (qs_set (i := 7) sc_press_of.nd rfl (Or.inl rfl) (qe_op op_catW (qv 6) (qe_tup (qac (qe_op op_mod (qe_callB (call_sumI rfl) (by rfl) T.b_sum PyProof.Rows.boot_sum (qac (qv 6) qa_nil)) (qe_glob (v := .int 16) rfl T.g_DIGITS ⟨_, rfl⟩)) qa_nil))))
      (qss_one (qs_ret (qe_tup (qac (qv 2) (qac (qv 3) (qac (qe_def D_coded (hr.mono (by first | decide | omega)) (qac (qv 0) (qac (qe_def D_key_of (hr.mono (by first | decide | omega)) (qac (qv 0) (qac (qv 1) (qac (qv 2) qa_nil)))) (qac (qv 7) qa_nil)))) qa_nil)))))))), ?_⟩
    refine ⟨_, rfl, c, rfl, fun p1 H1 s1 hp1 => ?_⟩
    refine ⟨_, rfl, by show 1 ≤ sizeLine; decide, fun p2 hp2 => ?_⟩
    have u2 := Same.upd (o := .tup [V.int d]) hp2
    refine ⟨p1, p2, _, _, rfl, rfl, u2 _ _ hp1, upd_same, by show 4 ≤ sizeLine; decide, fun p3 H3 s3 hp3 => ?_⟩
    have hp3' : H3 p3 = some (.tup ((fourI c d).map V.int)) := hp3
    have S3 := (s1.trans u2).trans s3
    refine ⟨_, rfl, _, rfl, p3, fourI c d, rfl, .tup hp3', by show 4 ≤ 1000; decide, four_bd c0 c1 hd, _, _, rfl, rfl, (by decide : (0 : Int) < 16), by show 1 ≤ sizeLine; decide, fun p4 hp4 => ?_⟩
    have u4 := Same.upd (o := .tup [V.int ((fourI c d).sum % 16)]) hp4
    refine ⟨p3, p4, _, _, rfl, rfl, u4 _ _ hp3', upd_same, by show 5 ≤ sizeLine; decide, fun p5 H5 s5 hp5 => ?_⟩
    have hp5' : H5 p5 = some (.tup ((fiveI c d).map V.int)) := hp5
    have S5 := (S3.trans u4).trans s5
    refine ⟨_, rfl, _, rfl, _, rfl, _, rfl, _, rfl, _, rfl, a, b, z, t, ks, rfl, ha.same S5, hb.same S5, hz, lt, fun pk H6 s6 _ hpk => ?_⟩
    refine ⟨_, rfl, a, pk, p5, t, keyZ t ks z, fiveI c d, rfl, (ha.same S5).same s6, .tup hpk, .tup (s6 _ _ hp5'), lt, by rw [five_len]; decide, by rw [five_len]; decide, fun pc H7 s7 _ hpc => ?_⟩
    refine ⟨by show 3 ≤ sizeLine; decide, fun p hp => ?_⟩
    have u8 := Same.upd (o := .tup [V.str z, .int age, .ref pc]) hp
    exact q p pc _ (((S5.trans s6).trans s7).trans u8) upd_same (u8 _ _ hpc)
theorem ok_read_press (a : At K mg "read_press" s_read_press ["table", "key", "press"]) (T : Txt K mg tk) (D_key_of : Df P w K mg base "key_of" ["table", "key", "name"] 2 (spKeyOf K)) (D_decoded : Df P w K mg base "decoded" ["table", "key", "digits"] 2 (spDecoded K)) : Df P w K mg base "read_press" ["table", "key", "press"] 3 (spRead K) := by
  refine a.dq sc_read_press (fun vs H Q E h => ?_) (fun f cdv A outer s H vs Q E hr h => ?_)
  · obtain ⟨a, b, pr, pc, z, age, t, ks, ds, rfl, _⟩ := h
    rfl
  · obtain ⟨a, b, pr, pc, z, age, t, ks, ds, rfl, ha, hb, hpr, hpc, hz, pm, l5, hdd, q⟩ := h
    refine ⟨_, (qss_cons (qs_asg (qv 2) (qg_seq rfl (qgs_cons (qg_name (i := 3) sc_read_press.nd rfl (Or.inl rfl)) (qgs_cons (qg_name (i := 4) sc_read_press.nd rfl (Or.inl rfl)) (qgs_cons (qg_name (i := 5) sc_read_press.nd rfl (Or.inl rfl)) qgs_nil)))))
      (qss_cons (qs_asg (qe_def D_decoded (hr.mono (by first | decide | omega)) (qac (qv 0) (qac (qe_def D_key_of (hr.mono (by first | decide | omega)) (qac (qv 0) (qac (qv 1) (qac (qv 3) qa_nil)))) (qac (qv 5) qa_nil)))) (qg_tup rfl (qgs_cons (qg_name (i := 6) sc_read_press.nd rfl (Or.inl rfl)) (qgs_cons (qg_name (i := 7) sc_read_press.nd rfl (Or.inl rfl)) (qgs_cons (qg_name (i := 8) sc_read_press.nd rfl (Or.inl rfl)) (qgs_cons (qg_name (i := 9) sc_read_press.nd rfl (Or.inl rfl)) (qgs_cons (qg_name (i := 10) sc_read_press.nd rfl (Or.inl rfl)) qgs_nil)))))))
      (qss_cons (qs_if (qt_cmpR op_ne (qv 10) (qe_op op_mod (qe_op op_add (qe_op op_add (qe_op op_add (qv 6) (qv 7)) (qv 8)) (qv 9)) (qe_glob (v := .int 16) rfl T.g_DIGITS ⟨_, rfl⟩)) (nomark _)) (qss_one (qs_ret qe_non)) qss_nil)
      (qss_one (qs_ret (qe_tup (qac (qe_op op_add (qe_op op_add (qv 6) (qe_op op_mul (qv 7) (qe_glob (v := .int 16) rfl T.g_DIGITS ⟨_, rfl⟩))) (qe_op op_mul (qv 8) qe_int)) (qac (qv 9) qa_nil)))))))), ?_⟩
    refine ⟨_, rfl, pr, _, rfl, hpr, rfl, _, _, rfl, _, _, rfl, _, _, rfl, rfl, ?_⟩
    refine ⟨_, rfl, _, rfl, _, rfl, _, rfl, a, b, z, t, ks, rfl, ha, hb, hz, tab_len pm, fun pk H1 s1 _ hpk => ?_⟩
    refine ⟨_, rfl, a, pk, pc, t, keyZ t ks z, ds, rfl, ha.same s1, .tup hpk, hpc.same s1, pm, hdd, by omega, by omega, fun pd H2 s2 _ hpd => ?_⟩
    have q' : ∀ x H', Same H2 H' → Told H' x (readI (decK (backL t) (keyZ t ks z) ds)) → Q x H' := fun x H' s' ht => q x H' ((s1.trans s2).trans s') ht
    have hl : (decK (backL t) (keyZ t ks z) ds).length = 5 := by rw [decK_len, l5]
    obtain ⟨lo, mi, hi, de, ck, er⟩ := five_of hl
    rw [er] at hpd q'
    refine ⟨pd, _, rfl, SqT.of hpd, rfl, _, _, rfl, _, _, rfl, _, _, rfl, _, _, rfl, _, _, rfl, rfl, ?_⟩
    refine ⟨_, rfl, _, rfl, _, rfl, _, _, rfl, rfl, _, rfl, _, _, rfl, rfl, _, rfl, _, _, rfl, rfl, _, _, rfl, rfl, (by decide : (0 : Int) < 16), rfl, _, rfl, ?_⟩
    have q2 : ∀ x H', Same H2 H' → Told H' x (if ck = (lo + mi + hi + de) % 16 then some (lo + mi * 16 + hi * 256, de) else none) → Q x H' := q'
    by_cases e : ck = (lo + mi + hi + de) % 16
    · rw [if_pos e] at q2
      refine iteNS (c := V.int ck = V.int ((lo + mi + hi + de) % 16)) (by rw [e]) ?_
      refine ⟨_, rfl, _, rfl, _, _, rfl, rfl, .inr ⟨by decide, by decide⟩, _, _, rfl, rfl, _, rfl, _, _, rfl, rfl, .inr ⟨by decide, by decide⟩, _, _, rfl, rfl, _, rfl, by show 2 ≤ sizeLine; decide, fun p hp => ?_⟩
      exact q2 _ _ (Same.upd hp) ⟨p, rfl, upd_same⟩
    · rw [if_neg e] at q2
      refine ite2 (fun _ => q2 _ _ (Same.refl _) rfl) (fun y => absurd ?_ y)
      have : ¬ V.int ck = V.int ((lo + mi + hi + de) % 16) := fun w' => e (by injection w')
      show (!decide (V.int ck = V.int ((lo + mi + hi + de) % 16))) = true
      rw [decide_eq_false this]; rfl
end
end Lw
namespace Lw
open PySem L2 L3
section
variable {P : Program} {w : World} {K : PySem.W.Frag} {mg : Str → Option Value} {base : Heap} {tk : Nat → Tok} {C CB : Addr}
theorem ok_law_pressed (a : At K mg "_law_pressed" s_law_pressed ["_law_box_here", "_law_code", "_law_entry", "_law_doors", "_law_caught"]) (T : Txt K mg tk) (U : DCx K C) (UB : BCx K CB) (D_law_take : Df P w K mg base "_law_take" ["_law_box_here", "_law_many"] 1 spTake2) (D_Button_age_now : Mf P w K mg base CB "age_now" ["self"] 1 (spBAge K CB)) (D_Button_press_once : Mf P w K mg base CB "press_once" ["self", "deed"] 4 (spBPress K CB)) (D_read_press : Df P w K mg base "read_press" ["table", "key", "press"] 3 (spRead K)) (D_Button_name_told : Mf P w K mg base CB "name_told" ["self"] 1 (spBName K CB)) (D_Door_hear : Mf P w K mg base C "hear" ["self", "thing"] 6 (spDHear K C)) : Df P w K mg base "_law_pressed" ["_law_box_here", "_law_code", "_law_entry", "_law_doors", "_law_caught"] 7 (spPressed64 K CB C) := by
  refine a.dq sc_law_pressed (fun vs H Q E h => ?_) (fun f cdv A outer s H vs Q E hr h => ?_)
  · obtain ⟨_, _, _, _, _, _, _, rfl, _⟩ := h
    rfl
  · obtain ⟨H0, A, I, S, cad, cqs, i, rfl, w, wp, wy, cw, c4, nb, n9, lq, l1, q⟩ := h
    refine ⟨_, (qss_cons (qs_asg (qv 2) (qg_seq rfl (qgs_cons (qg_name (i := 5) sc_law_pressed.nd rfl (Or.inl rfl)) (qgs_cons (qg_name (i := 6) sc_law_pressed.nd rfl (Or.inl rfl)) (qgs_cons (qg_name (i := 7) sc_law_pressed.nd rfl (Or.inl rfl)) qgs_nil)))))
      (qss_cons (qs_par (i := 8) (j := 9) rfl sc_law_pressed.nd rfl rfl (by decide) rfl rfl (qac (qe_def D_law_take (hr.mono (by first | decide | omega)) (qac (qv 0) (qac qe_int qa_nil))) (qac (qe_meth0 D_Button_age_now UB.cl (hr.mono (by first | decide | omega)) (qv 5)) qa_nil)))
      (qss_cons (qs_set (i := 10) sc_law_pressed.nd rfl (Or.inl rfl) (qe_meth D_Button_press_once UB.cl (hr.mono (by first | decide | omega)) (qv 5) (qac (qv 8) qa_nil)))
      (qss_cons (qs_set (i := 11) sc_law_pressed.nd rfl (Or.inl rfl) (qe_def D_read_press (hr.mono (by first | decide | omega)) (qac (qe_ix ix_tup (qv 1) qe_int (fun _ _ => rfl)) (qac (qe_ix ix_list (qe_ix ix_tup (qv 1) qe_int (fun _ _ => rfl)) (qv 9) (fun _ _ => rfl)) (qac (qv 10) qa_nil)))))
      (qss_cons (qs_if (QW.pt (qw_or (qt_cmpR (op_ned hr) (qe_slice sl_tupW (qv 10) qo_none (qo_some qe_int)) (qe_tup (qac (qe_meth0 D_Button_name_told UB.cl (hr.mono (by first | decide | omega)) (qv 5)) (qac (qv 9) qa_nil))) (nomark _)) (qw_or (qt_cmpR op_isN (qv 11) qe_non (nomark _)) (qw_or1 (qt_cmpR op_ne (qe_ix ix_tup (qv 11) qe_int (fun _ _ => rfl)) (qv 8) (nomark _)))))) (qss_one (qs_ret qe_bl)) qss_nil)
      (qss_cons (qs_if (QW.pt (qw_and (qt_cmpR (op_neE hr) (qv 6) (qe_lst qa_nil) (nomark _)) (qw_and1 (QW.pt (qw_or (qt_cmpR op_le (qe_ix ix_tup (qv 11) qe_int (fun _ _ => rfl)) (qe_ix ix_list (qv 6) (qe_un un_neg qe_int) (fun _ _ => rfl)) (nomark _)) (qw_or1 (QW.pt (qw_and (qt_not (qt_val (qv 7))) (qw_and1 (qt_cmpR op_ne (qe_ix ix_tup (qv 11) qe_int (fun _ _ => rfl)) (qe_op op_add (qe_ix ix_list (qv 6) (qe_un un_neg qe_int) (fun _ _ => rfl)) qe_int) (nomark _))))))))))) (qss_one (qs_ret qe_bl)) qss_nil)
      (qss_cons (qs_expr (qe_bm PySem.F.plainAttrs_list PySem.F.slot_list_append PySem.F.type_list_append mr_append (qv 6) (qac (qe_ix ix_tup (qv 11) qe_int (fun _ _ => rfl)) qa_nil)))
      (qss_cons (qs_asg qe_bl (qg_sub (qv 2) qe_int set_list))
      (qss_cons (qs_for PassesOwn.never rfl (qi_list (qe_slice sl_list (qv 3) qo_none (qo_some (qe_op op_add qe_int (qe_def D_law_take (hr.mono (by first | decide | omega)) (qac (qv 0) (qac qe_int qa_nil))))))) (qg_name (i := 12) sc_law_pressed.nd rfl (Or.inl rfl))
      (qss_one (qs_expr (qe_meth D_Door_hear U.cl (hr.mono (by first | decide | omega)) (qv 12) (qac (qv 10) qa_nil)))))
      (qss_cons (qs_expr (qe_bm PySem.F.plainAttrs_list PySem.F.slot_list_append PySem.F.type_list_append mr_append (qv 4) (qac (qe_tup (qac (qv 10) (qac (qe_ix ix_tup (qv 11) qe_int (fun _ _ => rfl)) qa_nil))) qa_nil)))
      (qss_one (qs_ret qe_bl)))))))))))), ?_⟩
    have c0 := (wp.b i).c0
    refine ⟨_, rfl, A (.e i), _, rfl, .lst (w.en i), rfl, _, _, rfl, _, _, rfl, _, _, rfl, rfl, ?_⟩
    refine ⟨_, rfl, A .b, _, _, rfl, w.bx, by omega, by decide, by decide, fun d H1 d0 d1 g1 => ?_⟩
    have w1 := w.grc g1
    have cw1 := cw.sl w [.b] g1.mv
    have dd : dig d := ⟨d0, d1⟩
    obtain ⟨ta, ka, b1⟩ := w1.bt i
    have b1 : BtnAt K CB H1 (A (.bp i)) ta ka (A (.ce i)) (S.B i) := b1
    refine ⟨_, rfl, A (.bp i), rfl, b1.no, A (.bp i), ta, ka, A (.ce i), S.B i, rfl, b1, _, _, rfl, ?_⟩
    have hnm : isNm (S.B i).nm := by rw [wp.bn i]; exact wp.nm i
    have htp : (S.B i).t.Perm digs := by rw [wp.bt i]; exact wp.tp
    refine ⟨_, rfl, A (.bp i), rfl, b1.no, _, rfl, A (.bp i), ta, ka, A (.ce i), S.B i, d, rfl, b1, hnm, tab_len htp, c0, by omega, dd, fun pr pc H2 m2 b2 hpr hpc => ?_⟩
    have w2 := w1.button i m2 b2
    have cw2 := cw1.sl w1 [.bp i, .ce i] m2
    obtain ⟨xs, ak, eh, hat, hak⟩ := KsAt.at (D := { S.D false with kss := I.kss }) w2.ks (wp.ba i).1 (by show (S.B i).age < (I.kss.length : Int); rw [wp.k4]; exact (wp.ba i).2)
    have ek : (S.B i).ks = keyA { S.D false with kss := I.kss } (S.B i).age := (wp.bk i).trans rfl
    rw [← ek] at hak
    rw [wp.bt i] at hpc htp
    have hcl := codeI_len I.t (S.B i).ks (S.B i).nm (S.B i).cnt d
    have hcd := code_dig (ks := (S.B i).ks) (z := (S.B i).nm) wp.tp c0 (show (S.B i).cnt < 4096 by omega) dd
    refine ⟨_, rfl, I.co, _, _, _, rfl, rfl, SqT.of w2.co, rfl, _, rfl, I.co, _, _, _, rfl, rfl, SqT.of w2.co, rfl, _, rfl, A .kl, _, _, _, rfl, rfl, SqL.of eh, hat, _, rfl, I.ta, ak, pr, pc, (S.B i).nm, (S.B i).age, I.t, (S.B i).ks, _, rfl, .tup w2.tb, .inr hak, .tup hpr, .tup hpc, hnm, wp.tp, hcl, hcd, fun y H3 s3 told => ?_⟩
    rw [read_code wp.tp c0 (by omega) dd] at told
    obtain ⟨tq, rfl, htq⟩ := told
    have w3 := w2.same s3
    have cw3 := cw2.same s3
    have hpr3 := s3 _ _ hpr
    have hpc3 := s3 _ _ hpc
    refine ⟨_, rfl, _, rfl, pr, _, rfl, hpr3, fun t4 H4 s4 h4 _ => ?_⟩
    have w4 := w3.same s4
    have cw4 := cw3.same s4
    obtain ⟨ta4, ka4, b4⟩ := w4.bt i
    have eB : ({ S with nb := S.nb + 1 }.setB i (S.B i).pr).B i = (S.B i).pr := if_pos rfl
    rw [eB] at b4
    have h4 : H4 t4 = some (.tup [.str (S.B i).nm, .int (S.B i).age]) := h4
    refine ⟨_, rfl, A (.bp i), rfl, b4.no, A (.bp i), ta4, ka4, A (.ce i), _, rfl, b4, _, rfl, by show 2 ≤ sizeLine; decide, fun t5 ht5 => ?_⟩
    rw [pr_nm]
    have u5 := Same.upd (o := .tup [.str (S.B i).nm, .int (S.B i).age]) ht5
    have w5 := w4.same u5
    have cw5 := cw4.same u5
    have htq5 := u5 _ _ (s4 _ _ htq)
    have hpr5 := u5 _ _ (s4 _ _ hpr3)
    have hpc5 := u5 _ _ (s4 _ _ hpc3)
    refine ⟨1, by decide, .tup (.inl (u5 _ _ h4)) (.inl upd_same) rfl (fun k x y ex ey => ?_), _, rfl, iteF ?_⟩
    · match k, ex, ey with
      | 0, ex, ey => cases ex; cases ey; exact .str _ _
      | 1, ex, ey => cases ex; cases ey; exact .int _ _
      | k + 2, ex, ey => cases ex
    generalize upd H4 t5 (.tup [.str (S.B i).nm, .int (S.B i).age]) = H5 at u5 w5 cw5 htq5 hpr5 hpc5 ⊢
    refine ⟨_, rfl, rfl, _, rfl, ite2 (fun y => nomatch (of_decide_eq_true y)) (fun _ => ?_)⟩
    refine ⟨_, rfl, tq, _, _, _, rfl, rfl, SqT.of htq5, rfl, _, rfl, rfl, _, rfl, ?_⟩
    refine ite2 (fun y => absurd y (by rw [decide_eq_true (show V.int d = V.int d from rfl)]; decide)) (fun _ => ?_)
    obtain ⟨L, r, ecs, hL, hlo⟩ := wy i
    have hcl5 : H5 (A (.cl i)) = some (.lst ((r ++ [L]).map V.int)) := by rw [← ecs]; exact w5.cl i
    obtain ⟨S5, hS5⟩ : ∃ S5 : St4, S5 = { S with nb := S.nb + 1 }.setB i (S.B i).pr := ⟨_, rfl⟩
    rw [← hS5] at w5
    refine nx_of ?_
    refine if_key (fun σ' H' => Wx K CB C H0 A I H' S5 ∧ Cw H0 A I H' cad cqs ∧ H' tq = some (.tup [.int (S.B i).cnt, .int d]) ∧ PrAt H' pr (S.B i).nm (S.B i).age (codeI I.t (S.B i).ks (S.B i).nm (S.B i).cnt d) ∧ σ' = [some (.ref (A .b)), some (.ref I.co), some (.ref (A (.e i))), some (.ref (A .dl)), some (.ref cad), some (.ref (A (.bp i))), some (.ref (A (.cl i))), some (.bl (S.ls i)), some (.int d), some (.int (S.B i).age), some (.ref pr), some (.ref tq), none]) (fun DD hD => ?_) ?_
    · refine ⟨_, rfl, by show 0 ≤ sizeLine; decide, fun l6 hl6 => ?_⟩
      have u6 := Same.upd (o := .lst []) hl6
      have w6 := w5.same u6
      have cw6 := cw5.same u6
      have htq6 := u6 _ _ htq5
      have hcl6 := u6 _ _ hcl5
      have hp6 : PrAt _ pr (S.B i).nm (S.B i).age (codeI I.t (S.B i).ks (S.B i).nm (S.B i).cnt d) := ⟨pc, u6 _ _ hpr5, u6 _ _ hpc5⟩
      refine ⟨A (.cl i), l6, _, rfl, rfl, SqL.of hcl6, SqL.of upd_same, _, rfl, ?_⟩
      generalize upd H5 l6 (.lst []) = H6 at u6 w6 cw6 htq6 hcl6 hp6 ⊢
      refine iteD (by cases r <;> rfl) ?_
      refine ⟨_, rfl, tq, _, _, _, rfl, rfl, SqT.of htq6, rfl, _, rfl, _, rfl, A (.cl i), _, _, _, rfl, rfl, SqL.of hcl6, atI_lastI r L, _, _, rfl, rfl, _, rfl, ?_⟩
      refine iteE (decide_eq_false (by omega)) ?_
      refine ⟨_, rfl, _, rfl, ?_⟩
      cases hls : S.ls i with
      | true => exact iteF (iteF (hD _ _ ⟨w6, cw6, htq6, hp6, by rw [hls]; rfl⟩))
      | false =>
        have hlo := hlo hls
        refine iteT ?_
        refine ⟨_, rfl, tq, _, _, _, rfl, rfl, SqT.of htq6, rfl, _, rfl, _, rfl, A (.cl i), _, _, _, rfl, rfl, SqL.of hcl6, atI_lastI r L, _, _, rfl, rfl, rfl, _, rfl, ?_⟩
        refine iteE (by rw [decide_eq_true (show V.int (S.B i).cnt = V.int (L + 1) from by rw [hlo])]; rfl) ?_
        exact hD _ _ ⟨w6, cw6, htq6, hp6, by rw [hls]; rfl⟩
    rintro σ' H6 ⟨w6, cw6, htq6, hp6, rfl⟩
    clear w5 cw5 htq5 hpr5 hpc5 w4 cw4 w3 cw3 w2 cw2 w1 cw1
    have ecs5 : S5.cs i = r ++ [L] := by rw [hS5]; exact ecs
    have hcl6 : H6 (A (.cl i)) = some (.lst ((r ++ [L]).map V.int)) := by rw [← ecs5]; exact w6.cl i
    have ll := l1 i
    rw [ecs, List.length_append] at ll
    refine ⟨_, rfl, .inl ⟨rfl, _, SqL.of hcl6⟩, _, rfl, tq, _, _, _, rfl, rfl, SqT.of htq6, rfl, A (.cl i), _, _, rfl, rfl, hcl6, by rw [List.length_map, List.length_append, sizeLine_eq]; have : [L].length = 1 := rfl; omega, ?_⟩
    have w7 := w6.counts i ((r ++ [L]) ++ [(S.B i).cnt])
    have cw7 := cw6.sl w6 [.cl i] (H' := upd H6 (A (.cl i)) (.lst (((r ++ [L]) ++ [(S.B i).cnt]).map V.int))) Mv.upd1
    have nt6 := w6.nt [.cl i]
    have m7 : Mv ([Sl.cl i].map A) H6 (upd H6 (A (.cl i)) (.lst (((r ++ [L]) ++ [(S.B i).cnt]).map V.int))) := Mv.upd1
    have htq7 := m7.tup nt6 htq6
    have hp7 := PrAt.mv m7 nt6 hp6
    show tSeq _ _ _ _ (upd H6 (A (.cl i)) (.lst (((r ++ [L]).map V.int) ++ [.int (S.B i).cnt])))
    rw [show ((r ++ [L]).map V.int) ++ [V.int (S.B i).cnt] = ((r ++ [L]) ++ [(S.B i).cnt]).map V.int from by rw [List.map_append (l₁ := r ++ [L])]; rfl]
    generalize upd H6 (A (.cl i)) (.lst (((r ++ [L]) ++ [(S.B i).cnt]).map V.int)) = H7 at w7 cw7 m7 htq7 hp7 ⊢
    refine ⟨_, rfl, A (.e i), _, _, 2, rfl, rfl, w7.en i, rfl, ?_⟩
    have w8 := w7.lost i false
    have m8 : Mv ([Sl.e i].map A) H7 (upd H7 (A (.e i)) (.lst [.ref (A (.bp i)), .ref (A (.cl i)), .bl false])) := Mv.upd1
    have cw8 := cw7.sl w7 [.e i] m8
    have htq8 := m8.tup (w7.nt [.e i]) htq7
    have hp8 := PrAt.mv m8 (w7.nt [.e i]) hp7
    show tSeq _ _ _ _ (upd H7 (A (.e i)) (.lst [.ref (A (.bp i)), .ref (A (.cl i)), .bl false]))
    generalize upd H7 (A (.e i)) (.lst [.ref (A (.bp i)), .ref (A (.cl i)), .bl false]) = H8 at w8 cw8 m8 htq8 hp8 ⊢
    obtain ⟨S8, hS8⟩ : ∃ S8 : St4, S8 = (S5.setC i ((r ++ [L]) ++ [(S.B i).cnt])).setL i false := ⟨_, rfl⟩
    rw [← hS8] at w8
    have nb8 : S8.nb = S.nb + 1 := by rw [hS8, hS5]; rfl
    have n8 : S8.n = S.n := by rw [hS8, hS5]; rfl
    have wp8 : Wp I S8 := by
      rw [hS8, hS5]
      exact (((wp.nb _).setB i ((wp.b i).pr (by omega)) (by rw [pr_nm]; exact wp.bn i) (by rw [pr_t]; exact wp.bt i) (by rw [pr_ks, pr_age]; exact wp.bk i) (by rw [pr_age]; exact wp.ba i)).setC i _).setL i false
    refine ⟨_, rfl, _, rfl, A .b, _, _, rfl, w8.bx, by omega, by decide, by decide, fun r9 H9 r90 r91 g9 => ⟨_, _, rfl, rfl, _, rfl, A .dl, _, rfl, SqL.of (w8.grc g9).dl, fun l9 hl9 => ?_⟩⟩
    have w9 := w8.grc g9
    have nl9 := w9.new hl9
    have cw9 := cw8.sl w8 [.b] g9.mv
    have htq9 := g9.mv.tup (boxc_nt w8.bx) htq8
    have hp9 := PrAt.mv g9.mv (boxc_nt w8.bx) hp8
    obtain ⟨js, ejs, ljs⟩ : ∃ js : List Bool, cutV [V.ref (A (.dp false)), .ref (A (.dp true))] none (some (1 + r9)) = js.map (fun j => V.ref (A (.dp j))) ∧ js.length ≤ 2 := by
      obtain rfl | rfl : r9 = 0 ∨ r9 = 1 := by omega
      · exact ⟨[false], rfl, by decide⟩
      · exact ⟨[false, true], rfl, by decide⟩
    rw [ejs]
    have u10 := Same.upd (o := .lst (js.map (fun j => V.ref (A (.dp j))))) hl9
    have w10 := w9.same u10
    have cw10 := cw9.same u10
    refine ⟨l9, rfl, ⟨_, SqL.of upd_same⟩, for_list (K := K) (a := l9) (xs := js.map (fun j => V.ref (A (.dp j)))) (fun k σ Hx => ∃ (S' : St4) (o12 : Option V), Wx K CB C H0 A I Hx S' ∧ Wp I S' ∧ Cw H0 A I Hx cad cqs ∧ S'.B = S8.B ∧ S'.cs = S8.cs ∧ S'.ls = S8.ls ∧ S'.nb = S.nb + 2 ∧ S'.n ≤ S.n + k ∧ Hx l9 = some (.lst (js.map (fun j => V.ref (A (.dp j))))) ∧ Hx tq = some (.tup [.int (S.B i).cnt, .int d]) ∧ PrAt Hx pr (S.B i).nm (S.B i).age (codeI I.t (S.B i).ks (S.B i).nm (S.B i).cnt d) ∧ σ = [some (.ref (A .b)), some (.ref I.co), some (.ref (A (.e i))), some (.ref (A .dl)), some (.ref cad), some (.ref (A (.bp i))), some (.ref (A (.cl i))), some (.bl (S.ls i)), some (.int d), some (.int (S.B i).age), some (.ref pr), some (.ref tq), o12]) ⟨_, none, w10, wp8.nb _, cw10, rfl, rfl, rfl, by show S8.nb + 1 = _; omega, by show S8.n ≤ _; omega, upd_same, u10 _ _ htq9, PrAt.same u10 hp9, rfl⟩ (fun k σ Hx _ ⟨_, _, _, _, _, _, _, _, _, _, h, _⟩ => SqL.of h) ?_ ?_⟩
    · rintro k x σ Hx hx ⟨S', o12, W, wp', cwx, eB, eC, eL, eN, hn', hl', htx, hpx, rfl⟩
      rw [List.getElem?_map] at hx
      cases hj : js[k]? with
      | none => rw [hj] at hx; cases hx
      | some j =>
        rw [hj] at hx
        obtain rfl : V.ref (A (.dp j)) = x := Option.some.inj hx
        have hk : k < js.length := (List.getElem?_eq_some_iff.mp hj).1
        obtain ⟨ta', dr⟩ := W.dr j
        refine ⟨_, rfl, A (.dp j), rfl, dr.no, _, rfl, A (.dp j), ta', A (.hk j), A (.bd j), A (.lg j), pr, S'.n, S'.D j, (S.B i).nm, (S.B i).age, _, rfl, dr, by omega, wp'.do_ j, hpx, hnm, hcl, hcd, fun q1 Hy my hq1 dy => ?_⟩
        have er : readK (S'.D j).t (keyA (S'.D j) (S.B i).age) (S.B i).nm (codeI I.t (S.B i).ks (S.B i).nm (S.B i).cnt d) = some ((S.B i).cnt, d) := by
          rw [wp'.dt j, keyI_A (wp'.dk j), ← wp.bk i]
          exact read_code wp.tp c0 (by omega) dd
        rw [er] at dy
        have ak := wp.ba i
        obtain ⟨okH, kbH, _⟩ := hearJ_ok (nm := (S.B i).nm) (d := d) (wp'.do_ j) (wp'.kb j) ak.1 (show (S.B i).age < ((S'.D j).kss.length : Int) by rw [wp'.dk j, wp.k4]; exact ak.2) c0 (show (S.B i).cnt < 4096 by omega)
        have nt' := W.nt [.bd j, .lg j]
        exact ⟨_, _, W.door j my dy, wp'.setD j (wp'.dt j) (wp'.dk j) okH (fun e he => let z := kbH e he; ⟨z.a0, z.a1, z.l0, z.l1, z.w⟩), cwx.sl W [.bd j, .lg j] my, eB, eC, eL, eN, by show S'.n + 1 ≤ _; omega, my _ _ (nin2 (nl9 _).symm (nl9 _).symm) hl', my.tup nt' htx, PrAt.mv my nt' hpx, rfl⟩
    · rintro σ Hx ⟨S', o12, W, wp', cwx, eB, eC, eL, eN, hn', hl', htx, hpx, rfl⟩
      rw [List.length_map] at hn'
      refine ⟨_, rfl, .inl ⟨rfl, _, SqL.of cwx.at_⟩, _, rfl, _, rfl, tq, _, _, _, rfl, rfl, SqT.of htx, rfl, by show 2 ≤ sizeLine; decide, fun t ht => ?_⟩
      have ut := Same.upd (o := .tup [.ref pr, .int (S.B i).cnt]) ht
      refine ⟨cad, _, _, rfl, rfl, ut _ _ cwx.at_, by rw [List.length_map, sizeLine_eq]; omega, ?_⟩
      have ka' : keyI I (S.B i).age = (S.B i).ks := (wp.bk i).symm
      have cwz := cwx.app (t := t) (r := ⟨t, pr, (S.B i).nm, (S.B i).age, (S.B i).cnt, d⟩) ht rfl (by show PrAt Hx pr _ _ (codeI I.t (keyI I (S.B i).age) _ _ _); rw [ka']; exact hpx) hnm (wp.ba i).1 (by show (S.B i).age < (I.kss.length : Int); rw [wp.k4]; exact (wp.ba i).2) c0 (by show (S.B i).cnt < 4096; omega) dd lq
      have Wz := (W.same ut).caught (cwx.same ut) (.lst ((cqs.map fun r => V.ref r.q) ++ [.ref t]))
      refine q _ S' _ Wz wp' (fun k => ?_) cwz eN (by omega) (by rw [List.length_append]; rfl) (fun k => ?_)
      · rw [eB, eC, eL, hS8, hS5]
        by_cases hk : k = i
        · subst hk
          refine ⟨(S.B k).cnt, r ++ [L], if_pos rfl, ?_, fun _ => ?_⟩
          · show (S.B k).cnt < (if k = k then (S.B k).pr else _).cnt
            rw [if_pos rfl, pr_cnt]; omega
          · show (if k = k then (S.B k).pr else _).cnt = _
            rw [if_pos rfl, pr_cnt]
        · obtain ⟨L', r', e1, e2, e3⟩ := wy k
          refine ⟨L', r', (if_neg hk).trans e1, ?_, fun z => ?_⟩
          · show L' < (if k = i then _ else S.B k).cnt
            rw [if_neg hk]; exact e2
          · show (if k = i then _ else S.B k).cnt = _
            rw [if_neg hk]
            refine e3 ?_
            have z : (if k = i then false else S.ls k) = false := z
            rw [if_neg hk] at z; exact z
      · rw [eC, hS8, hS5]
        show (if k = i then (r ++ [L]) ++ [(S.B i).cnt] else S.cs k).length ≤ _
        split
        · rename_i hk; rw [hk, ecs, List.length_append]; exact Nat.le_refl _
        · exact Nat.le_succ _
end
end Lw
namespace Lw
open PySem L2 L3
section
variable {P : Program} {w : World} {K : PySem.W.Frag} {mg : Str → Option Value} {base : Heap} {tk : Nat → Tok} {C CB : Addr}
theorem ok_law_never_again (a : At K mg "_law_never_again" s_law_never_again ["_law_door", "_law_caught"]) (T : Txt K mg tk) (U : DCx K C) (D_Door_known_now : Mf P w K mg base C "known_now" ["self"] 1 (spDKnown K C)) (D_Door_twin_door : Mf P w K mg base C "twin_door" ["self"] 3 (spDTwin K C)) (D_Door_hear : Mf P w K mg base C "hear" ["self", "thing"] 6 (spDHear K C)) : Df P w K mg base "_law_never_again" ["_law_door", "_law_caught"] 7 (spNever64 K CB C) := by
  refine a.dq sc_law_never_again (fun vs H Q E h => ?_) (fun f cdv A outer s H vs Q E hr h => ?_)
  · obtain ⟨_, _, _, _, _, _, _, rfl, _⟩ := h
    rfl
  · obtain ⟨H0, A, I, S, cad, cqs, j, rfl, w, wp, cw, n9, q⟩ := h
    refine ⟨_, (qss_cons (qs_set (i := 2) sc_law_never_again.nd rfl (Or.inl rfl) (qe_callTy (call_dictL rfl) (by rfl) T.b_dict PyProof.Rows.boot_dict (qac (qe_comp (own := ["_law_name_here", "_law_age", "_law_last", "_law_waiting"]) (fr := []) (js := []) rfl (qi_tup (qe_meth0 D_Door_known_now U.cl (hr.mono (by first | decide | omega)) (qv 0))) rfl (fun _ _ h => nomatch h) rfl (bsc0 rfl (by decide +kernel) (by decide +kernel) (by decide +kernel)) (fun _ _ _ _ => qg_tupK (K := K) rfl 4 rfl (qgs_cons (qg_name (i := 0) (show List.Nodup (["_law_name_here", "_law_age", "_law_last", "_law_waiting"] : List Str) from by decide +kernel) rfl (Or.inl rfl) (.inr rfl)) (qgs_cons (qg_name (i := 1) (show List.Nodup (["_law_name_here", "_law_age", "_law_last", "_law_waiting"] : List Str) from by decide +kernel) rfl (Or.inl rfl) (.inr rfl)) (qgs_cons (qg_name (i := 2) (show List.Nodup (["_law_name_here", "_law_age", "_law_last", "_law_waiting"] : List Str) from by decide +kernel) rfl (Or.inl rfl) (.inr rfl)) (qgs_cons (qg_name (i := 3) (show List.Nodup (["_law_name_here", "_law_age", "_law_last", "_law_waiting"] : List Str) from by decide +kernel) rfl (Or.inl rfl) (.inr rfl)) qgs_nil))))) (fun _ _ _ _ => (qe_tup (qac (qv 0) (qac (qv 2) qa_nil))))) qa_nil)))
      (qss_cons (qs_for PassesOwn.never rfl (qi_list (qe_slice sl_list (qv 1) (qo_some (qe_un un_neg qe_int)) qo_none)) (qg_seq rfl (qgs_cons (qg_name (i := 3) sc_law_never_again.nd rfl (Or.inl rfl)) (qgs_cons (qg_name (i := 4) sc_law_never_again.nd rfl (Or.inl rfl)) qgs_nil)))
      (qss_one (qs_if (QW.pt (qw_and (qt_din hr (qe_ix ix_tup (qv 3) qe_int (fun _ _ => rfl)) (qv 2)) (qw_and1 (qt_cmpR op_le (qv 4) (qe_dget hr (qv 2) (qe_ix ix_tup (qv 3) qe_int (fun _ _ => rfl))) (nomark _))))) (qss_one (qs_if (qt_cmpR op_eq (qe_ix ix_tup (qe_meth D_Door_hear U.cl (hr.mono (by first | decide | omega)) (qe_meth0 D_Door_twin_door U.cl (hr.mono (by first | decide | omega)) (qv 0)) (qac (qv 3) qa_nil)) qe_int (fun _ _ => rfl)) qe_str (nomark _)) (qss_one (qs_ret qe_bl)) qss_nil)) qss_nil)))
      (qss_one (qs_ret qe_bl)))), ?_⟩
    obtain ⟨ta, dr⟩ := w.dr j
    have ok := wp.do_ j
    refine ⟨_, rfl, A (.dp j), rfl, dr.no, A (.dp j), ta, A (.hk j), A (.bd j), A (.lg j), S.n, S.D j, rfl, dr, ok, fun q1 ss H1 s1 pm srt sh => ?_⟩
    obtain ⟨as, hq1, las, hsh⟩ := sh
    have lss : ss.length = (S.D j).kn.length := by rw [pm.length_eq, List.length_map]
    have lnl := ok.nl
    refine ⟨q1, rfl, ⟨_, SqT.of hq1⟩, comp_tup4 (K := K) (xs := as.map V.ref) (by rw [List.length_map, las, lss, sizeLine_eq]; omega) (fun k ys H2 => Same H1 H2 ∧ ∃ rs : List Addr, ys = rs.map V.ref ∧ rs.length = k ∧ ∀ (m : Nat) (a : Addr) (nm : Str), rs[m]? = some a → ss[m]? = some nm → H2 a = some (.tup [.str nm, .int (((S.D j).kn.lookup nm).getD ⟨0, 0, none⟩).last])) ⟨Same.refl _, [], rfl, rfl, fun m a nm e => by cases e⟩ (fun k ys H2 ⟨s2, _⟩ => SqT.of (s2 _ _ hq1)) ?_ ?_⟩
    · rintro k ys H2 x hx _ ⟨s2, rs, rfl, lrs, hrs⟩
      rw [List.getElem?_map] at hx
      cases ha : as[k]? with
      | none => rw [ha] at hx; cases hx
      | some a1 =>
        rw [ha] at hx
        obtain rfl : V.ref a1 = x := Option.some.inj hx
        have hk : k < ss.length := by rw [← las]; exact (List.getElem?_eq_some_iff.mp ha).1
        have hs := List.getElem?_eq_getElem hk
        obtain ⟨e, he⟩ := lookup_of_mem (kn := (S.D j).kn) (nm := ss[k]) (pm.subset (List.getElem_mem hk))
        obtain ⟨v, hv, _⟩ := hsh k a1 _ e ha hs he
        refine ⟨a1, _, _, _, _, rfl, SqT.of (s2 _ _ hv), ?_⟩
        refine ⟨_, rfl, _, rfl, by show 2 ≤ sizeLine; decide, fun t ht => ?_⟩
        have u := Same.upd (o := .tup [.str ss[k], .int e.last]) ht
        refine ⟨s2.trans u, rs ++ [t], by rw [List.map_append]; rfl, by rw [List.length_append, lrs]; rfl, fun m a nm e1 e2 => ?_⟩
        by_cases hm : m < rs.length
        · rw [List.getElem?_append_left hm] at e1
          exact u _ _ (hrs m a nm e1 e2)
        · rw [List.getElem?_append_right (by omega)] at e1
          have hm' : m = k := by
            have := (List.getElem?_eq_some_iff.mp e1).1
            simp at this
            omega
          subst hm'
          rw [lrs, Nat.sub_self] at e1
          obtain rfl : t = a := Option.some.inj e1
          rw [hs] at e2
          obtain rfl := Option.some.inj e2
          rw [he]
          exact upd_same
    · rintro ys H2 _ ⟨s2, rs, rfl, lrs, hrs⟩ l hl
      rw [List.length_map] at lrs
      have u := Same.upd (o := .lst (rs.map V.ref)) hl
      refine ⟨l, rs, hiD (pick (S.D j).kn ss), rfl, upd_same, by unfold hiD pick; rw [List.length_map, List.length_map, lrs, las], fun k a kv e1 e2 => ?_, fun p hp => ?_⟩
      · obtain ⟨nm, e3, rfl⟩ := hiD_pick e2
        exact u _ _ (hrs k a nm e1 e3)
      have ndk : ((pick (S.D j).kn ss).map (·.1)).Nodup := by rw [pick_keys]; exact (pm.nodup_iff).mpr ok.nd
      rw [merge_hi ndk]
      have up := Same.upd (o := .dK (hiD (pick (S.D j).kn ss))) hp
      have hi : HiAt (upd (upd H2 l (.lst (rs.map V.ref))) p (.dK (hiD (pick (S.D j).kn ss)))) p (S.D j).kn := ⟨_, upd_same, pick_perm pm ok.nd, ok.nd⟩
      have SS := ((s1.trans s2).trans u).trans up
      generalize upd (upd H2 l (.lst (rs.map V.ref))) p (.dK (hiD (pick (S.D j).kn ss))) = H3 at hi SS ⊢
      refine ⟨_, rfl, _, rfl, _, rfl, cad, _, rfl, SqL.of (SS _ _ cw.at_), fun l4 hl4 => ?_⟩
      have u4 := Same.upd (o := .lst (cutV (cqs.map fun r => V.ref r.q) (some (-12)) none)) hl4
      refine ⟨l4, rfl, ⟨_, SqL.of upd_same⟩, for_list (K := K) (a := l4) (xs := cutV (cqs.map fun r => V.ref r.q) (some (-12)) none) (fun k σ Hx => Same H Hx ∧ HiAt Hx p (S.D j).kn ∧ Hx l4 = some (.lst (cutV (cqs.map fun r => V.ref r.q) (some (-12)) none)) ∧ ∃ o3 o4, σ = [some (.ref (A (.dp j))), some (.ref cad), some (.ref p), o3, o4]) ⟨SS.trans u4, hi.same u4, upd_same, _, _, rfl⟩ (fun k σ Hx _ ⟨_, _, h, _⟩ => SqL.of h) ?_ ?_⟩
      · rintro k x σ Hx hx ⟨sx, hix, hlx, o3, o4, rfl⟩
        obtain ⟨r, hr', rfl⟩ := List.mem_map.mp (cut_mem (List.mem_of_getElem? hx))
        obtain ⟨e1, hpr, hnm, a0, a1, c0, c1, dd⟩ := (cw.cq r hr').mv (Z := []) sx.mv (fun c h => nomatch h)
        obtain ⟨pc, e2, e3⟩ := id hpr
        refine ⟨r.q, _, rfl, .tup e1, rfl, _, _, rfl, _, _, rfl, rfl, ?_⟩
        have g := hix.get r.nm
        have fin : ∀ H', Same Hx H' → Same H H' ∧ HiAt H' p (S.D j).kn ∧ H' l4 = some (.lst (cutV (cqs.map fun r => V.ref r.q) (some (-12)) none)) := fun H' s' => ⟨sx.trans s', hix.same s', s' _ _ hlx⟩
        cases he : (S.D j).kn.lookup r.nm with
        | none =>
          rw [he] at g
          refine ⟨_, rfl, r.pr, _, _, _, rfl, rfl, SqT.of e2, rfl, _, rfl, p, _, rfl, g, _, rfl, iteF ?_⟩
          exact iteF (let ⟨x1, x2, x3⟩ := fin _ (Same.refl _); ⟨x1, x2, x3, _, _, rfl⟩)
        | some e =>
          rw [he] at g
          refine ⟨_, rfl, r.pr, _, _, _, rfl, rfl, SqT.of e2, rfl, _, rfl, p, _, rfl, g, _, rfl, iteT ?_⟩
          refine ⟨_, rfl, _, rfl, _, rfl, r.pr, _, _, _, rfl, rfl, SqT.of e2, rfl, p, _, rfl, g, _, _, rfl, rfl, _, rfl, ?_⟩
          by_cases hc : r.c ≤ e.last
          case neg => exact iteE (decide_eq_false hc) (let ⟨x1, x2, x3⟩ := fin _ (Same.refl _); ⟨x1, x2, x3, _, _, rfl⟩)
          refine iteD (decide_eq_true hc) ?_
          have drx := dr.same sx
          refine ⟨_, rfl, A (.dp j), rfl, drx.no, A (.dp j), ta, A (.hk j), A (.bd j), A (.lg j), S.n, S.D j, rfl, drx, ok.kl, fun p' ta' hk' bd' lg' H5 s5 f1 f2 f3 f4 d5 => ?_⟩
          refine ⟨p', rfl, d5.no, _, rfl, p', ta', hk', bd', lg', r.pr, S.n, S.D j, r.nm, r.age, _, rfl, d5, by omega, ok, PrAt.same s5 hpr, hnm, codeI_len .., code_dig wp.tp c0 c1 dd, fun q6 H6 m6 hq6 d6 => ?_⟩
          rw [wp.dt j, keyI_A (wp.dk j), read_code wp.tp c0 c1 dd] at hq6
          have s6 : Same Hx H6 := fun x o ex => m6 _ _ (nin2 (ne_of_none ex f3) (ne_of_none ex f4)) (s5 _ _ ex)
          rcases hear_two (S.D j) r.nm r.age r.c r.d ok.nd with ⟨wd, h1, _⟩ | ⟨e', he', hlt, _⟩
          · rw [h1] at hq6
            refine ⟨q6, _, _, _, rfl, rfl, SqT.of hq6, rfl, rfl, _, rfl, ?_⟩
            refine iteE (decide_eq_false (by intro z; injection z with z; exact absurd z (by decide +kernel))) ?_
            exact let ⟨x1, x2, x3⟩ := fin _ s6; ⟨x1, x2, x3, _, _, rfl⟩
          · rw [he] at he'
            obtain rfl := Option.some.inj he'
            exfalso; omega
      · rintro σ Hx ⟨sx, _⟩
        exact q _ sx
end
end Lw
namespace Lw
open PySem L2 L3
section
variable {P : Program} {w : World} {K : PySem.W.Frag} {mg : Str → Option Value} {base : Heap} {tk : Nat → Tok} {C CB : Addr}
theorem ok_law {f : Addr} {fd : FuncData} (F : Fun K "law" "law" s_law f fd) (T : Txt K mg tk) (U : DCx K C) (UB : BCx K CB) (I_Button : Mi P w K mg base CB "Button" ["self", "name", "table", "key", "age", "step"] 1 (spBInit K CB)) (I_Door : Mi P w K mg base C "Door" ["self", "table", "keys", "near", "far", "most"] 1 (spDInitT K C))
    (D_Button_press_once : Mf P w K mg base CB "press_once" ["self", "deed"] 4 (spBPress K CB)) (D_Button_turn_key : Mf P w K mg base CB "turn_key" ["self", "key"] 1 (spBTurn K CB)) (D_Button_cell_out : Mf P w K mg base CB "cell_out" ["self"] 1 (spBOut K CB)) (D_Button_cell_torn : Mf P w K mg base CB "cell_torn" ["self"] 3 (spBTorn K CB)) (D_Button_age_now : Mf P w K mg base CB "age_now" ["self"] 1 (spBAge K CB)) (D_Button_count_now : Mf P w K mg base CB "count_now" ["self"] 1 (spBCount K CB)) (D_Button_cells_now : Mf P w K mg base CB "cells_now" ["self"] 1 (spBCells K CB))
    (D_Door_learn : Mf P w K mg base C "learn" ["self", "one", "other"] 7 (spDLearn K C)) (D_law_box : Df P w K mg base "_law_box" ["_law_script", "_law_k"] 1 (spBox2 K)) (D_law_take : Df P w K mg base "_law_take" ["_law_box_here", "_law_many"] 1 spTake2) (D_law_table : Df P w K mg base "_law_table" ["_law_box_here"] 2 spTable2) (D_law_key : Df P w K mg base "_law_key" ["_law_box_here"] 2 spKeyT2) (D_law_name : Df P w K mg base "_law_name" ["_law_box_here"] 2 spName64)
    (D_law_pressed : Df P w K mg base "_law_pressed" ["_law_box_here", "_law_code", "_law_entry", "_law_doors", "_law_caught"] 7 (spPressed64 K CB C)) (D_law_never_again : Df P w K mg base "_law_never_again" ["_law_door", "_law_caught"] 7 (spNever64 K CB C)) : FnOk P w K mg base CX0 10 f fd ["_law_script"] (spLaw K) := by
  refine F.dq sc_law (fun vs H Q E h => ?_) (fun cdv A outer s H vs Q E hr h => ?_)
  · obtain ⟨x, ns, rfl, _⟩ := h
    rfl
  · obtain ⟨sc, ns, rfl, hS, hlen, q⟩ := h
    refine ⟨_, (qss_cons (qs_for PassesOwn.never rfl (qi_range1 rfl T.b_range (qac (qe_op op_add qe_int (qe_callB call_len_seq (by rfl) T.b_len PySem.boot_len (qac (qe_slice sl_list (qv 0) qo_none (qo_some qe_int)) qa_nil))) qa_nil)) (qg_name (i := 1) sc_law.nd rfl (Or.inl rfl))
      (qss_cons (qs_set (i := 2) sc_law.nd rfl (Or.inr rfl) (qe_def D_law_box (hr.mono (by first | decide | omega)) (qac (qv 0) (qac (qv 1) qa_nil))))
      (qss_cons (qs_set (i := 3) sc_law.nd rfl (Or.inr rfl) (qe_tup (qac (qe_def D_law_table (hr.mono (by first | decide | omega)) (qac (qv 2) qa_nil)) (qac (qe_comp (own := ["_law_turn"]) (fr := ["_law_box_here"]) (js := [2]) rfl (qi_range1 rfl T.b_range (qac qe_int qa_nil)) rfl (clo1 rfl) rfl (bsc1 rfl (by decide +kernel) (by decide +kernel) (by decide +kernel) rfl rfl rfl) (fun _ _ _ _ => qg_name (i := 0) (show List.Nodup (["_law_turn", "_law_box_here"] : List Str) from by decide +kernel) rfl (Or.inl rfl) (.inr rfl)) (fun _ _ _ _ => (qe_slice sl_tupW (qe_def D_law_key (hr.mono (by first | decide | omega)) (qac (qv 1) qa_nil)) qo_none (qo_some qe_int)))) qa_nil))))
      (qss_cons (qs_set (i := 4) sc_law.nd rfl (Or.inr rfl) (qe_lst (qac (qe_def D_law_name (hr.mono (by first | decide | omega)) (qac (qv 2) qa_nil)) (qac qe_str qa_nil))))
      (qss_cons (qs_set (i := 5) sc_law.nd rfl (Or.inr rfl) (qe_comp (own := ["_law_turn"]) (fr := ["_law_box_here"]) (js := [2]) rfl (qi_range1 rfl T.b_range (qac qe_int qa_nil)) rfl (clo1 rfl) rfl (bsc1 rfl (by decide +kernel) (by decide +kernel) (by decide +kernel) rfl rfl rfl) (fun _ _ _ _ => qg_name (i := 0) (show List.Nodup (["_law_turn", "_law_box_here"] : List Str) from by decide +kernel) rfl (Or.inl rfl) (.inr rfl)) (fun _ _ _ _ => (qe_ix (ix_listK (K := K) rfl) (qe_lst (qac qe_int (qac qe_int (qac qe_int (qac qe_int (qac qe_int (qac (qe_op op_add qe_int (qe_def D_law_take (hr.mono (by first | decide | omega)) (qac (qv 1) (qac qe_int qa_nil)))) qa_nil))))))) (qe_def D_law_take (hr.mono (by first | decide | omega)) (qac (qv 1) (qac qe_int qa_nil))) (fun _ _ => rfl)))))
      (qss_cons (qs_comp (i := 6) sc_law.nd rfl (Or.inl rfl) (own := ["_law_turn"]) (fr := ["_law_steps", "_law_names", "_law_code"]) (js := [5, 4, 3]) rfl (qi_range1 rfl T.b_range (qac qe_int qa_nil)) rfl (clo3 rfl rfl rfl) rfl (bsc3 rfl (by decide +kernel) (by decide +kernel) (by decide +kernel) rfl rfl rfl rfl rfl rfl rfl rfl rfl) (fun _ _ _ _ => qg_name (i := 0) (show List.Nodup (["_law_turn", "_law_steps", "_law_names", "_law_code"] : List Str) from by decide +kernel) rfl (Or.inl rfl) (.inr rfl)) (fun _ _ _ _ => (qe_lst (qac (qe_make I_Button (hr.mono (by first | decide | omega)) (qac (qe_ix (ix_listK (K := K) rfl) (qv 2) (qv 0) (fun _ _ => rfl)) (qac (qe_ix (ix_tupK (K := K) rfl) (qv 3) qe_int (fun _ _ => rfl)) (qac (qe_ix (ix_listK (K := K) rfl) (qe_ix (ix_tupK (K := K) rfl) (qv 3) qe_int (fun _ _ => rfl)) qe_int (fun _ _ => rfl)) (qac qe_int (qac (qe_ix (ix_listK (K := K) rfl) (qv 1) (qv 0) (fun _ _ => rfl)) qa_nil)))))) (qac (qe_lst qa_nil) (qac qe_bl qa_nil))))))
      (qss_cons (qs_set (i := 7) sc_law.nd rfl (Or.inl rfl) (qe_lst (qac (qe_make I_Door (hr.mono (by first | decide | omega)) (qac (qe_ix ix_tup (qv 3) qe_int (fun _ _ => rfl)) (qac (qe_callTy call_tupleQ (by rfl) T.b_tuple PyProof.Rows.boot_tuple (qac (qe_ix ix_tup (qv 3) qe_int (fun _ _ => rfl)) qa_nil)) (qac qe_int (qac qe_int (qac qe_int qa_nil)))))) (qac (qe_make I_Door (hr.mono (by first | decide | omega)) (qac (qe_ix ix_tup (qv 3) qe_int (fun _ _ => rfl)) (qac (qe_callTy call_tupleQ (by rfl) T.b_tuple PyProof.Rows.boot_tuple (qac (qe_ix ix_tup (qv 3) qe_int (fun _ _ => rfl)) qa_nil)) (qac (qe_op op_add qe_int (qe_def D_law_take (hr.mono (by first | decide | omega)) (qac (qv 2) (qac qe_int qa_nil)))) (qac qe_int (qac qe_int qa_nil)))))) qa_nil))))
      (qss_cons (qs_for PassesOwn.never rfl (qi_list (qv 6)) (qg_name (i := 8) sc_law.nd rfl (Or.inl rfl))
      (qss_cons (qs_par (i := 9) (j := 10) rfl sc_law.nd rfl rfl (by decide) rfl rfl (qac (qe_meth D_Button_press_once UB.cl (hr.mono (by first | decide | omega)) (qe_ix ix_list (qv 8) qe_int (fun _ _ => rfl)) (qac qe_int qa_nil)) (qac (qe_meth D_Button_press_once UB.cl (hr.mono (by first | decide | omega)) (qe_ix ix_list (qv 8) qe_int (fun _ _ => rfl)) (qac qe_int qa_nil)) qa_nil)))
      (qss_cons (qs_expr (qe_bm PySem.F.plainAttrs_list PySem.F.slot_list_extend PySem.F.type_list_extend mr_extend64 (qe_ix ix_list (qv 8) qe_int (fun _ _ => rfl)) (qac (qe_lst (qac qe_int (qac qe_int qa_nil))) qa_nil)))
      (qss_one (qs_for PassesOwn.never rfl (qi_list (qv 7)) (qg_name (i := 11) sc_law.nd rfl (Or.inl rfl))
      (qss_one (qs_expr (qe_meth D_Door_learn U.cl (hr.mono (by first | decide | omega)) (qv 11) (qac (qv 9) (qac (qv 10) qa_nil))))))))))
      (qss_cons (qs_set (i := 12) sc_law.nd rfl (Or.inr rfl) (qe_lst qa_nil))
      (qss_cons (qs_for PassesOwn.never rfl (qi_range1 rfl T.b_range (qac qe_int qa_nil)) (qg_name (i := 13) sc_law.nd rfl (Or.inl rfl))
      (qss_cons (qs_set (i := 8) sc_law.nd rfl (Or.inl rfl) (qe_ix ix_list (qv 6) (qe_def D_law_take (hr.mono (by first | decide | omega)) (qac (qv 2) (qac qe_int qa_nil))) (fun _ _ => rfl)))
      (qss_cons (qs_set (i := 14) sc_law.nd rfl (Or.inl rfl) (qe_def D_law_take (hr.mono (by first | decide | omega)) (qac (qv 2) (qac qe_int qa_nil))))
      (qss_cons (qs_if (QW.pt (qw_and (qt_cmpR op_eq (qv 14) qe_int (nomark _)) (qw_and1 (qt_cmpR op_lt (qe_meth0 D_Button_age_now UB.cl (hr.mono (by first | decide | omega)) (qe_ix ix_list (qv 8) qe_int (fun _ _ => rfl))) qe_int (nomark _))))) (qss_one (qs_expr (qe_meth D_Button_turn_key UB.cl (hr.mono (by first | decide | omega)) (qe_ix ix_list (qv 8) qe_int (fun _ _ => rfl)) (qac (qe_ix ix_list (qe_ix ix_tup (qv 3) qe_int (fun _ _ => rfl)) (qe_op op_add (qe_meth0 D_Button_age_now UB.cl (hr.mono (by first | decide | omega)) (qe_ix ix_list (qv 8) qe_int (fun _ _ => rfl))) qe_int) (fun _ _ => rfl)) qa_nil)))) (qss_one (qs_if (QW.pt (qw_and (qt_cmpR op_in_seq (qv 14) (qe_tup (qac qe_int (qac qe_int qa_nil))) (by rfl)) (qw_and1 (qt_cmpR op_lt (qe_meth0 D_Button_count_now UB.cl (hr.mono (by first | decide | omega)) (qe_ix ix_list (qv 8) qe_int (fun _ _ => rfl))) qe_int (nomark _))))) (qss_cons (qs_if (qt_cmpR op_eq (qv 14) qe_int (nomark _)) (qss_one (qs_expr (qe_meth0 D_Button_cell_out UB.cl (hr.mono (by first | decide | omega)) (qe_ix ix_list (qv 8) qe_int (fun _ _ => rfl))))) (qss_one (qs_expr (qe_meth0 D_Button_cell_torn UB.cl (hr.mono (by first | decide | omega)) (qe_ix ix_list (qv 8) qe_int (fun _ _ => rfl))))))
      (qss_one (qs_asg qe_bl (qg_sub (qv 8) qe_int set_list)))) (qss_one (qs_if (QW.pt (qw_and (qt_cmpR op_lt (qe_meth0 D_Button_count_now UB.cl (hr.mono (by first | decide | omega)) (qe_ix ix_list (qv 8) qe_int (fun _ _ => rfl))) qe_int (nomark _)) (qw_and1 (qt_not (qt_val (qe_def D_law_pressed (hr.mono (by first | decide | omega)) (qac (qv 2) (qac (qv 3) (qac (qv 8) (qac (qv 7) (qac (qv 12) qa_nil))))))))))) (qss_one (qs_ret qe_bl)) qss_nil)))))
      (qss_cons (qs_compF (i := 15) sc_law.nd rfl (Or.inl rfl) (own := ["_law_cell"]) (fr := []) (js := []) rfl (qi_tup (qe_meth0 D_Button_cells_now UB.cl (hr.mono (by first | decide | omega)) (qe_ix ix_list (qv 8) qe_int (fun _ _ => rfl)))) rfl (fun _ _ h => nomatch h) rfl (bsc0 rfl (by decide +kernel) (by decide +kernel) (by decide +kernel)) (fun _ _ _ _ => qg_name (i := 0) (show List.Nodup (["_law_cell"] : List Str) from by decide +kernel) rfl (Or.inl rfl) (.inr rfl)) (fun _ _ _ _ => (qt_cmpR op_notN (qv 0) qe_non (nomark _))) (fun _ _ _ _ => (qv 0)))
      (qss_one (qs_if (qt_cmpR op_gt (qe_meth0 D_Button_count_now UB.cl (hr.mono (by first | decide | omega)) (qe_ix ix_list (qv 8) qe_int (fun _ _ => rfl))) (qe_callB (call_maxL rfl) (by rfl) T.b_max PyProof.Rows.boot_max (qac (qv 15) qa_nil)) (nomark _)) (qss_one (qs_ret qe_bl)) qss_nil)))))))
      (qss_one (qs_if (qt_not (qt_val (qe_callB (call_allB rfl) (by rfl) T.b_all PyProof.Rows.boot_all (qac (qe_comp (own := ["_law_door"]) (fr := ["_law_caught"]) (js := [12]) rfl (qi_list (qv 7)) rfl (clo1 rfl) rfl (bsc1 rfl (by decide +kernel) (by decide +kernel) (by decide +kernel) rfl rfl rfl) (fun _ _ _ _ => qg_name (i := 0) (show List.Nodup (["_law_door", "_law_caught"] : List Str) from by decide +kernel) rfl (Or.inl rfl) (.inr rfl)) (fun _ _ _ _ => (qe_def D_law_never_again (hr.mono (by first | decide | omega)) (qac (qv 0) (qac (qv 1) qa_nil))))) qa_nil)))) (qss_one (qs_ret qe_bl)) qss_nil))))))))))))
      (qss_one (qs_ret qe_bl))), ?_⟩
    refine ⟨_, rfl, _, rfl, sc, _, rfl, hS, fun l0 hl0 => ⟨l0, _, rfl, .inl (SqL.of upd_same), _, _, rfl, rfl, _, rfl, ?_, ?_, ?_⟩⟩
    · omega
    · have := cutV_length (ns.map V.int) none (some 2); rw [List.length_map] at this; omega
    have u0 := Same.upd (o := .lst (cutV (ns.map V.int) none (some 2))) hl0
    refine for_range (Pv := fun k σ Hx => Same H Hx ∧ ∃ o1 o2 o3 o4 o5 o6 o7 o8 o9 oa ob oc od oe of : Option V, σ = [some (.ref sc), o1, o2, o3, o4, o5, o6, o7, o8, o9, oa, ob, oc, od, oe, of]) ⟨u0, _, _, _, _, _, _, _, _, _, _, _, _, _, _, _, rfl⟩ ?_ ?_
    · rintro k σ Hk hk ⟨sk, o1, o2, o3, o4, o5, o6, o7, o8, o9, oa, ob, oc, od, oe, of, rfl⟩
      refine ⟨_, rfl, _, rfl, sc, ns, k, by simp, sk.seq hS, fun b H1 hb s1 bx => ?_⟩
      have z1 : Fz Hk H1 [b] := Fz.add ⟨fun _ h => h, List.nodup_nil, (fun x hx => by cases hx), (fun x hx => by cases hx)⟩ hb (Same.dom s1) (by obtain ⟨_, _, _, e, _⟩ := bx; exact some_ne e)
      refine ⟨_, rfl, b, _, rfl, bx, by decide, fun ta t H2 g2 fta hta tp => ?_⟩
      refine ⟨4, rfl, by decide, by decide, comp_range (n := 4) (by rw [sizeLine_eq]; omega) (fun i ys Hx => ∃ (as : List Addr) (kss : List (List Int)), GrC b (16 + 9 * i) H2 Hx ∧ ys = as.map V.ref ∧ as.length = i ∧ kss.length = i ∧ ∀ (j : Nat) (a : Addr) (ks : List Int), as[j]? = some a → kss[j]? = some ks → Hx a = some (.tup (ks.map V.int))) ⟨[], [], GrC.refl g2.bx, rfl, rfl, rfl, fun j a ks e => by cases e⟩ ?_ ?_⟩
      · rintro i ys Hx hi _ ⟨as, kss, g, rfl, la, lk, hks⟩
        refine ⟨_, rfl, b, _, rfl, g.bx, by omega, fun p ks Hy gy fp hp dk l1 l8 => ⟨_, rfl, p, _, rfl, hp, fun p' Hz sz hz _ => ?_⟩⟩
        obtain ⟨ks', eks⟩ := cut_intsE ks none (some 2)
        rw [eks] at hz
        refine ⟨as ++ [p'], kss ++ [ks'], (g.trans gy).same sz |>.mono (by omega), by rw [List.map_append]; rfl, by rw [List.length_append, la]; rfl, by rw [List.length_append, lk]; rfl, fun j a ks2 e1 e2 => ?_⟩
        by_cases hj : j < as.length
        · rw [List.getElem?_append_left hj] at e1
          rw [List.getElem?_append_left (by omega)] at e2
          exact sz _ _ (gy.mv.tup (boxc_nt g.bx) (hks j a ks2 e1 e2))
        · rw [List.getElem?_append_right (by omega)] at e1 e2
          have h0 : j - as.length = 0 := by
            have := (List.getElem?_eq_some_iff.mp e1).1
            simp at this; omega
          rw [h0] at e1
          rw [show j - kss.length = 0 by omega] at e2
          cases e1; cases e2
          exact hz
      rintro ys Hx hyl ⟨as, kss, g3, rfl, la, lk, hks⟩ kl hkl
      have G3 := g2.trans g3
      have z3 := (z1.up (GrC.dom G3)).add hkl (Same.dom (Same.upd (o := .lst (as.map V.ref)) hkl)) (some_ne upd_same)
      have u3 := Same.upd (o := .lst (as.map V.ref)) hkl
      refine ⟨by show 2 ≤ sizeLine; decide, fun co hco => ?_⟩
      have u4 := Same.upd (o := .tup [.ref ta, .ref kl]) hco
      have z4 := z3.up (Same.dom u4)
      have hta4 := u4 _ _ (u3 _ _ (g3.mv.tup (boxc_nt g2.bx) hta))
      have hkl4 := u4 _ _ (upd_same (H := Hx) (a := kl) (o := .lst (as.map V.ref)))
      have hks4 : KsAt K (upd (upd Hx kl (.lst (as.map V.ref))) co (.tup [.ref ta, .ref kl])) kl kss := ⟨as, hkl4, by omega, fun i a ks e1 e2 => SqT.of (u4 _ _ (u3 _ _ (hks i a ks e1 e2)))⟩
      have hco4 : (upd (upd Hx kl (.lst (as.map V.ref))) co (.tup [.ref ta, .ref kl])) co = some (.tup [.ref ta, .ref kl]) := upd_same
      have G4 : GrC b 52 H1 (upd (upd Hx kl (.lst (as.map V.ref))) co (.tup [.ref ta, .ref kl])) := (G3.same u3).same u4
      have nkb : kl ≠ b := boxc_fresh g3.bx hkl
      generalize upd (upd Hx kl (.lst (as.map V.ref))) co (.tup [.ref ta, .ref kl]) = H4 at z4 hta4 hkl4 hks4 hco4 G4 ⊢
      clear u3 u4 z3 hks G3 g3 z1
      refine ⟨_, rfl, b, _, rfl, G4.bx, by omega, fun nm0 H5 g5 hn0 hno => ⟨by show 2 ≤ sizeLine; decide, fun nl hnl => ?_⟩⟩
      have u6 := Same.upd (o := .lst [.str nm0, .str "other"]) hnl
      have g6 := g5.same u6
      have hnl6 : (upd H5 nl (.lst [.str nm0, .str "other"])) nl = some (.lst [.str nm0, .str "other"]) := upd_same
      have nnb : nl ≠ b := boxc_fresh g5.bx hnl
      generalize upd H5 nl (.lst [.str nm0, .str "other"]) = H6 at g6 hnl6 u6 ⊢
      refine ⟨2, rfl, by decide, by decide, comp_range (n := 2) (by rw [sizeLine_eq]; omega) (fun i ys Hx => ∃ ss : List Int, GrC b (53 + 2 * i) H6 Hx ∧ ys = ss.map V.int ∧ ss.length = i ∧ ∀ s ∈ ss, 1 ≤ s ∧ s ≤ 64) ⟨[], GrC.refl g6.bx, rfl, rfl, fun s hs => by cases hs⟩ ?_ ?_⟩
      · rintro i ys Hx hi _ ⟨ss, g, rfl, ls, hss⟩
        refine ⟨_, rfl, b, _, _, rfl, g.bx, by omega, by decide, by decide, fun r Hy r0 r1 gy => ⟨_, _, rfl, rfl, by show 6 ≤ sizeLine; decide, fun l hl => ?_⟩⟩
        have uy := Same.upd (o := .lst [.int 1, .int 2, .int 3, .int 4, .int 64, .int (1 + r)]) hl
        refine ⟨_, rfl, b, _, _, rfl, (gy.same uy).bx, by omega, by decide, by decide, fun r2 Hz r20 r21 gz => ?_⟩
        obtain ⟨v, hv, hvm⟩ := draw_at (xs := [V.int 1, .int 2, .int 3, .int 4, .int 64, .int (1 + r)]) r20 r21
        obtain ⟨stp, rfl, s1', s2'⟩ : ∃ z : Int, v = .int z ∧ 1 ≤ z ∧ z ≤ 64 := by
          simp only [List.mem_cons, List.not_mem_nil, or_false] at hvm
          rcases hvm with rfl | rfl | rfl | rfl | rfl | rfl <;> exact ⟨_, rfl, by omega, by omega⟩
        refine ⟨l, _, _, _, rfl, rfl, SqL.of (gz.kp _ _ (boxc_fresh gy.bx hl) upd_same), hv, ss ++ [stp], ((g.trans gy).same uy).trans gz |>.mono (by omega), by rw [List.map_append]; rfl, by rw [List.length_append, ls]; rfl, fun s hs => ?_⟩
        rcases List.mem_append.mp hs with hs | hs
        · exact hss s hs
        · rw [List.mem_singleton.mp hs]; exact ⟨s1', s2'⟩
      rintro ys H7' hyl ⟨ss, g7, rfl, ls, hss⟩ st hst
      have u7 := Same.upd (o := .lst (ss.map V.int)) hst
      obtain ⟨q0, q1, rfl⟩ : ∃ q0 q1, ss = [q0, q1] := by
        match ss, ls with
        | [a, b], _ => exact ⟨a, b, rfl⟩
      have hq0 := hss q0 (by simp)
      have hq1 := hss q1 (by simp)
      have G7 : GrC b 57 H4 (upd H7' st (.lst ([q0, q1].map V.int))) := (g6.trans g7).same u7
      have hst7 : (upd H7' st (.lst ([q0, q1].map V.int))) st = some (.lst [.int q0, .int q1]) := upd_same
      have hnl7 := u7 _ _ (g7.kp _ _ nnb hnl6)
      generalize upd H7' st (.lst ([q0, q1].map V.int)) = H7 at G7 hst7 hnl7 ⊢
      have z7 := z4.up (GrC.dom G7)
      have hta7 := G7.mv.tup (boxc_nt G4.bx) hta4
      have hco7 := G7.mv.tup (boxc_nt G4.bx) hco4
      have hks7 := hks4.mv G7.mv (boxc_nt G4.bx) (nin1 nkb)
      clear hta4 hco4 hks4 hkl4 z4 u6 g6 g7 u7 hss hnl6
      obtain ⟨as7, ekl7, la7, hk7⟩ := id hks7
      obtain ⟨ak0, as', eas⟩ : ∃ ak0 as', as7 = ak0 :: as' := by
        cases as7 with
        | nil => rw [lk] at la7; cases la7
        | cons x r => exact ⟨x, r, rfl⟩
      obtain ⟨ks0, kss', ekss⟩ : ∃ ks0 kss', kss = ks0 :: kss' := by
        cases kss with
        | nil => cases lk
        | cons x r => exact ⟨x, r, rfl⟩
      have hak0 : SqT K H7 ak0 (ks0.map V.int) := hk7 0 ak0 ks0 (by rw [eas]; rfl) (by rw [ekss]; rfl)
      refine ⟨2, rfl, by decide, by decide, comp_range (n := 2) (by rw [sizeLine_eq]; omega) (fun i ys Hx => ∃ es : List Ea, Same H7 Hx ∧ ys = es.reverse.map (fun x => V.ref x.e) ∧ es.length = i ∧ Fz Hk Hx (flE es ++ [kl, b]) ∧ (∀ x ∈ es, EaAt K CB Hx x) ∧ ∀ (j : Nat) (x : Ea), es.reverse[j]? = some x → x.B = ⟨if j = 0 then nm0 else "other", t, ks0, 0, if j = 0 then q0 else q1, 0, 0, some 0, none⟩) ⟨[], Same.refl _, rfl, rfl, z7, (fun x hx => by cases hx), (fun j x e => by cases e)⟩ ?_ ?_⟩
      · rintro i ys Hx hi _ ⟨es, sx, rfl, le, zx, hes, hB⟩
        obtain ⟨nmi, hni, eni⟩ : ∃ z : Str, atI [V.str nm0, .str "other"] (0 + (i : Int)) = some (.str z) ∧ z = if i = 0 then nm0 else "other" := by
          obtain rfl | rfl : i = 0 ∨ i = 1 := by omega
          · exact ⟨_, rfl, rfl⟩
          · exact ⟨_, rfl, rfl⟩
        obtain ⟨qi, hqi, eqi⟩ : ∃ z : Int, atI [V.int q0, .int q1] (0 + (i : Int)) = some (.int z) ∧ z = if i = 0 then q0 else q1 := by
          obtain rfl | rfl : i = 0 ∨ i = 1 := by omega
          · exact ⟨_, rfl, rfl⟩
          · exact ⟨_, rfl, rfl⟩
        refine ⟨_, rfl, _, rfl, nl, _, _, _, rfl, rfl, SqL.of (sx _ _ hnl7), hni, _, rfl, co, _, _, _, rfl, rfl, SqT.of (sx _ _ hco7), rfl, _, rfl, co, _, _, _, rfl, rfl, SqT.of (sx _ _ hco7), rfl, kl, _, _, .ref ak0, rfl, rfl, SqL.of (sx _ _ ekl7), by rw [eas]; exact atI_nat (j := 0) rfl, _, rfl, _, rfl, st, _, _, _, rfl, rfl, SqL.of (sx _ _ hst7), hqi, fun x dx nx ndx nex => ?_⟩
        have sJ : Same Hx (upd (upd Hx dx (.own x)) x (.ins CB dx [])) := (Same.upd ndx).trans (Same.upd (by rw [upd_ne nex.symm]; exact nx))
        refine ⟨x, ta, ak0, dx, nmi, 0, qi, t, ks0, rfl, upd_same, .tup (sJ _ _ (sx _ _ hta7)), .inr (Same.sqt sJ (Same.sqt sx hak0)), fun ta' ka' ce Hy hce my by_ => ⟨rfl, ?_⟩⟩
        have sK : Same Hx Hy := fun c o e => my c o (nin1 (ne_of_none e nx)) (sJ c o e)
        have fce : Hx ce = none := s2n hce sJ
        refine ⟨by show 0 ≤ sizeLine; decide, fun cl hcl => ?_⟩
        have ucl := Same.upd (o := .lst []) hcl
        refine ⟨by show 3 ≤ sizeLine; decide, fun e he => ?_⟩
        have ue := Same.upd (o := .lst [.ref x, .ref cl, .bl false]) he
        have SS := (sK.trans ucl).trans ue
        have hcx : Hx cl = none := s2n hcl sK
        have hex : Hx e = none := s2n he (sK.trans ucl)
        obtain ⟨dy, ey⟩ := by_.ob
        have n1 : ce ≠ x := by_.ne.symm
        have n2 : cl ≠ x := (ne_of_none ey hcl).symm
        have n3 : cl ≠ ce := (ne_of_none by_.cs hcl).symm
        have n4 : e ≠ x := (ne_of_none (ucl _ _ ey) he).symm
        have n5 : e ≠ ce := (ne_of_none (ucl _ _ by_.cs) he).symm
        have n6 : e ≠ cl := (ne_of_none (upd_same (H := Hy) (a := cl) (o := .lst [])) he).symm
        refine ⟨⟨e, cl, ce, x, ta', ka', ⟨nmi, t, ks0, 0, qi, 0, 0, some 0, none⟩⟩ :: es, sx.trans SS, by rw [List.reverse_cons, List.map_append]; rfl, by rw [List.length_cons, le], ?_, fun y hy => ?_, fun j y ej => ?_⟩
        · refine zx.adds (as := [e, cl, ce, x]) ?_ ?_ (Same.dom SS) ?_
          · simp [n1, n2, n3, n4, n5, n6]
          · intro a ha
            simp only [List.mem_cons, List.not_mem_nil, or_false] at ha
            rcases ha with rfl | rfl | rfl | rfl <;> assumption
          · intro a ha
            simp only [List.mem_cons, List.not_mem_nil, or_false] at ha
            rcases ha with rfl | rfl | rfl | rfl
            · exact some_ne upd_same
            · exact some_ne (ue _ _ upd_same)
            · exact some_ne (ue _ _ (ucl _ _ by_.cs))
            · exact some_ne (ue _ _ (ucl _ _ ey))
        · rcases List.mem_cons.mp hy with rfl | hy
          · exact ⟨upd_same, ue _ _ upd_same, (by_.same ucl).same ue⟩
          · exact (hes y hy).same SS
        · rw [List.reverse_cons] at ej
          by_cases hj : j < es.reverse.length
          · rw [List.getElem?_append_left hj] at ej
            exact hB j y ej
          · rw [List.getElem?_append_right (by omega)] at ej
            have h0 : j - es.reverse.length = 0 := by
              have := (List.getElem?_eq_some_iff.mp ej).1
              simp only [List.length_cons, List.length_nil] at this; omega
            rw [h0] at ej
            cases ej
            have : j = i := by rw [List.length_reverse] at hj h0; omega
            rw [this, eni, eqi]
      rintro ys H8 hyl ⟨es, s8, rfl, le8, z8, hes8, hB8⟩ el hel
      obtain ⟨e0, e1, rfl⟩ : ∃ e0 e1, es = [e1, e0] := by
        match es, le8 with
        | [a, b], _ => exact ⟨b, a, rfl⟩
      have B0 : e0.B = ⟨nm0, t, ks0, 0, q0, 0, 0, some 0, none⟩ := hB8 0 e0 rfl
      have B1 : e1.B = ⟨"other", t, ks0, 0, q1, 0, 0, some 0, none⟩ := hB8 1 e1 rfl
      have ue := Same.upd (o := .lst [.ref e0.e, .ref e1.e]) hel
      have a0 := (hes8 e0 (by simp)).same ue
      have a1 := (hes8 e1 (by simp)).same ue
      have hel9 : (upd H8 el (.lst [.ref e0.e, .ref e1.e])) el = some (.lst [.ref e0.e, .ref e1.e]) := upd_same
      have z9 := z8.add hel (Same.dom ue) (some_ne upd_same)
      have S9 := s8.trans ue
      show tSeq _ _ _ _ (upd H8 el (.lst [.ref e0.e, .ref e1.e]))
      generalize upd H8 el (.lst [.ref e0.e, .ref e1.e]) = H9 at a0 a1 hel9 z9 S9 ⊢
      have bx9 := (S9.grc G7.bx).bx
      have hta9 := S9 _ _ hta7
      have hco9 := S9 _ _ hco7
      have ekl9 := S9 _ _ ekl7
      have hk9 : ∀ (i : Nat) (a : Addr) (ks : List Int), as7[i]? = some a → kss[i]? = some ks → SqT K H9 a (ks.map V.int) := fun i a ks e1 e2 => Same.sqt S9 (hk7 i a ks e1 e2)
      refine ⟨_, rfl, co, _, _, _, rfl, rfl, SqT.of hco9, rfl, _, rfl, co, _, _, _, rfl, rfl, SqT.of hco9, rfl, kl, _, rfl, .lst ekl9, fun kt Ha sa hkt => ?_⟩
      refine fun p0 dx nx ndx nex => ?_
      have sJ : Same Ha (upd (upd Ha dx (.own p0)) p0 (.ins C dx [])) := (Same.upd ndx).trans (Same.upd (by rw [upd_ne nex.symm]; exact nx))
      have sJ9 := sa.trans sJ
      refine ⟨p0, ta, kt, dx, 3, 40, 4, t, kss, rfl, upd_same, .tup (sJ9 _ _ hta9), ⟨as7, Same.sqt sJ hkt, la7, fun i a ks e1 e2 => Same.sqt sJ9 (hk9 i a ks e1 e2)⟩, by omega, fun ta0 h0 d0 l0 Hb hh0 hd0 hl0 mv0 dr0 => ⟨rfl, ?_⟩⟩
      have sK0 : Same Ha Hb := fun c o e => mv0 c o (nin1 (ne_of_none e nx)) (sJ c o e)
      have S9b := sa.trans sK0
      obtain ⟨dy0, ey0⟩ := dr0.ob
      have zb := (z9.up (Same.dom sa)).door nx (Same.dom sJ) (some_ne upd_same) hh0 hd0 hl0 (Mv.dom1 mv0 (some_ne ey0)) dr0
      refine ⟨_, rfl, co, _, _, _, rfl, rfl, SqT.of (S9b _ _ hco9), rfl, _, rfl, co, _, _, _, rfl, rfl, SqT.of (S9b _ _ hco9), rfl, kl, _, rfl, .lst (S9b _ _ ekl9), fun kt2 Hc sc2 hkt2 => ?_⟩
      have S9c := S9b.trans sc2
      refine ⟨_, rfl, b, _, _, rfl, (S9c.grc bx9).bx, by omega, by decide, by decide, fun r He r0 r1 ge => ⟨_, _, rfl, rfl, fun p1 dx1 nx1 ndx1 nex1 => ?_⟩⟩
      have G9e := (S9c.grc bx9).trans ge
      have sJ1 : Same He (upd (upd He dx1 (.own p1)) p1 (.ins C dx1 [])) := (Same.upd ndx1).trans (Same.upd (by rw [upd_ne nex1.symm]; exact nx1))
      have nt9 := boxc_nt bx9
      have ntc := boxc_nt (S9c.grc bx9).bx
      have g9e : Mv [b] H9 He := G9e.mv
      refine ⟨p1, ta, kt2, dx1, 1 + r, 70, 2, t, kss, rfl, upd_same, .tup (sJ1 _ _ (g9e.tup nt9 hta9)), ⟨as7, Same.sqt sJ1 (ge.mv.sqt ntc hkt2), la7, fun i a ks e1 e2 => Same.sqt sJ1 (g9e.sqt nt9 (hk9 i a ks e1 e2))⟩, by omega, fun ta1 h1 d1 l1 Hf hh1 hd1 hl1 mv1 dr1 => ⟨rfl, ?_⟩⟩
      have sK1 : Same He Hf := fun c o e => mv1 c o (nin1 (ne_of_none e nx1)) (sJ1 c o e)
      obtain ⟨dy1, ey1⟩ := dr1.ob
      have zf := (zb.up (fun x h => GrC.dom ge x (Same.dom sc2 x h))).door nx1 (Same.dom sJ1) (some_ne upd_same) hh1 hd1 hl1 (Mv.dom1 mv1 (some_ne ey1)) dr1
      refine ⟨by show 2 ≤ sizeLine; decide, fun dl hdl => ?_⟩
      have ud := Same.upd (o := .lst [.ref p0, .ref p1]) hdl
      have zg := zf.add hdl (Same.dom ud) (some_ne upd_same)
      have Gg : GrC b 58 H9 (upd Hf dl (.lst [.ref p0, .ref p1])) := (G9e.same sK1).same ud
      have Gb : GrC b 58 Hb (upd Hf dl (.lst [.ref p0, .ref p1])) := ((((sc2.grc (S9b.grc bx9).bx).trans ge).same sK1).same ud)
      have hdlg : (upd Hf dl (.lst [.ref p0, .ref p1])) dl = some (.lst [.ref p0, .ref p1]) := upd_same
      have drg1 := dr1.same ud
      generalize upd Hf dl (.lst [.ref p0, .ref p1]) = Hg at zg Gg Gb hdlg drg1 ud ⊢
      obtain ⟨A, hA⟩ : ∃ A : Sl → Addr, A = mkA b el dl kl e0 e1 p0 h0 d0 l0 p1 h1 d1 l1 := ⟨_, rfl⟩
      have zA : Fz Hk Hg (slots.map A) := by rw [hA]; exact zg
      have injA := slot_inj zA.nd
      have neA : ∀ s : Sl, s ≠ .b → A s ≠ b := fun s hs e => hs (injA s .b (e.trans (by rw [hA]; rfl)))
      have sG : Same Hk Hg := fun x o e => by
        have nb : x ≠ b := ne_of_none e hb
        exact Gg.kp _ _ nb (S9 _ _ (G7.kp _ _ nb (G4.kp _ _ nb (s1 _ _ e))))
      have ntb := boxc_nt (S9b.grc bx9).bx
      have a0' := a0.mv Gg.mv nt9 (nin1 (by have := neA (.e false) (by decide); rw [hA] at this; exact this)) (nin1 (by have := neA (.cl false) (by decide); rw [hA] at this; exact this)) (nin1 (by have := neA (.ce false) (by decide); rw [hA] at this; exact this)) (nin1 (by have := neA (.bp false) (by decide); rw [hA] at this; exact this))
      have a1' := a1.mv Gg.mv nt9 (nin1 (by have := neA (.e true) (by decide); rw [hA] at this; exact this)) (nin1 (by have := neA (.cl true) (by decide); rw [hA] at this; exact this)) (nin1 (by have := neA (.ce true) (by decide); rw [hA] at this; exact this)) (nin1 (by have := neA (.bp true) (by decide); rw [hA] at this; exact this))
      have drg0 := dr0.mv Gb.mv ntb (nin1 (by have := neA (.dp false) (by decide); rw [hA] at this; exact this)) (nin1 (by have := neA (.hk false) (by decide); rw [hA] at this; exact this)) (nin1 (by have := neA (.bd false) (by decide); rw [hA] at this; exact this)) (nin1 (by have := neA (.lg false) (by decide); rw [hA] at this; exact this))
      have elg := Gg.kp _ _ (by have := neA .el (by decide); rw [hA] at this; exact this) hel9
      have ksg : KsAt K Hg kl kss := KsAt.mv Gg.mv nt9 (nin1 nkb) ⟨as7, ekl9, la7, hk9⟩
      have cog := Gg.mv.tup nt9 hco9
      have tag := Gg.mv.tup nt9 hta9
      obtain ⟨I, hI⟩ : ∃ I : Im, I = ⟨co, ta, t, kss, fun i => if i then "other" else nm0⟩ := ⟨_, rfl⟩
      obtain ⟨S0, hS0⟩ : ∃ S0 : St4, S0 = ⟨fun i => if i then e1.B else e0.B, fun _ => [], fun _ => false, fun j => if j then ⟨t, kss, 1 + r, 70, 2, 0, []⟩ else ⟨t, kss, 3, 40, 4, 0, []⟩, 0, 58⟩ := ⟨_, rfl⟩
      have W0 : Wx K CB C Hk A I Hg S0 := by
        subst hI hS0
        refine ⟨sG, fun s => zA.fr _ (List.mem_map.mpr ⟨s, mem_slots s, rfl⟩), injA, ?_, ?_, ?_, ?_, ?_, ?_, ?_, ?_, ?_, tag⟩
        · rw [hA]; exact Gg.bx
        · intro i; rw [hA]; cases i
          · exact ⟨_, _, a0'.bt⟩
          · exact ⟨_, _, a1'.bt⟩
        · intro i; rw [hA]; cases i
          · exact a0'.en
          · exact a1'.en
        · intro i; rw [hA]; cases i
          · exact a0'.cl
          · exact a1'.cl
        · intro i; rw [hA]; cases i
          · exact ⟨_, drg0⟩
          · exact ⟨_, drg1⟩
        · rw [hA]; exact elg
        · rw [hA]; exact hdlg
        · rw [hA]; exact ksg
        · rw [hA]; exact cog
      have ea : b = A .b ∧ el = A .el ∧ dl = A .dl ∧ co = I.co := by rw [hA, hI]; exact ⟨rfl, rfl, rfl, rfl⟩
      have nmI : ∀ i, I.nm i = if i then ("other" : Str) else nm0 := by rw [hI]; exact fun _ => rfl
      have tI : I.t = t := by rw [hI]
      have kI : I.kss = kss := by rw [hI]
      have bb : ∀ i, (S0.B i).cnt = 0 ∧ (S0.B i).age = 0 ∧ (S0.B i).nm = I.nm i ∧ (S0.B i).t = I.t ∧ (S0.B i).ks = keyI I 0 ∧ BtOk (S0.B i) := fun i => by
        rw [hS0, hI]
        have ek0 : keyI ⟨co, ta, t, kss, fun i => if i then "other" else nm0⟩ 0 = ks0 := by unfold keyI; rw [ekss]; rfl
        cases i
        · show e0.B.cnt = 0 ∧ e0.B.age = 0 ∧ e0.B.nm = nm0 ∧ e0.B.t = t ∧ e0.B.ks = _ ∧ BtOk e0.B
          rw [B0]; exact ⟨rfl, rfl, rfl, rfl, ek0.symm, BtOk.new hq0.1⟩
        · show e1.B.cnt = 0 ∧ e1.B.age = 0 ∧ e1.B.nm = "other" ∧ e1.B.t = t ∧ e1.B.ks = _ ∧ BtOk e1.B
          rw [B1]; exact ⟨rfl, rfl, rfl, rfl, ek0.symm, BtOk.new hq1.1⟩
      have dd0 : ∀ j, (S0.D j).t = t ∧ (S0.D j).kss = kss ∧ (S0.D j).kn = [] ∧ (S0.D j).least = 0 ∧ 2 ≤ (S0.D j).most := fun j => by
        rw [hS0]
        cases j
        · exact ⟨rfl, rfl, rfl, rfl, (by decide : (2 : Int) ≤ 4)⟩
        · exact ⟨rfl, rfl, rfl, rfl, (by decide : (2 : Int) ≤ 2)⟩
      have P0 : Wp I S0 := ⟨(fun i => by rw [nmI]; cases i; exact hn0; exact nm_other), by rw [tI]; exact tp, by rw [kI]; exact lk, fun i => (bb i).2.2.2.2.2, fun i => (bb i).2.2.1, fun i => (bb i).2.2.2.1, fun i => by rw [(bb i).2.1]; exact (bb i).2.2.2.2.1, fun i => by rw [(bb i).2.1]; exact ⟨by decide, by decide⟩, fun j => (dd0 j).1.trans tI.symm, fun j => (dd0 j).2.1.trans kI.symm,
        fun j => ⟨by rw [(dd0 j).1]; exact tp, by rw [(dd0 j).2.2.2.1]; decide, by rw [(dd0 j).2.1, lk]; decide, by rw [(dd0 j).2.2.1]; decide, by rw [(dd0 j).2.2.1]; exact List.nodup_nil⟩, fun j e he => by rw [(dd0 j).2.2.1] at he; cases he⟩
      have T0 : Wt7 I S0 0 := ⟨(fun k h => by cases h), (fun k _ => ⟨by rw [hS0], (bb k).1⟩), (fun k _ j => by rw [(dd0 j).2.2.1]; rfl), fun k => (bb k).2.1, (fun k => by rw [hS0]), (fun j => by rw [(dd0 j).2.2.1]; exact Nat.le_refl _), fun j => (dd0 j).2.2.2.2, fun j => (dd0 j).2.2.2.1, by rw [hS0]; exact Nat.le_refl _⟩
      have nneq : I.nm false ≠ I.nm true := by rw [nmI, nmI]; exact hno
      have nb0 : S0.nb = 58 := by rw [hS0]
      obtain ⟨rfl, rfl, rfl, rfl⟩ := ea
      clear a0 a1 a0' a1' drg0 drg1 dr0 dr1 zg zf zb z9 z8 hes8 hB8 hS0 bb dd0 hk9 hk7
      refine ⟨_, rfl, A .el, rfl, ⟨_, SqL.of W0.el⟩, for_list (K := K) (a := A .el) (xs := [.ref (A (.e false)), .ref (A (.e true))]) (fun i σ Hx => ∃ (S : St4) (o8 o9 oa ob oc od oe of : Option V), Wx K CB C Hk A I Hx S ∧ Wp I S ∧ Wt7 I S i ∧ S.nb = 58 ∧ σ = [some (.ref sc), some (.int (0 + (k : Int))), some (.ref (A .b)), some (.ref I.co), some (.ref nl), some (.ref st), some (.ref (A .el)), some (.ref (A .dl)), o8, o9, oa, ob, oc, od, oe, of]) ⟨S0, _, _, _, _, _, _, _, _, W0, P0, T0, nb0, rfl⟩ (fun i σ Hx _ ⟨_, _, _, _, _, _, _, _, _, W, _⟩ => SqL.of W.el) ?_ ?_⟩
      · rintro i x σ Hx hx ⟨S, o8, o9, oa, ob, oc, od, oe, of, W, wp, wt, nbS, rfl⟩
        obtain ⟨kk, hkk, rfl⟩ : ∃ kk : Bool, ixB kk = i ∧ x = .ref (A (.e kk)) := by
          match i, hx with
          | 0, hx => cases hx; exact ⟨false, rfl, rfl⟩
          | 1, hx => cases hx; exact ⟨true, rfl, rfl⟩
          | i + 2, hx => cases hx
        have hi2 : i < 2 := by rw [← hkk]; cases kk <;> decide
        obtain ⟨tab, kab, bt⟩ := W.bt kk
        obtain ⟨cs0, cnt0⟩ := wt.un kk (by omega)
        have hnm : isNm (S.B kk).nm := by rw [wp.bn kk]; exact wp.nm kk
        have htl : (S.B kk).t.length = 16 := by rw [wp.bt kk]; exact tab_len wp.tp
        have dz : dig (0 : Int) := ⟨by decide, by decide⟩
        refine ⟨_, rfl, A (.e kk), _, _, _, rfl, rfl, SqL.of (W.en kk), rfl, A (.bp kk), rfl, bt.no, A (.bp kk), tab, kab, A (.ce kk), S.B kk, 0, rfl, bt, hnm, htl, by omega, by omega, dz, fun pr1 pc1 Ha ma ba hpr1 hpc1 => ?_⟩
        have W1 := W.button kk ma ba
        refine ⟨_, rfl, A (.e kk), _, _, _, rfl, rfl, SqL.of (W1.en kk), rfl, A (.bp kk), rfl, ba.no, A (.bp kk), tab, kab, A (.ce kk), (S.B kk).pr, 0, rfl, ba, by rw [pr_nm]; exact hnm, by rw [pr_t]; exact htl, by rw [pr_cnt]; omega, by rw [pr_cnt]; omega, dz, fun pr2 pc2 Hb mb bb hpr2 hpc2 => ⟨_, _, rfl, ?_⟩⟩
        have W2 := W1.button kk mb bb
        have nt1 := W1.nt [.bp kk, .ce kk]
        have P1b : PrAt Hb pr1 (S.B kk).nm (S.B kk).age (codeI (S.B kk).t (S.B kk).ks (S.B kk).nm (S.B kk).cnt 0) := PrAt.mv mb nt1 ⟨pc1, hpr1, hpc1⟩
        rw [pr_nm, pr_age] at hpr2
        rw [pr_t, pr_ks, pr_nm, pr_cnt] at hpc2
        have P2b : PrAt Hb pr2 (S.B kk).nm (S.B kk).age (codeI (S.B kk).t (S.B kk).ks (S.B kk).nm ((S.B kk).cnt + 1) 0) := ⟨pc2, hpr2, hpc2⟩
        have hag := wt.ag kk
        have ekb : (S.B kk).ks = keyI I 0 := by rw [← hag]; exact wp.bk kk
        rw [wp.bt kk, ekb, hag, cnt0] at P1b P2b
        have P2b : PrAt Hb pr2 (S.B kk).nm 0 (codeI I.t (keyI I 0) (S.B kk).nm 1 0) := P2b
        obtain ⟨S2, hS2⟩ : ∃ S2 : St4, S2 = (S.setB kk (S.B kk).pr).setB kk (S.B kk).pr.pr := ⟨_, rfl⟩
        rw [← hS2] at W2
        have c2 : S2.cs kk = [] := by rw [hS2]; exact cs0
        have hcl2 : Hb (A (.cl kk)) = some (.lst []) := by have := W2.cl kk; rw [c2] at this; exact this
        refine ⟨_, rfl, A (.e kk), _, _, _, rfl, rfl, SqL.of (W2.en kk), rfl, .inl ⟨rfl, _, SqL.of hcl2⟩, by show 2 ≤ sizeLine; decide, fun l hl => ?_⟩
        have ul := Same.upd (o := .lst [.int 0, .int 1]) hl
        refine ⟨A (.cl kk), l, _, _, rfl, rfl, ul _ _ hcl2, upd_same, by show 0 + 2 ≤ sizeLine; decide, ?_⟩
        have W3 := (W2.same ul).counts kk [0, 1]
        have m3 : Mv ([Sl.cl kk].map A) (upd Hb l (.lst [.int 0, .int 1])) (upd (upd Hb l (.lst [.int 0, .int 1])) (A (.cl kk)) (.lst (([0, 1] : List Int).map V.int))) := Mv.upd1
        have nt3 := (W2.same ul).nt [.cl kk]
        have P1c := PrAt.mv m3 nt3 (PrAt.same ul P1b)
        have P2c := PrAt.mv m3 nt3 (PrAt.same ul P2b)
        show tSeq _ _ _ _ (upd (upd Hb l (.lst [.int 0, .int 1])) (A (.cl kk)) (.lst (([0, 1] : List Int).map V.int)))
        generalize upd (upd Hb l (.lst [.int 0, .int 1])) (A (.cl kk)) (.lst (([0, 1] : List Int).map V.int)) = Hc at W3 P1c P2c m3 ⊢
        obtain ⟨S3, hS3⟩ : ∃ S3 : St4, S3 = S2.setC kk [0, 1] := ⟨_, rfl⟩
        rw [← hS3] at W3
        have D3 : ∀ j, S3.D j = S.D j := fun j => by rw [hS3, hS2]; rfl
        have okp : BtOk (S.B kk).pr.pr := ((wp.b kk).pr (by omega)).pr (by rw [pr_cnt]; omega)
        have wp3 : Wp I S3 := by
          rw [hS3, hS2]
          refine ((wp.setB kk ((wp.b kk).pr (by omega)) (by rw [pr_nm]; exact wp.bn kk) (by rw [pr_t]; exact wp.bt kk) (by rw [pr_ks, pr_age]; exact wp.bk kk) (by rw [pr_age]; exact wp.ba kk)).setB kk okp (by rw [pr_nm, pr_nm]; exact wp.bn kk) (by rw [pr_t, pr_t]; exact wp.bt kk) (by rw [pr_ks, pr_ks, pr_age, pr_age]; exact wp.bk kk) (by rw [pr_age, pr_age]; exact wp.ba kk)).setC kk _
        have B3k : S3.B kk = (S.B kk).pr.pr := by rw [hS3, hS2]; exact if_pos rfl
        have B3n : ∀ m, m ≠ kk → S3.B m = S.B m := fun m hm => by
          rw [hS3, hS2]
          show (if m = kk then _ else if m = kk then _ else S.B m) = _
          rw [if_neg hm, if_neg hm]
        have C3k : S3.cs kk = [0, 1] := by rw [hS3]; exact if_pos rfl
        have C3n : ∀ m, m ≠ kk → S3.cs m = S.cs m := fun m hm => by
          rw [hS3, hS2]
          exact if_neg hm
        have L3n : ∀ m, S3.ls m = S.ls m := fun m => by rw [hS3, hS2]; rfl
        have n3 : S3.n = S.n := by rw [hS3, hS2]; rfl
        have nb3 : S3.nb = 58 := by rw [hS3, hS2]; exact nbS
        have hno : ∀ j, (S.D j).kn.lookup (S.B kk).nm = none := fun j => by rw [wp.bn kk]; exact wt.no kk (by omega) j
        have hn4 := wt.n
        obtain ⟨nm, hnmE⟩ : ∃ nm : Str, nm = (S.B kk).nm := ⟨_, rfl⟩
        rw [← hnmE] at P1c P2c hno hnm
        refine ⟨_, rfl, A .dl, rfl, ⟨_, SqL.of W3.dl⟩, for_list (K := K) (a := A .dl) (xs := [.ref (A (.dp false)), .ref (A (.dp true))]) (fun j σ Hy => ∃ (S' : St4) (ob : Option V), Wx K CB C Hk A I Hy S' ∧ Wp I S' ∧ S'.B = S3.B ∧ S'.cs = S3.cs ∧ S'.ls = S3.ls ∧ S'.nb = 58 ∧ S'.n ≤ S.n + j ∧ PrAt Hy pr1 nm 0 (codeI I.t (keyI I 0) nm 0 0) ∧ PrAt Hy pr2 nm 0 (codeI I.t (keyI I 0) nm 1 0) ∧ (∀ m, (S'.D m).most = (S.D m).most ∧ (S'.D m).least = (S.D m).least) ∧ (∀ m, ixB m < j → (S'.D m).kn = putN (S.D m).kn nm ⟨0, 1, none⟩) ∧ (∀ m, j ≤ ixB m → (S'.D m).kn = (S.D m).kn) ∧ σ = [some (.ref sc), some (.int (0 + (k : Int))), some (.ref (A .b)), some (.ref I.co), some (.ref nl), some (.ref st), some (.ref (A .el)), some (.ref (A .dl)), some (.ref (A (.e kk))), some (.ref pr1), some (.ref pr2), ob, oc, od, oe, of]) ⟨S3, _, W3, wp3, rfl, rfl, rfl, nb3, by omega, P1c, P2c, (fun m => by rw [D3 m]; exact ⟨rfl, rfl⟩), (fun m h => by cases h), (fun m _ => by rw [D3 m]), rfl⟩ (fun j σ Hy _ ⟨_, _, W, _⟩ => SqL.of W.dl) ?_ ?_⟩
        · rintro j y σ Hy hy ⟨S', ob', W', wp', eB, eC, eL, eN, hn', P1, P2, hmo, hdn, hun, rfl⟩
          obtain ⟨jj, hjj, rfl⟩ : ∃ jj : Bool, ixB jj = j ∧ y = .ref (A (.dp jj)) := by
            match j, hy with
            | 0, hy => cases hy; exact ⟨false, rfl, rfl⟩
            | 1, hy => cases hy; exact ⟨true, rfl, rfl⟩
            | j + 2, hy => cases hy
          have hj2 : j < 2 := by rw [← hjj]; cases jj <;> decide
          obtain ⟨tad, dr⟩ := W'.dr jj
          have ekn := hun jj (by omega)
          have hkl := wt.kl jj
          have rd : ∀ c : Int, 0 ≤ c → c < 4096 → readK (S'.D jj).t (keyA (S'.D jj) 0) nm (codeI I.t (keyI I 0) nm c 0) = some (c, 0) := fun c h0 h1 => by
            rw [wp'.dt jj, keyI_A (wp'.dk jj)]
            exact read_code wp.tp h0 h1 dz
          have h4 : (S'.D jj).kss.length = 4 := by rw [wp'.dk jj, wp.k4]
          have tk0 : takesJ (S'.D jj) 0 = true := by
            unfold takesJ
            rw [(hmo jj).2, wt.le jj, h4]; rfl
          refine ⟨_, rfl, A (.dp jj), rfl, dr.no, _, rfl, _, rfl, A (.dp jj), tad, A (.hk jj), A (.bd jj), A (.lg jj), pr1, pr2, S'.n, S'.D jj, nm, 0, 0, 0, 0, _, _, rfl, dr, by omega, wp'.do_ jj, P1, P2, hnm, codeI_len .., code_dig wp.tp (by decide) (by decide) dz, codeI_len .., code_dig wp.tp (by decide) (by decide) dz, tk0, rd 0 (by decide) (by decide), rd 1 (by decide) (by decide), by rw [ekn]; exact hno jj, by rw [ekn, (hmo jj).1]; have := wt.mo jj; omega, fun Hz mz dz' => ?_⟩
          have ntz := W'.nt [.bd jj, .lg jj]
          have okj := wp'.do_ jj
          have hlen := putN_len (S'.D jj).kn nm ⟨0, 0 + 1, none⟩
          have ln1 : (S'.D jj).kn.length ≤ i := by rw [ekn]; exact hkl
          have wq := wp'.setD jj (D := { S'.D jj with kn := putN (S'.D jj).kn nm ⟨0, 0 + 1, none⟩ }) (wp'.dt jj) (wp'.dk jj) ⟨okj.tp, okj.l0, okj.kl, by show (putN _ _ _).length ≤ 60; omega, putN_nd okj.nd _ _⟩ (fun e he => by
            rcases putN_mem he with he | he
            · let z := wp'.kb jj e he; exact ⟨z.a0, z.a1, z.l0, z.l1, z.w⟩
            · rw [he]; exact ⟨by show (0 : Int) ≤ 0; decide, by show (0 : Int) < ((S'.D jj).kss.length : Int); rw [h4]; decide, by show (0 : Int) ≤ 0 + 1; decide, by show (0 : Int) + 1 < 4096; decide, fun x y z => by (cases z)⟩)
          refine ⟨_, _, W'.door jj mz dz', wq, eB, eC, eL, eN, by show S'.n + 1 ≤ _; omega, PrAt.mv mz ntz P1, PrAt.mv mz ntz P2, (fun m => ?_), (fun m hm => ?_), (fun m hm => ?_), rfl⟩
          · show (if m = jj then _ else S'.D m : Dr).most = _ ∧ (if m = jj then _ else S'.D m : Dr).least = _
            split
            · rename_i e; rw [e]; exact hmo jj
            · exact hmo m
          · show (if m = jj then _ else S'.D m : Dr).kn = _
            split
            · rename_i e; rw [e]; show putN (S'.D jj).kn nm _ = _; rw [ekn]; rfl
            · rename_i e
              refine hdn m ?_
              have : ixB m ≠ ixB jj := fun z => e (by cases m <;> cases jj <;> first | rfl | cases z)
              omega
          · show (if m = jj then _ else S'.D m : Dr).kn = _
            split
            · rename_i e; rw [e] at hm; omega
            · exact hun m (by omega)
        · rintro σ Hy ⟨S', ob', W', wp', eB, eC, eL, eN, hn', P1, P2, hmo, hdn, hun, rfl⟩
          have hn' : S'.n ≤ S.n + 2 := hn'
          have hkn : ∀ m, (S'.D m).kn = putN (S.D m).kn nm ⟨0, 1, none⟩ := fun m => hdn m (show ixB m < 2 by cases m <;> decide)
          refine ⟨S', _, _, _, _, _, _, _, _, W', wp', ⟨fun m hm => ?_, fun m hm => ?_, fun m hm j => ?_, fun m => ?_, fun m => by rw [eL, L3n]; exact wt.ls m, fun j => ?_, fun j => by rw [(hmo j).1]; exact wt.mo j, fun j => by rw [(hmo j).2]; exact wt.le j, by omega⟩, eN, rfl⟩
          · rw [eB, eC]
            by_cases e : m = kk
            · subst e
              exact ⟨C3k, by rw [B3k, pr_cnt, pr_cnt, cnt0]; rfl⟩
            · rw [C3n m e, B3n m e]
              refine wt.dn m ?_
              have : ixB m ≠ ixB kk := fun z => e (by cases m <;> cases kk <;> first | rfl | cases z)
              omega
          · have e : m ≠ kk := fun z => by rw [z] at hm; omega
            rw [eB, eC, C3n m e, B3n m e]
            exact wt.un m (by omega)
          · have e : m ≠ kk := fun z => by rw [z] at hm; omega
            rw [hkn j]
            have hq := wt.no m (by omega) j
            have hneq : I.nm m ≠ nm := by
              rw [hnmE, wp.bn kk]
              cases m <;> cases kk
              · exact absurd rfl e
              · exact nneq
              · exact nneq.symm
              · exact absurd rfl e
            cases hc : (putN (S.D j).kn nm ⟨0, 1, none⟩).lookup (I.nm m) with
            | none => rfl
            | some y =>
              exfalso
              rcases putN_mem (lookup_mem hc) with z | z
              · have := lookup_mem_iff.mpr (List.mem_map_of_mem (f := (·.1)) z)
                rw [hq] at this
                cases this
              · injection z with z _
                exact hneq z
          · rw [eB]
            by_cases e : m = kk
            · subst e; rw [B3k, pr_age, pr_age]; exact wt.ag m
            · rw [B3n m e]; exact wt.ag m
          · rw [hkn j]
            have := putN_len (S.D j).kn nm ⟨0, 1, none⟩
            have := wt.kl j
            omega
      rintro σ H10 ⟨S, o8, o9, oa, ob, oc, od, oe, of, W, wp, wt, nbS, rfl⟩
      have wt : Wt7 I S 2 := wt
      clear W0 P0 T0
      refine ⟨by show 0 ≤ sizeLine; decide, fun cad hcad => ?_⟩
      have uc := Same.upd (o := .lst []) hcad
      have W1 := W.same uc
      have cw1 : Cw Hk A I (upd H10 cad (.lst [])) cad [] := ⟨W.new hcad, s2n hcad W.s, upd_same, (fun r hr => by cases hr), Nat.zero_le _⟩
      generalize upd H10 cad (.lst []) = H11 at W1 cw1 uc ⊢
      have wy1 : Wy S := fun m => by
        obtain ⟨e1, e2⟩ := wt.dn m (by cases m <;> decide)
        exact ⟨1, [0], e1, by rw [e2]; decide, fun _ => by rw [e2]; rfl⟩
      have lc1 : ∀ m, (S.cs m).length ≤ 2 := fun m => by rw [(wt.dn m (by cases m <;> decide)).1]; exact Nat.le_refl _
      have hn1 := wt.n
      refine ⟨60, rfl, by decide, by decide, for_range (n := 60) (Pv := fun tn σ Hx => ∃ (S : St4) (cqs : List Cq) (o8 o9 oa ob od oe of : Option V), Wx K CB C Hk A I Hx S ∧ Wp I S ∧ Wy S ∧ Cw Hk A I Hx cad cqs ∧ S.nb ≤ 58 + 10 * tn ∧ S.n ≤ 4 + 2 * tn ∧ cqs.length ≤ tn ∧ (∀ m, (S.cs m).length ≤ 2 + tn) ∧ σ = [some (.ref sc), some (.int (0 + (k : Int))), some (.ref (A .b)), some (.ref I.co), some (.ref nl), some (.ref st), some (.ref (A .el)), some (.ref (A .dl)), o8, o9, oa, ob, some (.ref cad), od, oe, of]) ⟨S, [], _, _, _, _, _, _, _, W1, wp, wy1, cw1, by omega, by omega, Nat.le_refl _, lc1, rfl⟩ ?_ ?_⟩
      · clear W W1 wp wt wy1 cw1 nbS lc1 hn1
        rintro tn σ Hx htn ⟨S, cqs, o8, o9, oa, ob, od, oe, of, W, wp, wy, cw, hnb, hn, hlq, hlc, rfl⟩
        refine ⟨_, rfl, _, rfl, A .b, _, _, rfl, W.bx, by omega, by decide, by decide, fun r Ha r0 r1 ga => ?_⟩
        have Wa := W.grc ga
        have cwa := cw.sl W [.b] ga.mv
        obtain ⟨kk, hkk⟩ : ∃ kk : Bool, atI [V.ref (A (.e false)), .ref (A (.e true))] r = some (.ref (A (.e kk))) := by
          obtain rfl | rfl : r = 0 ∨ r = 1 := by omega
          · exact ⟨false, rfl⟩
          · exact ⟨true, rfl⟩
        refine ⟨A .el, _, _, _, rfl, rfl, SqL.of Wa.el, hkk, ?_⟩
        refine ⟨_, rfl, A .b, _, _, rfl, Wa.bx, by show S.nb + 1 < _; omega, by decide, by decide, fun way Hb w0 w1 gb => ?_⟩
        have Wb := Wa.grc gb
        have cwb := cwa.sl Wa [.b] gb.mv
        obtain ⟨Sb, hSb⟩ : ∃ Sb : St4, Sb = { { S with nb := S.nb + 1 } with nb := { S with nb := S.nb + 1 }.nb + 1 } := ⟨_, rfl⟩
        rw [← hSb] at Wb
        have wpb : Wp I Sb := by rw [hSb]; exact (wp.nb _).nb _
        have wyb : Wy Sb := by rw [hSb]; exact wy
        have nbb : Sb.nb ≤ 58 + 10 * tn + 2 := by rw [hSb]; show S.nb + 1 + 1 ≤ _; omega
        have nb2 : Sb.n ≤ 4 + 2 * tn := by rw [hSb]; exact hn
        have lcb : ∀ m, (Sb.cs m).length ≤ 2 + tn := by rw [hSb]; exact hlc
        clear W Wa wp wy hSb cw cwa
        refine gName_of ?_
        refine if_key (fun σ' H' => ∃ (S : St4) (cqs : List Cq), Wx K CB C Hk A I H' S ∧ Wp I S ∧ Wy S ∧ Cw Hk A I H' cad cqs ∧ S.nb ≤ 58 + 10 * tn + 4 ∧ S.n ≤ 4 + 2 * (tn + 1) ∧ cqs.length ≤ tn + 1 ∧ (∀ m, (S.cs m).length ≤ 2 + (tn + 1)) ∧ σ' = [some (.ref sc), some (.int (0 + (k : Int))), some (.ref (A .b)), some (.ref I.co), some (.ref nl), some (.ref st), some (.ref (A .el)), some (.ref (A .dl)), some (.ref (A (.e kk))), o9, oa, ob, some (.ref cad), some (.int (0 + (tn : Int))), some (.int way), of]) (fun DD hD => ?_) ?_
        · obtain ⟨tab, kab, bt⟩ := Wb.bt kk
          have bok := wpb.b kk
          obtain ⟨L, rr, ecs, hL, hlo⟩ := wyb kk
          have ba := wpb.ba kk
          by_cases hc : way = 0 ∧ (Sb.B kk).age < 3
          · obtain ⟨hw, hag⟩ := hc
            refine ⟨_, rfl, rfl, _, rfl, iteD (decide_eq_true (by rw [hw])) ?_⟩
            refine ⟨_, rfl, A (.e kk), _, _, _, rfl, rfl, SqL.of (Wb.en kk), rfl, A (.bp kk), rfl, bt.no, A (.bp kk), tab, kab, A (.ce kk), _, rfl, bt, _, _, rfl, rfl, _, rfl, iteD (decide_eq_true hag) ?_⟩
            obtain ⟨xs, ak, eh, hat, hak⟩ := KsAt.at (D := { Sb.D false with kss := I.kss }) (age := (Sb.B kk).age + 1) Wb.ks (by omega) (by show (Sb.B kk).age + 1 < (I.kss.length : Int); rw [wpb.k4]; omega)
            refine ⟨_, rfl, A (.e kk), _, _, _, rfl, rfl, SqL.of (Wb.en kk), rfl, A (.bp kk), rfl, bt.no, _, rfl, I.co, _, _, _, rfl, rfl, SqT.of Wb.co, rfl, _, rfl, A (.e kk), _, _, _, rfl, rfl, SqL.of (Wb.en kk), rfl, A (.bp kk), rfl, bt.no, A (.bp kk), tab, kab, A (.ce kk), _, rfl, bt, _, _, rfl, rfl, A .kl, _, _, _, rfl, rfl, SqL.of eh, hat, A (.bp kk), tab, kab, A (.ce kk), ak, _, _, rfl, bt, .inr hak, by omega, fun ka' Hc mc bc => ?_⟩
            have mc' : Mv [A (.bp kk), A (.ce kk)] Hb Hc := mc.mono (fun c h z => h (by rw [List.mem_singleton.mp z]; exact List.mem_cons_self ..))
            refine hD _ _ ⟨_, cqs, Wb.button kk mc' bc, wpb.setB kk ⟨bok.c0, bok.cb, bok.bm, bok.s1, bok.eq, bok.hx, bok.hy⟩ (wpb.bn kk) (wpb.bt kk) rfl ⟨by show 0 ≤ (Sb.B kk).age + 1; omega, by show (Sb.B kk).age + 1 < 4; omega⟩, fun m => ?_, cwb.sl Wb [.bp kk, .ce kk] mc', by show Sb.nb ≤ _; omega, by show Sb.n ≤ _; omega, by omega, fun m => by have := lcb m; show (Sb.cs m).length ≤ _; omega, rfl⟩
            by_cases e : m = kk
            · subst e
              refine ⟨L, rr, ecs, ?_, fun z => ?_⟩
              · show L < (if m = m then _ else _ : Bt).cnt
                rw [if_pos rfl]; exact hL
              · show (if m = m then _ else _ : Bt).cnt = _
                rw [if_pos rfl]; exact hlo z
            · obtain ⟨L', r', f1, f2, f3⟩ := wyb m
              refine ⟨L', r', f1, ?_, fun z => ?_⟩
              · show L' < (if m = kk then _ else Sb.B m : Bt).cnt
                rw [if_neg e]; exact f2
              · show (if m = kk then _ else Sb.B m : Bt).cnt = _
                rw [if_neg e]; exact f3 z
          by_cases h0 : way = 0
          all_goals first
            | refine ⟨_, rfl, rfl, _, rfl, iteD (decide_eq_true (by rw [h0])) ⟨_, rfl, A (.e kk), _, _, _, rfl, rfl, SqL.of (Wb.en kk), rfl, A (.bp kk), rfl, bt.no, A (.bp kk), tab, kab, A (.ce kk), _, rfl, bt, _, _, rfl, rfl, _, rfl, iteE (decide_eq_false (fun z => hc ⟨h0, z⟩)) ?_⟩⟩
            | refine ⟨_, rfl, rfl, _, rfl, iteE (decide_eq_false (by intro z; injection z with z; exact h0 z)) (iteF ?_)⟩
          all_goals
            refine ⟨_, rfl, by show 2 ≤ sizeLine; decide, fun t ht => ?_⟩
            have ut := Same.upd (o := .tup [.int 1, .int 2]) ht
            have Wc := Wb.same ut
            have cwc := cwb.same ut
            refine ⟨t, _, rfl, .inr (SqT.of upd_same), rfl, rfl, _, rfl, ?_⟩
            generalize upd Hb t (.tup [.int 1, .int 2]) = Hc at ut Wc cwc ⊢
            obtain ⟨tac, kac, bc⟩ := Wc.bt kk
            by_cases hin : inV (.int way) [.int 1, .int 2] = true ∧ (Sb.B kk).cnt < 3900
            · obtain ⟨hi1, hi2⟩ := hin
              refine iteD hi1 ?_
              refine ⟨_, rfl, A (.e kk), _, _, _, rfl, rfl, SqL.of (Wc.en kk), rfl, A (.bp kk), rfl, bc.no, A (.bp kk), tac, kac, A (.ce kk), _, rfl, bc, _, _, rfl, rfl, _, rfl, iteD (decide_eq_true hi2) ?_⟩
              refine if_key (fun σ' H' => ∃ (B' : Bt) (ta' ka' : Addr), Mv [A (.bp kk), A (.ce kk)] Hc H' ∧ BtnAt K CB H' (A (.bp kk)) ta' ka' (A (.ce kk)) B' ∧ BtOk B' ∧ B'.nm = (Sb.B kk).nm ∧ B'.t = (Sb.B kk).t ∧ B'.ks = (Sb.B kk).ks ∧ B'.age = (Sb.B kk).age ∧ B'.cnt = (Sb.B kk).bnd ∧ σ' = [some (.ref sc), some (.int (0 + (k : Int))), some (.ref (A .b)), some (.ref I.co), some (.ref nl), some (.ref st), some (.ref (A .el)), some (.ref (A .dl)), some (.ref (A (.e kk))), o9, oa, ob, some (.ref cad), some (.int (0 + (tn : Int))), some (.int way), of]) (fun D2 hD2 => ?_) ?_
              · refine ⟨_, rfl, rfl, _, rfl, ite2 (fun _ => ?_) (fun _ => ?_)⟩
                · exact ⟨_, rfl, A (.e kk), _, _, _, rfl, rfl, SqL.of (Wc.en kk), rfl, A (.bp kk), rfl, bc.no, A (.bp kk), tac, kac, A (.ce kk), _, rfl, bc, bok, fun He me be => hD2 _ _ ⟨_, tac, kac, me, be, bok.ou, rfl, rfl, rfl, rfl, rfl, rfl⟩⟩
                · exact ⟨_, rfl, A (.e kk), _, _, _, rfl, rfl, SqL.of (Wc.en kk), rfl, A (.bp kk), rfl, bc.no, A (.bp kk), tac, kac, A (.ce kk), _, rfl, bc, bok, fun He me be => hD2 _ _ ⟨_, tac, kac, me, be, bok.tn, tn_nm _, tn_t _, tn_ks _, tn_age _, tn_cnt _, rfl⟩⟩
              rintro σ' He ⟨B', ta', ka', me, be, okB, e1, e2, e3, e4, e5, rfl⟩
              have We := Wc.button kk me be
              have cwe := cwc.sl Wc [.bp kk, .ce kk] me
              refine ⟨_, rfl, A (.e kk), _, _, 2, rfl, rfl, We.en kk, rfl, ?_⟩
              have m8 : Mv ([Sl.e kk].map A) He (upd He (A (.e kk)) (.lst [.ref (A (.bp kk)), .ref (A (.cl kk)), .bl true])) := Mv.upd1
              refine hD _ (upd He (A (.e kk)) (.lst [.ref (A (.bp kk)), .ref (A (.cl kk)), .bl true])) ⟨_, cqs, We.lost kk true, (wpb.setB kk okB (e1.trans (wpb.bn kk)) (e2.trans (wpb.bt kk)) (by rw [e3, e4]; exact wpb.bk kk) (by rw [e4]; exact ba)).setL kk true, fun m => ?_, cwe.sl We [.e kk] m8, by show Sb.nb ≤ _; omega, by show Sb.n ≤ _; omega, by omega, fun m => by have := lcb m; show (Sb.cs m).length ≤ _; omega, rfl⟩
              by_cases e : m = kk
              · subst e
                refine ⟨L, rr, ecs, ?_, fun z => ?_⟩
                · show L < (if m = m then B' else _ : Bt).cnt
                  rw [if_pos rfl, e5]; have := bok.cb; omega
                · have z : (if m = m then true else _ : Bool) = false := z
                  rw [if_pos rfl] at z; cases z
              · obtain ⟨L', r', f1, f2, f3⟩ := wyb m
                refine ⟨L', r', f1, ?_, fun z => ?_⟩
                · show L' < (if m = kk then _ else Sb.B m : Bt).cnt
                  rw [if_neg e]; exact f2
                · show (if m = kk then _ else Sb.B m : Bt).cnt = _
                  rw [if_neg e]
                  refine f3 ?_
                  have z : (if m = kk then true else Sb.ls m : Bool) = false := z
                  rw [if_neg e] at z; exact z
            by_cases hi1 : inV (.int way) [.int 1, .int 2] = true
            all_goals first
              | refine iteD hi1 ⟨_, rfl, A (.e kk), _, _, _, rfl, rfl, SqL.of (Wc.en kk), rfl, A (.bp kk), rfl, bc.no, A (.bp kk), tac, kac, A (.ce kk), _, rfl, bc, _, _, rfl, rfl, _, rfl, iteE (decide_eq_false (fun z => hin ⟨hi1, z⟩)) ?_⟩
              | refine iteE (Bool.eq_false_iff.mpr hi1) (iteF ?_)
            all_goals
              refine ⟨_, rfl, A (.e kk), _, _, _, rfl, rfl, SqL.of (Wc.en kk), rfl, A (.bp kk), rfl, bc.no, A (.bp kk), tac, kac, A (.ce kk), _, rfl, bc, _, _, rfl, rfl, _, rfl, ?_⟩
              by_cases h4 : (Sb.B kk).cnt < 4000
              · refine iteD (decide_eq_true h4) ?_
                refine ⟨_, rfl, _, rfl, _, rfl, _, rfl, _, rfl, Hk, A, I, Sb, cad, cqs, kk, rfl, Wc, wpb, wyb, cwc, h4, by omega, by omega, by omega, (fun m => by have := lcb m; omega), fun H' S' cqs' W' wp' wy' cw' f1 f2 f3 f4 => ?_⟩
                refine ⟨_, rfl, iteF ?_⟩
                exact hD _ _ ⟨S', cqs', W', wp', wy', cw', by omega, by omega, by omega, (fun m => by have := f4 m; have := lcb m; omega), rfl⟩
              · refine iteE (decide_eq_false h4) (iteF ?_)
                exact hD _ _ ⟨Sb, cqs, Wc, wpb, wyb, cwc, by omega, by omega, by omega, (fun m => by have := lcb m; omega), rfl⟩
        · rintro σ' Hc ⟨S', cqs', W', wp', wy', cw', n1', n2', n3', n4', rfl⟩
          obtain ⟨tac, kac, bc⟩ := W'.bt kk
          have bok := wp'.b kk
          refine ⟨_, rfl, A (.e kk), _, _, _, rfl, rfl, SqL.of (W'.en kk), rfl, A (.bp kk), rfl, bc.no, A (.bp kk), tac, kac, A (.ce kk), _, rfl, bc, fun q1 Hd sd hq1 => ?_⟩
          refine ⟨q1, rfl, ⟨_, SqT.of hq1⟩, compF_tup (K := K) (xs := [oV (S'.B kk).x, oV (S'.B kk).y]) (by show 2 ≤ sizeLine; decide) (fun i ys H2 => H2 = Hd ∧ ys = ([oV (S'.B kk).x, oV (S'.B kk).y].take i).filter notN) ⟨rfl, rfl⟩ (fun i ys H2 ⟨e, _⟩ => by subst e; exact SqT.of hq1) ?_ ?_⟩
          · rintro i ys H2 v hv ⟨rfl, rfl⟩
            refine ⟨_, rfl, rfl, _, rfl, ?_⟩
            rw [filt_step hv]
            by_cases e : notN v = true
            · exact iteD e ⟨_, rfl, rfl, by rw [if_pos e]⟩
            · exact iteE (Bool.eq_false_iff.mpr e) ⟨rfl, by rw [if_neg e]⟩
          rintro ys H2 ⟨rfl, rfl⟩ pm hpm
          obtain ⟨k1, k2, k3⟩ := bok.ok
          have up := Same.upd (o := .lst ([oV (S'.B kk).x, oV (S'.B kk).y].filter notN)) hpm
          have Wd := (W'.same sd).same up
          have hpm' : (upd H2 pm (.lst ([oV (S'.B kk).x, oV (S'.B kk).y].filter notN))) pm = some (.lst ((okC (S'.B kk).x (S'.B kk).y).map V.int)) := by rw [upd_same, notN_cells]
          have cwd := (cw'.same sd).same up
          show tSeq _ _ _ _ (upd H2 pm (.lst ([oV (S'.B kk).x, oV (S'.B kk).y].filter notN)))
          generalize upd H2 pm (.lst ([oV (S'.B kk).x, oV (S'.B kk).y].filter notN)) = Hz at up Wd hpm' cwd ⊢
          obtain ⟨taz, kaz, bz⟩ := Wd.bt kk
          refine ⟨_, rfl, A (.e kk), _, _, _, rfl, rfl, SqL.of (Wd.en kk), rfl, A (.bp kk), rfl, bz.no, A (.bp kk), taz, kaz, A (.ce kk), _, rfl, bz, _, rfl, pm, _, rfl, hpm', k2, fun M hM1 hM2 => ?_⟩
          have hM : (S'.B kk).bnd ≤ M := hM2 _ k1
          have hcb := bok.cb
          refine ⟨_, _, rfl, rfl, _, rfl, iteE (decide_eq_false (by omega)) ?_⟩
          exact ⟨S', cqs', _, _, _, _, _, _, _, Wd, wp', wy', cwd, by omega, n2', n3', n4', rfl⟩
      · rintro σ Hf ⟨S, cqs, o8, o9, oa, ob, od, oe, of, W, wp, wy, cw, hnb, hn, hlq, hlc, rfl⟩
        refine ⟨_, rfl, A .dl, rfl, ⟨_, SqL.of W.dl⟩, comp_list (K := K) (xs := [.ref (A (.dp false)), .ref (A (.dp true))]) (by show 2 ≤ sizeLine; decide) (fun j ys Hx => Same Hf Hx ∧ ys = (List.replicate j true).map V.bl) ⟨Same.refl _, rfl⟩ (fun j ys Hx ⟨sx, _⟩ => SqL.of (sx _ _ W.dl)) ?_ ?_⟩
        · rintro j ys Hx y hy _ ⟨sx, rfl⟩
          obtain ⟨jj, rfl⟩ : ∃ jj : Bool, y = .ref (A (.dp jj)) := by
            match j, hy with
            | 0, hy => cases hy; exact ⟨false, rfl⟩
            | 1, hy => cases hy; exact ⟨true, rfl⟩
            | j + 2, hy => cases hy
          refine ⟨_, rfl, _, rfl, Hk, A, I, S, cad, cqs, jj, rfl, W.same sx, wp, cw.same sx, by omega, fun H' s' => ⟨sx.trans s', by rw [List.replicate_succ', List.map_append]; rfl⟩⟩
        · rintro ys Hx _ ⟨sx, rfl⟩ l hl
          refine ⟨l, List.replicate _ true, rfl, SqL.of upd_same, ?_⟩
          rw [show List.all (List.replicate _ true) _ = true from by simp]
          refine ⟨_, rfl, iteF ?_⟩
          exact ⟨((sk.trans W.s).trans sx).trans (Same.upd hl), _, _, _, _, _, _, _, _, _, _, _, _, _, _, _, rfl⟩
    · rintro σ Hx ⟨sx, _⟩
      exact q _
end
theorem all_mk {l : PySem.W.OpenLaw} {w : World} {K : PySem.W.Frag} {h : Heap} {mg : Str → Option Value} {fa : Addr} (X : K.In h) (G : h.Ns mainGlobals mg) (hfa : mg "law" = some (.ref fa))
    {CB : Addr}
    (aCB : PySem.W.nsIn K mainGlobals "Button" = some (some (.ref CB)))
    (pgB : PySem.W.plainGet K CB Str.empty = true)
    (hdB : PySem.W.hasDictIn K CB = true)
    (poB : PySem.W.plainOver K CB = true)
    (saB : PySem.W.findIn K (.ref CB) "__setattr__" = some (some (.builtin "object.__setattr__")))
    (mkB : PySem.W.makesIn K CB = true)
    (kcB : PySem.W.keepIn K (.ref CB) = true)
    (n_B_name : PySem.W.findIn K (.ref CB) "name" = some none)
    (n_B_table : PySem.W.findIn K (.ref CB) "table" = some none)
    (n_B_key : PySem.W.findIn K (.ref CB) "key" = some none)
    (n_B_age : PySem.W.findIn K (.ref CB) "age" = some none)
    (n_B_step : PySem.W.findIn K (.ref CB) "step" = some none)
    (n_B_next_count : PySem.W.findIn K (.ref CB) "next_count" = some none)
    (n_B_bound : PySem.W.findIn K (.ref CB) "bound" = some none)
    (n_B_cells : PySem.W.findIn K (.ref CB) "cells" = some none)
    {C : Addr}
    (aCD : PySem.W.nsIn K mainGlobals "Door" = some (some (.ref C)))
    (pgD : PySem.W.plainGet K C Str.empty = true)
    (hdD : PySem.W.hasDictIn K C = true)
    (poD : PySem.W.plainOver K C = true)
    (saD : PySem.W.findIn K (.ref C) "__setattr__" = some (some (.builtin "object.__setattr__")))
    (mkD : PySem.W.makesIn K C = true)
    (kcD : PySem.W.keepIn K (.ref C) = true)
    (n_D_table : PySem.W.findIn K (.ref C) "table" = some none)
    (n_D_house_keys : PySem.W.findIn K (.ref C) "house_keys" = some none)
    (n_D_near : PySem.W.findIn K (.ref C) "near" = some none)
    (n_D_far : PySem.W.findIn K (.ref C) "far" = some none)
    (n_D_most : PySem.W.findIn K (.ref C) "most" = some none)
    (n_D_least_age : PySem.W.findIn K (.ref C) "least_age" = some none)
    (n_D_buttons : PySem.W.findIn K (.ref C) "buttons" = some none)
    (n_D_log : PySem.W.findIn K (.ref C) "log" = some none)
    (A0 : Ac K mg "is_number" s_is_number)
    (A1 : Ac K mg "is_digit" s_is_digit)
    (A2 : Ac K mg "are_digits" s_are_digits)
    (A3 : Ac K mg "back_table" s_back_table)
    (A4 : Ac K mg "coded" s_coded)
    (A5 : Ac K mg "decoded" s_decoded)
    (A6 : Ac K mg "is_name" s_is_name)
    (A7 : Ac K mg "is_code" s_is_code)
    (A8 : Ac K mg "is_press" s_is_press)
    (A9 : Ac K mg "letter_digits" s_letter_digits)
    (A10 : Ac K mg "key_of" s_key_of)
    (A11 : Ac K mg "count_digits" s_count_digits)
    (A12 : Ac K mg "press_of" s_press_of)
    (A13 : Ac K mg "read_press" s_read_press)
    (A14 : Acm K CB "__init__" "Button.__init__" s_Button___init)
    (A15 : Acm K CB "is_worn" "Button.is_worn" s_Button_is_worn)
    (A16 : Acm K CB "must_write" "Button.must_write" s_Button_must_write)
    (A17 : Acm K CB "spare_cell" "Button.spare_cell" s_Button_spare_cell)
    (A18 : Acm K CB "write_bound" "Button.write_bound" s_Button_write_bound)
    (A19 : Acm K CB "press_once" "Button.press_once" s_Button_press_once)
    (A20 : Acm K CB "cell_out" "Button.cell_out" s_Button_cell_out)
    (A21 : Acm K CB "cell_torn" "Button.cell_torn" s_Button_cell_torn)
    (A22 : Acm K CB "turn_key" "Button.turn_key" s_Button_turn_key)
    (A23 : Acm K CB "name_told" "Button.name_told" s_Button_name_told)
    (A24 : Acm K CB "age_now" "Button.age_now" s_Button_age_now)
    (A25 : Acm K CB "count_now" "Button.count_now" s_Button_count_now)
    (A26 : Acm K CB "cells_now" "Button.cells_now" s_Button_cells_now)
    (A27 : Ac K mg "word_of" s_word_of)
    (A28 : Ac K mg "step_by" s_step_by)
    (A29 : Acm K C "__init__" "Door.__init__" s_Door___init)
    (A30 : Acm K C "is_full" "Door.is_full" s_Door_is_full)
    (A31 : Acm K C "button_of" "Door.button_of" s_Door_button_of)
    (A32 : Acm K C "takes_age" "Door.takes_age" s_Door_takes_age)
    (A33 : Acm K C "takes_from" "Door.takes_from" s_Door_takes_from)
    (A34 : Acm K C "plain_step" "Door.plain_step" s_Door_plain_step)
    (A35 : Acm K C "answer_to" "Door.answer_to" s_Door_answer_to)
    (A36 : Acm K C "hear" "Door.hear" s_Door_hear)
    (A37 : Acm K C "read_right" "Door.read_right" s_Door_read_right)
    (A38 : Acm K C "learn" "Door.learn" s_Door_learn)
    (A39 : Acm K C "known_now" "Door.known_now" s_Door_known_now)
    (A40 : Acm K C "twin_door" "Door.twin_door" s_Door_twin_door)
    (A41 : Ac K mg "_law_box" s_law_box)
    (A42 : Ac K mg "_law_take" s_law_take)
    (A43 : Ac K mg "_law_table" s_law_table)
    (A44 : Ac K mg "_law_key" s_law_key)
    (A45 : Ac K mg "_law_name" s_law_name)
    (A46 : Ac K mg "_law_pressed" s_law_pressed)
    (A47 : Ac K mg "_law_never_again" s_law_never_again)
    {f48 : Addr} {od48 an48 : Option Addr} {sl48 : Array (Option Value)} {oc48 kV48 dc48 pm48 cd48 ct48 : Value}
    (a48 : PySem.W.nsIn K mainGlobals "law" = some (some (.ref f48)))
    (l48 : K.lookup f48 = some ⟨oc48, od48, .func (PySem.W.fnOf "law" "law" (defArgs s_law) (defBody s_law) (defScope s_law) .none kV48 dc48 pm48 an48 cd48 ct48), sl48⟩)
    (c48 : PySem.W.codeIn K cd48 "law" = true)
    (k48 : PySem.W.keepIn K (.ref f48) = true)
    {t0 : Tok}
    (yg0 : PySem.W.nsIn K mainGlobals "DIGITS" = some (some (.int 16 t0)))
    {t1 : Tok}
    (yg1 : PySem.W.nsIn K mainGlobals "KEY_PLACES" = some (some (.int 4 t1)))
    {t2 : Tok}
    (yg2 : PySem.W.nsIn K mainGlobals "LONGEST_NAME" = some (some (.int 8 t2)))
    {t3 : Tok}
    (yg3 : PySem.W.nsIn K mainGlobals "CODE_DIGITS" = some (some (.int 5 t3)))
    {t4 : Tok}
    (yg4 : PySem.W.nsIn K mainGlobals "AGES" = some (some (.int 8 t4)))
    {t5 : Tok}
    (yg5 : PySem.W.nsIn K mainGlobals "COUNTS" = some (some (.int 4096 t5)))
    (z0 : PySem.W.nsIn K mainGlobals "isinstance" = some none)
    (z1 : PySem.W.nsIn K mainGlobals "bool" = some none)
    (z2 : PySem.W.nsIn K mainGlobals "int" = some none)
    (z3 : PySem.W.nsIn K mainGlobals "tuple" = some none)
    (z4 : PySem.W.nsIn K mainGlobals "all" = some none)
    (z5 : PySem.W.nsIn K mainGlobals "len" = some none)
    (z6 : PySem.W.nsIn K mainGlobals "abs" = some none)
    (z7 : PySem.W.nsIn K mainGlobals "list" = some none)
    (z8 : PySem.W.nsIn K mainGlobals "range" = some none)
    (z9 : PySem.W.nsIn K mainGlobals "str" = some none)
    (z10 : PySem.W.nsIn K mainGlobals "zip" = some none)
    (z11 : PySem.W.nsIn K mainGlobals "ord" = some none)
    (z12 : PySem.W.nsIn K mainGlobals "sum" = some none)
    (z13 : PySem.W.nsIn K mainGlobals "min" = some none)
    (z14 : PySem.W.nsIn K mainGlobals "enumerate" = some none)
    (z15 : PySem.W.nsIn K mainGlobals "max" = some none)
    (z16 : PySem.W.nsIn K mainGlobals "reversed" = some none)
    (z17 : PySem.W.nsIn K mainGlobals "sorted" = some none)
    (z18 : PySem.W.nsIn K mainGlobals "dict" = some none) :
    ∃ fd : FuncData, (∀ (s : Shared) (v : Value), BindsTo s fd ⟨[v], []⟩ [("_law_script", v)]) ∧ ∀ base : Heap, K.In base → base.Ns mainGlobals mg → FnOk l.prog w K mg base CX0 10 fa fd ["_law_script"] (spLaw K) := by
  have e := hfa.symm.trans (PySem.W.mg_of X G a48)
  cases e
  have T : Txt K mg (fun i => if i = 0 then t0 else if i = 1 then t1 else if i = 2 then t2 else if i = 3 then t3 else if i = 4 then t4 else if i = 5 then t5 else 0) := ⟨PySem.W.mg_of X G yg0, PySem.W.mg_of X G yg1, PySem.W.mg_of X G yg2, PySem.W.mg_of X G yg3, PySem.W.mg_of X G yg4, PySem.W.mg_of X G yg5, PySem.W.mg_none_of X G z0, PySem.W.mg_none_of X G z1, PySem.W.mg_none_of X G z2, PySem.W.mg_none_of X G z3, PySem.W.mg_none_of X G z4, PySem.W.mg_none_of X G z5, PySem.W.mg_none_of X G z6, PySem.W.mg_none_of X G z7, PySem.W.mg_none_of X G z8, PySem.W.mg_none_of X G z9, PySem.W.mg_none_of X G z10, PySem.W.mg_none_of X G z11, PySem.W.mg_none_of X G z12, PySem.W.mg_none_of X G z13, PySem.W.mg_none_of X G z14, PySem.W.mg_none_of X G z15, PySem.W.mg_none_of X G z16, PySem.W.mg_none_of X G z17, PySem.W.mg_none_of X G z18⟩
  refine ⟨PySem.W.fnOf "law" "law" (defArgs s_law) (defBody s_law) (defScope s_law) .none kV48 dc48 pm48 an48 cd48 ct48, fun s v => .of_eq rfl, fun base _ _ => ?_⟩
  have UB : BCx K CB := ⟨⟨pgB, hdB, poB, saB⟩, n_B_name, n_B_table, n_B_key, n_B_age, n_B_step, n_B_next_count, n_B_bound, n_B_cells⟩
  have U : DCx K C := ⟨⟨pgD, hdD, poD, saD⟩, n_D_table, n_D_house_keys, n_D_near, n_D_far, n_D_most, n_D_least_age, n_D_buttons, n_D_log⟩
  have A0 := A0.at (ps := ["thing"]) fun _ _ _ _ _ _ us hl => match us, hl with | [_], _ => rfl
  have D_is_number := ok_is_number (P := l.prog) (w := w) (base := base) A0 T
  have A1 := A1.at (ps := ["thing"]) fun _ _ _ _ _ _ us hl => match us, hl with | [_], _ => rfl
  have D_is_digit := ok_is_digit (P := l.prog) (w := w) (base := base) A1 T D_is_number
  have A2 := A2.at (ps := ["things"]) fun _ _ _ _ _ _ us hl => match us, hl with | [_], _ => rfl
  have D_are_digits := ok_are_digits (P := l.prog) (w := w) (base := base) A2 T D_is_digit
  have A3 := A3.at (ps := ["table"]) fun _ _ _ _ _ _ us hl => match us, hl with | [_], _ => rfl
  have D_back_table := ok_back_table (P := l.prog) (w := w) (base := base) A3 T
  have A4 := A4.at (ps := ["table", "key", "digits"]) fun _ _ _ _ _ _ us hl => match us, hl with | [_, _, _], _ => rfl
  have D_coded := ok_coded (P := l.prog) (w := w) (base := base) A4 T
  have A5 := A5.at (ps := ["table", "key", "digits"]) fun _ _ _ _ _ _ us hl => match us, hl with | [_, _, _], _ => rfl
  have D_decoded := ok_decoded (P := l.prog) (w := w) (base := base) A5 T D_back_table
  have A6 := A6.at (ps := ["thing"]) fun _ _ _ _ _ _ us hl => match us, hl with | [_], _ => rfl
  have D_is_name := ok_is_name (P := l.prog) (w := w) (base := base) A6 T
  have A7 := A7.at (ps := ["thing"]) fun _ _ _ _ _ _ us hl => match us, hl with | [_], _ => rfl
  have D_is_code := ok_is_code (P := l.prog) (w := w) (base := base) A7 T D_are_digits
  have A8 := A8.at (ps := ["thing"]) fun _ _ _ _ _ _ us hl => match us, hl with | [_], _ => rfl
  have D_is_press := ok_is_press (P := l.prog) (w := w) (base := base) A8 T D_is_name D_is_number D_is_code
  have A9 := A9.at (ps := ["name"]) fun _ _ _ _ _ _ us hl => match us, hl with | [_], _ => rfl
  have D_letter_digits := ok_letter_digits (P := l.prog) (w := w) (base := base) A9 T
  have A10 := A10.at (ps := ["table", "key", "name"]) fun _ _ _ _ _ _ us hl => match us, hl with | [_, _, _], _ => rfl
  have D_key_of := ok_key_of (P := l.prog) (w := w) (base := base) A10 T D_letter_digits D_coded
  have A11 := A11.at (ps := ["count"]) fun _ _ _ _ _ _ us hl => match us, hl with | [_], _ => rfl
  have D_count_digits := ok_count_digits (P := l.prog) (w := w) (base := base) A11 T
  have A12 := A12.at (ps := ["table", "key", "name", "age", "count", "deed"]) fun _ _ _ _ _ _ us hl => match us, hl with | [_, _, _, _, _, _], _ => rfl
  have D_press_of := ok_press_of (P := l.prog) (w := w) (base := base) A12 T D_count_digits D_key_of D_coded
  have A13 := A13.at (ps := ["table", "key", "press"]) fun _ _ _ _ _ _ us hl => match us, hl with | [_, _, _], _ => rfl
  have D_read_press := ok_read_press (P := l.prog) (w := w) (base := base) A13 T D_key_of D_decoded
  have A14 := A14.at (ps := ["self", "name", "table", "key", "age", "step"]) fun _ _ _ _ _ _ us hl => match us, hl with | [_, _, _, _, _, _], _ => rfl
  have D_Button___init := ok_Button___init (P := l.prog) (w := w) (base := base) A14 T UB
  have I_Button := D_Button___init.mi mkB kcB (PySem.W.mg_of X G aCB)
  have A15 := A15.at (ps := ["self"]) fun _ _ _ _ _ _ us hl => match us, hl with | [_], _ => rfl
  have D_Button_is_worn := ok_Button_is_worn (P := l.prog) (w := w) (base := base) A15 T UB
  have A16 := A16.at (ps := ["self"]) fun _ _ _ _ _ _ us hl => match us, hl with | [_], _ => rfl
  have D_Button_must_write := ok_Button_must_write (P := l.prog) (w := w) (base := base) A16 T UB D_Button_is_worn
  have A17 := A17.at (ps := ["self"]) fun _ _ _ _ _ _ us hl => match us, hl with | [_], _ => rfl
  have D_Button_spare_cell := ok_Button_spare_cell (P := l.prog) (w := w) (base := base) A17 T UB
  have A18 := A18.at (ps := ["self"]) fun _ _ _ _ _ _ us hl => match us, hl with | [_], _ => rfl
  have D_Button_write_bound := ok_Button_write_bound (P := l.prog) (w := w) (base := base) A18 T UB D_Button_spare_cell
  have A19 := A19.at (ps := ["self", "deed"]) fun _ _ _ _ _ _ us hl => match us, hl with | [_, _], _ => rfl
  have D_Button_press_once := ok_Button_press_once (P := l.prog) (w := w) (base := base) A19 T UB D_Button_is_worn D_Button_must_write D_Button_write_bound D_press_of
  have A20 := A20.at (ps := ["self"]) fun _ _ _ _ _ _ us hl => match us, hl with | [_], _ => rfl
  have D_Button_cell_out := ok_Button_cell_out (P := l.prog) (w := w) (base := base) A20 T UB
  have A21 := A21.at (ps := ["self"]) fun _ _ _ _ _ _ us hl => match us, hl with | [_], _ => rfl
  have D_Button_cell_torn := ok_Button_cell_torn (P := l.prog) (w := w) (base := base) A21 T UB D_Button_must_write D_Button_spare_cell D_Button_cell_out
  have A22 := A22.at (ps := ["self", "key"]) fun _ _ _ _ _ _ us hl => match us, hl with | [_, _], _ => rfl
  have D_Button_turn_key := ok_Button_turn_key (P := l.prog) (w := w) (base := base) A22 T UB
  have A23 := A23.at (ps := ["self"]) fun _ _ _ _ _ _ us hl => match us, hl with | [_], _ => rfl
  have D_Button_name_told := ok_Button_name_told (P := l.prog) (w := w) (base := base) A23 T UB
  have A24 := A24.at (ps := ["self"]) fun _ _ _ _ _ _ us hl => match us, hl with | [_], _ => rfl
  have D_Button_age_now := ok_Button_age_now (P := l.prog) (w := w) (base := base) A24 T UB
  have A25 := A25.at (ps := ["self"]) fun _ _ _ _ _ _ us hl => match us, hl with | [_], _ => rfl
  have D_Button_count_now := ok_Button_count_now (P := l.prog) (w := w) (base := base) A25 T UB
  have A26 := A26.at (ps := ["self"]) fun _ _ _ _ _ _ us hl => match us, hl with | [_], _ => rfl
  have D_Button_cells_now := ok_Button_cells_now (P := l.prog) (w := w) (base := base) A26 T UB
  have A27 := A27.at (ps := ["count", "last", "near", "far"]) fun _ _ _ _ _ _ us hl => match us, hl with | [_, _, _, _], _ => rfl
  have D_word_of := ok_word_of (P := l.prog) (w := w) (base := base) A27 T
  have A28 := A28.at (ps := ["button", "age", "count", "near", "far"]) fun _ _ _ _ _ _ us hl => match us, hl with | [_, _, _, _, _], _ => rfl
  have D_step_by := ok_step_by (P := l.prog) (w := w) (base := base) A28 T D_word_of
  have A29 := A29.at (ps := ["self", "table", "keys", "near", "far", "most"]) fun _ _ _ _ _ _ us hl => match us, hl with | [_, _, _, _, _, _], _ => rfl
  have D_Door___init := ok_Door___init (P := l.prog) (w := w) (base := base) A29 T U
  have I_Door := D_Door___init.mi mkD kcD (PySem.W.mg_of X G aCD)
  have I_DoorT := (ok_Door___initT (P := l.prog) (w := w) (base := base) A29 T U).mi mkD kcD (PySem.W.mg_of X G aCD)
  have A30 := A30.at (ps := ["self"]) fun _ _ _ _ _ _ us hl => match us, hl with | [_], _ => rfl
  have D_Door_is_full := ok_Door_is_full (P := l.prog) (w := w) (base := base) A30 T U
  have A31 := A31.at (ps := ["self", "name"]) fun _ _ _ _ _ _ us hl => match us, hl with | [_, _], _ => rfl
  have D_Door_button_of := ok_Door_button_of (P := l.prog) (w := w) (base := base) A31 T U
  have A32 := A32.at (ps := ["self", "age"]) fun _ _ _ _ _ _ us hl => match us, hl with | [_, _], _ => rfl
  have D_Door_takes_age := ok_Door_takes_age (P := l.prog) (w := w) (base := base) A32 T U
  have A33 := A33.at (ps := ["self", "button", "age"]) fun _ _ _ _ _ _ us hl => match us, hl with | [_, _, _], _ => rfl
  have D_Door_takes_from := ok_Door_takes_from (P := l.prog) (w := w) (base := base) A33 T U D_Door_takes_age
  have A34 := A34.at (ps := ["self", "button", "age", "count"]) fun _ _ _ _ _ _ us hl => match us, hl with | [_, _, _, _], _ => rfl
  have D_Door_plain_step := ok_Door_plain_step (P := l.prog) (w := w) (base := base) A34 T U D_Door_takes_from D_step_by
  have A35 := A35.at (ps := ["self", "press"]) fun _ _ _ _ _ _ us hl => match us, hl with | [_, _], _ => rfl
  have D_Door_answer_to := ok_Door_answer_to (P := l.prog) (w := w) (base := base) A35 T U D_Door_button_of D_Door_takes_from D_Door_plain_step D_read_press
  have A36 := A36.at (ps := ["self", "thing"]) fun _ _ _ _ _ _ us hl => match us, hl with | [_, _], _ => rfl
  have D_Door_hear := ok_Door_hear (P := l.prog) (w := w) (base := base) A36 T U D_is_press D_Door_answer_to
  have A37 := A37.at (ps := ["self", "thing"]) fun _ _ _ _ _ _ us hl => match us, hl with | [_, _], _ => rfl
  have D_Door_read_right := ok_Door_read_right (P := l.prog) (w := w) (base := base) A37 T U D_is_press D_Door_takes_age D_read_press
  have A38 := A38.at (ps := ["self", "one", "other"]) fun _ _ _ _ _ _ us hl => match us, hl with | [_, _, _], _ => rfl
  have D_Door_learn := ok_Door_learn (P := l.prog) (w := w) (base := base) A38 T U D_Door_read_right D_Door_is_full
  have A39 := A39.at (ps := ["self"]) fun _ _ _ _ _ _ us hl => match us, hl with | [_], _ => rfl
  have D_Door_known_now := ok_Door_known_now (P := l.prog) (w := w) (base := base) A39 T U
  have A40 := A40.at (ps := ["self"]) fun _ _ _ _ _ _ us hl => match us, hl with | [_], _ => rfl
  have D_Door_twin_door := ok_Door_twin_door (P := l.prog) (w := w) (base := base) A40 T U I_Door
  have A41 := A41.at (ps := ["_law_script", "_law_k"]) fun _ _ _ _ _ _ us hl => match us, hl with | [_, _], _ => rfl
  have D_law_box := ok_law_box (P := l.prog) (w := w) (base := base) A41 T
  have A42 := A42.at (ps := ["_law_box_here", "_law_many"]) fun _ _ _ _ _ _ us hl => match us, hl with | [_, _], _ => rfl
  have D_law_take := ok_law_take (P := l.prog) (w := w) (base := base) A42 T
  have A43 := A43.at (ps := ["_law_box_here"]) fun _ _ _ _ _ _ us hl => match us, hl with | [_], _ => rfl
  have D_law_table := ok_law_table (P := l.prog) (w := w) (base := base) A43 T D_law_take
  have A44 := A44.at (ps := ["_law_box_here"]) fun _ _ _ _ _ _ us hl => match us, hl with | [_], _ => rfl
  have D_law_key := ok_law_key (P := l.prog) (w := w) (base := base) A44 T D_law_take
  have A45 := A45.at (ps := ["_law_box_here"]) fun _ _ _ _ _ _ us hl => match us, hl with | [_], _ => rfl
  have D_law_name := ok_law_name (P := l.prog) (w := w) (base := base) A45 T D_law_take
  have A46 := A46.at (ps := ["_law_box_here", "_law_code", "_law_entry", "_law_doors", "_law_caught"]) fun _ _ _ _ _ _ us hl => match us, hl with | [_, _, _, _, _], _ => rfl
  have D_law_pressed := ok_law_pressed (P := l.prog) (w := w) (base := base) A46 T U UB D_law_take D_Button_age_now D_Button_press_once D_read_press D_Button_name_told D_Door_hear
  have A47 := A47.at (ps := ["_law_door", "_law_caught"]) fun _ _ _ _ _ _ us hl => match us, hl with | [_, _], _ => rfl
  have D_law_never_again := ok_law_never_again (P := l.prog) (w := w) (base := base) A47 T U D_Door_known_now D_Door_twin_door D_Door_hear (CB := CB)
  exact ok_law (fun_mk (st := s_law) l48 c48 k48) T U UB I_Button I_DoorT D_Button_press_once D_Button_turn_key D_Button_cell_out D_Button_cell_torn D_Button_age_now D_Button_count_now D_Button_cells_now D_Door_learn D_law_box D_law_take D_law_table D_law_key D_law_name D_law_pressed D_law_never_again
theorem walk {l : PySem.W.OpenLaw} {q : Program} {loose : List Str} {XP : (Str → Option Value) → Heap → Prop} {YP : World → Heap → Prop} {d : DefRec} {K : Params → PySem.W.Frag} (hn : l.most = some 63) (hdf : d.params.defaults = [])
    (hY : ∀ (w : World) (h : Heap), YP w h → (K w.params).In h)
    (F : ∀ (w : World) (mg : Str → Option Value) (fa : Addr) (h : Heap), (K w.params).In h → h.Ns mainGlobals mg → mg d.name = some (.ref fa) →
      ∃ fd : FuncData, (∀ (s : Shared) (u : Value), BindsTo s fd ⟨[u], []⟩ [("_law_script", u)]) ∧ ∀ base : Heap, (K w.params).In base → base.Ns mainGlobals mg → FnOk l.prog w (K w.params) mg base CX0 10 fa fd ["_law_script"] (spLaw (K w.params))) :
    PySem.W.WalkO q loose XP YP l.row.toRowW d [] (fun f vs => PySem.call f vs) :=
  L2.walk_of (n := 63) (k := 10) (x := "_law_script") (CX := fun _ => CX0) (sp := fun w => spLaw (K w.params)) hn (by decide) hdf ⟨rfl, by decide, by decide⟩ hY F (fun _ _ a ns hl _ hS => ⟨a, ns, rfl, hS, hl, fun _ => rfl⟩) fun _ _ _ _ _ z => z
end Lw
namespace PySem.W.Fast
def tw5814638701094431305 := ()
def tw5560080854308975439 := ()
def tw1124007683462164780 := ()
def tw184356515431811976 := ()
def tw16175594106598675978 := ()
def tw6923640058596158592 := ()
def tw17123477731265451320 := ()
def tw4162136869142448058 := ()
def tw8116232309876815618 := ()
def tw14635990675582478064 := ()
def tw2905432407560324436 := ()
def tw14334181881725879983 := ()
def tw6907955469110388079 := ()
def tw2492763730900016371 := ()
def tw4789963674873447060 := ()
def tw10831524180073101625 := ()
def tw1922679925749958514 := ()
def tw17015617756741139429 := ()
def tw14648165470789419322 := ()
def tw8964214795649373119 := ()
def tw7880772818673168985 := ()
def tw1595511351175632502 := ()
def tw10799226806798840669 := ()
def tw12241614991953146798 := ()
def tw17281599233273442298 := ()
def tw12559554127249685328 := ()
def tw13801532194975605414 := ()
def tw6609525444443602641 := ()
def tw13301652009614811748 := ()
def tw356507199525042752 := ()
def tw16627122752037329795 := ()
def tw6310387259965011199 := ()
def tw8978858867840809226 := ()
def tw12961575423002261309 := ()
def tw15631979672745774567 := ()
def tw11878347353874471746 := ()
def tw13650430473653606733 := ()
def tw7151085102112033175 := ()
def tw1677759755213537173 := ()
def tw5322346880795313645 := ()
def tw3971242641760210554 := ()
def tw7121332616219147503 := ()
def tw8090029669290045227 := ()
def tw3646987996476097194 := ()
def tw10326691969206940089 := ()
def tw9751546468520949237 := ()
def tw9687744160963038915 := ()
def tw4224589963112255917 := ()
def tw11822322227030329516 := ()
def tw442597996854200645 := ()
def tw9963654201841598234 := ()
def tw13483736401324816280 := ()
def tw15918401004255417901 := ()
def tw3285710694299079893 := ()
def tw9060553146110738180 := ()
def tw8015279068668206276 := ()
def tw18394740702794228174 := ()
def tw3264791337106728130 := ()
def tw12046756009103607611 := ()
def tw15475815566996858046 := ()
def tw3108372997303067035 := ()
def tw3155975008213339958 := ()
def tw6983842191309507547 := ()
def tw13621329958735091528 := ()
def tw14675029869631306853 := ()
def tw8847873932386324637 := ()
def tw18216404532989349444 := ()
def tw7244491550610263077 := ()
def tw7678105933014726365 := ()
def tw7369292450944788243 := ()
def tw222434526356021809 := ()
def tw15769477156713881828 := ()
def tw10405272619742111182 := ()
def tw3808645078646272593 := ()
def tw14607504310156902063 := ()
def tw2561560290246580311 := ()
def tw4191832644050397297 := ()
def tw1973227236329935064 := ()
def tw1560493649084596940 := ()
def tw10013156121423160859 := ()
def tw11644993402616056292 := ()
def tw1379533810786162826 := ()
def tw6882337990065620183 := ()
def tw2589717374214527801 := ()
def tw7619392319708877287 := ()
def tw13223968711685166631 := ()
def tw15451252520954063343 := ()
def tw6974100809426406869 := ()
def tw12171351370028142979 := ()
def tw12522716618459352264 := ()
def tw5307130656935817481 := ()
def tw3250841614249761417 := ()
def tw18208409205993724004 := ()
def tw2622185770568458606 := ()
def tw13271478520328997599 := ()
def tw4198377505007824296 := ()
def tw6397282165171570657 := ()
def tw17634115953621738338 := ()
def tw4818546310026392821 := ()
def tw13022077323891971986 := ()
def tw1860412583447233219 := ()
def tw8867944379943887884 := ()
def tw1024111900276624454 := ()
def tw8742988397731630429 := ()
def tw17176675372769357245 := ()
def tw622355030666257816 := ()
def tw6422469703219844323 := ()
def tw14730528209394970423 := ()
def tw10918497503360604140 := ()
def tw7073351797428803474 := ()
def tw5595853563884046261 := ()
def tw9640625790553488709 := ()
def tw3632364215574100920 := ()
def tw15883338174192228682 := ()
def tw2731736460921455452 := ()
def tw15428260297811112634 := ()
def tw12704236781008807042 := ()
def tw7238351814852108851 := ()
def tw246477351064640051 := ()
def tw14344246039600037392 := ()
def tw3187653963535980177 := ()
def tw12511553392953365327 := ()
def tw18401224651341671265 := ()
def tw6984646782949120282 := ()
def tw5977652437112854703 := ()
def tw11690599399356638163 := ()
def tw6199750483664382078 := ()
def tw13610908858628009969 := ()
def tw10022506957423885635 := ()
def tw2247179237476045668 := ()
end PySem.W.Fast
open PySem PySem.W PyProof.Rows
set_option maxRecDepth 100000 in
set_option maxHeartbeats 0 in
theorem PySem.Challenge.cw_rollcode_k64_whole_counts_only_rise_holds : PySem.Challenge.rw_rollcode_k64_whole_counts_only_rise.Holds := by
  w_on; o_law; k_head; (case hw => w_witness2)
  k_fill
  refine Lw.walk (l := PySem.Challenge.rw_rollcode_k64_whole_counts_only_rise) rfl rfl (fun w h Y => PySem.W.kIn_of Y) ?F
  case F =>
    intro w mg fa h KX G hmg
    refine' Lw.all_mk KX G hmg ?aCB ?pgB ?hdB ?poB ?saB ?mkB ?kcB ?n_B_name ?n_B_table ?n_B_key ?n_B_age ?n_B_step ?n_B_next_count ?n_B_bound ?n_B_cells ?aCD ?pgD ?hdD ?poD ?saD ?mkD ?kcD ?n_D_table ?n_D_house_keys ?n_D_near ?n_D_far ?n_D_most ?n_D_least_age ?n_D_buttons ?n_D_log ?A0 ?A1 ?A2 ?A3 ?A4 ?A5 ?A6 ?A7 ?A8 ?A9 ?A10 ?A11 ?A12 ?A13 ?A14 ?A15 ?A16 ?A17 ?A18 ?A19 ?A20 ?A21 ?A22 ?A23 ?A24 ?A25 ?A26 ?A27 ?A28 ?A29 ?A30 ?A31 ?A32 ?A33 ?A34 ?A35 ?A36 ?A37 ?A38 ?A39 ?A40 ?A41 ?A42 ?A43 ?A44 ?A45 ?A46 ?A47 ?a48 ?l48 ?c48 ?k48 ?yg0 ?yg1 ?yg2 ?yg3 ?yg4 ?yg5 ?z0 ?z1 ?z2 ?z3 ?z4 ?z5 ?z6 ?z7 ?z8 ?z9 ?z10 ?z11 ?z12 ?z13 ?z14 ?z15 ?z16 ?z17 ?z18
    (case aCB => k_is)
    (case pgB => k_is)
    (case hdB => k_is)
    (case poB => k_is)
    (case saB => k_is)
    (case mkB => k_is)
    (case kcB => k_is)
    (case n_B_name => k_is)
    (case n_B_table => k_is)
    (case n_B_key => k_is)
    (case n_B_age => k_is)
    (case n_B_step => k_is)
    (case n_B_next_count => k_is)
    (case n_B_bound => k_is)
    (case n_B_cells => k_is)
    (case aCD => k_is)
    (case pgD => k_is)
    (case hdD => k_is)
    (case poD => k_is)
    (case saD => k_is)
    (case mkD => k_is)
    (case kcD => k_is)
    (case n_D_table => k_is)
    (case n_D_house_keys => k_is)
    (case n_D_near => k_is)
    (case n_D_far => k_is)
    (case n_D_most => k_is)
    (case n_D_least_age => k_is)
    (case n_D_buttons => k_is)
    (case n_D_log => k_is)
    (case A0 => refine' L3.ac_mk KX G ?ya ?yl ?yc ?yk; (case ya => k_is); (case yl => k_is); (case yc => k_is); (case yk => k_is))
    (case A1 => refine' L3.ac_mk KX G ?ya ?yl ?yc ?yk; (case ya => k_is); (case yl => k_is); (case yc => k_is); (case yk => k_is))
    (case A2 => refine' L3.ac_mk KX G ?ya ?yl ?yc ?yk; (case ya => k_is); (case yl => k_is); (case yc => k_is); (case yk => k_is))
    (case A3 => refine' L3.ac_mk KX G ?ya ?yl ?yc ?yk; (case ya => k_is); (case yl => k_is); (case yc => k_is); (case yk => k_is))
    (case A4 => refine' L3.ac_mk KX G ?ya ?yl ?yc ?yk; (case ya => k_is); (case yl => k_is); (case yc => k_is); (case yk => k_is))
    (case A5 => refine' L3.ac_mk KX G ?ya ?yl ?yc ?yk; (case ya => k_is); (case yl => k_is); (case yc => k_is); (case yk => k_is))
    (case A6 => refine' L3.ac_mk KX G ?ya ?yl ?yc ?yk; (case ya => k_is); (case yl => k_is); (case yc => k_is); (case yk => k_is))
    (case A7 => refine' L3.ac_mk KX G ?ya ?yl ?yc ?yk; (case ya => k_is); (case yl => k_is); (case yc => k_is); (case yk => k_is))
    (case A8 => refine' L3.ac_mk KX G ?ya ?yl ?yc ?yk; (case ya => k_is); (case yl => k_is); (case yc => k_is); (case yk => k_is))
    (case A9 => refine' L3.ac_mk KX G ?ya ?yl ?yc ?yk; (case ya => k_is); (case yl => k_is); (case yc => k_is); (case yk => k_is))
    (case A10 => refine' L3.ac_mk KX G ?ya ?yl ?yc ?yk; (case ya => k_is); (case yl => k_is); (case yc => k_is); (case yk => k_is))
    (case A11 => refine' L3.ac_mk KX G ?ya ?yl ?yc ?yk; (case ya => k_is); (case yl => k_is); (case yc => k_is); (case yk => k_is))
    (case A12 => refine' L3.ac_mk KX G ?ya ?yl ?yc ?yk; (case ya => k_is); (case yl => k_is); (case yc => k_is); (case yk => k_is))
    (case A13 => refine' L3.ac_mk KX G ?ya ?yl ?yc ?yk; (case ya => k_is); (case yl => k_is); (case yc => k_is); (case yk => k_is))
    (case A14 => refine' L3.acm_mk ?ya ?yi ?yl ?yc ?yk; (case ya => k_is); (case yi => k_is); (case yl => k_is); (case yc => k_is); (case yk => k_is))
    (case A15 => refine' L3.acm_mk ?ya ?yi ?yl ?yc ?yk; (case ya => k_is); (case yi => k_is); (case yl => k_is); (case yc => k_is); (case yk => k_is))
    (case A16 => refine' L3.acm_mk ?ya ?yi ?yl ?yc ?yk; (case ya => k_is); (case yi => k_is); (case yl => k_is); (case yc => k_is); (case yk => k_is))
    (case A17 => refine' L3.acm_mk ?ya ?yi ?yl ?yc ?yk; (case ya => k_is); (case yi => k_is); (case yl => k_is); (case yc => k_is); (case yk => k_is))
    (case A18 => refine' L3.acm_mk ?ya ?yi ?yl ?yc ?yk; (case ya => k_is); (case yi => k_is); (case yl => k_is); (case yc => k_is); (case yk => k_is))
    (case A19 => refine' L3.acm_mk ?ya ?yi ?yl ?yc ?yk; (case ya => k_is); (case yi => k_is); (case yl => k_is); (case yc => k_is); (case yk => k_is))
    (case A20 => refine' L3.acm_mk ?ya ?yi ?yl ?yc ?yk; (case ya => k_is); (case yi => k_is); (case yl => k_is); (case yc => k_is); (case yk => k_is))
    (case A21 => refine' L3.acm_mk ?ya ?yi ?yl ?yc ?yk; (case ya => k_is); (case yi => k_is); (case yl => k_is); (case yc => k_is); (case yk => k_is))
    (case A22 => refine' L3.acm_mk ?ya ?yi ?yl ?yc ?yk; (case ya => k_is); (case yi => k_is); (case yl => k_is); (case yc => k_is); (case yk => k_is))
    (case A23 => refine' L3.acm_mk ?ya ?yi ?yl ?yc ?yk; (case ya => k_is); (case yi => k_is); (case yl => k_is); (case yc => k_is); (case yk => k_is))
    (case A24 => refine' L3.acm_mk ?ya ?yi ?yl ?yc ?yk; (case ya => k_is); (case yi => k_is); (case yl => k_is); (case yc => k_is); (case yk => k_is))
    (case A25 => refine' L3.acm_mk ?ya ?yi ?yl ?yc ?yk; (case ya => k_is); (case yi => k_is); (case yl => k_is); (case yc => k_is); (case yk => k_is))
    (case A26 => refine' L3.acm_mk ?ya ?yi ?yl ?yc ?yk; (case ya => k_is); (case yi => k_is); (case yl => k_is); (case yc => k_is); (case yk => k_is))
    (case A27 => refine' L3.ac_mk KX G ?ya ?yl ?yc ?yk; (case ya => k_is); (case yl => k_is); (case yc => k_is); (case yk => k_is))
    (case A28 => refine' L3.ac_mk KX G ?ya ?yl ?yc ?yk; (case ya => k_is); (case yl => k_is); (case yc => k_is); (case yk => k_is))
    (case A29 => refine' L3.acm_mk ?ya ?yi ?yl ?yc ?yk; (case ya => k_is); (case yi => k_is); (case yl => k_is); (case yc => k_is); (case yk => k_is))
    (case A30 => refine' L3.acm_mk ?ya ?yi ?yl ?yc ?yk; (case ya => k_is); (case yi => k_is); (case yl => k_is); (case yc => k_is); (case yk => k_is))
    (case A31 => refine' L3.acm_mk ?ya ?yi ?yl ?yc ?yk; (case ya => k_is); (case yi => k_is); (case yl => k_is); (case yc => k_is); (case yk => k_is))
    (case A32 => refine' L3.acm_mk ?ya ?yi ?yl ?yc ?yk; (case ya => k_is); (case yi => k_is); (case yl => k_is); (case yc => k_is); (case yk => k_is))
    (case A33 => refine' L3.acm_mk ?ya ?yi ?yl ?yc ?yk; (case ya => k_is); (case yi => k_is); (case yl => k_is); (case yc => k_is); (case yk => k_is))
    (case A34 => refine' L3.acm_mk ?ya ?yi ?yl ?yc ?yk; (case ya => k_is); (case yi => k_is); (case yl => k_is); (case yc => k_is); (case yk => k_is))
    (case A35 => refine' L3.acm_mk ?ya ?yi ?yl ?yc ?yk; (case ya => k_is); (case yi => k_is); (case yl => k_is); (case yc => k_is); (case yk => k_is))
    (case A36 => refine' L3.acm_mk ?ya ?yi ?yl ?yc ?yk; (case ya => k_is); (case yi => k_is); (case yl => k_is); (case yc => k_is); (case yk => k_is))
    (case A37 => refine' L3.acm_mk ?ya ?yi ?yl ?yc ?yk; (case ya => k_is); (case yi => k_is); (case yl => k_is); (case yc => k_is); (case yk => k_is))
    (case A38 => refine' L3.acm_mk ?ya ?yi ?yl ?yc ?yk; (case ya => k_is); (case yi => k_is); (case yl => k_is); (case yc => k_is); (case yk => k_is))
    (case A39 => refine' L3.acm_mk ?ya ?yi ?yl ?yc ?yk; (case ya => k_is); (case yi => k_is); (case yl => k_is); (case yc => k_is); (case yk => k_is))
    (case A40 => refine' L3.acm_mk ?ya ?yi ?yl ?yc ?yk; (case ya => k_is); (case yi => k_is); (case yl => k_is); (case yc => k_is); (case yk => k_is))
    (case A41 => refine' L3.ac_mk KX G ?ya ?yl ?yc ?yk; (case ya => k_is); (case yl => k_is); (case yc => k_is); (case yk => k_is))
    (case A42 => refine' L3.ac_mk KX G ?ya ?yl ?yc ?yk; (case ya => k_is); (case yl => k_is); (case yc => k_is); (case yk => k_is))
    (case A43 => refine' L3.ac_mk KX G ?ya ?yl ?yc ?yk; (case ya => k_is); (case yl => k_is); (case yc => k_is); (case yk => k_is))
    (case A44 => refine' L3.ac_mk KX G ?ya ?yl ?yc ?yk; (case ya => k_is); (case yl => k_is); (case yc => k_is); (case yk => k_is))
    (case A45 => refine' L3.ac_mk KX G ?ya ?yl ?yc ?yk; (case ya => k_is); (case yl => k_is); (case yc => k_is); (case yk => k_is))
    (case A46 => refine' L3.ac_mk KX G ?ya ?yl ?yc ?yk; (case ya => k_is); (case yl => k_is); (case yc => k_is); (case yk => k_is))
    (case A47 => refine' L3.ac_mk KX G ?ya ?yl ?yc ?yk; (case ya => k_is); (case yl => k_is); (case yc => k_is); (case yk => k_is))
    (case a48 => k_is)
    (case l48 => k_is)
    (case c48 => k_is)
    (case k48 => k_is)
    (case yg0 => k_is)
    (case yg1 => k_is)
    (case yg2 => k_is)
    (case yg3 => k_is)
    (case yg4 => k_is)
    (case yg5 => k_is)
    (case z0 => k_is)
    (case z1 => k_is)
    (case z2 => k_is)
    (case z3 => k_is)
    (case z4 => k_is)
    (case z5 => k_is)
    (case z6 => k_is)
    (case z7 => k_is)
    (case z8 => k_is)
    (case z9 => k_is)
    (case z10 => k_is)
    (case z11 => k_is)
    (case z12 => k_is)
    (case z13 => k_is)
    (case z14 => k_is)
    (case z15 => k_is)
    (case z16 => k_is)
    (case z17 => k_is)
    (case z18 => k_is)
